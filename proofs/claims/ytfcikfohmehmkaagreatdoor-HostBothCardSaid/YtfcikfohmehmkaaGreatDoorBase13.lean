/-
  Layer 13's code: what a line of a path needs. Condition: words of at most 100 bytes; the table holds what it was laid with.
  Layer 13's code, plain laws: what its functions tell of a line are the document's faults. No conditions.
  Layer 13's code: is a line there, is an address taken, is it outside. Condition: a tree of at most 200 lines; words of at most 100 bytes; the table holds what it was laid with.
  Layer 13's code: does a line not go with what others say. Condition: a tree of at most 200 lines; a path that is a statement, as are its beginnings; the table holds what it was laid with.
  Layer 13's code: the faults of a line whose path is a statement. Condition: a tree of at most 200 lines; the table holds what it was laid with.
  Layer 13's code: Check; what schema does (SchemaOk). Condition: as SchemaOk's.
-/
import Derived.Test.YtfcikfohmehmkaaGreatDoorBase12
import Derived.Deep.RegionHeld3

namespace Go.Proofs.YtfcikfohmehmkaaGreatDoor
namespace C
open T (Pth)
/-- The place of a row's last blank. -/
def cutR (r : Rw) : Nat := (lastI 32 r.1).toNat
def needOf (p : Pth) (r : Rw) : List Wd := if (r.2.2.2 && meetsB p (r.1.take (cutR r))) = true then [r.1.drop (cutR r + 1)] else []
def needTo (p : Pth) (k : Nat) : List Wd := (rowsL.take k).flatMap (needOf p)
theorem cut_rows : ∀ r ∈ rowsL, r.2.2.2 = true → 0 ≤ lastI 32 r.1 ∧ lastI 32 r.1 + 1 ≤ (r.1.length : Int) := by decide +kernel
theorem need_next (p : Pth) {k : Nat} {r : Rw} (hr : rowsL[k]? = some r) : needTo p (k + 1) = needTo p k ++ needOf p r := by
  unfold needTo
  obtain ⟨h5, h6⟩ := List.getElem?_eq_some_iff.1 hr
  rw [List.take_succ_eq_append_getElem h5, h6, List.flatMap_append]
  simp
theorem need_few (p : Pth) : ∀ k, (needTo p k).length ≤ k
  | 0 => by simp [needTo]
  | k + 1 => by
    by_cases h : k < rowsL.length
    · rw [need_next p (List.getElem?_eq_getElem h), List.length_append]
      have h1 := need_few p k
      have h2 : (needOf p rowsL[k]).length ≤ 1 := by unfold needOf; split <;> simp
      omega
    · have e : needTo p (k + 1) = needTo p k := by unfold needTo; rw [List.take_of_length_le (by omega), List.take_of_length_le (by omega)]
      rw [e]; exact Nat.le_succ_of_le (need_few p k)
/-- The rows that are needed, by their words. -/
def needS : List (List Wd × Wd) := [([wHosts, kName], wIp), ([wVnis, kVni], wSubnet), ([wBindings, kIp], wHost), ([wBindings, kIp], wMac), ([wBindings, kIp], wVni), ([wRoutes, kPrefix], wVia), ([wPolicy, kNum], wAction)]
theorem need_rows : (rowsL.filter fun r => r.2.2.2).map (fun r => (N.splitL 32 (r.1.take (cutR r)), r.1.drop (cutR r + 1))) = needS := by decide +kernel
theorem flat_filter {α β : Type} (f : α → Bool) (g : α → List β) : ∀ l : List α, (∀ x ∈ l, f x = false → g x = []) → l.flatMap g = (l.filter f).flatMap g
  | [], _ => rfl
  | x :: l, h => by
    rw [List.flatMap_cons, flat_filter f g l (fun y hy => h y (List.mem_cons_of_mem _ hy)), List.filter_cons]
    cases hx : f x with
    | false => rw [h x List.mem_cons_self hx]; rfl
    | true => rw [if_pos rfl, List.flatMap_cons]
theorem flat_both {α β γ : Type} (f : α → β) (g : β → List γ) (h : α → List γ) (l : List α) (he : ∀ x ∈ l, h x = g (f x)) : l.flatMap h = (l.map f).flatMap g := by
  rw [List.flatMap_map]
  exact flat_same he
theorem need_words (p : Pth) : needTo p 17 = needS.flatMap fun x => if matchB p x.1 = true then [x.2] else [] := by
  unfold needTo
  rw [show rowsL.take 17 = rowsL from rfl, flat_filter (fun r : Rw => r.2.2.2) (needOf p) rowsL (fun r hr h => by unfold needOf; rw [h]; rfl), ← need_rows]
  refine flat_both _ _ _ _ fun r hr => ?_
  have h := (List.mem_filter.1 hr).2
  unfold needOf meetsB
  rw [show r.2.2.2 = true from h, Bool.true_and]
theorem mB22 (a b s1 s2 : Wd) : matchB [a, b] [s1, s2] = (standsB a s1 && standsB b s2) := by show (standsB a s1 && (standsB b s2 && true)) = _; rw [Bool.and_true]
theorem mB12 (a s1 s2 : Wd) : matchB [a] [s1, s2] = false := by show (standsB a s1 && false) = _; rw [Bool.and_false]
theorem mB32 (a b c : Wd) (r : Pth) (s1 s2 : Wd) : matchB (a :: b :: c :: r) [s1, s2] = false := by show (standsB a s1 && (standsB b s2 && false)) = _; rw [Bool.and_false, Bool.and_false]
theorem need_all (p : Pth) : needTo p 17 = needsL p := by
  rw [need_words]
  match p with
  | [] => rfl
  | [a] => simp only [needS, List.flatMap_cons, List.flatMap_nil, mB12]; rfl
  | a :: b :: c :: r => simp only [needS, List.flatMap_cons, List.flatMap_nil, mB32]; rfl
  | [a, b] =>
    simp only [needS, List.flatMap_cons, List.flatMap_nil, mB22]
    show _ = if secondW a ≠ [] ∧ knownP [a, b] = 0 then needsW a else []
    have hk : knownP [a, b] = if typeB (secondW a) b = true then 0 else 2 := rfl
    rw [hk]
    by_cases h1 : a = wHosts
    · subst h1
      rw [show secondW wHosts = kName from rfl]
      simp only [st_hosts, st_vnis, st_bindings, st_routes, st_policy, sk_name, show decide (wHosts = wVnis) = false from rfl, show decide (wHosts = wBindings) = false from rfl, show decide (wHosts = wRoutes) = false from rfl, show decide (wHosts = wPolicy) = false from rfl, Bool.false_and]
      cases typeB kName b <;> decide +kernel
    by_cases h2 : a = wVnis
    · subst h2
      rw [show secondW wVnis = kVni from rfl]
      simp only [st_hosts, st_vnis, st_bindings, st_routes, st_policy, sk_vni, show decide (wVnis = wHosts) = false from rfl, show decide (wVnis = wBindings) = false from rfl, show decide (wVnis = wRoutes) = false from rfl, show decide (wVnis = wPolicy) = false from rfl, Bool.false_and]
      cases typeB kVni b <;> decide +kernel
    by_cases h3 : a = wBindings
    · subst h3
      rw [show secondW wBindings = kIp from rfl]
      simp only [st_hosts, st_vnis, st_bindings, st_routes, st_policy, sk_ip, show decide (wBindings = wHosts) = false from rfl, show decide (wBindings = wVnis) = false from rfl, show decide (wBindings = wRoutes) = false from rfl, show decide (wBindings = wPolicy) = false from rfl, Bool.false_and]
      cases typeB kIp b <;> decide +kernel
    by_cases h4 : a = wRoutes
    · subst h4
      rw [show secondW wRoutes = kPrefix from rfl]
      simp only [st_hosts, st_vnis, st_bindings, st_routes, st_policy, sk_prefix, show decide (wRoutes = wHosts) = false from rfl, show decide (wRoutes = wVnis) = false from rfl, show decide (wRoutes = wBindings) = false from rfl, show decide (wRoutes = wPolicy) = false from rfl, Bool.false_and]
      cases typeB kPrefix b <;> decide +kernel
    by_cases h5 : a = wPolicy
    · subst h5
      rw [show secondW wPolicy = kNum from rfl]
      simp only [st_hosts, st_vnis, st_bindings, st_routes, st_policy, sk_num, show decide (wPolicy = wHosts) = false from rfl, show decide (wPolicy = wVnis) = false from rfl, show decide (wPolicy = wBindings) = false from rfl, show decide (wPolicy = wRoutes) = false from rfl, Bool.false_and]
      cases typeB kNum b <;> decide +kernel
    have e0 : secondW a = [] := by unfold secondW; rw [if_neg h1, if_neg h2, if_neg h3, if_neg h4, if_neg h5]
    simp only [e0, ne_eq, not_true_eq_false, false_and, st_hosts, st_vnis, st_bindings, st_routes, st_policy, decide_eq_false h1, decide_eq_false h2, decide_eq_false h3, decide_eq_false h4, decide_eq_false h5, Bool.false_and]
    rfl
end C
open Go.RowKit
open F
open T (Pth)
set_option linter.unusedVariables false

theorem lastQ (x : List UInt8) (z : Int) (w : World) (hs : x.length ≤ 100) (hz : C.lastI 32 x = z) : Calls Tryz.prog 127 #[.string (sB x), .string ⟨#[32]⟩] w (fun e w' => e = .returned (.int .i64 z) ∧ w = w') := lastIndex_any (sB x) 32 z w (by rw [sB_size]; omega) (by rw [sB_data]; exact hz)
theorem meetsQ (A : Option Addr) (c n : Nat) (p : Pth) (q : ByteArray) (s : List UInt8) (r : Bool) (w : World) (hq : q = sB s) (hn : p.length = n) (hA : Seen eS w A p) (hsw : ShortW p) (hl : n ≤ 1073741824) (hs : s.length ≤ 100) (hr : C.meetsB p s = r) :
    Calls Tryz.prog 120 #[.slice A n c, .string q] w (BoolS w r) := by subst hq; exact meetsC A c n p s r w hn hA hsw hl hs hr
theorem cut_head13 (s : List UInt8) (z : Nat) : (sB s).extract 0 z = sB (s.take z) := by
  rw [(cut_extract (sB s) z).1, sB_data]
theorem cut_tail13 (s : List UInt8) (z : Nat) : (sB s).extract (z + 1) (sB s).size = sB (s.drop (z + 1)) := by
  rw [(cut_extract (sB s) z).2, sB_data]
set_option maxRecDepth 100000 in
set_option maxHeartbeats 8000000 in
theorem needsC (A : Option Addr) (c n : Nat) (p : Pth) (w : World) (hn : p.length = n) (hA : Seen eS w A p) (hsw : ShortW p) (hl : n ≤ 1073741824) (HT : RowsOk w) :
    Calls Tryz.prog 90 #[.slice A n c] w (fun e w' => ∃ v, e = .returned v ∧ Own eS w' w.heap.size v (needsL p) ∧ Below w.heap.size w w') := by
  have HN := Lib.hid hn
  have HA := Lib.hid hA
  have HSW := Lib.hid hsw
  obtain ⟨tt, fr, hg1⟩ := rows_heap HT
  obtain ⟨cs, hcs⟩ : ∃ cs, rowsC = cs := ⟨_, rfl⟩
  have hin := rows_info
  rw [hcs] at hg1 hin
  have HCS := Lib.hid hcs
  clear hn hA hsw hcs HT
  go_enter Tryz.func90, Tryz.ntmps90
  go_wp2_with (refine wpList_load_row rfl 161 _ rfl 1 rfl tt _ fr _ hg1 Tryz.underlying161 rfl hin ?_)
  go_loopg [3, 8] 17 (fun gk vo vi wr => ∃ k : Nat, Hid (k + gk = 17) ∧ k ≤ 17 ∧ vi = .int .i64 (k : Int) ∧ Hid (Own eS wr w.heap.size vo (C.needTo p k)) ∧ Below w.heap.size w wr)
  case atStart => exact ⟨0, Nat.zero_add _, Nat.zero_le _, rfl, Own.nil _ _, Below.refl _ _⟩
  case round =>
    obtain ⟨k, HG, hk, rfl, HO, hb⟩ := hrel
    have hgk := HG.out
    by_cases hlt : k < 17
    · have blt : decide ((k : Int) < 17) = true := decide_eq_true (by omega)
      have blt2 : decide (k < 17) = true := decide_eq_true hlt
      obtain ⟨⟨s1, s2, d1, d2⟩, hrk⟩ : ∃ r, rowsL[k]? = some r := ⟨_, List.getElem?_eq_getElem (by rw [C.rows_len]; exact hlt)⟩
      have HRK := Lib.hid hrk
      have HSH := Lib.hid (C.rows_short _ (List.mem_of_getElem? hrk))
      obtain ⟨z, hz⟩ : ∃ z, C.lastI 32 s1 = z := ⟨_, rfl⟩
      have HZ := Lib.hid hz
      have HNX := Lib.hid (C.need_next p hrk)
      have hbr := bthen hb (up wr (.cells #[.string (sB s1), .string (sB s2), .bool d1, .bool d2] 126))
      have HO1 := Lib.hid (HO.out.keep (up wr (.cells #[.string (sB s1), .string (sB s2), .bool d1, .bool d2] 126)))
      have HCR := Lib.hid (show d2 = true → 0 ≤ z ∧ z + 1 ≤ (s1.length : Int) by intro h; rw [← hz]; exact C.cut_rows _ (List.mem_of_getElem? hrk) h)
      clear hrk hz
      cases d2 with
      | false =>
        have HE := Lib.hid (show C.needTo p (k + 1) = C.needTo p k by rw [HNX.out]; show _ ++ (if (false && _) = true then _ else []) = _; rw [Bool.false_and, if_neg (by decide), List.append_nil])
        go_wp2_with (refine wpList_index_row rfl _ _ rfl cs HCS.out k HRK.out rfl rfl ?_)
        refine (lastQ s1 z _ HSH.out.1 HZ.out).mono ?_
        rintro e w2 ⟨rfl, rfl⟩
        go_wp2
        go_roundg (17 - (k + 1))
        case rel => exact ⟨k + 1, (by show _ = _; omega), by omega, by go_num, (by rw [HE.out]; exact HO1.out), hbr⟩
        case measure => omega
      | true =>
        obtain ⟨h0, h1⟩ := HCR.out rfl
        obtain ⟨y, rfl⟩ := Int.eq_ofNat_of_zero_le h0
        have hys : y + 1 ≤ s1.length := by omega
        have hsz : (sB s1).size = s1.length := sB_size s1
        obtain ⟨ln, hln⟩ : ∃ ln, s1.length = ln := ⟨_, rfl⟩
        have hl100 : ln ≤ 100 := by rw [← hln]; exact HSH.out.1
        rw [hln] at hys hsz
        have i1 : (0 : Int) ≤ (y : Int) := by omega
        have i2 : (y : Int) ≤ (ln : Int) := by omega
        have i3 : (y : Int) + 1 ≤ (ln : Int) := by omega
        have i4 : (0 : Int) ≤ (y : Int) + 1 := by omega
        have i5 : IntKind.i64.wrap ((y : Int) + 1) = (y : Int) + 1 := by rw [IntKind.wrap_i64]; omega
        obtain ⟨mb, hmb⟩ : ∃ mb, C.meetsB p (s1.take y) = mb := ⟨_, rfl⟩
        have HMB := Lib.hid hmb
        have HCT := Lib.hid (show C.cutR (s1, s2, d1, true) = y by unfold C.cutR; rw [HZ.out]; rfl)
        have HE := Lib.hid (show C.needTo p (k + 1) = C.needTo p k ++ if mb = true then [s1.drop (y + 1)] else [] by
          rw [HNX.out]
          show _ ++ (if (true && C.meetsB p (s1.take (C.cutR (s1, s2, d1, true)))) = true then [s1.drop (C.cutR (s1, s2, d1, true) + 1)] else []) = _
          rw [HCT.out, hmb, Bool.true_and])
        have HTL := Lib.hid (show (s1.take y).length ≤ 100 by rw [List.length_take]; omega)
        clear hmb h0 h1 hln
        go_wp2_with (refine wpList_index_row rfl _ _ rfl cs HCS.out k HRK.out rfl rfl ?_)
        refine (lastQ s1 (y : Int) _ HSH.out.1 HZ.out).mono ?_
        rintro e w2 ⟨rfl, rfl⟩
        go_wp2_with fail
        refine (meetsQ A c n p _ (s1.take y) mb _ (cut_head13 s1 y) HN.out (HA.out.below hbr) HSW.out hl HTL.out HMB.out).mono ?_
        rintro e w2 ⟨rfl, hx⟩
        have HO2 := Lib.hid (HO1.out.keep hx)
        have HRB := Lib.hid ((RowB.new wr s1 s2 d1 true).keep hx (RowB.new wr s1 s2 d1 true).lt)
        have hb2 := bthen hbr hx
        clear hx hbr
        cases mb with
        | false =>
          have HE2 := Lib.hid (show C.needTo p (k + 1) = C.needTo p k by rw [HE.out, if_neg (by decide), List.append_nil])
          go_wp2
          go_roundg (17 - (k + 1))
          case rel => exact ⟨k + 1, (by show _ = _; omega), by omega, by go_num, (by rw [HE2.out]; exact HO2.out), hb2⟩
          case measure => omega
        | true =>
          have HE2 := Lib.hid (show C.needTo p (k + 1) = C.needTo p k ++ [s1.drop (y + 1)] by rw [HE.out, if_pos rfl])
          have HLN := Lib.hid (show (C.needTo p k).length + 1 ≤ 1099511627776 by have := C.need_few p k; omega)
          obtain ⟨c0, c1, c2, c3⟩ := HRB.out.cells
          have HCUT := Lib.hid (cut_tail13 s1 y)
          have HCUT2 := Lib.hid (show (sB s1).extract (y + 1) ln = sB (s1.drop (y + 1)) by rw [← hsz]; exact HCUT.out)
          have hsz2 := hb2.size
          go_wp2_with (at_builtin; refine wpList_appG eS w2 rfl (.tmp 24) (.tmp 30) rfl w.heap.size u3 (C.needTo p k) rfl HO2.out (s1.drop (y + 1)) 1 _ (by first | (rw [HCUT2.out]; rfl) | (rw [HCUT.out]; rfl)) w2.heap.size rfl rfl HLN.out hsz2 ?_; intro v3 w3 hown3 hb3)
          go_roundg (17 - (k + 1))
          case rel => exact ⟨k + 1, (by show _ = _; omega), by omega, by go_num, (by rw [HE2.out]; exact hown3), hb2.trans hb3⟩
          case measure => omega
    · have blt : decide ((k : Int) < 17) = false := decide_eq_false (by omega)
      have blt2 : decide (k < 17) = false := decide_eq_false hlt
      obtain rfl : k = 17 := by omega
      have HE := Lib.hid (C.need_all p)
      go_wp2
      go_ret
      exact ⟨_, rfl, (by rw [← HE.out]; exact HO.out), hb⟩
end Go.Proofs.YtfcikfohmehmkaaGreatDoor

namespace Go.Proofs.YtfcikfohmehmkaaGreatDoor.C
set_option linter.unusedVariables false
open T (Pth pless RightN RightT pathL kidsL underL wd Ln isIn)

theorem live_at {p : Pth} (h : liveP p = true) {k : Nat} (h0 : 0 < k) (hk : k < p.length) : knownP (p.take k) = 0 := by
  unfold liveP at h
  have := List.all_eq_true.1 h k (List.mem_range.2 hk)
  rcases Bool.or_eq_true_iff.1 this with e | e
  · have := of_decide_eq_true e; omega
  · exact of_decide_eq_true e
theorem known_two {a b : Wd} (h : knownP [a, b] = 0) : typeB (secondW a) b = true := by
  have e : knownP [a, b] = if typeB (secondW a) b = true then 0 else 2 := rfl
  rw [e] at h
  by_cases hb : typeB (secondW a) b = true
  · exact hb
  · rw [if_neg hb] at h; cases h
theorem second_ne {a b : Wd} (h : typeB (secondW a) b = true) : secondW a ≠ [] := fun e => by rw [e, type_none] at h; cases h
theorem known_three {a b c : Wd} (h : knownP [a, b, c] = 0) : (thirdK (key a c)).1 ≠ [] := by
  have e : knownP [a, b, c] = if (thirdK (key a c)).1 = [] then 3 else 0 := rfl
  rw [e] at h
  intro hh
  rw [if_pos hh] at h; cases h
theorem known_four {a b c d : Wd} (h : knownP [a, b, c, d] = 0) : typeB (thirdK (key a c)).1 d = true := by
  have e : knownP [a, b, c, d] = if typeB (thirdK (key a c)).1 d = true then 0 else 2 := rfl
  rw [e] at h
  by_cases hb : typeB (thirdK (key a c)).1 d = true
  · exact hb
  · rw [if_neg hb] at h; cases h
theorem row_yes {a b c : Wd} (h1 : typeB (secondW a) b = true) (h2 : (thirdK (key a c)).1 ≠ []) : firstR [a, b, c] = some (said3 a c, thirdK (key a c)) := by
  rw [first_three]; unfold row3; rw [if_pos h1, if_neg h2]
def unsaidV (x : Wd) : Option Rw → Option Rw → Int
  | some _, _ => 0
  | none, none => 3
  | none, some r => if typeB r.2.1 x = true then 0 else 2
def secondV (x : Wd) : Option Rw → Wd
  | some r => if typeB r.2.1 x = true then r.1 else []
  | none => []
theorem unsaid_is {p : Pth} {o1 o2 : Option Rw} {x : Wd} (h1 : firstR p = o1) (h2 : firstR p.dropLast = o2) (hx : p.getLastD [] = x) : unsaidB p = unsaidV x o1 o2 := by
  unfold unsaidB
  rw [h1, h2, hx]
  cases o1 <;> cases o2 <;> rfl
theorem second_is {p : Pth} {o : Option Rw} {x : Wd} (h : firstR p.dropLast = o) (hx : p.getLastD [] = x) : secondB p = secondV x o := by
  unfold secondB
  rw [h, hx]
  cases o <;> rfl
theorem unsaid_known {p : Pth} (hp : p ≠ []) (h : liveP p = true) : unsaidB p = knownP p := by
  match p, hp with
  | [a], _ =>
    rw [unsaid_is (first_one a) (show firstR ([a] : Pth).dropLast = none from first_nil) rfl]
    by_cases hs : secondW a = []
    · rw [if_pos hs, show knownP [a] = if secondW a = [] then 3 else 0 from rfl, if_pos hs]; rfl
    · rw [if_neg hs, show knownP [a] = if secondW a = [] then 3 else 0 from rfl, if_neg hs]; rfl
  | [a, b], _ =>
    have h1 : knownP [a] = 0 := live_at (k := 1) h (by omega) (by simp)
    have hs : secondW a ≠ [] := by
      intro e
      rw [show knownP [a] = if secondW a = [] then 3 else 0 from rfl, if_pos e] at h1; cases h1
    rw [unsaid_is (first_two a b) (show firstR ([a, b] : Pth).dropLast = _ from first_one a) (x := b) rfl, if_neg hs]
    rfl
  | [a, b, c], _ =>
    have h2 : knownP [a, b] = 0 := live_at (k := 2) h (by omega) (by simp)
    have hb := known_two h2
    rw [unsaid_is (first_three a b c) (show firstR ([a, b, c] : Pth).dropLast = none from first_two a b) rfl]
    unfold row3
    rw [if_pos hb]
    by_cases hs : (thirdK (key a c)).1 = []
    · rw [if_pos hs, show knownP [a, b, c] = if (thirdK (key a c)).1 = [] then 3 else 0 from rfl, if_pos hs]; rfl
    · rw [if_neg hs, show knownP [a, b, c] = if (thirdK (key a c)).1 = [] then 3 else 0 from rfl, if_neg hs]; rfl
  | [a, b, c, d], _ =>
    have h2 : knownP [a, b] = 0 := live_at (k := 2) h (by omega) (by simp)
    have h3 : knownP [a, b, c] = 0 := live_at (k := 3) h (by omega) (by simp)
    rw [unsaid_is (first_many a b c d []) (show firstR ([a, b, c, d] : Pth).dropLast = _ from row_yes (known_two h2) (known_three h3)) (x := d) rfl]
    rfl
  | a :: b :: c :: d :: e :: r, _ =>
    rw [unsaid_is (first_many a b c d (e :: r)) (show firstR (a :: b :: c :: d :: e :: r : Pth).dropLast = none from first_many a b c d ((e :: r).dropLast)) rfl]
    rfl
theorem blank_inj {a b x y : Wd} (ha : (32 : UInt8) ∉ a) (hb : (32 : UInt8) ∉ b) (h : a ++ 32 :: x = b ++ 32 :: y) : a = b ∧ x = y := by
  have h1 := N.split_at ha x
  rw [h, N.split_at hb y] at h1
  injection h1 with h1 _
  subst h1
  have := List.append_cancel_left h
  injection this with _ h2
  exact ⟨rfl, h2⟩
theorem second_blank {a : Wd} (h : secondW a ≠ []) : (32 : UInt8) ∉ a := by
  by_cases h1 : a = wHosts
  · subst h1; decide
  by_cases h2 : a = wVnis
  · subst h2; decide
  by_cases h3 : a = wBindings
  · subst h3; decide
  by_cases h4 : a = wRoutes
  · subst h4; decide
  by_cases h5 : a = wPolicy
  · subst h5; decide
  · exact absurd (by unfold secondW; rw [if_neg h1, if_neg h2, if_neg h3, if_neg h4, if_neg h5]) h
theorem said_iff {a c A C : Wd} (ha : (32 : UInt8) ∉ a) (hA : (32 : UInt8) ∉ A) : said3 a c = said3 A C ↔ a = A ∧ c = C := by
  constructor
  · intro h
    unfold said3 at h
    obtain ⟨rfl, h2⟩ := blank_inj ha hA h
    have := List.append_cancel_left h2
    injection this with _ h3
    exact ⟨rfl, h3⟩
  · rintro ⟨rfl, rfl⟩; rfl
theorem key_iff {a c A C : Wd} (ha : (32 : UInt8) ∉ a) (hA : (32 : UInt8) ∉ A) : key a c = key A C ↔ a = A ∧ c = C := by
  constructor
  · intro h; exact blank_inj ha hA h
  · rintro ⟨rfl, rfl⟩; rfl
/-- Does a line not go with what others say? -/
def clashB (P : List Pth) (p : Pth) : Bool :=
  if secondB p = said3 wHosts wIp then twiceP P p (p.getLastD [])
  else if secondB p = said3 wBindings wHost ∨ secondB p = said3 wRoutes wVia then !decide ([wHosts, p.getLastD []] ∈ P)
  else if secondB p = said3 wHosts wVnis then !decide ([wVnis, p.getLastD []] ∈ P)
  else if secondB p = said3 wBindings wVni then (!decide ([wVnis, p.getLastD []] ∈ P)) || outP P (p.getD 1 []) (p.getLastD []) else false
theorem clash_off {P : List Pth} {p : Pth} (h : secondW (secondB p) ≠ [] ∨ secondB p = []) : clashB P p = false := by
  have q : ∀ z : Wd, secondW z = [] → z ≠ [] → secondB p ≠ z := by
    intro z hz hn e
    rcases h with h | h
    · exact h (by rw [e]; exact hz)
    · exact hn (e.symm.trans h)
  unfold clashB
  rw [if_neg (q _ (by decide +kernel) (by decide +kernel)), if_neg (by rintro (e | e); exact q _ (by decide +kernel) (by decide +kernel) e; exact q _ (by decide +kernel) (by decide +kernel) e), if_neg (q _ (by decide +kernel) (by decide +kernel)), if_neg (q _ (by decide +kernel) (by decide +kernel))]
theorem second_one (a : Wd) : secondB [a] = [] := second_is (show firstR ([a] : Pth).dropLast = none from first_nil) rfl
theorem second_two (a b : Wd) : secondB [a, b] = if typeB (secondW a) b = true then a else [] := by
  rw [second_is (show firstR ([a, b] : Pth).dropLast = _ from first_one a) (x := b) rfl]
  by_cases hs : secondW a = []
  · rw [if_pos hs, hs, type_none, if_neg (by decide)]; rfl
  · rw [if_neg hs]; rfl
theorem second_three (a b c : Wd) : secondB [a, b, c] = [] := second_is (show firstR ([a, b, c] : Pth).dropLast = none from first_two a b) rfl
theorem second_four (a b c d : Wd) : secondB [a, b, c, d] = if typeB (secondW a) b = true then (if (thirdK (key a c)).1 = [] then [] else if typeB (thirdK (key a c)).1 d = true then said3 a c else []) else [] := by
  rw [second_is (show firstR ([a, b, c, d] : Pth).dropLast = _ from first_three a b c) (x := d) rfl]
  unfold row3
  by_cases hb : typeB (secondW a) b = true
  · rw [if_pos hb, if_pos hb]
    by_cases hs : (thirdK (key a c)).1 = []
    · rw [if_pos hs, if_pos hs]; rfl
    · rw [if_neg hs, if_neg hs]; rfl
  · rw [if_neg hb, if_neg hb]; rfl
theorem second_five (a b c d e : Wd) (r : Pth) : secondB (a :: b :: c :: d :: e :: r) = [] := second_is (show firstR (a :: b :: c :: d :: e :: r : Pth).dropLast = none from first_many a b c d ((e :: r).dropLast)) rfl
theorem clash_four (P : List Pth) {a b c d : Wd} (h1 : typeB (secondW a) b = true) (h2 : (thirdK (key a c)).1 ≠ []) (h3 : typeB (thirdK (key a c)).1 d = true) : clashB P [a, b, c, d] = meantP P [a, b, c, d] := by
  have ha := second_blank (second_ne h1)
  have e : secondB [a, b, c, d] = said3 a c := by rw [second_four, if_pos h1, if_neg h2, if_pos h3]
  unfold clashB
  rw [e]
  simp only [said_iff ha (show (32 : UInt8) ∉ wHosts by decide), said_iff ha (show (32 : UInt8) ∉ wBindings by decide), said_iff ha (show (32 : UInt8) ∉ wRoutes by decide)]
  show _ = if key a c = key wHosts wIp then twiceP P [a, b, c, d] d else if key a c = key wBindings wHost ∨ key a c = key wRoutes wVia then !decide ([wHosts, d] ∈ P) else if key a c = key wHosts wVnis then !decide ([wVnis, d] ∈ P) else if key a c = key wBindings wVni then (!decide ([wVnis, d] ∈ P)) || outP P b d else false
  simp only [key_iff ha (show (32 : UInt8) ∉ wHosts by decide), key_iff ha (show (32 : UInt8) ∉ wBindings by decide), key_iff ha (show (32 : UInt8) ∉ wRoutes by decide)]
  rfl
theorem held_none {p : Pth} (h : firstR p = none) (k : Nat) : heldB p k = 0 := by unfold heldB; rw [h]
/-- A line's faults, as the code tells them. -/
theorem faults_code (P : List Pth) {p : Pth} (hp : p ≠ []) (hl : liveP p = true) (hk : knownP p = 0) :
    faultsP P p = (if heldB p (kidsP P p).length ≠ 0 then [(p, heldB p (kidsP P p).length)] else []) ++ (((needsL p).filter fun w => !decide (p ++ [w] ∈ P)).map fun w => (p ++ [w], 1)) ++ (if clashB P p = true then [(p, 7)] else []) := by
  have hf : ∀ q, faultsP P q = if knownP q ≠ 0 then [(q, knownP q)] else match q with
    | [a, b] => ((needsW a).filter fun w => !hasP P [a, b] w).map fun w => ([a, b] ++ [w], 1)
    | [a, b, c] => if (thirdK (key a c)).2.1 = true then (if (kidsP P [a, b, c]).length = 0 then [([a, b, c], 1)] else if 1 < (kidsP P [a, b, c]).length then [([a, b, c], 4)] else []) else []
    | [a, b, c, d] => if meantP P [a, b, c, d] = true then [([a, b, c, d], 7)] else []
    | _ => [] := fun q => rfl
  match p, hp with
  | [a], _ =>
    rw [hf, if_neg (fun h => h hk), clash_off (.inr (second_one a))]
    have e : heldB [a] (kidsP P [a]).length = 0 := by
      unfold heldB
      rw [first_one]
      by_cases hs : secondW a = []
      · rw [if_pos hs]
      · rw [if_neg hs]; rfl
    rw [e]; rfl
  | [a, b], _ =>
    have hb := known_two hk
    have hs := second_ne hb
    have e2 : secondB [a, b] = a := by rw [second_two, if_pos hb]
    rw [hf, if_neg (fun h => h hk), clash_off (.inl (by rw [e2]; exact hs)), held_none (first_two a b)]
    show _ = [] ++ _ ++ []
    rw [List.nil_append, List.append_nil]
    have e3 : needsL [a, b] = needsW a := by show (if secondW a ≠ [] ∧ knownP [a, b] = 0 then needsW a else []) = _; rw [if_pos ⟨hs, hk⟩]
    rw [e3]
    have ef : (fun w => !hasP P [a, b] w) = (fun w => !decide ([a, b] ++ [w] ∈ P)) := by
      funext w
      congr 1
      unfold hasP kidsP
      rw [Bool.eq_iff_iff, decide_eq_true_eq, decide_eq_true_eq, List.mem_filter]
      constructor
      · exact fun h => h.1
      · intro h
        refine ⟨h, ?_⟩
        unfold isKid
        exact decide_eq_true ⟨by simp, by simp⟩
    show List.map (fun w => ([a, b] ++ [w], (1 : Int))) (List.filter (fun w => !hasP P [a, b] w) (needsW a)) = _
    rw [ef]
  | [a, b, c], _ =>
    have h2 : knownP [a, b] = 0 := live_at (k := 2) hl (by omega) (by simp)
    have hb := known_two h2
    have hc := known_three hk
    rw [hf, if_neg (fun h => h hk), clash_off (.inr (second_three a b c))]
    show _ = _ ++ [] ++ []
    rw [List.append_nil, List.append_nil]
    have e : ∀ k, heldB [a, b, c] k = if (thirdK (key a c)).2.1 = true then (if k = 0 then 1 else if k = 1 then 0 else 4) else 0 := by
      intro k; unfold heldB; rw [row_yes hb hc]
    rw [e]
    show (if (thirdK (key a c)).2.1 = true then (if (kidsP P [a, b, c]).length = 0 then [([a, b, c], (1 : Int))] else if 1 < (kidsP P [a, b, c]).length then [([a, b, c], 4)] else []) else []) = _
    generalize (kidsP P [a, b, c]).length = k
    by_cases h1 : (thirdK (key a c)).2.1 = true
    · rw [if_pos h1, if_pos h1]
      by_cases g0 : k = 0
      · rw [if_pos g0, if_pos g0]; rfl
      · rw [if_neg g0, if_neg g0]
        by_cases g1 : k = 1
        · rw [if_pos g1, if_neg (by omega)]; rfl
        · rw [if_neg g1, if_pos (by omega)]; rfl
    · rw [if_neg h1, if_neg h1]; rfl
  | [a, b, c, d], _ =>
    have h2 : knownP [a, b] = 0 := live_at (k := 2) hl (by omega) (by simp)
    have h3 : knownP [a, b, c] = 0 := live_at (k := 3) hl (by omega) (by simp)
    rw [hf, if_neg (fun h => h hk), clash_four P (known_two h2) (known_three h3) (known_four hk), held_none (first_many a b c d [])]
    rfl
  | a :: b :: c :: d :: e :: r, _ => exact absurd (show (3 : Int) = 0 from hk) (by decide)
/-- Which paths are hosts $name ip $ip. -/
theorem second_host (q : Pth) : secondB q = said3 wHosts wIp ↔ ∃ b e, q = [wHosts, b, wIp, e] ∧ nameB b = true ∧ typeB kIp e = true := by
  have hne : said3 wHosts wIp ≠ [] := by decide +kernel
  have hs0 : secondW (said3 wHosts wIp) = [] := by decide +kernel
  constructor
  · intro h
    match q with
    | [] => exact absurd (show secondB [] = [] from by unfold secondB; rw [show ([] : Pth).dropLast = [] from rfl, first_nil]) (fun e => hne (h.symm.trans e))
    | [a] => rw [second_one] at h; exact absurd h.symm hne
    | [a, b] =>
      rw [second_two] at h
      by_cases hb : typeB (secondW a) b = true
      · rw [if_pos hb] at h; subst h; exact absurd hs0 (second_ne hb)
      · rw [if_neg hb] at h; exact absurd h.symm hne
    | [a, b, c] => rw [second_three] at h; exact absurd h.symm hne
    | [a, b, c, d] =>
      rw [second_four] at h
      by_cases hb : typeB (secondW a) b = true
      · rw [if_pos hb] at h
        by_cases hs : (thirdK (key a c)).1 = []
        · rw [if_pos hs] at h; exact absurd h.symm hne
        · rw [if_neg hs] at h
          by_cases hd : typeB (thirdK (key a c)).1 d = true
          · rw [if_pos hd] at h
            obtain ⟨rfl, rfl⟩ := (said_iff (second_blank (second_ne hb)) (show (32 : UInt8) ∉ wHosts by decide)).1 h
            exact ⟨b, d, rfl, hb, hd⟩
          · rw [if_neg hd] at h; exact absurd h.symm hne
      · rw [if_neg hb] at h; exact absurd h.symm hne
    | a :: b :: c :: d :: e :: r => rw [second_five] at h; exact absurd h.symm hne
  · rintro ⟨b, e, rfl, hb, he⟩
    rw [second_four, if_pos (show typeB (secondW wHosts) b = true from hb), if_neg (by decide +kernel), if_pos (show typeB (thirdK (key wHosts wIp)).1 e = true from he)]
/-- Does an earlier line give an address? -/
theorem taken_at {t : List Ln} {j : Nat} {d : Wd} (hd : typeB kIp d = true) : sameAd d (pathL t j) = (decide (wd t j = d) && decide (secondB (pathL t j) = said3 wHosts wIp)) := by
  have hlast : (pathL t j).getLastD [] = wd t j := by rw [T.path_under]; simp
  rw [Bool.eq_iff_iff, Bool.and_eq_true_iff, decide_eq_true_eq, decide_eq_true_eq, second_host]
  constructor
  · intro h
    match hq : pathL t j with
    | [a, b, c, e] =>
      rw [hq] at h hlast
      have h : (decide (a = wHosts) && nameB b && decide (c = wIp) && decide (e = d)) = true := h
      simp only [Bool.and_eq_true_iff, decide_eq_true_eq] at h
      obtain ⟨⟨⟨rfl, h2⟩, rfl⟩, rfl⟩ := h
      exact ⟨hlast.symm, b, e, rfl, h2, hd⟩
    | [] => rw [hq] at h; cases h
    | [_] => rw [hq] at h; cases h
    | [_, _] => rw [hq] at h; cases h
    | [_, _, _] => rw [hq] at h; cases h
    | _ :: _ :: _ :: _ :: _ :: _ => rw [hq] at h; cases h
  · rintro ⟨h1, b, e, hq, h2, h3⟩
    rw [hq] at hlast ⊢
    have he : e = d := by rw [← h1]; exact hlast
    subst he
    show (decide (wHosts = wHosts) && nameB b && decide (wIp = wIp) && decide (e = e)) = true
    rw [h2]; simp
end Go.Proofs.YtfcikfohmehmkaaGreatDoor.C

namespace Go.Proofs.YtfcikfohmehmkaaGreatDoor
open Go.RowKit
open F
open T (Pth)
set_option linter.unusedVariables false

theorem findC13 (A B : Option Addr) (c d n m : Nat) (t : List T.Ln) (p : Pth) (w : World) (hn : t.length = n) (hm : p.length = m) (hA : Seen eL w A t) (hB : Seen eS w B p) (hl : n ≤ 1073741824) (hl2 : m ≤ 1073741824) (hR : T.RightT t) :
    Calls Tryz.prog 75 #[.slice A n c, .slice B m d] w (FindS w t p) := by subst hn; subst hm; exact find_any A B c d t p w hA hB hl hl2 hR
theorem pathC13 (A : Option Addr) (c n m i : Nat) (t : List T.Ln) (p : Pth) (w : World) (hn : t.length = n) (hm : p.length = m) (hA : Seen eL w A t) (hl : n ≤ 1073741824) (hi : i < n) (hR : T.RightT t) (h : T.pathL t i = p) :
    Calls Tryz.prog 53 #[.slice A n c, .int .i64 (i : Int)] w (fun e w' => ∃ B d, e = .returned (.tuple #[.slice B m d, .int .i64 0]) ∧ PtK w' w.heap.size ⟨B, m, d⟩ p ∧ Below w.heap.size w w') := by
  subst hn; subst hm
  refine (Path_new A c t i w hA hl hi hR).mono ?_
  rintro e w' ⟨B, d, rfl, hd, hs, hf, hb⟩
  rw [h] at hd hs ⊢
  exact ⟨B, d, rfl, ⟨⟨rfl, hd, hs⟩, hf⟩, hb⟩
set_option maxRecDepth 100000 in
/-- Is there a line of a path? -/
theorem thereC (A B : Option Addr) (c d n m : Nat) (t : List T.Ln) (p : Pth) (r : Bool) (w : World) (hn : t.length = n) (hm : p.length = m) (hA : Seen eL w A t) (hB : Seen eS w B p) (hl : n ≤ 1073741824) (hl2 : m ≤ 1073741824) (hR : T.RightT t) (hr : decide (p ∈ C.pths t) = r) :
    Calls Tryz.prog 91 #[.slice A n c, .slice B m d] w (BoolS w r) := by
  have HA := Lib.hid hA
  have HB := Lib.hid hB
  have HN := Lib.hid hn
  have HM := Lib.hid hm
  have HR := Lib.hid hR
  have HV := Lib.hid hr
  clear hA hB hn hm hR hr
  go_enter Tryz.func91, Tryz.ntmps91
  go_wp2_with fail
  refine (findC13 A B c d n m t p _ HN.out HM.out HA.out HB.out hl hl2 HR.out).mono ?_
  rintro e w1 ⟨⟨i0, hi0, hp0, rfl⟩ | ⟨hno, rfl⟩, hb1⟩
  · have HE := Lib.hid (show r = true by rw [← HV.out]; exact decide_eq_true (C.mem_pths.2 ⟨i0, hi0, hp0⟩))
    clear hp0 hi0
    go_wp2
    go_ret
    exact ⟨by rw [HE.out]; rfl, hb1⟩
  · have HE := Lib.hid (show r = false by rw [← HV.out]; exact decide_eq_false (fun h => by obtain ⟨i, h1, h2⟩ := C.mem_pths.1 h; exact hno i h1 h2))
    clear hno
    go_wp2
    go_ret
    exact ⟨by rw [HE.out]; rfl, hb1⟩
set_option maxRecDepth 100000 in
set_option maxHeartbeats 4000000 in
/-- Has an earlier host a line's address? -/
theorem takenC (A : Option Addr) (c n i : Nat) (t : List T.Ln) (x : List UInt8) (r : Bool) (w : World) (hn : t.length = n) (hA : Seen eL w A t) (hl : n ≤ 200) (hR : T.RightT t) (hi : i < n) (hx : T.wd t i = x) (hx2 : C.typeB C.kIp x = true) (HT : RowsOk w) (hr : ((List.range i).any fun j => C.sameAd x (T.pathL t j)) = r) :
    Calls Tryz.prog 129 #[.slice A n c, .int .i64 (i : Int)] w (BoolS w r) := by
  have HA := Lib.hid hA
  have HN := Lib.hid hn
  have HRT := Lib.hid hR
  have HR := Lib.hid hr
  have HX := Lib.hid hx2
  have HW := Lib.hid hx
  have HT := Lib.hid HT
  obtain ⟨b, o, rfl, hbw, hL⟩ := hA.lines (by rw [hn]; omega)
  have HL := Lib.hid hL
  have hii : (i : Int) < (n : Int) := by omega
  clear hA hn hR hr hx hx2 hL
  go_enter Tryz.func129, Tryz.ntmps129
  go_wp2
  go_loopg [9] i (fun g vi wr => ∃ k : Nat, Hid (k + g = i) ∧ k ≤ i ∧ vi = .int .i64 (k : Int) ∧ Hid (((List.range k).any fun j => C.sameAd x (T.pathL t j)) = false) ∧ Below w.heap.size w wr)
  case atStart => exact ⟨0, Nat.zero_add _, Nat.zero_le _, rfl, rfl, Below.refl _ _⟩
  case round =>
    obtain ⟨k, HG, hk, rfl, HF, hb⟩ := hrel
    have hgk := HG.out
    by_cases hlt : k < i
    · have blt : decide ((k : Int) < (i : Int)) = true := decide_eq_true (by omega)
      have blt2 : decide (k < i) = true := decide_eq_true hlt
      have hkn : (k : Int) < (n : Int) := by omega
      have hkt : k < t.length := by rw [HN.out]; omega
      have hit : i < t.length := by rw [HN.out]; exact hi
      obtain ⟨_, ck, _⟩ := (HL.out.below hb hbw).line hkt
      obtain ⟨_, ci, _⟩ := (HL.out.below hb hbw).line hit
      rw [HW.out] at ci
      obtain ⟨y, hy⟩ : ∃ y, T.wd t k = y := ⟨_, rfl⟩
      rw [hy] at ck
      have HNX := Lib.hid (show ((List.range (k + 1)).any fun j => C.sameAd x (T.pathL t j)) = (decide (y = x) && decide (C.secondB (T.pathL t k) = C.said3 C.wHosts C.wIp)) by rw [C.any_next, HF.out, Bool.false_or, C.taken_at HX.out, hy])
      have HTR := Lib.hid (show C.sameAd x (T.pathL t k) = true → r = true by
        intro h
        rw [← HR.out, List.any_eq_true]
        exact ⟨k, List.mem_range.2 hlt, h⟩)
      have HSA := Lib.hid (show C.sameAd x (T.pathL t k) = (decide (y = x) && decide (C.secondB (T.pathL t k) = C.said3 C.wHosts C.wIp)) by rw [C.taken_at HX.out, hy])
      clear hkt hit hy
      by_cases he : y = x
      · have e1 : ((sB y).toList == (sB x).toList) = true := sB_eq he
        obtain ⟨p, hp⟩ : ∃ p, T.pathL t k = p := ⟨_, rfl⟩
        obtain ⟨m, hm⟩ : ∃ m, p.length = m := ⟨_, rfl⟩
        have hkt : k < t.length := by rw [HN.out]; omega
        have hm16 : m ≤ 16 := by
          have h1 := HRT.out.path_len k k (Nat.le_refl _) hkt
          have h2 := HRT.out.deep k hkt
          rw [hp, hm] at h1; omega
        have hm0 : 0 < m := by rw [← hm, ← hp]; exact List.length_pos_iff.2 T.path_ne
        have HP := Lib.hid hp
        have HM := Lib.hid hm
        have HSW := Lib.hid (show ShortW p by rw [← hp]; exact short_path HRT.out hkt)
        obtain ⟨s, hs⟩ : ∃ s, C.secondB p = s := ⟨_, rfl⟩
        have HS := Lib.hid hs
        have HED := Lib.hid (decide_eq_true he)
        clear hp hm he hs hkt
        go_wp2
        go_quiet (fail)
        go_wp2_with fail
        refine (pathC13 (some ⟨b, o, none⟩) c n m k t p _ HN.out HM.out (HA.out.below (below_drawn13 hb _)) (by omega) (by omega) HRT.out HP.out).mono ?_
        rintro e w2 ⟨B2, d2, rfl, hpt, hx⟩
        replace hb := bthen (below_drawn13 hb _) hx
        clear hx
        go_wp2_with fail
        refine (secondC B2 d2 m p s _ HM.out hpt.pt.cap hpt.pt.seen HSW.out hm0 (by omega) (HT.out.below hb) HS.out).mono ?_
        rintro e w3 ⟨rfl, hx⟩
        replace hb := bthen hb hx
        clear hx hpt
        by_cases hh : s = C.said3 C.wHosts C.wIp
        · have q0 : ((sB s).toList == [104, 111, 115, 116, 115, 32, 36, 110, 97, 109, 101, 32, 105, 112]) = true := by rw [sB_toList, beq_iff_eq]; exact hh
          have HE := Lib.hid (HTR.out (by rw [HSA.out, HED.out, HP.out, HS.out, decide_eq_true hh]; rfl))
          clear hh
          go_wp2
          go_ret
          exact ⟨by rw [HE.out]; rfl, hb⟩
        · have q0 : ((sB s).toList == [104, 111, 115, 116, 115, 32, 36, 110, 97, 109, 101, 32, 105, 112]) = false := by rw [sB_toList, beq_eq_false_iff_ne]; exact hh
          have HF2 := Lib.hid (show ((List.range (k + 1)).any fun j => C.sameAd x (T.pathL t j)) = false by rw [HNX.out, HP.out, HS.out, decide_eq_false hh, Bool.and_false])
          clear hh
          go_wp2
          go_roundg (i - (k + 1))
          case rel => exact ⟨k + 1, (by show _ = _; omega), by omega, by go_num, HF2.out, hb⟩
          case measure => omega
      · have e1 : ((sB y).toList == (sB x).toList) = false := sB_ne he
        have HF2 := Lib.hid (show ((List.range (k + 1)).any fun j => C.sameAd x (T.pathL t j)) = false by rw [HNX.out, decide_eq_false he, Bool.false_and])
        clear he
        go_wp2
        go_quiet (fail)
        go_wp2
        go_roundg (i - (k + 1))
        case rel => exact ⟨k + 1, (by show _ = _; omega), by omega, by go_num, HF2.out, below_drawn13 hb _⟩
        case measure => omega
    · have blt : decide ((k : Int) < (i : Int)) = false := decide_eq_false (by omega)
      have blt2 : decide (k < i) = false := decide_eq_false hlt
      obtain rfl : k = i := by omega
      have HE := Lib.hid (show r = false by rw [← HR.out]; exact HF.out)
      go_wp2
      go_ret
      exact ⟨by rw [HE.out]; rfl, hb⟩
theorem ip_i64 (l : List UInt8) : I64 (okA (N.ipL l)).1 := by
  unfold okA I64
  rcases N.ip_cases l with h | ⟨n, h, h2, _⟩
  · rw [h]; split <;> simp
  · rw [h, if_pos (by omega)]; constructor <;> simp <;> omega
theorem pref_i64 (l : List UInt8) : I64 (prefA l).1 ∧ I64 (prefA l).2.1 := by
  unfold prefA I64
  rcases N.pref_cases l with h | ⟨n, b, h, _, h2, h3, _⟩
  · rw [h]; split <;> simp
  · rw [h, if_pos (by simp)]
    refine ⟨⟨?_, ?_⟩, ⟨?_, ?_⟩⟩ <;> simp <;> omega
set_option maxRecDepth 100000 in
set_option maxHeartbeats 4000000 in
/-- Is an address not in a network's subnet? -/
theorem outsideC (A : Option Addr) (c n : Nat) (t : List T.Ln) (x y : List UInt8) (r : Bool) (w : World) (hn : t.length = n) (hA : Seen eL w A t) (hl : n ≤ 200) (hR : T.RightT t) (hx : x.length ≤ 100) (hx0 : 0 ≤ N.ipL x) (hr : C.outP (C.pths t) x y = r) :
    Calls Tryz.prog 130 #[.slice A n c, .string (sB y), .string (sB x)] w (BoolS w r) := by
  have HA := Lib.hid hA
  have HN := Lib.hid hn
  have HRT := Lib.hid hR
  have HV := Lib.hid hr
  have HXL := Lib.hid (show (sB x).size ≤ 100 by rw [sB_size]; exact hx)
  have HX0 := Lib.hid hx0
  clear hA hn hR hr hx hx0
  go_enter Tryz.func130, Tryz.ntmps130
  go_wp2_with fail
  refine (findC13 A _ c _ n 3 t [C.wVnis, y, C.wSubnet] _ HN.out rfl (HA.out.below (up w _)) (lit_seen eS w [C.wVnis, y, C.wSubnet] _ rfl (by simp)) (by omega) (by omega) HRT.out).mono ?_
  rintro e w1 ⟨hf, hb1⟩
  replace hb1 := (up w (.cells #[.string (sB C.wVnis), .string (sB y), .string (sB C.wSubnet)] 9)).trans (hb1.mono (up w _).size)
  rcases hf with ⟨i0, hi0, hp0, rfl⟩ | ⟨hno, rfl⟩
  · obtain ⟨K, hK⟩ : ∃ K, T.kidsL t (i0 : Int) = K := ⟨_, rfl⟩
    obtain ⟨nk, hnk⟩ : ∃ nk, K.length = nk := ⟨_, rfl⟩
    have HK := Lib.hid hK
    have HNK := Lib.hid hnk
    have HP := Lib.hid hp0
    have HI0 := Lib.hid hi0
    have hin : i0 < n := by rw [← HN.out]; exact hi0
    clear hp0 hK hi0 hnk
    go_wp2_with fail
    refine (kidsC13 A c n nk t (i0 : Int) K _ HN.out HNK.out (HA.out.below hb1) (by omega) (by omega) (by omega) HRT.out HK.out).mono ?_
    rintro e w2 ⟨A2, c2, rfl, hc2, hs2, hb2⟩
    replace hb2 := bthen hb1 hb2
    clear hb1
    cases K with
    | nil =>
      obtain rfl : 0 = nk := HNK.out
      have HE := Lib.hid (show r = false by rw [← HV.out]; exact C.out_bare HRT.out HI0.out HP.out HK.out)
      clear hc2 hs2
      go_wp2
      go_ret
      exact ⟨by rw [HE.out]; rfl, hb2⟩
    | cons q rest =>
      have hnk1 : 1 ≤ nk := by rw [← HNK.out, List.length_cons]; omega
      have d2 : ((nk : Int) == 0) = false := beq_eq_false_iff_ne.2 (by omega)
      have d2b : (nk == 0) = false := beq_eq_false_iff_ne.2 (by omega)
      have d2c : ¬ nk = 0 := by omega
      have hnki : (0 : Int) < (nk : Int) := by omega
      have hqt : q < t.length := ((T.mem_kids t (i0 : Int) q).1 (by rw [HK.out]; exact List.mem_cons_self)).1
      have hqn : q < n := by rw [← HN.out]; exact hqt
      have hqi : (q : Int) < (n : Int) := by omega
      obtain ⟨b3, o3, rfl, hw3, hL3⟩ := hs2 (by rw [List.length_cons]; omega)
      have c3 : w2.cell? ⟨b3, o3, none⟩ = some (.int .i64 ((q : Nat) : Int)) := hL3.num (i := 0) (by simp)
      obtain ⟨b4, o4, hA4, hw4, hL4⟩ := HA.out.lines (by rw [HN.out]; omega)
      subst hA4
      obtain ⟨_, c4, _⟩ := (hL4.below hb2 hw4).line hqt
      obtain ⟨u, hu⟩ : ∃ u, T.wd t q = u := ⟨_, rfl⟩
      rw [hu] at c4
      obtain ⟨z, zb, ok, hz⟩ : ∃ z zb ok, prefA (sB u).data.toList = (z, zb, ok) := ⟨_, _, _, rfl⟩
      obtain ⟨zi, oki, hzi⟩ : ∃ zi oki, okA (N.ipL (sB x).data.toList) = (zi, oki) := ⟨_, _, rfl⟩
      have HZ := Lib.hid hz
      have HZI := Lib.hid hzi
      have HBD := Lib.hid (show I64 z ∧ I64 zb ∧ I64 zi from ⟨by have := (pref_i64 (sB u).data.toList).1; rwa [hz] at this, by have := (pref_i64 (sB u).data.toList).2; rwa [hz] at this, by have := ip_i64 (sB x).data.toList; rwa [hzi] at this⟩)
      have HUL := Lib.hid (show (sB u).size ≤ 100 by rw [sB_size, ← hu]; exact Nat.le_trans (HRT.out.long q hqt) (by omega))
      have HO := Lib.hid (show r = (decide (0 ≤ (N.prefL u).1) && !N.inB (N.prefL u).1 (N.prefL u).2 (N.ipL x)) by rw [← HV.out, ← hu]; exact C.out_kid HRT.out HI0.out HP.out HK.out)
      have HZX := Lib.hid (show N.ipL x = zi by
        have h := hzi
        rw [sB_data] at h
        unfold okA at h
        rw [if_pos HX0.out] at h
        exact congrArg Prod.fst h)
      have HOK := Lib.hid (show ok = decide (0 ≤ (N.prefL u).1) ∧ (ok = true → (N.prefL u).1 = z ∧ (N.prefL u).2 = zb) by
        have h := hz
        rw [sB_data] at h
        refine ⟨by rw [← prefA_ok, h], fun hk => ?_⟩
        have h2 := prefA_ok u
        rw [h] at h2
        have h3 : 0 ≤ (N.prefL u).1 := of_decide_eq_true (h2.symm.trans hk)
        unfold prefA at h
        rw [if_pos h3] at h
        exact ⟨congrArg Prod.fst h, congrArg (fun q => q.2.1) h⟩)
      clear hL3 hL4 hz hzi hc2 hqt hu
      go_wp2_with fail
      refine (pref_any10 (sB u) z zb ok _ HUL.out HZ.out).mono ?_
      rintro e w3 ⟨rfl, hb3⟩
      replace hb3 := bthen hb2 hb3
      cases ok with
      | false =>
        have HE := Lib.hid (show r = false by rw [HO.out, ← HOK.out.1, Bool.false_and])
        go_wp2
        go_ret
        exact ⟨by rw [HE.out]; rfl, hb3⟩
      | true =>
        obtain ⟨ib, hib⟩ : ∃ ib, N.inB z zb zi = ib := ⟨_, rfl⟩
        have HIB := Lib.hid hib
        have HE := Lib.hid (show r = !ib by rw [HO.out, ← HOK.out.1, (HOK.out.2 rfl).1, (HOK.out.2 rfl).2, HZX.out, hib, Bool.true_and])
        clear hib
        go_wp2_with fail
        refine (ip_any10 (sB x) zi oki _ HXL.out HZI.out).mono ?_
        rintro e w4 ⟨rfl, hb4⟩
        replace hb4 := bthen hb3 hb4
        go_wp2_with fail
        refine (in_any10 z zb zi ib _ HBD.out.1 HBD.out.2.1 HBD.out.2.2 HIB.out).mono ?_
        rintro e w5 ⟨rfl, hb5⟩
        replace hb5 := bthen hb4 hb5
        go_wp2
        go_ret
        exact ⟨by rw [HE.out]; rfl, hb5⟩
  · have HE := Lib.hid (show r = false by rw [← HV.out]; exact C.out_off HRT.out (fun ⟨i, h1, h2⟩ => hno i h1 h2))
    clear hno
    go_wp2
    go_ret
    exact ⟨by rw [HE.out]; rfl, hb1⟩
end Go.Proofs.YtfcikfohmehmkaaGreatDoor

namespace Go.Proofs.YtfcikfohmehmkaaGreatDoor
namespace C
open T (Pth)
theorem second_at {p : Pth} {A D : Wd} (hA : (32 : UInt8) ∉ A) (hs0 : secondW (said3 A D) = []) (hne : said3 A D ≠ []) (h : secondB p = said3 A D) : ∃ b d, p = [A, b, D, d] ∧ typeB (secondW A) b = true ∧ typeB (thirdK (key A D)).1 d = true := by
  match p with
  | [] => exact absurd (show secondB [] = [] from by unfold secondB; rw [show ([] : Pth).dropLast = [] from rfl, first_nil]) (fun e => hne (h.symm.trans e))
  | [a] => rw [second_one] at h; exact absurd h.symm hne
  | [a, b] =>
    rw [second_two] at h
    by_cases hb : typeB (secondW a) b = true
    · rw [if_pos hb] at h; subst h; exact absurd hs0 (second_ne hb)
    · rw [if_neg hb] at h; exact absurd h.symm hne
  | [a, b, c] => rw [second_three] at h; exact absurd h.symm hne
  | [a, b, c, d] =>
    rw [second_four] at h
    by_cases hb : typeB (secondW a) b = true
    · rw [if_pos hb] at h
      by_cases hs : (thirdK (key a c)).1 = []
      · rw [if_pos hs] at h; exact absurd h.symm hne
      · rw [if_neg hs] at h
        by_cases hd : typeB (thirdK (key a c)).1 d = true
        · rw [if_pos hd] at h
          obtain ⟨rfl, rfl⟩ := (said_iff (second_blank (second_ne hb)) hA).1 h
          exact ⟨b, d, rfl, hb, hd⟩
        · rw [if_neg hd] at h; exact absurd h.symm hne
    · rw [if_neg hb] at h; exact absurd h.symm hne
  | a :: b :: c :: d :: e :: r => rw [second_five] at h; exact absurd h.symm hne
end C
open Go.RowKit
open F
open T (Pth)
set_option linter.unusedVariables false
set_option linter.unusedSimpArgs false

theorem anyH_abs13 {P : Program} {md : Region.Mode} {ops : Array Oper} {Q : Exit → Act → World → Prop} {S : World → Prop} {fuel : Nat} {listed : Array Bool} {a : Act} {w : World} {G : World → Prop} (hG : G w) (h : ∀ z, G z → wpAnyH P md ops Q S fuel listed a z) : wpAnyH P md ops Q S fuel listed a w := h w hG
/-- What a region's rounds keep. -/
def KeepX (w w1 : World) (b4 o4 b o : Nat) (x y : List UInt8) : Prop := Below w.heap.size w w1 ∧ w1.cell? ⟨b4, o4, none⟩ = some (.string (sB x)) ∧ w1.cell? ⟨b, o, none⟩ = some (.string (sB y))
theorem KeepX.on {w w1 w2 : World} {b4 o4 b o : Nat} {x y : List UInt8} (h : KeepX w w1 b4 o4 b o x y) (hx : Below w1.heap.size w1 w2) (h4 : b4 < w.heap.size) (h5 : b < w.heap.size) : KeepX w w2 b4 o4 b o x y :=
  ⟨bthen h.1 hx, (hx.cell (p := ⟨b4, o4, none⟩) (Nat.lt_of_lt_of_le h4 h.1.size)).trans h.2.1, (hx.cell (p := ⟨b, o, none⟩) (Nat.lt_of_lt_of_le h5 h.1.size)).trans h.2.2⟩
theorem thereQ13 (A B : Option Addr) (c d n : Nat) (t : List T.Ln) (a x : List UInt8) (r : Bool) (w : World) (hn : t.length = n) (hA : Seen eL w A t) (hB : Seen eS w B [a, x]) (hl : n ≤ 200) (hR : T.RightT t) (hr : decide ([a, x] ∈ C.pths t) = r) :
    Calls Tryz.prog 91 #[.slice A n c, .slice B 2 d] w (BoolS w r) := thereC A B c d n 2 t [a, x] r w hn rfl hA hB (by omega) (by omega) hR hr
set_option maxRecDepth 100000 in
set_option maxHeartbeats 16000000 in
theorem clashesC (A B : Option Addr) (c d n m i : Nat) (t : List T.Ln) (p : Pth) (r : Bool) (w : World) (hn : t.length = n) (hA : Seen eL w A t) (hl : n ≤ 200) (hR : T.RightT t) (hi : i < n) (hp : T.pathL t i = p) (hm : p.length = m) (hmd : m ≤ d) (hB : Seen eS w B p) (HT : RowsOk w) (hr : C.clashB (C.pths t) p = r) :
    Calls Tryz.prog 92 #[.slice A n c, .int .i64 (i : Int), .slice B m d] w (BoolS w r) := by
  have hit : i < t.length := by rw [hn]; exact hi
  have hm16 : m ≤ 16 := by
    have h1 := hR.path_len i i (Nat.le_refl _) hit
    have h2 := hR.deep i hit
    rw [hp, hm] at h1; omega
  have hm0 : 0 < m := by rw [← hm, ← hp]; exact List.length_pos_iff.2 T.path_ne
  have hsw : ShortW p := by rw [← hp]; exact short_path hR hit
  obtain ⟨x, hx⟩ : ∃ x, T.wd t i = x := ⟨_, rfl⟩
  have hlast : p.getLastD [] = x := by rw [← hp, ← hx, T.path_under]; simp
  have hii : (i : Int) < (n : Int) := by omega
  obtain ⟨b4, o4, rfl, hw4, hL4⟩ := hA.lines (by omega)
  obtain ⟨b, o, rfl, hbw, hLp⟩ := hB (by omega)
  obtain ⟨s, hs⟩ : ∃ s, C.secondB p = s := ⟨_, rfl⟩
  have HC := Lib.hid (show r = if s = C.said3 C.wHosts C.wIp then C.twiceP (C.pths t) p x
      else if s = C.said3 C.wBindings C.wHost ∨ s = C.said3 C.wRoutes C.wVia then !decide ([C.wHosts, x] ∈ C.pths t)
      else if s = C.said3 C.wHosts C.wVnis then !decide ([C.wVnis, x] ∈ C.pths t)
      else if s = C.said3 C.wBindings C.wVni then (!decide ([C.wVnis, x] ∈ C.pths t)) || C.outP (C.pths t) (p.getD 1 []) x else false by rw [← hr]; unfold C.clashB; rw [hs, hlast])
  have HTW := Lib.hid (show C.twiceP (C.pths t) p x = (List.range i).any fun j => C.sameAd x (T.pathL t j) by rw [← hp]; exact C.twice_is hR hit x)
  have HS := Lib.hid hs
  have HA := Lib.hid hA
  have HN := Lib.hid hn
  have HRT := Lib.hid hR
  have HP := Lib.hid hp
  have HM := Lib.hid hm
  have HB := Lib.hid hB
  have HSW := Lib.hid hsw
  have HX := Lib.hid hx
  have HLA := Lib.hid hlast
  have HT := Lib.hid HT
  have HL4 := Lib.hid hL4
  have HLP := Lib.hid hLp
  clear hn hA hR hp hm hB hr hsw hx hlast hs hL4 hLp
  by_cases h0 : s = C.said3 C.wHosts C.wIp
  · have q0 : ((sB s).toList == [104, 111, 115, 116, 115, 32, 36, 110, 97, 109, 101, 32, 105, 112]) = true := by rw [sB_toList, beq_iff_eq]; exact h0
    obtain ⟨_, e, hq, _, hty⟩ := (C.second_host p).1 (by rw [HS.out]; exact h0)
    have HTY := Lib.hid (show C.typeB C.kIp x = true by rw [← HLA.out, hq]; exact hty)
    have HE := Lib.hid (show ((List.range i).any fun j => C.sameAd x (T.pathL t j)) = r by rw [HC.out, if_pos h0]; exact HTW.out.symm)
    clear h0 hq hty
    go_enter Tryz.func92, Tryz.ntmps92
    go_wp2_with fail
    refine (secondC (some ⟨b, o, none⟩) d m p s _ HM.out hmd HB.out HSW.out hm0 (by omega) HT.out HS.out).mono ?_
    rintro e w1 ⟨rfl, hb1⟩
    go_wp2_with fail
    refine (takenC (some ⟨b4, o4, none⟩) c n i t x r _ HN.out (HA.out.below hb1) hl HRT.out hi HX.out HTY.out (HT.out.below hb1) HE.out).mono ?_
    rintro e w2 ⟨rfl, hx⟩
    go_wp2
    go_ret
    exact ⟨rfl, bthen hb1 hx⟩
  have q0 : ((sB s).toList == [104, 111, 115, 116, 115, 32, 36, 110, 97, 109, 101, 32, 105, 112]) = false := by rw [sB_toList, beq_eq_false_iff_ne]; exact h0
  by_cases h1 : s = C.said3 C.wBindings C.wHost
  · have q1 : ((sB s).toList == [98, 105, 110, 100, 105, 110, 103, 115, 32, 36, 105, 112, 32, 104, 111, 115, 116]) = true := by rw [sB_toList, beq_iff_eq]; exact h1
    obtain ⟨th, hth⟩ : ∃ th, decide ([C.wHosts, x] ∈ C.pths t) = th := ⟨_, rfl⟩
    have HTH := Lib.hid hth
    have HE := Lib.hid (show r = !th by rw [HC.out, if_neg h0, if_pos (.inl h1)]; rw [hth])
    clear h0 h1 hth
    go_enter Tryz.func92, Tryz.ntmps92
    go_wp2_with fail
    refine (secondC (some ⟨b, o, none⟩) d m p s _ HM.out hmd HB.out HSW.out hm0 (by omega) HT.out HS.out).mono ?_
    rintro e w1 ⟨rfl, hb1⟩
    have hit : i < t.length := by rw [HN.out]; exact hi
    obtain ⟨_, c4, _⟩ := (HL4.out.below hb1 hw4).line hit
    rw [HX.out] at c4
    clear hit
    go_wp2_with fail
    have hu := up w1 (.cells #[.string (sB C.wHosts), .string (sB x)] 9)
    refine (thereQ13 (some ⟨b4, o4, none⟩) _ c _ n t C.wHosts x th _ HN.out (HA.out.below (bthen hb1 hu)) (lit_seen eS w1 [C.wHosts, x] _ rfl (by simp)) hl HRT.out HTH.out).mono ?_
    rintro e w2 ⟨rfl, hx⟩
    go_wp2
    go_ret
    exact ⟨by rw [HE.out]; rfl, bthen hb1 (bthen hu hx)⟩
  have q1 : ((sB s).toList == [98, 105, 110, 100, 105, 110, 103, 115, 32, 36, 105, 112, 32, 104, 111, 115, 116]) = false := by rw [sB_toList, beq_eq_false_iff_ne]; exact h1
  by_cases h2 : s = C.said3 C.wRoutes C.wVia
  · have q2 : ((sB s).toList == [114, 111, 117, 116, 101, 115, 32, 36, 112, 114, 101, 102, 105, 120, 32, 118, 105, 97]) = true := by rw [sB_toList, beq_iff_eq]; exact h2
    obtain ⟨th, hth⟩ : ∃ th, decide ([C.wHosts, x] ∈ C.pths t) = th := ⟨_, rfl⟩
    have HTH := Lib.hid hth
    have HE := Lib.hid (show r = !th by rw [HC.out, if_neg h0, if_pos (.inr h2)]; rw [hth])
    clear h0 h1 h2 hth
    go_enter Tryz.func92, Tryz.ntmps92
    go_wp2_with fail
    refine (secondC (some ⟨b, o, none⟩) d m p s _ HM.out hmd HB.out HSW.out hm0 (by omega) HT.out HS.out).mono ?_
    rintro e w1 ⟨rfl, hb1⟩
    have hit : i < t.length := by rw [HN.out]; exact hi
    obtain ⟨_, c4, _⟩ := (HL4.out.below hb1 hw4).line hit
    rw [HX.out] at c4
    clear hit
    go_wp2_with fail
    have hu := up w1 (.cells #[.string (sB C.wHosts), .string (sB x)] 9)
    refine (thereQ13 (some ⟨b4, o4, none⟩) _ c _ n t C.wHosts x th _ HN.out (HA.out.below (bthen hb1 hu)) (lit_seen eS w1 [C.wHosts, x] _ rfl (by simp)) hl HRT.out HTH.out).mono ?_
    rintro e w2 ⟨rfl, hx⟩
    go_wp2
    go_ret
    exact ⟨by rw [HE.out]; rfl, bthen hb1 (bthen hu hx)⟩
  have q2 : ((sB s).toList == [114, 111, 117, 116, 101, 115, 32, 36, 112, 114, 101, 102, 105, 120, 32, 118, 105, 97]) = false := by rw [sB_toList, beq_eq_false_iff_ne]; exact h2
  by_cases h3 : s = C.said3 C.wHosts C.wVnis
  · have q3 : ((sB s).toList == [104, 111, 115, 116, 115, 32, 36, 110, 97, 109, 101, 32, 118, 110, 105, 115]) = true := by rw [sB_toList, beq_iff_eq]; exact h3
    obtain ⟨th, hth⟩ : ∃ th, decide ([C.wVnis, x] ∈ C.pths t) = th := ⟨_, rfl⟩
    have HTH := Lib.hid hth
    have HE := Lib.hid (show r = !th by rw [HC.out, if_neg h0, if_neg (fun h => h.elim h1 h2), if_pos h3]; rw [hth])
    clear h0 h1 h2 h3 hth
    go_enter Tryz.func92, Tryz.ntmps92
    go_wp2_with fail
    refine (secondC (some ⟨b, o, none⟩) d m p s _ HM.out hmd HB.out HSW.out hm0 (by omega) HT.out HS.out).mono ?_
    rintro e w1 ⟨rfl, hb1⟩
    have hit : i < t.length := by rw [HN.out]; exact hi
    obtain ⟨_, c4, _⟩ := (HL4.out.below hb1 hw4).line hit
    rw [HX.out] at c4
    clear hit
    go_wp2_with fail
    have hu := up w1 (.cells #[.string (sB C.wVnis), .string (sB x)] 9)
    refine (thereQ13 (some ⟨b4, o4, none⟩) _ c _ n t C.wVnis x th _ HN.out (HA.out.below (bthen hb1 hu)) (lit_seen eS w1 [C.wVnis, x] _ rfl (by simp)) hl HRT.out HTH.out).mono ?_
    rintro e w2 ⟨rfl, hx⟩
    go_wp2
    go_ret
    exact ⟨by rw [HE.out]; rfl, bthen hb1 (bthen hu hx)⟩
  have q3 : ((sB s).toList == [104, 111, 115, 116, 115, 32, 36, 110, 97, 109, 101, 32, 118, 110, 105, 115]) = false := by rw [sB_toList, beq_eq_false_iff_ne]; exact h3
  by_cases h4 : s = C.said3 C.wBindings C.wVni
  · have q4 : ((sB s).toList == [98, 105, 110, 100, 105, 110, 103, 115, 32, 36, 105, 112, 32, 118, 110, 105]) = true := by rw [sB_toList, beq_iff_eq]; exact h4
    obtain ⟨y, e, hq, hty, _⟩ := C.second_at (A := C.wBindings) (D := C.wVni) (p := p) (by decide) (by decide +kernel) (by decide +kernel) (by rw [HS.out]; exact h4)
    obtain rfl : 4 = m := by rw [← HM.out, hq]; rfl
    have HY := Lib.hid (show y.length ≤ 100 from HSW.out y (by rw [hq]; simp))
    have HY0 := Lib.hid (show 0 ≤ N.ipL y from of_decide_eq_true (show decide (0 ≤ N.ipL y) = true from hty))
    have HPY := Lib.hid (show p[1]? = some y by rw [hq]; rfl)
    have hd2 : (1 : Int) < (4 : Int) := by omega
    obtain ⟨th, hth⟩ : ∃ th, decide ([C.wVnis, x] ∈ C.pths t) = th := ⟨_, rfl⟩
    have HTH := Lib.hid hth
    obtain ⟨ou, hou⟩ : ∃ ou, C.outP (C.pths t) y x = ou := ⟨_, rfl⟩
    have HOU := Lib.hid hou
    have HE := Lib.hid (show r = ((!th) || ou) by rw [HC.out, if_neg h0, if_neg (fun h => h.elim h1 h2), if_neg h3, if_pos h4]; rw [hth, show p.getD 1 [] = y by rw [hq]; rfl, hou])
    clear h0 h1 h2 h3 h4 hth hou hq hty
    cases th with
    | true =>
      go_enter Tryz.func92, Tryz.ntmps92
      go_wp2_with fail
      refine (secondC (some ⟨b, o, none⟩) d 4 p s _ HM.out hmd HB.out HSW.out hm0 (by omega) HT.out HS.out).mono ?_
      rintro e w1 ⟨rfl, hb1⟩
      have hit : i < t.length := by rw [HN.out]; exact hi
      obtain ⟨_, c4, _⟩ := (HL4.out.below hb1 hw4).line hit
      rw [HX.out] at c4
      clear hit
      have cy : w1.cell? ⟨b, o + 1, none⟩ = some (.string (sB y)) := cellS (HLP.out.below hb1 hbw) HPY.out
      go_wp2
      refine wp_region_held_drew (S := fun w' => KeepX w w' b4 (o4 + i * 3 + 1) b (o + 1) x y) (by kernel_rfl) ⟨hb1.drew, c4, cy⟩ (fun hHeld => ?_)
      refine takeD13 (i := 0) (v := ?vt0) (d := some 39) rfl rfl (by kernel_rfl) (by kernel_rfl) (by kernel_rfl) (fun _ _ _ h => h) (Or.inl ⟨by rfl, ?hyt0⟩) (by assumption) ?restt0
      case hyt0 => intro w hSw; obtain ⟨_, hs1, hs2⟩ := hSw; go_simp; try (with_reducible rfl)
      try simp only [Act.put, List.setIfInBounds_toArray, List.set_cons_zero, List.set_cons_succ]
      refine takeD13 (i := 1) (v := ?vt1) (d := some 40) rfl rfl (by kernel_rfl) (by kernel_rfl) (by kernel_rfl) (fun _ _ _ h => h) (Or.inl ⟨by rfl, ?hyt1⟩) (by assumption) ?restt1
      case hyt1 => intro w hSw; obtain ⟨_, hs1, hs2⟩ := hSw; go_simp; try (with_reducible rfl)
      try simp only [Act.put, List.setIfInBounds_toArray, List.set_cons_zero, List.set_cons_succ]
      refine takeD13 (i := 2) (v := ?vt2) (d := some 41) rfl rfl (by kernel_rfl) (by kernel_rfl) (by kernel_rfl) (fun _ _ _ h => h) (Or.inl ⟨by rfl, ?hyt2⟩) (by assumption) ?restt2
      case hyt2 => intro w hSw; obtain ⟨_, hs1, hs2⟩ := hSw; go_simp; try (with_reducible rfl)
      try simp only [Act.put, List.setIfInBounds_toArray, List.set_cons_zero, List.set_cons_succ]
      refine takeD13 (i := 3) (v := ?vt3) (d := some 42) rfl rfl (by kernel_rfl) (by kernel_rfl) (by kernel_rfl) (fun _ _ _ h => h) (Or.inl ⟨by rfl, ?hyt3⟩) (by assumption) ?restt3
      case hyt3 => intro w hSw; obtain ⟨_, hs1, hs2⟩ := hSw; go_simp; try (with_reducible rfl)
      try simp only [Act.put, List.setIfInBounds_toArray, List.set_cons_zero, List.set_cons_succ]
      refine takeD13 (i := 4) (v := ?vt4) (d := some 43) rfl rfl (by kernel_rfl) (by kernel_rfl) (by kernel_rfl) (fun _ _ _ h => h) (Or.inl ⟨by rfl, ?hyt4⟩) (by assumption) ?restt4
      case hyt4 => intro w hSw; obtain ⟨_, hs1, hs2⟩ := hSw; go_simp; try (with_reducible rfl)
      try simp only [Act.put, List.setIfInBounds_toArray, List.set_cons_zero, List.set_cons_succ]
      refine takeD13 (i := 5) (v := ?vt5) (d := some 44) rfl rfl (by kernel_rfl) (by kernel_rfl) (by kernel_rfl) (fun _ _ _ h => h) (Or.inl ⟨by rfl, ?hyt5⟩) (by assumption) ?restt5
      case hyt5 => intro w hSw; obtain ⟨_, hs1, hs2⟩ := hSw; go_simp; try (with_reducible rfl)
      try simp only [Act.put, List.setIfInBounds_toArray, List.set_cons_zero, List.set_cons_succ]
      refine anyH_abs13 (G := fun z => KeepX w z b4 (o4 + i * 3 + 1) b (o + 1) x y) ⟨hb1.drew, c4, cy⟩ (fun z0 hz => ?_)
      refine wpAnyH_ready (rs := [6]) (by kernel_rfl) (by simp) ?_
      refine AllReadyH.cons rfl (fun K hK => ?_) AllReadyH.nil
      obtain ⟨g1, hg1⟩ : ∃ g, z0.heap.size = g := ⟨_, rfl⟩
      go_simp
      try rw [hg1]
      have hu := up z0 (.cells #[.string (sB C.wVnis), .string (sB x)] 9)
      have hk1 := hz.on hu hw4 hbw
      refine hK.out _ _ hk1 (fun hHeld => ?_)
      clear hK K
      try simp only [Act.put, List.setIfInBounds_toArray, List.set_cons_zero, List.set_cons_succ]
      refine anyH_abs13 (G := fun z => KeepX w z b4 (o4 + i * 3 + 1) b (o + 1) x y ∧ Seen eS z (some ⟨g1, 0, none⟩) [C.wVnis, x]) ⟨hk1, by rw [← hg1]; exact lit_seen eS z0 [C.wVnis, x] _ rfl (by simp)⟩ (fun z1 hz => ?_)
      obtain ⟨hk2, hl1⟩ := hz
      clear hHeld
      have hHeld := hk2
      clear hu hk1
      refine wpAnyH_ready (rs := [7]) (by kernel_rfl) (by simp) ?_
      refine AllReadyH.cons rfl (fun K hK => ?_) AllReadyH.nil
      go_simp
      go_at_call 91
      refine (thereQ13 (some ⟨b4, o4, none⟩) _ c _ n t C.wVnis x true _ HN.out (HA.out.below hHeld.1) hl1 hl HRT.out HTH.out).mono ?_
      rintro e wq7 ⟨rfl, hx⟩
      have hbx7 : KeepX w wq7 b4 (o4 + i * 3 + 1) b (o + 1) x y := hHeld.on hx hw4 hbw
      clear hHeld hx
      refine hK.out _ _ hbx7 (fun hHeld => ?_)
      clear hK K
      try simp only [Act.put, List.setIfInBounds_toArray, List.set_cons_zero, List.set_cons_succ]
      refine takeD13 (i := 8) (v := ?vt8) (d := some 47) rfl rfl (by kernel_rfl) (by kernel_rfl) (by kernel_rfl) (fun _ _ _ h => h) (Or.inl ⟨by rfl, ?hyt8⟩) (by assumption) ?restt8
      case hyt8 => intro w hSw; obtain ⟨_, hs1, hs2⟩ := hSw; go_simp; try (with_reducible rfl)
      try simp only [Act.put, List.setIfInBounds_toArray, List.set_cons_zero, List.set_cons_succ]
      refine takeD13 (i := 9) (v := ?vt9) (d := some 48) rfl rfl (by kernel_rfl) (by kernel_rfl) (by kernel_rfl) (fun _ _ _ h => h) (Or.inl ⟨by rfl, ?hyt9⟩) (by assumption) ?restt9
      case hyt9 => intro w hSw; obtain ⟨_, hs1, hs2⟩ := hSw; go_simp; try (with_reducible rfl)
      try simp only [Act.put, List.setIfInBounds_toArray, List.set_cons_zero, List.set_cons_succ]
      refine takeD13 (i := 10) (v := ?vt10) (d := some 49) rfl rfl (by kernel_rfl) (by kernel_rfl) (by kernel_rfl) (fun _ _ _ h => h) (Or.inl ⟨by rfl, ?hyt10⟩) (by assumption) ?restt10
      case hyt10 => intro w hSw; obtain ⟨_, hs1, hs2⟩ := hSw; go_simp; try (with_reducible rfl)
      try simp only [Act.put, List.setIfInBounds_toArray, List.set_cons_zero, List.set_cons_succ]
      refine takeD13 (i := 11) (v := ?vt11) (d := some 50) rfl rfl (by kernel_rfl) (by kernel_rfl) (by kernel_rfl) (fun _ _ _ h => h) (Or.inl ⟨by rfl, ?hyt11⟩) (by assumption) ?restt11
      case hyt11 => intro w hSw; obtain ⟨_, hs1, hs2⟩ := hSw; go_simp; try (with_reducible rfl)
      try simp only [Act.put, List.setIfInBounds_toArray, List.set_cons_zero, List.set_cons_succ]
      refine takeD13 (i := 12) (v := ?vt12) (d := some 51) rfl rfl (by kernel_rfl) (by kernel_rfl) (by kernel_rfl) (fun _ _ _ h => h) (Or.inl ⟨by rfl, ?hyt12⟩) (by assumption) ?restt12
      case hyt12 => intro w hSw; obtain ⟨_, hs1, hs2⟩ := hSw; go_simp; try (with_reducible rfl)
      try simp only [Act.put, List.setIfInBounds_toArray, List.set_cons_zero, List.set_cons_succ]
      refine takeD13 (i := 13) (v := ?vt13) (d := some 52) rfl rfl (by kernel_rfl) (by kernel_rfl) (by kernel_rfl) (fun _ _ _ h => h) (Or.inl ⟨by rfl, ?hyt13⟩) (by assumption) ?restt13
      case hyt13 => intro w hSw; obtain ⟨_, hs1, hs2⟩ := hSw; go_simp; try (with_reducible rfl)
      try simp only [Act.put, List.setIfInBounds_toArray, List.set_cons_zero, List.set_cons_succ]
      refine takeD13 (i := 14) (v := ?vt14) (d := some 53) rfl rfl (by kernel_rfl) (by kernel_rfl) (by kernel_rfl) (fun _ _ _ h => h) (Or.inl ⟨by rfl, ?hyt14⟩) (by assumption) ?restt14
      case hyt14 => intro w hSw; obtain ⟨_, hs1, hs2⟩ := hSw; go_simp; try (with_reducible rfl)
      try simp only [Act.put, List.setIfInBounds_toArray, List.set_cons_zero, List.set_cons_succ]
      refine takeD13 (i := 15) (v := ?vt15) (d := some 54) rfl rfl (by kernel_rfl) (by kernel_rfl) (by kernel_rfl) (fun _ _ _ h => h) (Or.inl ⟨by rfl, ?hyt15⟩) (by assumption) ?restt15
      case hyt15 => intro w hSw; obtain ⟨_, hs1, hs2⟩ := hSw; go_simp; try (with_reducible rfl)
      try simp only [Act.put, List.setIfInBounds_toArray, List.set_cons_zero, List.set_cons_succ]
      refine takeD13 (i := 16) (v := ?vt16) (d := some 55) rfl rfl (by kernel_rfl) (by kernel_rfl) (by kernel_rfl) (fun _ _ _ h => h) (Or.inl ⟨by rfl, ?hyt16⟩) (by assumption) ?restt16
      case hyt16 => intro w hSw; obtain ⟨_, hs1, hs2⟩ := hSw; go_simp; try (with_reducible rfl)
      try simp only [Act.put, List.setIfInBounds_toArray, List.set_cons_zero, List.set_cons_succ]
      refine takeD13 (i := 17) (v := ?vt17) (d := some 56) rfl rfl (by kernel_rfl) (by kernel_rfl) (by kernel_rfl) (fun _ _ _ h => h) (Or.inl ⟨by rfl, ?hyt17⟩) (by assumption) ?restt17
      case hyt17 => intro w hSw; obtain ⟨_, hs1, hs2⟩ := hSw; go_simp; try (with_reducible rfl)
      try simp only [Act.put, List.setIfInBounds_toArray, List.set_cons_zero, List.set_cons_succ]
      refine takeD13 (i := 18) (v := ?vt18) (d := some 57) rfl rfl (by kernel_rfl) (by kernel_rfl) (by kernel_rfl) (fun _ _ _ h => h) (Or.inl ⟨by rfl, ?hyt18⟩) (by assumption) ?restt18
      case hyt18 => intro w hSw; obtain ⟨_, hs1, hs2⟩ := hSw; go_simp; try (with_reducible rfl)
      try simp only [Act.put, List.setIfInBounds_toArray, List.set_cons_zero, List.set_cons_succ]
      refine wpAnyH_ready (rs := [19]) (by kernel_rfl) (by simp) ?_
      refine AllReadyH.cons rfl (fun K hK => ?_) AllReadyH.nil
      go_simp
      go_at_call 130
      refine (outsideC (some ⟨b4, o4, none⟩) c n t y x ou _ HN.out (HA.out.below hHeld.1) hl HRT.out HY.out HY0.out HOU.out).mono ?_
      rintro e wq19 ⟨rfl, hx⟩
      have hbx19 : KeepX w wq19 b4 (o4 + i * 3 + 1) b (o + 1) x y := hHeld.on hx hw4 hbw
      clear hHeld hx
      refine hK.out _ _ hbx19 (fun hHeld => ?_)
      clear hK K
      try simp only [Act.put, List.setIfInBounds_toArray, List.set_cons_zero, List.set_cons_succ]
      refine takeD13 (i := 20) (v := ?vt20) (d := some 59) rfl rfl (by kernel_rfl) (by kernel_rfl) (by kernel_rfl) (fun _ _ _ h => h) (Or.inl ⟨by rfl, ?hyt20⟩) (by assumption) ?restt20
      case hyt20 => intro w hSw; obtain ⟨_, hs1, hs2⟩ := hSw; go_simp; try (with_reducible rfl)
      try simp only [Act.put, List.setIfInBounds_toArray, List.set_cons_zero, List.set_cons_succ]
      refine takeD13 (i := 21) (v := ?vt21) (d := some 6) rfl rfl (by kernel_rfl) (by kernel_rfl) (by kernel_rfl) (fun _ _ _ h => h) (Or.inl ⟨by rfl, ?hyt21⟩) (by assumption) ?restt21
      case hyt21 => intro w hSw; obtain ⟨_, hs1, hs2⟩ := hSw; go_simp; try (with_reducible rfl)
      try simp only [Act.put, List.setIfInBounds_toArray, List.set_cons_zero, List.set_cons_succ]
      refine wpAnyH_done (by kernel_rfl) ?_ _
      go_wp2
      go_ret
      exact ⟨by rw [HE.out]; rfl, hbx19.1⟩
    | false =>
      go_enter Tryz.func92, Tryz.ntmps92
      go_wp2_with fail
      refine (secondC (some ⟨b, o, none⟩) d 4 p s _ HM.out hmd HB.out HSW.out hm0 (by omega) HT.out HS.out).mono ?_
      rintro e w1 ⟨rfl, hb1⟩
      have hit : i < t.length := by rw [HN.out]; exact hi
      obtain ⟨_, c4, _⟩ := (HL4.out.below hb1 hw4).line hit
      rw [HX.out] at c4
      clear hit
      have cy : w1.cell? ⟨b, o + 1, none⟩ = some (.string (sB y)) := cellS (HLP.out.below hb1 hbw) HPY.out
      go_wp2
      refine wp_region_held_drew (S := fun w' => KeepX w w' b4 (o4 + i * 3 + 1) b (o + 1) x y) (by kernel_rfl) ⟨hb1.drew, c4, cy⟩ (fun hHeld => ?_)
      refine takeD13 (i := 0) (v := ?vf0) (d := some 39) rfl rfl (by kernel_rfl) (by kernel_rfl) (by kernel_rfl) (fun _ _ _ h => h) (Or.inl ⟨by rfl, ?hyf0⟩) (by assumption) ?restf0
      case hyf0 => intro w hSw; obtain ⟨_, hs1, hs2⟩ := hSw; go_simp; try (with_reducible rfl)
      try simp only [Act.put, List.setIfInBounds_toArray, List.set_cons_zero, List.set_cons_succ]
      refine takeD13 (i := 1) (v := ?vf1) (d := some 40) rfl rfl (by kernel_rfl) (by kernel_rfl) (by kernel_rfl) (fun _ _ _ h => h) (Or.inl ⟨by rfl, ?hyf1⟩) (by assumption) ?restf1
      case hyf1 => intro w hSw; obtain ⟨_, hs1, hs2⟩ := hSw; go_simp; try (with_reducible rfl)
      try simp only [Act.put, List.setIfInBounds_toArray, List.set_cons_zero, List.set_cons_succ]
      refine takeD13 (i := 2) (v := ?vf2) (d := some 41) rfl rfl (by kernel_rfl) (by kernel_rfl) (by kernel_rfl) (fun _ _ _ h => h) (Or.inl ⟨by rfl, ?hyf2⟩) (by assumption) ?restf2
      case hyf2 => intro w hSw; obtain ⟨_, hs1, hs2⟩ := hSw; go_simp; try (with_reducible rfl)
      try simp only [Act.put, List.setIfInBounds_toArray, List.set_cons_zero, List.set_cons_succ]
      refine takeD13 (i := 3) (v := ?vf3) (d := some 42) rfl rfl (by kernel_rfl) (by kernel_rfl) (by kernel_rfl) (fun _ _ _ h => h) (Or.inl ⟨by rfl, ?hyf3⟩) (by assumption) ?restf3
      case hyf3 => intro w hSw; obtain ⟨_, hs1, hs2⟩ := hSw; go_simp; try (with_reducible rfl)
      try simp only [Act.put, List.setIfInBounds_toArray, List.set_cons_zero, List.set_cons_succ]
      refine takeD13 (i := 4) (v := ?vf4) (d := some 43) rfl rfl (by kernel_rfl) (by kernel_rfl) (by kernel_rfl) (fun _ _ _ h => h) (Or.inl ⟨by rfl, ?hyf4⟩) (by assumption) ?restf4
      case hyf4 => intro w hSw; obtain ⟨_, hs1, hs2⟩ := hSw; go_simp; try (with_reducible rfl)
      try simp only [Act.put, List.setIfInBounds_toArray, List.set_cons_zero, List.set_cons_succ]
      refine takeD13 (i := 5) (v := ?vf5) (d := some 44) rfl rfl (by kernel_rfl) (by kernel_rfl) (by kernel_rfl) (fun _ _ _ h => h) (Or.inl ⟨by rfl, ?hyf5⟩) (by assumption) ?restf5
      case hyf5 => intro w hSw; obtain ⟨_, hs1, hs2⟩ := hSw; go_simp; try (with_reducible rfl)
      try simp only [Act.put, List.setIfInBounds_toArray, List.set_cons_zero, List.set_cons_succ]
      refine anyH_abs13 (G := fun z => KeepX w z b4 (o4 + i * 3 + 1) b (o + 1) x y) ⟨hb1.drew, c4, cy⟩ (fun z0 hz => ?_)
      refine wpAnyH_ready (rs := [6]) (by kernel_rfl) (by simp) ?_
      refine AllReadyH.cons rfl (fun K hK => ?_) AllReadyH.nil
      obtain ⟨g1, hg1⟩ : ∃ g, z0.heap.size = g := ⟨_, rfl⟩
      go_simp
      try rw [hg1]
      have hu := up z0 (.cells #[.string (sB C.wVnis), .string (sB x)] 9)
      have hk1 := hz.on hu hw4 hbw
      refine hK.out _ _ hk1 (fun hHeld => ?_)
      clear hK K
      try simp only [Act.put, List.setIfInBounds_toArray, List.set_cons_zero, List.set_cons_succ]
      refine anyH_abs13 (G := fun z => KeepX w z b4 (o4 + i * 3 + 1) b (o + 1) x y ∧ Seen eS z (some ⟨g1, 0, none⟩) [C.wVnis, x]) ⟨hk1, by rw [← hg1]; exact lit_seen eS z0 [C.wVnis, x] _ rfl (by simp)⟩ (fun z1 hz => ?_)
      obtain ⟨hk2, hl1⟩ := hz
      clear hHeld
      have hHeld := hk2
      clear hu hk1
      refine wpAnyH_ready (rs := [7]) (by kernel_rfl) (by simp) ?_
      refine AllReadyH.cons rfl (fun K hK => ?_) AllReadyH.nil
      go_simp
      go_at_call 91
      refine (thereQ13 (some ⟨b4, o4, none⟩) _ c _ n t C.wVnis x false _ HN.out (HA.out.below hHeld.1) hl1 hl HRT.out HTH.out).mono ?_
      rintro e wq7 ⟨rfl, hx⟩
      have hbx7 : KeepX w wq7 b4 (o4 + i * 3 + 1) b (o + 1) x y := hHeld.on hx hw4 hbw
      clear hHeld hx
      refine hK.out _ _ hbx7 (fun hHeld => ?_)
      clear hK K
      try simp only [Act.put, List.setIfInBounds_toArray, List.set_cons_zero, List.set_cons_succ]
      refine takeD13 (i := 8) (v := ?vf8) (d := some 47) rfl rfl (by kernel_rfl) (by kernel_rfl) (by kernel_rfl) (fun _ _ _ h => h) (Or.inl ⟨by rfl, ?hyf8⟩) (by assumption) ?restf8
      case hyf8 => intro w hSw; obtain ⟨_, hs1, hs2⟩ := hSw; go_simp; try (with_reducible rfl)
      try simp only [Act.put, List.setIfInBounds_toArray, List.set_cons_zero, List.set_cons_succ]
      refine takeD13 (i := 9) (v := ?vf9) (d := some 48) rfl rfl (by kernel_rfl) (by kernel_rfl) (by kernel_rfl) (fun _ _ _ h => h) (Or.inl ⟨by rfl, ?hyf9⟩) (by assumption) ?restf9
      case hyf9 => intro w hSw; obtain ⟨_, hs1, hs2⟩ := hSw; go_simp; try (with_reducible rfl)
      try simp only [Act.put, List.setIfInBounds_toArray, List.set_cons_zero, List.set_cons_succ]
      refine takeD13 (i := 10) (v := undef) (d := some 49) rfl rfl (by kernel_rfl) (by kernel_rfl) (by kernel_rfl) (fun _ _ _ h => h) (Or.inr ⟨by rfl, rfl⟩) (by assumption) ?_
      try simp only [Act.put, List.setIfInBounds_toArray, List.set_cons_zero, List.set_cons_succ]
      refine takeD13 (i := 11) (v := undef) (d := some 50) rfl rfl (by kernel_rfl) (by kernel_rfl) (by kernel_rfl) (fun _ _ _ h => h) (Or.inr ⟨by rfl, rfl⟩) (by assumption) ?_
      try simp only [Act.put, List.setIfInBounds_toArray, List.set_cons_zero, List.set_cons_succ]
      refine takeD13 (i := 12) (v := undef) (d := some 51) rfl rfl (by kernel_rfl) (by kernel_rfl) (by kernel_rfl) (fun _ _ _ h => h) (Or.inr ⟨by rfl, rfl⟩) (by assumption) ?_
      try simp only [Act.put, List.setIfInBounds_toArray, List.set_cons_zero, List.set_cons_succ]
      refine takeD13 (i := 13) (v := undef) (d := some 52) rfl rfl (by kernel_rfl) (by kernel_rfl) (by kernel_rfl) (fun _ _ _ h => h) (Or.inr ⟨by rfl, rfl⟩) (by assumption) ?_
      try simp only [Act.put, List.setIfInBounds_toArray, List.set_cons_zero, List.set_cons_succ]
      refine takeD13 (i := 14) (v := undef) (d := some 53) rfl rfl (by kernel_rfl) (by kernel_rfl) (by kernel_rfl) (fun _ _ _ h => h) (Or.inr ⟨by rfl, rfl⟩) (by assumption) ?_
      try simp only [Act.put, List.setIfInBounds_toArray, List.set_cons_zero, List.set_cons_succ]
      refine takeD13 (i := 15) (v := undef) (d := some 54) rfl rfl (by kernel_rfl) (by kernel_rfl) (by kernel_rfl) (fun _ _ _ h => h) (Or.inr ⟨by rfl, rfl⟩) (by assumption) ?_
      try simp only [Act.put, List.setIfInBounds_toArray, List.set_cons_zero, List.set_cons_succ]
      refine takeD13 (i := 16) (v := undef) (d := some 55) rfl rfl (by kernel_rfl) (by kernel_rfl) (by kernel_rfl) (fun _ _ _ h => h) (Or.inr ⟨by rfl, rfl⟩) (by assumption) ?_
      try simp only [Act.put, List.setIfInBounds_toArray, List.set_cons_zero, List.set_cons_succ]
      refine takeD13 (i := 17) (v := undef) (d := some 56) rfl rfl (by kernel_rfl) (by kernel_rfl) (by kernel_rfl) (fun _ _ _ h => h) (Or.inr ⟨by rfl, rfl⟩) (by assumption) ?_
      try simp only [Act.put, List.setIfInBounds_toArray, List.set_cons_zero, List.set_cons_succ]
      refine takeD13 (i := 18) (v := undef) (d := some 57) rfl rfl (by kernel_rfl) (by kernel_rfl) (by kernel_rfl) (fun _ _ _ h => h) (Or.inr ⟨by rfl, rfl⟩) (by assumption) ?_
      try simp only [Act.put, List.setIfInBounds_toArray, List.set_cons_zero, List.set_cons_succ]
      refine takeD13 (i := 19) (v := undef) (d := some 58) rfl rfl (by kernel_rfl) (by kernel_rfl) (by kernel_rfl) (fun _ _ _ h => h) (Or.inr ⟨by rfl, rfl⟩) (by assumption) ?_
      try simp only [Act.put, List.setIfInBounds_toArray, List.set_cons_zero, List.set_cons_succ]
      refine takeD13 (i := 20) (v := ?vf20) (d := some 59) rfl rfl (by kernel_rfl) (by kernel_rfl) (by kernel_rfl) (fun _ _ _ h => h) (Or.inl ⟨by rfl, ?hyf20⟩) (by assumption) ?restf20
      case hyf20 => intro w hSw; obtain ⟨_, hs1, hs2⟩ := hSw; go_simp; try (with_reducible rfl)
      try simp only [Act.put, List.setIfInBounds_toArray, List.set_cons_zero, List.set_cons_succ]
      refine takeD13 (i := 21) (v := ?vf21) (d := some 6) rfl rfl (by kernel_rfl) (by kernel_rfl) (by kernel_rfl) (fun _ _ _ h => h) (Or.inl ⟨by rfl, ?hyf21⟩) (by assumption) ?restf21
      case hyf21 => intro w hSw; obtain ⟨_, hs1, hs2⟩ := hSw; go_simp; try (with_reducible rfl)
      try simp only [Act.put, List.setIfInBounds_toArray, List.set_cons_zero, List.set_cons_succ]
      refine wpAnyH_done (by kernel_rfl) ?_ _
      go_wp2
      go_ret
      exact ⟨by rw [HE.out]; rfl, hbx7.1⟩
  have q4 : ((sB s).toList == [98, 105, 110, 100, 105, 110, 103, 115, 32, 36, 105, 112, 32, 118, 110, 105]) = false := by rw [sB_toList, beq_eq_false_iff_ne]; exact h4
  have HE := Lib.hid (show r = false by rw [HC.out, if_neg h0, if_neg (fun h => h.elim h1 h2), if_neg h3, if_neg h4])
  clear h0 h1 h2 h3 h4
  go_enter Tryz.func92, Tryz.ntmps92
  go_wp2_with fail
  refine (secondC (some ⟨b, o, none⟩) d m p s _ HM.out hmd HB.out HSW.out hm0 (by omega) HT.out HS.out).mono ?_
  rintro e w1 ⟨rfl, hb1⟩
  go_wp2
  go_ret
  exact ⟨by rw [HE.out]; rfl, hb1⟩
end Go.Proofs.YtfcikfohmehmkaaGreatDoor

namespace Go.Proofs.YtfcikfohmehmkaaGreatDoor
namespace C
open T (Pth)
/-- The words that lack, of the first k. -/
def lackC (P : List Pth) (p : Pth) (l : List Wd) (k : Nat) : List (Pth × Int) := ((l.take k).filter fun w => !decide (p ++ [w] ∈ P)).map fun w => (p ++ [w], 1)
theorem lackC_next (P : List Pth) (p : Pth) {l : List Wd} {k : Nat} {x : Wd} {hz : Bool} (hx : l[k]? = some x) (hh : decide (p ++ [x] ∈ P) = hz) : lackC P p l (k + 1) = lackC P p l k ++ if hz = true then [] else [(p ++ [x], 1)] := by
  unfold lackC
  obtain ⟨h5, h6⟩ := List.getElem?_eq_some_iff.1 hx
  rw [List.take_succ_eq_append_getElem h5, h6, List.filter_append, List.map_append]
  congr 1
  subst hh
  cases h : decide (p ++ [x] ∈ P) <;> simp [List.filter, h]
theorem lackC_all (P : List Pth) (p : Pth) (l : List Wd) : lackC P p l l.length = (l.filter fun w => !decide (p ++ [w] ∈ P)).map fun w => (p ++ [w], 1) := by
  unfold lackC; rw [List.take_of_length_le (Nat.le_refl _)]
theorem lackC_few (P : List Pth) (p : Pth) (l : List Wd) (k : Nat) (h : l.length ≤ 17) : (lackC P p l k).length ≤ 17 := by
  unfold lackC
  rw [List.length_map]
  refine Nat.le_trans (List.length_filter_le _ _) ?_
  rw [List.length_take]; omega
/-- What a line that holds one tells. -/
def heldF (p : Pth) (e : Int) : List (Pth × Int) := if e ≠ 0 then [(p, e)] else []
def clashF (p : Pth) (c : Bool) : List (Pth × Int) := if c = true then [(p, 7)] else []
theorem faults_three13 (P : List Pth) {p : Pth} (hp : p ≠ []) (hl : liveP p = true) (hk : knownP p = 0) {e : Int} {l : List Wd} {c : Bool} (he : heldB p (kidsP P p).length = e) (hn : needsL p = l) (hc : clashB P p = c) : faultsP P p = heldF p e ++ lackC P p l l.length ++ clashF p c := by
  subst he; subst hn; subst hc
  rw [faults_code P hp hl hk, lackC_all]; rfl
end C
open Go.RowKit
open F
open T (Pth)
set_option linter.unusedVariables false

set_option maxRecDepth 100000 in
theorem clone13 (ad : Addr) (cap n : Nat) (t : Pth) (w : World) (hn : t.length = n) (hp : n ≤ 1073741824) (h : Seen eS w (some ad) t) :
    Calls Tryz.prog 89 #[.slice (some ad) n cap] w (OwnS eS w t) := by
  have HH := Lib.hid (h.below ((Below.refl _ _).alloc (Nat.le_refl _) (.cells #[] eS.T)))
  have HO := Lib.hid (Own.empty eS w)
  clear h
  have q := fun (w : World) (a : Option Addr) (n c : Nat) => Lib.run_eql_slice_nil (P := Tryz.prog) w 42 _ a n c 0 0 Tryz.underlying42
  have HN := Lib.hid hn
  clear hn
  go_enter Tryz.func89, Tryz.ntmps89
  go_wp2_with (first | (at_builtin; refine wpList_appSeen eS (w.alloc (.cells #[] eS.T)) rfl (.tmp 5) (.tmp 6) rfl w.heap.size _ [] rfl HO.out ad t n cap HN.out rfl HH.out (by simp; omega) (by simp) ?_; intro v3 w3 hown3 hb3))
  go_ret
  exact ⟨v3, rfl, hown3, ((Below.refl _ _).alloc (Nat.le_refl _) _).trans hb3⟩
/-- A copy of a path, as a slice. -/
theorem cloneQ13 (ad : Addr) (cap n : Nat) (t : Pth) (w : World) (hn : t.length = n) (hp : n ≤ 1073741824) (h : Seen eS w (some ad) t) :
    Calls Tryz.prog 89 #[.slice (some ad) n cap] w (fun e w' => ∃ A c, e = .returned (.slice A n c) ∧ Own eS w' w.heap.size (.slice A n c) t ∧ Below w.heap.size w w') := by
  refine (clone13 ad cap n t w hn hp h).mono ?_
  rintro e w' ⟨v, rfl, ho, hb⟩
  obtain ⟨A, c, e, hc, hs⟩ := ho.seen
  subst e
  rw [hn] at ho ⊢
  exact ⟨A, c, rfl, ho, hb⟩
theorem ptk13 {w : World} {base n c : Nat} {A : Option Addr} {p : Pth} (h : Own eS w base (.slice A n c) p) (hn : p.length = n) : PtK w base ⟨A, n, c⟩ p := by
  obtain ⟨A2, c2, e, hp⟩ := own_pt h
  injection e with e1 e2 e3
  subst e1; subst e3
  rw [hn] at hp
  exact hp
set_option maxRecDepth 100000 in
set_option maxHeartbeats 16000000 in
theorem faultsC (A B : Option Addr) (c d n m i : Nat) (t : List T.Ln) (p : Pth) (w : World) (hn : t.length = n) (hA : Seen eL w A t) (hl : n ≤ 200) (hR : T.RightT t) (hi : i < n) (hp : T.pathL t i = p) (hm : p.length = m) (hmd : m ≤ d) (hB : Seen eS w B p) (HT : RowsOk w) (hlv : C.liveP p = true) (hk : C.knownP p = 0) :
    Calls Tryz.prog 56 #[.slice A n c, .int .i64 (i : Int), .slice B m d] w (fun e w' => ∃ v, e = .returned v ∧ OwnF eFc w' w.heap.size w.heap.size v (C.faultsP (C.pths t) p) ∧ Below w.heap.size w w') := by
  have hit : i < t.length := by rw [hn]; exact hi
  have hm16 : m ≤ 16 := by
    have h1 := hR.path_len i i (Nat.le_refl _) hit
    have h2 := hR.deep i hit
    rw [hp, hm] at h1; omega
  have hne : p ≠ [] := by rw [← hp]; exact T.path_ne
  have hm0 : 0 < m := by rw [← hm]; exact List.length_pos_iff.2 hne
  have hsw : ShortW p := by rw [← hp]; exact short_path hR hit
  obtain ⟨b, o, rfl, hbw, hLp⟩ := hB (by omega)
  obtain ⟨kk, hkk⟩ : ∃ kk, (T.kidsL t (i : Int)).length = kk := ⟨_, rfl⟩
  obtain ⟨er, her⟩ : ∃ er, C.heldB p kk = er := ⟨_, rfl⟩
  obtain ⟨l, hl0⟩ : ∃ l, needsL p = l := ⟨_, rfl⟩
  obtain ⟨nl, hnl⟩ : ∃ nl, l.length = nl := ⟨_, rfl⟩
  obtain ⟨cb, hcb⟩ : ∃ cb, C.clashB (C.pths t) p = cb := ⟨_, rfl⟩
  have hnl17 : nl ≤ 17 := by rw [← hnl, ← hl0, ← C.need_all]; exact C.need_few p 17
  have HALL := Lib.hid (show C.faultsP (C.pths t) p = C.heldF p er ++ C.lackC (C.pths t) p l nl ++ C.clashF p cb by
    rw [← hnl]
    exact C.faults_three13 (C.pths t) hne hlv hk (by rw [← hp, C.kids_count hR hit, hkk, hp]; exact her) hl0 hcb)
  have HLF := Lib.hid (show ∀ k, (C.lackC (C.pths t) p l k).length ≤ 17 from fun k => C.lackC_few _ _ _ _ (by omega))
  have HA := Lib.hid hA
  have HN := Lib.hid hn
  have HRT := Lib.hid hR
  have HP := Lib.hid hp
  have HM := Lib.hid hm
  have HB := Lib.hid hB
  have HSW := Lib.hid hsw
  have HT := Lib.hid HT
  have HKK := Lib.hid hkk
  have HER := Lib.hid her
  have HLL := Lib.hid hl0
  have HNL := Lib.hid hnl
  have HCB := Lib.hid hcb
  clear hn hA hR hp hm hB hsw hLp hkk her hl0 hnl hcb hlv hk hne hit
  go_enter Tryz.func56, Tryz.ntmps56
  go_wp2_with fail
  refine (heldC A (some ⟨b, o, none⟩) c d n i m kk t p er _ HN.out HA.out hl HRT.out hi HM.out HB.out HSW.out (by omega) HT.out HKK.out HER.out).mono ?_
  rintro e w1 ⟨rfl, hb⟩
  by_cases h0 : er = 0
  · have z0 : (er != 0) = false := by simp [h0]
    have HH0 := Lib.hid (show C.heldF p er = [] by unfold C.heldF; rw [if_neg (fun h => h h0)])
    have HO := Lib.hid (OwnF.nil eFc w1 w.heap.size w.heap.size)
    have HL0 := Lib.hid (show ([] : List Fl).length ≤ 1 by simp)
    clear h0
    go_wp2_with fail
    refine (needsC (some ⟨b, o, none⟩) d m p _ HM.out (HB.out.below hb) HSW.out (by omega) (HT.out.below hb)).mono ?_
    rintro e w3 ⟨v3, rfl, hown3, hx⟩
    rw [HLL.out] at hown3
    have HO3 := Lib.hid (HO.out.keep hx)
    obtain ⟨A3, c3, rfl, hpt3⟩ := own_pt hown3
    have HPL := Lib.hid hpt3.pt
    have HFL := Lib.hid (free13 (m := ⟨A3, l.length, c3⟩) (x := l) HO.out hpt3.from_)
    rw [HNL.out] at HPL HFL ⊢
    replace hb := bthen hb hx
    clear hx hown3 hpt3
    go_wp2
    go_loopg [7, 28] nl (fun g2 vo vi wr => ∃ k : Nat, Hid (k + g2 = nl) ∧ k ≤ nl ∧ vi = .int .i64 (k : Int) ∧ Hid (OwnF eFc wr w.heap.size w.heap.size vo (([] : List Fl) ++ C.lackC (C.pths t) p l k)) ∧ Hid (PtS wr ⟨A3, nl, c3⟩ l) ∧ Hid (FreeQ vo ⟨A3, nl, c3⟩ l) ∧ Below w.heap.size w wr)
    case atStart => exact ⟨0, Nat.zero_add _, Nat.zero_le _, rfl, (by show OwnF _ _ _ _ _ (([] : List Fl) ++ []); rw [List.append_nil]; exact HO3.out), HPL.out, HFL.out, hb⟩
    case round =>
      obtain ⟨k, HG2, hk, rfl, HOK, HPLK, HFLK, hbk⟩ := hrel
      have hgk2 := HG2.out
      have hszk := hbk.size
      by_cases hlt2 : k < nl
      · have blt3 : decide ((k : Int) < (nl : Int)) = true := decide_eq_true (by omega)
        have blt4 : decide (k < nl) = true := decide_eq_true hlt2
        have hki : (k : Int) < (nl : Int) := by omega
        obtain ⟨x, hx0⟩ : ∃ x, l[k]? = some x := ⟨_, List.getElem?_eq_getElem (by rw [HNL.out]; exact hlt2)⟩
        obtain ⟨b5, o5, hA5, hw5, hL5⟩ := HPLK.out.seen (by rw [HNL.out]; omega)
        have hA5 : A3 = some ⟨b5, o5, none⟩ := hA5
        subst hA5
        have c5 : wr.cell? ⟨b5, o5 + k, none⟩ = some (.string (sB x)) := cellS hL5 hx0
        obtain ⟨hz, hhz⟩ : ∃ hz, decide (p ++ [x] ∈ C.pths t) = hz := ⟨_, rfl⟩
        have HHZ := Lib.hid hhz
        have HNX := Lib.hid (C.lackC_next (C.pths t) p hx0 hhz)
        have HPX := Lib.hid (show (p ++ [x]).length = m + 1 by rw [List.length_append, HM.out]; rfl)
        clear hL5 hx0 hhz hw5
        go_wp2_with fail
        refine (cloneQ13 ⟨b, o, none⟩ d m p _ HM.out (by omega) (HB.out.below hbk)).mono ?_
        rintro e w6 ⟨A6, c6, rfl, hown6, hx6⟩
        have HO6 := Lib.hid hown6
        have hsz6 := hx6.size
        have HLM := Lib.hid (show p.length + 1 ≤ 1099511627776 by rw [HM.out]; omega)
        clear hown6
        go_wp2_with (at_builtin; refine wpList_appG eS w6 rfl (.tmp 33) (.tmp 35) rfl wr.heap.size (.slice A6 m c6) p rfl HO6.out x 1 _ rfl w6.heap.size rfl rfl HLM.out hsz6 ?_; intro v7 w7 hown7 hx7)
        have hx67 := hx6.trans hx7
        obtain ⟨A7, c7, rfl, hpt7⟩ := own_pt hown7
        rw [HPX.out] at hpt7 ⊢
        have HPT7 := Lib.hid hpt7
        have HO7 := Lib.hid (HOK.out.keep hx67)
        have HPL7 := Lib.hid (HPLK.out.below hx67)
        have hb7 := bthen hbk hx67
        clear hown7 hpt7 hx6 hx7
        cases hz with
        | true =>
          have HE2 := Lib.hid (show C.lackC (C.pths t) p l (k + 1) = C.lackC (C.pths t) p l k by rw [HNX.out, if_pos rfl, List.append_nil])
          go_wp2_with fail
          refine (thereC A A7 c c7 n (m + 1) t (p ++ [x]) true _ HN.out HPX.out (HA.out.below hb7) HPT7.out.pt.seen (by omega) (by omega) HRT.out HHZ.out).mono ?_
          rintro e w8 ⟨rfl, hx⟩
          go_wp2
          go_roundg (nl - (k + 1))
          case rel => exact ⟨k + 1, (by show _ = _; omega), by omega, by go_num, (by rw [HE2.out]; exact HO7.out.keep hx), HPL7.out.below hx, HFLK.out, bthen hb7 hx⟩
          case measure => omega
        | false =>
          have HE2 := Lib.hid (show C.lackC (C.pths t) p l (k + 1) = C.lackC (C.pths t) p l k ++ [(p ++ [x], 1)] by rw [HNX.out, if_neg (by decide)])
          have HFX := Lib.hid (free13 (m := ⟨A7, m + 1, c7⟩) (x := p ++ [x]) HOK.out HPT7.out.from_)
          go_wp2_with fail
          refine (thereC A A7 c c7 n (m + 1) t (p ++ [x]) false _ HN.out HPX.out (HA.out.below hb7) HPT7.out.pt.seen (by omega) (by omega) HRT.out HHZ.out).mono ?_
          rintro e w8 ⟨rfl, hx⟩
          have HO8 := Lib.hid (HO7.out.keep hx)
          have HPL8 := Lib.hid (HPL7.out.below hx)
          have hb8 := bthen hb7 hx
          have HFK := Lib.hid (show FlK w8 w.heap.size ⟨⟨A7, m + 1, c7⟩, 1⟩ (p ++ [x], 1) from ⟨(HPT7.out.below hx).less hszk, rfl⟩)
          have HLN := Lib.hid (show (([] : List Fl) ++ C.lackC (C.pths t) p l k).length + 1 ≤ 1099511627776 by rw [List.length_append]; have := HLF.out k; have := HL0.out; omega)
          have hszx := hb8.size
          clear hx
          go_wp2_with (at_builtin; refine wpList_appF2 eFc w8 rfl (.tmp 41) (.tmp 44) rfl w.heap.size w.heap.size u7 (([] : List Fl) ++ C.lackC (C.pths t) p l k) rfl HO8.out (p ++ [x], 1) ⟨⟨A7, m + 1, c7⟩, 1⟩ HFK.out HFX.out 1 _ rfl w8.heap.size rfl rfl HLN.out hszx ?_; intro v9 w9 hown9 hb9 hst9)
          obtain ⟨s3, s4⟩ := hst9 _ _ HPL8.out HFLK.out
          go_roundg (nl - (k + 1))
          case rel => exact ⟨k + 1, (by show _ = _; omega), by omega, by go_num, (by rw [HE2.out, ← List.append_assoc]; exact hown9), s3, s4, hb8.trans hb9⟩
          case measure => omega
      · have blt3 : decide ((k : Int) < (nl : Int)) = false := decide_eq_false (by omega)
        have blt4 : decide (k < nl) = false := decide_eq_false hlt2
        obtain rfl : k = nl := by omega
        go_wp2_with fail
        refine (clashesC A (some ⟨b, o, none⟩) c d n m i t p cb _ HN.out (HA.out.below hbk) hl HRT.out hi HP.out HM.out hmd (HB.out.below hbk) (HT.out.below hbk) HCB.out).mono ?_
        rintro e w6 ⟨rfl, hx⟩
        have HO6 := Lib.hid (HOK.out.keep hx)
        have hb6 := bthen hbk hx
        clear hx
        cases cb with
        | false =>
          have HE := Lib.hid (show C.faultsP (C.pths t) p = ([] : List Fl) ++ C.lackC (C.pths t) p l k by rw [HALL.out, HH0.out]; show _ ++ [] = _; rw [List.append_nil])
          go_wp2
          go_ret
          exact ⟨_, rfl, (by rw [HE.out]; exact HO6.out), hb6⟩
        | true =>
          have HE := Lib.hid (show C.faultsP (C.pths t) p = (([] : List Fl) ++ C.lackC (C.pths t) p l k) ++ [(p, 7)] by rw [HALL.out, HH0.out]; rfl)
          go_wp2_with fail
          refine (cloneQ13 ⟨b, o, none⟩ d m p _ HM.out (by omega) (HB.out.below hb6)).mono ?_
          rintro e w7 ⟨A7, c7, rfl, hown7, hx⟩
          have HO7 := Lib.hid (HO6.out.keep hx)
          have hb7 := bthen hb6 hx
          have hpt7 := ptk13 hown7 HM.out
          have HFX := Lib.hid (free13 (m := ⟨A7, m, c7⟩) (x := p) HO6.out hpt7.from_)
          have HFK := Lib.hid (show FlK w7 w.heap.size ⟨⟨A7, m, c7⟩, 7⟩ (p, 7) from ⟨hpt7.less hb6.size, rfl⟩)
          have HLN := Lib.hid (show (([] : List Fl) ++ C.lackC (C.pths t) p l k).length + 1 ≤ 1099511627776 by rw [List.length_append]; have := HLF.out k; have := HL0.out; omega)
          have hszx := hb7.size
          clear hx hown7 hpt7
          go_wp2_with (at_builtin; refine wpList_appF eFc w7 rfl (.tmp 51) (.tmp 55) rfl w.heap.size w.heap.size u7 (([] : List Fl) ++ C.lackC (C.pths t) p l k) rfl HO7.out (p, 7) ⟨⟨A7, m, c7⟩, 7⟩ HFK.out HFX.out 1 _ rfl w7.heap.size rfl rfl HLN.out hszx ?_; intro v9 w9 hown9 hb9)
          go_ret
          exact ⟨_, rfl, (by rw [HE.out]; exact hown9), hb7.trans hb9⟩
  · have z0 : (er != 0) = true := by simp [h0]
    have HH0 := Lib.hid (show C.heldF p er = [(p, er)] by unfold C.heldF; rw [if_pos h0])
    have HL0 := Lib.hid (show ([(p, er)] : List Fl).length ≤ 1 by simp)
    clear h0
    go_wp2_with fail
    refine (cloneQ13 ⟨b, o, none⟩ d m p _ HM.out (by omega) (HB.out.below hb)).mono ?_
    rintro e w2 ⟨A2, c2, rfl, hown2, hx⟩
    have hpt2 := ptk13 hown2 HM.out
    have HO1 := Lib.hid (OwnF.nil eFc w2 w.heap.size w.heap.size)
    have HFX := Lib.hid (free13 (m := ⟨A2, m, c2⟩) (x := p) (OwnF.nil eFc w1 w.heap.size w.heap.size) hpt2.from_)
    have HFK := Lib.hid (show FlK w2 w.heap.size ⟨⟨A2, m, c2⟩, er⟩ (p, er) from ⟨hpt2.less hb.size, rfl⟩)
    replace hb := bthen hb hx
    have hszx := hb.size
    clear hx hown2 hpt2
    go_wp2_with (at_builtin; refine wpList_appF eFc w2 rfl (.tmp 18) (.tmp 23) rfl w.heap.size w.heap.size (.slice none 0 0) [] rfl HO1.out (p, er) ⟨⟨A2, m, c2⟩, er⟩ HFK.out HFX.out 1 _ rfl w2.heap.size rfl rfl (by simp) hszx ?_; intro v9 w9 hown9 hb9)
    replace hb := hb.trans hb9
    have HO := Lib.hid (show OwnF eFc w9 w.heap.size w.heap.size v9 [(p, er)] from hown9)
    clear hb9 hown9
    refine (needsC (some ⟨b, o, none⟩) d m p _ HM.out (HB.out.below hb) HSW.out (by omega) (HT.out.below hb)).mono ?_
    rintro e w3 ⟨v3, rfl, hown3, hx⟩
    rw [HLL.out] at hown3
    have HO3 := Lib.hid (HO.out.keep hx)
    obtain ⟨A3, c3, rfl, hpt3⟩ := own_pt hown3
    have HPL := Lib.hid hpt3.pt
    have HFL := Lib.hid (free13 (m := ⟨A3, l.length, c3⟩) (x := l) HO.out hpt3.from_)
    rw [HNL.out] at HPL HFL ⊢
    replace hb := bthen hb hx
    clear hx hown3 hpt3
    go_wp2
    go_loopg [7, 28] nl (fun g2 vo vi wr => ∃ k : Nat, Hid (k + g2 = nl) ∧ k ≤ nl ∧ vi = .int .i64 (k : Int) ∧ Hid (OwnF eFc wr w.heap.size w.heap.size vo ([(p, er)] ++ C.lackC (C.pths t) p l k)) ∧ Hid (PtS wr ⟨A3, nl, c3⟩ l) ∧ Hid (FreeQ vo ⟨A3, nl, c3⟩ l) ∧ Below w.heap.size w wr)
    case atStart => exact ⟨0, Nat.zero_add _, Nat.zero_le _, rfl, (by show OwnF _ _ _ _ _ ([(p, er)] ++ []); rw [List.append_nil]; exact HO3.out), HPL.out, HFL.out, hb⟩
    case round =>
      obtain ⟨k, HG2, hk, rfl, HOK, HPLK, HFLK, hbk⟩ := hrel
      have hgk2 := HG2.out
      have hszk := hbk.size
      by_cases hlt2 : k < nl
      · have blt3 : decide ((k : Int) < (nl : Int)) = true := decide_eq_true (by omega)
        have blt4 : decide (k < nl) = true := decide_eq_true hlt2
        have hki : (k : Int) < (nl : Int) := by omega
        obtain ⟨x, hx0⟩ : ∃ x, l[k]? = some x := ⟨_, List.getElem?_eq_getElem (by rw [HNL.out]; exact hlt2)⟩
        obtain ⟨b5, o5, hA5, hw5, hL5⟩ := HPLK.out.seen (by rw [HNL.out]; omega)
        have hA5 : A3 = some ⟨b5, o5, none⟩ := hA5
        subst hA5
        have c5 : wr.cell? ⟨b5, o5 + k, none⟩ = some (.string (sB x)) := cellS hL5 hx0
        obtain ⟨hz, hhz⟩ : ∃ hz, decide (p ++ [x] ∈ C.pths t) = hz := ⟨_, rfl⟩
        have HHZ := Lib.hid hhz
        have HNX := Lib.hid (C.lackC_next (C.pths t) p hx0 hhz)
        have HPX := Lib.hid (show (p ++ [x]).length = m + 1 by rw [List.length_append, HM.out]; rfl)
        clear hL5 hx0 hhz hw5
        go_wp2_with fail
        refine (cloneQ13 ⟨b, o, none⟩ d m p _ HM.out (by omega) (HB.out.below hbk)).mono ?_
        rintro e w6 ⟨A6, c6, rfl, hown6, hx6⟩
        have HO6 := Lib.hid hown6
        have hsz6 := hx6.size
        have HLM := Lib.hid (show p.length + 1 ≤ 1099511627776 by rw [HM.out]; omega)
        clear hown6
        go_wp2_with (at_builtin; refine wpList_appG eS w6 rfl (.tmp 33) (.tmp 35) rfl wr.heap.size (.slice A6 m c6) p rfl HO6.out x 1 _ rfl w6.heap.size rfl rfl HLM.out hsz6 ?_; intro v7 w7 hown7 hx7)
        have hx67 := hx6.trans hx7
        obtain ⟨A7, c7, rfl, hpt7⟩ := own_pt hown7
        rw [HPX.out] at hpt7 ⊢
        have HPT7 := Lib.hid hpt7
        have HO7 := Lib.hid (HOK.out.keep hx67)
        have HPL7 := Lib.hid (HPLK.out.below hx67)
        have hb7 := bthen hbk hx67
        clear hown7 hpt7 hx6 hx7
        cases hz with
        | true =>
          have HE2 := Lib.hid (show C.lackC (C.pths t) p l (k + 1) = C.lackC (C.pths t) p l k by rw [HNX.out, if_pos rfl, List.append_nil])
          go_wp2_with fail
          refine (thereC A A7 c c7 n (m + 1) t (p ++ [x]) true _ HN.out HPX.out (HA.out.below hb7) HPT7.out.pt.seen (by omega) (by omega) HRT.out HHZ.out).mono ?_
          rintro e w8 ⟨rfl, hx⟩
          go_wp2
          go_roundg (nl - (k + 1))
          case rel => exact ⟨k + 1, (by show _ = _; omega), by omega, by go_num, (by rw [HE2.out]; exact HO7.out.keep hx), HPL7.out.below hx, HFLK.out, bthen hb7 hx⟩
          case measure => omega
        | false =>
          have HE2 := Lib.hid (show C.lackC (C.pths t) p l (k + 1) = C.lackC (C.pths t) p l k ++ [(p ++ [x], 1)] by rw [HNX.out, if_neg (by decide)])
          have HFX := Lib.hid (free13 (m := ⟨A7, m + 1, c7⟩) (x := p ++ [x]) HOK.out HPT7.out.from_)
          go_wp2_with fail
          refine (thereC A A7 c c7 n (m + 1) t (p ++ [x]) false _ HN.out HPX.out (HA.out.below hb7) HPT7.out.pt.seen (by omega) (by omega) HRT.out HHZ.out).mono ?_
          rintro e w8 ⟨rfl, hx⟩
          have HO8 := Lib.hid (HO7.out.keep hx)
          have HPL8 := Lib.hid (HPL7.out.below hx)
          have hb8 := bthen hb7 hx
          have HFK := Lib.hid (show FlK w8 w.heap.size ⟨⟨A7, m + 1, c7⟩, 1⟩ (p ++ [x], 1) from ⟨(HPT7.out.below hx).less hszk, rfl⟩)
          have HLN := Lib.hid (show ([(p, er)] ++ C.lackC (C.pths t) p l k).length + 1 ≤ 1099511627776 by rw [List.length_append]; have := HLF.out k; have := HL0.out; omega)
          have hszx := hb8.size
          clear hx
          go_wp2_with (at_builtin; refine wpList_appF2 eFc w8 rfl (.tmp 41) (.tmp 44) rfl w.heap.size w.heap.size u7 ([(p, er)] ++ C.lackC (C.pths t) p l k) rfl HO8.out (p ++ [x], 1) ⟨⟨A7, m + 1, c7⟩, 1⟩ HFK.out HFX.out 1 _ rfl w8.heap.size rfl rfl HLN.out hszx ?_; intro v9 w9 hown9 hb9 hst9)
          obtain ⟨s3, s4⟩ := hst9 _ _ HPL8.out HFLK.out
          go_roundg (nl - (k + 1))
          case rel => exact ⟨k + 1, (by show _ = _; omega), by omega, by go_num, (by rw [HE2.out, ← List.append_assoc]; exact hown9), s3, s4, hb8.trans hb9⟩
          case measure => omega
      · have blt3 : decide ((k : Int) < (nl : Int)) = false := decide_eq_false (by omega)
        have blt4 : decide (k < nl) = false := decide_eq_false hlt2
        obtain rfl : k = nl := by omega
        go_wp2_with fail
        refine (clashesC A (some ⟨b, o, none⟩) c d n m i t p cb _ HN.out (HA.out.below hbk) hl HRT.out hi HP.out HM.out hmd (HB.out.below hbk) (HT.out.below hbk) HCB.out).mono ?_
        rintro e w6 ⟨rfl, hx⟩
        have HO6 := Lib.hid (HOK.out.keep hx)
        have hb6 := bthen hbk hx
        clear hx
        cases cb with
        | false =>
          have HE := Lib.hid (show C.faultsP (C.pths t) p = [(p, er)] ++ C.lackC (C.pths t) p l k by rw [HALL.out, HH0.out]; show _ ++ [] = _; rw [List.append_nil])
          go_wp2
          go_ret
          exact ⟨_, rfl, (by rw [HE.out]; exact HO6.out), hb6⟩
        | true =>
          have HE := Lib.hid (show C.faultsP (C.pths t) p = ([(p, er)] ++ C.lackC (C.pths t) p l k) ++ [(p, 7)] by rw [HALL.out, HH0.out]; rfl)
          go_wp2_with fail
          refine (cloneQ13 ⟨b, o, none⟩ d m p _ HM.out (by omega) (HB.out.below hb6)).mono ?_
          rintro e w7 ⟨A7, c7, rfl, hown7, hx⟩
          have HO7 := Lib.hid (HO6.out.keep hx)
          have hb7 := bthen hb6 hx
          have hpt7 := ptk13 hown7 HM.out
          have HFX := Lib.hid (free13 (m := ⟨A7, m, c7⟩) (x := p) HO6.out hpt7.from_)
          have HFK := Lib.hid (show FlK w7 w.heap.size ⟨⟨A7, m, c7⟩, 7⟩ (p, 7) from ⟨hpt7.less hb6.size, rfl⟩)
          have HLN := Lib.hid (show ([(p, er)] ++ C.lackC (C.pths t) p l k).length + 1 ≤ 1099511627776 by rw [List.length_append]; have := HLF.out k; have := HL0.out; omega)
          have hszx := hb7.size
          clear hx hown7 hpt7
          go_wp2_with (at_builtin; refine wpList_appF eFc w7 rfl (.tmp 51) (.tmp 55) rfl w.heap.size w.heap.size u7 ([(p, er)] ++ C.lackC (C.pths t) p l k) rfl HO7.out (p, 7) ⟨⟨A7, m, c7⟩, 7⟩ HFK.out HFX.out 1 _ rfl w7.heap.size rfl rfl HLN.out hszx ?_; intro v9 w9 hown9 hb9)
          go_ret
          exact ⟨_, rfl, (by rw [HE.out]; exact hown9), hb7.trans hb9⟩
end Go.Proofs.YtfcikfohmehmkaaGreatDoor

namespace Go.Proofs.YtfcikfohmehmkaaGreatDoor
open Go.RowKit
open F
open T (Pth)
set_option linter.unusedVariables false

/-- append of many faults. -/
theorem wpList_appFM (E : Elem FlM) {ops : Array Oper} {rest : List Oper} {o : Oper} {a : Act} {Q : Exit → Act → World → Prop} (w : World) (hgd : o.guard = none) (s x : Operand)
    (ho : o.op = .call { callee := .builtin .append, args := #[s, x], argTypes := #[E.st, E.st] })
    (base k k2 : Nat) (v : Value) (L : List Fl) (hs : a.eval s = v) (hown : OwnF E w base k v L) (v2 : Value) (L2 : List Fl) (hx : a.eval x = v2) (h2 : ManyF E w k2 v2 L2) (hk : k ≤ k2) (hfree : ∀ b, v.ownBlock = some b → b < k2)
    (hlen : L.length + L2.length ≤ 1099511627776) (hb : base ≤ w.heap.size)
    (h : ∀ v' w', OwnF E w' base k v' (L ++ L2) → Below base w w' → wpList Tryz.prog ops Q rest (a.put o.dst v') w') : wpList Tryz.prog ops Q (o :: rest) a w := by
  obtain ⟨M, h1, h3, h4⟩ := hown
  obtain ⟨M2, g1, g3, g4⟩ := h2
  refine wpList_appM E w hgd s x ho base v M hs h3 v2 M2 hx g3 (by omega) hb fun v' w' hO hB hG => h v' w' ?_ hB
  have step : ∀ (m : FlM) (x : Fl), FlK w k m x → FreeQ v m.1 x.1 → FlK w' k m x ∧ FreeQ v' m.1 x.1 := by
    intro m x hx hf
    obtain ⟨q1, q2, q3⟩ := hG
    refine ⟨⟨⟨⟨hx.pt.pt.len, hx.pt.pt.cap, fun hp => ?_⟩, hx.pt.from_⟩, hx.num⟩, fun hp a ha e => ?_⟩
    · obtain ⟨b, o, e, hb, hH⟩ := hx.pt.pt.seen hp
      have hne := hf hp _ e
      exact ⟨b, o, e, Nat.lt_of_lt_of_le hb q1, holds_of_block hH (q2 b hb hne)⟩
    · obtain ⟨b, o, e2, hb, _⟩ := hx.pt.pt.seen hp
      have hne := hf hp a ha
      have eb : a.block = b := by rw [e2] at ha; injection ha with ha; rw [← ha]
      rcases q3 _ e with h | h
      · exact hne h
      · omega
  refine ⟨M ++ M2, by rw [List.length_append, List.length_append, h1, g1], hO, fun i hi1 hi2 => ?_⟩
  by_cases hi : i < M.length
  · rw [List.getElem_append_left hi, List.getElem_append_left (by omega)]
    exact step _ _ (h4 i hi (by omega)).1 (h4 i hi (by omega)).2
  · rw [List.getElem_append_right (by omega), List.getElem_append_right (by omega)]
    have e : i - L.length = i - M.length := by omega
    have hq := g4 (i - M.length) (by rw [List.length_append] at hi1; omega) (by rw [List.length_append] at hi2; omega)
    have hi3 : i - M.length < M2.length := by rw [List.length_append] at hi1; omega
    have hq2 : FlK w k2 M2[i - M.length] (L2[i - L.length]'(by rw [List.length_append] at hi2; omega)) := by simp only [e]; exact hq
    refine step _ _ (hq2.less hk) (fun hp a ha e2 => ?_)
    have h5 := hq2.pt.from_ a ha
    have h6 := hfree _ e2
    omega
theorem rightC13 (A : Option Addr) (c n : Nat) (t : List T.Ln) (b : Bool) (w : World) (hn : t.length = n) (hA : Seen eL w A t) (hl : n ≤ 1073741824) (h : b = true ↔ T.RightT t) : Calls Tryz.prog 52 #[.slice A n c] w (BoolS w b) := by subst hn; exact right_is A c t b w hA hl h
theorem endC13 (A : Option Addr) (c n : Nat) (t : List T.Ln) (i : Nat) (w : World) (hn : t.length = n) (hA : Seen eL w A t) (hl : n ≤ 1073741824) (hi : i < n) (hR : T.RightT t) :
    Calls Tryz.prog 55 #[.slice A n c, .int .i64 (i : Int)] w (IntS w (T.endL t i : Nat)) := by subst hn; exact End_yes A c t i w hA hl hi hR
set_option maxRecDepth 100000 in
set_option maxHeartbeats 8000000 in
theorem checkC (A : Option Addr) (c n m : Nat) (t : List T.Ln) (L : List Fl) (er : Int) (w : World) (HTA : LArgS w A c n t) (HCI : CheckIs t L er) (hLm : L.length = m) (HT : RowsOk w) :
    Calls Tryz.prog 26 #[.slice A n c] w (fun e w' => ∃ B d, e = .returned (.tuple #[.slice B m d, .int .i64 er]) ∧ (ManyF eFc w' w.heap.size (.slice B m d) L ∧ ∀ a, B = some a → w.heap.size ≤ a.block) ∧ Below w.heap.size w w') := by
  have HN := Lib.hid HTA.len
  have HA := Lib.hid HTA.seen
  have hl := HTA.most
  have hl30 : n ≤ 1073741824 := by omega
  have HTB := Lib.hid HT
  clear HTA HT
  rcases HCI with ⟨hR, hL, rfl⟩ | ⟨hR, hL, rfl⟩
  · have HRT := Lib.hid hR
    have HFEW := Lib.hid (show ∀ i, i ≤ n → (C.checkTo t i).length ≤ 600 by intro i hi; have := C.check_few t i (by have := HN.out; omega); omega)
    have HLL := Lib.hid hL
    have HLM := Lib.hid hLm
    clear hR hL hLm
    go_enter Tryz.func26, Tryz.ntmps26
    go_wp2_with fail
    refine (rightC13 A c n t true _ HN.out HA.out hl30 ⟨fun _ => HRT.out, fun _ => rfl⟩).mono ?_
    rintro e w1 ⟨rfl, hb1⟩
    go_wp2
    go_loopg [4, 5] n (fun gk vo vi wr => ∃ i : Nat, Hid (i + gk = n) ∧ i ≤ n ∧ vi = .int .i64 (i : Int) ∧ Hid (OwnF eFc wr w.heap.size w.heap.size vo (C.checkTo t i)) ∧ Hid (C.Going t i) ∧ Below w.heap.size w wr)
    case atStart => exact ⟨0, Nat.zero_add _, Nat.zero_le _, rfl, OwnF.nil _ _ _ _, C.Going.start t, hb1⟩
    case round =>
      obtain ⟨i, HG, hi, rfl, HO, HGO, hb⟩ := hrel
      have hgk := HG.out
      by_cases hlt : i < n
      · have blt : decide ((i : Int) < (n : Int)) = true := decide_eq_true (by omega)
        have blt2 : decide (i < n) = true := decide_eq_true hlt
        have hit : i < t.length := by rw [HN.out]; exact hlt
        have HIT := Lib.hid hit
        obtain ⟨p, hp⟩ : ∃ p, T.pathL t i = p := ⟨_, rfl⟩
        obtain ⟨np, hnp⟩ : ∃ np, p.length = np := ⟨_, rfl⟩
        have hne : p ≠ [] := by rw [← hp]; exact T.path_ne
        have HSW := Lib.hid (show ShortW p by rw [← hp]; exact short_path HRT.out hit)
        have hnp16 : np ≤ 16 := by
          have h1 := HRT.out.path_len i i (Nat.le_refl _) hit
          have h2 := HRT.out.deep i hit
          rw [hp, hnp] at h1; omega
        have hnp0 : 0 < np := by rw [← hnp]; exact List.length_pos_iff.2 hne
        have HLV := Lib.hid (show C.liveP p = true by rw [← hp]; exact C.Going.live HRT.out hit HGO.out)
        obtain ⟨ke, hke⟩ : ∃ ke, C.knownP p = ke := ⟨_, rfl⟩
        have HUN := Lib.hid (show C.unsaidB p = ke by rw [C.unsaid_known hne HLV.out, hke])
        have HKE := Lib.hid hke
        have HP := Lib.hid hp
        have HNP := Lib.hid hnp
        have hwr := hb.size
        clear hp hnp hne hke hit
        go_wp2_with fail
        refine (pathC13 A c n np i t p _ HN.out HNP.out (HA.out.below hb) hl30 hlt HRT.out HP.out).mono ?_
        rintro e w2 ⟨B, d, rfl, hpt, hx⟩
        have HFR := Lib.hid (free13 (m := ⟨B, np, d⟩) (x := p) HO.out hpt.from_)
        have HPT := Lib.hid hpt
        have HO2 := Lib.hid (HO.out.keep hx)
        have hb2 := bthen hb hx
        clear hx hpt
        go_wp2_with fail
        refine (unsaidC B d np p ke _ HNP.out HPT.out.pt.cap HPT.out.pt.seen HSW.out hnp0 (by omega) (HTB.out.below hb2) HUN.out).mono ?_
        rintro e w3 ⟨rfl, hx⟩
        have HO3 := Lib.hid (HO2.out.keep hx)
        have hb3 := bthen hb2 hx
        have HPT3 := Lib.hid ((HPT.out.below hx).less hwr)
        have hsz3 := hb3.size
        clear hx hb2 HO2 HPT
        by_cases hk0 : ke = 0
        · subst hk0
          have z0 : ((0 : Int) != 0) = false := rfl
          have HGN := Lib.hid (C.Going.next HGO.out (by rw [HP.out]; exact HKE.out))
          have HST := Lib.hid (show C.checkTo t (i + 1) = C.checkTo t i ++ C.faultsP (C.pths t) p from C.step_live HRT.out HIT.out HGO.out HP.out)
          go_wp2_with fail
          refine (faultsC A B c d n np i t p _ HN.out (HA.out.below hb3) hl HRT.out hlt HP.out HNP.out HPT3.out.pt.cap HPT3.out.pt.seen (HTB.out.below hb3) HLV.out HKE.out).mono ?_
          rintro e w4 ⟨v4, rfl, hown4, hx⟩
          have HO4 := Lib.hid (HO3.out.keep hx)
          have HM4 := Lib.hid hown4.flMany
          have HBK := Lib.hid (show ∀ b, u4.ownBlock = some b → b < w3.heap.size from fun b e => (HO3.out.flBlock b e).2)
          have HLN := Lib.hid (show (C.checkTo t i).length + (C.faultsP (C.pths t) p).length ≤ 1099511627776 by have := HFEW.out i (by omega); have := C.faults_few (C.pths t) p; omega)
          have hb4 := bthen hb3 hx
          have hszx := hb4.size
          clear hx hown4
          go_wp2_with (at_builtin; refine wpList_appFM eFc w4 rfl (.tmp 35) (.tmp 39) rfl w.heap.size w.heap.size w3.heap.size u4 (C.checkTo t i) rfl HO4.out v4 (C.faultsP (C.pths t) p) rfl HM4.out hsz3 HBK.out HLN.out hszx ?_; intro v5 w5 hown5 hb5)
          go_roundg (n - (i + 1))
          case rel => exact ⟨i + 1, (by show _ = _; omega), by omega, by go_num, (by rw [HST.out]; exact hown5), HGN.out, hb4.trans hb5⟩
          case measure => omega
        · have z0 : (ke != 0) = true := by simp [hk0]
          obtain ⟨en, hen⟩ : ∃ en, T.endL t i = en := ⟨_, rfl⟩
          have HEN := Lib.hid hen
          have hsp := T.end_spec t i HIT.out
          have hen1 : i < en := by rw [← hen]; omega
          have hen2 : en ≤ n := by rw [← hen, ← HN.out]; exact hsp.2.1
          have HGN := Lib.hid (show C.Going t en by rw [← hen]; exact C.Going.skip HRT.out HIT.out HGO.out)
          have HE := Lib.hid (show C.checkTo t en = C.checkTo t i ++ [(p, ke)] by rw [← hen]; exact C.step_end HRT.out HIT.out HGO.out HP.out HKE.out hk0)
          have HLN := Lib.hid (show (C.checkTo t i).length + 1 ≤ 1099511627776 by have := HFEW.out i (by omega); omega)
          have HFX := Lib.hid (show FlK w3 w.heap.size ⟨⟨B, np, d⟩, ke⟩ (p, ke) from ⟨HPT3.out, rfl⟩)
          clear hsp hen hk0
          go_wp2_with (at_builtin; refine wpList_appF eFc w3 rfl (.tmp 26) (.tmp 30) rfl w.heap.size w.heap.size u4 (C.checkTo t i) rfl HO3.out (p, ke) ⟨⟨B, np, d⟩, ke⟩ HFX.out HFR.out 1 _ rfl w3.heap.size rfl rfl HLN.out hsz3 ?_; intro v5 w5 hown5 hb5)
          refine (endC13 A c n t i _ HN.out (HA.out.below (hb3.trans hb5)) hl30 hlt HRT.out).mono ?_
          rintro e w6 ⟨rfl, hx⟩
          rw [HEN.out]
          go_wp2
          go_roundg (n - en)
          case rel => exact ⟨en, (by show _ = _; omega), hen2, rfl, (by rw [HE.out]; exact hown5.keep hx), HGN.out, bthen (hb3.trans hb5) hx⟩
          case measure => omega
      · have blt : decide ((i : Int) < (n : Int)) = false := decide_eq_false (by omega)
        have blt2 : decide (i < n) = false := decide_eq_false hlt
        obtain rfl : i = n := by omega
        have HE := Lib.hid (show C.checkTo t i = L by rw [HLL.out, ← HN.out]; exact C.check_full t)
        have HOL := Lib.hid (show OwnF eFc wr w.heap.size w.heap.size u4 L by rw [← HE.out]; exact HO.out)
        obtain ⟨B9, d9, e9, hc9, hs9⟩ := HOL.out.flMany.seenF
        subst e9
        rw [HLM.out] at hc9 HOL
        have HFRM := Lib.hid (show ∀ a, B9 = some a → w.heap.size ≤ a.block by
          intro a ha
          subst ha
          exact (HOL.out.flBlock a.block rfl).1)
        go_wp2
        rw [HLM.out]
        go_ret2
        exact ⟨B9, d9, rfl, ⟨HOL.out.flMany, HFRM.out⟩, hb⟩
  · have HNO := Lib.hid hR
    subst hL
    obtain rfl : 0 = m := hLm
    clear hR
    go_enter Tryz.func26, Tryz.ntmps26
    go_wp2_with fail
    refine (rightC13 A c n t false _ HN.out HA.out hl30 ⟨fun h => (by cases h), fun h => absurd h HNO.out⟩).mono ?_
    rintro e w1 ⟨rfl, hb1⟩
    go_wp2
    go_ret2
    exact ⟨none, 0, rfl, ⟨ManyF.nil _ _ _, fun a h => by cases h⟩, hb1⟩
end Go.Proofs.YtfcikfohmehmkaaGreatDoor
