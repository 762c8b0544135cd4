/-
  Part 10 of what the proofs of this claim stand on. No conditions but those that each theorem states.
-/
import Derived.Test.YtfcikfohmehmkaaGreatDoorTabs9
import Derived.Deep.RegionHeld3

namespace Go.Proofs.YtfcikfohmehmkaaGreatDoor
namespace C
open T (Pth pless RightN RightT pathL kidsL endL wd Ln isIn)
theorem step_live {Z : Nat} {t : List Ln} (h : RightN Z t) {i : Nat} (hi : i < t.length) (g : Going t i) {p : Pth} (hp : pathL t i = p) : checkTo t (i + 1) = checkTo t i ++ faultsP (pths t) p := by
 rw [check_step hi, ← hp]; unfold atP; rw [if_pos (Going.live h hi g)]
theorem step_end {Z : Nat} {t : List Ln} (h : RightN Z t) {i : Nat} (hi : i < t.length) (g : Going t i) {p : Pth} (hp : pathL t i = p) {k : Int} (hk : knownP p = k) (h0 : k ≠ 0) : checkTo t (endL t i) = checkTo t i ++ [(p, k)] := by
 subst hp; subst hk
 rw [check_end h hi h0]
 unfold atP
 rw [if_pos (Going.live h hi g)]
 unfold faultsP
 rw [if_pos h0]
theorem needs_few (a : Wd) : (needsW a).length ≤ 3 := by
 unfold needsW
 repeat' split
 all_goals simp
theorem faults_few (P : List Pth) (p : Pth) : (faultsP P p).length ≤ 3 := by
 unfold faultsP
 split
 ·simp
 ·split
  ·rw [List.length_map]; exact Nat.le_trans (List.length_filter_le _ _) (needs_few _)
  ·repeat' split
   all_goals simp
  ·split <;> simp
  ·simp
theorem check_few (t : List Ln) : ∀ i, i ≤ t.length → (checkTo t i).length ≤ 3 * i
 | 0, _ => by rw [check_none0]; simp
 | i + 1, h => by
  rw [check_step (by omega), List.length_append]
  have h1 := check_few t i (by omega)
  have h2 : (atP (pths t) (pathL t i)).length ≤ 3 := by
   unfold atP
   split
   ·exact faults_few _ _
   ·simp
  omega
def lackTo (P : List Pth) (a b : Wd) (k : Nat) : List (Pth × Int) := (((needsW a).take k).filter fun w => !hasP P [a, b] w).map fun w => ([a, b] ++ [w], 1)
theorem lack_next (P : List Pth) (a b : Wd) {k : Nat} {x : Wd} (hx : (needsW a)[k]? = some x) : lackTo P a b (k + 1) = lackTo P a b k ++ if hasP P [a, b] x = true then [] else [([a, b] ++ [x], 1)] := by
 unfold lackTo
 obtain ⟨h5, h6⟩ := List.getElem?_eq_some_iff.1 hx
 rw [List.take_succ_eq_append_getElem h5, h6, List.filter_append, List.map_append]
 congr 1
 cases h : hasP P [a, b] x <;> simp [List.filter, h]
theorem lack_all (P : List Pth) (a b : Wd) (hk : knownP [a, b] = 0) : faultsP P [a, b] = lackTo P a b (needsW a).length := by
 unfold faultsP lackTo
 rw [if_neg (fun h => h hk), List.take_of_length_le (Nat.le_refl _)]
theorem lack_few (P : List Pth) (a b : Wd) (k : Nat) : (lackTo P a b k).length ≤ 3 := by
 unfold lackTo
 rw [List.length_map]
 refine Nat.le_trans (List.length_filter_le _ _) ?_
 rw [List.length_take]
 have := needs_few a
 omega
theorem faults_three (P : List Pth) (a b c : Wd) (hk : knownP [a, b, c] = 0) : faultsP P [a, b, c] = if (thirdK (key a c)).2.1 = true then (if (kidsP P [a, b, c]).length = 0 then [([a, b, c], 1)] else if 1 < (kidsP P [a, b, c]).length then [([a, b, c], 4)] else []) else [] := by
 unfold faultsP; rw [if_neg (fun h => h hk)]
theorem faults_four (P : List Pth) (a b c d : Wd) (hk : knownP [a, b, c, d] = 0) : faultsP P [a, b, c, d] = if meantP P [a, b, c, d] = true then [([a, b, c, d], 7)] else [] := by
 unfold faultsP; rw [if_neg (fun h => h hk)]
theorem faults_one (P : List Pth) (a : Wd) (hk : knownP [a] = 0) : faultsP P [a] = [] := by
 unfold faultsP; rw [if_neg (fun h => h hk)]
end C
open Go.RowKit
open F
set_option linter.unusedVariables false
theorem free13 {E : Elem FlM} {w : World} {base k : Nat} {v : Value} {L : List Fl} {m : PtM} {x : T.Pth} (h : OwnF E w base k v L) (hf : ∀ a, m.A = some a → w.heap.size ≤ a.block) : FreeQ v m x := by
 intro _ a ha e
 have h5 := hf a ha
 have h6 := (h.flBlock _ e).2
 omega
theorem wpList_appF2 (E : Elem FlM) {ops : Array Oper} {rest : List Oper} {o : Oper} {a : Act} {Q : Exit → Act → World → Prop} (w : World) (hgd : o.guard = none) (s x : Operand)
  (ho : o.op = .call { callee := .builtin .append, args := #[s, x], argTypes := #[E.st, E.st] })
  (base k : Nat) (v : Value) (L : List Fl) (hs : a.eval s = v) (hown : OwnF E w base k v L) (y : Fl) (m : FlM) (hy : FlK w k m y) (hf : FreeQ v m.1 y.1) (cap : Nat) (cs : Array Value) (hcs : cs.toList = E.C m)
  (g : Nat) (hg : w.heap.size = g) (hx : a.eval x = .slice (some ⟨g, 0, none⟩) 1 cap) (hlen : L.length + 1 ≤ 1099511627776) (hb : base ≤ w.heap.size)
  (h : ∀ v' w', OwnF E w' base k v' (L ++ [y]) → Below base w w' → (∀ (m : PtM) (x : T.Pth), PtS w m x → FreeQ v m x → PtS w' m x ∧ FreeQ v' m x) → wpList Tryz.prog ops Q rest (a.put o.dst v') w') : wpList Tryz.prog ops Q (o :: rest) a (w.alloc (.cells cs E.T)) := by
 obtain ⟨M, h1, h2, h3⟩ := hown
 refine wpList_app3 E w hgd s x ho base v M hs h2 m cap cs hcs g hg hx (by omega) hb fun v' w' hG => h v' w' (OwnF.snoc h1 h3 hy hf hG) (hG.below h2 hb) fun m x hx hf => ?_
 refine ⟨⟨hx.len, hx.cap, fun hp => ?_⟩, fun hp a ha e => ?_⟩
 ·obtain ⟨b, o, e, hb, hH⟩ := hx.seen hp
  have hne := hf hp _ e
  exact ⟨b, o, e, Nat.lt_of_lt_of_le hb hG.grown.size, holds_of_block hH (hG.grown.block b hb (fun e => hne e.symm))⟩
 ·obtain ⟨b, o, e2, hb, _⟩ := hx.seen hp
  have hne := hf hp a ha
  have eb : a.block = b := by rw [e2] at ha; injection ha with ha; rw [← ha]
  rcases hG.at_ with h | ⟨g, h, h4⟩
  ·rw [h] at e; exact hne e
  ·rw [h] at e; injection e with e; omega
theorem vec13 {w : World} {m : PtM} {x : T.Pth} (h : PtS w m x) (h0 : 0 < x.length) : VecAt eS w (.slice m.A m.n m.c) x := by
 obtain ⟨A, n, c⟩ := m
 obtain ⟨b, o, e, hb, hH⟩ := h.seen h0
 have e : A = some ⟨b, o, none⟩ := e
 subst e
 have hl : x.length = n := h.len
 subst hl
 exact .inr ⟨b, o, c, rfl, h.cap, hb, hH⟩
theorem meantQ {Z : Nat} (A : Option Addr) (c n : Nat) (t : List T.Ln) (i : Nat) (B : Option Addr) (d : Nat) (x0 x1 x2 x3 : List UInt8) (r : Bool) (w : World) (hn : t.length = n) (hA : Seen eL w A t) (hl : n ≤ 1073741824) (hR : T.RightN Z t) (hi : i < n) (hp : T.pathL t i = [x0, x1, x2, x3]) (hB : Seen eS w B [x0, x1, x2, x3]) (hr : C.meantP (C.pths t) [x0, x1, x2, x3] = r) :
  Calls Tryz.prog 67 #[.slice A n c, .int .i64 (i : Int), .slice B 4 d] w (BoolS w r) := meantR A c n t i B d x0 x1 x2 x3 r w hn hA hl hR hi hp hB hr
theorem needsQ (x : List UInt8) (l : List C.Wd) (m : Nat) (w : World) (h : C.needsW x = l) (hm : l.length = m) : Calls Tryz.prog 64 #[.string (sB x)] w (fun e w' => ∃ A c, e = .returned (.slice A m c) ∧ PtK w' w.heap.size ⟨A, m, c⟩ l ∧ Below w.heap.size w w') := by
 subst h; subst hm
 refine (needsR x w).mono ?_
 rintro e w' ⟨A, c, rfl, h1, h2, h3, h4⟩
 exact ⟨A, c, rfl, ⟨⟨rfl, h1, h2⟩, h3⟩, h4⟩
set_option maxRecDepth 100000 in
set_option maxHeartbeats 8000000 in
theorem checkR {Z : Nat} (A : Option Addr) (c n : Nat) (t : List T.Ln) (w : World) (hn : t.length = n) (hA : Seen eL w A t) (hl : n ≤ 200) (hR : T.RightN Z t) :
  Calls Tryz.prog 32 #[.slice A n c] w (fun e w' => ∃ v, e = .returned v ∧ OwnF eFd w' w.heap.size w.heap.size v (C.checkP (C.pths t)) ∧ Below w.heap.size w w') := by
 have HA := Lib.hid hA
 have HN := Lib.hid hn
 have HRT := Lib.hid hR
 have hl30 : n ≤ 1073741824 := by omega
 have HFEW := Lib.hid (show ∀ i, i ≤ n → (C.checkTo t i).length ≤ 600 by intro i hi; have := C.check_few t i (by omega); omega)
 clear hA hn hR
 go_enter Tryz.func32, Tryz.ntmps32
 go_wp2
 go_loopg [3, 4] n (fun gk vo vi wr => ∃ i : Nat, Hid (i + gk = n) ∧ i ≤ n ∧ vi = .int .i64 (i : Int) ∧ Hid (OwnF eFd wr w.heap.size w.heap.size vo (C.checkTo t i)) ∧ Hid (C.Going t i) ∧ Below w.heap.size w wr)
 case atStart => exact ⟨0, Nat.zero_add _, Nat.zero_le _, rfl, OwnF.nil _ _ _ _, C.Going.start t, Below.refl _ _⟩
 case round =>
  obtain ⟨i, HG, hi, rfl, HO, HGO, hb⟩ := hrel
  have hgk := HG.out
  by_cases hlt : i < n
  ·have blt : decide ((i : Int) < (n : Int)) = true := decide_eq_true (by omega)
   have blt2 : decide (i < n) = true := decide_eq_true hlt
   have hit : i < t.length := by rw [HN.out]; exact hlt
   have HIT := Lib.hid hit
   go_wp2_with fail
   refine (pathN13 A c n t i _ HN.out (HA.out.below hb) hlt hl30 HRT.out).mono ?_
   rintro e w2 ⟨B, d, rfl, hd, hs, hfr, hx⟩
   obtain ⟨p, hp⟩ : ∃ p, T.pathL t i = p := ⟨_, rfl⟩
   rw [hp] at hd hs ⊢
   have HP := Lib.hid hp
   have hne : p ≠ [] := by rw [← hp]; exact T.path_ne
   have hsw : ShortW p := by rw [← hp]; exact short_path HRT.out hit
   obtain ⟨ke, hke⟩ : ∃ ke, C.knownP p = ke := ⟨_, rfl⟩
   obtain ⟨np, hnp⟩ : ∃ np, p.length = np := ⟨_, rfl⟩
   have hnp30 : np ≤ 1073741824 := by
    have h1 := HRT.out.path_len i i (Nat.le_refl _) hit
    have h2 := HRT.out.deep i hit
    rw [hp] at h1; omega
   rw [hnp] at hd ⊢
   have HFR := Lib.hid (free13 (m := ⟨B, np, d⟩) (x := p) HO.out hfr)
   have hpt : PtK w2 wr.heap.size ⟨B, np, d⟩ p := ⟨⟨hnp, hd, hs⟩, hfr⟩
   have HO2 := Lib.hid (HO.out.keep hx)
   have hb2 := bthen hb hx
   have hwr := hb.size
   have HSW := Lib.hid hsw
   have HKE := Lib.hid hke
   have HNP := Lib.hid hnp
   have HS2 := Lib.hid hs
   have HNE := Lib.hid hne
   have HPT := Lib.hid hpt
   clear hp hx hfr hd hs hne hsw hke hnp hit hpt
   go_wp2_with fail
   refine (knownR B d np p ke _ HNP.out HS2.out HNE.out HSW.out hnp30 HKE.out).mono ?_
   rintro e w3 ⟨rfl, hx⟩
   have HO3 := Lib.hid (HO2.out.keep hx)
   have hb3 := bthen hb2 hx
   have HPT3 := Lib.hid ((HPT.out.below hx).less hwr)
   have hsz3 := hb3.size
   clear hx hb2 HO2 HS2 HPT
   by_cases hk0 : ke = 0
   ·subst hk0
    have z0 : ((0 : Int) != 0) = false := rfl
    have HGN := Lib.hid (C.Going.next HGO.out (by rw [HP.out]; exact HKE.out))
    have HST := Lib.hid (show C.checkTo t (i + 1) = C.checkTo t i ++ C.faultsP (C.pths t) p from C.step_live HRT.out HIT.out HGO.out HP.out)
    rcases p with _ | ⟨x0, _ | ⟨x1, _ | ⟨x2, _ | ⟨x3, _ | ⟨x4, rest⟩⟩⟩⟩⟩
    ·exact absurd rfl HNE.out
    ·obtain rfl : 1 = np := HNP.out
     have HE := Lib.hid (show C.checkTo t (i + 1) = C.checkTo t i by rw [HST.out, C.faults_one _ _ HKE.out, List.append_nil])
     go_wp2
     go_roundg (n - (i + 1))
     case rel => exact ⟨i + 1, (by show _ = _; omega), by omega, by go_num, (by rw [HE.out]; exact HO3.out), HGN.out, hb3⟩
     case measure => omega
    ·obtain rfl : 2 = np := HNP.out
     obtain ⟨b, o, rfl, hbw, hL⟩ := HPT3.out.pt.seen (by simp)
     have c0 : w3.cell? ⟨b, o, none⟩ = some (.string (sB x0)) := cellS hL (i := 0) rfl
     obtain ⟨l, hl0⟩ : ∃ l, C.needsW x0 = l := ⟨_, rfl⟩
     obtain ⟨nl, hnl⟩ : ∃ nl, l.length = nl := ⟨_, rfl⟩
     have HLL := Lib.hid hl0
     have HNL := Lib.hid hnl
     have hnl3 : nl ≤ 3 := by rw [← hnl, ← hl0]; exact C.needs_few x0
     have HALL := Lib.hid (show C.checkTo t (i + 1) = C.checkTo t i ++ C.lackTo (C.pths t) x0 x1 nl by rw [HST.out, C.lack_all _ _ _ HKE.out, hl0, hnl])
     have HFW := Lib.hid (HFEW.out i (by omega))
     clear hL hl0 hnl
     go_wp2_with fail
     refine (needsQ x0 l nl _ HLL.out HNL.out).mono ?_
     rintro e w4 ⟨A4, c4, rfl, hpl, hx⟩
     have HO4 := Lib.hid (HO3.out.keep hx)
     have hb4 := bthen hb3 hx
     have HPT4 := Lib.hid (HPT3.out.below hx)
     have HPL := Lib.hid (hpl.pt)
     have HFL := Lib.hid (free13 (m := ⟨A4, nl, c4⟩) (x := l) HO3.out hpl.from_)
     clear hx hpl
     go_wp2
     go_loopg [3, 12] nl (fun g2 vo vi wi => ∃ k : Nat, Hid (k + g2 = nl) ∧ k ≤ nl ∧ vi = .int .i64 (k : Int) ∧ Hid (OwnF eFd wi w.heap.size w.heap.size vo (C.checkTo t i ++ C.lackTo (C.pths t) x0 x1 k)) ∧ Hid (PtS wi ⟨some ⟨b, o, none⟩, 2, d⟩ [x0, x1]) ∧ Hid (FreeQ vo ⟨some ⟨b, o, none⟩, 2, d⟩ [x0, x1]) ∧ Hid (PtS wi ⟨A4, nl, c4⟩ l) ∧ Hid (FreeQ vo ⟨A4, nl, c4⟩ l) ∧ Below w.heap.size w wi)
     case atStart => exact ⟨0, Nat.zero_add _, Nat.zero_le _, rfl, (by show OwnF _ _ _ _ _ (C.checkTo t i ++ []); rw [List.append_nil]; exact HO4.out), HPT4.out.pt, HFR.out, HPL.out, HFL.out, hb4⟩
     case round =>
      obtain ⟨k, HG2, hk, rfl, HOK, HPK, HFK, HPLK, HFLK, hbk⟩ := hrel
      have hgk2 := HG2.out
      by_cases hlt2 : k < nl
      ·have blt3 : decide ((k : Int) < (nl : Int)) = true := decide_eq_true (by omega)
       have blt4 : decide (k < nl) = true := decide_eq_true hlt2
       have hki : (k : Int) < (nl : Int) := by omega
       obtain ⟨x, hx0⟩ : ∃ x, l[k]? = some x := ⟨_, List.getElem?_eq_getElem (by rw [HNL.out]; exact hlt2)⟩
       obtain ⟨b5, o5, hA5, hw5, hL5⟩ := HPLK.out.seen (by rw [HNL.out]; omega)
       have hA5 : A4 = some ⟨b5, o5, none⟩ := hA5
       subst hA5
       have c5 : wr.cell? ⟨b5, o5 + k, none⟩ = some (.string (sB x)) := cellS hL5 hx0
       obtain ⟨hz, hhz⟩ : ∃ hz, C.hasP (C.pths t) [x0, x1] x = hz := ⟨_, rfl⟩
       have HHZ := Lib.hid (show ((T.kidsL t (i : Int)).any fun q => T.wd t q == x) = hz by rw [← C.has_pths HRT.out HIT.out x, HP.out]; exact hhz)
       have HNX := Lib.hid (C.lack_next (C.pths t) x0 x1 (k := k) (x := x) (by rw [HLL.out]; exact hx0))
       have HW5 := Lib.hid hw5
       cases hz with
       | true =>
        have HE2 := Lib.hid (show C.lackTo (C.pths t) x0 x1 (k + 1) = C.lackTo (C.pths t) x0 x1 k by rw [HNX.out, if_pos hhz, List.append_nil])
        clear hhz hL5 hx0 HNX hw5
        go_wp2_with fail
        refine (hasR A c n t (i : Int) x true _ HN.out (HA.out.below hbk) hl30 HHZ.out).mono ?_
        rintro e w6 ⟨rfl, hx⟩
        go_wp2
        go_roundg (nl - (k + 1))
        case rel => exact ⟨k + 1, (by show _ = _; omega), by omega, by go_num, (by rw [HE2.out]; exact HOK.out.keep hx), HPK.out.below hx, HFK.out, HPLK.out.below hx, HFLK.out, bthen hbk hx⟩
        case measure => omega
       | false =>
        have HE2 := Lib.hid (show C.lackTo (C.pths t) x0 x1 (k + 1) = C.lackTo (C.pths t) x0 x1 k ++ [([x0, x1] ++ [x], 1)] by rw [HNX.out, if_neg (by rw [hhz]; decide)])
        clear hhz hL5 hx0 HNX hw5
        go_wp2_with fail
        refine (hasR A c n t (i : Int) x false _ HN.out (HA.out.below hbk) hl30 HHZ.out).mono ?_
        rintro e w6 ⟨rfl, hx⟩
        have HO6 := Lib.hid (HOK.out.keep hx)
        have hb6 := bthen hbk hx
        have HPK6 := Lib.hid (HPK.out.below hx)
        have HPL6 := Lib.hid (HPLK.out.below hx)
        have c6 : w6.cell? ⟨b5, o5 + k, none⟩ = some (.string (sB x)) := (hx.cell (p := ⟨b5, o5 + k, none⟩) HW5.out).trans c5
        clear hx c5
        go_wp2_with fail
        refine (with_own (.slice (some ⟨b, o, none⟩) 2 d) [x0, x1] x _ (vec13 HPK6.out (by simp)) (by simp)).mono ?_
        rintro e w7 ⟨v2, rfl, hown2, hx⟩
        obtain ⟨A7, c7, rfl, hpt7⟩ := own_pt hown2
        have hpt7 : PtK w7 w6.heap.size ⟨A7, 3, c7⟩ ([x0, x1] ++ [x]) := hpt7
        rw [show ([x0, x1] ++ [x]).length = 3 from rfl]
        have HOX := Lib.hid (HO6.out.keep hx)
        have hb7 := bthen hb6 hx
        have HFX := Lib.hid (free13 (m := ⟨A7, 3, c7⟩) (x := [x0, x1] ++ [x]) HO6.out hpt7.from_)
        have HFK7 := Lib.hid (show FlK w7 w.heap.size ⟨⟨A7, 3, c7⟩, 1⟩ ([x0, x1] ++ [x], 1) from ⟨hpt7.less hb6.size, rfl⟩)
        have HPK7 := Lib.hid (HPK6.out.below hx)
        have HPL7 := Lib.hid (HPL6.out.below hx)
        have HLN := Lib.hid (show (C.checkTo t i ++ C.lackTo (C.pths t) x0 x1 k).length + 1 ≤ 1099511627776 by rw [List.length_append]; have := HFW.out; have := C.lack_few (C.pths t) x0 x1 k; omega)
        have hszx := hb7.size
        clear hx hown2 hpt7 c6 HO6 HPK6 HPL6
        go_wp2_with (at_builtin; refine wpList_appF2 eFd w7 rfl (.tmp 92) (.tmp 100) rfl w.heap.size w.heap.size u3 (C.checkTo t i ++ C.lackTo (C.pths t) x0 x1 k) rfl HOX.out ([x0, x1] ++ [x], 1) ⟨⟨A7, 3, c7⟩, 1⟩ HFK7.out HFX.out 1 _ rfl w7.heap.size rfl rfl HLN.out hszx ?_; intro v8 w8 hown8 hb8 hst8)
        obtain ⟨s1, s2⟩ := hst8 _ _ HPK7.out HFK.out
        obtain ⟨s3, s4⟩ := hst8 _ _ HPL7.out HFLK.out
        go_roundg (nl - (k + 1))
        case rel => exact ⟨k + 1, (by show _ = _; omega), by omega, by go_num, (by rw [HE2.out, ← List.append_assoc]; exact hown8), s1, s2, s3, s4, hb7.trans hb8⟩
        case measure => omega
      ·have blt3 : decide ((k : Int) < (nl : Int)) = false := decide_eq_false (by omega)
       have blt4 : decide (k < nl) = false := decide_eq_false hlt2
       obtain rfl : k = nl := by omega
       go_wp2
       go_roundg (n - (i + 1))
       case rel => exact ⟨i + 1, (by show _ = _; omega), by omega, by go_num, (by rw [HALL.out]; exact HOK.out), HGN.out, hbk⟩
       case measure => omega
    ·obtain rfl : 3 = np := HNP.out
     obtain ⟨b, o, rfl, hbw, hL⟩ := HPT3.out.pt.seen (by simp)
     have c0 : w3.cell? ⟨b, o, none⟩ = some (.string (sB x0)) := cellS hL (i := 0) rfl
     have c2 : w3.cell? ⟨b, o + 2, none⟩ = some (.string (sB x2)) := cellS hL (i := 2) rfl
     obtain ⟨ky, on, ne, hk⟩ : ∃ ky on ne, C.thirdK (C.key x0 x2) = (ky, on, ne) := ⟨_, _, _, rfl⟩
     have HK := Lib.hid hk
     have HX0 := Lib.hid (show x0.length ≤ 1073741824 from Nat.le_trans (HSW.out x0 (by simp)) (by omega))
     have HX2 := Lib.hid (show x2.length ≤ 1073741824 from Nat.le_trans (HSW.out x2 (by simp)) (by omega))
     obtain ⟨K, hK⟩ : ∃ K, T.kidsL t (i : Int) = K := ⟨_, rfl⟩
     obtain ⟨nk, hnk⟩ : ∃ nk, K.length = nk := ⟨_, rfl⟩
     have HKK := Lib.hid hK
     have HNK := Lib.hid hnk
     have hnk30 : nk ≤ 1073741824 := by
      have : K.length ≤ t.length := by rw [← hK]; exact T.filter_len t.length _
      have := HN.out; omega
     have HCT := Lib.hid (show C.checkTo t (i + 1) = C.checkTo t i ++ if on = true then (if nk = 0 then [([x0, x1, x2], 1)] else if 1 < nk then [([x0, x1, x2], 4)] else []) else [] by
      rw [HST.out, C.faults_three _ _ _ _ HKE.out, hk, ← HP.out, C.kids_count HRT.out HIT.out, hK, hnk])
     have HLN := Lib.hid (show (C.checkTo t i).length + 1 ≤ 1099511627776 by have := HFEW.out i (by omega); omega)
     clear hL hk hK hnk
     go_wp2
     go_quiet (first | (go_at_call 63; exact Calls.quiet_of_same (calls_sym (thirdR x0 x2 _ ky on ne _ HX0.out HX2.out rfl HK.out))))
     go_wp2_with fail
     refine (kidsN13 A c n t (i : Int) _ HN.out (HA.out.below (below_drawn10 hb3 _)) hl30).mono ?_
     rintro e w4 ⟨A4, c4, rfl, hc4, hs4, hx⟩
     rw [HKK.out, HNK.out]
     have HOX := Lib.hid ((HO3.out.keep (below_drawn10 (Below.refl _ _) _)).keep hx)
     have hb4 := bthen (below_drawn10 hb3 _) hx
     have HPT4 := Lib.hid ((HPT3.out.below (below_drawn10 (Below.refl _ _) _)).below hx)
     have hszx := hb4.size
     clear hx hc4 hs4
     cases on with
     | false =>
      have HE := Lib.hid (show C.checkTo t (i + 1) = C.checkTo t i by rw [HCT.out, if_neg (by decide), List.append_nil])
      go_wp2
      go_roundg (n - (i + 1))
      case rel => exact ⟨i + 1, (by show _ = _; omega), by omega, by go_num, (by rw [HE.out]; exact HOX.out), HGN.out, hb4⟩
      case measure => omega
     | true =>
      by_cases g0 : nk = 0
      ·have d0 : ((nk : Int) == 0) = true := beq_iff_eq.2 (by omega)
       have d0b : (nk == 0) = true := beq_iff_eq.2 g0
       have d1 : decide ((nk : Int) > 1) = false := decide_eq_false (by omega)
       have d1a : decide ((1 : Int) < (nk : Int)) = false := decide_eq_false (by omega)
       have d1b : decide (1 < nk) = false := decide_eq_false (by omega)
       have HE := Lib.hid (show C.checkTo t (i + 1) = C.checkTo t i ++ [([x0, x1, x2], 1)] by rw [HCT.out, if_pos rfl, if_pos g0])
       have HFX := Lib.hid (show FlK w4 w.heap.size ⟨⟨some ⟨b, o, none⟩, 3, d⟩, 1⟩ ([x0, x1, x2], 1) from ⟨HPT4.out, rfl⟩)
       clear g0
       go_wp2_with (at_builtin; refine wpList_appF eFd w4 rfl (.tmp 56) (.tmp 59) rfl w.heap.size w.heap.size u3 (C.checkTo t i) rfl HOX.out ([x0, x1, x2], 1) ⟨⟨some ⟨b, o, none⟩, 3, d⟩, 1⟩ HFX.out HFR.out 1 _ rfl w4.heap.size rfl rfl HLN.out hszx ?_; intro v5 w5 hown5 hb5)
       go_roundg (n - (i + 1))
       case rel => exact ⟨i + 1, (by show _ = _; omega), by omega, by go_num, (by rw [HE.out]; exact hown5), HGN.out, hb4.trans hb5⟩
       case measure => omega
      ·have d0 : ((nk : Int) == 0) = false := beq_eq_false_iff_ne.2 (by omega)
       have d0b : (nk == 0) = false := beq_eq_false_iff_ne.2 g0
       have d0c : ¬ nk = 0 := g0
       by_cases g1 : 1 < nk
       ·have d1 : decide ((nk : Int) > 1) = true := decide_eq_true (by omega)
        have d1a : decide ((1 : Int) < (nk : Int)) = true := decide_eq_true (by omega)
        have d1b : decide (1 < nk) = true := decide_eq_true g1
        have HE := Lib.hid (show C.checkTo t (i + 1) = C.checkTo t i ++ [([x0, x1, x2], 4)] by rw [HCT.out, if_pos rfl, if_neg g0, if_pos g1])
        have HFX := Lib.hid (show FlK w4 w.heap.size ⟨⟨some ⟨b, o, none⟩, 3, d⟩, 4⟩ ([x0, x1, x2], 4) from ⟨HPT4.out, rfl⟩)
        clear g0 g1
        go_wp2_with (at_builtin; refine wpList_appF eFd w4 rfl (.tmp 66) (.tmp 69) rfl w.heap.size w.heap.size u3 (C.checkTo t i) rfl HOX.out ([x0, x1, x2], 4) ⟨⟨some ⟨b, o, none⟩, 3, d⟩, 4⟩ HFX.out HFR.out 1 _ rfl w4.heap.size rfl rfl HLN.out hszx ?_; intro v5 w5 hown5 hb5)
        go_roundg (n - (i + 1))
        case rel => exact ⟨i + 1, (by show _ = _; omega), by omega, by go_num, (by rw [HE.out]; exact hown5), HGN.out, hb4.trans hb5⟩
        case measure => omega
       ·have d1 : decide ((nk : Int) > 1) = false := decide_eq_false (by omega)
        have d1a : decide ((1 : Int) < (nk : Int)) = false := decide_eq_false (by omega)
        have d1b : decide (1 < nk) = false := decide_eq_false g1
        have HE := Lib.hid (show C.checkTo t (i + 1) = C.checkTo t i by rw [HCT.out, if_pos rfl, if_neg g0, if_neg g1, List.append_nil])
        clear g0 g1
        go_wp2
        go_roundg (n - (i + 1))
        case rel => exact ⟨i + 1, (by show _ = _; omega), by omega, by go_num, (by rw [HE.out]; exact HOX.out), HGN.out, hb4⟩
        case measure => omega
    ·obtain rfl : 4 = np := HNP.out
     obtain ⟨mb, hmb⟩ : ∃ mb, C.meantP (C.pths t) [x0, x1, x2, x3] = mb := ⟨_, rfl⟩
     have HMB := Lib.hid hmb
     have HCT := Lib.hid (show C.checkTo t (i + 1) = C.checkTo t i ++ if mb = true then [([x0, x1, x2, x3], 7)] else [] by rw [HST.out, C.faults_four _ _ _ _ _ HKE.out, hmb])
     have HLN := Lib.hid (show (C.checkTo t i).length + 1 ≤ 1099511627776 by have := HFEW.out i (by omega); omega)
     clear hmb
     go_wp2_with fail
     refine (meantQ A c n t i B d x0 x1 x2 x3 mb _ HN.out (HA.out.below hb3) hl30 HRT.out hlt HP.out HPT3.out.pt.seen HMB.out).mono ?_
     rintro e w4 ⟨rfl, hx⟩
     have HOX := Lib.hid (HO3.out.keep hx)
     have hb4 := bthen hb3 hx
     have HPT4 := Lib.hid (HPT3.out.below hx)
     have hszx := hb4.size
     clear hx
     cases mb with
     | false =>
      have HE := Lib.hid (show C.checkTo t (i + 1) = C.checkTo t i by rw [HCT.out, if_neg (by decide), List.append_nil])
      go_wp2
      go_roundg (n - (i + 1))
      case rel => exact ⟨i + 1, (by show _ = _; omega), by omega, by go_num, (by rw [HE.out]; exact HOX.out), HGN.out, hb4⟩
      case measure => omega
     | true =>
      have HE := Lib.hid (show C.checkTo t (i + 1) = C.checkTo t i ++ [([x0, x1, x2, x3], 7)] by rw [HCT.out, if_pos rfl])
      have HFX := Lib.hid (show FlK w4 w.heap.size ⟨⟨B, 4, d⟩, 7⟩ ([x0, x1, x2, x3], 7) from ⟨HPT4.out, rfl⟩)
      go_wp2_with (at_builtin; refine wpList_appF eFd w4 rfl (.tmp 111) (.tmp 114) rfl w.heap.size w.heap.size u3 (C.checkTo t i) rfl HOX.out ([x0, x1, x2, x3], 7) ⟨⟨B, 4, d⟩, 7⟩ HFX.out HFR.out 1 _ rfl w4.heap.size rfl rfl HLN.out hszx ?_; intro v5 w5 hown5 hb5)
      go_roundg (n - (i + 1))
      case rel => exact ⟨i + 1, (by show _ = _; omega), by omega, by go_num, (by rw [HE.out]; exact hown5), HGN.out, hb4.trans hb5⟩
      case measure => omega
    ·exact absurd (show (3 : Int) = 0 from HKE.out) (by decide)
   ·have z0 : (ke != 0) = true := by simp [hk0]
    obtain ⟨en, hen⟩ : ∃ en, T.endL t i = en := ⟨_, rfl⟩
    have HEN := Lib.hid hen
    have hsp := T.end_spec t i HIT.out
    have hen1 : i < en := by rw [← hen]; omega
    have hen2 : en ≤ n := by rw [← hen, ← HN.out]; exact hsp.2.1
    have HGN := Lib.hid (show C.Going t en by rw [← hen]; exact C.Going.skip HRT.out HIT.out HGO.out)
    have HE := Lib.hid (show C.checkTo t en = C.checkTo t i ++ [(p, ke)] by rw [← hen]; exact C.step_end HRT.out HIT.out HGO.out HP.out HKE.out hk0)
    have HLN := Lib.hid (show (C.checkTo t i).length + 1 ≤ 1099511627776 by have := HFEW.out i (by omega); omega)
    have HFX := Lib.hid (show FlK w3 w.heap.size ⟨⟨B, np, d⟩, ke⟩ (p, ke) from ⟨HPT3.out, rfl⟩)
    clear hsp hen hk0
    go_wp2_with (at_builtin; refine wpList_appF eFd w3 rfl (.tmp 24) (.tmp 28) rfl w.heap.size w.heap.size u3 (C.checkTo t i) rfl HO3.out (p, ke) ⟨⟨B, np, d⟩, ke⟩ HFX.out HFR.out 1 _ rfl w3.heap.size rfl rfl HLN.out hsz3 ?_; intro v5 w5 hown5 hb5)
    refine (endN13 A c n t i _ HN.out (HA.out.below (hb3.trans hb5)) hlt hl30).mono ?_
    rintro e w6 ⟨rfl, hx⟩
    rw [HEN.out]
    go_wp2
    go_roundg (n - en)
    case rel => exact ⟨en, (by show _ = _; omega), hen2, rfl, (by rw [HE.out]; exact hown5.keep hx), HGN.out, bthen (hb3.trans hb5) hx⟩
    case measure => omega
  ·have blt : decide ((i : Int) < (n : Int)) = false := decide_eq_false (by omega)
   have blt2 : decide (i < n) = false := decide_eq_false hlt
   obtain rfl : i = n := by omega
   have HE := Lib.hid (show C.checkTo t i = C.checkP (C.pths t) by rw [← HN.out]; exact C.check_full t)
   go_wp2
   go_ret
   exact ⟨_, rfl, (by rw [← HE.out]; exact HO.out), hb⟩
end Go.Proofs.YtfcikfohmehmkaaGreatDoor
namespace Go.Proofs.YtfcikfohmehmkaaGreatDoor
open Go.RowKit
set_option linter.unusedVariables false
def SeenF (E : Elem FlM) (w : World) (A : Option Addr) (L : List Fl) : Prop := ∃ M : List FlM, M.length = L.length ∧ Seen E w A M ∧ ∀ i (h1 : i < M.length) (h2 : i < L.length), PtS w M[i].1 L[i].1 ∧ M[i].2 = L[i].2
theorem ManyF.seenF {E : Elem FlM} {w : World} {k : Nat} {v : Value} {L : List Fl} (h : ManyF E w k v L) : ∃ A c, v = .slice A L.length c ∧ L.length ≤ c ∧ SeenF E w A L := by
 obtain ⟨M, h1, h2, h3⟩ := h
 obtain ⟨A, c, e, h4, h5⟩ := h2.seen
 rw [h1] at e h4
 exact ⟨A, c, e, h4, M, h1, h5, fun i h6 h7 => ⟨(h3 i h6 h7).pt.pt, (h3 i h6 h7).num⟩⟩
end Go.Proofs.YtfcikfohmehmkaaGreatDoor
