/-
  The walk of layer 14's statement HostCounts, from what host does: it returns true whatever comes in. No conditions.
-/
import Derived.Test.YtfcikfohmehmkaaGreatDoorBase14
namespace Go.Proofs.YtfcikfohmehmkaaGreatDoor
open Go.RowKit
set_option linter.unusedVariables false
/-- An array of six counts, in a block of its own. -/
def ArrI (w : World) (g : Nat) (v1 v2 v3 v4 v5 : Nat) : Prop := w.heap[g]? = some (.cells #[.int .i64 0, .int .i64 (v1 : Int), .int .i64 (v2 : Int), .int .i64 (v3 : Int), .int .i64 (v4 : Int), .int .i64 (v5 : Int)] 47)
theorem arrI_cells {w : World} {g v1 v2 v3 v4 v5 : Nat} (h : ArrI w g v1 v2 v3 v4 v5) : w.cell? ⟨g, 1, none⟩ = some (.int .i64 (v1 : Int)) ∧ w.cell? ⟨g, 2, none⟩ = some (.int .i64 (v2 : Int)) ∧ w.cell? ⟨g, 3, none⟩ = some (.int .i64 (v3 : Int)) ∧ w.cell? ⟨g, 4, none⟩ = some (.int .i64 (v4 : Int)) ∧ w.cell? ⟨g, 5, none⟩ = some (.int .i64 (v5 : Int)) := by
  unfold ArrI at h
  refine ⟨?_, ?_, ?_, ?_, ?_⟩ <;> rw [Lib.cell_of_heap h] <;> rfl
theorem arrI_lt {w : World} {g v1 v2 v3 v4 v5 : Nat} (h : ArrI w g v1 v2 v3 v4 v5) : g < w.heap.size := (Array.getElem?_eq_some_iff.1 h).1
theorem arrI_open {w : World} {g v1 v2 v3 v4 v5 : Nat} (h : ArrI w g v1 v2 v3 v4 v5) (j : Nat) : w.frozen? ⟨g, j, none⟩ = false := by
  unfold ArrI at h
  exact Lib.frozen_of_heap h j
theorem arrI_below {w w1 : World} {g v1 v2 v3 v4 v5 : Nat} (h : ArrI w g v1 v2 v3 v4 v5) (hb : Below w.heap.size w w1) : ArrI w1 g v1 v2 v3 v4 v5 := (hb.block g (arrI_lt h)).trans h
theorem arrI_set1 {w : World} {g v1 v2 v3 v4 v5 : Nat} (h : ArrI w g v1 v2 v3 v4 v5) (x : Nat) : ArrI (w.setCell ⟨g, 1, none⟩ (.int .i64 (x : Int))) g x v2 v3 v4 v5 := by
  unfold ArrI at h ⊢
  have hs : (w.setCell ⟨g, 1, none⟩ (.int .i64 (x : Int))).heap = w.heap.modify g (fun o => match o with | .cells c t fz => .cells (c.set! 1 (.int .i64 (x : Int))) t fz | o => o) := rfl
  rw [hs, Array.getElem?_modify, if_pos rfl, h]; rfl
theorem arrI_set2 {w : World} {g v1 v2 v3 v4 v5 : Nat} (h : ArrI w g v1 v2 v3 v4 v5) (x : Nat) : ArrI (w.setCell ⟨g, 2, none⟩ (.int .i64 (x : Int))) g v1 x v3 v4 v5 := by
  unfold ArrI at h ⊢
  have hs : (w.setCell ⟨g, 2, none⟩ (.int .i64 (x : Int))).heap = w.heap.modify g (fun o => match o with | .cells c t fz => .cells (c.set! 2 (.int .i64 (x : Int))) t fz | o => o) := rfl
  rw [hs, Array.getElem?_modify, if_pos rfl, h]; rfl
theorem arrI_set3 {w : World} {g v1 v2 v3 v4 v5 : Nat} (h : ArrI w g v1 v2 v3 v4 v5) (x : Nat) : ArrI (w.setCell ⟨g, 3, none⟩ (.int .i64 (x : Int))) g v1 v2 x v4 v5 := by
  unfold ArrI at h ⊢
  have hs : (w.setCell ⟨g, 3, none⟩ (.int .i64 (x : Int))).heap = w.heap.modify g (fun o => match o with | .cells c t fz => .cells (c.set! 3 (.int .i64 (x : Int))) t fz | o => o) := rfl
  rw [hs, Array.getElem?_modify, if_pos rfl, h]; rfl
theorem arrI_set4 {w : World} {g v1 v2 v3 v4 v5 : Nat} (h : ArrI w g v1 v2 v3 v4 v5) (x : Nat) : ArrI (w.setCell ⟨g, 4, none⟩ (.int .i64 (x : Int))) g v1 v2 v3 x v5 := by
  unfold ArrI at h ⊢
  have hs : (w.setCell ⟨g, 4, none⟩ (.int .i64 (x : Int))).heap = w.heap.modify g (fun o => match o with | .cells c t fz => .cells (c.set! 4 (.int .i64 (x : Int))) t fz | o => o) := rfl
  rw [hs, Array.getElem?_modify, if_pos rfl, h]; rfl
theorem arrI_set5 {w : World} {g v1 v2 v3 v4 v5 : Nat} (h : ArrI w g v1 v2 v3 v4 v5) (x : Nat) : ArrI (w.setCell ⟨g, 5, none⟩ (.int .i64 (x : Int))) g v1 v2 v3 v4 x := by
  unfold ArrI at h ⊢
  have hs : (w.setCell ⟨g, 5, none⟩ (.int .i64 (x : Int))).heap = w.heap.modify g (fun o => match o with | .cells c t fz => .cells (c.set! 5 (.int .i64 (x : Int))) t fz | o => o) := rfl
  rw [hs, Array.getElem?_modify, if_pos rfl, h]; rfl
/-- How many entries of a host there are, kind by kind. -/
structure CntP (h : List UInt8) (l : List H.En) (v1 v2 v3 v4 v5 : Nat) : Prop where
  c1 : v1 = (H.someE h 1 l).length
  c2 : v2 = (H.someE h 2 l).length
  c3 : v3 = (H.someE h 3 l).length
  c4 : v4 = (H.someE h 4 l).length
  c5 : v5 = (H.someE h 5 l).length
theorem some_hit {h : List UInt8} {l : List H.En} {x : H.En} {k : Int} (h1 : x.host = h) (h2 : x.kind = k) : (H.someE h k (l ++ [x])).length = (H.someE h k l).length + 1 := by
  unfold H.someE
  rw [List.filter_append, List.length_append]
  simp [h1, h2]
theorem some_off {h : List UInt8} {l : List H.En} {x : H.En} {k : Int} (h1 : ¬ (x.host = h ∧ x.kind = k)) : (H.someE h k (l ++ [x])).length = (H.someE h k l).length := by
  unfold H.someE
  rw [List.filter_append, List.length_append, List.filter_cons_of_neg (by simpa using h1)]
  simp
theorem CntP.off {h : List UInt8} {l : List H.En} {v1 v2 v3 v4 v5 : Nat} (c : CntP h l v1 v2 v3 v4 v5) {x : H.En} (hn : ¬ (x.host = h ∧ 0 < x.kind ∧ x.kind < 6)) : CntP h (l ++ [x]) v1 v2 v3 v4 v5 :=
  ⟨by rw [some_off (fun k => hn ⟨k.1, by omega, by omega⟩)]; exact c.c1, by rw [some_off (fun k => hn ⟨k.1, by omega, by omega⟩)]; exact c.c2, by rw [some_off (fun k => hn ⟨k.1, by omega, by omega⟩)]; exact c.c3, by rw [some_off (fun k => hn ⟨k.1, by omega, by omega⟩)]; exact c.c4, by rw [some_off (fun k => hn ⟨k.1, by omega, by omega⟩)]; exact c.c5⟩
theorem CntP.hit1 {h : List UInt8} {l : List H.En} {v1 v2 v3 v4 v5 : Nat} (c : CntP h l v1 v2 v3 v4 v5) {x0 : H.En} (h1 : x0.host = h) (h2 : x0.kind = 1) {x : Nat} (hx : v1 + 1 = x) : CntP h (l ++ [x0]) x v2 v3 v4 v5 :=
  ⟨by rw [some_hit h1 h2]; have := c.c1; omega, by rw [some_off (fun k => by have := k.2; omega)]; exact c.c2, by rw [some_off (fun k => by have := k.2; omega)]; exact c.c3, by rw [some_off (fun k => by have := k.2; omega)]; exact c.c4, by rw [some_off (fun k => by have := k.2; omega)]; exact c.c5⟩
theorem CntP.hit2 {h : List UInt8} {l : List H.En} {v1 v2 v3 v4 v5 : Nat} (c : CntP h l v1 v2 v3 v4 v5) {x0 : H.En} (h1 : x0.host = h) (h2 : x0.kind = 2) {x : Nat} (hx : v2 + 1 = x) : CntP h (l ++ [x0]) v1 x v3 v4 v5 :=
  ⟨by rw [some_off (fun k => by have := k.2; omega)]; exact c.c1, by rw [some_hit h1 h2]; have := c.c2; omega, by rw [some_off (fun k => by have := k.2; omega)]; exact c.c3, by rw [some_off (fun k => by have := k.2; omega)]; exact c.c4, by rw [some_off (fun k => by have := k.2; omega)]; exact c.c5⟩
theorem CntP.hit3 {h : List UInt8} {l : List H.En} {v1 v2 v3 v4 v5 : Nat} (c : CntP h l v1 v2 v3 v4 v5) {x0 : H.En} (h1 : x0.host = h) (h2 : x0.kind = 3) {x : Nat} (hx : v3 + 1 = x) : CntP h (l ++ [x0]) v1 v2 x v4 v5 :=
  ⟨by rw [some_off (fun k => by have := k.2; omega)]; exact c.c1, by rw [some_off (fun k => by have := k.2; omega)]; exact c.c2, by rw [some_hit h1 h2]; have := c.c3; omega, by rw [some_off (fun k => by have := k.2; omega)]; exact c.c4, by rw [some_off (fun k => by have := k.2; omega)]; exact c.c5⟩
theorem CntP.hit4 {h : List UInt8} {l : List H.En} {v1 v2 v3 v4 v5 : Nat} (c : CntP h l v1 v2 v3 v4 v5) {x0 : H.En} (h1 : x0.host = h) (h2 : x0.kind = 4) {x : Nat} (hx : v4 + 1 = x) : CntP h (l ++ [x0]) v1 v2 v3 x v5 :=
  ⟨by rw [some_off (fun k => by have := k.2; omega)]; exact c.c1, by rw [some_off (fun k => by have := k.2; omega)]; exact c.c2, by rw [some_off (fun k => by have := k.2; omega)]; exact c.c3, by rw [some_hit h1 h2]; have := c.c4; omega, by rw [some_off (fun k => by have := k.2; omega)]; exact c.c5⟩
theorem CntP.hit5 {h : List UInt8} {l : List H.En} {v1 v2 v3 v4 v5 : Nat} (c : CntP h l v1 v2 v3 v4 v5) {x0 : H.En} (h1 : x0.host = h) (h2 : x0.kind = 5) {x : Nat} (hx : v5 + 1 = x) : CntP h (l ++ [x0]) v1 v2 v3 v4 x :=
  ⟨by rw [some_off (fun k => by have := k.2; omega)]; exact c.c1, by rw [some_off (fun k => by have := k.2; omega)]; exact c.c2, by rw [some_off (fun k => by have := k.2; omega)]; exact c.c3, by rw [some_off (fun k => by have := k.2; omega)]; exact c.c4, by rw [some_hit h1 h2]; have := c.c5; omega⟩
theorem CntP.most {h : List UInt8} {l : List H.En} {v1 v2 v3 v4 v5 : Nat} (c : CntP h l v1 v2 v3 v4 v5) : v1 ≤ l.length ∧ v2 ≤ l.length ∧ v3 ≤ l.length ∧ v4 ≤ l.length ∧ v5 ≤ l.length := by
  obtain ⟨c1, c2, c3, c4, c5⟩ := c
  unfold H.someE at c1 c2 c3 c4 c5
  refine ⟨?_, ?_, ?_, ?_, ?_⟩
  · rw [c1]; exact List.length_filter_le _ _
  · rw [c2]; exact List.length_filter_le _ _
  · rw [c3]; exact List.length_filter_le _ _
  · rw [c4]; exact List.length_filter_le _ _
  · rw [c5]; exact List.length_filter_le _ _
theorem findRYes (A B : Option Addr) (c d n m : Nat) (t : List T.Ln) (p : T.Pth) (w : World) (hn : t.length = n) (hm : p.length = m) (hA : Seen eL w A t) (hB : Seen eS w B p) (hl : n ≤ 1073741824) (hp : m ≤ 1073741824) (hR : T.RightT t) (h : T.isIn t p) :
    Calls Tryz.prog 23 #[.slice A n c, .slice B m d] w (fun e w' => ∃ i : Nat, e = .returned (.int .i64 (i : Int)) ∧ Below w.heap.size w w') := by
  subst hn; subst hm
  obtain ⟨i, hi, e⟩ := h
  refine (refFind_any A B c d t p w hA hB hl hp hR).mono ?_
  rintro e2 w' ⟨⟨j, _, _, rfl⟩ | ⟨hno, _⟩, hb⟩
  · exact ⟨j, rfl, hb⟩
  · exact absurd e (hno i hi)
theorem findRNo (A B : Option Addr) (c d n m : Nat) (t : List T.Ln) (p : T.Pth) (w : World) (hn : t.length = n) (hm : p.length = m) (hA : Seen eL w A t) (hB : Seen eS w B p) (hl : n ≤ 1073741824) (hp : m ≤ 1073741824) (hR : T.RightT t) (h : ¬ T.isIn t p) :
    Calls Tryz.prog 23 #[.slice A n c, .slice B m d] w (fun e w' => e = .returned (.int .i64 (-1)) ∧ Below w.heap.size w w') := by
  subst hn; subst hm
  refine (refFind_any A B c d t p w hA hB hl hp hR).mono ?_
  rintro e2 w' ⟨⟨j, hj, e, _⟩ | ⟨_, rfl⟩, hb⟩
  · exact absurd ⟨j, hj, e⟩ h
  · exact ⟨rfl, hb⟩
def fbind (t : List T.Ln) (h b : List UInt8) : Bool := H.inH t h (H.wordH t [C.wBindings, b, C.wVni] [])
set_option maxRecDepth 100000 in
set_option maxHeartbeats 16000000 in
theorem hostCounts_walk (E : HostOk) (AW : ∀ w, RowsOk w → Calls Tryz.prog 10 #[] w (TrueS w)) (w : World) (HTAB : RowsOk w) (A : Option Addr) (c : Nat) (t : List T.Ln) (hc : t.length ≤ c) (hA : Seen eL w A t) (hlA : t.length ≤ maxLen) (hNA : NilOk A c) :
    Calls Tryz.prog 7 #[.slice A t.length c] w (TrueS w) := by
  have TAB := Lib.hid HTAB
  clear HTAB
  unfold maxLen at hlA
  have HSM := Lib.hid (fun w (h : Seen eL w A t) => small_is A c t w h)
  obtain ⟨n, hnA⟩ : ∃ n, t.length = n := ⟨_, rfl⟩
  rw [hnA] at hc hlA HSM ⊢
  have HNA := Lib.hid hnA
  have HA := Lib.hid hA
  have HOA := Lib.hid hNA
  clear hA hnA hNA
  have hb : Below w.heap.size w w := Below.refl _ _
  go_enter Tryz.func7, Tryz.ntmps7
  go_wp2_with fail
  refine (HSM.out _ HA.out).mono ?_
  rintro e wx1 ⟨bs, rfl, hsm, hx⟩
  replace HA := Lib.hid (HA.out.below hx)
  replace hb := bthen hb hx
  clear hx
  cases bs with
  | false =>
    clear hsm
    go_wp2_with fail
    refine (AW _ (rowsAt TAB hb)).mono ?_
    rintro e wz ⟨rfl, hx⟩
    go_wp2
    go_ret
    exact ⟨rfl, bthen hb hx⟩
  | true =>
  clear hsm
  by_cases h60 : n ≤ 60
  · have b1 : decide ((n : Int) > 60) = false := decide_eq_false (by omega)
    have b2 : decide ((60 : Int) < (n : Int)) = false := decide_eq_false (by omega)
    have b3 : decide (60 < n) = false := decide_eq_false (by omega)
    replace HA := Lib.hid (LArgS.mk HNA.out (by omega) hc HOA.out HA.out)
    by_cases hR : T.RightT t
    · have HR := Lib.hid hR
      clear hR
      go_wp2_with fail
      refine (right13 A c n t true _ HNA.out HA.out.seen (by omega) (yes_iff HR.out)).mono ?_
      rintro e wx2 ⟨rfl, hx⟩
      replace HA := Lib.hid (HA.out.below hx)
      replace hb := bthen hb hx
      clear hx b1 b2 b3
      obtain ⟨L, er, hI⟩ := comp_ex t
      have HI := Lib.hid hI
      obtain ⟨m, hm⟩ : ∃ m, L.length = m := ⟨_, rfl⟩
      have HM := Lib.hid hm
      have hmm : m ≤ 32040000 := by rw [← hm]; exact comp_few hI (by have := HNA.out; omega)
      clear hI hm
      go_wp2_with fail
      refine (E.compileOf A c n m t L er _ HA.out HI.out HM.out (rowsAt TAB (by first | assumption | exact Below.refl _ _ | exact Hid.out (by assumption) | exact bthen (by assumption) (by assumption) | exact bthen (Hid.out (by assumption)) (by assumption) | exact below_drawn13 (by first | assumption | exact Below.refl _ _ | exact Hid.out (by assumption)) _))).mono ?_
      rintro e wx3 ⟨B3, d3, rfl, hd3, hs, hx⟩
      replace HA := Lib.hid (HA.out.below hx)
      replace hb := bthen hb hx
      have HS := Lib.hid hs
      clear hx hs
      by_cases he : er = 0
      · subst he
        have HCL := Lib.hid (show C.checkP (C.pths t) = [] by
          rcases HI.out with ⟨_, h, _⟩ | ⟨_, _, _, h⟩ | ⟨_, _, h⟩
          · exact h
          · cases h
          · cases h)
        have HLT := Lib.hid (show L = H.tablesL t by
          rcases HI.out with ⟨_, _, h, _⟩ | ⟨_, _, _, h⟩ | ⟨_, _, h⟩
          · exact h
          · cases h
          · cases h)
        obtain ⟨hs, hhs⟩ : ∃ l, T.underW t [C.wHosts] = l := ⟨_, rfl⟩
        obtain ⟨rs, hrs⟩ : ∃ l, T.underW t [C.wRoutes] = l := ⟨_, rfl⟩
        obtain ⟨ps, hps⟩ : ∃ l, T.underW t [C.wPolicy] = l := ⟨_, rfl⟩
        obtain ⟨bs, hbs⟩ : ∃ l, T.underW t [C.wBindings] = l := ⟨_, rfl⟩
        have HHS := Lib.hid hhs
        have HRS := Lib.hid hrs
        have HPS := Lib.hid hps
        have HBS := Lib.hid hbs
        obtain ⟨q, hq⟩ : ∃ q, hs.length = q := ⟨_, rfl⟩
        obtain ⟨rn, hrn⟩ : ∃ q, rs.length = q := ⟨_, rfl⟩
        obtain ⟨pn, hpn⟩ : ∃ q, ps.length = q := ⟨_, rfl⟩
        obtain ⟨bn, hbn⟩ : ∃ q, bs.length = q := ⟨_, rfl⟩
        have HQ := Lib.hid hq
        have HRN := Lib.hid hrn
        have HPN := Lib.hid hpn
        have HBN := Lib.hid hbn
        have hqn : q ≤ n := by rw [← hq, ← hhs, ← HNA.out]; exact T.underW_len HR.out _
        have hrnn : rn ≤ n := by rw [← hrn, ← hrs, ← HNA.out]; exact T.underW_len HR.out _
        have hpnn : pn ≤ n := by rw [← hpn, ← hps, ← HNA.out]; exact T.underW_len HR.out _
        have hbnn : bn ≤ n := by rw [← hbn, ← hbs, ← HNA.out]; exact T.underW_len HR.out _
        have HC4 := Lib.hid (fun h (hh : h ∈ hs) => show (H.someE h 4 L).length = rn by rw [HLT.out, ← hrn, ← hrs]; exact H.routes_many HR.out HCL.out (by rw [hhs]; exact hh))
        have HC5 := Lib.hid (fun h (hh : h ∈ hs) => show (H.someE h 5 L).length = pn by rw [HLT.out, ← hpn, ← hps]; exact H.policies_many HR.out (by rw [hhs]; exact hh))
        have HC2 := Lib.hid (fun h (hh : h ∈ hs) => show (H.someE h 2 L).length = (bs.filter (fbind t h)).length by rw [HLT.out, ← hbs]; exact H.arps_many HR.out HCL.out (by rw [hhs]; exact hh))
        have HBV := Lib.hid (fun b (hb : b ∈ bs) => show ∃ x, T.underW t [C.wBindings, b, C.wVni] = [x] from H.bind_vni HR.out HCL.out (by rw [hbs]; exact hb))
        clear hhs hrs hps hbs hq hrn hpn hbn
        go_wp2_with fail
        refine (underM14 A c n t _ 1 1 rn [C.wRoutes] rs _ HNA.out rfl (HA.out.seen.below (up _ _)) (lit_seen eS wx3 [C.wRoutes] _ rfl (by simp)) (by omega) (by omega) HR.out HRS.out HRN.out).mono ?_
        rintro e wx5 ⟨B5, d5, rfl, hd5, hs5, hx⟩
        have hx5 := bthen (up wx3 _) hx
        replace HA := Lib.hid (HA.out.below hx5)
        replace hb := bthen hb hx5
        replace HS := Lib.hid (HS.out.below hx5)
        clear hx hx5 hs5
        go_wp2_with fail
        refine (underM14 A c n t _ 1 1 pn [C.wPolicy] ps _ HNA.out rfl (HA.out.seen.below (up _ _)) (lit_seen eS wx5 [C.wPolicy] _ rfl (by simp)) (by omega) (by omega) HR.out HPS.out HPN.out).mono ?_
        rintro e wx6 ⟨B6, d6, rfl, hd6, hs6, hx⟩
        have hx5 := bthen (up wx5 _) hx
        replace HA := Lib.hid (HA.out.below hx5)
        replace hb := bthen hb hx5
        replace HS := Lib.hid (HS.out.below hx5)
        clear hx hx5 hs6
        go_wp2_with fail
        refine (underM14 A c n t _ 1 1 q [C.wHosts] hs _ HNA.out rfl (HA.out.seen.below (up _ _)) (lit_seen eS wx6 [C.wHosts] _ rfl (by simp)) (by omega) (by omega) HR.out HHS.out HQ.out).mono ?_
        rintro e wx4 ⟨B4, d4, rfl, hd4, hs4, hx⟩
        have hx5 := bthen (up wx6 _) hx
        replace HA := Lib.hid (HA.out.below hx5)
        replace hb := bthen hb hx5
        replace HS := Lib.hid (HS.out.below hx5)
        have HS4 := Lib.hid hs4
        have HBB := Lib.hid hb
        clear hx hx5 hs4 hb
        go_wp2
        go_loopg [54] q (fun g vi wr => ∃ i : Nat, Hid (i + g = q) ∧ vi = .int .i64 (i : Int) ∧ Hid (Below wx4.heap.size wx4 wr))
        case atStart => exact ⟨0, Nat.zero_add _, rfl, Below.refl _ _⟩
        case round =>
          obtain ⟨i, HGI, rfl, HB⟩ := hrel
          have hgi := HGI.out
          by_cases hlt : i < q
          · have bli : decide ((i : Int) < (q : Int)) = true := decide_eq_true (by omega)
            have bli2 : decide (i < q) = true := decide_eq_true hlt
            have hii : (i : Int) < (q : Int) := by omega
            have hih : i < hs.length := by rw [HQ.out]; exact hlt
            obtain ⟨b4, o4, rfl, hw4, hL4⟩ := HS4.out (by omega)
            have c4 := (hL4.below HB.out hw4).str hih
            have HHI := Lib.hid (List.getElem_mem hih)
            generalize hs[i] = h at c4 HHI
            obtain ⟨wo, hwo⟩ : ∃ z, z = wr := ⟨_, rfl⟩
            subst hwo
            obtain ⟨ga, hga⟩ : ∃ g, wo.heap.size = g := ⟨_, rfl⟩
            have HGL := Lib.hid (show wx4.heap.size ≤ ga by rw [← hga]; exact HB.out.size)
            have HGA := Lib.hid hga
            have HAR := Lib.hid (show ArrI (wo.alloc (.cells #[.int .i64 0, .int .i64 0, .int .i64 0, .int .i64 0, .int .i64 0, .int .i64 0] 47)) ga 0 0 0 0 0 by unfold ArrI; rw [← hga]; exact heap_alloc_new wo _)
            have HBA := Lib.hid (HB.out.trans ((up wo (.cells #[.int .i64 0, .int .i64 0, .int .i64 0, .int .i64 0, .int .i64 0, .int .i64 0] 47)).mono HB.out.size))
            clear hL4 hga
            go_wp2
            try rw [HGA.out]
            go_loopg [60] m (fun g vk wr => ∃ k v1 v2 v3 v4 v5 : Nat, Hid (k + g = m) ∧ vk = .int .i64 (k : Int) ∧ Hid (ArrI wr ga v1 v2 v3 v4 v5) ∧ Hid (CntP h (L.take k) v1 v2 v3 v4 v5) ∧ Hid (Below wx4.heap.size wx4 wr))
            case atStart => exact ⟨0, 0, 0, 0, 0, 0, Nat.zero_add _, rfl, HAR.out, ⟨rfl, rfl, rfl, rfl, rfl⟩, HBA.out⟩
            case round =>
              obtain ⟨k, v1, v2, v3, v4, v5, HG, rfl, HAX, HCN, HBX⟩ := hrel
              have hgk := HG.out
              by_cases hlk : k < m
              · have blt : decide ((k : Int) < (m : Int)) = true := decide_eq_true (by omega)
                have blt2 : decide (k < m) = true := decide_eq_true hlk
                have hkz : (k : Int) < (m : Int) := by omega
                have hkL : k < L.length := by rw [HM.out]; exact hlk
                obtain ⟨bL, oL, rfl, hwL, hLL⟩ := HS.out (by omega)
                obtain ⟨l0, l1, l2, l3⟩ := (hLL.below HBX.out hwL).entry rfl rfl hkL
                have HMO := Lib.hid (show v1 ≤ 32040000 ∧ v2 ≤ 32040000 ∧ v3 ≤ 32040000 ∧ v4 ≤ 32040000 ∧ v5 ≤ 32040000 by
                  have h1 := HCN.out.most
                  have h2 : (L.take k).length ≤ 32040000 := by rw [List.length_take]; omega
                  omega)
                have HTK := Lib.hid (List.take_succ_eq_append_getElem hkL)
                generalize L[k] = x0 at l0 l1 l2 l3 HTK
                obtain ⟨xh, xk, xy, xv⟩ := x0
                simp only at l0 l1 l2 l3
                obtain ⟨y0, y1, y2, y3⟩ := (ent_laid wr xh xk xy xv).cells
                have hup := up wr (.cells #[.string (sB xh), .int .i64 xk, .string (sB xy), .string (sB xv)] 35)
                have HARU := Lib.hid (arrI_below HAX.out hup)
                obtain ⟨r1, r2, r3, r4, r5⟩ := arrI_cells HARU.out
                have f1 := arrI_open HARU.out 1
                have f2 := arrI_open HARU.out 2
                have f3 := arrI_open HARU.out 3
                have f4 := arrI_open HARU.out 4
                have f5 := arrI_open HARU.out 5
                have HUP := Lib.hid (HBX.out.trans (hup.mono HBX.out.size))
                clear hLL hup
                by_cases he : xh = h
                · have n0 := sB_eq he
                  have HEQ := Lib.hid he
                  by_cases h0 : 0 < xk
                  · have g0 : decide ((0 : Int) < xk) = true := decide_eq_true h0
                    have g0b : decide (xk > 0) = true := decide_eq_true h0
                    by_cases h6 : xk < 6
                    · have hk : xk = 1 ∨ xk = 2 ∨ xk = 3 ∨ xk = 4 ∨ xk = 5 := by omega
                      clear g0 g0b h0 h6 he
                      rcases hk with rfl | rfl | rfl | rfl | rfl
                      · obtain ⟨x, hx⟩ : ∃ x, v1 + 1 = x := ⟨_, rfl⟩
                        have hwx : IntKind.i64.wrap ((v1 : Int) + 1) = (x : Int) := by rw [wrapI _ (by have := HMO.out; omega)]; omega
                        have HA2 := Lib.hid (arrI_set1 HARU.out x)
                        have HC2 := Lib.hid (show CntP h (L.take (k + 1)) x v2 v3 v4 v5 by rw [HTK.out]; exact HCN.out.hit1 HEQ.out rfl hx)
                        have HB2 := Lib.hid (HUP.out.setCell (p := ⟨ga, 1, none⟩) HGL.out (.int .i64 (x : Int)))
                        clear hx
                        go_wp2
                        go_roundg (m - (k + 1))
                        case rel => exact ⟨k + 1, x, v2, v3, v4, v5, (by show _ = _; omega), by go_num, HA2.out, HC2.out, HB2.out⟩
                        case measure => omega
                      · obtain ⟨x, hx⟩ : ∃ x, v2 + 1 = x := ⟨_, rfl⟩
                        have hwx : IntKind.i64.wrap ((v2 : Int) + 1) = (x : Int) := by rw [wrapI _ (by have := HMO.out; omega)]; omega
                        have HA2 := Lib.hid (arrI_set2 HARU.out x)
                        have HC2 := Lib.hid (show CntP h (L.take (k + 1)) v1 x v3 v4 v5 by rw [HTK.out]; exact HCN.out.hit2 HEQ.out rfl hx)
                        have HB2 := Lib.hid (HUP.out.setCell (p := ⟨ga, 2, none⟩) HGL.out (.int .i64 (x : Int)))
                        clear hx
                        go_wp2
                        go_roundg (m - (k + 1))
                        case rel => exact ⟨k + 1, v1, x, v3, v4, v5, (by show _ = _; omega), by go_num, HA2.out, HC2.out, HB2.out⟩
                        case measure => omega
                      · obtain ⟨x, hx⟩ : ∃ x, v3 + 1 = x := ⟨_, rfl⟩
                        have hwx : IntKind.i64.wrap ((v3 : Int) + 1) = (x : Int) := by rw [wrapI _ (by have := HMO.out; omega)]; omega
                        have HA2 := Lib.hid (arrI_set3 HARU.out x)
                        have HC2 := Lib.hid (show CntP h (L.take (k + 1)) v1 v2 x v4 v5 by rw [HTK.out]; exact HCN.out.hit3 HEQ.out rfl hx)
                        have HB2 := Lib.hid (HUP.out.setCell (p := ⟨ga, 3, none⟩) HGL.out (.int .i64 (x : Int)))
                        clear hx
                        go_wp2
                        go_roundg (m - (k + 1))
                        case rel => exact ⟨k + 1, v1, v2, x, v4, v5, (by show _ = _; omega), by go_num, HA2.out, HC2.out, HB2.out⟩
                        case measure => omega
                      · obtain ⟨x, hx⟩ : ∃ x, v4 + 1 = x := ⟨_, rfl⟩
                        have hwx : IntKind.i64.wrap ((v4 : Int) + 1) = (x : Int) := by rw [wrapI _ (by have := HMO.out; omega)]; omega
                        have HA2 := Lib.hid (arrI_set4 HARU.out x)
                        have HC2 := Lib.hid (show CntP h (L.take (k + 1)) v1 v2 v3 x v5 by rw [HTK.out]; exact HCN.out.hit4 HEQ.out rfl hx)
                        have HB2 := Lib.hid (HUP.out.setCell (p := ⟨ga, 4, none⟩) HGL.out (.int .i64 (x : Int)))
                        clear hx
                        go_wp2
                        go_roundg (m - (k + 1))
                        case rel => exact ⟨k + 1, v1, v2, v3, x, v5, (by show _ = _; omega), by go_num, HA2.out, HC2.out, HB2.out⟩
                        case measure => omega
                      · obtain ⟨x, hx⟩ : ∃ x, v5 + 1 = x := ⟨_, rfl⟩
                        have hwx : IntKind.i64.wrap ((v5 : Int) + 1) = (x : Int) := by rw [wrapI _ (by have := HMO.out; omega)]; omega
                        have HA2 := Lib.hid (arrI_set5 HARU.out x)
                        have HC2 := Lib.hid (show CntP h (L.take (k + 1)) v1 v2 v3 v4 x by rw [HTK.out]; exact HCN.out.hit5 HEQ.out rfl hx)
                        have HB2 := Lib.hid (HUP.out.setCell (p := ⟨ga, 5, none⟩) HGL.out (.int .i64 (x : Int)))
                        clear hx
                        go_wp2
                        go_roundg (m - (k + 1))
                        case rel => exact ⟨k + 1, v1, v2, v3, v4, x, (by show _ = _; omega), by go_num, HA2.out, HC2.out, HB2.out⟩
                        case measure => omega
                    · have g6 : decide (xk < 6) = false := decide_eq_false h6
                      have HNO := Lib.hid (show CntP h (L.take (k + 1)) v1 v2 v3 v4 v5 by rw [HTK.out]; exact HCN.out.off (fun z => h6 z.2.2))
                      clear h0 h6 he
                      go_wp2
                      go_roundg (m - (k + 1))
                      case rel => exact ⟨k + 1, v1, v2, v3, v4, v5, (by show _ = _; omega), by go_num, HARU.out, HNO.out, HUP.out⟩
                      case measure => omega
                  · have g0 : decide ((0 : Int) < xk) = false := decide_eq_false h0
                    have g0b : decide (xk > 0) = false := decide_eq_false h0
                    have HNO := Lib.hid (show CntP h (L.take (k + 1)) v1 v2 v3 v4 v5 by rw [HTK.out]; exact HCN.out.off (fun z => h0 z.2.1))
                    clear h0 he
                    go_wp2
                    go_roundg (m - (k + 1))
                    case rel => exact ⟨k + 1, v1, v2, v3, v4, v5, (by show _ = _; omega), by go_num, HARU.out, HNO.out, HUP.out⟩
                    case measure => omega
                · have n0 := sB_ne he
                  have HNO := Lib.hid (show CntP h (L.take (k + 1)) v1 v2 v3 v4 v5 by rw [HTK.out]; exact HCN.out.off (fun z => he z.1))
                  clear he
                  go_wp2
                  go_roundg (m - (k + 1))
                  case rel => exact ⟨k + 1, v1, v2, v3, v4, v5, (by show _ = _; omega), by go_num, HARU.out, HNO.out, HUP.out⟩
                  case measure => omega
              · have blt : decide ((k : Int) < (m : Int)) = false := decide_eq_false (by omega)
                have blt2 : decide (k < m) = false := decide_eq_false hlk
                have hcn := HCN.out
                rw [List.take_of_length_le (show L.length ≤ k by rw [HM.out]; omega)] at hcn
                obtain rfl : rn = v4 := (hcn.c4.trans (HC4.out h HHI.out)).symm
                obtain rfl : pn = v5 := (hcn.c5.trans (HC5.out h HHI.out)).symm
                have HV2 := Lib.hid (show v2 = (bs.filter (fbind t h)).length from hcn.c2.trans (HC2.out h HHI.out))
                obtain ⟨wc, hwc⟩ : ∃ z, z = wr := ⟨_, rfl⟩
                subst hwc
                have HAC := Lib.hid HAX.out
                have HBC := Lib.hid HBX.out
                clear hcn HCN HAX HBX HG hgk
                go_wp2_with fail
                refine (underM14 A c n t _ 1 1 bn [C.wBindings] bs _ HNA.out rfl ((HA.out.seen.below HBC.out).below (up _ _)) (lit_seen eS wc [C.wBindings] _ rfl (by simp)) (by omega) (by omega) HR.out HBS.out HBN.out).mono ?_
                rintro e wy ⟨B7, d7, rfl, hd7, hs7, hx⟩
                have hxy := bthen (up wc _) hx
                have HXY := Lib.hid hxy
                have HAY := Lib.hid ((HA.out.seen.below HBC.out).below hxy)
                have HS7 := Lib.hid hs7
                clear hx hxy hs7
                go_wp2
                go_loopg [12, 89] bn (fun g vb vk wr => ∃ k b : Nat, Hid (k + g = bn) ∧ vk = .int .i64 (k : Int) ∧ vb = .int .i64 (b : Int) ∧ Hid (b = ((bs.take k).filter (fbind t h)).length) ∧ Hid (Below wy.heap.size wy wr))
                case atStart => exact ⟨0, 0, Nat.zero_add _, rfl, rfl, rfl, Below.refl _ _⟩
                case round =>
                  obtain ⟨k, b, HG, rfl, rfl, HBL, HBY⟩ := hrel
                  have hgk := HG.out
                  by_cases hlk : k < bn
                  · have blt : decide ((k : Int) < (bn : Int)) = true := decide_eq_true (by omega)
                    have blt2 : decide (k < bn) = true := decide_eq_true hlk
                    have hkz : (k : Int) < (bn : Int) := by omega
                    have hkb : k < bs.length := by rw [HBN.out]; exact hlk
                    obtain ⟨b7, o7, rfl, hw7, hL7⟩ := HS7.out (by omega)
                    have c7 := (hL7.below HBY.out hw7).str hkb
                    have HBI := Lib.hid (List.getElem_mem hkb)
                    have HON := Lib.hid (fun (z : fbind t h bs[k] = true) => H.filter_on hkb z)
                    have HOF := Lib.hid (fun (z : fbind t h bs[k] = false) => H.filter_off hkb z)
                    generalize bs[k] = bb at c7 HBI HON HOF
                    have hb60 : b ≤ 60 := by
                      rw [HBL.out]
                      refine Nat.le_trans (List.length_filter_le _ _) ?_
                      rw [List.length_take, HBN.out]; omega
                    obtain ⟨vn, hvn⟩ := HBV.out bb HBI.out
                    have HVN := Lib.hid hvn
                    have HFB := Lib.hid (show fbind t h bb = decide (vn ∈ T.underW t [C.wHosts, h, C.wVnis]) by unfold fbind H.inH; rw [H.word_is hvn])
                    obtain ⟨wk, hwk⟩ : ∃ z, z = wr := ⟨_, rfl⟩
                    subst hwk
                    have HBK := Lib.hid HBY.out
                    clear hL7 hvn HBY HG
                    go_wp2_with fail
                    refine (underM14 A c n t _ 3 3 1 [C.wBindings, bb, C.wVni] [vn] _ HNA.out rfl (HAY.out.below (bthen HBK.out (up _ _))) (lit_seen eS wk [C.wBindings, bb, C.wVni] _ rfl (by simp)) (by omega) (by omega) HR.out HVN.out rfl).mono ?_
                    rintro e wz ⟨B8, d8, rfl, hd8, hs8, hx⟩
                    have HBZ := Lib.hid (bthen HBK.out (bthen (up wk _) hx))
                    obtain ⟨b8, o8, rfl, hw8, hL8⟩ := hs8 (by simp)
                    have c8 := hL8.str (i := 0) (by simp)
                    simp only [List.getElem_cons_zero, Nat.add_zero] at c8
                    have HC8 := Lib.hid c8
                    clear hx hs8 hL8 c8
                    go_wp2
                    go_loopg [12, 98] 1 (fun g vb vk wr => ∃ j b2 : Nat, Hid (j + g = 1) ∧ vk = .int .i64 (j : Int) ∧ vb = .int .i64 (b2 : Int) ∧ Hid (b2 = b + (if 0 < j ∧ fbind t h bb = true then 1 else 0)) ∧ Hid (Below wz.heap.size wz wr))
                    case atStart => exact ⟨0, b, Nat.zero_add _, rfl, rfl, (by show b = _; simp), Below.refl _ _⟩
                    case round =>
                      obtain ⟨j, b2, HG2, rfl, rfl, HB2, HBW⟩ := hrel
                      have hgj := HG2.out
                      by_cases hj0 : j < 1
                      · obtain rfl : j = 0 := by omega
                        obtain rfl : b = b2 := by have := HB2.out; simp at this; exact this.symm
                        have c8 := (HBW.out.cell (p := ⟨b8, o8, none⟩) hw8).trans HC8.out
                        have HXW := Lib.hid (bthen HBZ.out HBW.out)
                        clear hj0 HB2
                        by_cases hin : T.isIn t [C.wHosts, h, C.wVnis, vn]
                        · have HIN := Lib.hid hin
                          have HFT := Lib.hid (show fbind t h bb = true by rw [HFB.out]; exact decide_eq_true (T.mem_underW.2 hin))
                          have hwx : IntKind.i64.wrap ((b : Int) + 1) = ((b + 1 : Nat) : Int) := by rw [wrapI _ (by omega)]; omega
                          clear hin
                          go_wp2_with fail
                          refine (findRYes A _ c _ n 4 t [C.wHosts, h, C.wVnis, vn] _ HNA.out rfl (HAY.out.below (bthen HXW.out (up _ _))) (lit_seen eS wr [C.wHosts, h, C.wVnis, vn] _ rfl (by simp)) (by omega) (by omega) HR.out HIN.out).mono ?_
                          rintro e wf ⟨fi, rfl, hx⟩
                          have HXF := Lib.hid (HBW.out.trans ((bthen (up wr _) hx).mono HBW.out.size))
                          have p0 : decide ((0 : Int) ≤ (fi : Int)) = true := decide_eq_true (by omega)
                          have p1 : decide ((fi : Int) ≥ 0) = true := decide_eq_true (by omega)
                          clear hx
                          go_wp2
                          go_roundg 0
                          case rel => exact ⟨1, b + 1, rfl, rfl, (by first | rfl | go_num), (by show b + 1 = _; rw [if_pos ⟨by omega, HFT.out⟩]), HXF.out⟩
                          case measure => omega
                        · have HIN := Lib.hid hin
                          have HFT := Lib.hid (show fbind t h bb = false by rw [HFB.out]; exact decide_eq_false (fun z => hin (T.mem_underW.1 z)))
                          clear hin
                          go_wp2_with fail
                          refine (findRNo A _ c _ n 4 t [C.wHosts, h, C.wVnis, vn] _ HNA.out rfl (HAY.out.below (bthen HXW.out (up _ _))) (lit_seen eS wr [C.wHosts, h, C.wVnis, vn] _ rfl (by simp)) (by omega) (by omega) HR.out HIN.out).mono ?_
                          rintro e wf ⟨rfl, hx⟩
                          have HXF := Lib.hid (HBW.out.trans ((bthen (up wr _) hx).mono HBW.out.size))
                          clear hx
                          go_wp2
                          go_roundg 0
                          case rel => exact ⟨1, b, rfl, rfl, rfl, (by show b = _; rw [HFT.out]; simp), HXF.out⟩
                          case measure => omega
                      · obtain rfl : j = 1 := by omega
                        have HBL2 := Lib.hid (show b2 = ((bs.take (k + 1)).filter (fbind t h)).length by
                          have h1 := HB2.out
                          cases hf : fbind t h bb with
                          | true => rw [HON.out hf, List.length_append, List.length_singleton, ← HBL.out, h1, if_pos ⟨by omega, hf⟩]
                          | false => rw [HOF.out hf, ← HBL.out, h1, if_neg (fun z => by rw [hf] at z; cases z.2)]; rfl)
                        go_wp2
                        go_roundg (bn - (k + 1))
                        case rel => exact ⟨k + 1, b2, (by show _ = _; omega), by go_num, rfl, HBL2.out, bthen HBZ.out HBW.out⟩
                        case measure => omega
                  · have blt : decide ((k : Int) < (bn : Int)) = false := decide_eq_false (by omega)
                    have blt2 : decide (k < bn) = false := decide_eq_false hlk
                    have hbl := HBL.out
                    rw [List.take_of_length_le (show bs.length ≤ k by rw [HBN.out]; omega), ← HV2.out] at hbl
                    obtain rfl : v2 = b := hbl.symm
                    have HBE := Lib.hid (bthen HXY.out HBY.out)
                    obtain ⟨r1, r2, r3, r4, r5⟩ := arrI_cells (arrI_below HAC.out HBE.out)
                    have t1 : ((rn : Int) != (rn : Int)) = false := by simp
                    have t2 : ((pn : Int) != (pn : Int)) = false := by simp
                    have t3 : ((v2 : Int) != (v2 : Int)) = false := by simp
                    go_wp2
                    go_roundg (q - (i + 1))
                    case rel => exact ⟨i + 1, (by show _ = _; omega), by go_num, HBC.out.trans (HBE.out.mono HBC.out.size)⟩
                    case measure => omega
          · have bli : decide ((i : Int) < (q : Int)) = false := decide_eq_false (by omega)
            have bli2 : decide (i < q) = false := decide_eq_false hlt
            go_wp2_with fail
            refine (AW _ (rowsAt TAB (bthen HBB.out HB.out))).mono ?_
            rintro e wz ⟨rfl, hx⟩
            go_wp2
            go_ret
            exact ⟨rfl, bthen (bthen HBB.out HB.out) hx⟩
      · have HE := Lib.hid (show L = [] ∧ er = 7 by
          rcases HI.out with ⟨_, _, _, h⟩ | ⟨_, _, h1, h2⟩ | ⟨h, _⟩
          · exact absurd h he
          · exact ⟨h1, h2⟩
          · exact absurd HR.out h)
        obtain ⟨rfl, rfl⟩ := HE.out
        obtain rfl : m = 0 := HM.out.symm
        clear he
        go_wp2_with fail
        refine (AW _ (rowsAt TAB hb)).mono ?_
        rintro e wz ⟨rfl, hx⟩
        go_wp2
        go_ret
        exact ⟨rfl, bthen hb hx⟩
    · have HR := Lib.hid hR
      clear hR
      go_wp2_with fail
      refine (right13 A c n t false _ HNA.out HA.out.seen (by omega) (no_iff HR.out)).mono ?_
      rintro e wx4 ⟨rfl, hx⟩
      replace hb := bthen hb hx
      clear hx
      go_wp2_with fail
      refine (AW _ (rowsAt TAB hb)).mono ?_
      rintro e wz ⟨rfl, hx⟩
      go_wp2
      go_ret
      exact ⟨rfl, bthen hb hx⟩
  · have b1 : decide ((n : Int) > 60) = true := decide_eq_true (by omega)
    have b2 : decide ((60 : Int) < (n : Int)) = true := decide_eq_true (by omega)
    have b3 : decide (60 < n) = true := decide_eq_true (by omega)
    go_wp2_with fail
    refine (AW _ (rowsAt TAB hb)).mono ?_
    rintro e wz ⟨rfl, hx⟩
    go_wp2
    go_ret
    exact ⟨rfl, bthen hb hx⟩
end Go.Proofs.YtfcikfohmehmkaaGreatDoor
