/-
  The walk of layer 13's statement SchemaWord, from what schema does: it returns true whatever comes in. No conditions.
-/
import Derived.Test.YtikjdjfpoohieaaDoorBase11
namespace Go.Proofs.YtikjdjfpoohieaaDoor
open Go.RowKit
set_option linter.unusedVariables false

theorem vec_arg13 {w : World} {n : Nat} {v : Value} {t : List T.Ln} (h : VecAt eL w v t) (hn : t.length = n) (hl : n ≤ 200) : ∃ B d, v = .slice B n d ∧ LArgS w B d n t := by
  obtain ⟨B, d, e, hd, hs⟩ := h.seen
  subst hn
  exact ⟨B, d, e, rfl, hl, hd, VecE.nilOk (.inl h) e, hs⟩
/-- Where one stands among the faults of the elder tree. -/
def placeW (a k : Nat) : Nat := if k ≤ a then k else k - 1
theorem place_step {A B : List Fl} {f : Fl} {k : Nat} {x : Fl} (hx : (A ++ f :: B)[k]? = some x) : (k = A.length ∧ x = f) ∨ (k ≠ A.length ∧ (A ++ B)[placeW A.length k]? = some x ∧ placeW A.length (k + 1) = placeW A.length k + 1 ∧ placeW A.length k < (A ++ B).length ∧ x ∈ A ++ B) := by
  have hl : (A ++ B).length = A.length + B.length := List.length_append
  have hk := (List.getElem?_eq_some_iff.1 hx).1
  rw [List.length_append, List.length_cons] at hk
  rcases Nat.lt_trichotomy k A.length with h | h | h
  · right
    rw [List.getElem?_append_left h] at hx
    have e : placeW A.length k = k := if_pos (by omega)
    have e2 : placeW A.length (k + 1) = k + 1 := if_pos (by omega)
    refine ⟨by omega, by rw [e, List.getElem?_append_left h]; exact hx, by rw [e, e2], by rw [e]; omega, List.mem_append_left _ (List.mem_of_getElem? hx)⟩
  · left
    subst h
    rw [List.getElem?_append_right (Nat.le_refl _), Nat.sub_self] at hx
    injection hx with hx
    exact ⟨rfl, hx.symm⟩
  · right
    obtain ⟨j, rfl⟩ : ∃ j, k = A.length + 1 + j := ⟨k - (A.length + 1), by omega⟩
    rw [List.getElem?_append_right (by omega), show A.length + 1 + j - A.length = j + 1 by omega, List.getElem?_cons_succ] at hx
    have e : placeW A.length (A.length + 1 + j) = A.length + j := by unfold placeW; rw [if_neg (by omega)]; omega
    have e2 : placeW A.length (A.length + 1 + j + 1) = A.length + j + 1 := by unfold placeW; rw [if_neg (by omega)]; omega
    refine ⟨by omega, by rw [e, List.getElem?_append_right (by omega), Nat.add_sub_cancel_left]; exact hx, by rw [e, e2], by rw [e]; omega, List.mem_append_right _ (List.mem_of_getElem? hx)⟩
theorem place_here (a : Nat) : placeW a (a + 1) = placeW a a := by unfold placeW; rw [if_neg (by omega), if_pos (Nat.le_refl _)]; omega
theorem place_end {A B : List Fl} {f : Fl} {m : Nat} (hm : (A ++ f :: B).length = m) : placeW A.length m = (A ++ B).length := by
  rw [List.length_append, List.length_cons] at hm
  rw [List.length_append]
  unfold placeW; rw [if_neg (by omega)]; omega
set_option maxRecDepth 100000 in
set_option maxHeartbeats 8000000 in
theorem schemaWord_walk (E : SchemaOk) (AW : ∀ w, RowsOk w → Calls Tryd.prog 11 #[] w (TrueS w)) (w : World) (HTAB : RowsOk w) (A : Option Addr) (c : Nat) (t : List T.Ln) (hc : t.length ≤ c) (hA : Seen eL w A t) (hlA : t.length ≤ maxLen) (hNA : NilOk A c) (gs : ByteArray) (hgs : gs.size ≤ maxLen) :
    Calls Tryd.prog 9 #[.slice A t.length c, .string gs] w (TrueS w) := by
  have TAB := Lib.hid HTAB
  clear HTAB
  unfold maxLen at hlA
  obtain ⟨n, hnA⟩ : ∃ n, t.length = n := ⟨_, rfl⟩
  rw [hnA] at hc hlA ⊢
  have HNA := Lib.hid hnA
  have HA := Lib.hid hA
  have HOA := Lib.hid hNA
  clear hA hnA hNA
  have hb : Below w.heap.size w w := Below.refl _ _
  obtain ⟨s, hs⟩ : ∃ s, gs.data.toList = s := ⟨_, rfl⟩
  obtain rfl : gs = sB s := by rw [← hs]; exact (sB_of gs).symm
  clear hs hgs
  go_enter Tryd.func9, Tryd.ntmps9
  go_wp2_with fail
  refine (few13 A c n t _ HNA.out HA.out).mono ?_
  rintro e wx1 ⟨bs, rfl, hsm, hx⟩
  replace HA := Lib.hid (HA.out.below hx)
  replace hb := bthen hb hx
  clear hx
  cases bs with
  | false =>
    clear hsm
    go_wp2_with fail
    refine (AW _ (rowsAt TAB (by first | assumption | exact Below.refl _ _ | exact bthen (by assumption) (by assumption) | exact below_drawn13 (by first | assumption | exact Below.refl _ _) _))).mono ?_
    rintro e wz ⟨rfl, hx⟩
    go_wp2
    go_ret
    exact ⟨rfl, bthen hb hx⟩
  | true =>
  have hn60 : n ≤ 60 := hsm rfl
  clear hsm
  replace HA := Lib.hid (LArgS.mk HNA.out (by omega) hc HOA.out HA.out)
  by_cases hR : T.RightT t
  · have HR := Lib.hid hR
    clear hR
    go_wp2_with fail
    refine (right13 A c n t true _ HNA.out HA.out.seen (by omega) (yes_iff HR.out)).mono ?_
    rintro e wx2 ⟨rfl, hx⟩
    replace HA := Lib.hid (HA.out.below hx)
    replace hb := bthen hb hx
    clear hx
    by_cases hw40 : 40 < s.length
    · have b1 : decide (((sB s).size : Int) > 40) = true := decide_eq_true (by rw [sB_size]; omega)
      have b1a : decide ((40 : Int) < ((sB s).size : Int)) = true := decide_eq_true (by rw [sB_size]; omega)
      have b1b : decide (40 < (sB s).size) = true := decide_eq_true (by rw [sB_size]; omega)
      go_wp2_with fail
      refine (AW _ (rowsAt TAB (by first | assumption | exact Below.refl _ _ | exact bthen (by assumption) (by assumption) | exact below_drawn13 (by first | assumption | exact Below.refl _ _) _))).mono ?_
      rintro e wz ⟨rfl, hx⟩
      go_wp2
      go_ret
      exact ⟨rfl, bthen hb hx⟩
    have b1 : decide (((sB s).size : Int) > 40) = false := decide_eq_false (by rw [sB_size]; omega)
    have b1a : decide ((40 : Int) < ((sB s).size : Int)) = false := decide_eq_false (by rw [sB_size]; omega)
    have b1b : decide (40 < (sB s).size) = false := decide_eq_false (by rw [sB_size]; omega)
    have HW40 := Lib.hid (show s.length ≤ 40 by omega)
    obtain ⟨sw, hsw⟩ : ∃ sw, C.secondW s = sw := ⟨_, rfl⟩
    have HSW := Lib.hid hsw
    clear hw40 hsw
    go_wp2_with fail
    refine (secondQ s sw _ HSW.out).mono ?_
    rintro e wx3 ⟨rfl, rfl⟩
    by_cases g1 : sw = []
    case neg =>
      have d1c : (sB sw).toList.isEmpty = false := by rw [sB_toList]; cases sw with | nil => exact absurd rfl g1 | cons => rfl
      have d1b : ¬ (sB sw).toList = [] := by rw [sB_toList]; exact g1
      clear g1
      go_wp2_with fail
      refine (AW _ (rowsAt TAB (by first | assumption | exact Below.refl _ _ | exact bthen (by assumption) (by assumption) | exact below_drawn13 (by first | assumption | exact Below.refl _ _) _))).mono ?_
      rintro e wz ⟨rfl, hx⟩
      go_wp2
      go_ret
      exact ⟨rfl, bthen hb hx⟩
    have d1c : (sB sw).toList.isEmpty = true := by rw [sB_toList, g1]; rfl
    have d1b : (sB sw).toList = [] := by rw [sB_toList, g1]
    have HS0 := Lib.hid (show C.secondW s = [] by rw [HSW.out]; exact g1)
    clear g1
    go_wp2_with fail
    refine (findN13 A _ c _ n 1 t [s] _ HNA.out rfl (HA.out.seen.below (up _ _)) (lit_seen eS _ [s] _ rfl (by simp)) (by omega) (by omega) HR.out).mono ?_
    rintro e wx4 ⟨hf, hx⟩
    replace hx := (up wx2 (.cells #[.string (sB s)] 9)).trans (hx.mono (up wx2 _).size)
    replace HA := Lib.hid (HA.out.below hx)
    replace hb := bthen hb hx
    clear hx
    rcases hf with ⟨i0, hi0, hp0, rfl⟩ | ⟨hno, rfl⟩
    · have d2 : decide ((i0 : Int) ≥ 0) = true := decide_eq_true (by omega)
      have d2a : decide ((0 : Int) ≤ (i0 : Int)) = true := decide_eq_true (by omega)
      clear hi0 hp0
      go_wp2_with fail
      refine (AW _ (rowsAt TAB (by first | assumption | exact Below.refl _ _ | exact bthen (by assumption) (by assumption) | exact below_drawn13 (by first | assumption | exact Below.refl _ _) _))).mono ?_
      rintro e wz ⟨rfl, hx⟩
      go_wp2
      go_ret
      exact ⟨rfl, bthen hb hx⟩
    obtain ⟨hu, X, Y, hc1, hc2, hc3⟩ := C.word_split HR.out (w := s) (by have := HNA.out; omega) HW40.out HS0.out (fun ⟨i, h1, h2⟩ => hno i h1 h2)
    obtain ⟨u, hue⟩ : ∃ u, T.putL t [] s 0 = u := ⟨_, rfl⟩
    have HUE := Lib.hid hue
    rw [hue] at hu hc1
    obtain ⟨nu, hnu⟩ : ∃ nu, u.length = nu := ⟨_, rfl⟩
    have HNU := Lib.hid hnu
    have HNU2 := Lib.hid (show nu ≤ 200 by rw [← hnu]; exact hu.len)
    have HI := Lib.hid (show CheckIs t (X ++ Y) 0 from .inl ⟨HR.out, hc2.symm, rfl⟩)
    have HI2 := Lib.hid (show CheckIs u (X ++ ([s], 3) :: Y) 0 from .inl ⟨hu, hc1.symm, rfl⟩)
    have HAP := Lib.hid hc3
    obtain ⟨m, hm⟩ : ∃ m, (X ++ Y).length = m := ⟨_, rfl⟩
    have HM := Lib.hid hm
    have HM1 := Lib.hid (show (X ++ ([s], (3 : Int)) :: Y).length = m + 1 by rw [← hm]; simp; omega)
    have HML := Lib.hid (show m ≤ 600 by rw [← hm, ← hc2]; exact C.check_long HR.out HNA.out (by omega))
    have HPL := Lib.hid (show ∀ x ∈ X ++ Y, x.1.length ≤ 1073741824 by intro x hx; rw [← hc2] at hx; have := C.fault_long HR.out hx; omega)
    clear hu hue hnu hc1 hc2 hc3 hm hno
    go_wp2_with fail
    refine (put_gen (by omega : 200 ≤ 1000) (.slice A n c) (.slice none 0 0) t [] s 0 _ (by have h := VecE.of HA.out.seen HA.out.nil (by rw [HNA.out]; exact hc); rwa [HNA.out] at h) (VecAt.nil _ _) HR.out (.inl rfl) (by simp)).mono ?_
    rintro e wx5 ⟨vu, rfl, hvu, hx⟩
    rw [HUE.out] at hvu
    obtain ⟨Bu, du, rfl, hau⟩ := vec_arg13 hvu HNU.out HNU2.out
    have HAU := Lib.hid hau
    replace HA := Lib.hid (HA.out.below hx)
    replace hb := bthen hb hx
    clear hx hvu hau
    go_wp2_with fail
    refine (E.checkOf A c n m t (X ++ Y) 0 _ HA.out HI.out HM.out (rowsAt TAB (by first | assumption | exact Below.refl _ _ | exact bthen (by assumption) (by assumption) | exact below_drawn13 (by first | assumption | exact Below.refl _ _) _))).mono ?_
    rintro e wx6 ⟨B1, d1, rfl, hmf, hx⟩
    replace HAU := Lib.hid (HAU.out.below hx)
    replace hb := bthen hb hx
    have HS1 := Lib.hid hmf.1.seenV.2.2
    clear hx hmf
    go_wp2_with fail
    refine (E.checkOf Bu du nu (m + 1) u (X ++ ([s], 3) :: Y) 0 _ HAU.out HI2.out HM1.out (rowsAt TAB (by first | assumption | exact Below.refl _ _ | exact bthen (by assumption) (by assumption) | exact below_drawn13 (by first | assumption | exact Below.refl _ _) _))).mono ?_
    rintro e wx7 ⟨B2, d2, rfl, hmf, hx⟩
    replace HS1 := Lib.hid (HS1.out.below hx)
    replace hb := bthen hb hx
    have HS2 := Lib.hid hmf.1.seenV.2.2
    clear hx hmf
    obtain ⟨m1, hm1⟩ : ∃ m1, m + 1 = m1 := ⟨_, rfl⟩
    have HM1E := Lib.hid hm1
    rw [hm1] at HM1 ⊢
    have w1 : IntKind.i64.wrap ((m : Int) + 1) = (m1 : Int) := by have := HML.out; rw [IntKind.wrap_i64]; omega
    have w2 : ((m1 : Int) != (m1 : Int)) = false := by simp
    obtain ⟨qa, hqa⟩ : ∃ qa, X.length = qa := ⟨_, rfl⟩
    have HQA := Lib.hid hqa
    have hm1l : m1 ≤ 601 := by have := HML.out; omega
    clear hm1 hqa
    go_wp2
    go_loopg [10, 68] m1 (fun gk va vi wr => ∃ k a : Nat, Hid (k + gk = m1) ∧ k ≤ m1 ∧ vi = .int .i64 (k : Int) ∧ va = .int .i64 (a : Int) ∧ Hid (placeW qa k = a) ∧ Below wx7.heap.size wx7 wr)
    case atStart => exact ⟨0, 0, Nat.zero_add _, Nat.zero_le _, rfl, rfl, rfl, Below.refl _ _⟩
    case round =>
      obtain ⟨k, a, HG, hk, rfl, rfl, HPA, hbr⟩ := hrel
      have hgk := HG.out
      by_cases hlt : k < m1
      · have blt : decide ((k : Int) < (m1 : Int)) = true := decide_eq_true (by omega)
        have blt2 : decide (k < m1) = true := decide_eq_true hlt
        have hki : (k : Int) < (m1 : Int) := by omega
        obtain ⟨y, hy⟩ : ∃ y, (X ++ ([s], (3 : Int)) :: Y)[k]? = some y := ⟨_, List.getElem?_eq_getElem (by rw [HM1.out]; exact hlt)⟩
        obtain ⟨b2, o2, B3, n3, c3, hAe, hw2, e1, e2, hp1⟩ := (HS2.out.below hbr).atV rfl rfl hy
        have hplace := place_step hy
        obtain ⟨P, er⟩ := y
        simp only at e2 hp1
        have hn3 : P.length = n3 := hp1.len
        have HN3 := Lib.hid hn3
        have HPS := Lib.hid hp1
        have hb2 := up wr (.cells #[.slice B3 n3 c3, .int .i64 er] 44)
        have HB2 := Lib.hid (bthen hbr hb2)
        have HPS2 := Lib.hid (hp1.below hb2)
        have y0 : (wr.alloc (.cells #[.slice B3 n3 c3, .int .i64 er] 44)).cell? ⟨wr.heap.size, 0, none⟩ = some (.slice B3 n3 c3) := World.cell?_alloc_mark wr #[.slice B3 n3 c3, .int .i64 er] 44 (0, 0) 0
        have y1 : (wr.alloc (.cells #[.slice B3 n3 c3, .int .i64 er] 44)).cell? ⟨wr.heap.size, 1, none⟩ = some (.int .i64 er) := World.cell?_alloc_mark wr #[.slice B3 n3 c3, .int .i64 er] 44 (0, 0) 1
        have HAE := Lib.hid hAe
        clear hy hp1 hb2 hn3
        subst hAe
        rcases hplace with ⟨hka, hyf⟩ | ⟨hka, hat, hnx, hal, hmem⟩
        · injection hyf with hP her
          subst hP; subst her
          obtain rfl : 1 = n3 := HN3.out
          have HNX := Lib.hid (show placeW qa (k + 1) = a by rw [← HPA.out, ← HQA.out, hka]; exact place_here X.length)
          obtain ⟨b5, o5, rfl, hw5, hL5⟩ := HPS2.out.seen (by simp)
          have e5 : (wr.alloc (.cells #[.slice (some ⟨b5, o5, none⟩) 1 c3, .int .i64 3] 44)).cell? ⟨b5, o5, none⟩ = some (.string (sB s)) := cellS hL5 (i := 0) rfl
          have q5 : ((sB s).toList == (sB s).toList) = true := sB_eq rfl
          clear hka hL5
          go_wp2
          go_roundg (m1 - (k + 1))
          case rel => exact ⟨k + 1, a, (by show _ = _; omega), by omega, by go_num, rfl, HNX.out, HB2.out⟩
          case measure => omega
        · have HNX := Lib.hid (show placeW qa (k + 1) = a + 1 by rw [← HPA.out, ← HQA.out]; exact hnx)
          have hat2 : (X ++ Y)[a]? = some (P, er) := by rw [← HPA.out, ← HQA.out]; exact hat
          have ham : a < m := by rw [← HM.out, ← HPA.out, ← HQA.out]; exact hal
          have z1 : ((a : Int) == (m : Int)) = false := beq_eq_false_iff_ne.2 (by omega)
          have z1b : (a == m) = false := beq_eq_false_iff_ne.2 (by omega)
          have z1c : ¬ a = m := by omega
          have hami : (a : Int) < (m : Int) := by omega
          have wa : IntKind.i64.wrap ((a : Int) + 1) = ((a + 1 : Nat) : Int) := by have := HML.out; rw [IntKind.wrap_i64]; omega
          have z2 : (er != er) = false := by simp
          have HPN := Lib.hid (show P ≠ [s] from HAP.out _ hmem)
          obtain ⟨b4, o4, B4, n4, c4, hAe4, hw4, f1, f2, hp4⟩ := (HS1.out.below hbr).atV rfl rfl hat2
          subst hAe4
          simp only at f2 hp4
          obtain rfl : n4 = n3 := hp4.len.symm.trans HN3.out
          have HP30 := Lib.hid (show n4 ≤ 1073741824 by rw [← HN3.out]; exact HPL.out _ hmem)
          have hbW := up wr (.cells #[.slice B3 n4 c3, .int .i64 er] 44)
          have f1' : (wr.alloc (.cells #[.slice B3 n4 c3, .int .i64 er] 44)).cell? ⟨b4, o4 + a * 2, none⟩ = some (.slice B4 n4 c4) := (hbW.cell (p := ⟨b4, o4 + a * 2, none⟩) hw4).trans f1
          have f2' : (wr.alloc (.cells #[.slice B3 n4 c3, .int .i64 er] 44)).cell? ⟨b4, o4 + a * 2 + 1, none⟩ = some (.int .i64 er) := (hbW.cell (p := ⟨b4, o4 + a * 2 + 1, none⟩) hw4).trans f2
          have hw4' : b4 < (wr.alloc (.cells #[.slice B3 n4 c3, .int .i64 er] 44)).heap.size := Nat.lt_of_lt_of_le hw4 hbW.size
          have hwn : wr.heap.size < (wr.alloc (.cells #[.slice B3 n4 c3, .int .i64 er] 44)).heap.size := by show _ < (wr.heap.push _).size; rw [Array.size_push]; omega
          have HKP := Lib.hid (fun w' (h : Below (wr.alloc (.cells #[.slice B3 n4 c3, .int .i64 er] 44)).heap.size (wr.alloc (.cells #[.slice B3 n4 c3, .int .i64 er] 44)) w') => show (w'.cell? ⟨b4, o4 + a * 2, none⟩ = some (.slice B4 n4 c4) ∧ w'.cell? ⟨b4, o4 + a * 2 + 1, none⟩ = some (.int .i64 er)) ∧ w'.cell? ⟨wr.heap.size, 0, none⟩ = some (.slice B3 n4 c3) ∧ w'.cell? ⟨wr.heap.size, 1, none⟩ = some (.int .i64 er) from
            ⟨⟨(h.cell (p := ⟨b4, o4 + a * 2, none⟩) hw4').trans f1', (h.cell (p := ⟨b4, o4 + a * 2 + 1, none⟩) hw4').trans f2'⟩, (h.cell (p := ⟨wr.heap.size, 0, none⟩) hwn).trans y0, (h.cell (p := ⟨wr.heap.size, 1, none⟩) hwn).trans y1⟩)
          have HP4 := Lib.hid (hp4.below hbW)
          have HEQ := Lib.hid (fun w' (h : Below (wr.alloc (.cells #[.slice B3 n4 c3, .int .i64 er] 44)).heap.size (wr.alloc (.cells #[.slice B3 n4 c3, .int .i64 er] 44)) w') => equal_yes B4 B3 c4 c3 P P n4 n4 w' rfl HN3.out HN3.out HP30.out (HP4.out.below h).seen (HPS2.out.below h).seen)
          have hbd : Below (wr.alloc (.cells #[.slice B3 n4 c3, .int .i64 er] 44)).heap.size (wr.alloc (.cells #[.slice B3 n4 c3, .int .i64 er] 44)) (wr.alloc (.cells #[.slice B3 n4 c3, .int .i64 er] 44)).drew := (Below.refl _ _).drew
          clear hka hat hnx hal hat2 hmem f1 f2 hp4 hbW hw4' hwn
          by_cases hn1 : n4 = 1
          · rcases P with _ | ⟨x0, _ | ⟨x1, rest⟩⟩
            · have := HN3.out; simp at this; omega
            · subst hn1
              obtain ⟨b5, o5, rfl, hw5, hL5⟩ := HPS2.out.seen (by simp)
              have e5 : (wr.alloc (.cells #[.slice (some ⟨b5, o5, none⟩) 1 c3, .int .i64 er] 44)).cell? ⟨b5, o5, none⟩ = some (.string (sB x0)) := cellS hL5 (i := 0) rfl
              have q5 : ((sB x0).toList == (sB s).toList) = false := sB_ne (fun e => HPN.out (by rw [e]))
              clear hL5
              go_wp2
              go_region_held3 (fun w' => Below (wr.alloc (.cells #[.slice (some ⟨b5, o5, none⟩) 1 c3, .int .i64 er] 44)).heap.size (wr.alloc (.cells #[.slice (some ⟨b5, o5, none⟩) 1 c3, .int .i64 er] 44)) w' ∧ (w'.cell? ⟨b4, o4 + a * 2, none⟩ = some (.slice B4 1 c4) ∧ w'.cell? ⟨b4, o4 + a * 2 + 1, none⟩ = some (.int .i64 er)) ∧ w'.cell? ⟨wr.heap.size, 0, none⟩ = some (.slice (some ⟨b5, o5, none⟩) 1 c3) ∧ w'.cell? ⟨wr.heap.size, 1, none⟩ = some (.int .i64 er)) (first | ((refine ⟨?_, HKP.out _ ?_⟩) <;> (first | assumption | (refine Below.drew ?_; assumption))) | go_keep) (first | (go_at_call 23; refine (HEQ.out _ (by assumption)).mono ?_; rintro e w' ⟨rfl, hx⟩; have hbx := bthen (show Below (wr.alloc (.cells #[.slice (some ⟨b5, o5, none⟩) 1 c3, .int .i64 er] 44)).heap.size (wr.alloc (.cells #[.slice (some ⟨b5, o5, none⟩) 1 c3, .int .i64 er] 44)) _ by assumption) hx))
              all_goals go_wp2
              all_goals
                go_roundg (m1 - (k + 1))
                case rel => exact ⟨k + 1, a + 1, (by show _ = _; omega), by omega, by go_num, rfl, HNX.out, bthen HB2.out hbx⟩
                case measure => omega
            · have := HN3.out; simp only [List.length_cons] at this; omega
          · have q1 : ((n4 : Int) == 1) = false := beq_eq_false_iff_ne.2 (by omega)
            have q1b : (n4 == 1) = false := beq_eq_false_iff_ne.2 hn1
            clear hn1
            go_wp2
            go_region_held3 (fun w' => Below (wr.alloc (.cells #[.slice B3 n4 c3, .int .i64 er] 44)).heap.size (wr.alloc (.cells #[.slice B3 n4 c3, .int .i64 er] 44)) w' ∧ (w'.cell? ⟨b4, o4 + a * 2, none⟩ = some (.slice B4 n4 c4) ∧ w'.cell? ⟨b4, o4 + a * 2 + 1, none⟩ = some (.int .i64 er)) ∧ w'.cell? ⟨wr.heap.size, 0, none⟩ = some (.slice B3 n4 c3) ∧ w'.cell? ⟨wr.heap.size, 1, none⟩ = some (.int .i64 er)) (first | ((refine ⟨?_, HKP.out _ ?_⟩) <;> (first | assumption | (refine Below.drew ?_; assumption))) | go_keep) (first | (go_at_call 23; refine (HEQ.out _ (by assumption)).mono ?_; rintro e w' ⟨rfl, hx⟩; have hbx := bthen (show Below (wr.alloc (.cells #[.slice B3 n4 c3, .int .i64 er] 44)).heap.size (wr.alloc (.cells #[.slice B3 n4 c3, .int .i64 er] 44)) _ by assumption) hx))
            all_goals go_wp2
            all_goals
              go_roundg (m1 - (k + 1))
              case rel => exact ⟨k + 1, a + 1, (by show _ = _; omega), by omega, by go_num, rfl, HNX.out, bthen HB2.out hbx⟩
              case measure => omega
      · have blt : decide ((k : Int) < (m1 : Int)) = false := decide_eq_false (by omega)
        have blt2 : decide (k < m1) = false := decide_eq_false hlt
        obtain rfl : k = m1 := by omega
        have HAM := Lib.hid (show a = m by rw [← HPA.out, ← HQA.out, ← HM.out]; exact place_end HM1.out)
        have z1 : ((a : Int) == (m : Int)) = true := by rw [HAM.out]; simp
        have z1b : (a == m) = true := by rw [HAM.out]; simp
        replace hb := bthen hb hbr
        clear hbr HPA
        go_wp2_with fail
        refine (AW _ (rowsAt TAB (by first | assumption | exact Below.refl _ _ | exact bthen (by assumption) (by assumption) | exact below_drawn13 (by first | assumption | exact Below.refl _ _) _))).mono ?_
        rintro e wz ⟨rfl, hx⟩
        go_wp2
        go_ret
        exact ⟨rfl, bthen hb hx⟩
  · have HR := Lib.hid hR
    clear hR
    go_wp2_with fail
    refine (right13 A c n t false _ HNA.out HA.out.seen (by omega) (no_iff HR.out)).mono ?_
    rintro e wx2 ⟨rfl, hx⟩
    replace hb := bthen hb hx
    clear hx
    go_wp2_with fail
    refine (AW _ (rowsAt TAB (by first | assumption | exact Below.refl _ _ | exact bthen (by assumption) (by assumption) | exact below_drawn13 (by first | assumption | exact Below.refl _ _) _))).mono ?_
    rintro e wz ⟨rfl, hx⟩
    go_wp2
    go_ret
    exact ⟨rfl, bthen hb hx⟩
end Go.Proofs.YtikjdjfpoohieaaDoor
