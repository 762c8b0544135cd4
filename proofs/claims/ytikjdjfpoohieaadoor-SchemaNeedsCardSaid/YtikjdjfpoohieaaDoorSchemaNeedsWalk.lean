/-
  The walk of layer 13's statement SchemaNeeds, from what schema does: it returns true whatever comes in. No conditions.
-/
import Derived.Test.YtikjdjfpoohieaaDoorBase11
namespace Go.Proofs.YtikjdjfpoohieaaDoor
open Go.RowKit
set_option linter.unusedVariables false

theorem needs_no {p : T.Pth} (h : ¬ (p.length = 2 ∧ C.secondW (p.headD []) ≠ [] ∧ C.knownP p = 0)) : needsL p = [] := by
  unfold needsL
  split
  · split
    · next k => exact absurd ⟨rfl, k⟩ h
    · rfl
  · rfl
theorem needs_yes {a b : C.Wd} (h1 : C.secondW a ≠ []) (h2 : C.knownP [a, b] = 0) : needsL [a, b] = C.needsW a := by
  show (if C.secondW a ≠ [] ∧ C.knownP [a, b] = 0 then C.needsW a else []) = C.needsW a; exact if_pos ⟨h1, h2⟩
set_option maxRecDepth 100000 in
set_option maxHeartbeats 8000000 in
theorem schemaNeeds_walk (E : SchemaOk) (AW : ∀ w, RowsOk w → Calls Tryd.prog 11 #[] w (TrueS w)) (w : World) (HTAB : RowsOk w) (A : Option Addr) (n c : Nat) (xs : List ByteArray) (g : HoldsS w A n xs) (gn : n ≤ maxLen) (gs : ∀ x ∈ xs, x.size ≤ maxLen) (hnc : n ≤ c) :
    Calls Tryd.prog 5 #[.slice A n c] w (TrueS w) := by
  have TAB := Lib.hid HTAB
  clear HTAB
  obtain ⟨p, hp, hS⟩ := seen_strs g
  clear g gn gs xs
  have HN := Lib.hid hp
  have HA := Lib.hid hS
  clear hp hS
  have hb : Below w.heap.size w w := Below.refl _ _
  go_enter Tryd.func5, Tryd.ntmps5
  go_wp2_with fail
  refine (short13 A c n p _ HN.out HA.out).mono ?_
  rintro e w1 ⟨bs, rfl, hsm, rfl⟩
  cases bs with
  | false =>
    clear hsm
    go_wp2_with fail
    refine (AW _ (rowsAt TAB (by first | assumption | exact Below.refl _ _ | exact bthen (by assumption) (by assumption) | exact below_drawn13 (by first | assumption | exact Below.refl _ _) _))).mono ?_
    rintro e wz ⟨rfl, hx⟩
    go_wp2
    go_ret
    exact ⟨rfl, bthen hb hx⟩
  | true =>
  obtain ⟨hn40, hsh⟩ := hsm rfl
  have HSH := Lib.hid hsh
  obtain ⟨l, hl⟩ : ∃ l, needsL p = l := ⟨_, rfl⟩
  obtain ⟨m, hm⟩ : ∃ m, l.length = m := ⟨_, rfl⟩
  have HL := Lib.hid hl
  have HM := Lib.hid hm
  have HML := Lib.hid (show m ≤ 3 by
    rw [← hm, ← hl]
    unfold needsL
    split
    · split
      · exact C.needs_few _
      · simp
    · simp)
  clear hsm hsh hl hm
  by_cases h2 : n = 2
  · have q2 : ((n : Int) == 2) = true := beq_iff_eq.2 (by omega)
    have q2b : (n == 2) = true := beq_iff_eq.2 h2
    rcases p with _ | ⟨x0, _ | ⟨x1, _ | ⟨x2, rest⟩⟩⟩
    · have := HN.out; simp at this; omega
    · have := HN.out; simp at this; omega
    · subst h2
      obtain ⟨b, o, hAe, hbw, hH⟩ := HA.out (by simp)
      have HHH := Lib.hid hH
      subst hAe
      have c0 : w.cell? ⟨b, o, none⟩ = some (.string (sB x0)) := cellS hH (i := 0) rfl
      obtain ⟨s, hs⟩ : ∃ s, C.secondW x0 = s := ⟨_, rfl⟩
      have HS := Lib.hid hs
      clear hH hs
      go_wp2_with fail
      refine (secondQ x0 s _ HS.out).mono ?_
      rintro e w2 ⟨rfl, rfl⟩
      by_cases g1 : s = []
      · have d1 : ((sB s).toList != []) = false := by rw [sB_toList, g1]; rfl
        have d1b : (sB s).toList = [] := by rw [sB_toList, g1]
        have d1c : (sB s).toList.isEmpty = true := by rw [sB_toList, g1]; rfl
        have HLE := Lib.hid (show l = [] by rw [← HL.out]; exact needs_no (fun h => h.2.1 (by show C.secondW x0 = []; rw [HS.out, g1])))
        have HA' := HA
        clear g1
        go_wp2_with fail
        refine (E.needsOf (some ⟨b, o, none⟩) c 2 m [x0, x1] l _ HN.out hnc hn40 HSH.out (HA.out.below hb) HL.out HM.out (rowsAt TAB (by first | assumption | exact Below.refl _ _ | exact bthen (by assumption) (by assumption) | exact below_drawn13 (by first | assumption | exact Below.refl _ _) _))).mono ?_
        rintro e w5 ⟨B5, d5, rfl, hd5, hs5, hx⟩
        replace hb := bthen hb hx
        clear hx
        go_wp2_with fail
        refine (equal_yes B5 none d5 0 l [] m 0 _ HLE.out HM.out rfl (by have := HML.out; omega) hs5 Seen.nil).mono ?_
        rintro e w6 ⟨rfl, hx⟩
        replace hb := bthen hb hx
        clear hx
        go_wp2_with fail
        refine (AW _ (rowsAt TAB (by first | assumption | exact Below.refl _ _ | exact bthen (by assumption) (by assumption) | exact below_drawn13 (by first | assumption | exact Below.refl _ _) _))).mono ?_
        rintro e wz ⟨rfl, hx⟩
        go_wp2
        go_ret
        exact ⟨rfl, bthen hb hx⟩
      · have d1 : ((sB s).toList != []) = true := by rw [sB_toList]; exact bne_iff_ne.2 g1
        have d1b : ¬ (sB s).toList = [] := by rw [sB_toList]; exact g1
        have d1c : (sB s).toList.isEmpty = false := by rw [sB_toList]; cases s with | nil => exact absurd rfl g1 | cons => rfl
        obtain ⟨ke, hke⟩ : ∃ ke, C.knownP [x0, x1] = ke := ⟨_, rfl⟩
        have HKE := Lib.hid hke
        have HG1 := Lib.hid g1
        clear hke g1
        go_wp2_with fail
        refine (knownR (some ⟨b, o, none⟩) c 2 [x0, x1] ke _ rfl (HA.out.below hb) (by simp) HSH.out (by omega) HKE.out).mono ?_
        rintro e w3 ⟨rfl, hx⟩
        replace hb := bthen hb hx
        have c1 : w3.cell? ⟨b, o, none⟩ = some (.string (sB x0)) := (hx.cell (p := ⟨b, o, none⟩) (by have := hb; exact hbw)).trans c0
        clear hx c0
        by_cases g2 : ke = 0
        · have d2 : (ke == 0) = true := beq_iff_eq.2 g2
          have HLE := Lib.hid (show C.needsW x0 = l by rw [← HL.out]; exact (needs_yes (by rw [HS.out]; exact HG1.out) (by rw [HKE.out, g2])).symm)
          clear g2
          go_wp2_with fail
          refine (needsQ x0 l m _ HLE.out HM.out).mono ?_
          rintro e w4 ⟨A4, c4, rfl, hpl, hx⟩
          replace hb := bthen hb hx
          clear hx
          go_wp2_with fail
          refine (E.needsOf (some ⟨b, o, none⟩) c 2 m [x0, x1] l _ HN.out hnc hn40 HSH.out (HA.out.below hb) HL.out HM.out (rowsAt TAB (by first | assumption | exact Below.refl _ _ | exact bthen (by assumption) (by assumption) | exact below_drawn13 (by first | assumption | exact Below.refl _ _) _))).mono ?_
          rintro e w5 ⟨B5, d5, rfl, hd5, hs5, hx⟩
          have hs4 := hpl.pt.seen.below hx
          replace hb := bthen hb hx
          clear hx
          go_wp2_with fail
          refine (equal_yes B5 A4 d5 c4 l l m m _ rfl HM.out HM.out (by have := HML.out; omega) hs5 hs4).mono ?_
          rintro e w6 ⟨rfl, hx⟩
          replace hb := bthen hb hx
          clear hx
          go_wp2_with fail
          refine (AW _ (rowsAt TAB (by first | assumption | exact Below.refl _ _ | exact bthen (by assumption) (by assumption) | exact below_drawn13 (by first | assumption | exact Below.refl _ _) _))).mono ?_
          rintro e wz ⟨rfl, hx⟩
          go_wp2
          go_ret
          exact ⟨rfl, bthen hb hx⟩
        · have d2 : (ke == 0) = false := beq_eq_false_iff_ne.2 g2
          have HLE := Lib.hid (show l = [] by rw [← HL.out]; exact needs_no (fun h => g2 (by rw [← HKE.out]; exact h.2.2)))
          clear g2
          go_wp2_with fail
          refine (E.needsOf (some ⟨b, o, none⟩) c 2 m [x0, x1] l _ HN.out hnc hn40 HSH.out (HA.out.below hb) HL.out HM.out (rowsAt TAB (by first | assumption | exact Below.refl _ _ | exact bthen (by assumption) (by assumption) | exact below_drawn13 (by first | assumption | exact Below.refl _ _) _))).mono ?_
          rintro e w5 ⟨B5, d5, rfl, hd5, hs5, hx⟩
          replace hb := bthen hb hx
          clear hx
          go_wp2_with fail
          refine (equal_yes B5 none d5 0 l [] m 0 _ HLE.out HM.out rfl (by have := HML.out; omega) hs5 Seen.nil).mono ?_
          rintro e w6 ⟨rfl, hx⟩
          replace hb := bthen hb hx
          clear hx
          go_wp2_with fail
          refine (AW _ (rowsAt TAB (by first | assumption | exact Below.refl _ _ | exact bthen (by assumption) (by assumption) | exact below_drawn13 (by first | assumption | exact Below.refl _ _) _))).mono ?_
          rintro e wz ⟨rfl, hx⟩
          go_wp2
          go_ret
          exact ⟨rfl, bthen hb hx⟩
    · have := HN.out; simp only [List.length_cons] at this; omega
  · have q2 : ((n : Int) == 2) = false := beq_eq_false_iff_ne.2 (by omega)
    have q2b : (n == 2) = false := beq_eq_false_iff_ne.2 h2
    have HLE := Lib.hid (show l = [] by rw [← HL.out]; exact needs_no (fun h => h2 (by rw [← HN.out]; exact h.1)))
    clear h2
    go_wp2_with fail
    refine (E.needsOf A c n m p l _ HN.out hnc hn40 HSH.out (HA.out.below hb) HL.out HM.out (rowsAt TAB (by first | assumption | exact Below.refl _ _ | exact bthen (by assumption) (by assumption) | exact below_drawn13 (by first | assumption | exact Below.refl _ _) _))).mono ?_
    rintro e w5 ⟨B5, d5, rfl, hd5, hs5, hx⟩
    replace hb := bthen hb hx
    clear hx
    go_wp2_with fail
    refine (equal_yes B5 none d5 0 l [] m 0 _ HLE.out HM.out rfl (by have := HML.out; omega) hs5 Seen.nil).mono ?_
    rintro e w6 ⟨rfl, hx⟩
    replace hb := bthen hb hx
    clear hx
    go_wp2_with fail
    refine (AW _ (rowsAt TAB (by first | assumption | exact Below.refl _ _ | exact bthen (by assumption) (by assumption) | exact below_drawn13 (by first | assumption | exact Below.refl _ _) _))).mono ?_
    rintro e wz ⟨rfl, hx⟩
    go_wp2
    go_ret
    exact ⟨rfl, bthen hb hx⟩
end Go.Proofs.YtikjdjfpoohieaaDoor
