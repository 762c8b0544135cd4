/-
  The walk of layer 11's statement MetricAdds, from what metric does: it returns true whatever the input is. No conditions.
-/
import Derived.Test.YtgjfjjdljngklaaDoorMetricA
namespace Go.Proofs.YtgjfjjdljngklaaDoor
open Go.RowKit
open F
set_option linter.unusedVariables false

theorem seen_take {α : Type} {E : Elem α} {w : World} {A : Option Addr} {l : List α} (h : Seen E w A l) (k : Nat) : Seen E w A (l.take k) := fun hp => by
  rw [List.length_take] at hp
  obtain ⟨b, o, e, hb, hH⟩ := h (by omega)
  refine ⟨b, o, e, hb, fun i hi j u hu => ?_⟩
  rw [List.length_take] at hi
  rw [List.getElem_take] at hu
  exact hH i (by omega) j u hu
set_option maxRecDepth 100000 in
set_option maxHeartbeats 16000000 in
theorem metricAdds_walk (E : MetricOk) (AW : ∀ w, TabOk w → Calls Tryd.prog 16 #[] w (TrueS w)) (w : World) (HTAB : TabOk w) (A : Option Addr) (c : Nat) (l : List Nat) (hc : l.length ≤ c) (hA : Seen eF w A l) (hW : Wd l) (at_ : Int) (wat : (Lit.int .u8 at_).wf = true) :
    Calls Tryd.prog 11 #[.slice A l.length c, .int .u8 at_] w (TrueS w) := by
  have TAB := Lib.hid HTAB
  clear HTAB
  obtain ⟨u0, u1⟩ := bounds_u8 wat
  clear wat
  obtain ⟨p, rfl⟩ := Int.eq_ofNat_of_zero_le u0
  obtain ⟨n, hn⟩ : ∃ n, l.length = n := ⟨_, rfl⟩
  rw [hn]
  have HA := Lib.hid hA
  have HW := Lib.hid hW
  have HN := Lib.hid hn
  have HC := Lib.hid (show n ≤ c by omega)
  clear hA hW
  by_cases h1 : 60 < n
  · have b1 : decide ((n : Int) > 60) = true := decide_eq_true (by omega)
    have b2 : decide ((60 : Int) < (n : Int)) = true := decide_eq_true (by omega)
    have b3 : decide (60 < n) = true := decide_eq_true h1
    clear hc hn
    go_enter Tryd.func11, Tryd.ntmps11
    go_wp2_with fail
    refine (AW _ (tabAt11 TAB (by first | assumption | exact Below.refl _ _ | exact below_drawn11 (by first | assumption | exact Below.refl _ _) _))).mono ?_
    rintro e w1 ⟨rfl, hx⟩
    go_wp2
    go_ret
    exact ⟨rfl, hx⟩
  have b1 : decide ((n : Int) > 60) = false := decide_eq_false (by omega)
  have b2 : decide ((60 : Int) < (n : Int)) = false := decide_eq_false (by omega)
  have b3 : decide (60 < n) = false := decide_eq_false h1
  have hn60 : n ≤ 60 := by omega
  obtain ⟨n1, hn1⟩ : ∃ n1, n + 1 = n1 := ⟨_, rfl⟩
  obtain ⟨k, hk⟩ : ∃ k, p % n1 = k := ⟨_, rfl⟩
  have hkn : k ≤ n := by have := Nat.mod_lt p (show 0 < n1 by omega); omega
  have hkc : k ≤ c := by omega
  have v1 : IntKind.i64.wrap (p : Int) = (p : Int) := wrap_big (by omega)
  have v2 : IntKind.i64.wrap ((n : Int) + 1) = (n1 : Int) := by rw [IntKind.wrap_i64]; omega
  have v3 : Int.tmod (p : Int) (n1 : Int) = (k : Int) := by rw [Int.tmod_eq_emod_of_nonneg (by omega), ← hk]; exact (Int.natCast_emod p n1).symm
  have v4 : IntKind.i64.wrap (k : Int) = (k : Int) := wrap_big (by omega)
  have v5 : ((n1 : Int) == 0) = false := beq_eq_false_iff_ne.2 (by omega)
  have v6 : (n1 == 0) = false := beq_eq_false_iff_ne.2 (by omega)
  have v7 : ¬ n1 = 0 := by omega
  have v8 : ¬ (n1 : Int) = -1 := by omega
  have HTL := Lib.hid (show (l.take k).length = k by rw [List.length_take]; omega)
  have HKC := Lib.hid hkc
  have HAK := Lib.hid (show Seen eF w A (l.take k) from seen_take HA.out k)
  have HWK := Lib.hid (show Wd (l.take k) from fun x hx => HW.out x (List.mem_of_mem_take hx))
  have hki : (k : Int) ≤ (n : Int) := by omega
  have hkci : (k : Int) ≤ (c : Int) := by omega
  clear hn hn1 hk h1
  by_cases hkl : k = n
  · have HTF := Lib.hid (show l.take k = l from List.take_of_length_le (by rw [HN.out]; omega))
    subst hkl
    obtain ⟨cc, hcc⟩ : ∃ cc, c - k = cc := ⟨_, rfl⟩
    cases A with
    | none =>
      go_enter Tryd.func11, Tryd.ntmps11
      go_wp2_with fail
      refine (E.sumOf none c k (l.take k) _ HTL.out (by omega) HKC.out HAK.out HWK.out).mono ?_
      rintro e w1 ⟨z, rfl, hz, hb⟩
      have HZ := Lib.hid (show IsM (sumO l) z by rw [HTF.out] at hz; exact hz)
      clear hz
      go_wp2
      go_loopg [6, 27] 0 (fun gk v6 vi wr => v6 = .float .f64 z ∧ vi = .int .i64 0 ∧ Below w.heap.size w wr)
      case atStart => exact ⟨rfl, rfl, hb⟩
      case round =>
        clear hb
        obtain ⟨rfl, rfl, hb⟩ := hrel
        go_wp2_with fail
        refine (E.sumOf none c k l _ HN.out (by omega) HC.out (HA.out.below hb) HW.out).mono ?_
        rintro e w1 ⟨g, rfl, hg, hx⟩
        replace hb := bthen hb hx
        clear hx
        have HGW := Lib.hid hg.1
        have HSM := Lib.hid (show sameB z g = true from decide_eq_true (sum_same HZ.out hg))
        clear hg
        go_wp2_with fail
        refine (sameR11 z g true _ HZ.out.1 HGW.out HSM.out).mono ?_
        rintro e w2 ⟨rfl, rfl⟩
        go_wp2_with fail
        refine (AW _ (tabAt11 TAB (by first | assumption | exact Below.refl _ _ | exact below_drawn11 (by first | assumption | exact Below.refl _ _) _))).mono ?_
        rintro e w3 ⟨rfl, hx⟩
        replace hb := bthen hb hx
        clear hx
        go_wp2
        go_ret
        exact ⟨rfl, hb⟩
    | some a =>
      by_cases hck : c = k
      · subst hck
        go_enter Tryd.func11, Tryd.ntmps11
        go_wp2_with fail
        refine (E.sumOf (some a) c c (l.take c) _ HTL.out (by omega) HKC.out HAK.out HWK.out).mono ?_
        rintro e w1 ⟨z, rfl, hz, hb⟩
        have HZ := Lib.hid (show IsM (sumO l) z by rw [HTF.out] at hz; exact hz)
        clear hz
        go_wp2
        go_loopg [6, 27] 0 (fun gk v6 vi wr => v6 = .float .f64 z ∧ vi = .int .i64 0 ∧ Below w.heap.size w wr)
        case atStart => exact ⟨rfl, rfl, hb⟩
        case round =>
          clear hb
          obtain ⟨rfl, rfl, hb⟩ := hrel
          go_wp2_with fail
          refine (E.sumOf (some a) c c l _ HN.out (by omega) HC.out (HA.out.below hb) HW.out).mono ?_
          rintro e w1 ⟨g, rfl, hg, hx⟩
          replace hb := bthen hb hx
          clear hx
          have HGW := Lib.hid hg.1
          have HSM := Lib.hid (show sameB z g = true from decide_eq_true (sum_same HZ.out hg))
          clear hg
          go_wp2_with fail
          refine (sameR11 z g true _ HZ.out.1 HGW.out HSM.out).mono ?_
          rintro e w2 ⟨rfl, rfl⟩
          go_wp2_with fail
          refine (AW _ (tabAt11 TAB (by first | assumption | exact Below.refl _ _ | exact below_drawn11 (by first | assumption | exact Below.refl _ _) _))).mono ?_
          rintro e w3 ⟨rfl, hx⟩
          replace hb := bthen hb hx
          clear hx
          go_wp2
          go_ret
          exact ⟨rfl, hb⟩
      · have hck2 : ¬ k = c := fun e => hck e.symm
        go_enter Tryd.func11, Tryd.ntmps11
        go_wp2_with fail
        refine (E.sumOf (some a) c k (l.take k) _ HTL.out (by omega) HKC.out HAK.out HWK.out).mono ?_
        rintro e w1 ⟨z, rfl, hz, hb⟩
        have HZ := Lib.hid (show IsM (sumO l) z by rw [HTF.out] at hz; exact hz)
        clear hz
        go_wp2
        go_loopg [6, 27] 0 (fun gk v6 vi wr => v6 = .float .f64 z ∧ vi = .int .i64 0 ∧ Below w.heap.size w wr)
        case atStart => exact ⟨rfl, rfl, hb⟩
        case round =>
          clear hb
          obtain ⟨rfl, rfl, hb⟩ := hrel
          go_wp2_with fail
          refine (E.sumOf (some a) c k l _ HN.out (by omega) HC.out (HA.out.below hb) HW.out).mono ?_
          rintro e w1 ⟨g, rfl, hg, hx⟩
          replace hb := bthen hb hx
          clear hx
          have HGW := Lib.hid hg.1
          have HSM := Lib.hid (show sameB z g = true from decide_eq_true (sum_same HZ.out hg))
          clear hg
          go_wp2_with fail
          refine (sameR11 z g true _ HZ.out.1 HGW.out HSM.out).mono ?_
          rintro e w2 ⟨rfl, rfl⟩
          go_wp2_with fail
          refine (AW _ (tabAt11 TAB (by first | assumption | exact Below.refl _ _ | exact below_drawn11 (by first | assumption | exact Below.refl _ _) _))).mono ?_
          rintro e w3 ⟨rfl, hx⟩
          replace hb := bthen hb hx
          clear hx
          go_wp2
          go_ret
          exact ⟨rfl, hb⟩
  · obtain ⟨b, o, rfl, hbw, hH⟩ := HA.out (by have := HN.out; omega)
    have HBW := Lib.hid hbw
    have HHH := Lib.hid hH
    obtain ⟨nn, hnn⟩ : ∃ nn, n - k = nn := ⟨_, rfl⟩
    obtain ⟨cc, hcc⟩ : ∃ cc, c - k = cc := ⟨_, rfl⟩
    have hck : ¬ c = k := by have := HC.out; omega
    have hck2 : ¬ k = c := fun e => hck e.symm
    have HNN := Lib.hid (show k + nn = n by omega)
    clear hH hkl hc
    go_enter Tryd.func11, Tryd.ntmps11
    go_wp2_with fail
    refine (E.sumOf (some ⟨b, o, none⟩) c k (l.take k) _ HTL.out (by omega) HKC.out HAK.out HWK.out).mono ?_
    rintro e w1 ⟨z, rfl, hz, hb⟩
    have HZ0 := Lib.hid hz
    clear hz
    go_wp2
    go_loopg [6, 27] nn (fun gk v6 vi wr => ∃ (j z : Nat), Hid (j + gk = nn) ∧ j ≤ nn ∧ vi = .int .i64 (j : Int) ∧ v6 = .float .f64 z ∧ Hid (IsM (sumO (l.take (k + j))) z) ∧ Below w.heap.size w wr)
    case atStart => exact ⟨0, z, Nat.zero_add _, Nat.zero_le _, rfl, rfl, HZ0.out, hb⟩
    case round =>
      clear hb HZ0
      obtain ⟨j, z, HG, hj, rfl, rfl, HZ, hb⟩ := hrel
      by_cases hlt : j < nn
      · have blt : decide ((j : Int) < (nn : Int)) = true := decide_eq_true (by omega)
        have blt2 : decide (j < nn) = true := decide_eq_true hlt
        have hji : (j : Int) < (nn : Int) := by omega
        have hgk := HG.out
        obtain ⟨y, hy⟩ : ∃ y, l[k + j]? = some y := ⟨_, List.getElem?_eq_getElem (by have := HN.out; have := HNN.out; omega)⟩
        have hyw := HW.out y (List.mem_of_getElem? hy)
        have hcy0 : wr.cell? ⟨b, o + (k + j), none⟩ = some (.float .f64 y) := (hb.cell (p := ⟨b, o + (k + j), none⟩) HBW.out).trans (by
          obtain ⟨h5, h6⟩ := List.getElem?_eq_some_iff.1 hy
          rw [← h6]; exact HHH.out.flt h5)
        have hcy : wr.cell? ⟨b, o + k + j, none⟩ = some (.float .f64 y) := by rw [Nat.add_assoc]; exact hcy0
        have HST := Lib.hid (show sumO [z, y] = sumO (l.take (k + (j + 1))) by
          obtain ⟨h5, h6⟩ := List.getElem?_eq_some_iff.1 hy
          rw [sum_two HZ.out, ← Nat.add_assoc, List.take_succ_eq_append_getElem h5, sum_snoc, h6])
        have HWZ := Lib.hid (show Wd [z, y] from fun x hx => by
          rcases List.mem_cons.1 hx with rfl | hx
          · exact HZ.out.1
          · rw [List.mem_singleton.1 hx]; exact hyw)
        clear hy hyw hcy0
        go_wp2_with fail
        refine (E.sumOf _ 2 2 [z, y] _ rfl (by omega) (by omega) (seen_lit11 eF wr _ _ rfl (by simp)) HWZ.out).mono ?_
        rintro e w2 ⟨r, rfl, hr, hx⟩
        have HR := Lib.hid (show IsM (sumO (l.take (k + (j + 1)))) r by rw [← HST.out]; exact hr)
        replace hb := bthen (hb.alloc hb.size _) hx
        clear hr hx
        go_wp2
        go_roundg (nn - (j + 1))
        case rel => exact ⟨j + 1, r, (by show _ = _; omega), by omega, by go_num, rfl, HR.out, hb⟩
        case measure => omega
      · have blt : decide ((j : Int) < (nn : Int)) = false := decide_eq_false (by omega)
        have blt2 : decide (j < nn) = false := decide_eq_false hlt
        obtain rfl : j = nn := by omega
        replace HZ := Lib.hid (show IsM (sumO l) z by have h := HZ.out; rw [HNN.out, List.take_of_length_le (by rw [HN.out]; exact Nat.le_refl _)] at h; exact h)
        go_wp2_with fail
        refine (E.sumOf (some ⟨b, o, none⟩) c n l _ HN.out (by omega) HC.out (HA.out.below hb) HW.out).mono ?_
        rintro e w1 ⟨g, rfl, hg, hx⟩
        replace hb := bthen hb hx
        clear hx
        have HGW := Lib.hid hg.1
        have HSM := Lib.hid (show sameB z g = true from decide_eq_true (sum_same HZ.out hg))
        clear hg
        go_wp2_with fail
        refine (sameR11 z g true _ HZ.out.1 HGW.out HSM.out).mono ?_
        rintro e w2 ⟨rfl, rfl⟩
        go_wp2_with fail
        refine (AW _ (tabAt11 TAB (by first | assumption | exact Below.refl _ _ | exact below_drawn11 (by first | assumption | exact Below.refl _ _) _))).mono ?_
        rintro e w3 ⟨rfl, hx⟩
        replace hb := bthen hb hx
        clear hx
        go_wp2
        go_ret
        exact ⟨rfl, hb⟩
end Go.Proofs.YtgjfjjdljngklaaDoor
