/-
  Contract of the document's answer for layer 1 (ferryslipref01): Unquote returns what the plain definitions say; below the heap's size at the call the world is as it was. Condition: strings of at most 2^30 bytes.
-/
import Derived.Test.YtccbdogfapiidaaWordRefQ
import Derived.Test.YtccbdogfapiidaaWordUnq
import Derived.Deep.RegionLaw
import Derived.Deep.Cut
import Derived.IntWalk
namespace Go.Proofs.Ytccbdogfapiidaa
open Go.RowKit

def RelU (t : ByteArray) (w : World) (b i : Value) (wr : World) : Prop :=
  ∃ (j : Nat) (acc : List UInt8), j + 1 ≤ t.size - 1 ∧ acc.length ≤ j ∧ i = .int .i64 (j + 1 : Nat) ∧ OwnB wr w.heap.size b acc ∧ Below w.heap.size w wr ∧
    W.decL (t.extract 1 (t.size - 1)).data.toList = (W.decL ((t.extract 1 (t.size - 1)).data.toList.drop j)).map (acc ++ ·)

theorem relU_step {t : ByteArray} {w wr w1 : World} {v1 : Value} {j n : Nat} {acc : List UInt8} {c : UInt8} (hj : j + 1 < t.size - 1) (hac : acc.length ≤ j)
    (hb : Below w.heap.size w wr) (H : W.decL (t.extract 1 (t.size - 1)).data.toList = (W.decL ((t.extract 1 (t.size - 1)).data.toList.drop j)).map (acc ++ ·))
    (ho : W.oneD ((t.extract 1 (t.size - 1)).data.toList.drop j) = some (c, n)) (hown1 : OwnB w1 w.heap.size v1 (acc ++ [c])) (hb1 : Below w.heap.size wr w1) {i : Value} (hi : i = .int .i64 ((j + n + 1 : Nat) : Int)) :
    RelU t w v1 i w1 := by
  have hn := W.oneD_pos ho
  have hl : ((t.extract 1 (t.size - 1)).data.toList.drop j).length = t.size - 2 - j := by rw [List.length_drop, ← Lib.size_eq, W.rest_size t 1 _ (by omega)]; omega
  rw [hl] at hn
  refine ⟨j + n, acc ++ [c], by omega, by simp only [List.length_append, List.length_singleton]; omega, hi, hown1, hb.trans hb1, ?_⟩
  rw [H, W.decL_some ho, W.map_acc, List.drop_drop]

theorem decU_none {t : ByteArray} {j : Nat} {acc : List UInt8} (hj : j + 1 < t.size - 1) (H : W.decL (t.extract 1 (t.size - 1)).data.toList = (W.decL ((t.extract 1 (t.size - 1)).data.toList.drop j)).map (acc ++ ·))
    (ho : W.oneD ((t.extract 1 (t.size - 1)).data.toList.drop j) = none) (h0 : 0 < t.size) (h3 : (t[0]'h0).toNat = 34) (h4 : (t[t.size - 1]'(by omega)).toNat = 34) : W.unqL t.data.toList = ([], 2) := by
  apply W.unq_none
  rw [W.meant_quoted t (W.quoted_not_plain t h0 h3) (by omega) h3 h4, H, W.decL_none ?_ ho]
  · rfl
  · rw [W.mid_drop t j hj]; simp

theorem wrapA (n : Int) (h : -1 ≤ n ∧ n < 16) : IntKind.i64.wrap (16 * n) = 16 * n := IntWalk.i64_in _ (by omega)
theorem cell_code (c : UInt8) (n : Int) (h : n = (c.toNat : Int)) : (#[Value.int .u8 (IntKind.u8.wrap (IntKind.i64.wrap n))] : Array Value).toList = byteCells [c] := by
  have hc := c.toNat_lt
  rw [h, IntWalk.i64_in _ (by omega), IntWalk.u8_in _ (by omega)]; rfl

set_option maxRecDepth 100000 in
set_option maxHeartbeats 2000000 in
theorem unquoteR_shape (t : ByteArray) (w : World) (hs : t.size ≤ 1073741824) (g0 : 0 < t.size) (g1 : t.size - 1 < t.size) (g2 : 2 ≤ t.size) (h3 : t[0].toNat = 34) (h4 : t[t.size - 1].toNat = 34) :
    Calls Try.prog 25 #[.string t] w (WroteS w.heap.size w (W.unqL t.data.toList).1 (W.unqL t.data.toList).2) := by
  have b3 : ((t[0].toNat : Int) != 34) = false := by simp; omega
  have b4 : ((t[t.size - 1].toNat : Int) != 34) = false := by simp; omega
  have HM := Lib.hid (W.meant_quoted t (W.quoted_not_plain t g0 h3) g2 h3 h4)
  have H3 := Lib.hid h3
  have H4 := Lib.hid h4
  clear h3 h4
  go_enter Try.func25, Try.ntmps25
  go_wp2
  go_loopw [4, 5] (fun b i wr => RelU t w b i wr) (fun _ i _ => t.size - (intOf i).toNat)
  case atStart => exact ⟨0, [], by omega, by simp, rfl, ⟨by simp [byteCells], .inl ⟨rfl, rfl⟩⟩, Below.refl _ _, by simp⟩
  case round =>
    obtain ⟨j, acc, hj, hac, rfl, hown, hb, hH⟩ := hrel
    have hsz := hb.size
    have H := Lib.hid hH
    clear hH
    by_cases hlt : j + 1 < t.size - 1
    · have hlt2 : j + 1 < t.size := by omega
      have HDR := Lib.hid (W.mid_drop t j hlt)
      by_cases h34 : t[j + 1].toNat = 34
      · have b34 : ((t[j + 1].toNat : Int) == 34) = true := by simp; omega
        have k1 : (32 : Int) ≤ t[j + 1].toNat := by omega
        have k2 : (t[j + 1].toNat : Int) ≤ 126 := by omega
        have HU := Lib.hid (decU_none hlt H.out (by rw [HDR.out]; exact W.oneA_bad _ _ (.inl h34)) g0 H3.out H4.out)
        clear h34
        go_wp2
        go_ret2
        exact ⟨by rw [HU.out]; rfl, hb⟩
      have b34 : ((t[j + 1].toNat : Int) == 34) = false := by simp; omega
      by_cases hlo : t[j + 1].toNat < 32
      · have k1 : (t[j + 1].toNat : Int) < 32 := by omega
        have HU := Lib.hid (decU_none hlt H.out (by rw [HDR.out]; exact W.oneA_bad _ _ (.inr (by unfold W.shownB; exact decide_eq_false (by omega)))) g0 H3.out H4.out)
        clear h34 hlo
        go_wp2
        go_ret2
        exact ⟨by rw [HU.out]; rfl, hb⟩
      have k1 : (32 : Int) ≤ t[j + 1].toNat := by omega
      by_cases hhi : 126 < t[j + 1].toNat
      · have k2 : (126 : Int) < t[j + 1].toNat := by omega
        have HU := Lib.hid (decU_none hlt H.out (by rw [HDR.out]; exact W.oneA_bad _ _ (.inr (by unfold W.shownB; exact decide_eq_false (by omega)))) g0 H3.out H4.out)
        clear h34 hlo hhi
        go_wp2
        go_ret2
        exact ⟨by rw [HU.out]; rfl, hb⟩
      have k2 : (t[j + 1].toNat : Int) ≤ 126 := by omega
      by_cases h92 : t[j + 1].toNat ≠ 92
      · have b92 : ((t[j + 1].toNat : Int) != 92) = true := by simp; omega
        have HO := Lib.hid (W.oneA_self t[j + 1] (t.extract (j + 1 + 1) (t.size - 1)).data.toList (by unfold W.shownB; simp; omega) h92)
        clear h34 hlo hhi h92
        go_wp2_with (at_builtin; refine wpList_appB _ rfl (.tmp 53) (.tmp 55) rfl w.heap.size _ acc rfl hown [t[j + 1]] 1 1 _ rfl rfl rfl (by omega) hsz ?_; intro v1 w1 hown1 hb1)
        go_roundw
        case rel => exact relU_step (n := 1) hlt hac hb H.out (by rw [HDR.out]; exact HO.out) hown1 hb1 (by go_num)
        case measure => simp [intOf]; omega
      have b92 : ((t[j + 1].toNat : Int) != 92) = false := by simp; omega
      have h92' : t[j + 1].toNat = 92 := by omega
      have HC := Lib.hid h92'
      have hRs := W.rest_size t (j + 1 + 1) (t.size - 1) (by omega)
      have HRs := Lib.hid hRs
      clear h34 hlo hhi h92 h92' hRs
      go_upto_region 17 with (fail)
      generalize hR : t.extract (j + 1 + 1) (t.size - 1) = R at *
      have HR := Lib.hid hR
      clear hR
      have hjn : R.size = t.size - 1 - (j + 1 + 1) := HRs.out
      have q1 : R.size ≤ t.size := by omega
      have q2 : j + 2 + R.size ≤ t.size - 1 := by omega
      clear hjn
      by_cases h0 : R.size = 0
      · have q0 : ¬ 0 < R.size := by omega
        have q3 : ¬ (0 : Int) < R.size := by omega
        have HU := Lib.hid (decU_none hlt H.out (by rw [HDR.out]; exact W.oneB_none _ R HC.out h0) g0 H3.out H4.out)
        clear h0
        go_wp2
        go_ret2
        exact ⟨by rw [HU.out]; rfl, hb⟩
      have q0 : 0 < R.size := by omega
      by_cases e34 : R[0].toNat = 34 ∨ R[0].toNat = 92
      · have HO := Lib.hid (W.oneB_esc t[j + 1] R HC.out q0 e34)
        by_cases e1 : R[0].toNat = 34
        · have c34 : ((R[0].toNat : Int) == 34) = true := by simp; omega
          clear e34 e1
          go_wp2_with (at_builtin; refine wpList_appB _ rfl (.tmp 77) (.tmp 80) rfl w.heap.size _ acc rfl hown [R[0]] 1 1 _ rfl rfl rfl (by omega) hsz ?_; intro v1 w1 hown1 hb1)
          go_roundw
          case rel => exact relU_step (n := 2) hlt hac hb H.out (by rw [HDR.out]; exact HO.out) hown1 hb1 (by go_num)
          case measure => simp [intOf]; omega
        · have c34 : ((R[0].toNat : Int) == 34) = false := by simp; omega
          have c92 : ((R[0].toNat : Int) == 92) = true := by simp; omega
          clear e34 e1
          go_wp2_with (at_builtin; refine wpList_appB _ rfl (.tmp 77) (.tmp 80) rfl w.heap.size _ acc rfl hown [R[0]] 1 1 _ rfl rfl rfl (by omega) hsz ?_; intro v1 w1 hown1 hb1)
          go_roundw
          case rel => exact relU_step (n := 2) hlt hac hb H.out (by rw [HDR.out]; exact HO.out) hown1 hb1 (by go_num)
          case measure => simp [intOf]; omega
      have c34 : ((R[0].toNat : Int) == 34) = false := by simp; omega
      have c92 : ((R[0].toNat : Int) == 92) = false := by simp; omega
      by_cases h3s : R.size < 3
      · have q4 : (R.size : Int) < 3 := by omega
        by_cases e120 : R[0].toNat = 120
        · have hcd : W.codedD (R.data.toList.drop 1) = none := W.coded_short R 1 (by omega)
          have HU := Lib.hid (decU_none hlt H.out (by rw [HDR.out]; exact (by rw [W.oneB_hex _ R HC.out q0 e120, hcd]; rfl)) g0 H3.out H4.out)
          clear hcd e120 h3s e34
          go_wp2
          go_ret2
          exact ⟨by rw [HU.out]; rfl, hb⟩
        · have HU := Lib.hid (decU_none hlt H.out (by rw [HDR.out]; exact W.oneB_bad _ R HC.out q0 e34 e120) g0 H3.out H4.out)
          clear e120 h3s e34
          go_wp2
          go_ret2
          exact ⟨by rw [HU.out]; rfl, hb⟩
      have q4 : (3 : Int) ≤ R.size := by omega
      have q5 : 1 < R.size := by omega
      have q6 : 2 < R.size := by omega
      by_cases e120 : R[0].toNat ≠ 120
      · have c120 : ((R[0].toNat : Int) != 120) = true := by simp; omega
        have HU := Lib.hid (decU_none hlt H.out (by rw [HDR.out]; exact W.oneB_bad _ R HC.out q0 e34 e120) g0 H3.out H4.out)
        clear e120 h3s e34
        go_wp2
        go_ret2
        exact ⟨by rw [HU.out]; rfl, hb⟩
      have c120 : ((R[0].toNat : Int) != 120) = false := by simp; omega
      have HX := Lib.hid (W.oneB_hex t[j + 1] R HC.out q0 (by omega))
      have HCA : Hid (W.codedD (R.data.toList.drop 1) = if W.hexV R[1] < 0 ∨ W.hexV R[2] < 0 then none else some (W.hexV R[1] * (16 : Int) + W.hexV R[2]).toNat.toUInt8) := W.coded_at R 1 (by omega)
      clear e120 h3s e34
      have v1b := W.hexV_lt R[1]
      have v2b := W.hexV_lt R[2]
      by_cases v1 : W.hexV R[1] < 0
      · have d1 : decide (W.hexV R[1] < 0) = true := decide_eq_true v1
        have HU := Lib.hid (decU_none hlt H.out (by rw [HDR.out]; exact (by rw [HX.out, HCA.out, if_pos (.inl v1)]; rfl)) g0 H3.out H4.out)
        skip
        go_wp2_with (go_at_call 36; refine (valueR_any _ _).mono ?_; rintro e w' ⟨rfl, rfl⟩)
        go_ret2
        exact ⟨by rw [HU.out]; rfl, hb⟩
      have v1' : 0 ≤ W.hexV R[1] := by omega
      have d1 : decide (W.hexV R[1] < 0) = false := decide_eq_false v1
      by_cases v2 : W.hexV R[2] < 0
      · have d2 : decide (W.hexV R[2] < 0) = true := decide_eq_true v2
        have HU := Lib.hid (decU_none hlt H.out (by rw [HDR.out]; exact (by rw [HX.out, HCA.out, if_pos (.inr v2)]; rfl)) g0 H3.out H4.out)
        skip
        go_wp2_with (go_at_call 36; refine (valueR_any _ _).mono ?_; rintro e w' ⟨rfl, rfl⟩)
        go_ret2
        exact ⟨by rw [HU.out]; rfl, hb⟩
      have v2' : 0 ≤ W.hexV R[2] := by omega
      have d2 : decide (W.hexV R[2] < 0) = false := decide_eq_false v2
      have HV := Lib.hid (W.code_val R[1] R[2] v1' v2')
      have HO : Hid (W.oneD (t[j + 1] :: R.data.toList) = some ((W.hexV R[1] * (16 : Int) + W.hexV R[2]).toNat.toUInt8, 4)) := by
        rw [HX.out, HCA.out, if_neg (by omega)]; exact rfl
      obtain ⟨c, hc⟩ : ∃ c, (W.hexV R[1] * (16 : Int) + W.hexV R[2]).toNat.toUInt8 = c := ⟨_, rfl⟩
      rw [hc] at HV HO
      have hcv : (16 : Int) * W.hexV R[1] + W.hexV R[2] = (c.toNat : Int) := by rw [HV.out]; omega
      clear hc v1 v2
      go_wp2_with (go_at_call 36; refine (valueR_any _ _).mono ?_; rintro e w' ⟨rfl, rfl⟩)
      have hlen1 : acc.length + 1 ≤ 4398046511104 := by omega
      have HCS := Lib.hid (cell_code c _ hcv)
      clear hcv
      have x1 := wrapA _ v1b
      go_region_law (first | (go_simp; go_at_call 36; refine (valueR_any _ _).mono ?_; rintro e w' ⟨rfl, rfl⟩) | (refine step_appB _ rfl (.tmp 104) (.tmp 114) rfl w.heap.size _ acc rfl hown [c] 1 1 _ HCS.out rfl rfl hlen1 hsz ?_; intro v1 w1 hown1 hb1))
      all_goals
        clear x1
        go_wp2
        go_roundw
        case rel => exact relU_step (n := 4) hlt hac hb H.out (by rw [HDR.out]; exact HO.out) hown1 hb1 (by go_num)
        case measure => simp [intOf]; omega
    · have HD : Hid (W.decL (t.extract 1 (t.size - 1)).data.toList = some acc) := by rw [H.out, W.mid_over t j hlt, W.decL_nil]; simp [Hid]
      have hcv := conv_own hown
      by_cases h40 : 40 < acc.length
      · have HU := Lib.hid (W.unq_long (HM.out.trans HD.out) h40)
        rcases hown.2 with ⟨rfl, hn⟩ | ⟨g, cap, cur, rfl, _⟩
        · omega
        · go_wp2
          go_ret2
          exact ⟨by rw [HU.out]; rfl, hb⟩
      · have HU := Lib.hid (W.unq_ok (HM.out.trans HD.out) h40)
        rcases hown.2 with ⟨rfl, hn⟩ | ⟨g, cap, cur, rfl, _⟩
        · go_wp2
          go_ret2
          exact ⟨by rw [HU.out]; rfl, hb⟩
        · go_wp2
          go_ret2
          exact ⟨by rw [HU.out]; rfl, hb⟩
end Go.Proofs.Ytccbdogfapiidaa
