/-
  The walk of layer 10's statement AddrHalves, from what addr does: it returns true whatever the numbers are. No conditions.
-/
import Derived.Test.YtgefbdckngejdaaDoorAddrA
import Derived.Test.YtgefbdckngejdaaDoorAddrT
import Derived.Test.YtgefbdckngejdaaDoorAddrBackWalk
namespace Go.Proofs.YtgefbdckngejdaaDoor
open Go.RowKit
set_option linter.unusedVariables false

/-- A half of a prefix: an address of the prefix is in just one of them. -/
theorem halves10 (n b : Nat) (hb : b ≤ 31) (hn : n < 4294967296) : ∃ (r : Bool), N.inB ((N.cutN n b : Nat) : Int) ((b + 1 : Nat) : Int) (n : Int) = r ∧ N.inB ((N.cutN n b + 2 ^ (31 - b) : Nat) : Int) ((b + 1 : Nat) : Int) (n : Int) = !r := by
  have hr := N.half_right n b hb hn
  have hd := N.half_div n b hb
  have hq := (right_nums hr).2.1
  have e31 : 32 - (b + 1) = 31 - b := by omega
  have e32 : 2 ^ (32 - b) = 2 ^ (31 - b) * 2 := by rw [show 32 - b = (31 - b) + 1 by omega, Nat.pow_succ]
  have hx : n / 2 ^ (32 - b) = n / 2 ^ (31 - b) / 2 := by rw [e32, Nat.div_div_eq_div_mul]
  have hp : N.rightB ((N.cutN n b : Nat) : Int) ((b + 1 : Nat) : Int) = true := by
    rw [N.right_nat _ _ (by omega), e31]
    have h1 : N.cutN n b % 2 ^ (31 - b) = 0 := by
      unfold N.cutN
      rw [e32, ← Nat.mul_assoc, Nat.mul_right_comm]
      exact Nat.mul_mod_left _ _
    have h2 := N.cut_le n b
    rw [decide_eq_true h1, decide_eq_true (show N.cutN n b < 4294967296 by omega)]; rfl
  refine ⟨decide (n / 2 ^ (31 - b) = 2 * (n / 2 ^ (32 - b))), ?_, ?_⟩
  · rw [N.in_nat _ _ _ (by omega), hp, e31, hd.2, decide_eq_true hn]; rfl
  · rw [N.in_nat _ _ _ (by omega), hr, e31, hd.1, decide_eq_true hn]
    show decide (n / 2 ^ (31 - b) = 2 * (n / 2 ^ (32 - b)) + 1) = !decide (n / 2 ^ (31 - b) = 2 * (n / 2 ^ (32 - b)))
    by_cases h : n / 2 ^ (31 - b) = 2 * (n / 2 ^ (32 - b))
    · rw [decide_eq_true h, decide_eq_false (by omega)]; rfl
    · rw [decide_eq_false h, decide_eq_true (by omega)]; rfl
theorem half_in10 (n b : Nat) (hb : b ≤ 31) (hn : n < 4294967296) : N.inB ((N.cutN n b : Nat) : Int) (b : Int) ((N.cutN n b + 2 ^ (31 - b) : Nat) : Int) = true := by
  have hr := N.half_right n b hb hn
  have hq := (right_nums hr).2.1
  have e32 : 2 ^ (32 - b) = 2 ^ (31 - b) * 2 := by rw [show 32 - b = (31 - b) + 1 by omega, Nat.pow_succ]
  rw [N.in_cut n b _ (by omega) hn (by omega)]
  refine decide_eq_true ?_
  unfold N.cutN
  rw [Nat.add_comm, Nat.add_mul_div_right _ _ (N.pow_pos2 _), Nat.div_eq_of_lt (by have := N.pow_pos2 (31 - b); omega), Nat.zero_add]
set_option maxRecDepth 100000 in
set_option maxHeartbeats 4000000 in
theorem addrHalves_walk (E : AddrOk) (AW : ∀ w, TabOk w → Calls Tryd.prog 10 #[] w (TrueS w)) (w : World) (HT : TabOk w) (ip : Int) (w0 : (Lit.int .u64 ip).wf = true) (bits : Int) (w2 : (Lit.int .u8 bits).wf = true) :
    Calls Tryd.prog 9 #[.int .u64 ip, .int .u8 bits] w (TrueS w) := by
  have TAB := Lib.hid HT
  clear HT
  obtain ⟨g0, g1⟩ := bounds_u64 w0
  obtain ⟨g4, g5⟩ := bounds_u8 w2
  clear w0 w2
  obtain ⟨m, rfl⟩ := Int.eq_ofNat_of_zero_le g0
  obtain ⟨bb, rfl⟩ := Int.eq_ofNat_of_zero_le g4
  obtain ⟨n, hn⟩ : ∃ k, m % 4294967296 = k := ⟨_, rfl⟩
  obtain ⟨b, hb⟩ : ∃ k, bb % 32 = k := ⟨_, rfl⟩
  have hn2 : n < 4294967296 := by omega
  have hb2 : b ≤ 31 := by omega
  have e1 : Int.tmod (m : Int) 4294967296 = (n : Int) := by rw [Int.tmod_eq_emod_of_nonneg (by omega)]; omega
  have e3 : Int.tmod (bb : Int) 32 = (b : Int) := by rw [Int.tmod_eq_emod_of_nonneg (by omega)]; omega
  obtain ⟨d, hd⟩ : ∃ d, n / 2 ^ (32 - b) = d := ⟨_, rfl⟩
  obtain ⟨p, hp⟩ : ∃ p, d * 2 ^ (32 - b) = p := ⟨_, rfl⟩
  obtain ⟨y, hy⟩ : ∃ y, 2 ^ (31 - b) = y := ⟨_, rfl⟩
  obtain ⟨q, hq⟩ : ∃ q, p + y = q := ⟨_, rfl⟩
  have e4 : (n : Int) / (2 : Int) ^ (32 - b) = (d : Int) := by rw [shr10, hd]
  have e5 : (d : Int) * (2 : Int) ^ (32 - b) = (p : Int) := by rw [shl10, hp]
  have e6 : (2 : Int) ^ (31 - b) = (y : Int) := by rw [← hy, Int.natCast_pow]; rfl
  have e7 : (p : Int) + (y : Int) = (q : Int) := by omega
  have hcut : N.cutN n b = p := by unfold N.cutN; rw [hd, hp]
  have hcut2 : N.cutN n b + 2 ^ (31 - b) = q := by rw [hcut, hy, hq]
  have hr := N.half_right n b hb2 hn2
  rw [hcut2] at hr
  have hq2 : q < 4294967296 := by have := (right_nums hr).2.1; omega
  have hp2 : p < 4294967296 := by omega
  have hy2 : y < 4294967296 := by omega
  have HIN := Lib.hid (show N.inB (p : Int) (b : Int) (n : Int) = true by rw [← hcut]; exact N.in_own n b (by omega) hn2)
  have HIQ := Lib.hid (show N.inB (p : Int) (b : Int) (q : Int) = true by rw [← hcut2, ← hcut]; exact half_in10 n b hb2 hn2)
  obtain ⟨r, hA, hB⟩ := halves10 n b hb2 hn2
  rw [hcut] at hA
  rw [hcut2] at hB
  obtain ⟨b1, hb1⟩ : ∃ k, b + 1 = k := ⟨_, rfl⟩
  rw [hb1] at hA hB hr
  have e8 : (b : Int) + 1 = (b1 : Int) := by omega
  have HA := Lib.hid hA
  have HB := Lib.hid hB
  obtain ⟨v2, hv2⟩ : ∃ v, sB (N.prefT q b1) = v := ⟨_, rfl⟩
  have HQ2 := Lib.hid (show prefTA (q : Int) (b1 : Int) = (v2, true) by rw [prefTA_of hr rfl, hv2])
  have IN := Lib.hid (show I64 (n : Int) by unfold I64; omega)
  have IP := Lib.hid (show I64 (p : Int) by unfold I64; omega)
  have IQ := Lib.hid (show I64 (q : Int) by unfold I64; omega)
  have IB := Lib.hid (show I64 (b : Int) by unfold I64; omega)
  have IB1 := Lib.hid (show I64 (b1 : Int) by unfold I64; omega)
  have hrr : (r != !r) = true := by cases r <;> rfl
  clear hn hb g0 g1 g4 g5 hd hp hcut hcut2 hr hv2 hy hq hb1 hA hB
  go_enter Tryd.func9, Tryd.ntmps9
  go_wp2_with fail
  refine (E.prefText _ _ v2 true _ IQ.out IB1.out (tabAt TAB (by first | assumption | exact Below.refl _ _ | exact below_drawn10 (by first | assumption | exact Below.refl _ _) _)) HQ2.out).mono ?_
  rintro e w2 ⟨rfl, hb⟩
  go_wp2_with fail
  refine (E.inOf _ _ _ true _ IP.out IB.out IN.out HIN.out).mono ?_
  rintro e w2 ⟨rfl, hx⟩
  replace hb := bthen hb hx
  clear hx
  go_wp2_with fail
  refine (E.inOf _ _ _ true _ IP.out IB.out IQ.out HIQ.out).mono ?_
  rintro e w2 ⟨rfl, hx⟩
  replace hb := bthen hb hx
  clear hx
  go_wp2_with fail
  refine (E.inOf _ _ _ r _ IP.out IB1.out IN.out HA.out).mono ?_
  rintro e w2 ⟨rfl, hx⟩
  replace hb := bthen hb hx
  clear hx
  go_wp2_with fail
  refine (E.inOf _ _ _ (!r) _ IQ.out IB1.out IN.out HB.out).mono ?_
  rintro e w2 ⟨rfl, hx⟩
  replace hb := bthen hb hx
  clear hx
  go_wp2_with fail
  refine (AW _ (tabAt TAB (by first | assumption | exact Below.refl _ _ | exact below_drawn10 (by first | assumption | exact Below.refl _ _) _))).mono ?_
  rintro e w3 ⟨rfl, hx⟩
  go_wp2
  go_ret
  exact ⟨rfl, bthen hb hx⟩
end Go.Proofs.YtgefbdckngejdaaDoor
