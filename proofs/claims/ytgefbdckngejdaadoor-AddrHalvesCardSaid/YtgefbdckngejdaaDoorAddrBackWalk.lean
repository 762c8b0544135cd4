/-
  The walk of layer 10's statement AddrBack, from what addr does: it returns true whatever the numbers are. No conditions.
-/
import Derived.Test.YtgefbdckngejdaaDoorAddrA
import Derived.Test.YtgefbdckngejdaaDoorAddrT
namespace Go.Proofs.YtgefbdckngejdaaDoor
open Go.RowKit
set_option linter.unusedVariables false

theorem ipT_len10 (n : Nat) (h : n < 4294967296) : (N.ipT n).length ≤ 15 := by
  have h1 := dec3_len (n / 16777216) (by omega)
  have h2 := dec3_len (n / 65536 % 256) (by omega)
  have h3 := dec3_len (n / 256 % 256) (by omega)
  have h4 := dec3_len (n % 256) (by omega)
  unfold N.ipT
  simp only [List.length_append, List.length_cons]
  omega
/-- Shifts of an address. -/
theorem shr10 (n k : Nat) : (n : Int) / (2 : Int) ^ k = ((n / 2 ^ k : Nat) : Int) := by rw [Int.natCast_ediv, Int.natCast_pow]; rfl
theorem shl10 (d k : Nat) : (d : Int) * (2 : Int) ^ k = ((d * 2 ^ k : Nat) : Int) := by rw [Int.natCast_mul, Int.natCast_pow]; rfl
set_option maxRecDepth 100000 in
set_option maxHeartbeats 4000000 in
theorem addrBack_walk (E : AddrOk) (AW : ∀ w, TabOk w → Calls Tryd.prog 10 #[] w (TrueS w)) (w : World) (HT : TabOk w) (ip : Int) (w0 : (Lit.int .u64 ip).wf = true) (mac : Int) (w1 : (Lit.int .u64 mac).wf = true) (bits : Int) (w2 : (Lit.int .u8 bits).wf = true) :
    Calls Tryd.prog 5 #[.int .u64 ip, .int .u64 mac, .int .u8 bits] w (TrueS w) := by
  have TAB := Lib.hid HT
  clear HT
  obtain ⟨g0, g1⟩ := bounds_u64 w0
  obtain ⟨g2, g3⟩ := bounds_u64 w1
  obtain ⟨g4, g5⟩ := bounds_u8 w2
  clear w0 w1 w2
  obtain ⟨m, rfl⟩ := Int.eq_ofNat_of_zero_le g0
  obtain ⟨mm, rfl⟩ := Int.eq_ofNat_of_zero_le g2
  obtain ⟨bb, rfl⟩ := Int.eq_ofNat_of_zero_le g4
  obtain ⟨n, hn⟩ : ∃ k, m % 4294967296 = k := ⟨_, rfl⟩
  obtain ⟨h, hh⟩ : ∃ k, mm % 281474976710656 = k := ⟨_, rfl⟩
  obtain ⟨b, hb⟩ : ∃ k, bb % 33 = k := ⟨_, rfl⟩
  have hn2 : n < 4294967296 := by omega
  have hh2 : h < 281474976710656 := by omega
  have hb2 : b ≤ 32 := by omega
  have e1 : Int.tmod (m : Int) 4294967296 = (n : Int) := by rw [Int.tmod_eq_emod_of_nonneg (by omega)]; omega
  have e2 : Int.tmod (mm : Int) 281474976710656 = (h : Int) := by rw [Int.tmod_eq_emod_of_nonneg (by omega)]; omega
  have e3 : Int.tmod (bb : Int) 33 = (b : Int) := by rw [Int.tmod_eq_emod_of_nonneg (by omega)]; omega
  obtain ⟨d, hd⟩ : ∃ d, n / 2 ^ (32 - b) = d := ⟨_, rfl⟩
  obtain ⟨p, hp⟩ : ∃ p, d * 2 ^ (32 - b) = p := ⟨_, rfl⟩
  have e4 : (n : Int) / (2 : Int) ^ (32 - b) = (d : Int) := by rw [shr10, hd]
  have e5 : (d : Int) * (2 : Int) ^ (32 - b) = (p : Int) := by rw [shl10, hp]
  have hcut : N.cutN n b = p := by unfold N.cutN; rw [hd, hp]
  have hp2 : p < 4294967296 := by have := N.cut_le n b; omega
  have hr : N.rightB (p : Int) (b : Int) = true := by rw [← hcut]; exact N.right_cut n b hb2 hn2
  have HIN := Lib.hid (show N.inB (p : Int) (b : Int) (n : Int) = true by rw [← hcut]; exact N.in_own n b hb2 hn2)
  obtain ⟨v1, hv1⟩ : ∃ v, sB (N.ipT n) = v := ⟨_, rfl⟩
  obtain ⟨v2, hv2⟩ : ∃ v, sB (N.prefT p b) = v := ⟨_, rfl⟩
  obtain ⟨v3, hv3⟩ : ∃ v, sB (N.macT h) = v := ⟨_, rfl⟩
  have HQ1 := Lib.hid (show ipTA (n : Int) = (v1, true) by rw [ipTA_of hn2 rfl, hv1])
  have HQ2 := Lib.hid (show prefTA (p : Int) (b : Int) = (v2, true) by rw [prefTA_of hr rfl, hv2])
  have HQ3 := Lib.hid (show macTA (h : Int) = (v3, true) by rw [macTA_of hh2 rfl, hv3])
  have HR1 := Lib.hid (show okA (N.ipL v1.data.toList) = ((n : Int), true) by rw [← hv1, sB_data, N.ip_text n hn2]; unfold okA; rw [if_pos (by omega)])
  have HR2 := Lib.hid (show prefA v2.data.toList = ((p : Int), (b : Int), true) by
    rw [← hv2, sB_data]; unfold prefA; rw [N.pref_text p b hr, if_pos (show (0 : Int) ≤ (p : Int) by omega)])
  have HR3 := Lib.hid (show okA (N.macL v3.data.toList) = ((h : Int), true) by rw [← hv3, sB_data, N.mac_text h hh2]; unfold okA; rw [if_pos (by omega)])
  have S1 := Lib.hid (show v1.size ≤ 100 by have := ipT_len10 n hn2; rw [← hv1, sB_size]; omega)
  have S2 := Lib.hid (show v2.size ≤ 100 by
    have h1 := ipT_len10 p hp2
    have h2 := dec3_len b (by omega)
    rw [← hv2, sB_size]; unfold N.prefT
    rw [List.length_append, List.length_cons]; omega)
  have S3 := Lib.hid (show v3.size ≤ 100 by rw [← hv3, sB_size]; exact (by decide : 17 ≤ 100))
  have IN := Lib.hid (show I64 (n : Int) by unfold I64; omega)
  have IP := Lib.hid (show I64 (p : Int) by unfold I64; omega)
  have IB := Lib.hid (show I64 (b : Int) by unfold I64; omega)
  have IH := Lib.hid (show I64 (h : Int) by unfold I64; omega)
  clear hn hh hb g0 g1 g2 g3 g4 g5 hd hp hcut hr hv1 hv2 hv3
  go_enter Tryd.func5, Tryd.ntmps5
  go_wp2_with fail
  refine (E.ipText _ v1 true _ IN.out (tabAt TAB (by first | assumption | exact Below.refl _ _ | exact below_drawn10 (by first | assumption | exact Below.refl _ _) _)) HQ1.out).mono ?_
  rintro e w1 ⟨rfl, hb⟩
  go_wp2_with fail
  refine (E.prefText _ _ v2 true _ IP.out IB.out (tabAt TAB (by first | assumption | exact Below.refl _ _ | exact below_drawn10 (by first | assumption | exact Below.refl _ _) _)) HQ2.out).mono ?_
  rintro e w2 ⟨rfl, hx⟩
  replace hb := bthen hb hx
  clear hx
  go_wp2_with fail
  refine (E.macText _ v3 true _ IH.out HQ3.out).mono ?_
  rintro e w2 ⟨rfl, hx⟩
  replace hb := bthen hb hx
  clear hx
  go_wp2_with fail
  refine (E.ipOf v1 n true _ S1.out HR1.out).mono ?_
  rintro e w2 ⟨rfl, hx⟩
  replace hb := bthen hb hx
  clear hx
  go_wp2_with fail
  refine (E.prefOf v2 p b true _ S2.out HR2.out).mono ?_
  rintro e w2 ⟨rfl, hx⟩
  replace hb := bthen hb hx
  clear hx
  go_wp2_with fail
  refine (E.macOf v3 h true _ S3.out HR3.out).mono ?_
  rintro e w2 ⟨rfl, hx⟩
  replace hb := bthen hb hx
  clear hx
  go_wp2_with fail
  refine (E.inOf _ _ _ true _ IP.out IB.out IN.out HIN.out).mono ?_
  rintro e w2 ⟨rfl, hx⟩
  replace hb := bthen hb hx
  clear hx
  go_wp2_with fail
  refine (AW _ (tabAt TAB (by first | assumption | exact Below.refl _ _ | exact below_drawn10 (by first | assumption | exact Below.refl _ _) _))).mono ?_
  rintro e w3 ⟨rfl, hx⟩
  go_wp2
  go_ret
  exact ⟨rfl, bthen hb hx⟩
end Go.Proofs.YtgefbdckngejdaaDoor
