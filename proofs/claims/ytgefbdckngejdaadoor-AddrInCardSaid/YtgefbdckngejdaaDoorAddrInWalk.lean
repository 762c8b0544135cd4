/-
  The walk of layer 10's statement AddrIn, from what addr.In does: it returns true whatever the numbers are. No conditions.
-/
import Derived.Test.YtgefbdckngejdaaDoorAddrA
import Derived.Test.YtgefbdckngejdaaDoorAddrT
import Derived.Test.YtgefbdckngejdaaDoorAddrBackWalk
import Derived.Deep.RegionHeld3
import Derived.Deep.RegionWith
namespace Go.Proofs.YtgefbdckngejdaaDoor
open Go.RowKit
set_option linter.unusedVariables false
set_option linter.unusedSimpArgs false

open Go.Region in
/-- 'wpAnyH_take', the operation's own slot named. -/
theorem takeD10 {P : Program} {ops : Array Oper} {Q : Exit → Act → World → Prop} {md : Region.Mode} {S : World → Prop} {i : Nat} {oi : Oper} {v : Value} {d : Option Nat} {fuel : Nat} {listed : Array Bool} {a : Act} {w : World} (hi : ops[i]? = some oi) (hd : oi.dst = d)
    (hs : Region.noSelect ops = true) (hf : free md ops listed i = true) (hr : (Region.ready md ops listed).contains i = true)
    (hQ : ∀ c a w, Q (.panic c) (a.put d v) w → Q (.panic c) a w) (hy : YieldsIf P ops S oi v a) (hS : S w)
    (h : wpAnyH P md ops Q S fuel (listed.setIfInBounds i true) (a.put d v) w) : wpAnyH P md ops Q S (fuel + 1) listed a w := by
  subst hd; exact wpAnyH_take hi hs hf hr hQ hy hS h
set_option maxRecDepth 100000 in
set_option maxHeartbeats 8000000 in
theorem addrIn_walk (E : AddrOk) (AW : ∀ w, TabOk w → Calls Tryd.prog 10 #[] w (TrueS w)) (w : World) (HT : TabOk w) (ip : Int) (w0 : (Lit.int .u64 ip).wf = true) (other : Int) (w1 : (Lit.int .u64 other).wf = true) (bits : Int) (w2 : (Lit.int .u8 bits).wf = true) (less : Int) (w3 : (Lit.int .u8 less).wf = true) :
    Calls Tryd.prog 7 #[.int .u64 ip, .int .u64 other, .int .u8 bits, .int .u8 less] w (TrueS w) := by
  have TAB := Lib.hid HT
  clear HT
  obtain ⟨g0, g1⟩ := bounds_u64 w0
  obtain ⟨g2, g3⟩ := bounds_u64 w1
  obtain ⟨g4, g5⟩ := bounds_u8 w2
  obtain ⟨g6, g7⟩ := bounds_u8 w3
  clear w0 w1 w2 w3
  obtain ⟨m, rfl⟩ := Int.eq_ofNat_of_zero_le g0
  obtain ⟨mm, rfl⟩ := Int.eq_ofNat_of_zero_le g2
  obtain ⟨bb, rfl⟩ := Int.eq_ofNat_of_zero_le g4
  obtain ⟨ll, rfl⟩ := Int.eq_ofNat_of_zero_le g6
  obtain ⟨n, hn⟩ : ∃ k, m % 4294967296 = k := ⟨_, rfl⟩
  obtain ⟨k, hk⟩ : ∃ k, mm % 4294967296 = k := ⟨_, rfl⟩
  obtain ⟨b, hb⟩ : ∃ k, bb % 33 = k := ⟨_, rfl⟩
  obtain ⟨b1, hb1⟩ : ∃ k, b + 1 = k := ⟨_, rfl⟩
  obtain ⟨c, hc⟩ : ∃ k, ll % b1 = k := ⟨_, rfl⟩
  have hn2 : n < 4294967296 := by omega
  have hk2 : k < 4294967296 := by omega
  have hb2 : b ≤ 32 := by omega
  have hb0 : 0 < b1 := by omega
  have hcb : c < b1 := by rw [← hc]; exact Nat.mod_lt _ hb0
  have e1 : Int.tmod (m : Int) 4294967296 = (n : Int) := by rw [Int.tmod_eq_emod_of_nonneg (by omega)]; omega
  have e2 : Int.tmod (mm : Int) 4294967296 = (k : Int) := by rw [Int.tmod_eq_emod_of_nonneg (by omega)]; omega
  have e3 : Int.tmod (bb : Int) 33 = (b : Int) := by rw [Int.tmod_eq_emod_of_nonneg (by omega)]; omega
  have e31 : (b : Int) + 1 = (b1 : Int) := by omega
  have e32 : Int.tmod (ll : Int) (b1 : Int) = (c : Int) := by rw [Int.tmod_eq_emod_of_nonneg (by omega), ← hc, Int.natCast_emod]
  have bz : ((b1 : Int) == 0) = false := beq_eq_false_iff_ne.2 (by omega)
  have bz2 : (b1 == 0) = false := beq_eq_false_iff_ne.2 (by omega)
  obtain ⟨d, hd⟩ : ∃ d, n / 2 ^ (32 - b) = d := ⟨_, rfl⟩
  obtain ⟨p, hp⟩ : ∃ p, d * 2 ^ (32 - b) = p := ⟨_, rfl⟩
  obtain ⟨dc, hdc⟩ : ∃ d, n / 2 ^ (32 - c) = d := ⟨_, rfl⟩
  obtain ⟨q, hq⟩ : ∃ p, dc * 2 ^ (32 - c) = p := ⟨_, rfl⟩
  obtain ⟨x, hx⟩ : ∃ d, k / 2 ^ (32 - b) = d := ⟨_, rfl⟩
  have e4 : (n : Int) / (2 : Int) ^ (32 - b) = (d : Int) := by rw [shr10, hd]
  have e5 : (d : Int) * (2 : Int) ^ (32 - b) = (p : Int) := by rw [shl10, hp]
  have e6 : (n : Int) / (2 : Int) ^ (32 - c) = (dc : Int) := by rw [shr10, hdc]
  have e7 : (dc : Int) * (2 : Int) ^ (32 - c) = (q : Int) := by rw [shl10, hq]
  have e8 : (k : Int) / (2 : Int) ^ (32 - b) = (x : Int) := by rw [shr10, hx]
  obtain ⟨nb, hnb⟩ : ∃ k, 32 - b = k := ⟨_, rfl⟩
  have hw32 : IntKind.i64.wrap (32 - (b : Int)) = (nb : Int) := by rw [IntKind.wrap_i64]; omega
  have e4b : (n : Int) / (2 : Int) ^ nb = (d : Int) := by rw [← hnb, e4]
  have e5b : (d : Int) * (2 : Int) ^ nb = (p : Int) := by rw [← hnb, e5]
  have e8b : (k : Int) / (2 : Int) ^ nb = (x : Int) := by rw [← hnb, e8]
  have hnb2 : nb ≤ 32 := by omega
  have hnb3 : (0 : Int) ≤ (nb : Int) := by omega
  have hcut : N.cutN n b = p := by unfold N.cutN; rw [hd, hp]
  have hcut2 : N.cutN n c = q := by unfold N.cutN; rw [hdc, hq]
  have hp2 : p < 4294967296 := by have := N.cut_le n b; omega
  have hq2 : q < 4294967296 := by have := N.cut_le n c; omega
  have HI1 := Lib.hid (show N.inB (p : Int) (b : Int) (n : Int) = true by rw [← hcut]; exact N.in_own n b hb2 hn2)
  have hi2 : N.inB (p : Int) (b : Int) (k : Int) = decide (x = d) := by rw [← hcut, N.in_cut n b k hb2 hn2 hk2, hx, hd]
  have HI4 := Lib.hid (show N.inB (p : Int) (b : Int) (k : Int) = true → N.inB (q : Int) (c : Int) (k : Int) = true by
    rw [← hcut, ← hcut2]; exact N.in_less n b c k (by omega) hb2 hn2 hk2)
  have HI5 := Lib.hid (N.in_all k hk2)
  have IN := Lib.hid (show I64 (n : Int) by unfold I64; omega)
  have IK := Lib.hid (show I64 (k : Int) by unfold I64; omega)
  have IP := Lib.hid (show I64 (p : Int) by unfold I64; omega)
  have IQ := Lib.hid (show I64 (q : Int) by unfold I64; omega)
  have IB := Lib.hid (show I64 (b : Int) by unfold I64; omega)
  have IC := Lib.hid (show I64 (c : Int) by unfold I64; omega)
  have IZ := Lib.hid (show I64 (0 : Int) by unfold I64; omega)
  have hc32 : c ≤ 32 := by omega
  have hll : ll ≤ 255 := by omega
  have hbd : Below w.heap.size w w.drew := (Below.refl _ _).drew
  clear hnb hn hk hb hb1 hc hb0 hcb g0 g1 g2 g3 g4 g5 g6 g7 hd hp hdc hq hx hcut hcut2
  by_cases hxd : x = d
  · subst hxd
    have HI2 := Lib.hid (hi2.trans (decide_eq_true rfl))
    have HI4b := Lib.hid (HI4.out HI2.out)
    have t1 : ((x : Int) == (x : Int)) = true := by simp
    clear hi2
    go_enter Tryd.func7, Tryd.ntmps7
    go_wp2
    go_region_held3 (fun w' => Below w.heap.size w w') (first | assumption | (refine Below.drew ?_; assumption) | go_keep) (first
      | (go_at_call_of 26 n; refine (E.inOf _ _ _ true _ IP.out IB.out IN.out HI1.out).mono ?_; rintro e w' ⟨rfl, hx⟩; have hbx := bthen (show Below w.heap.size w _ by assumption) hx)
      | (go_at_call_of 26 q; refine (E.inOf _ _ _ true _ IQ.out IC.out IK.out HI4b.out).mono ?_; rintro e w' ⟨rfl, hx⟩; have hbx := bthen (show Below w.heap.size w _ by assumption) hx)
      | (go_at_call_of 26 p; refine (E.inOf _ _ _ true _ IP.out IB.out IK.out HI2.out).mono ?_; rintro e w' ⟨rfl, hx⟩; have hbx := bthen (show Below w.heap.size w _ by assumption) hx)
      | (go_at_call 26; refine (E.inOf _ _ _ true _ IZ.out IZ.out IK.out HI5.out).mono ?_; rintro e w' ⟨rfl, hx⟩; have hbx := bthen (show Below w.heap.size w _ by assumption) hx)
      | (go_at_call 10; refine (AW _ (tabAt TAB (by first | assumption | exact Below.refl _ _ | exact below_drawn10 (by first | assumption | exact Below.refl _ _) _))).mono ?_; rintro e w' ⟨rfl, hx⟩; have hbx := bthen (show Below w.heap.size w _ by assumption) hx))
    all_goals go_wp2
    all_goals go_ret
    all_goals exact ⟨rfl, by first | assumption | (refine Below.drew ?_; assumption)⟩
  · have HI2 := Lib.hid (hi2.trans (decide_eq_false hxd))
    have t1 : ((x : Int) == (d : Int)) = false := beq_eq_false_iff_ne.2 (by omega)
    clear hi2 hxd
    go_enter Tryd.func7, Tryd.ntmps7
    go_wp2
    refine wp_region_held_drew (S := fun w' => Below w.heap.size w w') (by kernel_rfl) hbd (fun hHeld => ?_)
    refine takeD10 (i := 0) (v := ?v0) (d := some 43) rfl rfl (by kernel_rfl) (by kernel_rfl) (by kernel_rfl) (fun _ _ _ h => h) (Or.inl ⟨by rfl, ?hy0⟩) (by assumption) ?rest0
    case hy0 => intro w hSw; go_simp; try (with_reducible rfl)
    try simp only [Act.put, List.setIfInBounds_toArray, List.set_cons_zero, List.set_cons_succ]
    refine takeD10 (i := 1) (v := ?v1) (d := some 44) rfl rfl (by kernel_rfl) (by kernel_rfl) (by kernel_rfl) (fun _ _ _ h => h) (Or.inl ⟨by rfl, ?hy1⟩) (by assumption) ?rest1
    case hy1 => intro w hSw; go_simp; try (with_reducible rfl)
    try simp only [Act.put, List.setIfInBounds_toArray, List.set_cons_zero, List.set_cons_succ]
    refine takeD10 (i := 2) (v := ?v2) (d := some 45) rfl rfl (by kernel_rfl) (by kernel_rfl) (by kernel_rfl) (fun _ _ _ h => h) (Or.inl ⟨by rfl, ?hy2⟩) (by assumption) ?rest2
    case hy2 => intro w hSw; go_simp; try (with_reducible rfl)
    try simp only [Act.put, List.setIfInBounds_toArray, List.set_cons_zero, List.set_cons_succ]
    refine wpAnyH_ready (rs := [3]) (by kernel_rfl) (by simp) ?_
    refine AllReadyH.cons rfl (fun K hK => ?_) AllReadyH.nil
    go_simp
    go_at_call 26
    refine (E.inOf _ _ _ true _ IP.out IB.out IN.out HI1.out).mono ?_
    rintro e wq3 ⟨rfl, hx⟩
    have hbx3 := bthen hHeld hx
    clear hHeld hx
    refine hK.out _ _ hbx3 (fun hHeld => ?_)
    clear hK K
    try simp only [Act.put, List.setIfInBounds_toArray, List.set_cons_zero, List.set_cons_succ]
    refine takeD10 (i := 4) (v := ?v4) (d := some 47) rfl rfl (by kernel_rfl) (by kernel_rfl) (by kernel_rfl) (fun _ _ _ h => h) (Or.inl ⟨by rfl, ?hy4⟩) (by assumption) ?rest4
    case hy4 => intro w hSw; go_simp; try (with_reducible rfl)
    try simp only [Act.put, List.setIfInBounds_toArray, List.set_cons_zero, List.set_cons_succ]
    refine takeD10 (i := 5) (v := ?v5) (d := some 48) rfl rfl (by kernel_rfl) (by kernel_rfl) (by kernel_rfl) (fun _ _ _ h => h) (Or.inl ⟨by rfl, ?hy5⟩) (by assumption) ?rest5
    case hy5 => intro w hSw; go_simp; try (with_reducible rfl)
    try simp only [Act.put, List.setIfInBounds_toArray, List.set_cons_zero, List.set_cons_succ]
    refine takeD10 (i := 6) (v := ?v6) (d := some 49) rfl rfl (by kernel_rfl) (by kernel_rfl) (by kernel_rfl) (fun _ _ _ h => h) (Or.inl ⟨by rfl, ?hy6⟩) (by assumption) ?rest6
    case hy6 => intro w hSw; go_simp; try (with_reducible rfl)
    try simp only [Act.put, List.setIfInBounds_toArray, List.set_cons_zero, List.set_cons_succ]
    refine takeD10 (i := 7) (v := ?v7) (d := some 50) rfl rfl (by kernel_rfl) (by kernel_rfl) (by kernel_rfl) (fun _ _ _ h => h) (Or.inl ⟨by rfl, ?hy7⟩) (by assumption) ?rest7
    case hy7 => intro w hSw; go_simp; try (with_reducible rfl)
    try simp only [Act.put, List.setIfInBounds_toArray, List.set_cons_zero, List.set_cons_succ]
    refine takeD10 (i := 9) (v := ?v9) (d := some 52) rfl rfl (by kernel_rfl) (by kernel_rfl) (by kernel_rfl) (fun _ _ _ h => h) (Or.inl ⟨by rfl, ?hy9⟩) (by assumption) ?rest9
    case hy9 => intro w hSw; go_simp; try (with_reducible rfl)
    try simp only [Act.put, List.setIfInBounds_toArray, List.set_cons_zero, List.set_cons_succ]
    refine takeD10 (i := 10) (v := ?v10) (d := some 53) rfl rfl (by kernel_rfl) (by kernel_rfl) (by kernel_rfl) (fun _ _ _ h => h) (Or.inl ⟨by rfl, ?hy10⟩) (by assumption) ?rest10
    case hy10 => intro w hSw; go_simp; try (with_reducible rfl)
    try simp only [Act.put, List.setIfInBounds_toArray, List.set_cons_zero, List.set_cons_succ]
    refine takeD10 (i := 11) (v := ?v11) (d := some 54) rfl rfl (by kernel_rfl) (by kernel_rfl) (by kernel_rfl) (fun _ _ _ h => h) (Or.inl ⟨by rfl, ?hy11⟩) (by assumption) ?rest11
    case hy11 => intro w hSw; go_simp; try (with_reducible rfl)
    try simp only [Act.put, List.setIfInBounds_toArray, List.set_cons_zero, List.set_cons_succ]
    refine takeD10 (i := 12) (v := ?v12) (d := some 55) rfl rfl (by kernel_rfl) (by kernel_rfl) (by kernel_rfl) (fun _ _ _ h => h) (Or.inl ⟨by rfl, ?hy12⟩) (by assumption) ?rest12
    case hy12 => intro w hSw; go_simp; try (with_reducible rfl)
    try simp only [Act.put, List.setIfInBounds_toArray, List.set_cons_zero, List.set_cons_succ]
    refine takeD10 (i := 13) (v := ?v13) (d := some 56) rfl rfl (by kernel_rfl) (by kernel_rfl) (by kernel_rfl) (fun _ _ _ h => h) (Or.inl ⟨by rfl, ?hy13⟩) (by assumption) ?rest13
    case hy13 => intro w hSw; go_simp; try (with_reducible rfl)
    try simp only [Act.put, List.setIfInBounds_toArray, List.set_cons_zero, List.set_cons_succ]
    refine takeD10 (i := 14) (v := ?v14) (d := some 57) rfl rfl (by kernel_rfl) (by kernel_rfl) (by kernel_rfl) (fun _ _ _ h => h) (Or.inl ⟨by rfl, ?hy14⟩) (by assumption) ?rest14
    case hy14 => intro w hSw; go_simp; try (with_reducible rfl)
    try simp only [Act.put, List.setIfInBounds_toArray, List.set_cons_zero, List.set_cons_succ]
    refine takeD10 (i := 15) (v := ?v15) (d := some 58) rfl rfl (by kernel_rfl) (by kernel_rfl) (by kernel_rfl) (fun _ _ _ h => h) (Or.inl ⟨by rfl, ?hy15⟩) (by assumption) ?rest15
    case hy15 => intro w hSw; go_simp; try (with_reducible rfl)
    try simp only [Act.put, List.setIfInBounds_toArray, List.set_cons_zero, List.set_cons_succ]
    refine takeD10 (i := 16) (v := ?v16) (d := some 59) rfl rfl (by kernel_rfl) (by kernel_rfl) (by kernel_rfl) (fun _ _ _ h => h) (Or.inl ⟨by rfl, ?hy16⟩) (by assumption) ?rest16
    case hy16 => intro w hSw; go_simp; try (with_reducible rfl)
    try simp only [Act.put, List.setIfInBounds_toArray, List.set_cons_zero, List.set_cons_succ]
    refine takeD10 (i := 17) (v := ?v17) (d := some 60) rfl rfl (by kernel_rfl) (by kernel_rfl) (by kernel_rfl) (fun _ _ _ h => h) (Or.inl ⟨by rfl, ?hy17⟩) (by assumption) ?rest17
    case hy17 => intro w hSw; go_simp; try (with_reducible rfl)
    try simp only [Act.put, List.setIfInBounds_toArray, List.set_cons_zero, List.set_cons_succ]
    refine wpAnyH_ready (rs := [8]) (by kernel_rfl) (by simp) ?_
    refine AllReadyH.cons rfl (fun K hK => ?_) AllReadyH.nil
    go_simp
    go_at_call 26
    refine (E.inOf _ _ _ false _ IP.out IB.out IK.out HI2.out).mono ?_
    rintro e wq8 ⟨rfl, hx⟩
    have hbx8 := bthen hHeld hx
    clear hHeld hx
    refine hK.out _ _ hbx8 (fun hHeld => ?_)
    clear hK K
    try simp only [Act.put, List.setIfInBounds_toArray, List.set_cons_zero, List.set_cons_succ]
    refine takeD10 (i := 18) (v := ?v18) (d := some 61) rfl rfl (by kernel_rfl) (by kernel_rfl) (by kernel_rfl) (fun _ _ _ h => h) (Or.inl ⟨by rfl, ?hy18⟩) (by assumption) ?rest18
    case hy18 => intro w hSw; go_simp; try (with_reducible rfl)
    try simp only [Act.put, List.setIfInBounds_toArray, List.set_cons_zero, List.set_cons_succ]
    refine takeD10 (i := 19) (v := ?v19) (d := some 62) rfl rfl (by kernel_rfl) (by kernel_rfl) (by kernel_rfl) (fun _ _ _ h => h) (Or.inl ⟨by rfl, ?hy19⟩) (by assumption) ?rest19
    case hy19 => intro w hSw; go_simp; try (with_reducible rfl)
    try simp only [Act.put, List.setIfInBounds_toArray, List.set_cons_zero, List.set_cons_succ]
    refine takeD10 (i := 20) (v := ?v20) (d := some 63) rfl rfl (by kernel_rfl) (by kernel_rfl) (by kernel_rfl) (fun _ _ _ h => h) (Or.inl ⟨by rfl, ?hy20⟩) (by assumption) ?rest20
    case hy20 => intro w hSw; go_simp; try (with_reducible rfl)
    try simp only [Act.put, List.setIfInBounds_toArray, List.set_cons_zero, List.set_cons_succ]
    refine takeD10 (i := 21) (v := ?v21) (d := some 64) rfl rfl (by kernel_rfl) (by kernel_rfl) (by kernel_rfl) (fun _ _ _ h => h) (Or.inl ⟨by rfl, ?hy21⟩) (by assumption) ?rest21
    case hy21 => intro w hSw; go_simp; try (with_reducible rfl)
    try simp only [Act.put, List.setIfInBounds_toArray, List.set_cons_zero, List.set_cons_succ]
    refine takeD10 (i := 22) (v := ?v22) (d := some 65) rfl rfl (by kernel_rfl) (by kernel_rfl) (by kernel_rfl) (fun _ _ _ h => h) (Or.inl ⟨by rfl, ?hy22⟩) (by assumption) ?rest22
    case hy22 => intro w hSw; go_simp; try (with_reducible rfl)
    try simp only [Act.put, List.setIfInBounds_toArray, List.set_cons_zero, List.set_cons_succ]
    refine takeD10 (i := 23) (v := ?v23) (d := some 66) rfl rfl (by kernel_rfl) (by kernel_rfl) (by kernel_rfl) (fun _ _ _ h => h) (Or.inl ⟨by rfl, ?hy23⟩) (by assumption) ?rest23
    case hy23 => intro w hSw; go_simp; try (with_reducible rfl)
    try simp only [Act.put, List.setIfInBounds_toArray, List.set_cons_zero, List.set_cons_succ]
    refine wpAnyH_ready (rs := [24]) (by kernel_rfl) (by simp) ?_
    refine AllReadyH.cons rfl (fun K hK => ?_) AllReadyH.nil
    go_simp
    go_at_call 26
    refine (E.inOf _ _ _ false _ IP.out IB.out IK.out HI2.out).mono ?_
    rintro e wq24 ⟨rfl, hx⟩
    have hbx24 := bthen hHeld hx
    clear hHeld hx
    refine hK.out _ _ hbx24 (fun hHeld => ?_)
    clear hK K
    try simp only [Act.put, List.setIfInBounds_toArray, List.set_cons_zero, List.set_cons_succ]
    refine takeD10 (i := 25) (v := ?v25) (d := some 68) rfl rfl (by kernel_rfl) (by kernel_rfl) (by kernel_rfl) (fun _ _ _ h => h) (Or.inl ⟨by rfl, ?hy25⟩) (by assumption) ?rest25
    case hy25 => intro w hSw; go_simp; try (with_reducible rfl)
    try simp only [Act.put, List.setIfInBounds_toArray, List.set_cons_zero, List.set_cons_succ]
    refine takeD10 (i := 26) (v := ?v26) (d := some 69) rfl rfl (by kernel_rfl) (by kernel_rfl) (by kernel_rfl) (fun _ _ _ h => h) (Or.inl ⟨by rfl, ?hy26⟩) (by assumption) ?rest26
    case hy26 => intro w hSw; go_simp; try (with_reducible rfl)
    try simp only [Act.put, List.setIfInBounds_toArray, List.set_cons_zero, List.set_cons_succ]
    refine takeD10 (i := 27) (v := undef) (d := some 70) rfl rfl (by kernel_rfl) (by kernel_rfl) (by kernel_rfl) (fun _ _ _ h => h) (Or.inr ⟨by rfl, rfl⟩) (by assumption) ?_
    try simp only [Act.put, List.setIfInBounds_toArray, List.set_cons_zero, List.set_cons_succ]
    refine takeD10 (i := 28) (v := undef) (d := some 71) rfl rfl (by kernel_rfl) (by kernel_rfl) (by kernel_rfl) (fun _ _ _ h => h) (Or.inr ⟨by rfl, rfl⟩) (by assumption) ?_
    try simp only [Act.put, List.setIfInBounds_toArray, List.set_cons_zero, List.set_cons_succ]
    refine takeD10 (i := 29) (v := undef) (d := some 72) rfl rfl (by kernel_rfl) (by kernel_rfl) (by kernel_rfl) (fun _ _ _ h => h) (Or.inr ⟨by rfl, rfl⟩) (by assumption) ?_
    try simp only [Act.put, List.setIfInBounds_toArray, List.set_cons_zero, List.set_cons_succ]
    refine takeD10 (i := 30) (v := undef) (d := some 73) rfl rfl (by kernel_rfl) (by kernel_rfl) (by kernel_rfl) (fun _ _ _ h => h) (Or.inr ⟨by rfl, rfl⟩) (by assumption) ?_
    try simp only [Act.put, List.setIfInBounds_toArray, List.set_cons_zero, List.set_cons_succ]
    refine takeD10 (i := 31) (v := ?v31) (d := some 74) rfl rfl (by kernel_rfl) (by kernel_rfl) (by kernel_rfl) (fun _ _ _ h => h) (Or.inl ⟨by rfl, ?hy31⟩) (by assumption) ?rest31
    case hy31 => intro w hSw; go_simp; try (with_reducible rfl)
    try simp only [Act.put, List.setIfInBounds_toArray, List.set_cons_zero, List.set_cons_succ]
    refine takeD10 (i := 32) (v := ?v32) (d := some 75) rfl rfl (by kernel_rfl) (by kernel_rfl) (by kernel_rfl) (fun _ _ _ h => h) (Or.inl ⟨by rfl, ?hy32⟩) (by assumption) ?rest32
    case hy32 => intro w hSw; go_simp; try (with_reducible rfl)
    try simp only [Act.put, List.setIfInBounds_toArray, List.set_cons_zero, List.set_cons_succ]
    refine takeD10 (i := 33) (v := ?v33) (d := some 76) rfl rfl (by kernel_rfl) (by kernel_rfl) (by kernel_rfl) (fun _ _ _ h => h) (Or.inl ⟨by rfl, ?hy33⟩) (by assumption) ?rest33
    case hy33 => intro w hSw; go_simp; try (with_reducible rfl)
    try simp only [Act.put, List.setIfInBounds_toArray, List.set_cons_zero, List.set_cons_succ]
    refine takeD10 (i := 34) (v := ?v34) (d := some 77) rfl rfl (by kernel_rfl) (by kernel_rfl) (by kernel_rfl) (fun _ _ _ h => h) (Or.inl ⟨by rfl, ?hy34⟩) (by assumption) ?rest34
    case hy34 => intro w hSw; go_simp; try (with_reducible rfl)
    try simp only [Act.put, List.setIfInBounds_toArray, List.set_cons_zero, List.set_cons_succ]
    refine wpAnyH_ready (rs := [35]) (by kernel_rfl) (by simp) ?_
    refine AllReadyH.cons rfl (fun K hK => ?_) AllReadyH.nil
    go_simp
    go_at_call 26
    refine (E.inOf _ _ _ true _ IZ.out IZ.out IK.out HI5.out).mono ?_
    rintro e wq35 ⟨rfl, hx⟩
    have hbx35 := bthen hHeld hx
    clear hHeld hx
    refine hK.out _ _ hbx35 (fun hHeld => ?_)
    clear hK K
    try simp only [Act.put, List.setIfInBounds_toArray, List.set_cons_zero, List.set_cons_succ]
    refine takeD10 (i := 36) (v := ?v36) (d := some 79) rfl rfl (by kernel_rfl) (by kernel_rfl) (by kernel_rfl) (fun _ _ _ h => h) (Or.inl ⟨by rfl, ?hy36⟩) (by assumption) ?rest36
    case hy36 => intro w hSw; go_simp; try (with_reducible rfl)
    try simp only [Act.put, List.setIfInBounds_toArray, List.set_cons_zero, List.set_cons_succ]
    refine takeD10 (i := 37) (v := ?v37) (d := some 80) rfl rfl (by kernel_rfl) (by kernel_rfl) (by kernel_rfl) (fun _ _ _ h => h) (Or.inl ⟨by rfl, ?hy37⟩) (by assumption) ?rest37
    case hy37 => intro w hSw; go_simp; try (with_reducible rfl)
    try simp only [Act.put, List.setIfInBounds_toArray, List.set_cons_zero, List.set_cons_succ]
    refine wpAnyH_ready (rs := [38]) (by kernel_rfl) (by simp) ?_
    refine AllReadyH.cons rfl (fun K hK => ?_) AllReadyH.nil
    go_simp
    go_at_call 10
    refine (AW _ (tabAt TAB (by first | assumption | exact Below.refl _ _ | exact below_drawn10 (by first | assumption | exact Below.refl _ _) _))).mono ?_
    rintro e wq38 ⟨rfl, hx⟩
    have hbx38 := bthen hHeld hx
    clear hHeld hx
    refine hK.out _ _ hbx38 (fun hHeld => ?_)
    clear hK K
    try simp only [Act.put, List.setIfInBounds_toArray, List.set_cons_zero, List.set_cons_succ]
    refine takeD10 (i := 39) (v := ?v39) (d := some 82) rfl rfl (by kernel_rfl) (by kernel_rfl) (by kernel_rfl) (fun _ _ _ h => h) (Or.inl ⟨by rfl, ?hy39⟩) (by assumption) ?rest39
    case hy39 => intro w hSw; go_simp; try (with_reducible rfl)
    try simp only [Act.put, List.setIfInBounds_toArray, List.set_cons_zero, List.set_cons_succ]
    refine takeD10 (i := 40) (v := ?v40) (d := some 8) rfl rfl (by kernel_rfl) (by kernel_rfl) (by kernel_rfl) (fun _ _ _ h => h) (Or.inl ⟨by rfl, ?hy40⟩) (by assumption) ?rest40
    case hy40 => intro w hSw; go_simp; try (with_reducible rfl)
    try simp only [Act.put, List.setIfInBounds_toArray, List.set_cons_zero, List.set_cons_succ]
    refine wpAnyH_done (by kernel_rfl) ?_ _
    go_wp2
    go_ret
    exact ⟨rfl, hbx38⟩
end Go.Proofs.YtgefbdckngejdaaDoor
