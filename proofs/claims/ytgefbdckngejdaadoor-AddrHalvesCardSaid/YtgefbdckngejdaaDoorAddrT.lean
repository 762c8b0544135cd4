/-
  The document's side of layer 10 (ferryslipref10), last: MACText, Prefix, In, MAC. Condition: texts of at most 2^30 bytes.
-/
import Derived.Test.YtgefbdckngejdaaDoorAddrS
import Derived.Deep.QuietTactic
import Derived.BigQuiet
import Derived.Deep.RegionHeld3
namespace Go.Proofs.YtgefbdckngejdaaDoor
open Go.RowKit
set_option linter.unusedVariables false

/-- The last pairs of a hardware address's text. -/
def macTo (n : Nat) : Nat → List UInt8
  | 0 => []
  | i + 1 => N.pairT (n / 256 ^ i % 256) ++ (if i = 0 then [] else 58 :: macTo n i)
theorem macTo_len (n : Nat) : ∀ i, (macTo n i).length ≤ 3 * i
  | 0 => Nat.le_refl _
  | i + 1 => by
    have := macTo_len n i
    unfold macTo
    rw [List.length_append]
    have h2 : (N.pairT (n / 256 ^ i % 256)).length = 2 := rfl
    by_cases h : i = 0
    · rw [if_pos h, h2, List.length_nil]; omega
    · rw [if_neg h, h2, List.length_cons]; omega
theorem macTo_all (n : Nat) : macTo n 6 = N.macT n := by
  unfold N.macT
  simp only [macTo]
  simp
theorem hexQ (z : Int) (k : Nat) (q : ByteArray) (w : World) (hz : z = (k : Int)) (h : k < 16) (hq : sB [N.hexC k] = q) : Calls Tryd.prog 38 #[.int .i64 z] w (fun e w' => e = .returned (.string q) ∧ Below w.heap.size w w') := by
  subst hz; subst hq; exact hexR10 k w h
set_option maxRecDepth 100000 in
set_option maxHeartbeats 2000000 in
theorem macTextR (n : Nat) (w : World) (hn : n < 281474976710656) : Calls Tryd.prog 25 #[.int .i64 (n : Int)] w (fun e w' => e = .returned (.string (sB (N.macT n))) ∧ Below w.heap.size w w') := by
  go_enter Tryd.func25, Tryd.ntmps25
  go_wp2
  go_loopg [0, 3, 4] 6 (fun gk vm vs vi wr => ∃ (i m : Nat) (l : List UInt8), Hid (i + gk = 6) ∧ i ≤ 6 ∧ vi = .int .i64 (i : Int) ∧ vm = .int .i64 (m : Int) ∧ vs = .string ⟨l.toArray⟩ ∧ Hid (n / 256 ^ i = m) ∧ Hid (l = macTo n i) ∧ Below w.heap.size w wr)
  case atStart => exact ⟨0, n, [], Nat.zero_add _, Nat.zero_le _, rfl, rfl, rfl, (by show _ = _; simp), rfl, Below.refl _ _⟩
  case round =>
    obtain ⟨i, m, l, HG, hi, rfl, rfl, rfl, HM, HL, hbr⟩ := hrel
    by_cases hlt : i < 6
    · have blt : decide ((i : Int) < 6) = true := decide_eq_true (by omega)
      have blt2 : decide (i < 6) = true := decide_eq_true hlt
      have hm : m < 281474976710656 := by rw [← HM.out]; exact Nat.lt_of_le_of_lt (Nat.div_le_self _ _) hn
      have hll : l.length ≤ 18 := by have := macTo_len n i; rw [HL.out]; omega
      obtain ⟨d, hd⟩ : ∃ d, m % 256 = d := ⟨_, rfl⟩
      obtain ⟨hi4, hhi4⟩ : ∃ x, d / 16 = x := ⟨_, rfl⟩
      obtain ⟨lo4, hlo4⟩ : ∃ x, m % 16 = x := ⟨_, rfl⟩
      obtain ⟨m2, hm2⟩ : ∃ x, m / 256 = x := ⟨_, rfl⟩
      have hlo : d % 16 = lo4 := by omega
      have e1 : Int.tmod (m : Int) 256 = (d : Int) := by rw [Int.tmod_eq_emod_of_nonneg (by omega)]; omega
      have e2 : Int.tdiv (d : Int) 16 = (hi4 : Int) := by rw [Int.tdiv_eq_ediv_of_nonneg (by omega)]; omega
      have e3 : Int.tmod (m : Int) 16 = (lo4 : Int) := by rw [Int.tmod_eq_emod_of_nonneg (by omega)]; omega
      have e4 : Int.tdiv (m : Int) 256 = (m2 : Int) := by rw [Int.tdiv_eq_ediv_of_nonneg (by omega)]; omega
      have hd256 : d < 256 := by omega
      have hh16 : hi4 < 16 := by omega
      have hl16 : lo4 < 16 := by omega
      have hm22 : m2 < 281474976710656 := by omega
      obtain ⟨p1, hp1⟩ : ∃ p, sB [N.hexC hi4] = p := ⟨_, rfl⟩
      obtain ⟨p2, hp2⟩ : ∃ p, sB [N.hexC lo4] = p := ⟨_, rfl⟩
      have z1 : p1.size = 1 := by rw [← hp1, sB_size]; rfl
      have z2 : p2.size = 1 := by rw [← hp2, sB_size]; rfl
      have HP1 := Lib.hid hp1
      have HP2 := Lib.hid hp2
      have HM2 := Lib.hid (show n / 256 ^ (i + 1) = m2 by rw [Nat.pow_succ, ← Nat.div_div_eq_div_mul, HM.out, hm2])
      have HPT := Lib.hid (show N.pairT (n / 256 ^ i % 256) = [N.hexC hi4, N.hexC lo4] by rw [HM.out, hd]; unfold N.pairT; rw [hhi4, hlo])
      have hgk := HG.out
      clear hd hhi4 hlo4 hm2 hlo hp1 hp2
      by_cases h0 : i = 0
      · subst h0
        have HL2 := Lib.hid (show macTo n 1 = [N.hexC hi4, N.hexC lo4] ++ l by
          rw [HL.out]
          show N.pairT (n / 256 ^ 0 % 256) ++ (if 0 = 0 then [] else _) = _
          rw [HPT.out]; rfl)
        go_wp2_with fail
        refine (hexQ _ hi4 p1 _ (by go_num) hh16 HP1.out).mono ?_
        rintro e w1 ⟨rfl, hx1⟩
        have HX1 := Lib.hid (bthen hbr hx1)
        clear hx1
        go_wp2_with fail
        refine (hexQ _ lo4 p2 _ (by go_num) hl16 HP2.out).mono ?_
        rintro e w2 ⟨rfl, hx2⟩
        have HX2 := Lib.hid (bthen HX1.out hx2)
        clear hx2
        go_wp2
        go_roundg (6 - (0 + 1))
        case rel => exact ⟨1, m2, [N.hexC hi4, N.hexC lo4] ++ l, (by show _ = _; omega), by omega, by go_num, by go_num, by rw [← HP1.out, ← HP2.out]; exact congrArg Value.string (ByteArray.ext (by simp [ByteArray.data_append, sB])), HM2, Lib.hid HL2.out.symm, HX2.out⟩
        case measure => omega
      · have b0 : decide ((0 : Int) < (i : Int)) = true := decide_eq_true (by omega)
        have b0b : decide (0 < i) = true := decide_eq_true (by omega)
        have HL2 := Lib.hid (show macTo n (i + 1) = [N.hexC hi4, N.hexC lo4] ++ 58 :: l by
          rw [HL.out]
          show N.pairT (n / 256 ^ i % 256) ++ (if i = 0 then [] else _) = _
          rw [HPT.out, if_neg h0])
        clear h0
        go_wp2_with fail
        refine (hexQ _ hi4 p1 _ (by go_num) hh16 HP1.out).mono ?_
        rintro e w1 ⟨rfl, hx1⟩
        have HX1 := Lib.hid (bthen hbr hx1)
        clear hx1
        go_wp2_with fail
        refine (hexQ _ lo4 p2 _ (by go_num) hl16 HP2.out).mono ?_
        rintro e w2 ⟨rfl, hx2⟩
        have HX2 := Lib.hid (bthen HX1.out hx2)
        clear hx2
        go_wp2
        go_roundg (6 - (i + 1))
        case rel => exact ⟨i + 1, m2, [N.hexC hi4, N.hexC lo4] ++ 58 :: l, (by show _ = _; omega), by omega, by go_num, by go_num, by rw [← HP1.out, ← HP2.out]; exact congrArg Value.string (ByteArray.ext (by simp [ByteArray.data_append, sB])), HM2, Lib.hid HL2.out.symm, HX2.out⟩
        case measure => omega
    · have blt : decide ((i : Int) < 6) = false := decide_eq_false (by omega)
      have blt2 : decide (i < 6) = false := decide_eq_false hlt
      have HE := Lib.hid (show l = N.macT n by rw [HL.out, show i = 6 by omega, macTo_all])
      go_wp2
      go_ret
      exact ⟨by rw [← HE.out]; rfl, hbr⟩
theorem calls_sym {P : Program} {f : FuncId} {args : Array Value} {w : World} {v : Value} (h : Calls P f args w fun e w' => e = .returned v ∧ w = w') : Calls P f args w fun e w' => e = .returned v ∧ w' = w := h.mono fun _ _ ⟨a, b⟩ => ⟨a, b.symm⟩
theorem below_drawn10 {B : Nat} {a w : World} (h : Below B a w) (q : Nat) : Below B a (w.drewN q) := ⟨h.os, h.tape, h.output, h.size, h.block⟩
theorem rightQ10 (n bits : Int) (r : Bool) (w : World) (h : N.rightB n bits = r) : Calls Tryd.prog 22 #[.int .i64 n, .int .i64 bits] w (fun e w' => e = .returned (.bool r) ∧ w = w') := by subst h; exact rightR10 n bits w
theorem right_nums {n bits : Int} (h : N.rightB n bits = true) : 0 ≤ n ∧ n < 4294967296 ∧ 0 ≤ bits ∧ bits ≤ 32 := by
  unfold N.rightB at h
  simp only [Bool.and_eq_true, decide_eq_true_eq] at h
  exact ⟨h.1.1.1.1, h.1.1.1.2, h.1.1.2, h.1.2⟩
set_option maxRecDepth 100000 in
set_option maxHeartbeats 2000000 in
theorem inR10 (n bits ip : Int) (w : World) : Calls Tryd.prog 27 #[.int .i64 n, .int .i64 bits, .int .i64 ip] w (fun e w' => e = .returned (.bool (N.inB n bits ip)) ∧ Below w.heap.size w w') := by
  obtain ⟨r, hr⟩ : ∃ r, N.rightB n bits = r := ⟨_, rfl⟩
  have HRI := Lib.hid hr
  cases r with
  | false =>
    have HE := Lib.hid (show N.inB n bits ip = false by unfold N.inB; rw [hr]; rfl)
    clear hr
    go_enter Tryd.func27, Tryd.ntmps27
    go_wp2
    go_quiet (first | (go_at_call 22; exact Calls.quiet_of_same (calls_sym (rightQ10 _ _ _ _ HRI.out))) | (go_at_call 37; exact Calls.quiet_of_same (calls_sym (powQ _ 0 1 _ rfl (by omega) rfl))))
    go_wp2
    go_ret
    exact ⟨by rw [HE.out]; rfl, (below_drawn10 (Below.refl _ _) _)⟩
  | true =>
    obtain ⟨g1, g2, g3, g4⟩ := right_nums hr
    by_cases h1 : 0 ≤ ip
    · have b1 : decide (0 ≤ ip) = true := decide_eq_true h1
      by_cases h2 : ip < 4294967296
      · have b2 : decide (ip < 4294967296) = true := decide_eq_true h2
        obtain ⟨nn, rfl⟩ := Int.eq_ofNat_of_zero_le g1
        obtain ⟨ii, rfl⟩ := Int.eq_ofNat_of_zero_le h1
        obtain ⟨k, hk⟩ : ∃ k : Nat, (32 - bits).toNat = k := ⟨_, rfl⟩
        have hk2 : 32 - bits = (k : Int) := by omega
        obtain ⟨p, hp⟩ : ∃ p, 2 ^ k = p := ⟨_, rfl⟩
        have hpp : 0 < p := by rw [← hp]; exact N.pow_pos2 k
        have hpb : p ≤ 4294967296 := by rw [← hp]; exact Nat.le_trans (Nat.pow_le_pow_right (by omega) (show k ≤ 32 by omega)) (by decide)
        have bp : ((p : Int) == 0) = false := beq_eq_false_iff_ne.2 (by omega)
        have bp2 : (p == 0) = false := beq_eq_false_iff_ne.2 (by omega)
        obtain ⟨qi, hqi⟩ : ∃ q, ii / p = q := ⟨_, rfl⟩
        obtain ⟨qn, hqn⟩ : ∃ q, nn / p = q := ⟨_, rfl⟩
        have d1 : Int.tdiv (ii : Int) (p : Int) = (qi : Int) := by rw [Int.tdiv_eq_ediv_of_nonneg (by omega), ← hqi, Int.natCast_ediv]
        have d2 : Int.tdiv (nn : Int) (p : Int) = (qn : Int) := by rw [Int.tdiv_eq_ediv_of_nonneg (by omega), ← hqn, Int.natCast_ediv]
        have l1 : qi < 4294967296 := by rw [← hqi]; exact Nat.lt_of_le_of_lt (Nat.div_le_self _ _) (by omega)
        have l2 : qn < 4294967296 := by rw [← hqn]; exact Nat.lt_of_le_of_lt (Nat.div_le_self _ _) (by omega)
        have hK := Lib.hid (show ∀ w, Calls Tryd.prog 37 #[.int .i64 (k : Int)] w (fun e w' => e = .returned (.int .i64 (p : Int)) ∧ w = w') from fun w => powQ _ k p w rfl (by omega) hp)
        obtain ⟨rr, hrr⟩ : ∃ rr, N.inB (nn : Int) bits (ii : Int) = rr := ⟨_, rfl⟩
        have hr2 : rr = (qi == qn) := by
          rw [← hrr]
          unfold N.inB
          rw [hr, b1, b2, hk, hp]
          show decide ((ii : Int) / (p : Int) = (nn : Int) / (p : Int)) = _
          rw [← Int.natCast_ediv, ← Int.natCast_ediv, hqi, hqn, Bool.eq_iff_iff, decide_eq_true_eq, beq_iff_eq]
          omega
        rw [hrr]
        have HK2 := Lib.hid hk2
        have sb : IntKind.i64.wrap (32 - bits) = (k : Int) := by rw [hk2]; rw [IntKind.wrap_i64]; omega
        clear hr hrr hqi hqn hk hp
        cases hz : (qi == qn) with
        | true =>
          have hz2 : ((qi : Int) == (qn : Int)) = true := by simp at hz ⊢; omega
          have HE := Lib.hid (show rr = true by rw [hr2, hz])
          clear hr2 hz
          go_enter Tryd.func27, Tryd.ntmps27
          go_wp2
          go_quiet (first | (go_at_call 22; exact Calls.quiet_of_same (calls_sym (rightQ10 _ _ _ _ HRI.out))) | (go_at_call 37; exact Calls.quiet_of_same (calls_sym (hK.out _))))
          go_wp2
          go_ret
          exact ⟨by rw [HE.out]; rfl, (below_drawn10 (Below.refl _ _) _)⟩
        | false =>
          have hz2 : ((qi : Int) == (qn : Int)) = false := by simp at hz ⊢; omega
          have HE := Lib.hid (show rr = false by rw [hr2, hz])
          clear hr2 hz
          go_enter Tryd.func27, Tryd.ntmps27
          go_wp2
          go_quiet (first | (go_at_call 22; exact Calls.quiet_of_same (calls_sym (rightQ10 _ _ _ _ HRI.out))) | (go_at_call 37; exact Calls.quiet_of_same (calls_sym (hK.out _))))
          go_wp2
          go_ret
          exact ⟨by rw [HE.out]; rfl, (below_drawn10 (Below.refl _ _) _)⟩
      · have b2 : decide (ip < 4294967296) = false := decide_eq_false h2
        have HE := Lib.hid (show N.inB n bits ip = false by unfold N.inB; rw [b2, Bool.and_false, Bool.false_and])
        clear hr
        go_enter Tryd.func27, Tryd.ntmps27
        go_wp2
        go_quiet (first | (go_at_call 22; exact Calls.quiet_of_same (calls_sym (rightQ10 _ _ _ _ HRI.out))) | (go_at_call 37; exact Calls.quiet_of_same (calls_sym (powQ _ 0 1 _ rfl (by omega) rfl))))
        go_wp2
        go_ret
        exact ⟨by rw [HE.out]; rfl, (below_drawn10 (Below.refl _ _) _)⟩
    · have b1 : decide (0 ≤ ip) = false := decide_eq_false h1
      have HE := Lib.hid (show N.inB n bits ip = false by unfold N.inB; rw [b1, Bool.and_false, Bool.false_and, Bool.false_and])
      clear hr
      go_enter Tryd.func27, Tryd.ntmps27
      go_wp2
      go_quiet (first | (go_at_call 22; exact Calls.quiet_of_same (calls_sym (rightQ10 _ _ _ _ HRI.out))) | (go_at_call 37; exact Calls.quiet_of_same (calls_sym (powQ _ 0 1 _ rfl (by omega) rfl))))
      go_wp2
      go_ret
      exact ⟨by rw [HE.out]; rfl, (below_drawn10 (Below.refl _ _) _)⟩
end Go.Proofs.YtgefbdckngejdaaDoor
