/-
  The document's side of layer 10 (ferryslipref10), further: IP, Power, Right, value, Digits, IPText, hex, MACText. Condition: texts of at most 2^30 bytes.
-/
import Derived.Test.YtgefbdckngejdaaDoorAddrR
namespace Go.Proofs.YtgefbdckngejdaaDoor
open Go.RowKit
set_option linter.unusedVariables false

theorem split_mem {c : UInt8} {s : List UInt8} {x : List UInt8} (h : x ∈ N.splitL c s) : x.length ≤ s.length := by
  induction s generalizing x with
  | nil =>
    have e : x = [] := List.mem_singleton.1 h
    subst e; exact Nat.le_refl _
  | cons y r ih =>
    rw [N.split_cons] at h
    by_cases hy : y = c
    · rw [if_pos hy] at h
      rcases List.mem_cons.1 h with rfl | h
      · exact Nat.zero_le _
      · have := ih h; rw [List.length_cons]; omega
    · rw [if_neg hy] at h
      cases e : N.splitL c r with
      | nil => exact absurd e (N.split_ne c r)
      | cons z zs =>
        rw [e] at h ih
        rcases List.mem_cons.1 h with rfl | h
        · have := ih (List.mem_cons_self ..); rw [List.length_cons, List.length_cons]; omega
        · have := ih (List.mem_cons_of_mem _ h); rw [List.length_cons]; omega
set_option maxRecDepth 100000 in
set_option maxHeartbeats 2000000 in
theorem ipR (s : ByteArray) (w : World) (hs : s.size ≤ 1073741824) : Calls Tryd.prog 14 #[.string s] w (fun e w' => e = .returned (.int .i64 (N.ipL s.data.toList)) ∧ Below w.heap.size w w') := by
  obtain ⟨L, hL⟩ : ∃ L, N.splitL 46 s.data.toList = L := ⟨_, rfl⟩
  obtain ⟨r, hr⟩ : ∃ r, N.ipL s.data.toList = r := ⟨_, rfl⟩
  obtain ⟨m, hm⟩ : ∃ m, L.length = m := ⟨_, rfl⟩
  have hparts := partsR s 46 w hs
  rw [hL] at hparts
  rw [hr]
  have HEA := Lib.hid (show ∀ x ∈ L, x.length ≤ 1073741824 from fun x hx => by
    have h := split_mem (c := 46) (hL ▸ hx)
    have h2 : s.data.toList.length = s.size := by simp
    omega)
  have HL := Lib.hid hL
  have HR := Lib.hid hr
  have HM := Lib.hid hm
  clear hL hr
  by_cases h4 : m = 4
  · have b4 : ((m : Int) != 4) = false := by simp; omega
    have H4 := Lib.hid h4
    clear h4 hm
    go_enter Tryd.func14, Tryd.ntmps14
    go_wp2_with fail
    refine hparts.mono ?_
    rintro e w1 ⟨v1, rfl, hown, hx⟩
    obtain ⟨A1, c1, e1, hc1, hs1⟩ := hown.seen
    rw [HM.out] at e1 hc1
    subst e1
    obtain ⟨b, o, rfl, hb, hH⟩ := hs1 (by rw [HM.out, H4.out]; omega)
    have HH := Lib.hid hH
    clear hown hs1 hH hparts
    go_wp2
    go_loopg [4, 5] 4 (fun gk vn vi wr => ∃ k v : Nat, Hid (k + gk = 4) ∧ k ≤ 4 ∧ vi = .int .i64 (k : Int) ∧ vn = .int .i64 (v : Int) ∧ Hid (N.accL N.octL (L.take k) = v) ∧ Hid (∀ x ∈ L.take k, 0 ≤ N.octL x) ∧ w1 = wr)
    case atStart => exact ⟨0, 0, Nat.zero_add _, Nat.zero_le _, rfl, rfl, rfl, (fun x hx => by simp at hx), rfl⟩
    case round =>
      obtain ⟨k, v, HG, hk, rfl, rfl, HV, HD, rfl⟩ := hrel
      by_cases hlt : k < 4
      · have blt : decide ((k : Int) < 4) = true := decide_eq_true (by omega)
        have blt2 : decide (k < 4) = true := decide_eq_true hlt
        have hkL : k < L.length := by rw [HM.out, H4.out]; exact hlt
        have hki : (k : Int) < (m : Int) := by have := H4.out; omega
        have z0 := HH.out.str hkL
        have hsn := List.take_succ_eq_append_getElem hkL
        obtain ⟨x, hx⟩ : ∃ x, L[k] = x := ⟨_, rfl⟩
        have hmem : x ∈ L := hx ▸ List.getElem_mem hkL
        rw [hx] at z0 hsn
        obtain ⟨z, hz⟩ : ∃ z, N.numL x = z := ⟨_, rfl⟩
        have hzr := N.num_ge x
        rw [hz] at hzr
        have hv : v < 4294967296 := by
          have h5 := (N.acc_range N.octL (fun x => (N.oct_range x).2) 4 (L.take k) (by rw [List.length_take]; omega) HD.out).2
          rw [HV.out] at h5
          omega
        have hgk := HG.out
        have HSN := Lib.hid hsn
        have HZ := Lib.hid hz
        have HXM := Lib.hid hmem
        clear hx hsn hz hmem
        go_wp2_with fail
        refine (numQ x z _ (HEA.out x HXM.out) HZ.out).mono ?_
        rintro e w2 ⟨rfl, rfl⟩
        by_cases hlo : z < 0
        · have c1 : decide (z < 0) = true := decide_eq_true hlo
          have HE := Lib.hid (show r = -1 by rw [← HR.out]; exact N.ip_bad HL.out HXM.out (by unfold N.octL; rw [HZ.out, if_pos (.inl hlo)]; omega))
          clear hlo
          go_wp2
          go_ret
          exact ⟨by rw [HE.out]; rfl, hx⟩
        · have c1 : decide (z < 0) = false := decide_eq_false hlo
          by_cases hhi : 255 < z
          · have c2 : decide (255 < z) = true := decide_eq_true hhi
            have HE := Lib.hid (show r = -1 by rw [← HR.out]; exact N.ip_bad HL.out HXM.out (by unfold N.octL; rw [HZ.out, if_pos (.inr hhi)]; omega))
            clear hlo hhi
            go_wp2
            go_ret
            exact ⟨by rw [HE.out]; rfl, hx⟩
          · have c2 : decide (255 < z) = false := decide_eq_false hhi
            obtain ⟨zn, rfl⟩ := Int.eq_ofNat_of_zero_le (show 0 ≤ z by omega)
            have hoct : N.octL x = (zn : Int) := by unfold N.octL; rw [HZ.out, if_neg (by omega)]
            have HV2 := Lib.hid (show N.accL N.octL (L.take (k + 1)) = ((256 * v + zn : Nat) : Int) by rw [HSN.out, N.acc_snoc, HV.out, hoct]; omega)
            have HD2 := Lib.hid (show ∀ y ∈ L.take (k + 1), 0 ≤ N.octL y from fun y hy => by
              rw [HSN.out] at hy
              rcases List.mem_append.1 hy with hy | hy
              · exact HD.out y hy
              · rw [List.mem_singleton.1 hy, hoct]; omega)
            clear hlo hhi hoct
            go_wp2
            go_roundg (4 - (k + 1))
            case rel => exact ⟨k + 1, 256 * v + zn, (by show _ = _; omega), by omega, by go_num, by go_num, HV2, HD2, rfl⟩
            case measure => omega
      · have blt : decide ((k : Int) < 4) = false := decide_eq_false (by omega)
        have blt2 : decide (k < 4) = false := decide_eq_false hlt
        have HE := Lib.hid (show r = (v : Int) by
          have htk : L.take k = L := List.take_of_length_le (by rw [HM.out, H4.out]; omega)
          have h5 := HV.out
          have h6 := HD.out
          rw [htk] at h5 h6
          rw [← HR.out, N.ip_good HL.out (HM.out.trans H4.out) h6, h5])
        go_wp2
        go_ret
        exact ⟨by rw [HE.out]; rfl, hx⟩
  · have b4 : ((m : Int) != 4) = true := by simp; omega
    have HE := Lib.hid (show r = -1 by rw [← HR.out]; exact N.ip_len HL.out (by rw [hm]; exact h4))
    clear h4 hm
    go_enter Tryd.func14, Tryd.ntmps14
    go_wp2_with fail
    refine hparts.mono ?_
    rintro e w1 ⟨v1, rfl, hown, hx⟩
    obtain ⟨A1, c1, e1, hc1, hs1⟩ := hown.seen
    rw [HM.out] at e1 hc1
    subst e1
    clear hown hs1 hparts
    go_wp2
    go_ret
    exact ⟨by rw [HE.out]; rfl, hx⟩
set_option maxRecDepth 100000 in
theorem powR (n : Nat) (w : World) (hn : n ≤ 60) : Calls Tryd.prog 37 #[.int .i64 (n : Int)] w (fun e w' => e = .returned (.int .i64 ((2 ^ n : Nat) : Int)) ∧ w = w') := by
  go_enter Tryd.func37, Tryd.ntmps37
  go_wp2
  go_loopg [3, 4] n (fun gk vo vi wr => ∃ k v : Nat, Hid (k + gk = n) ∧ k ≤ n ∧ vi = .int .i64 (k : Int) ∧ vo = .int .i64 (v : Int) ∧ Hid (2 ^ k = v) ∧ w = wr)
  case atStart => exact ⟨0, 1, Nat.zero_add _, Nat.zero_le _, rfl, rfl, rfl, rfl⟩
  case round =>
    obtain ⟨k, v, HG, hk, rfl, rfl, HV, rfl⟩ := hrel
    by_cases hlt : k < n
    · have blt : decide ((k : Int) < (n : Int)) = true := decide_eq_true (by omega)
      have blt2 : decide (k < n) = true := decide_eq_true hlt
      have hv : v ≤ 1152921504606846976 := by
        rw [← HV.out]
        exact Nat.le_trans (Nat.pow_le_pow_right (by omega) (show k ≤ 60 by omega)) (by decide)
      have HV2 := Lib.hid (show 2 ^ (k + 1) = 2 * v by rw [Nat.pow_succ, HV.out]; omega)
      have hgk := HG.out
      go_wp2
      go_roundg (n - (k + 1))
      case rel => exact ⟨k + 1, 2 * v, (by show _ = _; omega), by omega, by go_num, by go_num, HV2, rfl⟩
      case measure => omega
    · have blt : decide ((k : Int) < (n : Int)) = false := decide_eq_false (by omega)
      have blt2 : decide (k < n) = false := decide_eq_false hlt
      obtain rfl : n = k := by omega
      go_wp2
      go_ret
      exact ⟨by rw [HV.out]; rfl, rfl⟩
/-- Power, its answer as a variable. -/
theorem powQ (n : Int) (k p : Nat) (w : World) (hn : n = (k : Int)) (hk : k ≤ 60) (hp : 2 ^ k = p) : Calls Tryd.prog 37 #[.int .i64 n] w (fun e w' => e = .returned (.int .i64 (p : Int)) ∧ w = w') := by
  subst hn; subst hp; exact powR k w hk
set_option maxRecDepth 100000 in
set_option maxHeartbeats 1000000 in
theorem rightR10 (n bits : Int) (w : World) : Calls Tryd.prog 22 #[.int .i64 n, .int .i64 bits] w (fun e w' => e = .returned (.bool (N.rightB n bits)) ∧ w = w') := by
  by_cases h1 : 0 ≤ n
  · have b1 : decide (0 ≤ n) = true := decide_eq_true h1
    by_cases h2 : n < 4294967296
    · have b2 : decide (n < 4294967296) = true := decide_eq_true h2
      by_cases h3 : 0 ≤ bits
      · have b3 : decide (0 ≤ bits) = true := decide_eq_true h3
        by_cases h4 : bits ≤ 32
        · have b4 : decide (bits ≤ 32) = true := decide_eq_true h4
          obtain ⟨nn, rfl⟩ := Int.eq_ofNat_of_zero_le h1
          obtain ⟨k, hk⟩ : ∃ k : Nat, (32 - bits).toNat = k := ⟨_, rfl⟩
          have hk2 : 32 - bits = (k : Int) := by omega
          obtain ⟨p, hp⟩ : ∃ p, 2 ^ k = p := ⟨_, rfl⟩
          have hpp : 0 < p := by rw [← hp]; exact N.pow_pos2 k
          have hpb : p ≤ 4294967296 := by rw [← hp]; exact Nat.le_trans (Nat.pow_le_pow_right (by omega) (show k ≤ 32 by omega)) (by decide)
          obtain ⟨r, hr⟩ : ∃ r, N.rightB (nn : Int) bits = r := ⟨_, rfl⟩
          have hr2 : r = decide (nn % p = 0) := by
            rw [← hr]
            unfold N.rightB
            rw [b1, b2, b3, b4, hk, hp]
            show decide ((nn : Int) % (p : Int) = 0) = _
            exact decide_eq_decide.2 (by rw [← Int.natCast_emod]; omega)
          rw [hr]
          have hpow := powQ (32 - bits) k p w hk2 (by omega) hp
          have bp : ((p : Int) == 0) = false := beq_eq_false_iff_ne.2 (by omega)
          have bp2 : (p == 0) = false := beq_eq_false_iff_ne.2 (by omega)
          have hmod : Int.tmod (nn : Int) (p : Int) = ((nn % p : Nat) : Int) := by rw [Int.tmod_eq_emod_of_nonneg (by omega), Int.natCast_emod]
          obtain ⟨q, hq⟩ : ∃ q, nn % p = q := ⟨_, rfl⟩
          rw [hq] at hmod hr2
          have hqp : q < p := by rw [← hq]; exact Nat.mod_lt _ hpp
          have HR := Lib.hid hr2
          clear hr2 hr hk hk2 hp hq
          cases hz : (q == 0) with
          | true =>
            have hz2 : ((q : Int) == 0) = true := by simp at hz ⊢; omega
            have HE := Lib.hid (show r = true by rw [HR.out]; simpa using hz)
            clear hz
            go_enter Tryd.func22, Tryd.ntmps22
            go_wp2_with fail
            refine hpow.mono ?_
            rintro e w1 ⟨rfl, rfl⟩
            go_wp2
            go_ret
            exact ⟨by rw [HE.out]; rfl, rfl⟩
          | false =>
            have hz2 : ((q : Int) == 0) = false := by simp at hz ⊢; omega
            have HE := Lib.hid (show r = false by rw [HR.out]; simpa using hz)
            clear hz
            go_enter Tryd.func22, Tryd.ntmps22
            go_wp2_with fail
            refine hpow.mono ?_
            rintro e w1 ⟨rfl, rfl⟩
            go_wp2
            go_ret
            exact ⟨by rw [HE.out]; rfl, rfl⟩
        · have b4 : decide (bits ≤ 32) = false := decide_eq_false h4
          have HE := Lib.hid (show N.rightB n bits = false by unfold N.rightB; rw [b4, Bool.and_false, Bool.false_and])
          clear h1 h2 h3 h4
          go_enter Tryd.func22, Tryd.ntmps22
          go_wp2
          go_ret
          exact ⟨by rw [HE.out]; rfl, rfl⟩
      · have b3 : decide (0 ≤ bits) = false := decide_eq_false h3
        have HE := Lib.hid (show N.rightB n bits = false by unfold N.rightB; rw [b3, Bool.and_false, Bool.false_and, Bool.false_and])
        clear h1 h2 h3
        go_enter Tryd.func22, Tryd.ntmps22
        go_wp2
        go_ret
        exact ⟨by rw [HE.out]; rfl, rfl⟩
    · have b2 : decide (n < 4294967296) = false := decide_eq_false h2
      have HE := Lib.hid (show N.rightB n bits = false by unfold N.rightB; rw [b2, Bool.and_false, Bool.false_and, Bool.false_and, Bool.false_and])
      clear h1 h2
      go_enter Tryd.func22, Tryd.ntmps22
      go_wp2
      go_ret
      exact ⟨by rw [HE.out]; rfl, rfl⟩
  · have b1 : decide (0 ≤ n) = false := decide_eq_false h1
    have HE := Lib.hid (show N.rightB n bits = false by unfold N.rightB; rw [b1, Bool.false_and, Bool.false_and, Bool.false_and, Bool.false_and])
    clear h1
    go_enter Tryd.func22, Tryd.ntmps22
    go_wp2
    go_ret
    exact ⟨by rw [HE.out]; rfl, rfl⟩
theorem valueR10 (c : UInt8) (w : World) : Calls Tryd.prog 33 #[.int .u8 c.toNat] w (fun e w' => e = .returned (.int .i64 (N.hexV c)) ∧ w = w') := by
  have hlt := c.toNat_lt
  go_enter Tryd.func33, Tryd.ntmps33
  go_wp2
  all_goals go_ret
  all_goals
    refine ⟨congrArg (fun z => Ending.returned (.int .i64 z)) ?_, rfl⟩
    unfold N.hexV
    first | rw [if_pos (by omega)] | (rw [if_neg (by omega), if_pos (by omega)]; omega) | (rw [if_neg (by omega), if_neg (by omega)])
theorem one_byte10 (w : World) (c : UInt8) (z : Int) (hz : z = (c.toNat : Int)) : (convert 51 9 (.slice (some ⟨w.heap.size, 0, none⟩) 1 1)).run Tryd.prog (w.alloc (.cells #[.int .u8 z] 5)) = .ok (.string (sB [c])) (w.alloc (.cells #[.int .u8 z] 5)) := by
  refine run_convert_bytes_back _ _ _ _ ⟨w.heap.size, 0, none⟩ 1 [c] Tryd.underlying51 Tryd.underlying5 Tryd.underlying9 ?_
  intro j hj
  obtain rfl : j = 0 := by simpa using hj
  rw [add_off, Nat.zero_add]
  refine (World.cell?_alloc_mark w #[.int .u8 z] 5 (0, 0) 0).trans ?_
  simp only [List.getElem_cons_zero, hz]
  rfl
theorem sB_add (a b : List UInt8) : sB a ++ sB b = sB (a ++ b) := ByteArray.ext (by simp [ByteArray.data_append, sB])
set_option maxRecDepth 100000 in
set_option maxHeartbeats 1000000 in
theorem digits10_small (n : Nat) (h : n < 10) (w : World) :
    Calls Tryd.prog 24 #[.int .i64 (n : Int)] w (fun e w' => e = .returned (.string (sB (T.decL n))) ∧ Below w.heap.size w w') := by
  have h9 : decide ((9 : Int) < (n : Int)) = false := decide_eq_false (by omega)
  have h9b : decide (9 < n) = false := decide_eq_false (by omega)
  have hm : Int.tmod (n : Int) 10 = (n : Int) := by rw [Int.tmod_eq_emod_of_nonneg (by omega)]; omega
  have hcv := one_byte10 w (UInt8.ofNat (48 + n)) (48 + (n : Int)) (by rw [N.dig_of n h]; omega)
  rw [T.decL_small h]
  obtain ⟨s, hs⟩ : ∃ s, sB [UInt8.ofNat (48 + n)] = s := ⟨_, rfl⟩
  rw [hs] at hcv ⊢
  clear hs
  go_enter Tryd.func24, Tryd.ntmps24
  go_wp2
  go_ret
  exact ⟨rfl, (Below.refl _ _).alloc (Nat.le_refl _) _⟩
set_option maxRecDepth 100000 in
set_option maxHeartbeats 1000000 in
theorem digits10_any : ∀ (k n : Nat), n < 10 ^ (k + 1) → k ≤ 9 → ∀ w : World, Calls Tryd.prog 24 #[.int .i64 (n : Int)] w (fun e w' => e = .returned (.string (sB (T.decL n))) ∧ Below w.heap.size w w')
  | 0, n, h, _, w => digits10_small n (by simpa using h) w
  | k + 1, n, h, hk, w => by
    by_cases h1 : n < 10
    · exact digits10_small n h1 w
    · have hlt : n / 10 < 10 ^ (k + 1) := by rw [Nat.pow_succ] at h; omega
      have ih := digits10_any k (n / 10) hlt (by omega)
      have h9 : decide ((9 : Int) < (n : Int)) = true := decide_eq_true (by omega)
      have h9b : decide (9 < n) = true := decide_eq_true (by omega)
      have hn18 : n < 100000000000 := by
        have : (10 : Nat) ^ (k + 1 + 1) ≤ 10 ^ 11 := Nat.pow_le_pow_right (by omega) (by omega)
        omega
      obtain ⟨r, hr⟩ : ∃ r, n % 10 = r := ⟨_, rfl⟩
      obtain ⟨q, hq⟩ : ∃ q, n / 10 = q := ⟨_, rfl⟩
      have hr10 : r < 10 := by omega
      have hm : Int.tmod (n : Int) 10 = (r : Int) := by rw [Int.tmod_eq_emod_of_nonneg (by omega)]; omega
      have hd : Int.tdiv (n : Int) 10 = (q : Int) := by rw [Int.tdiv_eq_ediv_of_nonneg (by omega)]; omega
      have hq11 : q < 100000000000 := by omega
      have hw : wrap64 (q : Int) = (q : Int) := by unfold wrap64; omega
      have hcv := one_byte10 w (UInt8.ofNat (48 + r)) (48 + (r : Int)) (by rw [N.dig_of r hr10]; omega)
      have hdec := T.decL_big (n := n) (by omega)
      rw [hr, hq] at hdec
      rw [hq] at ih
      rw [hdec, ← sB_add]
      obtain ⟨s, hs⟩ : ∃ s, sB [UInt8.ofNat (48 + r)] = s := ⟨_, rfl⟩
      obtain ⟨s2, hs2⟩ : ∃ s2, sB (T.decL q) = s2 := ⟨_, rfl⟩
      have hl2 : s2.size ≤ 1000 := by
        rw [← hs2, sB_size]
        have := T.decL_len k q (by rw [← hq]; exact hlt)
        omega
      have hl1 : s.size = 1 := by rw [← hs, sB_size]; rfl
      rw [hs] at hcv ⊢
      rw [hs2] at ih ⊢
      have HI := Lib.hid ih
      clear hs hs2 hr hq hdec ih h hlt
      go_enter Tryd.func24, Tryd.ntmps24
      go_wp2_with fail
      refine (HI.out _).mono ?_
      rintro e w1 ⟨rfl, hx⟩
      go_wp2
      go_ret
      exact ⟨rfl, bthen ((Below.refl _ _).alloc (Nat.le_refl _) _) hx⟩
/-- Digits, its answer as a variable. -/
theorem digQ (n : Int) (k : Nat) (q : List UInt8) (w : World) (hn : n = (k : Int)) (hk : k < 10000000000) (hq : T.decL k = q) : Calls Tryd.prog 24 #[.int .i64 n] w (fun e w' => e = .returned (.string (sB q)) ∧ Below w.heap.size w w') := by
  subst hn; subst hq; exact digits10_any 9 k (by omega) (by omega) w
theorem dec3_len (k : Nat) (h : k < 1000) : (T.decL k).length ≤ 3 := T.decL_len 2 k (by omega)
set_option maxRecDepth 100000 in
set_option maxHeartbeats 1000000 in
theorem ipTextR (n : Nat) (w : World) (hn : n < 4294967296) : Calls Tryd.prog 23 #[.int .i64 (n : Int)] w (fun e w' => e = .returned (.string (sB (N.ipT n))) ∧ Below w.heap.size w w') := by
  obtain ⟨a, ha⟩ : ∃ a, n / 16777216 = a := ⟨_, rfl⟩
  obtain ⟨b, hb⟩ : ∃ b, n / 65536 % 256 = b := ⟨_, rfl⟩
  obtain ⟨c, hc⟩ : ∃ c, n / 256 % 256 = c := ⟨_, rfl⟩
  obtain ⟨d, hd⟩ : ∃ d, n % 256 = d := ⟨_, rfl⟩
  have ha2 : a < 256 := by omega
  have hb2 : b < 256 := by omega
  have hc2 : c < 256 := by omega
  have hd2 : d < 256 := by omega
  have e1 : Int.tdiv (n : Int) 16777216 = (a : Int) := by rw [Int.tdiv_eq_ediv_of_nonneg (by omega)]; omega
  obtain ⟨x, hx⟩ : ∃ x, n / 65536 = x := ⟨_, rfl⟩
  obtain ⟨y, hy⟩ : ∃ y, n / 256 = y := ⟨_, rfl⟩
  have e2 : Int.tdiv (n : Int) 65536 = (x : Int) := by rw [Int.tdiv_eq_ediv_of_nonneg (by omega)]; omega
  have e3 : Int.tmod (x : Int) 256 = (b : Int) := by rw [Int.tmod_eq_emod_of_nonneg (by omega)]; omega
  have e4 : Int.tdiv (n : Int) 256 = (y : Int) := by rw [Int.tdiv_eq_ediv_of_nonneg (by omega)]; omega
  have e5 : Int.tmod (y : Int) 256 = (c : Int) := by rw [Int.tmod_eq_emod_of_nonneg (by omega)]; omega
  have e6 : Int.tmod (n : Int) 256 = (d : Int) := by rw [Int.tmod_eq_emod_of_nonneg (by omega)]; omega
  have hx2 : x < 65536 := by omega
  have hy2 : y < 16777216 := by omega
  obtain ⟨qa, hqa⟩ : ∃ q, T.decL a = q := ⟨_, rfl⟩
  obtain ⟨qb, hqb⟩ : ∃ q, T.decL b = q := ⟨_, rfl⟩
  obtain ⟨qc, hqc⟩ : ∃ q, T.decL c = q := ⟨_, rfl⟩
  obtain ⟨qd, hqd⟩ : ∃ q, T.decL d = q := ⟨_, rfl⟩
  have la : qa.length ≤ 3 := hqa ▸ dec3_len a (by omega)
  have lb : qb.length ≤ 3 := hqb ▸ dec3_len b (by omega)
  have lc : qc.length ≤ 3 := hqc ▸ dec3_len c (by omega)
  have ld : qd.length ≤ 3 := hqd ▸ dec3_len d (by omega)
  have HRES := Lib.hid (show N.ipT n = qa ++ 46 :: (qb ++ 46 :: (qc ++ 46 :: qd)) by unfold N.ipT; rw [ha, hb, hc, hd, hqa, hqb, hqc, hqd])
  have HQA := Lib.hid hqa
  have HQB := Lib.hid hqb
  have HQC := Lib.hid hqc
  have HQD := Lib.hid hqd
  have HB : Below w.heap.size w w := Below.refl _ _
  have sa := sB_size qa
  have sb := sB_size qb
  have sc := sB_size qc
  have sd := sB_size qd
  obtain ⟨va, hva⟩ : ∃ v, sB qa = v := ⟨_, rfl⟩
  obtain ⟨vb, hvb⟩ : ∃ v, sB qb = v := ⟨_, rfl⟩
  obtain ⟨vc, hvc⟩ : ∃ v, sB qc = v := ⟨_, rfl⟩
  obtain ⟨vd, hvd⟩ : ∃ v, sB qd = v := ⟨_, rfl⟩
  rw [hva] at sa
  rw [hvb] at sb
  rw [hvc] at sc
  rw [hvd] at sd
  have HVA := Lib.hid hva
  have HVB := Lib.hid hvb
  have HVC := Lib.hid hvc
  have HVD := Lib.hid hvd
  have za : va.size ≤ 3 := by omega
  have zb : vb.size ≤ 3 := by omega
  have zc : vc.size ≤ 3 := by omega
  have zd : vd.size ≤ 3 := by omega
  clear ha hb hc hd hx hy hqa hqb hqc hqd hva hvb hvc hvd la lb lc ld sa sb sc sd
  go_enter Tryd.func23, Tryd.ntmps23
  go_wp2_with fail
  refine (digQ _ a qa _ (by go_num) (by omega) HQA.out).mono ?_
  rintro e w1 ⟨rfl, hx⟩
  rw [HVA.out]
  replace HB := bthen HB hx
  clear hx
  go_wp2_with fail
  refine (digQ _ b qb _ (by go_num) (by omega) HQB.out).mono ?_
  rintro e w2 ⟨rfl, hx⟩
  rw [HVB.out]
  replace HB := bthen HB hx
  clear hx
  go_wp2_with fail
  refine (digQ _ c qc _ (by go_num) (by omega) HQC.out).mono ?_
  rintro e w3 ⟨rfl, hx⟩
  rw [HVC.out]
  replace HB := bthen HB hx
  clear hx
  go_wp2_with fail
  refine (digQ _ d qd _ (by go_num) (by omega) HQD.out).mono ?_
  rintro e w4 ⟨rfl, hx⟩
  rw [HVD.out]
  replace HB := bthen HB hx
  clear hx
  go_wp2
  go_ret
  exact ⟨by rw [HRES.out, ← HVA.out, ← HVB.out, ← HVC.out, ← HVD.out]; exact congrArg (fun z => Ending.returned (Value.string z)) (ByteArray.ext (by simp [ByteArray.data_append, sB])), HB⟩
theorem hexR10 (n : Nat) (w : World) (h : n < 16) : Calls Tryd.prog 38 #[.int .i64 (n : Int)] w (fun e w' => e = .returned (.string (sB [N.hexC n])) ∧ Below w.heap.size w w') := by
  have hcn := N.hexC_nat n h
  by_cases h1 : n < 10
  · have b1 : decide ((n : Int) < 10) = true := decide_eq_true (by omega)
    have b1b : decide (n < 10) = true := decide_eq_true h1
    rw [if_pos h1] at hcn
    have hcv := one_byte10 w (N.hexC n) (48 + (n : Int)) (by rw [hcn]; omega)
    obtain ⟨s, hs⟩ : ∃ s, sB [N.hexC n] = s := ⟨_, rfl⟩
    rw [hs] at hcv ⊢
    clear hs hcn
    go_enter Tryd.func38, Tryd.ntmps38
    go_wp2
    go_ret
    exact ⟨rfl, (Below.refl _ _).alloc (Nat.le_refl _) _⟩
  · have b1 : decide ((n : Int) < 10) = false := decide_eq_false (by omega)
    have b1b : decide (n < 10) = false := decide_eq_false h1
    rw [if_neg h1] at hcn
    have hcv := one_byte10 w (N.hexC n) (97 + (n : Int) - 10) (by rw [hcn]; omega)
    obtain ⟨s, hs⟩ : ∃ s, sB [N.hexC n] = s := ⟨_, rfl⟩
    rw [hs] at hcv ⊢
    clear hs hcn
    go_enter Tryd.func38, Tryd.ntmps38
    go_wp2
    go_ret
    exact ⟨rfl, (Below.refl _ _).alloc (Nat.le_refl _) _⟩
end Go.Proofs.YtgefbdckngejdaaDoor
