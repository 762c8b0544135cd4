/-
  Layer 10's code: IP, Prefix, MAC, In. Condition: texts of at most 100 bytes.
-/
import Derived.Test.YtgefbdckngejdaaDoorAddrC
import Derived.Test.YtgefbdckngejdaaDoorLaysI
namespace Go.Proofs.YtgefbdckngejdaaDoor
open Go.RowKit
set_option linter.unusedVariables false

theorem numA_oct (l : List UInt8) : numA l 0 255 = okA (N.octL l) := by
  rcases N.num_cases l with h | ⟨n, h, _, _⟩
  · unfold numA okA N.octL; rw [h]; rfl
  · unfold numA N.octL
    rw [h]
    by_cases h2 : n ≤ 255
    · rw [if_pos (by omega), if_neg (by omega), okA_nat]
    · rw [if_neg (by omega), if_pos (by omega)]; rfl
theorem shl8C {n : Nat} (h : n < 16777216) : (n : Int) * 256 = ((256 * n : Nat) : Int) := by omega
theorem or8C {n b : Nat} (h : n < 16777216) (hb : b < 256) : Go.bits .or .i64 ((256 * n : Nat) : Int) (b : Int) = ((256 * n + b : Nat) : Int) := by
  have h1 : 256 * n + b < 9223372036854775808 := by omega
  exact N.or_low n b 8 256 rfl hb h1
theorem sv_is (s : ByteArray) : sB s.data.toList = s := ByteArray.ext (Array.ext' (by simp [sB]))
theorem acc_snocC (L : List (List UInt8)) (a : List UInt8) (n b : Nat) (h1 : N.accL N.octL L = (n : Int)) (h2 : N.octL a = (b : Int)) : N.accL N.octL (L ++ [a]) = ((256 * n + b : Nat) : Int) := by rw [N.acc_snoc, h1, h2]; omega
theorem acc_smallC (L : List (List UInt8)) (n : Nat) (hl : L.length ≤ 3) (hg : ∀ x ∈ L, 0 ≤ N.octL x) (h : N.accL N.octL L = (n : Int)) : n < 16777216 := by
  have := (N.acc_range N.octL (fun x => (N.oct_range x).2) 3 L hl hg).2
  rw [h] at this
  have e : ((256 ^ 3 : Nat) : Int) = 16777216 := rfl
  rw [e] at this
  omega
/-- How far the address is read. -/
structure IpAt (s : List UInt8) (g : Nat) (L : List (List UInt8)) (r : List UInt8) (n : Nat) : Prop where
  len : L.length + g = 4
  good : ∀ x ∈ L, 0 ≤ N.octL x
  sum : N.accL N.octL L = (n : Int)
  more : 0 < g → N.splitL 46 s = L ++ N.splitL 46 r
  done : g = 0 → N.splitL 46 s = L
theorem IpAt.start (s : List UInt8) : IpAt s 4 [] s 0 := ⟨rfl, (fun x hx => by cases hx), rfl, (fun _ => rfl), (fun h => by cases h)⟩
theorem IpAt.bad {s : List UInt8} {g n : Nat} {L : List (List UInt8)} {r a : List UInt8} {t : List (List UInt8)} (h : IpAt s g L r n) (hg : 0 < g) (e : N.splitL 46 r = a :: t) (hb : N.octL a < 0) : N.ipL s = -1 :=
  N.ip_bad (h.more hg) (x := a) (by rw [e]; simp) hb
theorem IpAt.wrong {s : List UInt8} {g n : Nat} {L : List (List UInt8)} {r : List UInt8} (h : IpAt s g L r n) (hg : 0 < g) (hl : (N.splitL 46 r).length ≠ g) : N.ipL s = -1 :=
  N.ip_len (h.more hg) (by rw [List.length_append]; have := h.len; omega)
theorem IpAt.next {s : List UInt8} {g n b : Nat} {L : List (List UInt8)} {r a r2 : List UInt8} (h : IpAt s (g + 1) L r n) (hb : N.octL a = (b : Int)) (e : (0 < g ∧ N.splitL 46 r = a :: N.splitL 46 r2) ∨ (g = 0 ∧ N.splitL 46 r = [a])) : IpAt s g (L ++ [a]) r2 (256 * n + b) where
  len := by rw [List.length_append, List.length_singleton]; have := h.len; omega
  good := fun x hx => by
    rcases List.mem_append.1 hx with hx | hx
    · exact h.good x hx
    · rw [List.mem_singleton.1 hx, hb]; omega
  sum := acc_snocC L a n b h.sum hb
  more := fun hg => by
    rcases e with ⟨_, e⟩ | ⟨e, _⟩
    · rw [h.more (by omega), e, List.append_assoc]; rfl
    · omega
  done := fun hg => by
    rcases e with ⟨e, _⟩ | ⟨_, e⟩
    · omega
    · rw [h.more (by omega), e]
theorem IpAt.all {s : List UInt8} {n : Nat} {L : List (List UInt8)} {r : List UInt8} (h : IpAt s 0 L r n) : N.ipL s = (n : Int) := by
  rw [N.ip_good (h.done rfl) (by have := h.len; omega) h.good, h.sum]
theorem cut_false {l a b : List UInt8} {c : UInt8} (h : CutIs c l a b false) : N.splitL c l = [a] ∧ a.length = l.length := by
  rcases h with ⟨_, rfl, _, h⟩ | ⟨h, _⟩
  · exact ⟨N.split_one h, rfl⟩
  · cases h
theorem cut_true {l a b : List UInt8} {c : UInt8} (h : CutIs c l a b true) : N.splitL c l = a :: N.splitL c b ∧ l.length = a.length + (b.length + 1) := by
  rcases h with ⟨h, _⟩ | ⟨_, rfl, h⟩
  · cases h
  · exact ⟨N.split_at h b, by rw [List.length_append, List.length_cons]⟩
theorem CutIs.small {l a b : List UInt8} {c : UInt8} {f : Bool} (h : CutIs c l a b f) (hl : l.length ≤ 100) : a.length ≤ 100 ∧ b.length ≤ 100 := by
  rcases h with ⟨_, rfl, rfl, _⟩ | ⟨_, rfl, _⟩
  · exact ⟨hl, Nat.zero_le _⟩
  · rw [List.length_append, List.length_cons] at hl; omega
theorem split_pos (c : UInt8) (l : List UInt8) : 1 ≤ (N.splitL c l).length := List.length_pos_iff.2 (N.split_ne c l)
theorem oct_two (a : List UInt8) : (okA (N.octL a) = (0, false) ∧ N.octL a < 0) ∨ (∃ b : Nat, okA (N.octL a) = ((b : Int), true) ∧ N.octL a = (b : Int) ∧ b < 256) := by
  rcases N.oct_cases a with h | ⟨b, h, h2, _⟩
  · exact .inl ⟨by rw [h]; rfl, by rw [h]; decide⟩
  · exact .inr ⟨b, by rw [h, okA_nat], h, h2⟩
set_option maxRecDepth 100000 in
set_option maxHeartbeats 4000000 in
theorem ip_any10 (s : ByteArray) (z : Int) (ok : Bool) (w : World) (hs : s.size ≤ 100) (hz : okA (N.ipL s.data.toList) = (z, ok)) : Calls Tryd.prog 13 #[.string s] w (fun e w' => e = .returned (.tuple #[.int .i64 z, .bool ok]) ∧ Below w.heap.size w w') := by
  have hsz : s.data.toList.length = s.size := by simp
  obtain ⟨l, hl⟩ : ∃ l, s.data.toList = l := ⟨_, rfl⟩
  have hll : l.length ≤ 100 := by rw [← hl, hsz]; exact hs
  have HS := Lib.hid (show s = sB l by rw [← hl, sv_is])
  rw [hl] at hz
  have HZ := Lib.hid hz
  clear hz hsz hl hs
  obtain rfl := HS.out
  go_enter Tryd.func13, Tryd.ntmps13
  go_wp2
  go_loopg [0, 4, 5] 4 (fun gk vs vn vl wr => ∃ (L : List (List UInt8)) (r : List UInt8) (n : Nat) (y : Int), Hid (y + 1 = (gk : Int)) ∧ vs = .string (sB r) ∧ vn = .int .i64 (n : Int) ∧ vl = .int .i64 y ∧ Hid (r.length ≤ 100) ∧ Hid (IpAt l gk L r n) ∧ Hid (n < 4294967296) ∧ Below w.heap.size w wr)
  case atStart => exact ⟨[], l, 0, 3, rfl, rfl, rfl, rfl, hll, IpAt.start l, (by show 0 < _; omega), Below.refl _ _⟩
  case round =>
    obtain ⟨L, r, n, y0, HY, rfl, rfl, rfl, HR, HI, HN, hbr⟩ := hrel
    by_cases hy : 0 ≤ y0
    · obtain ⟨y, rfl⟩ := Int.eq_ofNat_of_zero_le hy
      have c1 : decide ((0 : Int) ≤ (y : Int)) = true := decide_eq_true hy
      obtain rfl : y + 1 = gk := by have := HY.out; omega
      have hL3 : L.length ≤ 3 := by have := HI.out.len; omega
      have HN2 := Lib.hid (acc_smallC L n hL3 HI.out.good HI.out.sum)
      have hsr : (sB r).size ≤ 1073741824 := by rw [sB_size]; have := HR.out; omega
      clear hL3 hy
      go_wp2_with fail
      refine (cut_any10 (sB r) 46 _ hsr).mono ?_
      rintro e w1 ⟨⟨a, b, f, rfl, hc⟩, hb1⟩
      rw [sB_data] at hc
      have HAB := Lib.hid (hc.small HR.out)
      have HB1 := Lib.hid (bthen hbr hb1)
      have has : (sB a).size ≤ 1073741824 := by rw [sB_size]; have := HAB.out.1; omega
      clear hb1 hsr
      rcases oct_two a with ⟨hoa, hneg⟩ | ⟨d, hoa, hod, hd⟩
      · have HNUM := Lib.hid (show numA (sB a).data.toList 0 255 = (0, false) by rw [sB_data, numA_oct, hoa])
        have HE := Lib.hid (show z = 0 ∧ ok = false by
          have e : N.ipL l = -1 := by
            cases f with
            | false => exact HI.out.bad (by omega) (cut_false hc).1 hneg
            | true => exact HI.out.bad (by omega) (cut_true hc).1 hneg
          have := HZ.out
          rw [e] at this
          exact ⟨(congrArg Prod.fst this).symm, (congrArg Prod.snd this).symm⟩)
        clear hc hoa hneg
        obtain ⟨rfl, rfl⟩ := HE.out
        go_wp2_with fail
        refine (num_any10 (sB a) 0 255 0 false _ has HNUM.out).mono ?_
        rintro e w2 ⟨rfl, rfl⟩
        go_wp2
        go_ret2
        exact ⟨rfl, HB1.out⟩
      · have HNUM := Lib.hid (show numA (sB a).data.toList 0 255 = ((d : Int), true) by rw [sB_data, numA_oct, hoa])
        have HD := Lib.hid hd
        have HOD := Lib.hid hod
        have e8 := shl8C HN2.out
        have e9 := or8C HN2.out hd
        obtain ⟨m, hm⟩ : ∃ m, 256 * n = m := ⟨_, rfl⟩
        obtain ⟨n2, hn2⟩ : ∃ k, 256 * n + d = k := ⟨_, rfl⟩
        rw [hn2] at e9
        rw [hm] at e8 e9
        have HM := Lib.hid hn2
        have HMB := Lib.hid (show n2 < 4294967296 by have := HN2.out; omega)
        have hmb : m < 4294967296 := by have := HN2.out; omega
        clear hd hod hoa hm hn2
        by_cases hy0 : y = 0
        · subst hy0
          cases f with
          | true =>
            have HE := Lib.hid (show z = 0 ∧ ok = false by
              have e : N.ipL l = -1 := HI.out.wrong (by omega) (by rw [(cut_true hc).1, List.length_cons]; have := split_pos 46 b; omega)
              have := HZ.out
              rw [e] at this
              exact ⟨(congrArg Prod.fst this).symm, (congrArg Prod.snd this).symm⟩)
            clear hc
            obtain ⟨rfl, rfl⟩ := HE.out
            go_wp2_with fail
            refine (num_any10 (sB a) 0 255 (d : Int) true _ has HNUM.out).mono ?_
            rintro e w2 ⟨rfl, rfl⟩
            go_wp2
            go_ret2
            exact ⟨rfl, HB1.out⟩
          | false =>
            have HI2 := Lib.hid (show IpAt l 0 (L ++ [a]) b n2 by rw [← HM.out]; exact HI.out.next HOD.out (.inr ⟨rfl, (cut_false hc).1⟩))
            clear hc
            go_wp2_with fail
            refine (num_any10 (sB a) 0 255 (d : Int) true _ has HNUM.out).mono ?_
            rintro e w2 ⟨rfl, rfl⟩
            go_wp2
            go_roundg 0
            case rel => exact ⟨L ++ [a], b, n2, -1, (by show _ = _; rfl), by go_num, by go_num, by go_num, HAB.out.2, HI2.out, HMB.out, HB1.out⟩
            case measure => omega
        · have c2 : decide ((0 : Int) < (y : Int)) = true := decide_eq_true (by omega)
          have c2b : decide (0 < y) = true := decide_eq_true (by omega)
          cases f with
          | false =>
            have HE := Lib.hid (show z = 0 ∧ ok = false by
              have e : N.ipL l = -1 := HI.out.wrong (by omega) (by rw [(cut_false hc).1, List.length_singleton]; omega)
              have := HZ.out
              rw [e] at this
              exact ⟨(congrArg Prod.fst this).symm, (congrArg Prod.snd this).symm⟩)
            clear hc
            obtain ⟨rfl, rfl⟩ := HE.out
            go_wp2_with fail
            refine (num_any10 (sB a) 0 255 (d : Int) true _ has HNUM.out).mono ?_
            rintro e w2 ⟨rfl, rfl⟩
            go_wp2
            go_ret2
            exact ⟨rfl, HB1.out⟩
          | true =>
            have HI2 := Lib.hid (show IpAt l y (L ++ [a]) b n2 by rw [← HM.out]; exact HI.out.next HOD.out (.inl ⟨by omega, (cut_true hc).1⟩))
            obtain ⟨y1, hy1⟩ : ∃ k, y - 1 = k := ⟨_, rfl⟩
            have HYP := Lib.hid (show (y1 : Int) + 1 = (y : Int) by omega)
            have e7 : (y : Int) - 1 = (y1 : Int) := by omega
            have hy1b : y1 ≤ 4 := by have := HI.out.len; omega
            clear hy1
            clear hc
            go_wp2_with fail
            refine (num_any10 (sB a) 0 255 (d : Int) true _ has HNUM.out).mono ?_
            rintro e w2 ⟨rfl, rfl⟩
            go_wp2
            go_roundg y
            case rel => exact ⟨L ++ [a], b, n2, (y1 : Int), HYP.out, by go_num, by go_num, by go_num, HAB.out.2, HI2.out, HMB.out, HB1.out⟩
            case measure => omega
    · have c1 : decide ((0 : Int) ≤ y0) = false := decide_eq_false hy
      obtain rfl : gk = 0 := by have := HY.out; omega
      have HE := Lib.hid (show z = (n : Int) ∧ ok = true by
        have := HZ.out
        rw [HI.out.all, okA_nat] at this
        exact ⟨(congrArg Prod.fst this).symm, (congrArg Prod.snd this).symm⟩)
      obtain ⟨rfl, rfl⟩ := HE.out
      go_wp2
      go_ret2
      exact ⟨rfl, hbr⟩
set_option maxRecDepth 100000 in
set_option maxHeartbeats 2000000 in
theorem in_any10 (n bits ip : Int) (r : Bool) (w : World) (hn : I64 n) (hb : I64 bits) (hi : I64 ip) (hr : N.inB n bits ip = r) : Calls Tryd.prog 26 #[.int .i64 n, .int .i64 bits, .int .i64 ip] w (fun e w' => e = .returned (.bool r) ∧ Below w.heap.size w w') := by
  obtain ⟨q, hq⟩ : ∃ q, N.rightB n bits = q := ⟨_, rfl⟩
  have HQ := Lib.hid hq
  cases q with
  | false =>
    have HE := Lib.hid (show false = r by rw [← hr]; unfold N.inB; rw [hq]; rfl)
    clear hr hq hn hb hi
    go_enter Tryd.func26, Tryd.ntmps26
    go_wp2
    go_quiet (first | (go_at_call 31; exact Calls.quiet_of_same (calls_sym (prefix_any _ _ _ _ HQ.out))) | (go_at_call 34; exact Calls.quiet_of_same (calls_sym (belowIP 0 true _ rfl))))
    go_wp2
    go_ret
    exact ⟨by rw [← HE.out]; rfl, below_drawn10 (Below.refl _ _) _⟩
  | true =>
    obtain ⟨g1, g2, g3, g4⟩ := right_nums hq
    obtain ⟨v, hv⟩ : ∃ v, (decide (0 ≤ ip) && decide (ip < 4294967296)) = v := ⟨_, rfl⟩
    have HV := Lib.hid hv
    cases v with
    | false =>
      have HE := Lib.hid (show false = r by rw [← hr]; unfold N.inB; rw [hq, Bool.true_and, hv]; rfl)
      clear hr hq hn hb hi hv g1 g2 g3 g4
      go_enter Tryd.func26, Tryd.ntmps26
      go_wp2
      go_quiet (first | (go_at_call 31; exact Calls.quiet_of_same (calls_sym (prefix_any _ _ _ _ HQ.out))) | (go_at_call 34; exact Calls.quiet_of_same (calls_sym (belowIP _ _ _ HV.out))))
      go_wp2
      go_ret
      exact ⟨by rw [← HE.out]; rfl, below_drawn10 (Below.refl _ _) _⟩
    | true =>
      have hv2 := hv
      rw [Bool.and_eq_true, decide_eq_true_eq, decide_eq_true_eq] at hv2
      obtain ⟨nn, rfl⟩ := Int.eq_ofNat_of_zero_le g1
      obtain ⟨ii, rfl⟩ := Int.eq_ofNat_of_zero_le hv2.1
      obtain ⟨k, hk⟩ : ∃ k : Nat, (32 - bits).toNat = k := ⟨_, rfl⟩
      have hk2 : 32 - bits = (k : Int) := by omega
      have hk3 : k ≤ 32 := by omega
      obtain ⟨p, hp⟩ : ∃ p, 2 ^ k = p := ⟨_, rfl⟩
      obtain ⟨qi, hqi⟩ : ∃ q, ii / p = q := ⟨_, rfl⟩
      obtain ⟨qn, hqn⟩ : ∃ q, nn / p = q := ⟨_, rfl⟩
      have d1 : (ii : Int) / (2 : Int) ^ k = (qi : Int) := by rw [← hqi, ← hp, Int.natCast_ediv, Int.natCast_pow]; rfl
      have d2 : (nn : Int) / (2 : Int) ^ k = (qn : Int) := by rw [← hqn, ← hp, Int.natCast_ediv, Int.natCast_pow]; rfl
      have sb : IntKind.i64.wrap (32 - bits) = (k : Int) := by rw [hk2]; rw [IntKind.wrap_i64]; omega
      have HF := Lib.hid (show ((ii : Int) / 2 ^ min k 64 == (nn : Int) / 2 ^ min k 64) = r by
        rw [← hr, show min k 64 = k by omega, d1, d2]; unfold N.inB
        rw [hq, decide_eq_true hv2.1, decide_eq_true hv2.2, hk, hp]
        show _ = decide ((ii : Int) / (p : Int) = (nn : Int) / (p : Int))
        rw [← Int.natCast_ediv, ← Int.natCast_ediv, hqi, hqn, Bool.eq_iff_iff, decide_eq_true_eq, beq_iff_eq])
      clear d1 d2 hr hq hqi hqn hk hp hk2 hk3 hv hv2 hn hb hi g1 g2 g3 g4
      go_enter Tryd.func26, Tryd.ntmps26
      go_wp2
      go_quiet (first | (go_at_call 31; exact Calls.quiet_of_same (calls_sym (prefix_any _ _ _ _ HQ.out))) | (go_at_call 34; exact Calls.quiet_of_same (calls_sym (belowIP _ _ _ HV.out))))
      go_wp2
      go_ret
      exact ⟨by rw [← HF.out]; rfl, below_drawn10 (Below.refl _ _) _⟩
/-- The prefix of a text, from its cut. -/
theorem pref_of {l a b : List UInt8} {f : Bool} (h : CutIs 47 l a b f) : N.prefL l = if N.rightB (N.ipL a) (N.numL b) = true then (N.ipL a, N.numL b) else (-1, 0) := by
  cases f with
  | false =>
    obtain ⟨e, _⟩ := cut_false h
    obtain rfl : b = [] := by
      rcases h with ⟨_, _, e, _⟩ | ⟨e, _⟩
      · exact e
      · cases e
    have hn : N.numL [] = -1 := rfl
    have hr : N.rightB (N.ipL a) (N.numL []) = false := by
      rw [hn]; unfold N.rightB; rw [decide_eq_false (show ¬ (0 : Int) ≤ -1 by omega), Bool.and_false, Bool.false_and, Bool.false_and]
    unfold N.prefL
    rw [e, hr]
    rfl
  | true =>
    obtain ⟨e, _⟩ := cut_true h
    unfold N.prefL
    rw [e]
    by_cases hm : (47 : UInt8) ∈ b
    · have hn : N.numL b = -1 := num_bad hm (by decide)
      have hr : N.rightB (N.ipL a) (N.numL b) = false := by
        rw [hn]; unfold N.rightB; rw [decide_eq_false (show ¬ (0 : Int) ≤ -1 by omega), Bool.and_false, Bool.false_and, Bool.false_and]
      rw [hr]
      split
      · rename_i x y hxy
        injection hxy with h1 h2
        rcases N.index_cases b 47 with ⟨_, h3⟩ | ⟨i, _, _, h4, h5⟩
        · exact absurd hm h3
        · rw [N.split_hit h4 h5] at h2
          injection h2 with h2 h6
          exact absurd h6 (N.split_ne _ _)
      · rfl
    · rw [N.split_one hm]
theorem prefA_none {l : List UInt8} (h : N.prefL l = (-1, 0)) : prefA l = (0, 0, false) := by unfold prefA; rw [h]; rfl
theorem okA_two (z : Int) (h : z = -1 ∨ ∃ n : Nat, z = (n : Int)) : (okA z = (0, false) ∧ z = -1) ∨ (∃ n : Nat, z = (n : Int) ∧ okA z = ((n : Int), true)) := by
  rcases h with rfl | ⟨n, rfl⟩
  · exact .inl ⟨rfl, rfl⟩
  · exact .inr ⟨n, rfl, okA_nat n⟩
theorem not_right {n b : Int} (h : n < 0 ∨ b < 0 ∨ 32 < b) : N.rightB n b = false := by
  cases hr : N.rightB n b with
  | false => rfl
  | true => have := right_nums hr; omega
set_option maxRecDepth 100000 in
set_option maxHeartbeats 2000000 in
theorem pref_any10 (s : ByteArray) (n b : Int) (ok : Bool) (w : World) (hs : s.size ≤ 100) (hz : prefA s.data.toList = (n, b, ok)) : Calls Tryd.prog 15 #[.string s] w (fun e w' => e = .returned (.tuple #[.int .i64 n, .int .i64 b, .bool ok]) ∧ Below w.heap.size w w') := by
  have hsz : s.data.toList.length = s.size := by simp
  have HL := Lib.hid (show s.data.toList.length ≤ 100 by rw [hsz]; exact hs)
  have HZ := Lib.hid hz
  have hs2 : s.size ≤ 1073741824 := by omega
  clear hz hsz
  go_enter Tryd.func15, Tryd.ntmps15
  go_wp2_with fail
  refine (cut_any10 s 47 _ hs2).mono ?_
  rintro e w1 ⟨⟨x, y, f, rfl, hc⟩, hb1⟩
  have HAB := Lib.hid (hc.small HL.out)
  have HP := Lib.hid (pref_of hc)
  have HB1 := Lib.hid hb1
  have hxs : (sB x).size ≤ 100 := by rw [sB_size]; exact HAB.out.1
  have hys : (sB y).size ≤ 1073741824 := by rw [sB_size]; have := HAB.out.2; omega
  clear hb1 hc hs hs2
  rcases N.ip_cases x with hi | ⟨ni, hi, hi2, _⟩
  · have HI := Lib.hid (show okA (N.ipL (sB x).data.toList) = (0, false) by rw [sB_data, hi]; rfl)
    have HE := Lib.hid (show n = 0 ∧ b = 0 ∧ ok = false by
      have := HZ.out
      rw [prefA_none (by rw [HP.out, not_right (.inl (by omega)), if_neg (by decide)])] at this
      exact ⟨(congrArg Prod.fst this).symm, (congrArg (fun q => q.2.1) this).symm, (congrArg (fun q => q.2.2) this).symm⟩)
    obtain ⟨rfl, rfl, rfl⟩ := HE.out
    obtain ⟨zn, okn, hnum⟩ : ∃ zn okn, numA (sB y).data.toList 0 32 = (zn, okn) := ⟨_, _, rfl⟩
    have HNUM := Lib.hid hnum
    clear hi hnum
    go_wp2_with fail
    refine (ip_any10 (sB x) 0 false _ hxs HI.out).mono ?_
    rintro e w2 ⟨rfl, hx⟩
    have HB2 := Lib.hid (bthen HB1.out hx)
    clear hx
    go_wp2_with fail
    refine (num_any10 (sB y) 0 32 zn okn _ hys HNUM.out).mono ?_
    rintro e w3 ⟨rfl, rfl⟩
    go_wp2
    go_ret3
    exact ⟨rfl, HB2.out⟩
  · have HI := Lib.hid (show okA (N.ipL (sB x).data.toList) = ((ni : Int), true) by rw [sB_data, hi, okA_nat])
    rcases N.num_cases y with hn | ⟨k, hn, _, _⟩
    · have HNUM := Lib.hid (show numA (sB y).data.toList 0 32 = (0, false) by rw [sB_data]; unfold numA; rw [hn]; rfl)
      have HE := Lib.hid (show n = 0 ∧ b = 0 ∧ ok = false by
        have := HZ.out
        rw [prefA_none (by rw [HP.out, not_right (.inr (.inl (by omega))), if_neg (by decide)])] at this
        exact ⟨(congrArg Prod.fst this).symm, (congrArg (fun q => q.2.1) this).symm, (congrArg (fun q => q.2.2) this).symm⟩)
      obtain ⟨rfl, rfl, rfl⟩ := HE.out
      clear hi hi2 hn
      go_wp2_with fail
      refine (ip_any10 (sB x) (ni : Int) true _ hxs HI.out).mono ?_
      rintro e w2 ⟨rfl, hx⟩
      have HB2 := Lib.hid (bthen HB1.out hx)
      clear hx
      go_wp2_with fail
      refine (num_any10 (sB y) 0 32 0 false _ hys HNUM.out).mono ?_
      rintro e w3 ⟨rfl, rfl⟩
      go_wp2
      go_ret3
      exact ⟨rfl, HB2.out⟩
    · by_cases hk : k ≤ 32
      · have HNUM := Lib.hid (show numA (sB y).data.toList 0 32 = ((k : Int), true) by rw [sB_data]; unfold numA; rw [hn, if_pos (by omega)])
        obtain ⟨v, hv⟩ : ∃ v, N.rightB (ni : Int) (k : Int) = v := ⟨_, rfl⟩
        have HV := Lib.hid hv
        cases v with
        | false =>
          have HE := Lib.hid (show n = 0 ∧ b = 0 ∧ ok = false by
            have := HZ.out
            rw [prefA_none (by rw [HP.out, hi, hn, hv, if_neg (by decide)])] at this
            exact ⟨(congrArg Prod.fst this).symm, (congrArg (fun q => q.2.1) this).symm, (congrArg (fun q => q.2.2) this).symm⟩)
          obtain ⟨rfl, rfl, rfl⟩ := HE.out
          clear hi hi2 hn hv hk
          go_wp2_with fail
          refine (ip_any10 (sB x) (ni : Int) true _ hxs HI.out).mono ?_
          rintro e w2 ⟨rfl, hx⟩
          have HB2 := Lib.hid (bthen HB1.out hx)
          clear hx
          go_wp2_with fail
          refine (num_any10 (sB y) 0 32 (k : Int) true _ hys HNUM.out).mono ?_
          rintro e w3 ⟨rfl, rfl⟩
          go_wp2_with fail
          refine (prefix_any _ _ false _ HV.out).mono ?_
          rintro e w4 ⟨rfl, rfl⟩
          go_wp2
          go_ret3
          exact ⟨rfl, HB2.out⟩
        | true =>
          have HE := Lib.hid (show n = (ni : Int) ∧ b = (k : Int) ∧ ok = true by
            have := HZ.out
            unfold prefA at this
            rw [HP.out, hi, hn, hv, if_pos rfl, if_pos (show (0 : Int) ≤ (ni : Int) by omega)] at this
            exact ⟨(congrArg Prod.fst this).symm, (congrArg (fun q => q.2.1) this).symm, (congrArg (fun q => q.2.2) this).symm⟩)
          obtain ⟨rfl, rfl, rfl⟩ := HE.out
          clear hi hi2 hn hv hk
          go_wp2_with fail
          refine (ip_any10 (sB x) (ni : Int) true _ hxs HI.out).mono ?_
          rintro e w2 ⟨rfl, hx⟩
          have HB2 := Lib.hid (bthen HB1.out hx)
          clear hx
          go_wp2_with fail
          refine (num_any10 (sB y) 0 32 (k : Int) true _ hys HNUM.out).mono ?_
          rintro e w3 ⟨rfl, rfl⟩
          go_wp2_with fail
          refine (prefix_any _ _ true _ HV.out).mono ?_
          rintro e w4 ⟨rfl, rfl⟩
          go_wp2
          go_ret3
          exact ⟨rfl, HB2.out⟩
      · have HNUM := Lib.hid (show numA (sB y).data.toList 0 32 = (0, false) by rw [sB_data]; unfold numA; rw [hn, if_neg (by omega)])
        have HE := Lib.hid (show n = 0 ∧ b = 0 ∧ ok = false by
          have := HZ.out
          rw [prefA_none (by rw [HP.out, not_right (.inr (.inr (by omega))), if_neg (by decide)])] at this
          exact ⟨(congrArg Prod.fst this).symm, (congrArg (fun q => q.2.1) this).symm, (congrArg (fun q => q.2.2) this).symm⟩)
        obtain ⟨rfl, rfl, rfl⟩ := HE.out
        clear hi hi2 hn hk
        go_wp2_with fail
        refine (ip_any10 (sB x) (ni : Int) true _ hxs HI.out).mono ?_
        rintro e w2 ⟨rfl, hx⟩
        have HB2 := Lib.hid (bthen HB1.out hx)
        clear hx
        go_wp2_with fail
        refine (num_any10 (sB y) 0 32 0 false _ hys HNUM.out).mono ?_
        rintro e w3 ⟨rfl, rfl⟩
        go_wp2
        go_ret3
        exact ⟨rfl, HB2.out⟩
end Go.Proofs.YtgefbdckngejdaaDoor
