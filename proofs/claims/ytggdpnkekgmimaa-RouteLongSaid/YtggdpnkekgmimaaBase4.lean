/-
  Layer 10's code: IP, Prefix, MAC, In. Condition: texts of at most 100 bytes.
  Plain laws for layer 15's code: sides and rules as the code has them, what two cuts make of a Value, all rules of a host, by rising numbers. No conditions.
  The document's side of layer 10 (ferryslipref10), last: Prefix. Condition: texts of at most 2^30 bytes.
  Layer 15: what route does, as one premise (RouteOk); few; 'awake'. Conditions: at most 61 entries of words of at most 100 bytes.
  Rules in memory; the code's compare; slices.SortStableFunc at rules: all by rising numbers, those of one number as they stood. Condition: at most 80 rules.
  Contracts of the code's sideOf, takes and read. Condition: words of at most 100 bytes.
-/
import Derived.Test.YtggdpnkekgmimaaBase3
import Derived.Deep.RegionHeld3
import Derived.Deep.QuietTactic

namespace Go.Proofs.Ytggdpnkekgmimaa
open Go.RowKit
set_option linter.unusedVariables false

theorem numA_oct (l : List UInt8) : numA l 0 255 = okA (N.octL l) := by
  rcases N.num_cases l with h | ⟨n, h, _, _⟩
  · unfold numA okA N.octL; rw [h]; rfl
  · unfold numA N.octL
    rw [h]
    by_cases h2 : n ≤ 255
    · rw [if_pos (by omega), if_neg (by omega), okA_nat]
    · rw [if_neg (by omega), if_pos (by omega)]; rfl
theorem shl8C {n : Nat} (h : n < 16777216) : (n : Int) * 256 = ((256 * n : Nat) : Int) := by omega
theorem or8C {n b : Nat} (h : n < 16777216) (hb : b < 256) : Go.bits .or .i64 ((256 * n : Nat) : Int) (b : Int) = ((256 * n + b : Nat) : Int) := by
  have h1 : 256 * n + b < 9223372036854775808 := by omega
  exact N.or_low n b 8 256 rfl hb h1
theorem sv_is (s : ByteArray) : sB s.data.toList = s := ByteArray.ext (Array.ext' (by simp [sB]))
theorem acc_snocC (L : List (List UInt8)) (a : List UInt8) (n b : Nat) (h1 : N.accL N.octL L = (n : Int)) (h2 : N.octL a = (b : Int)) : N.accL N.octL (L ++ [a]) = ((256 * n + b : Nat) : Int) := by rw [N.acc_snoc, h1, h2]; omega
theorem acc_smallC (L : List (List UInt8)) (n : Nat) (hl : L.length ≤ 3) (hg : ∀ x ∈ L, 0 ≤ N.octL x) (h : N.accL N.octL L = (n : Int)) : n < 16777216 := by
  have := (N.acc_range N.octL (fun x => (N.oct_range x).2) 3 L hl hg).2
  rw [h] at this
  have e : ((256 ^ 3 : Nat) : Int) = 16777216 := rfl
  rw [e] at this
  omega
/-- How far the address is read. -/
structure IpAt (s : List UInt8) (g : Nat) (L : List (List UInt8)) (r : List UInt8) (n : Nat) : Prop where
  len : L.length + g = 4
  good : ∀ x ∈ L, 0 ≤ N.octL x
  sum : N.accL N.octL L = (n : Int)
  more : 0 < g → N.splitL 46 s = L ++ N.splitL 46 r
  done : g = 0 → N.splitL 46 s = L
theorem IpAt.start (s : List UInt8) : IpAt s 4 [] s 0 := ⟨rfl, (fun x hx => by cases hx), rfl, (fun _ => rfl), (fun h => by cases h)⟩
theorem IpAt.bad {s : List UInt8} {g n : Nat} {L : List (List UInt8)} {r a : List UInt8} {t : List (List UInt8)} (h : IpAt s g L r n) (hg : 0 < g) (e : N.splitL 46 r = a :: t) (hb : N.octL a < 0) : N.ipL s = -1 :=
  N.ip_bad (h.more hg) (x := a) (by rw [e]; simp) hb
theorem IpAt.wrong {s : List UInt8} {g n : Nat} {L : List (List UInt8)} {r : List UInt8} (h : IpAt s g L r n) (hg : 0 < g) (hl : (N.splitL 46 r).length ≠ g) : N.ipL s = -1 :=
  N.ip_len (h.more hg) (by rw [List.length_append]; have := h.len; omega)
theorem IpAt.next {s : List UInt8} {g n b : Nat} {L : List (List UInt8)} {r a r2 : List UInt8} (h : IpAt s (g + 1) L r n) (hb : N.octL a = (b : Int)) (e : (0 < g ∧ N.splitL 46 r = a :: N.splitL 46 r2) ∨ (g = 0 ∧ N.splitL 46 r = [a])) : IpAt s g (L ++ [a]) r2 (256 * n + b) where
  len := by rw [List.length_append, List.length_singleton]; have := h.len; omega
  good := fun x hx => by
    rcases List.mem_append.1 hx with hx | hx
    · exact h.good x hx
    · rw [List.mem_singleton.1 hx, hb]; omega
  sum := acc_snocC L a n b h.sum hb
  more := fun hg => by
    rcases e with ⟨_, e⟩ | ⟨e, _⟩
    · rw [h.more (by omega), e, List.append_assoc]; rfl
    · omega
  done := fun hg => by
    rcases e with ⟨e, _⟩ | ⟨_, e⟩
    · omega
    · rw [h.more (by omega), e]
theorem IpAt.all {s : List UInt8} {n : Nat} {L : List (List UInt8)} {r : List UInt8} (h : IpAt s 0 L r n) : N.ipL s = (n : Int) := by
  rw [N.ip_good (h.done rfl) (by have := h.len; omega) h.good, h.sum]
theorem cut_false {l a b : List UInt8} {c : UInt8} (h : CutIs c l a b false) : N.splitL c l = [a] ∧ a.length = l.length := by
  rcases h with ⟨_, rfl, _, h⟩ | ⟨h, _⟩
  · exact ⟨N.split_one h, rfl⟩
  · cases h
theorem cut_true {l a b : List UInt8} {c : UInt8} (h : CutIs c l a b true) : N.splitL c l = a :: N.splitL c b ∧ l.length = a.length + (b.length + 1) := by
  rcases h with ⟨h, _⟩ | ⟨_, rfl, h⟩
  · cases h
  · exact ⟨N.split_at h b, by rw [List.length_append, List.length_cons]⟩
theorem CutIs.small {l a b : List UInt8} {c : UInt8} {f : Bool} (h : CutIs c l a b f) (hl : l.length ≤ 100) : a.length ≤ 100 ∧ b.length ≤ 100 := by
  rcases h with ⟨_, rfl, rfl, _⟩ | ⟨_, rfl, _⟩
  · exact ⟨hl, Nat.zero_le _⟩
  · rw [List.length_append, List.length_cons] at hl; omega
theorem split_pos (c : UInt8) (l : List UInt8) : 1 ≤ (N.splitL c l).length := List.length_pos_iff.2 (N.split_ne c l)
theorem oct_two (a : List UInt8) : (okA (N.octL a) = (0, false) ∧ N.octL a < 0) ∨ (∃ b : Nat, okA (N.octL a) = ((b : Int), true) ∧ N.octL a = (b : Int) ∧ b < 256) := by
  rcases N.oct_cases a with h | ⟨b, h, h2, _⟩
  · exact .inl ⟨by rw [h]; rfl, by rw [h]; decide⟩
  · exact .inr ⟨b, by rw [h, okA_nat], h, h2⟩
set_option maxRecDepth 100000 in
set_option maxHeartbeats 4000000 in
theorem ip_any10 (s : ByteArray) (z : Int) (ok : Bool) (w : World) (hs : s.size ≤ 100) (hz : okA (N.ipL s.data.toList) = (z, ok)) : Calls Try.prog 32 #[.string s] w (fun e w' => e = .returned (.tuple #[.int .i64 z, .bool ok]) ∧ Below w.heap.size w w') := by
  have hsz : s.data.toList.length = s.size := by simp
  obtain ⟨l, hl⟩ : ∃ l, s.data.toList = l := ⟨_, rfl⟩
  have hll : l.length ≤ 100 := by rw [← hl, hsz]; exact hs
  have HS := Lib.hid (show s = sB l by rw [← hl, sv_is])
  rw [hl] at hz
  have HZ := Lib.hid hz
  clear hz hsz hl hs
  obtain rfl := HS.out
  go_enter Try.func32, Try.ntmps32
  go_wp2
  go_loopg [0, 4, 5] 4 (fun gk vs vn vl wr => ∃ (L : List (List UInt8)) (r : List UInt8) (n : Nat) (y : Int), Hid (y + 1 = (gk : Int)) ∧ vs = .string (sB r) ∧ vn = .int .i64 (n : Int) ∧ vl = .int .i64 y ∧ Hid (r.length ≤ 100) ∧ Hid (IpAt l gk L r n) ∧ Hid (n < 4294967296) ∧ Below w.heap.size w wr)
  case atStart => exact ⟨[], l, 0, 3, rfl, rfl, rfl, rfl, hll, IpAt.start l, (by show 0 < _; omega), Below.refl _ _⟩
  case round =>
    obtain ⟨L, r, n, y0, HY, rfl, rfl, rfl, HR, HI, HN, hbr⟩ := hrel
    by_cases hy : 0 ≤ y0
    · obtain ⟨y, rfl⟩ := Int.eq_ofNat_of_zero_le hy
      have c1 : decide ((0 : Int) ≤ (y : Int)) = true := decide_eq_true hy
      obtain rfl : y + 1 = gk := by have := HY.out; omega
      have hL3 : L.length ≤ 3 := by have := HI.out.len; omega
      have HN2 := Lib.hid (acc_smallC L n hL3 HI.out.good HI.out.sum)
      have hsr : (sB r).size ≤ 1073741824 := by rw [sB_size]; have := HR.out; omega
      clear hL3 hy
      go_wp2_with fail
      refine (cut_any10 (sB r) 46 _ hsr).mono ?_
      rintro e w1 ⟨⟨a, b, f, rfl, hc⟩, hb1⟩
      rw [sB_data] at hc
      have HAB := Lib.hid (hc.small HR.out)
      have HB1 := Lib.hid (bthen hbr hb1)
      have has : (sB a).size ≤ 1073741824 := by rw [sB_size]; have := HAB.out.1; omega
      clear hb1 hsr
      rcases oct_two a with ⟨hoa, hneg⟩ | ⟨d, hoa, hod, hd⟩
      · have HNUM := Lib.hid (show numA (sB a).data.toList 0 255 = (0, false) by rw [sB_data, numA_oct, hoa])
        have HE := Lib.hid (show z = 0 ∧ ok = false by
          have e : N.ipL l = -1 := by
            cases f with
            | false => exact HI.out.bad (by omega) (cut_false hc).1 hneg
            | true => exact HI.out.bad (by omega) (cut_true hc).1 hneg
          have := HZ.out
          rw [e] at this
          exact ⟨(congrArg Prod.fst this).symm, (congrArg Prod.snd this).symm⟩)
        clear hc hoa hneg
        obtain ⟨rfl, rfl⟩ := HE.out
        go_wp2_with fail
        refine (num_any10 (sB a) 0 255 0 false _ has HNUM.out).mono ?_
        rintro e w2 ⟨rfl, rfl⟩
        go_wp2
        go_ret2
        exact ⟨rfl, HB1.out⟩
      · have HNUM := Lib.hid (show numA (sB a).data.toList 0 255 = ((d : Int), true) by rw [sB_data, numA_oct, hoa])
        have HD := Lib.hid hd
        have HOD := Lib.hid hod
        have e8 := shl8C HN2.out
        have e9 := or8C HN2.out hd
        obtain ⟨m, hm⟩ : ∃ m, 256 * n = m := ⟨_, rfl⟩
        obtain ⟨n2, hn2⟩ : ∃ k, 256 * n + d = k := ⟨_, rfl⟩
        rw [hn2] at e9
        rw [hm] at e8 e9
        have HM := Lib.hid hn2
        have HMB := Lib.hid (show n2 < 4294967296 by have := HN2.out; omega)
        have hmb : m < 4294967296 := by have := HN2.out; omega
        clear hd hod hoa hm hn2
        by_cases hy0 : y = 0
        · subst hy0
          cases f with
          | true =>
            have HE := Lib.hid (show z = 0 ∧ ok = false by
              have e : N.ipL l = -1 := HI.out.wrong (by omega) (by rw [(cut_true hc).1, List.length_cons]; have := split_pos 46 b; omega)
              have := HZ.out
              rw [e] at this
              exact ⟨(congrArg Prod.fst this).symm, (congrArg Prod.snd this).symm⟩)
            clear hc
            obtain ⟨rfl, rfl⟩ := HE.out
            go_wp2_with fail
            refine (num_any10 (sB a) 0 255 (d : Int) true _ has HNUM.out).mono ?_
            rintro e w2 ⟨rfl, rfl⟩
            go_wp2
            go_ret2
            exact ⟨rfl, HB1.out⟩
          | false =>
            have HI2 := Lib.hid (show IpAt l 0 (L ++ [a]) b n2 by rw [← HM.out]; exact HI.out.next HOD.out (.inr ⟨rfl, (cut_false hc).1⟩))
            clear hc
            go_wp2_with fail
            refine (num_any10 (sB a) 0 255 (d : Int) true _ has HNUM.out).mono ?_
            rintro e w2 ⟨rfl, rfl⟩
            go_wp2
            go_roundg 0
            case rel => exact ⟨L ++ [a], b, n2, -1, (by show _ = _; rfl), by go_num, by go_num, by go_num, HAB.out.2, HI2.out, HMB.out, HB1.out⟩
            case measure => omega
        · have c2 : decide ((0 : Int) < (y : Int)) = true := decide_eq_true (by omega)
          have c2b : decide (0 < y) = true := decide_eq_true (by omega)
          cases f with
          | false =>
            have HE := Lib.hid (show z = 0 ∧ ok = false by
              have e : N.ipL l = -1 := HI.out.wrong (by omega) (by rw [(cut_false hc).1, List.length_singleton]; omega)
              have := HZ.out
              rw [e] at this
              exact ⟨(congrArg Prod.fst this).symm, (congrArg Prod.snd this).symm⟩)
            clear hc
            obtain ⟨rfl, rfl⟩ := HE.out
            go_wp2_with fail
            refine (num_any10 (sB a) 0 255 (d : Int) true _ has HNUM.out).mono ?_
            rintro e w2 ⟨rfl, rfl⟩
            go_wp2
            go_ret2
            exact ⟨rfl, HB1.out⟩
          | true =>
            have HI2 := Lib.hid (show IpAt l y (L ++ [a]) b n2 by rw [← HM.out]; exact HI.out.next HOD.out (.inl ⟨by omega, (cut_true hc).1⟩))
            obtain ⟨y1, hy1⟩ : ∃ k, y - 1 = k := ⟨_, rfl⟩
            have HYP := Lib.hid (show (y1 : Int) + 1 = (y : Int) by omega)
            have e7 : (y : Int) - 1 = (y1 : Int) := by omega
            have hy1b : y1 ≤ 4 := by have := HI.out.len; omega
            clear hy1
            clear hc
            go_wp2_with fail
            refine (num_any10 (sB a) 0 255 (d : Int) true _ has HNUM.out).mono ?_
            rintro e w2 ⟨rfl, rfl⟩
            go_wp2
            go_roundg y
            case rel => exact ⟨L ++ [a], b, n2, (y1 : Int), HYP.out, by go_num, by go_num, by go_num, HAB.out.2, HI2.out, HMB.out, HB1.out⟩
            case measure => omega
    · have c1 : decide ((0 : Int) ≤ y0) = false := decide_eq_false hy
      obtain rfl : gk = 0 := by have := HY.out; omega
      have HE := Lib.hid (show z = (n : Int) ∧ ok = true by
        have := HZ.out
        rw [HI.out.all, okA_nat] at this
        exact ⟨(congrArg Prod.fst this).symm, (congrArg Prod.snd this).symm⟩)
      obtain ⟨rfl, rfl⟩ := HE.out
      go_wp2
      go_ret2
      exact ⟨rfl, hbr⟩
set_option maxRecDepth 100000 in
set_option maxHeartbeats 2000000 in
theorem in_any10 (n bits ip : Int) (r : Bool) (w : World) (hn : I64 n) (hb : I64 bits) (hi : I64 ip) (hr : N.inB n bits ip = r) : Calls Try.prog 20 #[.int .i64 n, .int .i64 bits, .int .i64 ip] w (fun e w' => e = .returned (.bool r) ∧ Below w.heap.size w w') := by
  obtain ⟨q, hq⟩ : ∃ q, N.rightB n bits = q := ⟨_, rfl⟩
  have HQ := Lib.hid hq
  cases q with
  | false =>
    have HE := Lib.hid (show false = r by rw [← hr]; unfold N.inB; rw [hq]; rfl)
    clear hr hq hn hb hi
    go_enter Try.func20, Try.ntmps20
    go_wp2
    go_quiet (first | (go_at_call 34; exact Calls.quiet_of_same (calls_sym (isPref_any10 _ _ _ _ HQ.out))) | (go_at_call 35; exact Calls.quiet_of_same (calls_sym (belowIP 0 true _ rfl))))
    go_wp2
    go_ret
    exact ⟨by rw [← HE.out]; rfl, below_drawn10 (Below.refl _ _) _⟩
  | true =>
    obtain ⟨g1, g2, g3, g4⟩ := right_nums hq
    obtain ⟨v, hv⟩ : ∃ v, (decide (0 ≤ ip) && decide (ip < 4294967296)) = v := ⟨_, rfl⟩
    have HV := Lib.hid hv
    cases v with
    | false =>
      have HE := Lib.hid (show false = r by rw [← hr]; unfold N.inB; rw [hq, Bool.true_and, hv]; rfl)
      clear hr hq hn hb hi hv g1 g2 g3 g4
      go_enter Try.func20, Try.ntmps20
      go_wp2
      go_quiet (first | (go_at_call 34; exact Calls.quiet_of_same (calls_sym (isPref_any10 _ _ _ _ HQ.out))) | (go_at_call 35; exact Calls.quiet_of_same (calls_sym (belowIP _ _ _ HV.out))))
      go_wp2
      go_ret
      exact ⟨by rw [← HE.out]; rfl, below_drawn10 (Below.refl _ _) _⟩
    | true =>
      have hv2 := hv
      rw [Bool.and_eq_true, decide_eq_true_eq, decide_eq_true_eq] at hv2
      obtain ⟨nn, rfl⟩ := Int.eq_ofNat_of_zero_le g1
      obtain ⟨ii, rfl⟩ := Int.eq_ofNat_of_zero_le hv2.1
      obtain ⟨k, hk⟩ : ∃ k : Nat, (32 - bits).toNat = k := ⟨_, rfl⟩
      have hk2 : 32 - bits = (k : Int) := by omega
      have hk3 : k ≤ 32 := by omega
      obtain ⟨p, hp⟩ : ∃ p, 2 ^ k = p := ⟨_, rfl⟩
      obtain ⟨qi, hqi⟩ : ∃ q, ii / p = q := ⟨_, rfl⟩
      obtain ⟨qn, hqn⟩ : ∃ q, nn / p = q := ⟨_, rfl⟩
      have d1 : (ii : Int) / (2 : Int) ^ k = (qi : Int) := by rw [← hqi, ← hp, Int.natCast_ediv, Int.natCast_pow]; rfl
      have d2 : (nn : Int) / (2 : Int) ^ k = (qn : Int) := by rw [← hqn, ← hp, Int.natCast_ediv, Int.natCast_pow]; rfl
      have sb : IntKind.i64.wrap (32 - bits) = (k : Int) := by rw [hk2]; rw [IntKind.wrap_i64]; omega
      have HF := Lib.hid (show ((ii : Int) / 2 ^ min k 64 == (nn : Int) / 2 ^ min k 64) = r by
        rw [← hr, show min k 64 = k by omega, d1, d2]; unfold N.inB
        rw [hq, decide_eq_true hv2.1, decide_eq_true hv2.2, hk, hp]
        show _ = decide ((ii : Int) / (p : Int) = (nn : Int) / (p : Int))
        rw [← Int.natCast_ediv, ← Int.natCast_ediv, hqi, hqn, Bool.eq_iff_iff, decide_eq_true_eq, beq_iff_eq])
      clear d1 d2 hr hq hqi hqn hk hp hk2 hk3 hv hv2 hn hb hi g1 g2 g3 g4
      go_enter Try.func20, Try.ntmps20
      go_wp2
      go_quiet (first | (go_at_call 34; exact Calls.quiet_of_same (calls_sym (isPref_any10 _ _ _ _ HQ.out))) | (go_at_call 35; exact Calls.quiet_of_same (calls_sym (belowIP _ _ _ HV.out))))
      go_wp2
      go_ret
      exact ⟨by rw [← HF.out]; rfl, below_drawn10 (Below.refl _ _) _⟩
/-- The prefix of a text, from its cut. -/
theorem pref_of {l a b : List UInt8} {f : Bool} (h : CutIs 47 l a b f) : N.prefL l = if N.rightB (N.ipL a) (N.numL b) = true then (N.ipL a, N.numL b) else (-1, 0) := by
  cases f with
  | false =>
    obtain ⟨e, _⟩ := cut_false h
    obtain rfl : b = [] := by
      rcases h with ⟨_, _, e, _⟩ | ⟨e, _⟩
      · exact e
      · cases e
    have hn : N.numL [] = -1 := rfl
    have hr : N.rightB (N.ipL a) (N.numL []) = false := by
      rw [hn]; unfold N.rightB; rw [decide_eq_false (show ¬ (0 : Int) ≤ -1 by omega), Bool.and_false, Bool.false_and, Bool.false_and]
    unfold N.prefL
    rw [e, hr]
    rfl
  | true =>
    obtain ⟨e, _⟩ := cut_true h
    unfold N.prefL
    rw [e]
    by_cases hm : (47 : UInt8) ∈ b
    · have hn : N.numL b = -1 := num_bad hm (by decide)
      have hr : N.rightB (N.ipL a) (N.numL b) = false := by
        rw [hn]; unfold N.rightB; rw [decide_eq_false (show ¬ (0 : Int) ≤ -1 by omega), Bool.and_false, Bool.false_and, Bool.false_and]
      rw [hr]
      split
      · rename_i x y hxy
        injection hxy with h1 h2
        rcases N.index_cases b 47 with ⟨_, h3⟩ | ⟨i, _, _, h4, h5⟩
        · exact absurd hm h3
        · rw [N.split_hit h4 h5] at h2
          injection h2 with h2 h6
          exact absurd h6 (N.split_ne _ _)
      · rfl
    · rw [N.split_one hm]
theorem prefA_none {l : List UInt8} (h : N.prefL l = (-1, 0)) : prefA l = (0, 0, false) := by unfold prefA; rw [h]; rfl
theorem not_right {n b : Int} (h : n < 0 ∨ b < 0 ∨ 32 < b) : N.rightB n b = false := by
  cases hr : N.rightB n b with
  | false => rfl
  | true => have := right_nums hr; omega
set_option maxRecDepth 100000 in
set_option maxHeartbeats 2000000 in
theorem pref_any10 (s : ByteArray) (n b : Int) (ok : Bool) (w : World) (hs : s.size ≤ 100) (hz : prefA s.data.toList = (n, b, ok)) : Calls Try.prog 19 #[.string s] w (fun e w' => e = .returned (.tuple #[.int .i64 n, .int .i64 b, .bool ok]) ∧ Below w.heap.size w w') := by
  have hsz : s.data.toList.length = s.size := by simp
  have HL := Lib.hid (show s.data.toList.length ≤ 100 by rw [hsz]; exact hs)
  have HZ := Lib.hid hz
  have hs2 : s.size ≤ 1073741824 := by omega
  clear hz hsz
  go_enter Try.func19, Try.ntmps19
  go_wp2_with fail
  refine (cut_any10 s 47 _ hs2).mono ?_
  rintro e w1 ⟨⟨x, y, f, rfl, hc⟩, hb1⟩
  have HAB := Lib.hid (hc.small HL.out)
  have HP := Lib.hid (pref_of hc)
  have HB1 := Lib.hid hb1
  have hxs : (sB x).size ≤ 100 := by rw [sB_size]; exact HAB.out.1
  have hys : (sB y).size ≤ 1073741824 := by rw [sB_size]; have := HAB.out.2; omega
  clear hb1 hc hs hs2
  rcases N.ip_cases x with hi | ⟨ni, hi, hi2, _⟩
  · have HI := Lib.hid (show okA (N.ipL (sB x).data.toList) = (0, false) by rw [sB_data, hi]; rfl)
    have HE := Lib.hid (show n = 0 ∧ b = 0 ∧ ok = false by
      have := HZ.out
      rw [prefA_none (by rw [HP.out, not_right (.inl (by omega)), if_neg (by decide)])] at this
      exact ⟨(congrArg Prod.fst this).symm, (congrArg (fun q => q.2.1) this).symm, (congrArg (fun q => q.2.2) this).symm⟩)
    obtain ⟨rfl, rfl, rfl⟩ := HE.out
    obtain ⟨zn, okn, hnum⟩ : ∃ zn okn, numA (sB y).data.toList 0 32 = (zn, okn) := ⟨_, _, rfl⟩
    have HNUM := Lib.hid hnum
    clear hi hnum
    go_wp2_with fail
    refine (ip_any10 (sB x) 0 false _ hxs HI.out).mono ?_
    rintro e w2 ⟨rfl, hx⟩
    have HB2 := Lib.hid (bthen HB1.out hx)
    clear hx
    go_wp2_with fail
    refine (num_any10 (sB y) 0 32 zn okn _ hys HNUM.out).mono ?_
    rintro e w3 ⟨rfl, rfl⟩
    go_wp2
    go_ret3
    exact ⟨rfl, HB2.out⟩
  · have HI := Lib.hid (show okA (N.ipL (sB x).data.toList) = ((ni : Int), true) by rw [sB_data, hi, okA_nat])
    rcases N.num_cases y with hn | ⟨k, hn, _, _⟩
    · have HNUM := Lib.hid (show numA (sB y).data.toList 0 32 = (0, false) by rw [sB_data]; unfold numA; rw [hn]; rfl)
      have HE := Lib.hid (show n = 0 ∧ b = 0 ∧ ok = false by
        have := HZ.out
        rw [prefA_none (by rw [HP.out, not_right (.inr (.inl (by omega))), if_neg (by decide)])] at this
        exact ⟨(congrArg Prod.fst this).symm, (congrArg (fun q => q.2.1) this).symm, (congrArg (fun q => q.2.2) this).symm⟩)
      obtain ⟨rfl, rfl, rfl⟩ := HE.out
      clear hi hi2 hn
      go_wp2_with fail
      refine (ip_any10 (sB x) (ni : Int) true _ hxs HI.out).mono ?_
      rintro e w2 ⟨rfl, hx⟩
      have HB2 := Lib.hid (bthen HB1.out hx)
      clear hx
      go_wp2_with fail
      refine (num_any10 (sB y) 0 32 0 false _ hys HNUM.out).mono ?_
      rintro e w3 ⟨rfl, rfl⟩
      go_wp2
      go_ret3
      exact ⟨rfl, HB2.out⟩
    · by_cases hk : k ≤ 32
      · have HNUM := Lib.hid (show numA (sB y).data.toList 0 32 = ((k : Int), true) by rw [sB_data]; unfold numA; rw [hn, if_pos (by omega)])
        obtain ⟨v, hv⟩ : ∃ v, N.rightB (ni : Int) (k : Int) = v := ⟨_, rfl⟩
        have HV := Lib.hid hv
        cases v with
        | false =>
          have HE := Lib.hid (show n = 0 ∧ b = 0 ∧ ok = false by
            have := HZ.out
            rw [prefA_none (by rw [HP.out, hi, hn, hv, if_neg (by decide)])] at this
            exact ⟨(congrArg Prod.fst this).symm, (congrArg (fun q => q.2.1) this).symm, (congrArg (fun q => q.2.2) this).symm⟩)
          obtain ⟨rfl, rfl, rfl⟩ := HE.out
          clear hi hi2 hn hv hk
          go_wp2_with fail
          refine (ip_any10 (sB x) (ni : Int) true _ hxs HI.out).mono ?_
          rintro e w2 ⟨rfl, hx⟩
          have HB2 := Lib.hid (bthen HB1.out hx)
          clear hx
          go_wp2_with fail
          refine (num_any10 (sB y) 0 32 (k : Int) true _ hys HNUM.out).mono ?_
          rintro e w3 ⟨rfl, rfl⟩
          go_wp2_with fail
          refine (isPref_any10 _ _ false _ HV.out).mono ?_
          rintro e w4 ⟨rfl, rfl⟩
          go_wp2
          go_ret3
          exact ⟨rfl, HB2.out⟩
        | true =>
          have HE := Lib.hid (show n = (ni : Int) ∧ b = (k : Int) ∧ ok = true by
            have := HZ.out
            unfold prefA at this
            rw [HP.out, hi, hn, hv, if_pos rfl, if_pos (show (0 : Int) ≤ (ni : Int) by omega)] at this
            exact ⟨(congrArg Prod.fst this).symm, (congrArg (fun q => q.2.1) this).symm, (congrArg (fun q => q.2.2) this).symm⟩)
          obtain ⟨rfl, rfl, rfl⟩ := HE.out
          clear hi hi2 hn hv hk
          go_wp2_with fail
          refine (ip_any10 (sB x) (ni : Int) true _ hxs HI.out).mono ?_
          rintro e w2 ⟨rfl, hx⟩
          have HB2 := Lib.hid (bthen HB1.out hx)
          clear hx
          go_wp2_with fail
          refine (num_any10 (sB y) 0 32 (k : Int) true _ hys HNUM.out).mono ?_
          rintro e w3 ⟨rfl, rfl⟩
          go_wp2_with fail
          refine (isPref_any10 _ _ true _ HV.out).mono ?_
          rintro e w4 ⟨rfl, rfl⟩
          go_wp2
          go_ret3
          exact ⟨rfl, HB2.out⟩
      · have HNUM := Lib.hid (show numA (sB y).data.toList 0 32 = (0, false) by rw [sB_data]; unfold numA; rw [hn, if_neg (by omega)])
        have HE := Lib.hid (show n = 0 ∧ b = 0 ∧ ok = false by
          have := HZ.out
          rw [prefA_none (by rw [HP.out, not_right (.inr (.inr (by omega))), if_neg (by decide)])] at this
          exact ⟨(congrArg Prod.fst this).symm, (congrArg (fun q => q.2.1) this).symm, (congrArg (fun q => q.2.2) this).symm⟩)
        obtain ⟨rfl, rfl, rfl⟩ := HE.out
        clear hi hi2 hn hk
        go_wp2_with fail
        refine (ip_any10 (sB x) (ni : Int) true _ hxs HI.out).mono ?_
        rintro e w2 ⟨rfl, hx⟩
        have HB2 := Lib.hid (bthen HB1.out hx)
        clear hx
        go_wp2_with fail
        refine (num_any10 (sB y) 0 32 0 false _ hys HNUM.out).mono ?_
        rintro e w3 ⟨rfl, rfl⟩
        go_wp2
        go_ret3
        exact ⟨rfl, HB2.out⟩
end Go.Proofs.Ytggdpnkekgmimaa

namespace Go.Proofs.Ytggdpnkekgmimaa.O
open H (En)
set_option linter.unusedVariables false

structure Sd where
  any : Bool
  n : Int
  bits : Int
structure Ru where
  place : Nat
  num : Int
  perm : Bool
  f : Sd
  t : Sd
instance : Inhabited Ru := ⟨⟨0, 0, false, ⟨false, 0, 0⟩, ⟨false, 0, 0⟩⟩⟩
def sideC (w : Wd) : Sd × Bool := if w = H.wAny then (⟨true, 0, 0⟩, true) else (⟨false, (prefA w).1, (prefA w).2.1⟩, (prefA w).2.2)
def takesC (s : Sd) (ip : Int) : Bool := s.any || N.inB s.n s.bits ip
theorem side_ok (w : Wd) : (sideC w).2 = soundB w := by
  unfold sideC soundB prefA
  by_cases h : w = H.wAny
  · rw [if_pos h, decide_eq_true h]; rfl
  · rw [if_neg h, decide_eq_false h, Bool.false_or]
    by_cases k : 0 ≤ (N.prefL w).1
    · rw [if_pos k, decide_eq_true k]
    · rw [if_neg k, decide_eq_false k]
theorem side_takes {w : Wd} (h : soundB w = true) (ip : Int) : takesC (sideC w).1 ip = coverB w ip := by
  unfold takesC sideC coverB
  by_cases k : w = H.wAny
  · rw [if_pos k, decide_eq_true k]; rfl
  · rw [if_neg k, decide_eq_false k, Bool.false_or]
    unfold soundB at h
    rw [decide_eq_false k, Bool.false_or] at h
    have h2 := of_decide_eq_true h
    unfold prefA
    rw [if_pos h2, h, Bool.true_and]
    rfl
theorem sound_no {w : Wd} (h : soundB w = true) : (32 : UInt8) ∉ w ∧ w ≠ [] := by
  unfold soundB at h
  rw [Bool.or_eq_true, decide_eq_true_eq, decide_eq_true_eq] at h
  rcases h with rfl | h
  · exact ⟨by decide, by decide⟩
  · rcases N.pref_cases w with e | ⟨n, b, _, _, _, _, rfl⟩
    · rw [e] at h; exact absurd h (by decide)
    · constructor
      · unfold N.prefT
        intro hm
        rcases List.mem_append.1 hm with hm | hm
        · exact N.ip_no n (by decide) (by decide) hm
        · rcases List.mem_cons.1 hm with hm | hm
          · exact absurd hm (by decide)
          · exact N.dec_no b (by decide) hm
      · unfold N.prefT
        intro e
        have := congrArg List.length e
        simp at this
theorem cut_three {v a r b c : Wd} {f1 f2 : Bool} (h1 : CutIs 32 v a r f1) (h2 : CutIs 32 r b c f2) (hc : soundB c = true) : threeL v = some (a, b, c) := by
  obtain ⟨n1, n2⟩ := sound_no hc
  rcases h2 with ⟨_, _, e, _⟩ | ⟨_, e, hb⟩
  · exact absurd e n2
  · rcases h1 with ⟨_, _, e1, _⟩ | ⟨_, e1, ha⟩
    · rw [e1] at e
      have := congrArg List.length e
      simp at this
    · subst e1
      subst e
      unfold threeL
      rw [N.split_at ha, N.split_at hb, N.split_one n1]
theorem cut_back {v a r b c a' b' c' : Wd} {f1 f2 : Bool} (h1 : CutIs 32 v a r f1) (h2 : CutIs 32 r b c f2) (h : threeL v = some (a', b', c')) : a = a' ∧ b = b' ∧ c = c' := by
  have hs : N.splitL 32 v = [a', b', c'] := by
    unfold threeL at h
    split at h
    · rename_i x y z e
      injection h with h
      injection h with h3 h4
      injection h4 with h4 h5
      rw [e, h3, h4, h5]
    · cases h
  cases f1 with
  | false => rw [(cut_false h1).1] at hs; cases hs
  | true =>
    rw [(cut_true h1).1] at hs
    injection hs with e1 hs
    cases f2 with
    | false => rw [(cut_false h2).1] at hs; cases hs
    | true =>
      rw [(cut_true h2).1] at hs
      injection hs with e2 hs
      have := N.join_split 32 c
      rw [hs] at this
      exact ⟨e1, e2, this.symm⟩
/-- The number of a rule of this Key and this Value; 0: it is none. -/
def numV (key val : Wd) : Int := match threeL val with
  | none => 0
  | some (a, b, c) => if 1 ≤ N.numL key ∧ N.numL key ≤ 1000 ∧ (a = wPermit ∨ a = wDeny) ∧ soundB b = true ∧ soundB c = true then N.numL key else 0
theorem num_v (h : Wd) (e : En) : numE h e = if e.host = h ∧ e.kind = 5 then numV e.key e.val else 0 := by
  unfold numE numV
  cases threeL e.val with
  | none => simp
  | some p =>
    obtain ⟨a, b, c⟩ := p
    simp only []
    by_cases h1 : e.host = h
    · by_cases h2 : e.kind = 5
      · rw [if_pos (⟨h1, h2⟩ : e.host = h ∧ e.kind = 5)]
        by_cases k : 1 ≤ N.numL e.key ∧ N.numL e.key ≤ 1000 ∧ (a = wPermit ∨ a = wDeny) ∧ soundB b = true ∧ soundB c = true
        · rw [if_pos k, if_pos ⟨h1, h2, k⟩]
        · rw [if_neg k, if_neg fun q => k q.2.2]
      · rw [if_neg fun q => h2 q.2.1, if_neg fun q => h2 q.2]
    · rw [if_neg fun q => h1 q.1, if_neg fun q => h1 q.1]
theorem num_cut {key v a r b c : Wd} {f1 f2 : Bool} (h1 : CutIs 32 v a r f1) (h2 : CutIs 32 r b c f2) : numV key v = if 1 ≤ N.numL key ∧ N.numL key ≤ 1000 ∧ (a = wPermit ∨ a = wDeny) ∧ soundB b = true ∧ soundB c = true then N.numL key else 0 := by
  unfold numV
  cases h : threeL v with
  | none => rw [if_neg fun q => by rw [cut_three h1 h2 q.2.2.2.2] at h; cases h]
  | some p =>
    obtain ⟨a', b', c'⟩ := p
    obtain ⟨rfl, rfl, rfl⟩ := cut_back h1 h2 h
    rfl
/-- A rule, as the code has it. -/
def ruE (i : Nat) (e : En) : Ru := match threeL e.val with
  | none => ⟨i, 0, false, ⟨false, 0, 0⟩, ⟨false, 0, 0⟩⟩
  | some (a, b, c) => ⟨i, N.numL e.key, decide (a = wPermit), (sideC b).1, (sideC c).1⟩
def noRu : Ru := ⟨0, 0, false, ⟨false, 0, 0⟩, ⟨false, 0, 0⟩⟩
/-- What read makes of an entry. -/
def readE (e : En) : Ru × Bool := if 0 < numV e.key e.val then (ruE 0 e, true) else (noRu, false)
theorem read_yes {e : En} {a r b c : Wd} {f1 f2 : Bool} (h1 : CutIs 32 e.val a r f1) (h2 : CutIs 32 r b c f2) (k : 1 ≤ N.numL e.key ∧ N.numL e.key ≤ 1000) (ha : a = wPermit ∨ a = wDeny) (hb : soundB b = true) (hc : soundB c = true) : readE e = (⟨0, N.numL e.key, decide (a = wPermit), (sideC b).1, (sideC c).1⟩, true) := by
  have hv : numV e.key e.val = N.numL e.key := by rw [num_cut h1 h2, if_pos ⟨k.1, k.2, ha, hb, hc⟩]
  unfold readE
  rw [if_pos (by rw [hv]; omega)]
  unfold ruE
  rw [cut_three h1 h2 hc]
theorem read_no {e : En} {a r b c : Wd} {f1 f2 : Bool} (h1 : CutIs 32 e.val a r f1) (h2 : CutIs 32 r b c f2) (k : ¬ (1 ≤ N.numL e.key ∧ N.numL e.key ≤ 1000 ∧ (a = wPermit ∨ a = wDeny) ∧ soundB b = true ∧ soundB c = true)) : readE e = (noRu, false) := by
  unfold readE
  rw [num_cut h1 h2, if_neg k, if_neg (by omega)]
theorem numA_yes {k : Wd} {z : Int} (h : numA k 1 1000 = (z, true)) : 1 ≤ N.numL k ∧ N.numL k ≤ 1000 ∧ z = N.numL k := by
  unfold numA at h
  by_cases c : 0 ≤ N.numL k ∧ 1 ≤ N.numL k ∧ N.numL k ≤ 1000
  · rw [if_pos c] at h
    injection h with h _
    exact ⟨c.2.1, c.2.2, h.symm⟩
  · rw [if_neg c] at h
    injection h with _ h
    cases h
theorem numA_no {k : Wd} {z : Int} (h : numA k 1 1000 = (z, false)) : ¬ (1 ≤ N.numL k ∧ N.numL k ≤ 1000) := by
  unfold numA at h
  by_cases c : 0 ≤ N.numL k ∧ 1 ≤ N.numL k ∧ N.numL k ≤ 1000
  · rw [if_pos c] at h
    injection h with _ h
    cases h
  · exact fun q => c ⟨by omega, q.1, q.2⟩
def zEn : En := ⟨[], 0, [], []⟩
/-- All rules of a host among the first entries, as they stand. -/
def allR (l : List En) (h : Wd) (k : Nat) : List Ru := ((List.range k).filter fun i => decide (0 < numE h (l.getD i zEn))).map fun i => ruE i (l.getD i zEn)
theorem all_next (l : List En) (h : Wd) (k : Nat) : allR l h (k + 1) = if 0 < numE h (l.getD k zEn) then allR l h k ++ [ruE k (l.getD k zEn)] else allR l h k := by
  unfold allR
  rw [List.range_succ, List.filter_append, List.map_append]
  by_cases c : 0 < numE h (l.getD k zEn)
  · rw [if_pos c, List.filter_cons_of_pos (by simpa using c)]; rfl
  · rw [if_neg c, List.filter_cons_of_neg (by simpa using c)]; simp
theorem all_len (l : List En) (h : Wd) (k : Nat) : (allR l h k).length ≤ k := by
  unfold allR
  rw [List.length_map]
  exact Nat.le_trans (List.length_filter_le _ _) (by rw [List.length_range]; exact Nat.le_refl _)
theorem ru_place (i : Nat) (e : En) : (ruE i e).place = i := by
  unfold ruE
  cases threeL e.val with
  | none => rfl
  | some p => rfl
theorem ru_perm (i : Nat) (e : En) : (ruE i e).perm = grantB e := by
  unfold ruE grantB
  cases threeL e.val with
  | none => rfl
  | some p => rfl
theorem ru_num {h : Wd} {i : Nat} {e : En} (k : 0 < numE h e) : (ruE i e).num = numE h e := by
  rcases num_cases h e with c | ⟨a, b, d, e3, _, _, _, _, _, _, _, en⟩
  · omega
  · unfold ruE; rw [e3, en]
theorem ru_takes {h : Wd} {i : Nat} {e : En} (k : 0 < numE h e) (f t : Int) : (takesC (ruE i e).f f && takesC (ruE i e).t t) = takesB f t e := by
  rcases num_cases h e with c | ⟨a, b, d, e3, _, _, _, _, _, hb, hd, en⟩
  · omega
  · unfold ruE takesB
    rw [e3]
    simp only []
    rw [side_takes hb, side_takes hd]
theorem all_rise (l : List En) (h : Wd) (k : Nat) : (allR l h k).Pairwise fun x y => x.place < y.place := by
  unfold allR
  rw [List.pairwise_map]
  refine List.Pairwise.imp ?_ (List.Pairwise.filter _ List.pairwise_lt_range)
  intro a b hab
  rw [ru_place, ru_place]
  exact hab
/-- .. by rising numbers. -/
def ordR (l : List En) (h : Wd) : List Ru := (List.range 1000).flatMap fun k : Nat => ((List.range l.length).filter fun i => decide (numE h (l.getD i zEn) = (k : Int) + 1)).map fun i => ruE i (l.getD i zEn)
def LexR (x y : Ru) : Prop := x.num < y.num ∨ (x.num = y.num ∧ x.place < y.place)
theorem mem_ord {l : List En} {h : Wd} {x : Ru} : x ∈ ordR l h ↔ ∃ i, i < l.length ∧ 0 < numE h (l.getD i zEn) ∧ ruE i (l.getD i zEn) = x := by
  unfold ordR
  rw [List.mem_flatMap]
  constructor
  · rintro ⟨k, hk, hx⟩
    obtain ⟨i, hi, rfl⟩ := List.mem_map.1 hx
    obtain ⟨h1, h2⟩ := List.mem_filter.1 hi
    have := of_decide_eq_true h2
    exact ⟨i, List.mem_range.1 h1, by omega, rfl⟩
  · rintro ⟨i, hi, hn, rfl⟩
    have hr := num_range h (l.getD i zEn)
    exact ⟨(numE h (l.getD i zEn) - 1).toNat, List.mem_range.2 (by omega), List.mem_map.2 ⟨i, List.mem_filter.2 ⟨List.mem_range.2 hi, decide_eq_true (by omega)⟩, rfl⟩⟩
theorem mem_all {l : List En} {h : Wd} {k : Nat} {x : Ru} : x ∈ allR l h k ↔ ∃ i, i < k ∧ 0 < numE h (l.getD i zEn) ∧ ruE i (l.getD i zEn) = x := by
  unfold allR
  constructor
  · intro hx
    obtain ⟨i, hi, rfl⟩ := List.mem_map.1 hx
    obtain ⟨h1, h2⟩ := List.mem_filter.1 hi
    exact ⟨i, List.mem_range.1 h1, of_decide_eq_true h2, rfl⟩
  · rintro ⟨i, hi, hn, rfl⟩
    exact List.mem_map.2 ⟨i, List.mem_filter.2 ⟨List.mem_range.2 hi, decide_eq_true hn⟩, rfl⟩
theorem ord_lex (l : List En) (h : Wd) : (ordR l h).Pairwise LexR := by
  unfold ordR
  rw [List.pairwise_flatMap]
  refine ⟨fun k hk => ?_, List.Pairwise.imp ?_ List.pairwise_lt_range⟩
  · rw [List.pairwise_map]
    refine List.Pairwise.imp_of_mem ?_ (List.Pairwise.filter _ List.pairwise_lt_range)
    intro a b ha hb hab
    have h1 := of_decide_eq_true (List.mem_filter.1 ha).2
    have h2 := of_decide_eq_true (List.mem_filter.1 hb).2
    right
    rw [ru_place, ru_place, ru_num (h := h) (by omega), ru_num (h := h) (by omega)]
    exact ⟨by omega, hab⟩
  · intro k m hkm x hx y hy
    obtain ⟨i, hi, rfl⟩ := List.mem_map.1 hx
    obtain ⟨j, hj, rfl⟩ := List.mem_map.1 hy
    have h1 := of_decide_eq_true (List.mem_filter.1 hi).2
    have h2 := of_decide_eq_true (List.mem_filter.1 hj).2
    left
    rw [ru_num (h := h) (by omega), ru_num (h := h) (by omega)]
    omega
theorem ord_perm (l : List En) (h : Wd) : (ordR l h).Perm (allR l h l.length) := by
  refine (List.perm_ext_iff_of_nodup ?_ ?_).2 fun x => by rw [mem_ord, mem_all]
  · exact List.Pairwise.imp (fun {a b} hab e => by subst e; rcases hab with q | q <;> omega) (ord_lex l h)
  · exact List.Pairwise.imp (fun {a b} hab e => by subst e; omega) (all_rise l h l.length)
/-- In order, and the same ones: there is but one such row. -/
theorem ord_is {l : List En} {h : Wd} {s : List Ru} (hp : s.Perm (allR l h l.length)) (hs : s.Pairwise LexR) : s = ordR l h :=
  List.Perm.eq_of_pairwise (le := LexR) (fun a b _ _ h1 h2 => by rcases h1 with h1 | h1 <;> rcases h2 with h2 | h2 <;> omega) hs (ord_lex l h) (hp.trans (ord_perm l h).symm)
theorem ord_places (l : List En) (h : Wd) : (ordR l h).map (fun x => x.place) = rulesL l h := by
  unfold ordR rulesL
  rw [List.map_flatMap]
  congr 1
  funext k
  rw [List.map_map]
  have e : ((fun x : Ru => x.place) ∘ fun i => ruE i (l.getD i zEn)) = fun i => i := by funext i; exact ru_place i _
  rw [e, List.map_id']
  rfl
theorem find_at (l : List En) (p : En → Bool) : l.find? p = ((List.range l.length).find? fun i => p (l.getD i zEn)).map fun i => l.getD i zEn := by
  have e : l = (List.range l.length).map fun i => l.getD i zEn := by
    apply List.ext_getElem
    · simp
    · intro i h1 h2
      simp [List.getD_eq_getElem?_getD, List.getElem?_eq_getElem h1]
  conv => lhs; rw [e]
  rw [List.find?_map]
  rfl
/-- The first rule in order that takes a packet decides. -/
theorem ord_first (l : List En) (h : Wd) (f t : Int) : permB l h f t = match (ordR l h).find? (fun x => takesC x.f f && takesC x.t t) with | none => true | some x => x.perm := by
  obtain ⟨I, hI⟩ : ∃ I : Nat → Option Nat, I = fun k : Nat => (List.range l.length).find? fun i => decide (numE h (l.getD i zEn) = (k : Int) + 1) && takesB f t (l.getD i zEn) := ⟨_, rfl⟩
  have e1 : (fun k : Nat => l.find? fun e => decide (numE h e = (k : Int) + 1) && takesB f t e) = fun k => (I k).map fun i => l.getD i zEn := by
    funext k
    rw [find_at, hI]
  have e2 : (fun k : Nat => (((List.range l.length).filter fun i => decide (numE h (l.getD i zEn) = (k : Int) + 1)).map fun i => ruE i (l.getD i zEn)).find? fun x => takesC x.f f && takesC x.t t) = fun k => (I k).map fun i => ruE i (l.getD i zEn) := by
    funext k
    rw [List.find?_map, List.find?_filter, hI]
    congr 2
    funext i
    cases hn : decide (numE h (l.getD i zEn) = (k : Int) + 1) with
    | false => simp
    | true =>
      have := of_decide_eq_true hn
      have e := ru_takes (h := h) (i := i) (e := l.getD i zEn) (by omega) f t
      simp only [Function.comp, e, Bool.true_and]
      cases takesB f t (l.getD i zEn) <;> rfl
  unfold permB ordR
  rw [List.find?_flatMap, e1, e2]
  have c1 : (fun k => (I k).map fun i => l.getD i zEn) = (Option.map fun i => l.getD i zEn) ∘ I := rfl
  have c2 : (fun k => (I k).map fun i => ruE i (l.getD i zEn)) = (Option.map fun i => ruE i (l.getD i zEn)) ∘ I := rfl
  rw [c1, c2, ← List.map_findSome?, ← List.map_findSome?]
  cases (List.range 1000).findSome? I with
  | none => rfl
  | some i => exact (ru_perm i _).symm
theorem ru_same (i : Nat) (e : En) : ({ ruE 0 e with place := i } : Ru) = ruE i e := by
  unfold ruE
  cases threeL e.val with
  | none => rfl
  | some p => rfl
end Go.Proofs.Ytggdpnkekgmimaa.O

namespace Go.Proofs.Ytggdpnkekgmimaa
open Go.RowKit
set_option linter.unusedVariables false

theorem pref_other {s : List UInt8} {L : List (List UInt8)} (h : N.splitL 47 s = L) (hl : L.length ≠ 2) : N.prefL s = (-1, 0) := by
  unfold N.prefL
  rw [h]
  match L, hl with
  | [], _ => rfl
  | [_], _ => rfl
  | [_, _], hl => exact absurd rfl hl
  | _ :: _ :: _ :: _, _ => rfl
theorem ip_range10 (x : List UInt8) : -1 ≤ N.ipL x ∧ N.ipL x < 4294967296 := by
  rcases N.ip_cases x with h | ⟨n, h, hn, _⟩ <;> rw [h] <;> omega
theorem ipQ (x : List UInt8) (z : Int) (w : World) (hs : x.length ≤ 1073741824) (h : N.ipL x = z) : Calls Try.prog 24 #[.string (sB x)] w (fun e w' => e = .returned (.int .i64 z) ∧ Below w.heap.size w w') := by
  subst h; exact ipR (sB x) w (by rw [sB_size]; exact hs)
set_option maxRecDepth 100000 in
set_option maxHeartbeats 4000000 in
theorem prefR (s : ByteArray) (w : World) (hs : s.size ≤ 1073741824) : Calls Try.prog 13 #[.string s] w (fun e w' => e = .returned (.tuple #[.int .i64 (N.prefL s.data.toList).1, .int .i64 (N.prefL s.data.toList).2]) ∧ Below w.heap.size w w') := by
  obtain ⟨L, hL⟩ : ∃ L, N.splitL 47 s.data.toList = L := ⟨_, rfl⟩
  obtain ⟨r, hr⟩ : ∃ r, N.prefL s.data.toList = r := ⟨_, rfl⟩
  obtain ⟨r1, r2⟩ := r
  obtain ⟨m, hm⟩ : ∃ m, L.length = m := ⟨_, rfl⟩
  have hparts := partsR s 47 w hs
  rw [hL] at hparts
  rw [hr]
  have HEA := Lib.hid (show ∀ x ∈ L, x.length ≤ 1073741824 from fun x hx => by
    have h := split_mem (c := 47) (hL ▸ hx)
    have h2 : s.data.toList.length = s.size := by simp
    omega)
  have HL := Lib.hid hL
  have HR := Lib.hid hr
  have HM := Lib.hid hm
  clear hL hr
  show Calls _ _ _ _ (fun e w' => e = .returned (.tuple #[.int .i64 r1, .int .i64 r2]) ∧ Below w.heap.size w w')
  by_cases h4 : m = 2
  · have b4 : ((m : Int) != 2) = false := by simp; omega
    have H4 := Lib.hid h4
    obtain ⟨xa, xb, rfl⟩ : ∃ xa xb, L = [xa, xb] := by
      subst h4
      match L, hm with
      | [a, b], _ => exact ⟨a, b, rfl⟩
    clear h4 hm
    obtain ⟨z, hz⟩ : ∃ z, N.ipL xa = z := ⟨_, rfl⟩
    obtain ⟨k, hk⟩ : ∃ k, N.numL xb = k := ⟨_, rfl⟩
    obtain ⟨rr, hrr⟩ : ∃ rr, N.rightB z k = rr := ⟨_, rfl⟩
    have rz := ip_range10 xa
    have rk := N.num_ge xb
    rw [hz] at rz
    rw [hk] at rk
    have hsp : (if rr = true then (z, k) else ((-1 : Int), (0 : Int))) = (r1, r2) := by
      rw [← HR.out]
      unfold N.prefL
      rw [HL.out]
      show _ = if N.rightB (N.ipL xa) (N.numL xb) = true then (N.ipL xa, N.numL xb) else (-1, 0)
      rw [hz, hk, hrr]
    have HNO := Lib.hid (show rr = false → r1 = -1 ∧ r2 = 0 from fun h => by rw [h, if_neg (by decide)] at hsp; exact ⟨(congrArg Prod.fst hsp).symm, (congrArg Prod.snd hsp).symm⟩)
    have HYES := Lib.hid (show rr = true → r1 = z ∧ r2 = k from fun h => by rw [h, if_pos rfl] at hsp; exact ⟨(congrArg Prod.fst hsp).symm, (congrArg Prod.snd hsp).symm⟩)
    have HBD := Lib.hid (show rr = true → 0 ≤ z ∧ 0 ≤ k ∧ k ≤ 32 from fun h => by have h5 := right_nums (hrr.trans h); exact ⟨h5.1, h5.2.2.1, h5.2.2.2⟩)
    clear hsp
    have HZ := Lib.hid hz
    have HK := Lib.hid hk
    have HRR := Lib.hid hrr
    clear hz hk hrr
    go_enter Try.func13, Try.ntmps13
    go_wp2_with fail
    refine hparts.mono ?_
    rintro e w1 ⟨v1, rfl, hown, hx⟩
    obtain ⟨A1, c1, e1, hc1, hs1⟩ := hown.seen
    rw [HM.out] at e1 hc1
    subst e1
    obtain ⟨b, o, rfl, hb, hH⟩ := hs1 (by rw [HM.out, H4.out]; omega)
    obtain rfl : m = 2 := H4.out
    have z0 := hH.str (i := 0) (by show 0 < 2; omega)
    have z1 := hH.str (i := 1) (by show 1 < 2; omega)
    have HKP := Lib.hid (fun w' (h : Below w1.heap.size w1 w') => show w'.cell? ⟨b, o, none⟩ = some (.string (sB xa)) ∧ w'.cell? ⟨b, o + 1, none⟩ = some (.string (sB xb)) from ⟨(h.cell hb).trans z0, (h.cell hb).trans z1⟩)
    have HX := Lib.hid hx
    have HIP := Lib.hid (fun w' => ipQ xa z w' (HEA.out xa (by simp)) HZ.out)
    have HNU := Lib.hid (fun w' => numQ xb k w' (HEA.out xb (by simp)) HK.out)
    have hbd : Below w1.heap.size w1 w1.drew := (Below.refl _ _).drew
    clear hown hs1 hH hparts hx
    by_cases y1 : z < 0
    · have c1 : decide (z < 0) = true := decide_eq_true y1
      have hrf : rr = false := by cases hrc : rr with | false => rfl | true => exact absurd (HBD.out hrc).1 (by omega)
      clear y1
      have HE1 := Lib.hid (HNO.out hrf).1
      have HE2 := Lib.hid (HNO.out hrf).2
      clear hrf
      go_wp2
      go_region_held3 (fun w' => Below w1.heap.size w1 w' ∧ w'.cell? ⟨b, o, none⟩ = some (.string (sB xa)) ∧ w'.cell? ⟨b, o + 1, none⟩ = some (.string (sB xb))) (first | ((refine ⟨?_, HKP.out _ ?_⟩) <;> (first | assumption | (refine Below.drew ?_; assumption))) | go_keep) (first | (go_at_call 24; refine (HIP.out _).mono ?_; rintro e w' ⟨rfl, hx⟩; have hbx := bthen (show Below w1.heap.size w1 _ by assumption) hx) | (go_at_call 25; refine (HNU.out _).mono ?_; rintro e w' ⟨rfl, rfl⟩))
      all_goals go_wp2
      all_goals go_ret2
      all_goals exact ⟨by rw [show r1 = -1 from HE1.out, show r2 = 0 from HE2.out]; rfl, bthen HX.out (by first | assumption | (refine Below.drew ?_; assumption))⟩
    · have c1 : decide (z < 0) = false := decide_eq_false y1
      by_cases y2 : k < 0
      · have c2 : decide (k < 0) = true := decide_eq_true y2
        have hrf : rr = false := by cases hrc : rr with | false => rfl | true => exact absurd (HBD.out hrc).2.1 (by omega)
        clear y1 y2
        have HE1 := Lib.hid (HNO.out hrf).1
        have HE2 := Lib.hid (HNO.out hrf).2
        clear hrf
        go_wp2
        go_region_held3 (fun w' => Below w1.heap.size w1 w' ∧ w'.cell? ⟨b, o, none⟩ = some (.string (sB xa)) ∧ w'.cell? ⟨b, o + 1, none⟩ = some (.string (sB xb))) (first | ((refine ⟨?_, HKP.out _ ?_⟩) <;> (first | assumption | (refine Below.drew ?_; assumption))) | go_keep) (first | (go_at_call 24; refine (HIP.out _).mono ?_; rintro e w' ⟨rfl, hx⟩; have hbx := bthen (show Below w1.heap.size w1 _ by assumption) hx) | (go_at_call 25; refine (HNU.out _).mono ?_; rintro e w' ⟨rfl, rfl⟩))
        all_goals go_wp2
        all_goals go_ret2
        all_goals exact ⟨by rw [show r1 = -1 from HE1.out, show r2 = 0 from HE2.out]; rfl, bthen HX.out (by first | assumption | (refine Below.drew ?_; assumption))⟩
      · have c2 : decide (k < 0) = false := decide_eq_false y2
        by_cases y3 : 32 < k
        · have c3 : decide (32 < k) = true := decide_eq_true y3
          have hrf : rr = false := by cases hrc : rr with | false => rfl | true => exact absurd (HBD.out hrc).2.2 (by omega)
          clear y1 y2 y3
          have HE1 := Lib.hid (HNO.out hrf).1
          have HE2 := Lib.hid (HNO.out hrf).2
          clear hrf
          go_wp2
          go_region_held3 (fun w' => Below w1.heap.size w1 w' ∧ w'.cell? ⟨b, o, none⟩ = some (.string (sB xa)) ∧ w'.cell? ⟨b, o + 1, none⟩ = some (.string (sB xb))) (first | ((refine ⟨?_, HKP.out _ ?_⟩) <;> (first | assumption | (refine Below.drew ?_; assumption))) | go_keep) (first | (go_at_call 24; refine (HIP.out _).mono ?_; rintro e w' ⟨rfl, hx⟩; have hbx := bthen (show Below w1.heap.size w1 _ by assumption) hx) | (go_at_call 25; refine (HNU.out _).mono ?_; rintro e w' ⟨rfl, rfl⟩))
          all_goals go_wp2
          all_goals go_ret2
          all_goals exact ⟨by rw [show r1 = -1 from HE1.out, show r2 = 0 from HE2.out]; rfl, bthen HX.out (by first | assumption | (refine Below.drew ?_; assumption))⟩
        · have c3 : decide (32 < k) = false := decide_eq_false y3
          clear y1 y2 y3
          cases rr with
          | false =>
            have hrf : false = false := rfl
            have HE1 := Lib.hid (HNO.out hrf).1
            have HE2 := Lib.hid (HNO.out hrf).2
            clear hrf
            go_wp2
            go_region_held3 (fun w' => Below w1.heap.size w1 w' ∧ w'.cell? ⟨b, o, none⟩ = some (.string (sB xa)) ∧ w'.cell? ⟨b, o + 1, none⟩ = some (.string (sB xb))) (first | ((refine ⟨?_, HKP.out _ ?_⟩) <;> (first | assumption | (refine Below.drew ?_; assumption))) | go_keep) (first | (go_at_call 24; refine (HIP.out _).mono ?_; rintro e w' ⟨rfl, hx⟩; have hbx := bthen (show Below w1.heap.size w1 _ by assumption) hx) | (go_at_call 25; refine (HNU.out _).mono ?_; rintro e w' ⟨rfl, rfl⟩))
            all_goals go_wp2_with fail
            all_goals (refine (rightQ10 z k _ _ HRR.out).mono ?_; rintro e w' ⟨rfl, rfl⟩)
            all_goals go_wp2
            all_goals go_ret2
            all_goals exact ⟨by rw [show r1 = -1 from HE1.out, show r2 = 0 from HE2.out]; rfl, bthen HX.out (by first | assumption | (refine Below.drew ?_; assumption))⟩
          | true =>
            have HE1 := Lib.hid (HYES.out rfl).1
            have HE2 := Lib.hid (HYES.out rfl).2
            go_wp2
            go_region_held3 (fun w' => Below w1.heap.size w1 w' ∧ w'.cell? ⟨b, o, none⟩ = some (.string (sB xa)) ∧ w'.cell? ⟨b, o + 1, none⟩ = some (.string (sB xb))) (first | ((refine ⟨?_, HKP.out _ ?_⟩) <;> (first | assumption | (refine Below.drew ?_; assumption))) | go_keep) (first | (go_at_call 24; refine (HIP.out _).mono ?_; rintro e w' ⟨rfl, hx⟩; have hbx := bthen (show Below w1.heap.size w1 _ by assumption) hx) | (go_at_call 25; refine (HNU.out _).mono ?_; rintro e w' ⟨rfl, rfl⟩))
            all_goals go_wp2_with fail
            all_goals (refine (rightQ10 z k _ _ HRR.out).mono ?_; rintro e w' ⟨rfl, rfl⟩)
            all_goals go_wp2
            all_goals go_ret2
            all_goals exact ⟨by rw [show r1 = z from HE1.out, show r2 = k from HE2.out]; rfl, bthen HX.out (by first | assumption | (refine Below.drew ?_; assumption))⟩
  · have b4 : ((m : Int) != 2) = true := by simp; omega
    have HE := Lib.hid (show (r1, r2) = ((-1 : Int), (0 : Int)) by rw [← HR.out]; exact pref_other HL.out (by rw [hm]; exact h4))
    have HE1 := Lib.hid (congrArg Prod.fst HE.out)
    have HE2 := Lib.hid (congrArg Prod.snd HE.out)
    clear h4 hm
    go_enter Try.func13, Try.ntmps13
    go_wp2_with fail
    refine hparts.mono ?_
    rintro e w1 ⟨v1, rfl, hown, hx⟩
    obtain ⟨A1, c1, e1, hc1, hs1⟩ := hown.seen
    rw [HM.out] at e1 hc1
    subst e1
    clear hown hs1 hparts
    go_wp2
    go_ret2
    exact ⟨by rw [show r1 = -1 from HE1.out, show r2 = 0 from HE2.out]; rfl, hx⟩
end Go.Proofs.Ytggdpnkekgmimaa

namespace Go.Proofs.Ytggdpnkekgmimaa
open Go.RowKit
set_option linter.unusedVariables false
set_option linter.unusedSimpArgs false

/-- An entry of words of at most 100 bytes. -/
def Fit15 (x : H.En) : Prop := x.host.length ≤ 100 ∧ x.key.length ≤ 100 ∧ x.val.length ≤ 100
instance (x : H.En) : Decidable (Fit15 x) := by unfold Fit15; infer_instance
/-- Entries that are handed over. -/
structure EArg (w : World) (A : Option Addr) (c n : Nat) (l : List H.En) : Prop where
  len : l.length = n
  most : n ≤ 61
  fits : ∀ x ∈ l, Fit15 x
  cap : n ≤ c
  seen : Seen eEc w A l
theorem earg_below {w w1 : World} {A : Option Addr} {c n : Nat} {l : List H.En} (h : EArg w A c n l) (hb : Below w.heap.size w w1) : EArg w1 A c n l := ⟨h.len, h.most, h.fits, h.cap, h.seen.below hb⟩
def Int64 (n : Int) : Prop := -9223372036854775808 ≤ n ∧ n ≤ 9223372036854775807
/-- What route does. -/
structure RouteOk : Prop where
  lookupOf : ∀ (A : Option Addr) (c n : Nat) (l : List H.En) (h : List UInt8) (ip : Int) (s : List UInt8) (b : Bool) (w : World), EArg w A c n l → h.length ≤ 100 → Int64 ip → O.lookS l h ip = s → O.lookB l h ip = b → Calls Try.prog 11 #[.slice A n c, .string (sB h), .int .i64 ip] w (fun e w' => e = .returned (.tuple #[.string (sB s), .bool b]) ∧ Below w.heap.size w w')
  rulesOf : ∀ (A : Option Addr) (c n m : Nat) (l : List H.En) (h : List UInt8) (R : List Nat) (w : World), EArg w A c n l → h.length ≤ 100 → O.rulesL l h = R → R.length = m → Calls Try.prog 15 #[.slice A n c, .string (sB h)] w (fun e w' => ∃ B d, e = .returned (.slice B m d) ∧ m ≤ d ∧ Seen eI w' B R ∧ Below w.heap.size w w')
  permitOf : ∀ (A : Option Addr) (c n : Nat) (l : List H.En) (h : List UInt8) (f t : Int) (b : Bool) (w : World), EArg w A c n l → h.length ≤ 100 → Int64 f → Int64 t → O.permB l h f t = b → Calls Try.prog 12 #[.slice A n c, .string (sB h), .int .i64 f, .int .i64 t] w (fun e w' => e = .returned (.bool b) ∧ Below w.heap.size w w')
set_option maxRecDepth 100000 in
set_option maxHeartbeats 8000000 in
theorem few15 (A : Option Addr) (c n : Nat) (l : List H.En) (w : World) (hn : l.length = n) (hA : Seen eEc w A l) (hl : n ≤ 9223372036854775807) :
    Calls Try.prog 9 #[.slice A n c] w (fun e w' => ∃ b : Bool, e = .returned (.bool b) ∧ (b = true → n ≤ 60 ∧ ∀ x ∈ l, Fit15 x) ∧ Below w.heap.size w w') := by
  have HA := Lib.hid hA
  have HN := Lib.hid hn
  clear hA hn
  go_enter Try.func9, Try.ntmps9
  go_wp2
  go_loopg [3, 4, 7] n (fun g v3 v4 vi wr => ∃ k : Nat, Hid (k + g = n) ∧ vi = .int .i64 (k : Int) ∧ Hid (∀ j (h : j < l.length), j < k → j < 60 → Fit15 l[j]) ∧ Hid (Below w.heap.size w wr))
  case atStart => exact ⟨0, Nat.zero_add _, rfl, (fun j h h2 => absurd h2 (Nat.not_lt_zero j)), Below.refl _ _⟩
  case round =>
    obtain ⟨k, HG, rfl, HF, HB⟩ := hrel
    have hgk := HG.out
    by_cases hlt : k < n
    · have blt : decide ((k : Int) < (n : Int)) = true := decide_eq_true (by omega)
      have blt2 : decide (k < n) = true := decide_eq_true hlt
      have hkz : (k : Int) < (n : Int) := by omega
      have hkl : k < l.length := by rw [HN.out]; exact hlt
      obtain ⟨b, o, rfl, hwb, hL⟩ := HA.out (by omega)
      obtain ⟨l0, l1, l2, l3⟩ := (hL.below HB.out hwb).entry rfl rfl hkl
      have HNX := Lib.hid (fun (hf : k < 60 → Fit15 l[k]) => show ∀ j (h : j < l.length), j < k + 1 → j < 60 → Fit15 l[j] from fun j h h2 h3 => by
        rcases Nat.lt_or_ge j k with h4 | h4
        · exact HF.out j h h4 h3
        · obtain rfl : j = k := by omega
          exact hf h3)
      generalize l[k] = x at l0 l1 l2 l3 HNX
      obtain ⟨xh, xk, xy, xv⟩ := x
      simp only at l0 l1 l2 l3
      obtain ⟨y0, y1, y2, y3⟩ := (ent_laid wr xh xk xy xv).cells
      have HUP := Lib.hid (HB.out.trans ((up wr (.cells #[.string (sB xh), .int .i64 xk, .string (sB xy), .string (sB xv)] 26)).mono HB.out.size))
      clear hL
      by_cases h60 : k < 60
      · have c1 : decide ((k : Int) < 60) = true := decide_eq_true (by omega)
        have c2 : decide (k < 60) = true := decide_eq_true h60
        by_cases f1 : xh.length ≤ 100
        · have g1 := long_no f1
          by_cases f2 : xy.length ≤ 100
          · have g2 := long_no f2
            by_cases f3 : xv.length ≤ 100
            · have g3 := long_no f3
              have HN2 := Lib.hid (HNX.out fun _ => ⟨f1, f2, f3⟩)
              clear f1 f2 f3
              go_wp2
              go_roundg (n - (k + 1))
              case rel => exact ⟨k + 1, (by show _ = _; omega), by go_num, HN2.out, HUP.out⟩
              case measure => omega
            · have g3 := long_yes f3
              clear f1 f2 f3
              go_wp2
              go_ret
              exact ⟨false, rfl, (fun h => by cases h), HUP.out⟩
          · have g2 := long_yes f2
            clear f1 f2
            go_wp2
            go_ret
            exact ⟨false, rfl, (fun h => by cases h), HUP.out⟩
        · have g1 := long_yes f1
          clear f1
          go_wp2
          go_ret
          exact ⟨false, rfl, (fun h => by cases h), HUP.out⟩
      · have c1 : decide ((k : Int) < 60) = false := decide_eq_false (by omega)
        have c2 : decide (k < 60) = false := decide_eq_false h60
        have HN2 := Lib.hid (HNX.out fun h => absurd h h60)
        go_wp2
        go_roundg (n - (k + 1))
        case rel => exact ⟨k + 1, (by show _ = _; omega), by go_num, HN2.out, HUP.out⟩
        case measure => omega
    · have blt : decide ((k : Int) < (n : Int)) = false := decide_eq_false (by omega)
      have blt2 : decide (k < n) = false := decide_eq_false hlt
      by_cases h60 : n ≤ 60
      · have c1 : decide ((n : Int) ≤ 60) = true := decide_eq_true (by omega)
        have c2 : decide (n ≤ 60) = true := decide_eq_true h60
        have HFA := Lib.hid (show ∀ x ∈ l, Fit15 x by
          intro x hx
          obtain ⟨j, hj, rfl⟩ := List.getElem_of_mem hx
          have := HN.out
          exact HF.out j hj (by omega) (by omega))
        go_wp2
        go_ret
        exact ⟨true, rfl, (fun _ => ⟨h60, HFA.out⟩), HB.out⟩
      · have c1 : decide ((n : Int) ≤ 60) = false := decide_eq_false (by omega)
        have c2 : decide (n ≤ 60) = false := decide_eq_false h60
        go_wp2
        go_ret
        exact ⟨false, rfl, (fun h => by cases h), HB.out⟩
def aw15 : List H.En := [⟨[97], 4, [48, 46, 48, 46, 48, 46, 48, 47, 48], [120]⟩, ⟨[97], 4, [49, 48, 46, 48, 46, 48, 46, 48, 47, 56], [121]⟩, ⟨[97], 5, [57], [112, 101, 114, 109, 105, 116, 32, 97, 110, 121, 32, 97, 110, 121]⟩, ⟨[97], 5, [53], [100, 101, 110, 121, 32, 49, 48, 46, 48, 46, 48, 46, 48, 47, 56, 32, 97, 110, 121]⟩]
theorem aw15_s : O.lookS aw15 [97] 167772161 = [121] := by decide +kernel
theorem aw15_b : O.lookB aw15 [97] 167772161 = true := by decide +kernel
theorem aw15_s2 : O.lookS aw15 [98] 5 = [] := by decide +kernel
theorem aw15_b2 : O.lookB aw15 [98] 5 = false := by decide +kernel
theorem aw15_r : O.rulesL aw15 [97] = [3, 2] := by decide +kernel
theorem aw15_p : O.permB aw15 [97] 167772160 1 = false := by decide +kernel
theorem aw15_q : O.permB aw15 [97] 1 167772160 = true := by decide +kernel
theorem aw15_fit : ∀ x ∈ aw15, Fit15 x := by decide
end Go.Proofs.Ytggdpnkekgmimaa

namespace Go.Proofs.Ytggdpnkekgmimaa
open Go.Shelf Go.RowKit
set_option linter.unusedVariables false
set_option linter.unusedSimpArgs false

def ruC (x : O.Ru) : List Value := [.int .i64 x.place, .int .i64 x.num, .bool x.perm, .bool x.f.any, .int .i64 x.f.n, .int .i64 x.f.bits, .bool x.t.any, .int .i64 x.t.n, .int .i64 x.t.bits]
def ruV (x : O.Ru) : Value := .agg #[.int .i64 x.place, .int .i64 x.num, .bool x.perm, .bool x.f.any, .int .i64 x.f.n, .int .i64 x.f.bits, .bool x.t.any, .int .i64 x.t.n, .int .i64 x.t.bits]
def sdV (x : O.Sd) : Value := .agg #[.bool x.any, .int .i64 x.n, .int .i64 x.bits]
theorem ruC_one (x : O.Ru) (u : Value) (hu : u ∈ ruC x) : u.oneCell' = true := by
  simp [ruC] at hu
  rcases hu with rfl | rfl | rfl | rfl | rfl | rfl | rfl | rfl | rfl <;> rfl
def eRu : Elem O.Ru where
  st := 46
  T := 51
  sz := 9
  zero := .agg #[.int .i64 0, .int .i64 0, .bool false, .bool false, .int .i64 0, .int .i64 0, .bool false, .int .i64 0, .int .i64 0]
  by_ := 72
  C := ruC
  hst := Try.underlying46
  hin := by kernel_rfl
  hzs := rfl
  hsz := by decide
  hby := by decide
  len := fun _ => rfl
  one := ruC_one
/-- The nine cells of a rule. -/
theorem Holds.ruled {w : World} {b o : Nat} {l : List O.Ru} (h : Holds eRu w b o l) {i : Nat} (hi : i < l.length) :
    w.cell? ⟨b, o + i * 9, none⟩ = some (.int .i64 l[i].place) ∧ w.cell? ⟨b, o + i * 9 + 1, none⟩ = some (.int .i64 l[i].num) ∧ w.cell? ⟨b, o + i * 9 + 2, none⟩ = some (.bool l[i].perm) ∧ w.cell? ⟨b, o + i * 9 + 3, none⟩ = some (.bool l[i].f.any) ∧ w.cell? ⟨b, o + i * 9 + 4, none⟩ = some (.int .i64 l[i].f.n) ∧ w.cell? ⟨b, o + i * 9 + 5, none⟩ = some (.int .i64 l[i].f.bits) ∧ w.cell? ⟨b, o + i * 9 + 6, none⟩ = some (.bool l[i].t.any) ∧ w.cell? ⟨b, o + i * 9 + 7, none⟩ = some (.int .i64 l[i].t.n) ∧ w.cell? ⟨b, o + i * 9 + 8, none⟩ = some (.int .i64 l[i].t.bits) := by
  have e : ∀ j u, (ruC l[i])[j]? = some u → w.cell? ⟨b, o + i * 9 + j, none⟩ = some u := fun j u hu => h i hi j u hu
  exact ⟨e 0 _ rfl, e 1 _ rfl, e 2 _ rfl, e 3 _ rfl, e 4 _ rfl, e 5 _ rfl, e 6 _ rfl, e 7 _ rfl, e 8 _ rfl⟩
-- COMPARE
def cmpZ (a b : Int) : Int := if a < b then -1 else if b < a then 1 else 0
theorem nan15 (k : Int) (w : World) : Calls Try.prog 44 #[.int .i64 k] w (fun e w' => e = .returned (.bool false) ∧ w = w') := by
  go_enter Try.func44, Try.ntmps44
  go_wp2
  go_ret
  exact ⟨rfl, rfl⟩
theorem cmp15 (a b r : Int) (w : World) (h : cmpZ a b = r) : Calls Try.prog 39 #[.int .i64 a, .int .i64 b] w (fun e w' => e = .returned (.int .i64 r) ∧ w' = w) := by
  by_cases h1 : a < b
  · have e : -1 = r := by rw [← h]; exact (if_pos h1).symm
    have b1 : decide (a < b) = true := decide_eq_true h1
    subst e
    clear h1 h
    go_enter Try.func39, Try.ntmps39
    go_wp2_with fail
    refine (nan15 _ _).mono ?_
    rintro e w1 ⟨rfl, rfl⟩
    go_wp2_with fail
    refine (nan15 _ _).mono ?_
    rintro e w1 ⟨rfl, rfl⟩
    go_wp2
    go_ret
    exact ⟨rfl, rfl⟩
  · have b1 : decide (a < b) = false := decide_eq_false h1
    by_cases h2 : b < a
    · have e : 1 = r := by rw [← h]; unfold cmpZ; rw [if_neg h1, if_pos h2]
      have b2 : decide (b < a) = true := decide_eq_true h2
      subst e
      clear h1 h2 h
      go_enter Try.func39, Try.ntmps39
      go_wp2_with fail
      refine (nan15 _ _).mono ?_
      rintro e w1 ⟨rfl, rfl⟩
      go_wp2_with fail
      refine (nan15 _ _).mono ?_
      rintro e w1 ⟨rfl, rfl⟩
      go_wp2
      go_ret
      exact ⟨rfl, rfl⟩
    · have e : 0 = r := by rw [← h]; unfold cmpZ; rw [if_neg h1, if_neg h2]
      have b2 : decide (b < a) = false := decide_eq_false h2
      subst e
      clear h1 h2 h
      go_enter Try.func39, Try.ntmps39
      go_wp2_with fail
      refine (nan15 _ _).mono ?_
      rintro e w1 ⟨rfl, rfl⟩
      go_wp2_with fail
      refine (nan15 _ _).mono ?_
      rintro e w1 ⟨rfl, rfl⟩
      go_wp2
      go_ret
      exact ⟨rfl, rfl⟩
def cfR (x y : O.Ru) : Int := cmpZ x.num y.num
theorem two_grow (w : World) (o p : Obj) : (w.alloc o).alloc p = Go.Sort.grow (w.drewN 0) (#[o] ++ #[p]) := by
  rw [Go.Sort.alloc_eq_grow, Go.Sort.alloc_eq_grow, Go.Sort.grow_grow]
  rfl
theorem cmpRu (x y : O.Ru) (w : World) : Calls Try.prog 38 #[ruV x, ruV y] w (fun e w' => e = .returned (.int .i64 (cfR x y)) ∧ ∃ q os, w' = Go.Sort.grow (w.drewN q) os) := by
  obtain ⟨p, n, k, ⟨fa, fn, fb⟩, ta, tn, tb⟩ := x
  obtain ⟨p2, n2, k2, ⟨fa2, fn2, fb2⟩, ta2, tn2, tb2⟩ := y
  obtain ⟨r, hr⟩ : ∃ r, cmpZ n n2 = r := ⟨_, rfl⟩
  have HR := Lib.hid hr
  show Calls Try.prog _ _ w (fun e w' => e = .returned (.int .i64 (cmpZ n n2)) ∧ _)
  rw [hr]
  clear hr
  unfold ruV
  go_enter Try.func38, Try.ntmps38
  go_wp2_with fail
  refine (cmp15 _ _ r _ HR.out).mono ?_
  rintro e w1 ⟨rfl, rfl⟩
  go_wp2
  go_ret
  exact ⟨rfl, 0, _, two_grow _ _ _⟩
theorem ltR (x y : O.Ru) : ltOf cfR x y = decide (x.num < y.num) := by
  unfold ltOf cfR cmpZ
  by_cases h : x.num < y.num
  · rw [if_pos h, decide_eq_true h]; rfl
  · rw [if_neg h, decide_eq_false h]
    by_cases k : y.num < x.num
    · rw [if_pos k]; rfl
    · rw [if_neg k]; rfl
theorem swoR : Go.Sort.SWO (ltOf cfR) := by
  refine ⟨fun x => ?_, fun x y z h1 h2 => ?_, fun x y z h1 h2 => ?_⟩
  · rw [ltR]; exact decide_eq_false (Int.lt_irrefl _)
  · rw [ltR, decide_eq_true_eq] at *
    omega
  · rw [ltR, decide_eq_false_iff_not] at *
    omega
theorem laysR (w : World) (g n : Nat) : CmpLays Try.prog 38 #[] ruC 9 cfR g 0 n w := fun m os dk _ x y => cmpRu x y _
set_option maxRecDepth 100000 in
theorem tyR : TyS Try.prog 9 := {
  mixed := by kernel_rfl
  t0 := Try.underlying0
  a0 := Try.isAgg0
  z0 := Try.sizeOf0
  v0 := Try.zeroValue0
  t3 := Try.underlying3
  a3 := Try.isAgg3
  z3 := Try.sizeOf3
  v3 := Try.zeroValue3
  t4 := Try.underlying4
  a4 := Try.isAgg4
  z4 := Try.sizeOf4
  v4 := Try.zeroValue4
  t22 := Try.underlying46
  a22 := Try.isAgg46
  z22 := Try.sizeOf46
  v22 := Try.zeroValue46
  t25 := Try.underlying71
  a25 := Try.isAgg71
  z25 := Try.sizeOf71
  v25 := Try.zeroValue71
  t39 := Try.underlying73
  a39 := Try.isAgg73
  z39 := Try.sizeOf73
  v39 := Try.zeroValue73
  aE := Try.isAgg51
  zE := Try.sizeOf51 }
set_option maxRecDepth 100000 in
theorem laysInsR : Go.Proofs.SlLaysF0.n20 Try.prog renIns15 := {
  mixed := by kernel_rfl
  f20 := ⟨Try.f46.name, by decide, Try.func46.trans (congrArg some (by kernel_rfl))⟩
  t0 := Try.underlying0
  a0 := Try.isAgg0
  z0 := Try.sizeOf0
  v0 := Try.zeroValue0
  t3 := Try.underlying3
  a3 := Try.isAgg3
  z3 := Try.sizeOf3
  v3 := Try.zeroValue3
  t4 := Try.underlying4
  a4 := Try.isAgg4
  z4 := Try.sizeOf4
  v4 := Try.zeroValue4
  t22 := Try.underlying46
  a22 := Try.isAgg46
  z22 := Try.sizeOf46
  v22 := Try.zeroValue46
  t25 := Try.underlying71
  a25 := Try.isAgg71
  z25 := Try.sizeOf71
  v25 := Try.zeroValue71 }
theorem entersR (args : Array Value) (w : World) : (callFunc 38 args).run Try.prog w = .ok (.enter 38 args) w := enters_of Try.func38 (by decide) rfl args w
abbrev ltQ : O.Ru → O.Ru → Bool := ltOf cfR
abbrev plQ : O.Ru → Nat := fun x => x.place
/-- insertionSort and symMerge at rules, in a world of the sort's. -/
theorem insR (g cap n a b : Nat) (d0 d : Array O.Ru) (w0 w : World) (hn : d0.size = n) (hs : d.size = n) (R : RowK ruC 9 w0 g 0 d0) (S : SWK ruC 9 w0 g 0 d w) (hst : Sb.Stb ltQ plQ d) (hab : a ≤ b) (hb : b ≤ n) (hsz : n ≤ 1073741824) :
    Calls Try.prog 46 #[.slice (some ⟨g, 0, none⟩) n cap, .int .i64 a, .int .i64 b, .func (.func 38) #[] #[]] w fun e w' => e = .returned (.tuple #[]) ∧ ∃ d', SWK ruC 9 w0 g 0 d' w' ∧ Sb.Done ltQ plQ a b d d' := by
  have h := ins15 laysInsR tyR ruC cfR plQ 38 #[] g 0 cap a b d0 d w0 w entersR (laysR w0 g _) R (hn.trans hs.symm) S swoR hst hab (by omega) (by omega)
  rw [hs] at h
  exact h
theorem symR (g cap n a m b : Nat) (d0 d : Array O.Ru) (w0 w : World) (hn : d0.size = n) (hs : d.size = n) (R : RowK ruC 9 w0 g 0 d0) (S : SWK ruC 9 w0 g 0 d w) (hst : Sb.Stb ltQ plQ d) (h1 : Go.Sort.SortedIn ltQ a m d) (h2 : Go.Sort.SortedIn ltQ m b d) (ham : a < m) (hmb : m < b) (hb : b ≤ n) (hsz : n ≤ 1073741824) :
    Calls Try.prog 47 #[.slice (some ⟨g, 0, none⟩) n cap, .int .i64 a, .int .i64 m, .int .i64 b, .func (.func 38) #[] #[]] w fun e w' => e = .returned (.tuple #[]) ∧ ∃ d', SWK ruC 9 w0 g 0 d' w' ∧ Sb.Done ltQ plQ a b d d' := by
  have h := sym15 tyR Try.func55 Try.func52 Try.func47 ruC cfR plQ 38 #[] g 0 cap d0 w0 entersR (laysR w0 g _) R swoR (by omega) (b - a) a m b d w (Nat.le_refl _) (hs.trans hn.symm) S hst h1 h2 ham hmb (by omega)
  rw [hn] at h
  exact h
set_option maxRecDepth 100000 in
set_option maxHeartbeats 8000000 in
/-- The whole, of at most 80 rules. -/
theorem stableR (g cap n : Nat) (d : Array O.Ru) (w : World) (hn : d.size = n) (R : RowK ruC 9 w g 0 d) (hst : Sb.Stb ltQ plQ d) (h80 : n ≤ 80) :
    Calls Try.prog 43 #[.slice (some ⟨g, 0, none⟩) n cap, .int .i64 n, .func (.func 38) #[] #[]] w fun e w' => e = .returned (.tuple #[]) ∧ ∃ d', SWK ruC 9 w g 0 d' w' ∧ Go.Sort.PermIn 0 n d d' ∧ Sb.Stb ltQ plQ d' ∧ Go.Sort.SortedIn ltQ 0 n d' := by
  have HN := Lib.hid hn
  have HR := Lib.hid R
  have HST := Lib.hid hst
  have HS := Lib.hid (SWK.start R.hH)
  clear hn R hst
  go_enter Try.func43, Try.ntmps43
  go_wp2
  go_loopg [7, 8] n (fun gk va vb wr => ∃ (r : Nat) (dk : Array O.Ru), va = .int .i64 ((20 * r : Nat) : Int) ∧ vb = .int .i64 ((20 * r + 20 : Nat) : Int) ∧ 20 * r ≤ n ∧ n ≤ 20 * r + gk ∧ Hid (SWK ruC 9 w g 0 dk wr) ∧ Hid (Go.Sort.PermIn 0 n d dk) ∧ Hid (Sb.Stb ltQ plQ dk) ∧ Hid (Sb.Runs ltQ 20 0 (20 * r) dk))
  case atStart => exact ⟨0, d, rfl, rfl, Nat.zero_le _, Nat.le_of_eq (Nat.zero_add n).symm, HS.out, Go.Sort.permIn_refl _ _ _, HST.out, Sb.runs_none d⟩
  case round =>
    obtain ⟨r, dk, rfl, rfl, hr, hgk, HS1, HP1, HB1, HU1⟩ := hrel
    have HK := Lib.hid (HP1.out.1.trans HN.out)
    by_cases hlt : 20 * r + 20 ≤ n
    · have blt : ((20 * r + 20 : Nat) : Int) ≤ (n : Int) := by omega
      have hcall := insR g cap n (20 * r) (20 * r + 20) d dk w wr HN.out HK.out HR.out HS1.out HB1.out (by omega) hlt (by omega)
      obtain ⟨a1, ha1⟩ : ∃ a1, a1 = 20 * r := ⟨_, rfl⟩
      obtain ⟨b1, hb1⟩ : ∃ b1, b1 = 20 * r + 20 := ⟨_, rfl⟩
      rw [← hb1, ← ha1] at hcall
      rw [← hb1] at blt
      rw [← hb1, ← ha1]
      have hb2 : b1 + 20 ≤ 120 := by omega
      have HA1 := Lib.hid ha1
      have HB2 := Lib.hid hb1
      clear ha1 hb1
      go_wp2_with fail
      refine hcall.mono ?_
      rintro e w1 ⟨rfl, d1, S1, D1⟩
      have HS2 := Lib.hid S1
      have HD2 := Lib.hid D1
      clear S1 D1 hcall
      go_wp2
      go_roundg (n - (20 * (r + 1)))
      case measure => omega
      case rel =>
        have hD3 : Sb.Done ltQ plQ (20 * r) (20 * r + 20) dk d1 := by rw [← HB2.out, ← HA1.out]; exact HD2.out
        exact ⟨r + 1, d1, by rw [HB2.out]; rfl, (by rw [HB2.out]; rfl), by omega, by omega, HS2.out, Sb.perm_more HP1.out HN.out hlt hD3, hD3.stb, Sb.runs_ins (r := r) (Nat.le_refl _) HU1.out hD3⟩
    · have blt : ¬ ((20 * r + 20 : Nat) : Int) ≤ (n : Int) := by omega
      have hcall := insR g cap n (20 * r) n d dk w wr HN.out HK.out HR.out HS1.out HB1.out (by omega) (Nat.le_refl _) (by omega)
      obtain ⟨a1, ha1⟩ : ∃ a1, a1 = 20 * r := ⟨_, rfl⟩
      obtain ⟨b1, hb1⟩ : ∃ b1, b1 = 20 * r + 20 := ⟨_, rfl⟩
      rw [← ha1] at hcall
      rw [← hb1] at blt
      rw [← hb1, ← ha1]
      have HA1 := Lib.hid ha1
      clear ha1 hb1
      go_wp2_with fail
      refine hcall.mono ?_
      rintro e w1 ⟨rfl, d1, S1, D1⟩
      have HS2 := Lib.hid S1
      have HP2 := Lib.hid (Sb.perm_more HP1.out HN.out (Nat.le_refl n) D1)
      have HB2 := Lib.hid D1.stb
      have HU2 := Lib.hid (Sb.runs_ins (r := r) (c := n) (by omega) HU1.out (by rw [← HA1.out]; exact D1))
      clear S1 D1 hcall
      go_wp2
      go_loopg [6] 80 (fun gk2 v6 wq => ∃ (B : Nat) (dj : Array O.Ru), v6 = .int .i64 (B : Int) ∧ (B = 20 ∨ B = 40 ∨ B = 80) ∧ 100 ≤ B + gk2 ∧ Hid (SWK ruC 9 w g 0 dj wq) ∧ Hid (Go.Sort.PermIn 0 n d dj) ∧ Hid (Sb.Stb ltQ plQ dj) ∧ Hid (Sb.Runs ltQ B 0 n dj))
      case atStart => exact ⟨20, d1, rfl, .inl rfl, Nat.le_refl _, HS2.out, HP2.out, HB2.out, HU2.out⟩
      case round =>
        obtain ⟨B, dj, rfl, hB, hgk2, HS3, HP3, HB3, HU3⟩ := hrel
        by_cases hBn : B < n
        · have bBn : (B : Int) < (n : Int) := by omega
          have hB2 : B = 20 ∨ B = 40 := by omega
          have hB4 : B ≤ 40 := by omega
          have hB1 : 20 ≤ B := by omega
          replace hB := Lib.hid hB2
          clear hB2
          go_wp2
          go_loopg [7, 8] n (fun gk3 va vb wz => ∃ (a : Nat) (dz : Array O.Ru), va = .int .i64 (a : Int) ∧ vb = .int .i64 ((a + 2 * B : Nat) : Int) ∧ Hid (a % (2 * B) = 0) ∧ a ≤ n ∧ n ≤ a + gk3 ∧ Hid (SWK ruC 9 w g 0 dz wz) ∧ Hid (Go.Sort.PermIn 0 n d dz) ∧ Hid (Sb.Stb ltQ plQ dz) ∧ Hid (Sb.Runs ltQ (2 * B) 0 a dz ∧ Sb.Runs ltQ B a n dz))
          case atStart => exact ⟨0, dj, rfl, by go_num, Nat.zero_mod _, Nat.zero_le _, by omega, HS3.out, HP3.out, HB3.out, ⟨fun i j _ _ h => absurd h (Nat.not_lt_zero j), HU3.out⟩⟩
          case round =>
            obtain ⟨a, dz, rfl, rfl, HAM, han, hgk3, HS4, HP4, HB4, HU4⟩ := hrel
            have HKz := Lib.hid (HP4.out.1.trans HN.out)
            by_cases hc : a + 2 * B ≤ n
            · have bc : ((a + 2 * B : Nat) : Int) ≤ (n : Int) := by omega
              have hcall := symR g cap n a (a + B) (a + 2 * B) d dz w wr HN.out HKz.out HR.out HS4.out HB4.out (Sb.runs_left hB.out HAM.out (by omega) HU4.out.2) (Sb.runs_right hB.out HAM.out (Nat.le_refl _) hc HU4.out.2) (by omega) (by omega) hc (by omega)
              obtain ⟨c, hcc⟩ : ∃ c, c = a + 2 * B := ⟨_, rfl⟩
              obtain ⟨m, hm⟩ : ∃ m, m = a + B := ⟨_, rfl⟩
              have hmz : (a : Int) + (B : Int) = (m : Int) := by omega
              rw [← hcc, ← hm] at hcall
              rw [← hcc] at bc
              rw [← hcc]
              have hc2 : c ≤ 80 := by omega
              have HCC := Lib.hid hcc
              clear hcc hm
              go_wp2_with fail
              refine hcall.mono ?_
              rintro e w2 ⟨rfl, d2, S2, D2⟩
              have HS5 := Lib.hid S2
              have HD5 := Lib.hid D2
              clear S2 D2 hcall
              go_wp2
              go_roundg (n - c)
              case measure => have := HCC.out; omega
              case rel =>
                have hcc := HCC.out
                have hmm := Sb.runs_merge hB.out HAM.out (by omega) (Nat.le_of_eq hcc) HU4.out.1 HU4.out.2 HD5.out
                exact ⟨c, d2, rfl, by go_num, (show _ = _ by rw [hcc, Nat.add_mod_right]; exact HAM.out), by omega, by omega, HS5.out, Sb.perm_more HP4.out HN.out (by omega) HD5.out, HD5.out.stb, hmm⟩
            · have bc : ¬ ((a + 2 * B : Nat) : Int) ≤ (n : Int) := by omega
              obtain ⟨c, hcc⟩ : ∃ c, c = a + 2 * B := ⟨_, rfl⟩
              obtain ⟨m, hm⟩ : ∃ m, m = a + B := ⟨_, rfl⟩
              have hmz : (a : Int) + (B : Int) = (m : Int) := by omega
              rw [← hcc] at bc
              rw [← hcc]
              have hcn : n ≤ c := by omega
              by_cases hmn : m < n
              · have bmn : (m : Int) < (n : Int) := by omega
                have hcall := symR g cap n a m n d dz w wr HN.out HKz.out HR.out HS4.out HB4.out (by rw [hm]; exact Sb.runs_left hB.out HAM.out (by omega) HU4.out.2) (by rw [hm]; exact Sb.runs_right hB.out HAM.out (by omega) (Nat.le_refl _) HU4.out.2) (by omega) hmn (Nat.le_refl _) (by omega)
                have HCC := Lib.hid hcc
                clear hcc hm
                go_wp2_with fail
                refine hcall.mono ?_
                rintro e w2 ⟨rfl, d2, S2, D2⟩
                have HS5 := Lib.hid S2
                have HD5 := Lib.hid D2
                clear S2 D2 hcall
                go_wp2
                go_roundg (100 - 2 * B)
                case measure => omega
                case rel => exact ⟨2 * B, d2, by go_num, (by have := hB.out; omega), by omega, HS5.out, Sb.perm_more HP4.out HN.out (Nat.le_refl _) HD5.out, HD5.out.stb, (Sb.runs_merge hB.out HAM.out han (by have := HCC.out; omega) HU4.out.1 HU4.out.2 HD5.out).1⟩
              · have bmn : ¬ (m : Int) < (n : Int) := by omega
                have HMM := Lib.hid hm
                clear hcc hm
                go_wp2
                go_roundg (100 - 2 * B)
                case measure => omega
                case rel => exact ⟨2 * B, dz, by go_num, (by have := hB.out; omega), by omega, HS4.out, HP4.out, HB4.out, Sb.runs_skip hB.out HAM.out (by have := HMM.out; omega) HU4.out.1 HU4.out.2⟩
        · have bBn : ¬ (B : Int) < (n : Int) := by omega
          go_wp2
          go_end0
          exact ⟨rfl, dj, HS3.out, HP3.out, HB3.out, Sb.runs_all hB (by omega) HU3.out⟩
end Go.Proofs.Ytggdpnkekgmimaa

namespace Go.Proofs.Ytggdpnkekgmimaa
open Go.RowKit
set_option linter.unusedVariables false
set_option linter.unusedSimpArgs false

theorem i64_of {n : Int} (h : Int64 n) : I64 n := h
-- A SIDE AND A RULE, EACH IN A BLOCK OF ITS OWN
def SdB (w : World) (g : Nat) (x : O.Sd) : Prop := w.heap[g]? = some (.cells #[.bool x.any, .int .i64 x.n, .int .i64 x.bits] 49 (0, 0))
theorem SdB.cellsS {w : World} {g : Nat} {x : O.Sd} (h : SdB w g x) : w.cell? ⟨g, 0, none⟩ = some (.bool x.any) ∧ w.cell? ⟨g, 1, none⟩ = some (.int .i64 x.n) ∧ w.cell? ⟨g, 2, none⟩ = some (.int .i64 x.bits) := by
  refine ⟨?_, ?_, ?_⟩ <;> simp [World.cell?, show w.heap[g]? = _ from h]
theorem SdB.thawS {w : World} {g : Nat} {x : O.Sd} (h : SdB w g x) (j : Nat) : w.frozen? ⟨g, j, none⟩ = false := by simp [World.frozen?, show w.heap[g]? = _ from h]
theorem SdB.keepS {w w1 : World} {B g : Nat} {x : O.Sd} (h : SdB w g x) (hb : Below B w w1) (hg : g < B) : SdB w1 g x := (hb.block g hg).trans h
theorem SdB.ltS {w : World} {g : Nat} {x : O.Sd} (h : SdB w g x) : g < w.heap.size := (Array.getElem?_eq_some_iff.1 h).1
theorem SdB.bornS (w : World) (x : O.Sd) : SdB (w.alloc (.cells #[.bool x.any, .int .i64 x.n, .int .i64 x.bits] 49)) w.heap.size x := heap_alloc_new w _
theorem store15 (w : World) (g j : Nat) (cs : Array Value) (ty : TypeId) (h : w.heap[g]? = some (.cells cs ty (0, 0))) (u : Value) : (w.setCell ⟨g, j, none⟩ u).heap[g]? = some (.cells (cs.setIfInBounds j u) ty (0, 0)) := by
  simp [World.setCell, Array.getElem?_modify, h]
theorem SdB.setS {w : World} {g : Nat} {x : O.Sd} (h : SdB w g x) (y : O.Sd) : SdB (((w.setCell ⟨g, 0, none⟩ (.bool y.any)).setCell ⟨g, 1, none⟩ (.int .i64 y.n)).setCell ⟨g, 2, none⟩ (.int .i64 y.bits)) g y := by
  have h1 := store15 w g 0 _ _ h (.bool y.any)
  have h2 := store15 _ g 1 _ _ h1 (.int .i64 y.n)
  exact store15 _ g 2 _ _ h2 (.int .i64 y.bits)
theorem below3S {B g : Nat} {w0 w : World} (h : Below B w0 w) (hg : B ≤ g) (v0 v1 v2 : Value) : Below B w0 (((w.setCell ⟨g, 0, none⟩ v0).setCell ⟨g, 1, none⟩ v1).setCell ⟨g, 2, none⟩ v2) :=
  ((h.setCell (p := ⟨g, 0, none⟩) hg v0).setCell (p := ⟨g, 1, none⟩) hg v1).setCell (p := ⟨g, 2, none⟩) hg v2
def RuB (w : World) (g : Nat) (x : O.Ru) : Prop := w.heap[g]? = some (.cells #[.int .i64 x.place, .int .i64 x.num, .bool x.perm, .bool x.f.any, .int .i64 x.f.n, .int .i64 x.f.bits, .bool x.t.any, .int .i64 x.t.n, .int .i64 x.t.bits] 51 (0, 0))
theorem RuB.cellsR {w : World} {g : Nat} {x : O.Ru} (h : RuB w g x) : w.cell? ⟨g, 0, none⟩ = some (.int .i64 x.place) ∧ w.cell? ⟨g, 1, none⟩ = some (.int .i64 x.num) ∧ w.cell? ⟨g, 2, none⟩ = some (.bool x.perm) ∧ w.cell? ⟨g, 3, none⟩ = some (.bool x.f.any) ∧ w.cell? ⟨g, 4, none⟩ = some (.int .i64 x.f.n) ∧ w.cell? ⟨g, 5, none⟩ = some (.int .i64 x.f.bits) ∧ w.cell? ⟨g, 6, none⟩ = some (.bool x.t.any) ∧ w.cell? ⟨g, 7, none⟩ = some (.int .i64 x.t.n) ∧ w.cell? ⟨g, 8, none⟩ = some (.int .i64 x.t.bits) := by
  refine ⟨?_, ?_, ?_, ?_, ?_, ?_, ?_, ?_, ?_⟩ <;> simp [World.cell?, show w.heap[g]? = _ from h]
theorem RuB.thawR {w : World} {g : Nat} {x : O.Ru} (h : RuB w g x) (j : Nat) : w.frozen? ⟨g, j, none⟩ = false := by simp [World.frozen?, show w.heap[g]? = _ from h]
theorem RuB.keepR {w w1 : World} {B g : Nat} {x : O.Ru} (h : RuB w g x) (hb : Below B w w1) (hg : g < B) : RuB w1 g x := (hb.block g hg).trans h
theorem RuB.ltR15 {w : World} {g : Nat} {x : O.Ru} (h : RuB w g x) : g < w.heap.size := (Array.getElem?_eq_some_iff.1 h).1
theorem RuB.bornR (w : World) (x : O.Ru) : RuB (w.alloc (.cells #[.int .i64 x.place, .int .i64 x.num, .bool x.perm, .bool x.f.any, .int .i64 x.f.n, .int .i64 x.f.bits, .bool x.t.any, .int .i64 x.t.n, .int .i64 x.t.bits] 51)) w.heap.size x := heap_alloc_new w _
/-- What a run of nine stores leaves. -/
def set9 (w : World) (g : Nat) (x : O.Ru) : World := ((((((((w.setCell ⟨g, 0, none⟩ (.int .i64 x.place)).setCell ⟨g, 1, none⟩ (.int .i64 x.num)).setCell ⟨g, 2, none⟩ (.bool x.perm)).setCell ⟨g, 3, none⟩ (.bool x.f.any)).setCell ⟨g, 4, none⟩ (.int .i64 x.f.n)).setCell ⟨g, 5, none⟩ (.int .i64 x.f.bits)).setCell ⟨g, 6, none⟩ (.bool x.t.any)).setCell ⟨g, 7, none⟩ (.int .i64 x.t.n)).setCell ⟨g, 8, none⟩ (.int .i64 x.t.bits)
theorem RuB.setR {w : World} {g : Nat} {x : O.Ru} (h : RuB w g x) (y : O.Ru) : RuB (set9 w g y) g y := by
  have h0 : (w.setCell ⟨g, 0, none⟩ (.int .i64 y.place)).heap[g]? = some (.cells #[.int .i64 y.place, .int .i64 x.num, .bool x.perm, .bool x.f.any, .int .i64 x.f.n, .int .i64 x.f.bits, .bool x.t.any, .int .i64 x.t.n, .int .i64 x.t.bits] 51 (0, 0)) := (store15 w g 0 _ _ h (.int .i64 y.place))
  have h1 : ((w.setCell ⟨g, 0, none⟩ (.int .i64 y.place)).setCell ⟨g, 1, none⟩ (.int .i64 y.num)).heap[g]? = some (.cells #[.int .i64 y.place, .int .i64 y.num, .bool x.perm, .bool x.f.any, .int .i64 x.f.n, .int .i64 x.f.bits, .bool x.t.any, .int .i64 x.t.n, .int .i64 x.t.bits] 51 (0, 0)) := (store15 _ g 1 _ _ h0 (.int .i64 y.num))
  have h2 : (((w.setCell ⟨g, 0, none⟩ (.int .i64 y.place)).setCell ⟨g, 1, none⟩ (.int .i64 y.num)).setCell ⟨g, 2, none⟩ (.bool y.perm)).heap[g]? = some (.cells #[.int .i64 y.place, .int .i64 y.num, .bool y.perm, .bool x.f.any, .int .i64 x.f.n, .int .i64 x.f.bits, .bool x.t.any, .int .i64 x.t.n, .int .i64 x.t.bits] 51 (0, 0)) := (store15 _ g 2 _ _ h1 (.bool y.perm))
  have h3 : ((((w.setCell ⟨g, 0, none⟩ (.int .i64 y.place)).setCell ⟨g, 1, none⟩ (.int .i64 y.num)).setCell ⟨g, 2, none⟩ (.bool y.perm)).setCell ⟨g, 3, none⟩ (.bool y.f.any)).heap[g]? = some (.cells #[.int .i64 y.place, .int .i64 y.num, .bool y.perm, .bool y.f.any, .int .i64 x.f.n, .int .i64 x.f.bits, .bool x.t.any, .int .i64 x.t.n, .int .i64 x.t.bits] 51 (0, 0)) := (store15 _ g 3 _ _ h2 (.bool y.f.any))
  have h4 : (((((w.setCell ⟨g, 0, none⟩ (.int .i64 y.place)).setCell ⟨g, 1, none⟩ (.int .i64 y.num)).setCell ⟨g, 2, none⟩ (.bool y.perm)).setCell ⟨g, 3, none⟩ (.bool y.f.any)).setCell ⟨g, 4, none⟩ (.int .i64 y.f.n)).heap[g]? = some (.cells #[.int .i64 y.place, .int .i64 y.num, .bool y.perm, .bool y.f.any, .int .i64 y.f.n, .int .i64 x.f.bits, .bool x.t.any, .int .i64 x.t.n, .int .i64 x.t.bits] 51 (0, 0)) := (store15 _ g 4 _ _ h3 (.int .i64 y.f.n))
  have h5 : ((((((w.setCell ⟨g, 0, none⟩ (.int .i64 y.place)).setCell ⟨g, 1, none⟩ (.int .i64 y.num)).setCell ⟨g, 2, none⟩ (.bool y.perm)).setCell ⟨g, 3, none⟩ (.bool y.f.any)).setCell ⟨g, 4, none⟩ (.int .i64 y.f.n)).setCell ⟨g, 5, none⟩ (.int .i64 y.f.bits)).heap[g]? = some (.cells #[.int .i64 y.place, .int .i64 y.num, .bool y.perm, .bool y.f.any, .int .i64 y.f.n, .int .i64 y.f.bits, .bool x.t.any, .int .i64 x.t.n, .int .i64 x.t.bits] 51 (0, 0)) := (store15 _ g 5 _ _ h4 (.int .i64 y.f.bits))
  have h6 : (((((((w.setCell ⟨g, 0, none⟩ (.int .i64 y.place)).setCell ⟨g, 1, none⟩ (.int .i64 y.num)).setCell ⟨g, 2, none⟩ (.bool y.perm)).setCell ⟨g, 3, none⟩ (.bool y.f.any)).setCell ⟨g, 4, none⟩ (.int .i64 y.f.n)).setCell ⟨g, 5, none⟩ (.int .i64 y.f.bits)).setCell ⟨g, 6, none⟩ (.bool y.t.any)).heap[g]? = some (.cells #[.int .i64 y.place, .int .i64 y.num, .bool y.perm, .bool y.f.any, .int .i64 y.f.n, .int .i64 y.f.bits, .bool y.t.any, .int .i64 x.t.n, .int .i64 x.t.bits] 51 (0, 0)) := (store15 _ g 6 _ _ h5 (.bool y.t.any))
  have h7 : ((((((((w.setCell ⟨g, 0, none⟩ (.int .i64 y.place)).setCell ⟨g, 1, none⟩ (.int .i64 y.num)).setCell ⟨g, 2, none⟩ (.bool y.perm)).setCell ⟨g, 3, none⟩ (.bool y.f.any)).setCell ⟨g, 4, none⟩ (.int .i64 y.f.n)).setCell ⟨g, 5, none⟩ (.int .i64 y.f.bits)).setCell ⟨g, 6, none⟩ (.bool y.t.any)).setCell ⟨g, 7, none⟩ (.int .i64 y.t.n)).heap[g]? = some (.cells #[.int .i64 y.place, .int .i64 y.num, .bool y.perm, .bool y.f.any, .int .i64 y.f.n, .int .i64 y.f.bits, .bool y.t.any, .int .i64 y.t.n, .int .i64 x.t.bits] 51 (0, 0)) := (store15 _ g 7 _ _ h6 (.int .i64 y.t.n))
  exact (store15 _ g 8 _ _ h7 (.int .i64 y.t.bits))
theorem below9R {B g : Nat} {w0 w : World} (h : Below B w0 w) (hg : B ≤ g) (x : O.Ru) : Below B w0 (set9 w g x) :=
  ((((((((h.setCell (p := ⟨g, 0, none⟩) hg _).setCell (p := ⟨g, 1, none⟩) hg _).setCell (p := ⟨g, 2, none⟩) hg _).setCell (p := ⟨g, 3, none⟩) hg _).setCell (p := ⟨g, 4, none⟩) hg _).setCell (p := ⟨g, 5, none⟩) hg _).setCell (p := ⟨g, 6, none⟩) hg _).setCell (p := ⟨g, 7, none⟩) hg _).setCell (p := ⟨g, 8, none⟩) hg _
-- NUMBERS
theorem prefA_nums (l : List UInt8) : I64 (prefA l).1 ∧ I64 (prefA l).2.1 := by
  unfold prefA I64
  rcases N.pref_cases l with h | ⟨n, b, h, _, h1, h2, _⟩
  · rw [h, if_neg (by decide)]
    exact ⟨by decide, by decide⟩
  · rw [h]
    simp only []
    rw [if_pos (by omega)]
    exact ⟨⟨by simp only []; omega, by simp only []; omega⟩, ⟨by simp only []; omega, by simp only []; omega⟩⟩
/-- A side of ints of Go. -/
def FitS (x : O.Sd) : Prop := I64 x.n ∧ I64 x.bits
theorem fit_side (s : List UInt8) : FitS (O.sideC s).1 := by
  unfold O.sideC FitS
  by_cases h : s = H.wAny
  · rw [if_pos h]; exact ⟨by unfold I64; simp only []; omega, by unfold I64; simp only []; omega⟩
  · rw [if_neg h]; exact prefA_nums s
set_option maxRecDepth 100000 in
set_option maxHeartbeats 4000000 in
theorem takes15 (x : O.Sd) (ip : Int) (b : Bool) (w : World) (hx : FitS x) (hi : I64 ip) (hb : O.takesC x ip = b) : Calls Try.prog 22 #[sdV x, .int .i64 ip] w (fun e w' => e = .returned (.bool b) ∧ Below w.heap.size w w') := by
  obtain ⟨xa, xn, xb⟩ := x
  obtain ⟨h1, h2⟩ := hx
  have hup := up w (.cells #[.bool xa, .int .i64 xn, .int .i64 xb] 49)
  obtain ⟨c0, c1, c2⟩ := (SdB.bornS w ⟨xa, xn, xb⟩).cellsS
  cases xa with
  | true =>
    obtain rfl : true = b := hb
    unfold sdV
    clear h1 h2 hi
    go_enter Try.func22, Try.ntmps22
    go_wp2
    go_ret
    exact ⟨rfl, hup⟩
  | false =>
    have hin : N.inB xn xb ip = b := hb
    have HC := Lib.hid (in_any10 xn xb ip b (w.alloc (.cells #[.bool false, .int .i64 xn, .int .i64 xb] 49)) h1 h2 hi hin)
    unfold sdV
    clear hb h1 h2 hi hin
    go_enter Try.func22, Try.ntmps22
    go_wp2_with fail
    refine HC.out.mono ?_
    rintro e w1 ⟨rfl, hx⟩
    go_wp2
    go_ret
    exact ⟨rfl, bthen hup hx⟩
set_option maxRecDepth 100000 in
set_option maxHeartbeats 4000000 in
theorem side15 (s : List UInt8) (x : O.Sd) (ok : Bool) (w : World) (hs : s.length ≤ 100) (hx : O.sideC s = (x, ok)) : Calls Try.prog 42 #[.string (sB s)] w (fun e w' => e = .returned (.tuple #[sdV x, .bool ok]) ∧ Below w.heap.size w w') := by
  have hup := up w (.cells #[.bool false, .int .i64 0, .int .i64 0] 49)
  have HB := Lib.hid (SdB.bornS w ⟨false, 0, 0⟩)
  obtain ⟨xa, xn, xb⟩ := x
  unfold O.sideC at hx
  by_cases h : s = H.wAny
  · rw [if_pos h] at hx
    injection hx with hx hok
    injection hx with e1 e2 e3
    subst e1; subst e2; subst e3; subst hok
    have n1 : ((sB s).toList == [97, 110, 121]) = true := by rw [sB_toList, beq_iff_eq]; exact h
    clear h
    go_enter Try.func42, Try.ntmps42
    go_wp2
    obtain ⟨q0, q1, q2⟩ := (SdB.bornS w ⟨true, 0, 0⟩).cellsS
    dsimp only at q0 q1 q2
    refine bodyPost_ret (v := .tuple #[.agg #[.bool true, .int .i64 0, .int .i64 0], .bool true]) (by simp [results, Try.results42, go_sem, q0, q1, q2]) rfl ⟨rfl, up w _⟩
  · rw [if_neg h] at hx
    have n1 : ((sB s).toList == [97, 110, 121]) = false := by rw [sB_toList, beq_eq_false_iff_ne]; exact h
    obtain ⟨pn, pb, po, hp⟩ : ∃ pn pb po, prefA s = (pn, pb, po) := ⟨_, _, _, rfl⟩
    rw [hp] at hx
    injection hx with hx hok
    injection hx with e1 e2 e3
    subst e1; subst e2; subst e3; subst hok
    have HP := Lib.hid hp
    clear h hp
    go_enter Try.func42, Try.ntmps42
    go_wp2_with fail
    refine (pref_any10 (sB s) pn pb po _ (by rw [sB_size]; exact hs) (by rw [sB_data]; exact HP.out)).mono ?_
    rintro e w1 ⟨rfl, hx⟩
    have HB1 := Lib.hid (HB.out.keepS hx HB.out.ltS)
    have hb1 := bthen hup hx
    obtain ⟨c0, c1, c2⟩ := HB1.out.cellsS
    have f0 := HB1.out.thawS 0
    have f1 := HB1.out.thawS 1
    have f2 := HB1.out.thawS 2
    clear hx
    go_wp2
    have HW : SdB (((w1.setCell ⟨w.heap.size, 0, none⟩ (.bool false)).setCell ⟨w.heap.size, 1, none⟩ (.int .i64 pn)).setCell ⟨w.heap.size, 2, none⟩ (.int .i64 pb)) w.heap.size ⟨false, pn, pb⟩ := HB1.out.setS ⟨false, pn, pb⟩
    obtain ⟨q0, q1, q2⟩ := HW.cellsS
    dsimp only at q0 q1 q2
    refine bodyPost_ret (v := .tuple #[.agg #[.bool false, .int .i64 pn, .int .i64 pb], .bool po]) (by simp [results, Try.results42, go_sem, q0, q1, q2]) rfl ⟨rfl, below3S hb1 (Nat.le_refl _) _ _ _⟩
set_option maxRecDepth 100000 in
set_option maxHeartbeats 8000000 in
theorem read15 (x : H.En) (r : O.Ru) (ok : Bool) (w : World) (hx : Fit15 x) (hr : O.readE x = (r, ok)) : Calls Try.prog 36 #[enV x] w (fun e w' => e = .returned (.tuple #[ruV r, .bool ok]) ∧ Below w.heap.size w w') := by
  obtain ⟨eh, ek, ey, ev⟩ := x
  obtain ⟨_, hk, hv⟩ := hx
  have hk : ey.length ≤ 100 := hk
  have hv : ev.length ≤ 100 := hv
  have HRE := Lib.hid hr
  have hup := (up w (.cells #[.string (sB eh), .int .i64 ek, .string (sB ey), .string (sB ev)] 26)).trans ((up (w.alloc (.cells #[.string (sB eh), .int .i64 ek, .string (sB ey), .string (sB ev)] 26)) (.cells #[.int .i64 0, .int .i64 0, .bool false, .bool false, .int .i64 0, .int .i64 0, .bool false, .int .i64 0, .int .i64 0] 51)).mono (by simp))
  have HE0 := Lib.hid (ent_below (ent_laid w eh ek ey ev) (up (w.alloc (.cells #[.string (sB eh), .int .i64 ek, .string (sB ey), .string (sB ev)] 26)) (.cells #[.int .i64 0, .int .i64 0, .bool false, .bool false, .int .i64 0, .int .i64 0, .bool false, .int .i64 0, .int .i64 0] 51)))
  have HR0 : Hid (RuB ((w.alloc (.cells #[.string (sB eh), .int .i64 ek, .string (sB ey), .string (sB ev)] 26)).alloc (.cells #[.int .i64 0, .int .i64 0, .bool false, .bool false, .int .i64 0, .int .i64 0, .bool false, .int .i64 0, .int .i64 0] 51)) (w.heap.size + 1) O.noRu) := by
    have := RuB.bornR (w.alloc (.cells #[.string (sB eh), .int .i64 ek, .string (sB ey), .string (sB ev)] 26)) O.noRu
    rwa [show (w.alloc (.cells #[.string (sB eh), .int .i64 ek, .string (sB ey), .string (sB ev)] 26)).heap.size = w.heap.size + 1 by simp] at this
  obtain ⟨z0, z1, z2, z3⟩ := HE0.out.cells
  obtain ⟨y0, y1, y2, y3⟩ := (ent_laid w eh ek ey ev).cells
  unfold enV
  clear hr
  go_enter Try.func36, Try.ntmps36
  go_wp2_with fail
  refine (cut_any10 (sB ev) 32 _ (by rw [sB_size]; omega)).mono ?_
  rintro e w1 ⟨⟨a, r1, f1, rfl, hc1⟩, hx⟩
  rw [sB_data] at hc1
  obtain ⟨ha1, hr1⟩ := hc1.small hv
  have HC1 := Lib.hid hc1
  have HE1 := Lib.hid (ent_below HE0.out hx)
  have HR1 := Lib.hid (HR0.out.keepR hx HR0.out.ltR15)
  have hb1 := bthen hup hx
  clear hc1 hx z0 z1 z2 z3 y0 y1 y2 y3
  go_wp2_with fail
  refine (cut_any10 (sB r1) 32 _ (by rw [sB_size]; omega)).mono ?_
  rintro e w2 ⟨⟨b, c, f2, rfl, hc2⟩, hx⟩
  rw [sB_data] at hc2
  obtain ⟨hbl, hcl⟩ := hc2.small hr1
  have HC2 := Lib.hid hc2
  have HE2 := Lib.hid (ent_below HE1.out hx)
  have HR2 := Lib.hid (HR1.out.keepR hx HR1.out.ltR15)
  have hb2 := bthen hb1 hx
  clear hc2 hx
  obtain ⟨z0, z1, z2, z3⟩ := HE2.out.cells
  obtain ⟨z, on, hn⟩ : ∃ z on, numA ey 1 1000 = (z, on) := ⟨_, _, rfl⟩
  have HN := Lib.hid hn
  clear hn
  go_wp2_with fail
  refine (num_any10 (sB ey) 1 1000 z on _ (by rw [sB_size]; omega) (by rw [sB_data]; exact HN.out)).mono ?_
  rintro e w3 ⟨rfl, rfl⟩
  obtain ⟨⟨ba, bn, bb⟩, ob, hsb⟩ : ∃ x ob, O.sideC b = (x, ob) := ⟨_, _, rfl⟩
  obtain ⟨⟨ca, cn, cb⟩, oc, hsc⟩ : ∃ x oc, O.sideC c = (x, oc) := ⟨_, _, rfl⟩
  have HSB := Lib.hid hsb
  have HSC := Lib.hid hsc
  have HOB := Lib.hid (show O.soundB b = ob by rw [← O.side_ok, hsb])
  have HOC := Lib.hid (show O.soundB c = oc by rw [← O.side_ok, hsc])
  clear hsb hsc z0 z1 z2 z3
  go_wp2_with fail
  refine (side15 b _ ob _ hbl HSB.out).mono ?_
  rintro e w4 ⟨rfl, hx⟩
  have HR4 := Lib.hid ((HR2.out.keepR hx HR2.out.ltR15).keepR (up w4 (.cells #[.bool ba, .int .i64 bn, .int .i64 bb] 49)) (HR2.out.keepR hx HR2.out.ltR15).ltR15)
  have HB4 := Lib.hid (SdB.bornS w4 ⟨ba, bn, bb⟩)
  have hb4 := bthen (bthen hb2 hx) (up w4 (.cells #[.bool ba, .int .i64 bn, .int .i64 bb] 49))
  clear hx
  unfold sdV
  go_wp2_with fail
  refine (side15 c _ oc _ hcl HSC.out).mono ?_
  rintro e w6 ⟨rfl, hx⟩
  have HR6 := Lib.hid ((HR4.out.keepR hx HR4.out.ltR15).keepR (up w6 (.cells #[.bool ca, .int .i64 cn, .int .i64 cb] 49)) (HR4.out.keepR hx HR4.out.ltR15).ltR15)
  have HB6 := Lib.hid ((HB4.out.keepS hx HB4.out.ltS).keepS (up w6 (.cells #[.bool ca, .int .i64 cn, .int .i64 cb] 49)) (HB4.out.keepS hx HB4.out.ltS).ltS)
  have HD6 := Lib.hid (SdB.bornS w6 ⟨ca, cn, cb⟩)
  have hb6 := bthen (bthen hb4 hx) (up w6 (.cells #[.bool ca, .int .i64 cn, .int .i64 cb] 49))
  clear hx
  unfold sdV
  obtain ⟨s0, s1, s2⟩ := HB6.out.cellsS
  obtain ⟨t0, t1, t2⟩ := HD6.out.cellsS
  obtain ⟨u0, u1, u2, u3, u4, u5, u6, u7, u8⟩ := HR6.out.cellsR
  have v0 := HR6.out.thawR 0
  have v1 := HR6.out.thawR 1
  have v2 := HR6.out.thawR 2
  have v3 := HR6.out.thawR 3
  have v4 := HR6.out.thawR 4
  have v5 := HR6.out.thawR 5
  have v6 := HR6.out.thawR 6
  have v7 := HR6.out.thawR 7
  have v8 := HR6.out.thawR 8
  dsimp only [O.noRu] at s0 s1 s2 t0 t1 t2 u0 u1 u2 u3 u4 u5 u6 u7 u8
  cases on with
  | false =>
    have hr2 := HRE.out.symm.trans (O.read_no HC1.out HC2.out (fun q => O.numA_no HN.out ⟨q.1, q.2.1⟩))
    injection hr2 with e1 e2
    subst e1
    subst e2
    go_wp2
    have HW : RuB ((((((((((w6.alloc (.cells #[.bool ca, .int .i64 cn, .int .i64 cb] 49)).setCell ⟨w.heap.size + 1, 0, none⟩ (.int .i64 0)).setCell ⟨w.heap.size + 1, 1, none⟩ (.int .i64 0)).setCell ⟨w.heap.size + 1, 2, none⟩ (.bool false)).setCell ⟨w.heap.size + 1, 3, none⟩ (.bool false)).setCell ⟨w.heap.size + 1, 4, none⟩ (.int .i64 0)).setCell ⟨w.heap.size + 1, 5, none⟩ (.int .i64 0)).setCell ⟨w.heap.size + 1, 6, none⟩ (.bool false)).setCell ⟨w.heap.size + 1, 7, none⟩ (.int .i64 0)).setCell ⟨w.heap.size + 1, 8, none⟩ (.int .i64 0)) (w.heap.size + 1) ⟨0, 0, false, ⟨false, 0, 0⟩, ⟨false, 0, 0⟩⟩ := HR6.out.setR ⟨0, 0, false, ⟨false, 0, 0⟩, ⟨false, 0, 0⟩⟩
    obtain ⟨q0, q1, q2, q3, q4, q5, q6, q7, q8⟩ := HW.cellsR
    dsimp only at q0 q1 q2 q3 q4 q5 q6 q7 q8
    refine bodyPost_ret (v := .tuple #[.agg #[.int .i64 0, .int .i64 0, .bool false, .bool false, .int .i64 0, .int .i64 0, .bool false, .int .i64 0, .int .i64 0], .bool false]) (by simp [results, Try.results36, go_sem, q0, q1, q2, q3, q4, q5, q6, q7, q8]) rfl ⟨rfl, below9R (x := ⟨0, 0, false, ⟨false, 0, 0⟩, ⟨false, 0, 0⟩⟩) hb6 (Nat.le_add_right _ _)⟩
  | true =>
    cases ob with
    | false =>
      have hr2 := HRE.out.symm.trans (O.read_no HC1.out HC2.out (fun q => by have := HOB.out.symm.trans q.2.2.2.1; cases this))
      injection hr2 with e1 e2
      subst e1
      subst e2
      go_wp2
      have HW : RuB ((((((((((w6.alloc (.cells #[.bool ca, .int .i64 cn, .int .i64 cb] 49)).setCell ⟨w.heap.size + 1, 0, none⟩ (.int .i64 0)).setCell ⟨w.heap.size + 1, 1, none⟩ (.int .i64 0)).setCell ⟨w.heap.size + 1, 2, none⟩ (.bool false)).setCell ⟨w.heap.size + 1, 3, none⟩ (.bool false)).setCell ⟨w.heap.size + 1, 4, none⟩ (.int .i64 0)).setCell ⟨w.heap.size + 1, 5, none⟩ (.int .i64 0)).setCell ⟨w.heap.size + 1, 6, none⟩ (.bool false)).setCell ⟨w.heap.size + 1, 7, none⟩ (.int .i64 0)).setCell ⟨w.heap.size + 1, 8, none⟩ (.int .i64 0)) (w.heap.size + 1) ⟨0, 0, false, ⟨false, 0, 0⟩, ⟨false, 0, 0⟩⟩ := HR6.out.setR ⟨0, 0, false, ⟨false, 0, 0⟩, ⟨false, 0, 0⟩⟩
      obtain ⟨q0, q1, q2, q3, q4, q5, q6, q7, q8⟩ := HW.cellsR
      dsimp only at q0 q1 q2 q3 q4 q5 q6 q7 q8
      refine bodyPost_ret (v := .tuple #[.agg #[.int .i64 0, .int .i64 0, .bool false, .bool false, .int .i64 0, .int .i64 0, .bool false, .int .i64 0, .int .i64 0], .bool false]) (by simp [results, Try.results36, go_sem, q0, q1, q2, q3, q4, q5, q6, q7, q8]) rfl ⟨rfl, below9R (x := ⟨0, 0, false, ⟨false, 0, 0⟩, ⟨false, 0, 0⟩⟩) hb6 (Nat.le_add_right _ _)⟩
    | true =>
      have hob := HOB.out
      cases oc with
      | false =>
        have hr2 := HRE.out.symm.trans (O.read_no HC1.out HC2.out (fun q => by have := HOC.out.symm.trans q.2.2.2.2; cases this))
        injection hr2 with e1 e2
        subst e1
        subst e2
        go_wp2
        have HW : RuB ((((((((((w6.alloc (.cells #[.bool ca, .int .i64 cn, .int .i64 cb] 49)).setCell ⟨w.heap.size + 1, 0, none⟩ (.int .i64 0)).setCell ⟨w.heap.size + 1, 1, none⟩ (.int .i64 0)).setCell ⟨w.heap.size + 1, 2, none⟩ (.bool false)).setCell ⟨w.heap.size + 1, 3, none⟩ (.bool false)).setCell ⟨w.heap.size + 1, 4, none⟩ (.int .i64 0)).setCell ⟨w.heap.size + 1, 5, none⟩ (.int .i64 0)).setCell ⟨w.heap.size + 1, 6, none⟩ (.bool false)).setCell ⟨w.heap.size + 1, 7, none⟩ (.int .i64 0)).setCell ⟨w.heap.size + 1, 8, none⟩ (.int .i64 0)) (w.heap.size + 1) ⟨0, 0, false, ⟨false, 0, 0⟩, ⟨false, 0, 0⟩⟩ := HR6.out.setR ⟨0, 0, false, ⟨false, 0, 0⟩, ⟨false, 0, 0⟩⟩
        obtain ⟨q0, q1, q2, q3, q4, q5, q6, q7, q8⟩ := HW.cellsR
        dsimp only at q0 q1 q2 q3 q4 q5 q6 q7 q8
        refine bodyPost_ret (v := .tuple #[.agg #[.int .i64 0, .int .i64 0, .bool false, .bool false, .int .i64 0, .int .i64 0, .bool false, .int .i64 0, .int .i64 0], .bool false]) (by simp [results, Try.results36, go_sem, q0, q1, q2, q3, q4, q5, q6, q7, q8]) rfl ⟨rfl, below9R (x := ⟨0, 0, false, ⟨false, 0, 0⟩, ⟨false, 0, 0⟩⟩) hb6 (Nat.le_add_right _ _)⟩
      | true =>
        have hoc := HOC.out
        by_cases ha : a = O.wPermit
        · have n1 : ((sB a).toList == [112, 101, 114, 109, 105, 116]) = true := by rw [sB_toList, beq_iff_eq]; exact ha
          obtain ⟨g1, g2, g3⟩ := O.numA_yes HN.out
          have hr2 := HRE.out.symm.trans (O.read_yes HC1.out HC2.out ⟨g1, g2⟩ (.inl ha) hob hoc)
          rw [HSB.out, HSC.out, ← g3] at hr2
          injection hr2 with e1 e2
          subst e2
          rw [decide_eq_true ha] at e1
          subst e1
          clear g1 g2 g3 ha
          go_wp2
          have HW : RuB ((((((((((w6.alloc (.cells #[.bool ca, .int .i64 cn, .int .i64 cb] 49)).setCell ⟨w.heap.size + 1, 0, none⟩ (.int .i64 0)).setCell ⟨w.heap.size + 1, 1, none⟩ (.int .i64 z)).setCell ⟨w.heap.size + 1, 2, none⟩ (.bool true)).setCell ⟨w.heap.size + 1, 3, none⟩ (.bool ba)).setCell ⟨w.heap.size + 1, 4, none⟩ (.int .i64 bn)).setCell ⟨w.heap.size + 1, 5, none⟩ (.int .i64 bb)).setCell ⟨w.heap.size + 1, 6, none⟩ (.bool ca)).setCell ⟨w.heap.size + 1, 7, none⟩ (.int .i64 cn)).setCell ⟨w.heap.size + 1, 8, none⟩ (.int .i64 cb)) (w.heap.size + 1) ⟨0, z, true, ⟨ba, bn, bb⟩, ⟨ca, cn, cb⟩⟩ := HR6.out.setR ⟨0, z, true, ⟨ba, bn, bb⟩, ⟨ca, cn, cb⟩⟩
          obtain ⟨q0, q1, q2, q3, q4, q5, q6, q7, q8⟩ := HW.cellsR
          dsimp only at q0 q1 q2 q3 q4 q5 q6 q7 q8
          refine bodyPost_ret (v := .tuple #[.agg #[.int .i64 0, .int .i64 z, .bool true, .bool ba, .int .i64 bn, .int .i64 bb, .bool ca, .int .i64 cn, .int .i64 cb], .bool true]) (by simp [results, Try.results36, go_sem, q0, q1, q2, q3, q4, q5, q6, q7, q8]) rfl ⟨rfl, below9R (x := ⟨0, z, true, ⟨ba, bn, bb⟩, ⟨ca, cn, cb⟩⟩) hb6 (Nat.le_add_right _ _)⟩
        · have n1 : ((sB a).toList == [112, 101, 114, 109, 105, 116]) = false := by rw [sB_toList, beq_eq_false_iff_ne]; exact ha
          by_cases hd : a = O.wDeny
          · have n2 : ((sB a).toList == [100, 101, 110, 121]) = true := by rw [sB_toList, beq_iff_eq]; exact hd
            obtain ⟨g1, g2, g3⟩ := O.numA_yes HN.out
            have hr2 := HRE.out.symm.trans (O.read_yes HC1.out HC2.out ⟨g1, g2⟩ (.inr hd) hob hoc)
            rw [HSB.out, HSC.out, ← g3] at hr2
            injection hr2 with e1 e2
            subst e2
            rw [decide_eq_false ha] at e1
            subst e1
            clear g1 g2 g3 ha hd
            go_wp2
            have HW : RuB ((((((((((w6.alloc (.cells #[.bool ca, .int .i64 cn, .int .i64 cb] 49)).setCell ⟨w.heap.size + 1, 0, none⟩ (.int .i64 0)).setCell ⟨w.heap.size + 1, 1, none⟩ (.int .i64 z)).setCell ⟨w.heap.size + 1, 2, none⟩ (.bool false)).setCell ⟨w.heap.size + 1, 3, none⟩ (.bool ba)).setCell ⟨w.heap.size + 1, 4, none⟩ (.int .i64 bn)).setCell ⟨w.heap.size + 1, 5, none⟩ (.int .i64 bb)).setCell ⟨w.heap.size + 1, 6, none⟩ (.bool ca)).setCell ⟨w.heap.size + 1, 7, none⟩ (.int .i64 cn)).setCell ⟨w.heap.size + 1, 8, none⟩ (.int .i64 cb)) (w.heap.size + 1) ⟨0, z, false, ⟨ba, bn, bb⟩, ⟨ca, cn, cb⟩⟩ := HR6.out.setR ⟨0, z, false, ⟨ba, bn, bb⟩, ⟨ca, cn, cb⟩⟩
            obtain ⟨q0, q1, q2, q3, q4, q5, q6, q7, q8⟩ := HW.cellsR
            dsimp only at q0 q1 q2 q3 q4 q5 q6 q7 q8
            refine bodyPost_ret (v := .tuple #[.agg #[.int .i64 0, .int .i64 z, .bool false, .bool ba, .int .i64 bn, .int .i64 bb, .bool ca, .int .i64 cn, .int .i64 cb], .bool true]) (by simp [results, Try.results36, go_sem, q0, q1, q2, q3, q4, q5, q6, q7, q8]) rfl ⟨rfl, below9R (x := ⟨0, z, false, ⟨ba, bn, bb⟩, ⟨ca, cn, cb⟩⟩) hb6 (Nat.le_add_right _ _)⟩
          · have n2 : ((sB a).toList == [100, 101, 110, 121]) = false := by rw [sB_toList, beq_eq_false_iff_ne]; exact hd
            have hr2 := HRE.out.symm.trans (O.read_no HC1.out HC2.out (fun q => by rcases q.2.2.1 with q | q; exact ha q; exact hd q))
            injection hr2 with e1 e2
            subst e1
            subst e2
            clear ha hd
            go_wp2
            have HW : RuB ((((((((((w6.alloc (.cells #[.bool ca, .int .i64 cn, .int .i64 cb] 49)).setCell ⟨w.heap.size + 1, 0, none⟩ (.int .i64 0)).setCell ⟨w.heap.size + 1, 1, none⟩ (.int .i64 0)).setCell ⟨w.heap.size + 1, 2, none⟩ (.bool false)).setCell ⟨w.heap.size + 1, 3, none⟩ (.bool false)).setCell ⟨w.heap.size + 1, 4, none⟩ (.int .i64 0)).setCell ⟨w.heap.size + 1, 5, none⟩ (.int .i64 0)).setCell ⟨w.heap.size + 1, 6, none⟩ (.bool false)).setCell ⟨w.heap.size + 1, 7, none⟩ (.int .i64 0)).setCell ⟨w.heap.size + 1, 8, none⟩ (.int .i64 0)) (w.heap.size + 1) ⟨0, 0, false, ⟨false, 0, 0⟩, ⟨false, 0, 0⟩⟩ := HR6.out.setR ⟨0, 0, false, ⟨false, 0, 0⟩, ⟨false, 0, 0⟩⟩
            obtain ⟨q0, q1, q2, q3, q4, q5, q6, q7, q8⟩ := HW.cellsR
            dsimp only at q0 q1 q2 q3 q4 q5 q6 q7 q8
            refine bodyPost_ret (v := .tuple #[.agg #[.int .i64 0, .int .i64 0, .bool false, .bool false, .int .i64 0, .int .i64 0, .bool false, .int .i64 0, .int .i64 0], .bool false]) (by simp [results, Try.results36, go_sem, q0, q1, q2, q3, q4, q5, q6, q7, q8]) rfl ⟨rfl, below9R (x := ⟨0, 0, false, ⟨false, 0, 0⟩, ⟨false, 0, 0⟩⟩) hb6 (Nat.le_add_right _ _)⟩

end Go.Proofs.Ytggdpnkekgmimaa
