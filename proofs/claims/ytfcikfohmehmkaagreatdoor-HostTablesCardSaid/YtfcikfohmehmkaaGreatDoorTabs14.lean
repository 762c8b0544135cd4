/-
  Part 14 of what the proofs of this claim stand on. No conditions but those that each theorem states.
-/
import Derived.Test.YtfcikfohmehmkaaGreatDoorTabs13
import Derived.Lib.TrimByte
import Derived.Laws.Bits64b
import Derived.Laws.BitsAllLaws
import Derived.Lib.ConvBytes
import Derived.Laws.Concat
import Derived.Deep.LoopGhost

namespace Go.Proofs.YtfcikfohmehmkaaGreatDoor
open Go.RowKit
set_option linter.unusedVariables false
theorem numA_oct (l : List UInt8) : numA l 0 255 = okA (N.octL l) := by
 rcases N.num_cases l with h | ⟨n, h, _, _⟩
 ·unfold numA okA N.octL; rw [h]; rfl
 ·unfold numA N.octL
  rw [h]
  by_cases h2 : n ≤ 255
  ·rw [if_pos (by omega), if_neg (by omega), okA_nat]
  ·rw [if_neg (by omega), if_pos (by omega)]; rfl
theorem shl8C {n : Nat} (h : n < 16777216) : (n : Int) * 256 = ((256 * n : Nat) : Int) := by omega
theorem or8C {n b : Nat} (h : n < 16777216) (hb : b < 256) : Go.bits .or .i64 ((256 * n : Nat) : Int) (b : Int) = ((256 * n + b : Nat) : Int) := by
 have h1 : 256 * n + b < 9223372036854775808 := by omega
 exact N.or_low n b 8 256 rfl hb h1
theorem sv_is (s : ByteArray) : sB s.data.toList = s := ByteArray.ext (Array.ext' (by simp [sB]))
theorem acc_snocC (L : List (List UInt8)) (a : List UInt8) (n b : Nat) (h1 : N.accL N.octL L = (n : Int)) (h2 : N.octL a = (b : Int)) : N.accL N.octL (L ++ [a]) = ((256 * n + b : Nat) : Int) := by rw [N.acc_snoc, h1, h2]; omega
theorem acc_smallC (L : List (List UInt8)) (n : Nat) (hl : L.length ≤ 3) (hg : ∀ x ∈ L, 0 ≤ N.octL x) (h : N.accL N.octL L = (n : Int)) : n < 16777216 := by
 have := (N.acc_range N.octL (fun x => (N.oct_range x).2) 3 L hl hg).2
 rw [h] at this
 have e : ((256 ^ 3 : Nat) : Int) = 16777216 := rfl
 rw [e] at this
 omega
structure IpAt (s : List UInt8) (g : Nat) (L : List (List UInt8)) (r : List UInt8) (n : Nat) : Prop where
 len : L.length + g = 4
 good : ∀ x ∈ L, 0 ≤ N.octL x
 sum : N.accL N.octL L = (n : Int)
 more : 0 < g → N.splitL 46 s = L ++ N.splitL 46 r
 done : g = 0 → N.splitL 46 s = L
theorem IpAt.start (s : List UInt8) : IpAt s 4 [] s 0 := ⟨rfl, (fun x hx => by cases hx), rfl, (fun _ => rfl), (fun h => by cases h)⟩
theorem IpAt.bad {s : List UInt8} {g n : Nat} {L : List (List UInt8)} {r a : List UInt8} {t : List (List UInt8)} (h : IpAt s g L r n) (hg : 0 < g) (e : N.splitL 46 r = a :: t) (hb : N.octL a < 0) : N.ipL s = -1 :=
 N.ip_bad (h.more hg) (x := a) (by rw [e]; simp) hb
theorem IpAt.wrong {s : List UInt8} {g n : Nat} {L : List (List UInt8)} {r : List UInt8} (h : IpAt s g L r n) (hg : 0 < g) (hl : (N.splitL 46 r).length ≠ g) : N.ipL s = -1 :=
 N.ip_len (h.more hg) (by rw [List.length_append]; have := h.len; omega)
theorem IpAt.next {s : List UInt8} {g n b : Nat} {L : List (List UInt8)} {r a r2 : List UInt8} (h : IpAt s (g + 1) L r n) (hb : N.octL a = (b : Int)) (e : (0 < g ∧ N.splitL 46 r = a :: N.splitL 46 r2) ∨ (g = 0 ∧ N.splitL 46 r = [a])) : IpAt s g (L ++ [a]) r2 (256 * n + b) where
 len := by rw [List.length_append, List.length_singleton]; have := h.len; omega
 good := fun x hx => by
  rcases List.mem_append.1 hx with hx | hx
  ·exact h.good x hx
  ·rw [List.mem_singleton.1 hx, hb]; omega
 sum := acc_snocC L a n b h.sum hb
 more := fun hg => by
  rcases e with ⟨_, e⟩ | ⟨e, _⟩
  ·rw [h.more (by omega), e, List.append_assoc]; rfl
  ·omega
 done := fun hg => by
  rcases e with ⟨e, _⟩ | ⟨_, e⟩
  ·omega
  ·rw [h.more (by omega), e]
theorem IpAt.all {s : List UInt8} {n : Nat} {L : List (List UInt8)} {r : List UInt8} (h : IpAt s 0 L r n) : N.ipL s = (n : Int) := by
 rw [N.ip_good (h.done rfl) (by have := h.len; omega) h.good, h.sum]
theorem cut_false {l a b : List UInt8} {c : UInt8} (h : CutIs c l a b false) : N.splitL c l = [a] ∧ a.length = l.length := by
 rcases h with ⟨_, rfl, _, h⟩ | ⟨h, _⟩
 ·exact ⟨N.split_one h, rfl⟩
 ·cases h
theorem cut_true {l a b : List UInt8} {c : UInt8} (h : CutIs c l a b true) : N.splitL c l = a :: N.splitL c b ∧ l.length = a.length + (b.length + 1) := by
 rcases h with ⟨h, _⟩ | ⟨_, rfl, h⟩
 ·cases h
 ·exact ⟨N.split_at h b, by rw [List.length_append, List.length_cons]⟩
theorem CutIs.small {l a b : List UInt8} {c : UInt8} {f : Bool} (h : CutIs c l a b f) (hl : l.length ≤ 100) : a.length ≤ 100 ∧ b.length ≤ 100 := by
 rcases h with ⟨_, rfl, rfl, _⟩ | ⟨_, rfl, _⟩
 ·exact ⟨hl, Nat.zero_le _⟩
 ·rw [List.length_append, List.length_cons] at hl; omega
theorem split_pos (c : UInt8) (l : List UInt8) : 1 ≤ (N.splitL c l).length := List.length_pos_iff.2 (N.split_ne c l)
theorem oct_two (a : List UInt8) : (okA (N.octL a) = (0, false) ∧ N.octL a < 0) ∨ (∃ b : Nat, okA (N.octL a) = ((b : Int), true) ∧ N.octL a = (b : Int) ∧ b < 256) := by
 rcases N.oct_cases a with h | ⟨b, h, h2, _⟩
 ·exact .inl ⟨by rw [h]; rfl, by rw [h]; decide⟩
 ·exact .inr ⟨b, by rw [h, okA_nat], h, h2⟩
set_option maxRecDepth 100000 in
set_option maxHeartbeats 4000000 in
theorem ip_any10 (s : ByteArray) (z : Int) (ok : Bool) (w : World) (hs : s.size ≤ 100) (hz : okA (N.ipL s.data.toList) = (z, ok)) : Calls Tryz.prog 122 #[.string s] w (fun e w' => e = .returned (.tuple #[.int .i64 z, .bool ok]) ∧ Below w.heap.size w w') := by
 have hsz : s.data.toList.length = s.size := by simp
 obtain ⟨l, hl⟩ : ∃ l, s.data.toList = l := ⟨_, rfl⟩
 have hll : l.length ≤ 100 := by rw [← hl, hsz]; exact hs
 have HS := Lib.hid (show s = sB l by rw [← hl, sv_is])
 rw [hl] at hz
 have HZ := Lib.hid hz
 clear hz hsz hl hs
 obtain rfl := HS.out
 go_enter Tryz.func122, Tryz.ntmps122
 go_wp2
 go_loopg [0, 4, 5] 4 (fun gk vs vn vl wr => ∃ (L : List (List UInt8)) (r : List UInt8) (n : Nat) (y : Int), Hid (y + 1 = (gk : Int)) ∧ vs = .string (sB r) ∧ vn = .int .i64 (n : Int) ∧ vl = .int .i64 y ∧ Hid (r.length ≤ 100) ∧ Hid (IpAt l gk L r n) ∧ Hid (n < 4294967296) ∧ Below w.heap.size w wr)
 case atStart => exact ⟨[], l, 0, 3, rfl, rfl, rfl, rfl, hll, IpAt.start l, (by show 0 < _; omega), Below.refl _ _⟩
 case round =>
  obtain ⟨L, r, n, y0, HY, rfl, rfl, rfl, HR, HI, HN, hbr⟩ := hrel
  by_cases hy : 0 ≤ y0
  ·obtain ⟨y, rfl⟩ := Int.eq_ofNat_of_zero_le hy
   have c1 : decide ((0 : Int) ≤ (y : Int)) = true := decide_eq_true hy
   obtain rfl : y + 1 = gk := by have := HY.out; omega
   have hL3 : L.length ≤ 3 := by have := HI.out.len; omega
   have HN2 := Lib.hid (acc_smallC L n hL3 HI.out.good HI.out.sum)
   have hsr : (sB r).size ≤ 1073741824 := by rw [sB_size]; have := HR.out; omega
   clear hL3 hy
   go_wp2_with fail
   refine (cut_any10 (sB r) 46 _ hsr).mono ?_
   rintro e w1 ⟨⟨a, b, f, rfl, hc⟩, hb1⟩
   rw [sB_data] at hc
   have HAB := Lib.hid (hc.small HR.out)
   have HB1 := Lib.hid (bthen hbr hb1)
   have has : (sB a).size ≤ 1073741824 := by rw [sB_size]; have := HAB.out.1; omega
   clear hb1 hsr
   rcases oct_two a with ⟨hoa, hneg⟩ | ⟨d, hoa, hod, hd⟩
   ·have HNUM := Lib.hid (show numA (sB a).data.toList 0 255 = (0, false) by rw [sB_data, numA_oct, hoa])
    have HE := Lib.hid (show z = 0 ∧ ok = false by
     have e : N.ipL l = -1 := by
      cases f with
      | false => exact HI.out.bad (by omega) (cut_false hc).1 hneg
      | true => exact HI.out.bad (by omega) (cut_true hc).1 hneg
     have := HZ.out
     rw [e] at this
     exact ⟨(congrArg Prod.fst this).symm, (congrArg Prod.snd this).symm⟩)
    clear hc hoa hneg
    obtain ⟨rfl, rfl⟩ := HE.out
    go_wp2_with fail
    refine (num_any10 (sB a) 0 255 0 false _ has HNUM.out).mono ?_
    rintro e w2 ⟨rfl, rfl⟩
    go_wp2
    go_ret2
    exact ⟨rfl, HB1.out⟩
   ·have HNUM := Lib.hid (show numA (sB a).data.toList 0 255 = ((d : Int), true) by rw [sB_data, numA_oct, hoa])
    have HD := Lib.hid hd
    have HOD := Lib.hid hod
    have e8 := shl8C HN2.out
    have e9 := or8C HN2.out hd
    obtain ⟨m, hm⟩ : ∃ m, 256 * n = m := ⟨_, rfl⟩
    obtain ⟨n2, hn2⟩ : ∃ k, 256 * n + d = k := ⟨_, rfl⟩
    rw [hn2] at e9
    rw [hm] at e8 e9
    have HM := Lib.hid hn2
    have HMB := Lib.hid (show n2 < 4294967296 by have := HN2.out; omega)
    have hmb : m < 4294967296 := by have := HN2.out; omega
    clear hd hod hoa hm hn2
    by_cases hy0 : y = 0
    ·subst hy0
     cases f with
     | true =>
      have HE := Lib.hid (show z = 0 ∧ ok = false by
       have e : N.ipL l = -1 := HI.out.wrong (by omega) (by rw [(cut_true hc).1, List.length_cons]; have := split_pos 46 b; omega)
       have := HZ.out
       rw [e] at this
       exact ⟨(congrArg Prod.fst this).symm, (congrArg Prod.snd this).symm⟩)
      clear hc
      obtain ⟨rfl, rfl⟩ := HE.out
      go_wp2_with fail
      refine (num_any10 (sB a) 0 255 (d : Int) true _ has HNUM.out).mono ?_
      rintro e w2 ⟨rfl, rfl⟩
      go_wp2
      go_ret2
      exact ⟨rfl, HB1.out⟩
     | false =>
      have HI2 := Lib.hid (show IpAt l 0 (L ++ [a]) b n2 by rw [← HM.out]; exact HI.out.next HOD.out (.inr ⟨rfl, (cut_false hc).1⟩))
      clear hc
      go_wp2_with fail
      refine (num_any10 (sB a) 0 255 (d : Int) true _ has HNUM.out).mono ?_
      rintro e w2 ⟨rfl, rfl⟩
      go_wp2
      go_roundg 0
      case rel => exact ⟨L ++ [a], b, n2, -1, (by show _ = _; rfl), by go_num, by go_num, by go_num, HAB.out.2, HI2.out, HMB.out, HB1.out⟩
      case measure => omega
    ·have c2 : decide ((0 : Int) < (y : Int)) = true := decide_eq_true (by omega)
     have c2b : decide (0 < y) = true := decide_eq_true (by omega)
     cases f with
     | false =>
      have HE := Lib.hid (show z = 0 ∧ ok = false by
       have e : N.ipL l = -1 := HI.out.wrong (by omega) (by rw [(cut_false hc).1, List.length_singleton]; omega)
       have := HZ.out
       rw [e] at this
       exact ⟨(congrArg Prod.fst this).symm, (congrArg Prod.snd this).symm⟩)
      clear hc
      obtain ⟨rfl, rfl⟩ := HE.out
      go_wp2_with fail
      refine (num_any10 (sB a) 0 255 (d : Int) true _ has HNUM.out).mono ?_
      rintro e w2 ⟨rfl, rfl⟩
      go_wp2
      go_ret2
      exact ⟨rfl, HB1.out⟩
     | true =>
      have HI2 := Lib.hid (show IpAt l y (L ++ [a]) b n2 by rw [← HM.out]; exact HI.out.next HOD.out (.inl ⟨by omega, (cut_true hc).1⟩))
      obtain ⟨y1, hy1⟩ : ∃ k, y - 1 = k := ⟨_, rfl⟩
      have HYP := Lib.hid (show (y1 : Int) + 1 = (y : Int) by omega)
      have e7 : (y : Int) - 1 = (y1 : Int) := by omega
      have hy1b : y1 ≤ 4 := by have := HI.out.len; omega
      clear hy1
      clear hc
      go_wp2_with fail
      refine (num_any10 (sB a) 0 255 (d : Int) true _ has HNUM.out).mono ?_
      rintro e w2 ⟨rfl, rfl⟩
      go_wp2
      go_roundg y
      case rel => exact ⟨L ++ [a], b, n2, (y1 : Int), HYP.out, by go_num, by go_num, by go_num, HAB.out.2, HI2.out, HMB.out, HB1.out⟩
      case measure => omega
  ·have c1 : decide ((0 : Int) ≤ y0) = false := decide_eq_false hy
   obtain rfl : gk = 0 := by have := HY.out; omega
   have HE := Lib.hid (show z = (n : Int) ∧ ok = true by
    have := HZ.out
    rw [HI.out.all, okA_nat] at this
    exact ⟨(congrArg Prod.fst this).symm, (congrArg Prod.snd this).symm⟩)
   obtain ⟨rfl, rfl⟩ := HE.out
   go_wp2
   go_ret2
   exact ⟨rfl, hbr⟩
set_option maxRecDepth 100000 in
set_option maxHeartbeats 2000000 in
theorem in_any10 (n bits ip : Int) (r : Bool) (w : World) (hn : I64 n) (hb : I64 bits) (hi : I64 ip) (hr : N.inB n bits ip = r) : Calls Tryz.prog 162 #[.int .i64 n, .int .i64 bits, .int .i64 ip] w (fun e w' => e = .returned (.bool r) ∧ Below w.heap.size w w') := by
 obtain ⟨q, hq⟩ : ∃ q, N.rightB n bits = q := ⟨_, rfl⟩
 have HQ := Lib.hid hq
 cases q with
 | false =>
  have HE := Lib.hid (show false = r by rw [← hr]; unfold N.inB; rw [hq]; rfl)
  clear hr hq hn hb hi
  go_enter Tryz.func162, Tryz.ntmps162
  go_wp2
  go_quiet (first | (go_at_call 152; exact Calls.quiet_of_same (calls_sym (isPref_any10 _ _ _ _ HQ.out))) | (go_at_call 174; exact Calls.quiet_of_same (calls_sym (belowIP 0 true _ rfl))))
  go_wp2
  go_ret
  exact ⟨by rw [← HE.out]; rfl, below_drawn10 (Below.refl _ _) _⟩
 | true =>
  obtain ⟨g1, g2, g3, g4⟩ := right_nums hq
  obtain ⟨v, hv⟩ : ∃ v, (decide (0 ≤ ip) && decide (ip < 4294967296)) = v := ⟨_, rfl⟩
  have HV := Lib.hid hv
  cases v with
  | false =>
   have HE := Lib.hid (show false = r by rw [← hr]; unfold N.inB; rw [hq, Bool.true_and, hv]; rfl)
   clear hr hq hn hb hi hv g1 g2 g3 g4
   go_enter Tryz.func162, Tryz.ntmps162
   go_wp2
   go_quiet (first | (go_at_call 152; exact Calls.quiet_of_same (calls_sym (isPref_any10 _ _ _ _ HQ.out))) | (go_at_call 174; exact Calls.quiet_of_same (calls_sym (belowIP _ _ _ HV.out))))
   go_wp2
   go_ret
   exact ⟨by rw [← HE.out]; rfl, below_drawn10 (Below.refl _ _) _⟩
  | true =>
   have hv2 := hv
   rw [Bool.and_eq_true, decide_eq_true_eq, decide_eq_true_eq] at hv2
   obtain ⟨nn, rfl⟩ := Int.eq_ofNat_of_zero_le g1
   obtain ⟨ii, rfl⟩ := Int.eq_ofNat_of_zero_le hv2.1
   obtain ⟨k, hk⟩ : ∃ k : Nat, (32 - bits).toNat = k := ⟨_, rfl⟩
   have hk2 : 32 - bits = (k : Int) := by omega
   have hk3 : k ≤ 32 := by omega
   obtain ⟨p, hp⟩ : ∃ p, 2 ^ k = p := ⟨_, rfl⟩
   obtain ⟨qi, hqi⟩ : ∃ q, ii / p = q := ⟨_, rfl⟩
   obtain ⟨qn, hqn⟩ : ∃ q, nn / p = q := ⟨_, rfl⟩
   have d1 : (ii : Int) / (2 : Int) ^ k = (qi : Int) := by rw [← hqi, ← hp, Int.natCast_ediv, Int.natCast_pow]; rfl
   have d2 : (nn : Int) / (2 : Int) ^ k = (qn : Int) := by rw [← hqn, ← hp, Int.natCast_ediv, Int.natCast_pow]; rfl
   have sb : IntKind.i64.wrap (32 - bits) = (k : Int) := by rw [hk2]; rw [IntKind.wrap_i64]; omega
   have HF := Lib.hid (show ((ii : Int) / 2 ^ min k 64 == (nn : Int) / 2 ^ min k 64) = r by
    rw [← hr, show min k 64 = k by omega, d1, d2]; unfold N.inB
    rw [hq, decide_eq_true hv2.1, decide_eq_true hv2.2, hk, hp]
    show _ = decide ((ii : Int) / (p : Int) = (nn : Int) / (p : Int))
    rw [← Int.natCast_ediv, ← Int.natCast_ediv, hqi, hqn, Bool.eq_iff_iff, decide_eq_true_eq, beq_iff_eq])
   clear d1 d2 hr hq hqi hqn hk hp hk2 hk3 hv hv2 hn hb hi g1 g2 g3 g4
   go_enter Tryz.func162, Tryz.ntmps162
   go_wp2
   go_quiet (first | (go_at_call 152; exact Calls.quiet_of_same (calls_sym (isPref_any10 _ _ _ _ HQ.out))) | (go_at_call 174; exact Calls.quiet_of_same (calls_sym (belowIP _ _ _ HV.out))))
   go_wp2
   go_ret
   exact ⟨by rw [← HF.out]; rfl, below_drawn10 (Below.refl _ _) _⟩
theorem pref_of {l a b : List UInt8} {f : Bool} (h : CutIs 47 l a b f) : N.prefL l = if N.rightB (N.ipL a) (N.numL b) = true then (N.ipL a, N.numL b) else (-1, 0) := by
 cases f with
 | false =>
  obtain ⟨e, _⟩ := cut_false h
  obtain rfl : b = [] := by
   rcases h with ⟨_, _, e, _⟩ | ⟨e, _⟩
   ·exact e
   ·cases e
  have hn : N.numL [] = -1 := rfl
  have hr : N.rightB (N.ipL a) (N.numL []) = false := by
   rw [hn]; unfold N.rightB; rw [decide_eq_false (show ¬ (0 : Int) ≤ -1 by omega), Bool.and_false, Bool.false_and, Bool.false_and]
  unfold N.prefL
  rw [e, hr]
  rfl
 | true =>
  obtain ⟨e, _⟩ := cut_true h
  unfold N.prefL
  rw [e]
  by_cases hm : (47 : UInt8) ∈ b
  ·have hn : N.numL b = -1 := num_bad hm (by decide)
   have hr : N.rightB (N.ipL a) (N.numL b) = false := by
    rw [hn]; unfold N.rightB; rw [decide_eq_false (show ¬ (0 : Int) ≤ -1 by omega), Bool.and_false, Bool.false_and, Bool.false_and]
   rw [hr]
   split
   ·rename_i x y hxy
    injection hxy with h1 h2
    rcases N.index_cases b 47 with ⟨_, h3⟩ | ⟨i, _, _, h4, h5⟩
    ·exact absurd hm h3
    ·rw [N.split_hit h4 h5] at h2
     injection h2 with h2 h6
     exact absurd h6 (N.split_ne _ _)
   ·rfl
  ·rw [N.split_one hm]
theorem prefA_none {l : List UInt8} (h : N.prefL l = (-1, 0)) : prefA l = (0, 0, false) := by unfold prefA; rw [h]; rfl
theorem not_right {n b : Int} (h : n < 0 ∨ b < 0 ∨ 32 < b) : N.rightB n b = false := by
 cases hr : N.rightB n b with
 | false => rfl
 | true => have := right_nums hr; omega
set_option maxRecDepth 100000 in
set_option maxHeartbeats 2000000 in
theorem pref_any10 (s : ByteArray) (n b : Int) (ok : Bool) (w : World) (hs : s.size ≤ 100) (hz : prefA s.data.toList = (n, b, ok)) : Calls Tryz.prog 123 #[.string s] w (fun e w' => e = .returned (.tuple #[.int .i64 n, .int .i64 b, .bool ok]) ∧ Below w.heap.size w w') := by
 have hsz : s.data.toList.length = s.size := by simp
 have HL := Lib.hid (show s.data.toList.length ≤ 100 by rw [hsz]; exact hs)
 have HZ := Lib.hid hz
 have hs2 : s.size ≤ 1073741824 := by omega
 clear hz hsz
 go_enter Tryz.func123, Tryz.ntmps123
 go_wp2_with fail
 refine (cut_any10 s 47 _ hs2).mono ?_
 rintro e w1 ⟨⟨x, y, f, rfl, hc⟩, hb1⟩
 have HAB := Lib.hid (hc.small HL.out)
 have HP := Lib.hid (pref_of hc)
 have HB1 := Lib.hid hb1
 have hxs : (sB x).size ≤ 100 := by rw [sB_size]; exact HAB.out.1
 have hys : (sB y).size ≤ 1073741824 := by rw [sB_size]; have := HAB.out.2; omega
 clear hb1 hc hs hs2
 rcases N.ip_cases x with hi | ⟨ni, hi, hi2, _⟩
 ·have HI := Lib.hid (show okA (N.ipL (sB x).data.toList) = (0, false) by rw [sB_data, hi]; rfl)
  have HE := Lib.hid (show n = 0 ∧ b = 0 ∧ ok = false by
   have := HZ.out
   rw [prefA_none (by rw [HP.out, not_right (.inl (by omega)), if_neg (by decide)])] at this
   exact ⟨(congrArg Prod.fst this).symm, (congrArg (fun q => q.2.1) this).symm, (congrArg (fun q => q.2.2) this).symm⟩)
  obtain ⟨rfl, rfl, rfl⟩ := HE.out
  obtain ⟨zn, okn, hnum⟩ : ∃ zn okn, numA (sB y).data.toList 0 32 = (zn, okn) := ⟨_, _, rfl⟩
  have HNUM := Lib.hid hnum
  clear hi hnum
  go_wp2_with fail
  refine (ip_any10 (sB x) 0 false _ hxs HI.out).mono ?_
  rintro e w2 ⟨rfl, hx⟩
  have HB2 := Lib.hid (bthen HB1.out hx)
  clear hx
  go_wp2_with fail
  refine (num_any10 (sB y) 0 32 zn okn _ hys HNUM.out).mono ?_
  rintro e w3 ⟨rfl, rfl⟩
  go_wp2
  go_ret3
  exact ⟨rfl, HB2.out⟩
 ·have HI := Lib.hid (show okA (N.ipL (sB x).data.toList) = ((ni : Int), true) by rw [sB_data, hi, okA_nat])
  rcases N.num_cases y with hn | ⟨k, hn, _, _⟩
  ·have HNUM := Lib.hid (show numA (sB y).data.toList 0 32 = (0, false) by rw [sB_data]; unfold numA; rw [hn]; rfl)
   have HE := Lib.hid (show n = 0 ∧ b = 0 ∧ ok = false by
    have := HZ.out
    rw [prefA_none (by rw [HP.out, not_right (.inr (.inl (by omega))), if_neg (by decide)])] at this
    exact ⟨(congrArg Prod.fst this).symm, (congrArg (fun q => q.2.1) this).symm, (congrArg (fun q => q.2.2) this).symm⟩)
   obtain ⟨rfl, rfl, rfl⟩ := HE.out
   clear hi hi2 hn
   go_wp2_with fail
   refine (ip_any10 (sB x) (ni : Int) true _ hxs HI.out).mono ?_
   rintro e w2 ⟨rfl, hx⟩
   have HB2 := Lib.hid (bthen HB1.out hx)
   clear hx
   go_wp2_with fail
   refine (num_any10 (sB y) 0 32 0 false _ hys HNUM.out).mono ?_
   rintro e w3 ⟨rfl, rfl⟩
   go_wp2
   go_ret3
   exact ⟨rfl, HB2.out⟩
  ·by_cases hk : k ≤ 32
   ·have HNUM := Lib.hid (show numA (sB y).data.toList 0 32 = ((k : Int), true) by rw [sB_data]; unfold numA; rw [hn, if_pos (by omega)])
    obtain ⟨v, hv⟩ : ∃ v, N.rightB (ni : Int) (k : Int) = v := ⟨_, rfl⟩
    have HV := Lib.hid hv
    cases v with
    | false =>
     have HE := Lib.hid (show n = 0 ∧ b = 0 ∧ ok = false by
      have := HZ.out
      rw [prefA_none (by rw [HP.out, hi, hn, hv, if_neg (by decide)])] at this
      exact ⟨(congrArg Prod.fst this).symm, (congrArg (fun q => q.2.1) this).symm, (congrArg (fun q => q.2.2) this).symm⟩)
     obtain ⟨rfl, rfl, rfl⟩ := HE.out
     clear hi hi2 hn hv hk
     go_wp2_with fail
     refine (ip_any10 (sB x) (ni : Int) true _ hxs HI.out).mono ?_
     rintro e w2 ⟨rfl, hx⟩
     have HB2 := Lib.hid (bthen HB1.out hx)
     clear hx
     go_wp2_with fail
     refine (num_any10 (sB y) 0 32 (k : Int) true _ hys HNUM.out).mono ?_
     rintro e w3 ⟨rfl, rfl⟩
     go_wp2_with fail
     refine (isPref_any10 _ _ false _ HV.out).mono ?_
     rintro e w4 ⟨rfl, rfl⟩
     go_wp2
     go_ret3
     exact ⟨rfl, HB2.out⟩
    | true =>
     have HE := Lib.hid (show n = (ni : Int) ∧ b = (k : Int) ∧ ok = true by
      have := HZ.out
      unfold prefA at this
      rw [HP.out, hi, hn, hv, if_pos rfl, if_pos (show (0 : Int) ≤ (ni : Int) by omega)] at this
      exact ⟨(congrArg Prod.fst this).symm, (congrArg (fun q => q.2.1) this).symm, (congrArg (fun q => q.2.2) this).symm⟩)
     obtain ⟨rfl, rfl, rfl⟩ := HE.out
     clear hi hi2 hn hv hk
     go_wp2_with fail
     refine (ip_any10 (sB x) (ni : Int) true _ hxs HI.out).mono ?_
     rintro e w2 ⟨rfl, hx⟩
     have HB2 := Lib.hid (bthen HB1.out hx)
     clear hx
     go_wp2_with fail
     refine (num_any10 (sB y) 0 32 (k : Int) true _ hys HNUM.out).mono ?_
     rintro e w3 ⟨rfl, rfl⟩
     go_wp2_with fail
     refine (isPref_any10 _ _ true _ HV.out).mono ?_
     rintro e w4 ⟨rfl, rfl⟩
     go_wp2
     go_ret3
     exact ⟨rfl, HB2.out⟩
   ·have HNUM := Lib.hid (show numA (sB y).data.toList 0 32 = (0, false) by rw [sB_data]; unfold numA; rw [hn, if_neg (by omega)])
    have HE := Lib.hid (show n = 0 ∧ b = 0 ∧ ok = false by
     have := HZ.out
     rw [prefA_none (by rw [HP.out, not_right (.inr (.inr (by omega))), if_neg (by decide)])] at this
     exact ⟨(congrArg Prod.fst this).symm, (congrArg (fun q => q.2.1) this).symm, (congrArg (fun q => q.2.2) this).symm⟩)
    obtain ⟨rfl, rfl, rfl⟩ := HE.out
    clear hi hi2 hn hk
    go_wp2_with fail
    refine (ip_any10 (sB x) (ni : Int) true _ hxs HI.out).mono ?_
    rintro e w2 ⟨rfl, hx⟩
    have HB2 := Lib.hid (bthen HB1.out hx)
    clear hx
    go_wp2_with fail
    refine (num_any10 (sB y) 0 32 0 false _ hys HNUM.out).mono ?_
    rintro e w3 ⟨rfl, rfl⟩
    go_wp2
    go_ret3
    exact ⟨rfl, HB2.out⟩
theorem shl4C {n : Nat} (h : n < 281474976710656) : (n : Int) * 16 = ((16 * n : Nat) : Int) := by omega
theorem or4C {n b : Nat} (h : n < 281474976710656) (hb : b < 16) : Go.bits .or .i64 ((16 * n : Nat) : Int) (b : Int) = ((16 * n + b : Nat) : Int) := by
 have h1 : 16 * n + b < 9223372036854775808 := by omega
 exact N.or_low n b 4 16 rfl hb h1
theorem hexStr : (⟨#[48, 49, 50, 51, 52, 53, 54, 55, 56, 57, 97, 98, 99, 100, 101, 102]⟩ : ByteArray).data.toList = N.hexDigs := rfl
theorem run_lt2 : ∀ (l : List UInt8) (i n m : Nat), N.macRun i n l = some m → m < (n + 1) * 16 ^ (l.length - (l.length + i % 3) / 3)
 | [], i, n, m, h => by
  obtain rfl : n = m := Option.some.inj h
  have hp : 0 < 16 ^ (([] : List UInt8).length - (([] : List UInt8).length + i % 3) / 3) := Nat.pow_pos (by omega)
  have := Nat.mul_le_mul_left (n + 1) hp
  omega
 | c :: r, i, n, m, h => by
  by_cases h3 : i % 3 = 2
  ·obtain ⟨_, e⟩ := N.run_colon h3 h
   have h1 := run_lt2 r (i + 1) n m e
   have e2 : r.length - (r.length + (i + 1) % 3) / 3 = (c :: r).length - ((c :: r).length + i % 3) / 3 := by rw [List.length_cons]; omega
   rw [e2] at h1
   exact h1
  ·obtain ⟨d, hd, _, e⟩ := N.run_digit h3 h
   have h1 := run_lt2 r (i + 1) (16 * n + d) m e
   have e2 : (c :: r).length - ((c :: r).length + i % 3) / 3 = (r.length - (r.length + (i + 1) % 3) / 3) + 1 := by rw [List.length_cons]; omega
   rw [e2, Nat.pow_succ, Nat.mul_comm (16 ^ _) 16, ← Nat.mul_assoc]
   have h2 : (16 * n + d + 1) * 16 ^ (r.length - (r.length + (i + 1) % 3) / 3) ≤ (n + 1) * 16 * 16 ^ (r.length - (r.length + (i + 1) % 3) / 3) := Nat.mul_le_mul_right _ (by omega)
   omega
theorem run_small {l : List UInt8} {m : Nat} (hl : l.length ≤ 17) (h : N.macRun 0 0 l = some m) : m < 281474976710656 := by
 have h1 := run_lt2 l 0 0 m h
 have h2 : 16 ^ (l.length - (l.length + 0 % 3) / 3) ≤ 16 ^ 12 := Nat.pow_le_pow_right (by omega) (by omega)
 have h3 : 16 ^ 12 = 281474976710656 := rfl
 rw [h3] at h2
 omega
set_option maxRecDepth 100000 in
set_option maxHeartbeats 4000000 in
theorem mac_any10 (s : ByteArray) (z : Int) (ok : Bool) (w : World) (hz : okA (N.macL s.data.toList) = (z, ok)) : Calls Tryz.prog 124 #[.string s] w (fun e w' => e = .returned (.tuple #[.int .i64 z, .bool ok]) ∧ w = w') := by
 have hsz : s.data.toList.length = s.size := by simp
 by_cases h17 : s.size = 17
 ·have b1 : ((s.size : Int) == 17) = true := by simp; omega
  have b1b : (s.size == 17) = true := by simp; omega
  have b1c : ((s.size : Int) != 17) = false := by simp; omega
  have HSZ := Lib.hid (show s.data.toList.length = 17 by rw [hsz]; exact h17)
  have HZ := Lib.hid hz
  have H17 := Lib.hid h17
  clear hz hsz h17
  go_enter Tryz.func124, Tryz.ntmps124
  go_wp2
  go_loopg [4, 5] 17 (fun gk vn vi wr => ∃ (k n : Nat), Hid (k + gk = 17) ∧ vi = .int .i64 (k : Int) ∧ vn = .int .i64 (n : Int) ∧ Hid (N.macRun 0 0 (s.data.toList.take k) = some n) ∧ w = wr)
  case atStart => exact ⟨0, 0, (by show _ = _; rfl), rfl, rfl, rfl, rfl⟩
  case round =>
   obtain ⟨k, n, HG, rfl, rfl, HR, rfl⟩ := hrel
   have hgk := HG.out
   by_cases hlt : k < s.size
   ·have blt : decide ((k : Int) < (s.size : Int)) = true := decide_eq_true (by omega)
    have blt2 : decide (k < s.size) = true := decide_eq_true hlt
    have hki : (k : Int) < (s.size : Int) := by omega
    have hx := s[k].toNat_lt
    have hk17 : k < 17 := by have := H17.out; omega
    have hll : k < s.data.toList.length := by rw [HSZ.out]; exact hk17
    have hget : s.data.toList[k] = s[k] := rfl
    have HN := Lib.hid (run_small (by rw [List.length_take]; omega) HR.out)
    by_cases hm : k % 3 = 2
    ·have e1 : Int.tmod (k : Int) 3 = 2 := by rw [Int.tmod_eq_emod_of_nonneg (by omega)]; omega
     by_cases hc : s[k] = 58
     ·have b2 : ((s[k].toNat : Int) == 58) = true := by rw [hc]; rfl
      have HS := Lib.hid (N.run_snoc hll HR.out (show N.macStep k n s.data.toList[k] = some n by rw [N.mac_colon hm, hget, if_pos hc]))
      clear hc hm hget
      go_wp2
      go_roundg (17 - (k + 1))
      case rel => exact ⟨k + 1, n, (by show _ = _; omega), by go_num, by go_num, HS.out, rfl⟩
      case measure => omega
     ·have hne : s[k].toNat ≠ 58 := fun e => hc (UInt8.toNat_inj.1 e)
      have b2 : ((s[k].toNat : Int) == 58) = false := by simp; omega
      have HE := Lib.hid (show z = 0 ∧ ok = false by
       have := HZ.out
       rw [N.run_none_at hll HR.out (by rw [N.mac_colon hm, hget, if_neg hc])] at this
       exact ⟨(congrArg Prod.fst this).symm, (congrArg Prod.snd this).symm⟩)
      obtain ⟨rfl, rfl⟩ := HE.out
      clear hc hm hget hne
      go_wp2
      go_ret2
      exact ⟨rfl, rfl⟩
    ·have hmi : Int.tmod (k : Int) 3 = ((k % 3 : Nat) : Int) := by rw [Int.tmod_eq_emod_of_nonneg (by omega)]; omega
     obtain ⟨m3, hm3⟩ : ∃ m, k % 3 = m := ⟨_, rfl⟩
     rw [hm3] at hmi
     have b2 : ((m3 : Int) == 2) = false := beq_eq_false_iff_ne.2 (by omega)
     have b2b : (m3 == 2) = false := beq_eq_false_iff_ne.2 (by omega)
     have HIX := Lib.hid (show Lib.indexByte (⟨#[48, 49, 50, 51, 52, 53, 54, 55, 56, 57, 97, 98, 99, 100, 101, 102]⟩ : ByteArray).data.toList s[k] = N.hexV s[k] by rw [hexStr]; exact N.hex_index _)
     rcases N.hex_cases s[k] with hh | ⟨d, hh, hd, _⟩
     ·have HV := Lib.hid (HIX.out.trans hh)
      have HE := Lib.hid (show z = 0 ∧ ok = false by
       have := HZ.out
       rw [N.run_none_at hll HR.out (by rw [N.mac_digit hm, hget, if_pos (by omega)])] at this
       exact ⟨(congrArg Prod.fst this).symm, (congrArg Prod.snd this).symm⟩)
      obtain ⟨rfl, rfl⟩ := HE.out
      clear hm hget hh hm3
      go_wp2_with fail
      refine (indexByte_any _ _ _).mono ?_
      rintro e w1 ⟨rfl, rfl⟩
      rw [HV.out]
      go_wp2
      go_ret2
      exact ⟨rfl, rfl⟩
     ·have HV := Lib.hid (HIX.out.trans hh)
      have HS := Lib.hid (N.run_snoc hll HR.out (show N.macStep k n s.data.toList[k] = some (16 * n + d) by rw [N.mac_digit hm, hget, hh, if_neg (by omega), Int.toNat_natCast]))
      have e8 := shl4C HN.out
      have e9 := or4C HN.out hd
      obtain ⟨m, hmm⟩ : ∃ m, 16 * n = m := ⟨_, rfl⟩
      obtain ⟨n2, hn2⟩ : ∃ k, 16 * n + d = k := ⟨_, rfl⟩
      have HN2 := Lib.hid hn2
      have hmb : m < 4503599627370496 := by have := HN.out; omega
      rw [hn2] at e9
      rw [hmm] at e8 e9
      clear hm hget hh hm3 hd hn2 hmm
      go_wp2_with fail
      refine (indexByte_any _ _ _).mono ?_
      rintro e w1 ⟨rfl, rfl⟩
      rw [HV.out]
      go_wp2
      go_roundg (17 - (k + 1))
      case rel => exact ⟨k + 1, n2, (by show _ = _; omega), by go_num, by go_num, by rw [← HN2.out]; exact HS.out, rfl⟩
      case measure => omega
   ·have blt : decide ((k : Int) < (s.size : Int)) = false := decide_eq_false (by omega)
    have blt2 : decide (k < s.size) = false := decide_eq_false hlt
    have HE := Lib.hid (show z = (n : Int) ∧ ok = true by
     have h1 := HR.out
     rw [List.take_of_length_le (by rw [HSZ.out]; have := H17.out; omega)] at h1
     have := HZ.out
     rw [N.run_mac HSZ.out h1, okA_nat] at this
     exact ⟨(congrArg Prod.fst this).symm, (congrArg Prod.snd this).symm⟩)
    obtain ⟨rfl, rfl⟩ := HE.out
    go_wp2
    go_ret2
    exact ⟨rfl, rfl⟩
 ·have b1 : ((s.size : Int) == 17) = false := by simp; omega
  have b1b : (s.size == 17) = false := by simp; omega
  rw [N.mac_short (by rw [hsz]; exact h17)] at hz
  have HE := Lib.hid (show z = 0 ∧ ok = false from ⟨(congrArg Prod.fst hz).symm, (congrArg Prod.snd hz).symm⟩)
  obtain ⟨rfl, rfl⟩ := HE.out
  clear hz hsz h17
  go_enter Tryz.func124, Tryz.ntmps124
  go_wp2
  go_ret2
  exact ⟨rfl, rfl⟩
-- TEXTS
end Go.Proofs.YtfcikfohmehmkaaGreatDoor
namespace Go.Proofs.YtfcikfohmehmkaaGreatDoor
open Go.ChangeShapes Go.WideShapes Go.ChangeAt Go.RowKit
open F
set_option linter.unusedVariables false
def Wd (l : List Nat) : Prop := ∀ x ∈ l, x < 18446744073709551616
end Go.Proofs.YtfcikfohmehmkaaGreatDoor
namespace Go.Proofs.YtfcikfohmehmkaaGreatDoor
namespace F
open Ieee
open T (decL decL_small decL_big decL_len)
open N (digB valL val_snoc)
set_option linter.unusedVariables false
theorem sign_set {x : Nat} (h : x < 9223372036854775808) : negW x = x + 9223372036854775808 := by
 obtain ⟨a, b, c⟩ := neg_parts (x := x) (by omega)
 have e : negB x = false := decide_eq_false (by omega)
 have e2 : rung x = x := Nat.mod_eq_of_lt h
 rw [e2] at a
 rw [e] at b
 have b2 : 9223372036854775808 ≤ negW x := of_decide_eq_true b
 unfold rung at a
 omega
def digsB (l : List UInt8) (k : Nat) : Bool := !l.isEmpty && decide (l.length ≤ k) && l.all digB
def wholeB (a : List UInt8) : Bool := digsB a 6 && (decide (a = [48]) || decide (a.head? ≠ some 48))
def partB (b : List UInt8) : Bool := digsB b 3 && decide (b.getLast? ≠ some 48)
theorem int_whole (a : List UInt8) : (intOk a && a.all digB) = wholeB a := by
 unfold wholeB digsB intOk
 rcases a with _ | ⟨c, a⟩
 ·rfl
 ·cases h : (c :: a).all digB
  ·simp
  ·rcases a with _ | ⟨d, a⟩
   ·simp
   ·by_cases e : c = 48 <;> simp [e]
theorem part_frac (b : List UInt8) : fracOk (46 :: b) = partB b := by
 have e : fracOk (46 :: b) = (decide ((46 : UInt8) = 46) && !b.isEmpty && decide (b.getLast? ≠ some 48) && decide (b.length ≤ 3) && b.all digB) := rfl
 rw [e]
 unfold partB digsB
 generalize b.isEmpty = x; generalize b.all digB = y; generalize decide (b.getLast? ≠ some 48) = z; generalize decide (b.length ≤ 3) = u
 cases x <;> cases y <;> cases z <;> cases u <;> rfl
theorem dig_46 : digB 46 = false := by decide
theorem drop_bad (l : List UInt8) (h : l.all digB = false) : ∃ p c f, l = p ++ c :: f ∧ (∀ x ∈ p, digB x = true) ∧ digB c = false := by
 induction l with
 | nil => simp at h
 | cons x l ih =>
  cases hx : digB x
  ·exact ⟨[], x, l, rfl, by simp, hx⟩
  ·rw [List.all_cons, hx, Bool.true_and] at h
   obtain ⟨p, c, f, rfl, hp, hc⟩ := ih h
   exact ⟨x :: p, c, f, rfl, fun y hy => (List.mem_cons.1 hy).elim (fun e => e ▸ hx) (fun hy => hp y hy), hc⟩
theorem frac_bad {c : UInt8} (f : List UInt8) (h : c ≠ 46) : fracOk (c :: f) = false := by
 have e : fracOk (c :: f) = (decide (c = 46) && !f.isEmpty && decide (f.getLast? ≠ some 48) && decide (f.length ≤ 3) && f.all digB) := rfl
 rw [e, decide_eq_false h]; rfl
theorem tho_cut {l a b : List UInt8} {f : Bool} (h : (f = false ∧ a = l ∧ b = [] ∧ (46 : UInt8) ∉ l) ∨ (f = true ∧ l = a ++ 46 :: b ∧ (46 : UInt8) ∉ a)) :
  thoL l = if (wholeB a && (!f || partB b)) = true then some (valL (a ++ b) * 10 ^ (3 - b.length)) else none := by
 cases hd : a.all digB with
 | false =>
  have hw : wholeB a = false := by unfold wholeB digsB; rw [hd]; simp
  rw [hw, Bool.false_and, if_neg (by decide)]
  obtain ⟨p, c, g, e, hp, hc⟩ := drop_bad a hd
  have h46 : c ≠ 46 := by
   intro e2
   rcases h with ⟨_, e1, _, hn⟩ | ⟨_, _, hn⟩
   ·exact hn (by rw [← e1, e, e2]; simp)
   ·exact hn (by rw [e, e2]; simp)
  obtain ⟨r, er⟩ : ∃ r, l = p ++ c :: r := by
   rcases h with ⟨_, e1, _, _⟩ | ⟨_, e1, _⟩
   ·exact ⟨g, by rw [← e1, e]⟩
   ·exact ⟨g ++ 46 :: b, by rw [e1, e]; simp⟩
  rw [er, tho_is hp (.inr ⟨c, r, rfl, hc⟩), frac_bad r h46, Bool.and_false, if_neg (by decide)]
 | true =>
  have ha : ∀ c ∈ a, digB c = true := fun c hc => List.all_eq_true.1 hd c hc
  have hw := int_whole a
  rw [hd, Bool.and_true] at hw
  rcases h with ⟨rfl, rfl, rfl, _⟩ | ⟨rfl, e1, _⟩
  ·have := tho_is ha (r := []) (.inl rfl)
   rw [List.append_nil] at this
   rw [this, hw]
   simp [fracOk]
  ·rw [e1, tho_is ha (.inr ⟨46, b, rfl, dig_46⟩), hw, part_frac]
   simp
end F
end Go.Proofs.YtfcikfohmehmkaaGreatDoor
namespace Go.Proofs.YtfcikfohmehmkaaGreatDoor
open Go.RowKit
open F
set_option linter.unusedVariables false
theorem F.clear_sign {x : Nat} (hx : x < 18446744073709551616) : bits .andNot .u64 (x : Int) 9223372036854775808 = ((rung x : Nat) : Int) := by
 have h := u64_andNot_nat x 9223372036854775808 hx (by omega)
 have e : x &&& (18446744073709551615 - 9223372036854775808) = rung x := by
  show x &&& (2 ^ 63 - 1) = x % 2 ^ 63
  exact Nat.and_two_pow_sub_one_eq_mod x 63
 rw [e] at h
 exact h
theorem copysign_neg (x q : Nat) (w : World) (hx : x < 9223372036854775808) (hq : negW x = q) : Calls Tryz.prog 159 #[.float .f64 x, .float .f64 13830554455654793216] w (Yes w (.float .f64 q)) := by
 have HB := Lib.hid (ext_bits x w)
 have HB2 := Lib.hid (ext_bits 13830554455654793216 w)
 have HF := Lib.hid (ext_from q w)
 have HC := Lib.hid ((clear_sign (x := x) (by omega)).trans (show ((rung x : Nat) : Int) = (x : Int) by unfold rung; rw [Nat.mod_eq_of_lt hx]))
 have c2 : bits .and .u64 13830554455654793216 9223372036854775808 = 9223372036854775808 := by decide +kernel
 have HO : Hid (bits .or .u64 (x : Int) 9223372036854775808 = (q : Int)) := by
  refine Lib.hid ?_
  have h := bits_or_u64_nat x 9223372036854775808 (by omega) (by omega)
  refine h.trans ?_
  rw [← hq, sign_set hx]
  have e : x ||| 2 ^ 63 * 1 = 2 ^ 63 * 1 + x := by
   rw [Nat.or_comm]
   exact (Nat.two_pow_add_eq_or_of_lt hx 1).symm
  rw [show (9223372036854775808 : Nat) = 2 ^ 63 * 1 from rfl, e, Nat.add_comm]
 clear hq hx
 go_enter Tryz.func159, Tryz.ntmps159
 have hB := HB.out
 have hB2 := HB2.out
 have hF := HF.out
 have hC := HC.out
 have hO := HO.out
 go_wp2
 go_ret
 exact ⟨rfl, rfl⟩
open N (digB valL val_snoc val_lt)
theorem F.digs_parts {l : List UInt8} {k : Nat} (h0 : l ≠ []) (h1 : l.length ≤ k) : digsB l k = l.all digB := by
 unfold digsB
 rw [decide_eq_true h1]
 cases l with
 | nil => exact absurd rfl h0
 | cons => rfl
theorem F.all_more {l : List UInt8} {i : Nat} {c : UInt8} (h : (l.take i).all digB = true) (hc : l[i]? = some c) (hd : digB c = true) : (l.take (i + 1)).all digB = true := by
 obtain ⟨h5, h6⟩ := List.getElem?_eq_some_iff.1 hc
 rw [List.take_succ_eq_append_getElem h5, h6, List.all_append, h, List.all_cons, hd]; rfl
theorem F.all_not {l : List UInt8} {i : Nat} {c : UInt8} (hc : l[i]? = some c) (hd : digB c = false) : l.all digB = false := by
 cases h : l.all digB with
 | false => rfl
 | true =>
  have := List.all_eq_true.1 h c (List.mem_of_getElem? hc)
  rw [hd] at this; cases this
set_option maxRecDepth 100000 in
theorem areDigits_any (s : ByteArray) (k : Nat) (r : Bool) (w : World) (hs : s.size ≤ 1000) (hk : k ≤ 100) (hr : digsB s.data.toList k = r) : Calls Tryz.prog 185 #[.string s, .int .i64 (k : Int)] w (Yes w (.bool r)) := by
 obtain ⟨n, hn⟩ : ∃ n, s.size = n := ⟨_, rfl⟩
 have hln : s.data.toList.length = n := by rw [← Lib.size_eq]; exact hn
 have HNS := Lib.hid hn
 by_cases h0 : n = 0
 ·have e0 : s.data.toList = [] := List.eq_nil_of_length_eq_zero (by rw [hln]; exact h0)
  have b0 : (s.toList == []) = true := by rw [Lib.toList_data, e0]; rfl
  have b0a : s.toList = [] := by rw [Lib.toList_data, e0]
  have HR := Lib.hid (show r = false by rw [← hr, e0]; rfl)
  clear hr e0 hln h0 hn
  go_enter Tryz.func185, Tryz.ntmps185
  go_wp2
  go_ret
  exact ⟨by rw [HR.out]; rfl, rfl⟩
 have e0 : s.data.toList ≠ [] := fun e => h0 (by rw [← hln, e]; rfl)
 have b0 : (s.toList == []) = false := by rw [Lib.toList_data]; exact beq_eq_false_iff_ne.2 e0
 have b0a : ¬ s.toList = [] := by rw [Lib.toList_data]; exact e0
 by_cases h1 : k < n
 ·have b1 : decide ((n : Int) > (k : Int)) = true := decide_eq_true (by omega)
  have b1a : decide ((k : Int) < (n : Int)) = true := decide_eq_true (by omega)
  have b1b : decide (k < n) = true := decide_eq_true h1
  have HR := Lib.hid (show r = false by rw [← hr]; unfold digsB; rw [decide_eq_false (by omega : ¬ s.data.toList.length ≤ k), Bool.and_false, Bool.false_and])
  clear hr e0 hln h0 h1
  go_enter Tryz.func185, Tryz.ntmps185
  go_wp2
  go_ret
  exact ⟨by rw [HR.out]; rfl, rfl⟩
 have b1 : decide ((n : Int) > (k : Int)) = false := decide_eq_false (by omega)
 have b1a : decide ((k : Int) < (n : Int)) = false := decide_eq_false (by omega)
 have b1b : decide (k < n) = false := decide_eq_false h1
 have HR := Lib.hid (show s.data.toList.all digB = r by rw [← hr, digs_parts e0 (by omega)])
 have HLN := Lib.hid hln
 have hn1000 : n ≤ 1000 := by omega
 clear hr e0 hln h0 h1
 go_enter Tryz.func185, Tryz.ntmps185
 go_wp2
 go_loopg [5] n (fun gk vi wr => ∃ i : Nat, Hid (i + gk = n) ∧ i ≤ n ∧ vi = .int .i64 (i : Int) ∧ Hid ((s.data.toList.take i).all digB = true) ∧ wr = w)
 case atStart => exact ⟨0, Nat.zero_add _, Nat.zero_le _, rfl, rfl, rfl⟩
 case round =>
  obtain ⟨i, HG, hi, rfl, HD, rfl⟩ := hrel
  by_cases hlt0 : i < n
  ·have blt : decide ((i : Int) < (n : Int)) = true := decide_eq_true (by omega)
   have blt2 : decide (i < n) = true := decide_eq_true hlt0
   have hii : (i : Int) < (n : Int) := by omega
   have hlt : i < s.size := by rw [HNS.out]; exact hlt0
   have hgk := HG.out
   have HAT := Lib.hid (at_of s i hlt)
   by_cases hlo : s[i].toNat < 48
   ·have c1 : decide ((s[i].toNat : Int) < 48) = true := decide_eq_true (by omega)
    have c1b : decide (s[i].toNat < 48) = true := decide_eq_true hlo
    have HE := Lib.hid (show r = false by rw [← HR.out]; exact all_not HAT.out (digB_not (.inl hlo)))
    clear hlo
    go_wp2
    go_ret
    exact ⟨by rw [HE.out]; rfl, rfl⟩
   have c1 : decide ((s[i].toNat : Int) < 48) = false := decide_eq_false (by omega)
   have c1b : decide (s[i].toNat < 48) = false := decide_eq_false hlo
   by_cases hhi : 57 < s[i].toNat
   ·have c2 : decide ((s[i].toNat : Int) > 57) = true := decide_eq_true (by omega)
    have c2a : decide ((57 : Int) < (s[i].toNat : Int)) = true := decide_eq_true (by omega)
    have c2b : decide (57 < s[i].toNat) = true := decide_eq_true hhi
    have HE := Lib.hid (show r = false by rw [← HR.out]; exact all_not HAT.out (digB_not (.inr hhi)))
    clear hlo hhi
    go_wp2
    go_ret
    exact ⟨by rw [HE.out]; rfl, rfl⟩
   have c2 : decide ((s[i].toNat : Int) > 57) = false := decide_eq_false (by omega)
   have c2a : decide ((57 : Int) < (s[i].toNat : Int)) = false := decide_eq_false (by omega)
   have c2b : decide (57 < s[i].toNat) = false := decide_eq_false hhi
   have HD2 := Lib.hid (all_more HD.out HAT.out (digB_yes (by omega) (by omega)))
   clear hlo hhi
   go_wp2
   go_roundg (n - (i + 1))
   case rel => exact ⟨i + 1, (by show _ = _; omega), by omega, by go_num, HD2.out, rfl⟩
   case measure => omega
  ·have blt : decide ((i : Int) < (n : Int)) = false := decide_eq_false (by omega)
   have blt2 : decide (i < n) = false := decide_eq_false hlt0
   obtain rfl : i = n := by omega
   have HE := Lib.hid (show r = true by rw [← HR.out, ← HD.out, List.take_of_length_le (by rw [HLN.out]; omega)])
   go_wp2
   go_ret
   exact ⟨by rw [HE.out]; rfl, rfl⟩
set_option maxRecDepth 100000 in
theorem isWhole_any (s : ByteArray) (r : Bool) (w : World) (hs : s.size ≤ 1000) (hr : wholeB s.data.toList = r) : Calls Tryz.prog 178 #[.string s] w (Yes w (.bool r)) := by
 have HS := Lib.hid hs
 cases hd : digsB s.data.toList 6 with
 | false =>
  have HD := Lib.hid hd
  have HR := Lib.hid (show r = false by rw [← hr]; unfold wholeB; rw [hd]; rfl)
  clear hr hd hs
  go_enter Tryz.func178, Tryz.ntmps178
  go_wp2_with fail
  refine (areDigits_any s 6 false _ HS.out (by omega) HD.out).mono ?_
  rintro e w1 ⟨rfl, rfl⟩
  go_wp2
  go_ret
  exact ⟨by rw [HR.out]; rfl, rfl⟩
 | true =>
  have HD := Lib.hid hd
  have h0 : s.data.toList ≠ [] := by
   intro e; rw [e] at hd; cases hd
  have hpos : 0 < s.size := by rw [Lib.size_eq]; exact List.length_pos_iff.2 h0
  have hposi : (0 : Int) < (s.size : Int) := by omega
  have hat := at_of s 0 hpos
  by_cases h1 : s.data.toList = [48]
  ·have b1 : (s.toList == [48]) = true := by rw [Lib.toList_data, h1]; rfl
   have HR := Lib.hid (show r = true by rw [← hr]; unfold wholeB; rw [hd, h1]; rfl)
   clear hr hd hs h0 h1 hat
   go_enter Tryz.func178, Tryz.ntmps178
   go_wp2_with fail
   refine (areDigits_any s 6 true _ HS.out (by omega) HD.out).mono ?_
   rintro e w1 ⟨rfl, rfl⟩
   go_wp2
   go_ret
   exact ⟨by rw [HR.out]; rfl, rfl⟩
  ·have b1 : (s.toList == [48]) = false := by rw [Lib.toList_data]; exact beq_eq_false_iff_ne.2 h1
   have hh : s.data.toList.head? = some s[0] := by rw [List.head?_eq_getElem?]; exact hat
   have hr2 : r = decide (s[0] ≠ 48) := by
    rw [← hr]; unfold wholeB; rw [hd, hh, decide_eq_false h1, Bool.true_and, Bool.false_or]
    exact decide_eq_decide.2 ⟨fun h e => h (by rw [e]), fun h e => h (by injection e)⟩
   by_cases h48 : s[0].toNat = 48
   ·have c1 : ((s[0].toNat : Int) != 48) = false := by simp; omega
    have c1b : (s[0].toNat != 48) = false := by simp; omega
    have HR := Lib.hid (show r = false by rw [hr2]; exact decide_eq_false (fun h => h (UInt8.toNat_inj.1 h48)))
    clear hr hd hs h0 h1 hat hh hr2 h48
    go_enter Tryz.func178, Tryz.ntmps178
    go_wp2_with fail
    refine (areDigits_any s 6 true _ HS.out (by omega) HD.out).mono ?_
    rintro e w1 ⟨rfl, rfl⟩
    go_wp2
    go_ret
    exact ⟨by rw [HR.out]; rfl, rfl⟩
   ·have c1 : ((s[0].toNat : Int) != 48) = true := by simp; omega
    have c1b : (s[0].toNat != 48) = true := by simp; omega
    have HR := Lib.hid (show r = true by rw [hr2]; exact decide_eq_true (fun e => h48 (by rw [e]; rfl)))
    clear hr hd hs h0 h1 hat hh hr2 h48
    go_enter Tryz.func178, Tryz.ntmps178
    go_wp2_with fail
    refine (areDigits_any s 6 true _ HS.out (by omega) HD.out).mono ?_
    rintro e w1 ⟨rfl, rfl⟩
    go_wp2
    go_ret
    exact ⟨by rw [HR.out]; rfl, rfl⟩
set_option maxRecDepth 100000 in
theorem isPart_any (s : ByteArray) (r : Bool) (w : World) (hs : s.size ≤ 1000) (hr : partB s.data.toList = r) : Calls Tryz.prog 179 #[.string s] w (Yes w (.bool r)) := by
 have HS := Lib.hid hs
 cases hd : digsB s.data.toList 3 with
 | false =>
  have HD := Lib.hid hd
  have HR := Lib.hid (show r = false by rw [← hr]; unfold partB; rw [hd]; rfl)
  clear hr hd hs
  go_enter Tryz.func179, Tryz.ntmps179
  go_wp2_with fail
  refine (areDigits_any s 3 false _ HS.out (by omega) HD.out).mono ?_
  rintro e w1 ⟨rfl, rfl⟩
  go_wp2
  go_ret
  exact ⟨by rw [HR.out]; rfl, rfl⟩
 | true =>
  have HD := Lib.hid hd
  have h0 : s.data.toList ≠ [] := by
   intro e; rw [e] at hd; cases hd
  have hpos : 0 < s.size := by rw [Lib.size_eq]; exact List.length_pos_iff.2 h0
  obtain ⟨n, hn⟩ : ∃ n, s.size = n := ⟨_, rfl⟩
  obtain ⟨la, hla⟩ : ∃ la, n = la + 1 := ⟨n - 1, by omega⟩
  have hlas : la < s.size := by omega
  have hlai : (la : Int) < (n : Int) := by omega
  have wl : IntKind.i64.wrap ((n : Int) - 1) = (la : Int) := by rw [IntKind.wrap_i64]; omega
  have HNS := Lib.hid hn
  have hat := at_of s la hlas
  have hh : s.data.toList.getLast? = some s[la] := by
   rw [List.getLast?_eq_getElem?, show s.data.toList.length - 1 = la by rw [← Lib.size_eq]; omega]; exact hat
  have hr2 : r = decide (s[la] ≠ 48) := by
   rw [← hr]; unfold partB; rw [hd, hh, Bool.true_and]
   exact decide_eq_decide.2 ⟨fun h e => h (by rw [e]), fun h e => h (by injection e)⟩
  by_cases h48 : s[la].toNat = 48
  ·have c1 : ((s[la].toNat : Int) != 48) = false := by simp; omega
   have c1b : (s[la].toNat != 48) = false := by simp; omega
   have HR := Lib.hid (show r = false by rw [hr2]; exact decide_eq_false (fun h => h (UInt8.toNat_inj.1 h48)))
   clear hr hd hs h0 hat hh hr2 h48 hla hpos
   go_enter Tryz.func179, Tryz.ntmps179
   go_wp2_with fail
   refine (areDigits_any s 3 true _ HS.out (by omega) HD.out).mono ?_
   rintro e w1 ⟨rfl, rfl⟩
   go_wp2
   go_ret
   exact ⟨by rw [HR.out]; rfl, rfl⟩
  ·have c1 : ((s[la].toNat : Int) != 48) = true := by simp; omega
   have c1b : (s[la].toNat != 48) = true := by simp; omega
   have HR := Lib.hid (show r = true by rw [hr2]; exact decide_eq_true (fun e => h48 (by rw [e]; rfl)))
   clear hr hd hs h0 hat hh hr2 h48 hla hpos
   go_enter Tryz.func179, Tryz.ntmps179
   go_wp2_with fail
   refine (areDigits_any s 3 true _ HS.out (by omega) HD.out).mono ?_
   rintro e w1 ⟨rfl, rfl⟩
   go_wp2
   go_ret
   exact ⟨by rw [HR.out]; rfl, rfl⟩
theorem below_bytes11 (w : World) (t : TypeId) (q : ByteArray) : Below w.heap.size w (Lib.bytesWorld w t q) :=
 ⟨by rfl, by rfl, by rfl, by rw [Lib.bytesWorld_size]; omega, fun j hj => Lib.bytesWorld_at_old w t q j hj⟩
theorem conv_bytes11 (w : World) (q : ByteArray) (sz : Nat) (h : q.size = sz) : ∃ (cp : Nat) (wq : World), (convert 9 134 (.string q)).run Tryz.prog w = .ok (.slice (some ⟨w.heap.size, 0, none⟩) sz cp) wq ∧ Below w.heap.size w wq ∧ ∀ (j : Nat) (c : UInt8), q.data.toList[j]? = some c → wq.cell? ⟨w.heap.size, j, none⟩ = some (.int .u8 (c.toNat : Int)) := by
 refine ⟨_, _, by rw [← h]; exact Lib.run_convert_string_bytes w _ _ 5 q Tryz.underlying9 Tryz.underlying134 Tryz.underlying5, ?_, fun j c hc => ?_⟩
 ·exact below_bytes11 w _ q
 ·obtain ⟨h5, h6⟩ := List.getElem?_eq_some_iff.1 hc
  rw [Lib.bytesWorld_cell w _ q j (by rw [Lib.size_eq]; exact h5)]
  have e : q.data.toList.getD j 0 = c := by rw [List.getD_eq_getElem?_getD, hc]; rfl
  rw [e]
theorem F.val_thou {l : List UInt8} {m : Nat} (h : l.all digB = true) (hl : l.length + m ≤ 9) : valL l * 10 ^ m < 1000000000 := by
 have h1 := val_lt l h l.length (Nat.le_refl _)
 have h2 := Nat.mul_lt_mul_of_pos_right h1 (Nat.pow_pos (n := m) (show 0 < 10 by omega))
 rw [← Nat.pow_add] at h2
 have h3 : 10 ^ (l.length + m) ≤ 10 ^ 9 := Nat.pow_le_pow_right (by omega) hl
 exact Nat.lt_of_lt_of_le h2 h3
theorem F.val_nine {l : List UInt8} {i : Nat} (h : l.all digB = true) (hl : l.length ≤ 9) : valL (l.take i) < 1000000000 := by
 have h1 := val_lt (l.take i) (by
  rw [List.all_eq_true] at h ⊢
  exact fun x hx => h x (List.mem_of_mem_take hx)) 9 (by rw [List.length_take]; omega)
 exact h1
theorem F.pow_step {v u j m : Nat} (h : v * 10 ^ j = u) (hj : j ≤ m) (hm : v * 10 ^ m < 1000000000) : u < 1000000000 := by
 have h3 : 10 ^ j ≤ 10 ^ m := Nat.pow_le_pow_right (by omega) hj
 have := Nat.mul_le_mul_left v h3
 omega
theorem F.sub48 {c d : Nat} (h : c - 48 = d) (h2 : 48 ≤ c) (h3 : c < 256) : IntKind.u8.wrap ((c : Int) - 48) = (d : Int) := by rw [IntKind.wrap_u8]; omega
theorem F.times10 {v v1 : Nat} (h : v * 10 = v1) (h2 : v < 1000000000) : IntKind.i64.wrap ((v : Int) * 10) = (v1 : Int) := by rw [IntKind.wrap_i64]; omega
theorem F.plus10 {v v1 v2 d : Nat} (h : v * 10 = v1) (h2 : v1 + d = v2) (h3 : v < 1000000000) (h4 : d ≤ 9) : IntKind.i64.wrap ((v1 : Int) + (d : Int)) = (v2 : Int) := by rw [IntKind.wrap_i64]; omega
theorem F.small9 {d : Nat} (h : d ≤ 9) : IntKind.i64.wrap (d : Int) = (d : Int) := by rw [IntKind.wrap_i64]; omega
theorem F.whole_parts {a : List UInt8} (h : wholeB a = true) : a.length ≤ 6 ∧ a.all digB = true := by
 unfold wholeB digsB at h
 simp only [Bool.and_eq_true, decide_eq_true_eq] at h
 exact ⟨h.1.1.2, h.1.2⟩
theorem F.part_parts {b : List UInt8} (h : partB b = true) : b.length ≤ 3 ∧ b.all digB = true := by
 unfold partB digsB at h
 simp only [Bool.and_eq_true, decide_eq_true_eq] at h
 exact ⟨h.1.1.2, h.1.2⟩
def ThouIs (s : List UInt8) (n : Nat) (ok : Bool) : Prop := (ok = true ∧ n < 1000000000 ∧ thoL s = some n) ∨ (ok = false ∧ n = 0 ∧ thoL s = none)
set_option maxRecDepth 100000 in
set_option maxHeartbeats 4000000 in
theorem thousandths_any (s : ByteArray) (w : World) (hs : s.size ≤ 100) : Calls Tryz.prog 158 #[.string s] w (fun e w' => ∃ (n : Nat) (ok : Bool), e = .returned (.tuple #[.int .i64 (n : Int), .bool ok]) ∧ ThouIs s.data.toList n ok ∧ Below w.heap.size w w') := by
 go_enter Tryz.func158, Tryz.ntmps158
 go_wp2_with fail
 refine (cut_any10 s 46 _ (by omega)).mono ?_
 rintro e w1 ⟨⟨a, b, f, rfl, hc⟩, hb⟩
 have HT := Lib.hid (tho_cut hc)
 have hlen : a.length + b.length ≤ 100 := by
  have hz : s.data.toList.length = s.size := (Lib.size_eq s).symm
  rcases hc with ⟨_, e1, e2, _⟩ | ⟨_, e1, _⟩
  ·rw [e1, e2]; simp; omega
  ·have := congrArg List.length e1
   rw [List.length_append, List.length_cons] at this; omega
 have HLA := Lib.hid hlen
 have HB0 := Lib.hid (show f = false → b = [] from fun hf => by
  rcases hc with ⟨_, _, e2, _⟩ | ⟨e1, _, _⟩
  ·exact e2
  ·rw [hf] at e1; cases e1)
 obtain ⟨qa, hqa⟩ : ∃ q, sB a = q := ⟨_, rfl⟩
 obtain ⟨qb, hqb⟩ : ∃ q, sB b = q := ⟨_, rfl⟩
 rw [hqa, hqb]
 have HQA := Lib.hid hqa
 have HQB := Lib.hid hqb
 have HSA := Lib.hid (show qa.size ≤ 1000 by rw [← hqa, sB_size]; omega)
 have HSB := Lib.hid (show qb.size ≤ 1000 by rw [← hqb, sB_size]; omega)
 have HDQA := Lib.hid (show qa.data.toList = a by rw [← hqa, sB_data])
 have HDQB := Lib.hid (show qb.data.toList = b by rw [← hqb, sB_data])
 clear hc hlen hqa hqb hs
 cases hw : wholeB a with
 | false =>
  have HW := Lib.hid (show wholeB qa.data.toList = false by rw [HDQA.out]; exact hw)
  have HE := Lib.hid (show thoL s.data.toList = none by rw [HT.out, hw, Bool.false_and, if_neg (by decide)])
  clear hw
  go_wp2_with fail
  refine (isWhole_any qa false _ HSA.out HW.out).mono ?_
  rintro e w2 ⟨rfl, rfl⟩
  go_wp2
  go_ret2
  exact ⟨0, false, rfl, .inr ⟨rfl, rfl, HE.out⟩, hb⟩
 | true =>
 have HW := Lib.hid (show wholeB qa.data.toList = true by rw [HDQA.out]; exact hw)
 have HDA := Lib.hid (whole_parts hw).2
 have HLA2 := Lib.hid (whole_parts hw).1
 cases f with
 | false =>
  have hb0 := HB0.out rfl
  have HDB := Lib.hid (show b.all digB = true by rw [hb0]; rfl)
  have HLB2 := Lib.hid (show b.length ≤ 3 by rw [hb0]; exact Nat.zero_le _)
  have HOK := Lib.hid (show (wholeB a && (!false || partB b)) = true by rw [hw]; rfl)
  clear hw hb0
  go_wp2_with fail
  refine (isWhole_any qa true _ HSA.out HW.out).mono ?_
  rintro e w1 ⟨rfl, rfl⟩
  obtain ⟨qs, hqs⟩ : ∃ q, qa ++ qb = q := ⟨_, rfl⟩
  have hL : qs.data.toList = a ++ b := by rw [← hqs, ByteArray.data_append, Array.toList_append, ← HQA.out, ← HQB.out, sB_data, sB_data]
  obtain ⟨sz, hsz⟩ : ∃ sz, qs.size = sz := ⟨_, rfl⟩
  have hszl : sz = a.length + b.length := by rw [← hsz, Lib.size_eq, hL, List.length_append]
  have hadd : ∀ w : World, Sem.run Tryz.prog (Op.stringOp .add qa qb) w = .ok (.string qs) w := fun w => by
   rw [run_string_add_sum (P := Tryz.prog) (w := w) qa qb (by rw [← HQA.out, ← HQB.out, sB_size, sB_size]; have := HLA.out; omega), hqs]
  obtain ⟨cp, wq, hconv, hbq, hcl⟩ := conv_bytes11 w1 qs sz hsz
  have HCL := Lib.hid hcl
  have HL := Lib.hid hL
  have HBQ := Lib.hid (bthen hb hbq)
  have HSZ := Lib.hid hszl
  have hsz9 : sz ≤ 9 := by have := HLA2.out; have := HLB2.out; omega
  have HALL := Lib.hid (show (a ++ b).all digB = true by rw [List.all_append, HDA.out, HDB.out]; rfl)
  obtain ⟨m, hm⟩ : ∃ m, 3 - b.length = m := ⟨_, rfl⟩
  have hlb : b.length = qb.size := by rw [← HQB.out, sB_size]
  obtain ⟨lb, hlbe⟩ : ∃ lb, qb.size = lb := ⟨_, rfl⟩
  have wm : IntKind.i64.wrap (3 - (lb : Int)) = (m : Int) := by have := HLB2.out; rw [IntKind.wrap_i64]; omega
  have HM := Lib.hid hm
  have hm3 : m ≤ 3 := by omega
  have HV9 := Lib.hid (show valL (a ++ b) * 10 ^ m < 1000000000 from val_thou HALL.out (by rw [List.length_append]; have := HLA2.out; have := HLB2.out; omega))
  clear hqs hL hsz hszl hcl hbq hm hlb
  go_wp2
  go_loopg [7, 32] sz (fun gk vn vi wr => ∃ i v : Nat, Hid (i + gk = sz) ∧ i ≤ sz ∧ vi = .int .i64 (i : Int) ∧ vn = .int .i64 (v : Int) ∧ Hid (valL ((a ++ b).take i) = v) ∧ wr = wq)
  case atStart => exact ⟨0, 0, Nat.zero_add _, Nat.zero_le _, rfl, rfl, rfl, rfl⟩
  case round =>
   obtain ⟨i, v, HG, hi, rfl, rfl, HV, rfl⟩ := hrel
   by_cases hlt0 : i < sz
   ·have blt : decide ((i : Int) < (sz : Int)) = true := decide_eq_true (by omega)
    have blt2 : decide (i < sz) = true := decide_eq_true hlt0
    have hii : (i : Int) < (sz : Int) := by omega
    have hgk := HG.out
    obtain ⟨c, hc⟩ : ∃ c, (a ++ b)[i]? = some c := ⟨_, List.getElem?_eq_getElem (by rw [List.length_append]; have := HSZ.out; omega)⟩
    have hcell := HCL.out i c (by rw [HL.out]; exact hc)
    have hcd : digB c = true := List.all_eq_true.1 HALL.out c (List.mem_of_getElem? hc)
    have hvb : v < 1000000000 := by rw [← HV.out]; exact val_nine HALL.out (by rw [List.length_append]; have := HSZ.out; omega)
    obtain ⟨d, hd, hd9⟩ : ∃ d, c.toNat - 48 = d ∧ (48 ≤ c.toNat ∧ d ≤ 9) := by
     unfold N.digB at hcd
     simp only [Bool.and_eq_true, decide_eq_true_eq] at hcd
     exact ⟨_, rfl, by omega, by omega⟩
    obtain ⟨v1, hv1⟩ : ∃ v1, v * 10 = v1 := ⟨_, rfl⟩
    obtain ⟨v2, hv2⟩ : ∃ v2, v1 + d = v2 := ⟨_, rfl⟩
    have hcb := c.toNat_lt
    have s1 : IntKind.u8.wrap ((c.toNat : Int) - 48) = (d : Int) := sub48 hd hd9.1 hcb
    have s2 : IntKind.i64.wrap ((v : Int) * 10) = (v1 : Int) := times10 hv1 hvb
    have s3 : IntKind.i64.wrap ((v1 : Int) + (d : Int)) = (v2 : Int) := plus10 hv1 hv2 hvb hd9.2
    have s4 : IntKind.i64.wrap (d : Int) = (d : Int) := small9 hd9.2
    have HV2 := Lib.hid (show valL ((a ++ b).take (i + 1)) = v2 by
     obtain ⟨h5, h6⟩ := List.getElem?_eq_some_iff.1 hc
     rw [List.take_succ_eq_append_getElem h5, h6, val_snoc, HV.out, hd, ← hv2, ← hv1, Nat.mul_comm])
    clear hc hcd hd hd9 hv1 hv2 hvb hcb
    go_wp2
    go_roundg (sz - (i + 1))
    case rel => exact ⟨i + 1, v2, (by show _ = _; omega), by omega, by go_num, rfl, HV2.out, rfl⟩
    case measure => omega
   ·have blt : decide ((i : Int) < (sz : Int)) = false := decide_eq_false (by omega)
    have blt2 : decide (i < sz) = false := decide_eq_false hlt0
    obtain rfl : i = sz := by omega
    have HVV := Lib.hid (show valL (a ++ b) = v by rw [← HV.out, List.take_of_length_le (by rw [List.length_append]; have := HSZ.out; omega)])
    have HV10 := Lib.hid (show v * 10 ^ m < 1000000000 by rw [← HVV.out]; exact HV9.out)
    go_wp2
    go_loopg [7, 46] m (fun gk vn vi w2 => ∃ j u : Nat, Hid (j + gk = m) ∧ j ≤ m ∧ vi = .int .i64 (j : Int) ∧ vn = .int .i64 (u : Int) ∧ Hid (v * 10 ^ j = u) ∧ w2 = wr)
    case atStart => exact ⟨0, v, Nat.zero_add _, Nat.zero_le _, rfl, rfl, (by show _ = _; omega), rfl⟩
    case round =>
     obtain ⟨j, u, HG2, hj, rfl, rfl, HU, rfl⟩ := hrel
     by_cases hlt2 : j < m
     ·have blt3 : decide ((j : Int) < (m : Int)) = true := decide_eq_true (by omega)
      have blt4 : decide (j < m) = true := decide_eq_true hlt2
      have hgk2 := HG2.out
      obtain ⟨u1, hu1⟩ : ∃ u1, u * 10 = u1 := ⟨_, rfl⟩
      have hub : u < 1000000000 := pow_step HU.out hj HV10.out
      have s2 : IntKind.i64.wrap ((u : Int) * 10) = (u1 : Int) := times10 hu1 hub
      have HU2 := Lib.hid (show v * 10 ^ (j + 1) = u1 by rw [Nat.pow_succ, ← Nat.mul_assoc, HU.out, hu1])
      clear hu1 hub
      go_wp2
      go_roundg (m - (j + 1))
      case rel => exact ⟨j + 1, u1, (by show _ = _; omega), by omega, by go_num, rfl, HU2.out, rfl⟩
      case measure => omega
     ·have blt3 : decide ((j : Int) < (m : Int)) = false := decide_eq_false (by omega)
      have blt4 : decide (j < m) = false := decide_eq_false hlt2
      obtain rfl : j = m := by omega
      have HE := Lib.hid (show thoL s.data.toList = some u ∧ u < 1000000000 by
       rw [HT.out, if_pos HOK.out, HM.out, HVV.out, HU.out]
       exact ⟨rfl, by rw [← HU.out]; exact HV10.out⟩)
      go_wp2
      go_ret2
      exact ⟨u, true, rfl, .inl ⟨rfl, HE.out.2, HE.out.1⟩, HBQ.out⟩
 | true =>
 cases hp : partB b with
 | false =>
  have HP := Lib.hid (show partB qb.data.toList = false by rw [HDQB.out]; exact hp)
  have HE := Lib.hid (show thoL s.data.toList = none by rw [HT.out, hw, hp]; rfl)
  clear hw hp
  go_wp2_with fail
  refine (isWhole_any qa true _ HSA.out HW.out).mono ?_
  rintro e w2 ⟨rfl, rfl⟩
  go_wp2_with fail
  refine (isPart_any qb false _ HSB.out HP.out).mono ?_
  rintro e w2 ⟨rfl, rfl⟩
  go_wp2
  go_ret2
  exact ⟨0, false, rfl, .inr ⟨rfl, rfl, HE.out⟩, hb⟩
 | true =>
  have HP := Lib.hid (show partB qb.data.toList = true by rw [HDQB.out]; exact hp)
  have HDB := Lib.hid (part_parts hp).2
  have HLB2 := Lib.hid (part_parts hp).1
  have HOK := Lib.hid (show (wholeB a && (!true || partB b)) = true by rw [hw, hp]; rfl)
  clear hw hp
  go_wp2_with fail
  refine (isWhole_any qa true _ HSA.out HW.out).mono ?_
  rintro e w1 ⟨rfl, rfl⟩
  go_wp2_with fail
  refine (isPart_any qb true _ HSB.out HP.out).mono ?_
  rintro e w1 ⟨rfl, rfl⟩
  obtain ⟨qs, hqs⟩ : ∃ q, qa ++ qb = q := ⟨_, rfl⟩
  have hL : qs.data.toList = a ++ b := by rw [← hqs, ByteArray.data_append, Array.toList_append, ← HQA.out, ← HQB.out, sB_data, sB_data]
  obtain ⟨sz, hsz⟩ : ∃ sz, qs.size = sz := ⟨_, rfl⟩
  have hszl : sz = a.length + b.length := by rw [← hsz, Lib.size_eq, hL, List.length_append]
  have hadd : ∀ w : World, Sem.run Tryz.prog (Op.stringOp .add qa qb) w = .ok (.string qs) w := fun w => by
   rw [run_string_add_sum (P := Tryz.prog) (w := w) qa qb (by rw [← HQA.out, ← HQB.out, sB_size, sB_size]; have := HLA.out; omega), hqs]
  obtain ⟨cp, wq, hconv, hbq, hcl⟩ := conv_bytes11 w1 qs sz hsz
  have HCL := Lib.hid hcl
  have HL := Lib.hid hL
  have HBQ := Lib.hid (bthen hb hbq)
  have HSZ := Lib.hid hszl
  have hsz9 : sz ≤ 9 := by have := HLA2.out; have := HLB2.out; omega
  have HALL := Lib.hid (show (a ++ b).all digB = true by rw [List.all_append, HDA.out, HDB.out]; rfl)
  obtain ⟨m, hm⟩ : ∃ m, 3 - b.length = m := ⟨_, rfl⟩
  have hlb : b.length = qb.size := by rw [← HQB.out, sB_size]
  obtain ⟨lb, hlbe⟩ : ∃ lb, qb.size = lb := ⟨_, rfl⟩
  have wm : IntKind.i64.wrap (3 - (lb : Int)) = (m : Int) := by have := HLB2.out; rw [IntKind.wrap_i64]; omega
  have HM := Lib.hid hm
  have hm3 : m ≤ 3 := by omega
  have HV9 := Lib.hid (show valL (a ++ b) * 10 ^ m < 1000000000 from val_thou HALL.out (by rw [List.length_append]; have := HLA2.out; have := HLB2.out; omega))
  clear hqs hL hsz hszl hcl hbq hm hlb
  go_wp2
  go_loopg [7, 32] sz (fun gk vn vi wr => ∃ i v : Nat, Hid (i + gk = sz) ∧ i ≤ sz ∧ vi = .int .i64 (i : Int) ∧ vn = .int .i64 (v : Int) ∧ Hid (valL ((a ++ b).take i) = v) ∧ wr = wq)
  case atStart => exact ⟨0, 0, Nat.zero_add _, Nat.zero_le _, rfl, rfl, rfl, rfl⟩
  case round =>
   obtain ⟨i, v, HG, hi, rfl, rfl, HV, rfl⟩ := hrel
   by_cases hlt0 : i < sz
   ·have blt : decide ((i : Int) < (sz : Int)) = true := decide_eq_true (by omega)
    have blt2 : decide (i < sz) = true := decide_eq_true hlt0
    have hii : (i : Int) < (sz : Int) := by omega
    have hgk := HG.out
    obtain ⟨c, hc⟩ : ∃ c, (a ++ b)[i]? = some c := ⟨_, List.getElem?_eq_getElem (by rw [List.length_append]; have := HSZ.out; omega)⟩
    have hcell := HCL.out i c (by rw [HL.out]; exact hc)
    have hcd : digB c = true := List.all_eq_true.1 HALL.out c (List.mem_of_getElem? hc)
    have hvb : v < 1000000000 := by rw [← HV.out]; exact val_nine HALL.out (by rw [List.length_append]; have := HSZ.out; omega)
    obtain ⟨d, hd, hd9⟩ : ∃ d, c.toNat - 48 = d ∧ (48 ≤ c.toNat ∧ d ≤ 9) := by
     unfold N.digB at hcd
     simp only [Bool.and_eq_true, decide_eq_true_eq] at hcd
     exact ⟨_, rfl, by omega, by omega⟩
    obtain ⟨v1, hv1⟩ : ∃ v1, v * 10 = v1 := ⟨_, rfl⟩
    obtain ⟨v2, hv2⟩ : ∃ v2, v1 + d = v2 := ⟨_, rfl⟩
    have hcb := c.toNat_lt
    have s1 : IntKind.u8.wrap ((c.toNat : Int) - 48) = (d : Int) := sub48 hd hd9.1 hcb
    have s2 : IntKind.i64.wrap ((v : Int) * 10) = (v1 : Int) := times10 hv1 hvb
    have s3 : IntKind.i64.wrap ((v1 : Int) + (d : Int)) = (v2 : Int) := plus10 hv1 hv2 hvb hd9.2
    have s4 : IntKind.i64.wrap (d : Int) = (d : Int) := small9 hd9.2
    have HV2 := Lib.hid (show valL ((a ++ b).take (i + 1)) = v2 by
     obtain ⟨h5, h6⟩ := List.getElem?_eq_some_iff.1 hc
     rw [List.take_succ_eq_append_getElem h5, h6, val_snoc, HV.out, hd, ← hv2, ← hv1, Nat.mul_comm])
    clear hc hcd hd hd9 hv1 hv2 hvb hcb
    go_wp2
    go_roundg (sz - (i + 1))
    case rel => exact ⟨i + 1, v2, (by show _ = _; omega), by omega, by go_num, rfl, HV2.out, rfl⟩
    case measure => omega
   ·have blt : decide ((i : Int) < (sz : Int)) = false := decide_eq_false (by omega)
    have blt2 : decide (i < sz) = false := decide_eq_false hlt0
    obtain rfl : i = sz := by omega
    have HVV := Lib.hid (show valL (a ++ b) = v by rw [← HV.out, List.take_of_length_le (by rw [List.length_append]; have := HSZ.out; omega)])
    have HV10 := Lib.hid (show v * 10 ^ m < 1000000000 by rw [← HVV.out]; exact HV9.out)
    go_wp2
    go_loopg [7, 46] m (fun gk vn vi w2 => ∃ j u : Nat, Hid (j + gk = m) ∧ j ≤ m ∧ vi = .int .i64 (j : Int) ∧ vn = .int .i64 (u : Int) ∧ Hid (v * 10 ^ j = u) ∧ w2 = wr)
    case atStart => exact ⟨0, v, Nat.zero_add _, Nat.zero_le _, rfl, rfl, (by show _ = _; omega), rfl⟩
    case round =>
     obtain ⟨j, u, HG2, hj, rfl, rfl, HU, rfl⟩ := hrel
     by_cases hlt2 : j < m
     ·have blt3 : decide ((j : Int) < (m : Int)) = true := decide_eq_true (by omega)
      have blt4 : decide (j < m) = true := decide_eq_true hlt2
      have hgk2 := HG2.out
      obtain ⟨u1, hu1⟩ : ∃ u1, u * 10 = u1 := ⟨_, rfl⟩
      have hub : u < 1000000000 := pow_step HU.out hj HV10.out
      have s2 : IntKind.i64.wrap ((u : Int) * 10) = (u1 : Int) := times10 hu1 hub
      have HU2 := Lib.hid (show v * 10 ^ (j + 1) = u1 by rw [Nat.pow_succ, ← Nat.mul_assoc, HU.out, hu1])
      clear hu1 hub
      go_wp2
      go_roundg (m - (j + 1))
      case rel => exact ⟨j + 1, u1, (by show _ = _; omega), by omega, by go_num, rfl, HU2.out, rfl⟩
      case measure => omega
     ·have blt3 : decide ((j : Int) < (m : Int)) = false := decide_eq_false (by omega)
      have blt4 : decide (j < m) = false := decide_eq_false hlt2
      obtain rfl : j = m := by omega
      have HE := Lib.hid (show thoL s.data.toList = some u ∧ u < 1000000000 by
       rw [HT.out, if_pos HOK.out, HM.out, HVV.out, HU.out]
       exact ⟨rfl, by rw [← HU.out]; exact HV10.out⟩)
      go_wp2
      go_ret2
      exact ⟨u, true, rfl, .inl ⟨rfl, HE.out.2, HE.out.1⟩, HBQ.out⟩
theorem F.pre_minus (s : ByteArray) : (s.data.toList.head? = some 45 ∧ Lib.trimPrefix s.data.toList [45] = s.data.toList.tail ∧ Lib.hasPrefix s.data.toList [45] = true) ∨ (s.data.toList.head? ≠ some 45 ∧ Lib.trimPrefix s.data.toList [45] = s.data.toList ∧ Lib.hasPrefix s.data.toList [45] = false) := by
 unfold Lib.trimPrefix Lib.hasPrefix
 cases s.data.toList with
 | nil => right; exact ⟨by simp, rfl, rfl⟩
 | cons c l =>
  by_cases h : c = 45
  ·subst h; left; exact ⟨rfl, by simp [List.isPrefixOf], by simp [List.isPrefixOf]⟩
  ·right
   have e : ((45 : UInt8) == c) = false := beq_eq_false_iff_ne.2 (fun e => h e.symm)
   refine ⟨by simp [h], ?_, ?_⟩ <;> simp [List.isPrefixOf, e]
set_option maxRecDepth 100000 in
set_option maxHeartbeats 2000000 in
theorem read_any11 (s : ByteArray) (w : World) (hs : s.size ≤ 100) : Calls Tryz.prog 126 #[.string s] w (fun e w' => ∃ (x : Nat) (ok : Bool), e = .returned (.tuple #[.float .f64 x, .bool ok]) ∧ ReadIs s.data.toList x ok ∧ Below w.heap.size w w') := by
 by_cases h1 : s.data.toList = [110, 97, 110]
 ·have b1 : (s.toList == [110, 97, 110]) = true := by rw [Lib.toList_data, h1]; rfl
  have HR := Lib.hid (show ReadIs s.data.toList 9221120237041090561 true from ⟨by omega, by unfold readM; rw [if_pos h1]; exact ⟨by decide, rfl⟩⟩)
  clear h1
  go_enter Tryz.func126, Tryz.ntmps126
  go_wp2_with fail
  refine (nanC _).mono ?_
  rintro e w1 ⟨rfl, rfl⟩
  go_wp2
  go_ret2
  exact ⟨_, _, rfl, HR.out, Below.refl _ _⟩
 have b1 : (s.toList == [110, 97, 110]) = false := by rw [Lib.toList_data]; exact beq_eq_false_iff_ne.2 h1
 by_cases h2 : s.data.toList = [105, 110, 102]
 ·have b2 : (s.toList == [105, 110, 102]) = true := by rw [Lib.toList_data, h2]; rfl
  have HR := Lib.hid (show ReadIs s.data.toList posInf true from ⟨by decide, by unfold readM; rw [if_neg h1, if_pos h2]; exact ⟨rfl, rfl⟩⟩)
  clear h1 h2
  go_enter Tryz.func126, Tryz.ntmps126
  go_wp2_with fail
  refine (infC _).mono ?_
  rintro e w1 ⟨rfl, rfl⟩
  go_wp2
  go_ret2
  exact ⟨_, _, rfl, HR.out, Below.refl _ _⟩
 have b2 : (s.toList == [105, 110, 102]) = false := by rw [Lib.toList_data]; exact beq_eq_false_iff_ne.2 h2
 by_cases h3 : s.data.toList = [45, 105, 110, 102]
 ·have b3 : (s.toList == [45, 105, 110, 102]) = true := by rw [Lib.toList_data, h3]; rfl
  have HR := Lib.hid (show ReadIs s.data.toList negInf true from ⟨by decide, by unfold readM; rw [if_neg h1, if_neg h2, if_pos h3]; exact ⟨rfl, rfl⟩⟩)
  clear h1 h2 h3
  go_enter Tryz.func126, Tryz.ntmps126
  go_wp2_with fail
  refine (ninfC _).mono ?_
  rintro e w1 ⟨rfl, rfl⟩
  go_wp2
  go_ret2
  exact ⟨_, _, rfl, HR.out, Below.refl _ _⟩
 have b3 : (s.toList == [45, 105, 110, 102]) = false := by rw [Lib.toList_data]; exact beq_eq_false_iff_ne.2 h3
 obtain ⟨q, hq⟩ : ∃ q : ByteArray, (⟨(Lib.trimPrefix s.data.toList [45]).toArray⟩ : ByteArray) = q := ⟨_, rfl⟩
 have hqd : q.data.toList = Lib.trimPrefix s.data.toList [45] := by rw [← hq]
 obtain ⟨mi, hmi⟩ : ∃ mi, Lib.hasPrefix s.data.toList [45] = mi := ⟨_, rfl⟩
 have HQE := Lib.hid hq
 have HMI := Lib.hid hmi
 have hql : q.size ≤ 100 := by
  rw [Lib.size_eq, hqd]
  have hz : s.data.toList.length = s.size := (Lib.size_eq s).symm
  rcases pre_minus s with ⟨_, e, _⟩ | ⟨_, e, _⟩ <;> rw [e]
  ·rw [List.length_tail]; omega
  ·omega
 have hno : thoL q.data.toList = none → ReadIs s.data.toList 0 false := by
  rw [hqd]
  rcases pre_minus s with ⟨h4, e, _⟩ | ⟨h4, e, _⟩ <;> rw [e]
  ·exact (read_signed h1 h2 h3 h4).1
  ·exact (read_plain h1 h2 h3 h4).1
 have hyes : ∀ n, n < 1000000000 → thoL q.data.toList = some n → ReadIs s.data.toList (if mi = true then negW (thouW n) else thouW n) true := by
  rw [hqd, ← hmi]
  rcases pre_minus s with ⟨h4, e, e2⟩ | ⟨h4, e, e2⟩ <;> rw [e, e2]
  ·exact (read_signed h1 h2 h3 h4).2
  ·exact (read_plain h1 h2 h3 h4).2
 have HNO := Lib.hid hno
 have HYES := Lib.hid hyes
 have HQL := Lib.hid hql
 clear h1 h2 h3 hq hmi hqd hql hno hyes hs
 go_enter Tryz.func126, Tryz.ntmps126
 go_wp2_with fail
 refine (cutPrefix_any s ⟨#[45]⟩ _).mono ?_
 rintro e w1 ⟨rfl, rfl⟩
 rw [show (⟨#[45]⟩ : ByteArray).data.toList = [45] from rfl, HQE.out, HMI.out]
 go_wp2_with fail
 refine (thousandths_any q _ HQL.out).mono ?_
 rintro e w2 ⟨n, ok, rfl, hth, hb⟩
 cases ok with
 | false =>
  have HR := Lib.hid (HNO.out (hth.elim (fun h => absurd h.1 (by decide)) (fun h => h.2.2)))
  clear hth
  go_wp2
  go_ret2
  exact ⟨_, _, rfl, HR.out, hb⟩
 | true =>
  have hth2 : n < 1000000000 ∧ thoL q.data.toList = some n := by
   rcases hth with ⟨_, h1, h2⟩ | ⟨h, _⟩
   ·exact ⟨h1, h2⟩
   ·cases h
  have HR := Lib.hid (HYES.out n hth2.1 hth2.2)
  have hd := thou_quo hth2.1
  obtain ⟨x, hx⟩ : ∃ x, thouW n = x := ⟨_, rfl⟩
  obtain ⟨g, hg⟩ : ∃ g, floatOfInt .f64 (n : Int) = g := ⟨_, rfl⟩
  have hxl : x < 9223372036854775808 := by rw [← hx]; have := (thou_word hth2.1).2.1; omega
  rw [hx, hg] at hd
  rw [hx] at HR
  have kd := fun (t : TypeId) (w : World) => run_float_arith (P := Tryz.prog) w .quo t .f64 g 4652007308841189376 x hd
  have HXL := Lib.hid hxl
  have HG := Lib.hid hg
  clear hth hth2 hd hx hxl
  cases mi with
  | false =>
   go_wp2
   go_ret2
   exact ⟨_, _, rfl, HR.out, hb⟩
  | true =>
   go_wp2_with fail
   refine (copysign_neg x _ _ HXL.out rfl).mono ?_
   rintro e w3 ⟨rfl, rfl⟩
   go_wp2
   go_ret2
   exact ⟨_, _, rfl, HR.out, hb⟩
end Go.Proofs.YtfcikfohmehmkaaGreatDoor
namespace Go.Proofs.YtfcikfohmehmkaaGreatDoor
open Go.RowKit
open F
set_option linter.unusedVariables false
theorem isLetter_any (c : Nat) (r : Bool) (w : World) (hr : (decide (97 ≤ c) && decide (c ≤ 122)) = r) : Calls Tryz.prog 151 #[.int .u8 (c : Int)] w (Yes w (.bool r)) := by
 by_cases h1 : 97 ≤ c
 ·have b1 : decide ((c : Int) ≥ 97) = true := decide_eq_true (by omega)
  have b1a : decide ((97 : Int) ≤ (c : Int)) = true := decide_eq_true (by omega)
  have b1b : decide (97 ≤ c) = true := decide_eq_true h1
  by_cases h2 : c ≤ 122
  ·have b2 : decide ((c : Int) ≤ 122) = true := decide_eq_true (by omega)
   have b2b : decide (c ≤ 122) = true := decide_eq_true h2
   have HR := Lib.hid (show r = true by rw [← hr, b1b, b2b]; rfl)
   clear hr h1 h2
   go_enter Tryz.func151, Tryz.ntmps151
   go_wp2
   go_ret
   exact ⟨by rw [HR.out]; rfl, rfl⟩
  ·have b2 : decide ((c : Int) ≤ 122) = false := decide_eq_false (by omega)
   have b2b : decide (c ≤ 122) = false := decide_eq_false h2
   have HR := Lib.hid (show r = false by rw [← hr, b1b, b2b]; rfl)
   clear hr h1 h2
   go_enter Tryz.func151, Tryz.ntmps151
   go_wp2
   go_ret
   exact ⟨by rw [HR.out]; rfl, rfl⟩
 ·have b1 : decide ((c : Int) ≥ 97) = false := decide_eq_false (by omega)
  have b1a : decide ((97 : Int) ≤ (c : Int)) = false := decide_eq_false (by omega)
  have b1b : decide (97 ≤ c) = false := decide_eq_false h1
  have HR := Lib.hid (show r = false by rw [← hr, b1b]; rfl)
  clear hr h1
  go_enter Tryz.func151, Tryz.ntmps151
  go_wp2
  go_ret
  exact ⟨by rw [HR.out]; rfl, rfl⟩
set_option maxRecDepth 100000 in
set_option maxHeartbeats 4000000 in
theorem isName_any (s : ByteArray) (r : Bool) (w : World) (hs : s.size ≤ 1073741824) (hr : C.nameB s.data.toList = r) : Calls Tryz.prog 121 #[.string s] w (fun e w' => e = .returned (.bool r) ∧ w = w') := by
 have hsz : s.data.toList.length = s.size := by simp
 by_cases h0 : s.size = 0
 ·have e0 : s.data.toList = [] := List.eq_nil_of_length_eq_zero (hsz.trans h0)
  have HE := Lib.hid (show r = false by rw [← hr, e0]; rfl)
  have b0 : (s.toList == []) = true := by rw [Lib.toList_data, e0]; rfl
  have b0a : s.toList = [] := by rw [Lib.toList_data, e0]
  clear hsz h0 hr e0
  go_enter Tryz.func121, Tryz.ntmps121
  go_wp2
  go_ret
  exact ⟨by rw [HE.out]; rfl, rfl⟩
 have hpos : 0 < s.size := by omega
 have e0 : s.data.toList ≠ [] := fun e => h0 (by rw [← hsz, e]; rfl)
 have b0 : (s.toList == []) = false := by rw [Lib.toList_data]; exact beq_eq_false_iff_ne.2 e0
 have b0a : ¬ s.toList = [] := by rw [Lib.toList_data]; exact e0
 by_cases h1 : 16 < s.size
 ·have HE := Lib.hid (show r = false by rw [← hr]; exact name_long (by rw [hsz]; exact h1))
  have b2 : decide ((16 : Int) < (s.size : Int)) = true := decide_eq_true (by omega)
  have b2b : decide (16 < s.size) = true := decide_eq_true h1
  clear hsz h0 h1 hr e0
  go_enter Tryz.func121, Tryz.ntmps121
  go_wp2
  go_ret
  exact ⟨by rw [HE.out]; rfl, rfl⟩
 have b2 : decide ((16 : Int) < (s.size : Int)) = false := decide_eq_false (by omega)
 have b2b : decide (16 < s.size) = false := decide_eq_false h1
 have hhd := head_is s hpos
 have hposi : (0 : Int) < (s.size : Int) := by omega
 obtain ⟨lt, hlt⟩ : ∃ lt, (decide (97 ≤ s[0].toNat) && decide (s[0].toNat ≤ 122)) = lt := ⟨_, rfl⟩
 have HLT := Lib.hid hlt
 cases lt with
 | false =>
  have HE := Lib.hid (show r = false by
   rw [← hr]
   refine name_head hhd ?_
   rcases Bool.and_eq_false_iff.1 hlt with h | h
   ·exact .inl (by have := of_decide_eq_false h; omega)
   ·exact .inr (by have := of_decide_eq_false h; omega))
  clear hsz h0 h1 hhd hlt hr e0
  go_enter Tryz.func121, Tryz.ntmps121
  go_wp2_with fail
  refine (isLetter_any _ false _ HLT.out).mono ?_
  rintro e w1 ⟨rfl, rfl⟩
  go_wp2
  go_ret
  exact ⟨by rw [HE.out]; rfl, rfl⟩
 | true =>
 have hb := Bool.and_eq_true_iff.1 hlt
 have HHD := Lib.hid hhd
 have HSZ := Lib.hid hsz
 have HLO := Lib.hid (show 97 ≤ s[0].toNat ∧ s[0].toNat ≤ 122 ∧ s.size ≤ 16 from ⟨of_decide_eq_true hb.1, of_decide_eq_true hb.2, by omega⟩)
 have HR := Lib.hid hr
 have HPOS := Lib.hid hpos
 clear hsz h0 h1 hhd hlt hb hr e0
 go_enter Tryz.func121, Tryz.ntmps121
 go_wp2_with fail
 refine (isLetter_any _ true _ HLT.out).mono ?_
 rintro e w1 ⟨rfl, rfl⟩
 go_wp2
 go_loopg [3] s.size (fun gk vi wr => ∃ k : Nat, Hid (k + gk = s.size + 1) ∧ k ≤ s.size ∧ vi = .int .i64 (k : Int) ∧ Hid ((s.data.toList.take k).all C.okC = true) ∧ w1 = wr)
 case atStart => exact ⟨1, (by show _ = _; omega), by omega, rfl, (by
  show _ = _
  obtain ⟨h1, h2, _⟩ := HLO.out
  have := HHD.out
  cases hd : s.data.toList with
  | nil => rfl
  | cons x t =>
   rw [hd] at this
   injection this with this
   simp only [List.take_succ_cons, List.take_zero, List.all_cons, List.all_nil, Bool.and_true]
   rw [this]; exact okC_az h1 h2), rfl⟩
 case round =>
  obtain ⟨k, HG, hk, rfl, HD, rfl⟩ := hrel
  by_cases hlt : k < s.size
  ·have blt : decide ((k : Int) < (s.size : Int)) = true := decide_eq_true (by omega)
   have blt2 : decide (k < s.size) = true := decide_eq_true hlt
   have hki : (k : Int) < (s.size : Int) := by omega
   have hsn := W.take_snoc s k hlt
   have hmem : s[k] ∈ s.data.toList := List.mem_of_mem_take (i := k + 1) (by rw [hsn]; simp)
   have hgk := HG.out
   obtain ⟨lk, hlk⟩ : ∃ lt, (decide (97 ≤ s[k].toNat) && decide (s[k].toNat ≤ 122)) = lt := ⟨_, rfl⟩
   have HLK := Lib.hid hlk
   have HNX := Lib.hid (show C.okC s[k] = true → (s.data.toList.take (k + 1)).all C.okC = true by intro h; rw [hsn, List.all_append, HD.out, List.all_cons, h]; rfl)
   have HNO := Lib.hid (show C.okC s[k] = false → r = false by intro h; rw [← HR.out]; exact name_bad hmem h)
   clear hsn hmem
   cases lk with
   | true =>
    have hb := Bool.and_eq_true_iff.1 hlk
    have HD2 := Lib.hid (HNX.out (okC_az (of_decide_eq_true hb.1) (of_decide_eq_true hb.2)))
    clear hlk hb
    go_wp2_with fail
    refine (isLetter_any _ true _ HLK.out).mono ?_
    rintro e w2 ⟨rfl, rfl⟩
    go_wp2
    go_roundg (s.size + 1 - (k + 1))
    case rel => exact ⟨k + 1, (by show _ = _; omega), by omega, by go_num, HD2.out, rfl⟩
    case measure => omega
   | false =>
    have hnl : ¬ (97 ≤ s[k].toNat ∧ s[k].toNat ≤ 122) := by
     rintro ⟨h1, h2⟩; rw [decide_eq_true h1, decide_eq_true h2] at hlk; cases hlk
    clear hlk
    by_cases hlo : s[k].toNat < 48
    ·have c1 : decide ((s[k].toNat : Int) < 48) = true := decide_eq_true (by omega)
     have c1b : decide (s[k].toNat < 48) = true := decide_eq_true hlo
     by_cases hd : s[k].toNat = 45
     ·have c3 : ((s[k].toNat : Int) != 45) = false := by rw [bne_eq_false_iff_eq]; omega
      have c3b : ((s[k].toNat : Int) == 45) = true := by rw [beq_iff_eq]; omega
      have c3c : (s[k].toNat == 45) = true := by rw [beq_iff_eq]; omega
      have HD2 := Lib.hid (HNX.out (okC_dash hd))
      clear hnl hlo hd
      go_wp2_with fail
      refine (isLetter_any _ false _ HLK.out).mono ?_
      rintro e w2 ⟨rfl, rfl⟩
      go_wp2
      go_roundg (s.size + 1 - (k + 1))
      case rel => exact ⟨k + 1, (by show _ = _; omega), by omega, by go_num, HD2.out, rfl⟩
      case measure => omega
     ·have c3 : ((s[k].toNat : Int) != 45) = true := by rw [bne_iff_ne]; omega
      have c3b : ((s[k].toNat : Int) == 45) = false := by rw [beq_eq_false_iff_ne]; omega
      have c3c : (s[k].toNat == 45) = false := by rw [beq_eq_false_iff_ne]; omega
      have HE := Lib.hid (HNO.out (okC_no hnl (by omega) hd))
      clear hnl hlo hd
      go_wp2_with fail
      refine (isLetter_any _ false _ HLK.out).mono ?_
      rintro e w2 ⟨rfl, rfl⟩
      go_wp2
      go_ret
      exact ⟨by rw [HE.out]; rfl, rfl⟩
    ·have c1 : decide ((s[k].toNat : Int) < 48) = false := decide_eq_false (by omega)
     have c1b : decide (s[k].toNat < 48) = false := decide_eq_false hlo
     by_cases hhi : 57 < s[k].toNat
     ·have c2 : decide ((s[k].toNat : Int) > 57) = true := decide_eq_true (by omega)
      have c2a : decide ((57 : Int) < (s[k].toNat : Int)) = true := decide_eq_true (by omega)
      have c2b : decide (57 < s[k].toNat) = true := decide_eq_true hhi
      have c3 : ((s[k].toNat : Int) != 45) = true := by rw [bne_iff_ne]; omega
      have c3b : ((s[k].toNat : Int) == 45) = false := by rw [beq_eq_false_iff_ne]; omega
      have c3c : (s[k].toNat == 45) = false := by rw [beq_eq_false_iff_ne]; omega
      have HE := Lib.hid (HNO.out (okC_no hnl (by omega) (by omega)))
      clear hnl hlo hhi
      go_wp2_with fail
      refine (isLetter_any _ false _ HLK.out).mono ?_
      rintro e w2 ⟨rfl, rfl⟩
      go_wp2
      go_ret
      exact ⟨by rw [HE.out]; rfl, rfl⟩
     ·have c2 : decide ((s[k].toNat : Int) > 57) = false := decide_eq_false (by omega)
      have c2a : decide ((57 : Int) < (s[k].toNat : Int)) = false := decide_eq_false (by omega)
      have c2b : decide (57 < s[k].toNat) = false := decide_eq_false hhi
      have HD2 := Lib.hid (HNX.out (okC_dig (by omega) (by omega)))
      clear hnl hlo hhi
      go_wp2_with fail
      refine (isLetter_any _ false _ HLK.out).mono ?_
      rintro e w2 ⟨rfl, rfl⟩
      go_wp2
      go_roundg (s.size + 1 - (k + 1))
      case rel => exact ⟨k + 1, (by show _ = _; omega), by omega, by go_num, HD2.out, rfl⟩
      case measure => omega
  ·have blt : decide ((k : Int) < (s.size : Int)) = false := decide_eq_false (by omega)
   have blt2 : decide (k < s.size) = false := decide_eq_false hlt
   have HE := Lib.hid (show r = true by
    obtain ⟨h1, h2, h3⟩ := HLO.out
    rw [← HR.out]
    refine name_yes HHD.out h1 h2 (by rw [HSZ.out]; exact h3) ?_
    rw [← HD.out, List.take_of_length_le (by rw [HSZ.out]; omega)])
   go_wp2
   go_ret
   exact ⟨by rw [HE.out]; rfl, rfl⟩
theorem isNameQ (x : List UInt8) (r : Bool) (w : World) (hs : x.length ≤ 1073741824) (h : C.nameB x = r) : Calls Tryz.prog 121 #[.string (sB x)] w (fun e w' => e = .returned (.bool r) ∧ w = w') := isName_any (sB x) r w (by rw [sB_size]; exact hs) (by rw [sB_data]; exact h)
theorem okA_ok (z : Int) : (okA z).2 = decide (0 ≤ z) := by unfold okA; split <;> simp_all
theorem numA_ok (l : List UInt8) (a b : Int) (ha : 0 ≤ a) : (numA l a b).2 = (decide (a ≤ N.numL l) && decide (N.numL l ≤ b)) := by
 unfold numA
 by_cases h : a ≤ N.numL l ∧ N.numL l ≤ b
 ·rw [if_pos ⟨by omega, h.1, h.2⟩, decide_eq_true h.1, decide_eq_true h.2]; rfl
 ·rw [if_neg (fun g => h ⟨g.2.1, g.2.2⟩)]
  by_cases g : a ≤ N.numL l
  ·rw [decide_eq_false (fun k => h ⟨g, k⟩), Bool.and_false]
  ·rw [decide_eq_false g, Bool.false_and]
theorem prefA_ok (l : List UInt8) : (prefA l).2.2 = decide (0 ≤ (N.prefL l).1) := by unfold prefA; split <;> simp_all
set_option maxRecDepth 100000 in
set_option maxHeartbeats 8000000 in
theorem typeC (k x : List UInt8) (r : Bool) (w : World) (hx : x.length ≤ 100) (hr : C.typeB k x = r) : Calls Tryz.prog 86 #[.string (sB k), .string (sB x)] w (BoolS w r) := by
 have HL := Lib.hid (show x.length ≤ 1073741824 by omega)
 have HX := Lib.hid (show (sB x).size ≤ 100 by rw [sB_size]; exact hx)
 have HX2 := Lib.hid (show (sB x).size ≤ 1073741824 by rw [sB_size]; omega)
 have hb : Below w.heap.size w w := Below.refl _ _
 by_cases h0 : k = C.kName
 ·have q0 : ((sB k).toList == [36, 110, 97, 109, 101]) = true := by rw [sB_toList, beq_iff_eq]; exact h0
  have hv : C.nameB x = r := by rw [← hr]; unfold C.typeB; rw [if_pos h0]
  have HV := Lib.hid hv
  clear h0 hx hr hv
  go_enter Tryz.func86, Tryz.ntmps86
  go_wp2_with fail
  refine (isNameQ x r _ HL.out HV.out).mono ?_
  rintro e w1 ⟨rfl, rfl⟩
  go_wp2
  go_ret
  exact ⟨rfl, hb⟩
 have q0 : ((sB k).toList == [36, 110, 97, 109, 101]) = false := by rw [sB_toList, beq_eq_false_iff_ne]; exact h0
 by_cases h1 : k = C.kIp
 ·have q1 : ((sB k).toList == [36, 105, 112]) = true := by rw [sB_toList, beq_iff_eq]; exact h1
  have hv : decide (0 ≤ N.ipL x) = r := by rw [← hr]; unfold C.typeB; rw [if_neg h0, if_pos h1]
  obtain ⟨z, ok, hz⟩ : ∃ z ok, okA (N.ipL (sB x).data.toList) = (z, ok) := ⟨_, _, rfl⟩
  have HZ := Lib.hid hz
  have HV := Lib.hid (show ok = r by rw [← hv, ← okA_ok, ← sB_data x, hz])
  clear h0 h1 hx hr hz hv
  go_enter Tryz.func86, Tryz.ntmps86
  go_wp2_with fail
  refine (ip_any10 (sB x) z ok _ HX.out HZ.out).mono ?_
  rintro e w2 ⟨rfl, hx⟩
  go_wp2
  go_ret
  exact ⟨by rw [HV.out]; rfl, bthen hb hx⟩
 have q1 : ((sB k).toList == [36, 105, 112]) = false := by rw [sB_toList, beq_eq_false_iff_ne]; exact h1
 by_cases h2 : k = C.kPrefix
 ·have q2 : ((sB k).toList == [36, 112, 114, 101, 102, 105, 120]) = true := by rw [sB_toList, beq_iff_eq]; exact h2
  have hv : decide (0 ≤ (N.prefL x).1) = r := by rw [← hr]; unfold C.typeB; rw [if_neg h0, if_neg h1, if_pos h2]
  obtain ⟨z, zb, ok, hz⟩ : ∃ z zb ok, prefA (sB x).data.toList = (z, zb, ok) := ⟨_, _, _, rfl⟩
  have HZ := Lib.hid hz
  have HV := Lib.hid (show ok = r by rw [← hv, ← prefA_ok, ← sB_data x, hz])
  clear h0 h1 h2 hx hr hz hv
  go_enter Tryz.func86, Tryz.ntmps86
  go_wp2_with fail
  refine (pref_any10 (sB x) z zb ok _ HX.out HZ.out).mono ?_
  rintro e w2 ⟨rfl, hx⟩
  go_wp2
  go_ret
  exact ⟨by rw [HV.out]; rfl, bthen hb hx⟩
 have q2 : ((sB k).toList == [36, 112, 114, 101, 102, 105, 120]) = false := by rw [sB_toList, beq_eq_false_iff_ne]; exact h2
 by_cases h3 : k = C.kMac
 ·have q3 : ((sB k).toList == [36, 109, 97, 99]) = true := by rw [sB_toList, beq_iff_eq]; exact h3
  have hv : decide (0 ≤ N.macL x) = r := by rw [← hr]; unfold C.typeB; rw [if_neg h0, if_neg h1, if_neg h2, if_pos h3]
  obtain ⟨z, ok, hz⟩ : ∃ z ok, okA (N.macL (sB x).data.toList) = (z, ok) := ⟨_, _, rfl⟩
  have HZ := Lib.hid hz
  have HV := Lib.hid (show ok = r by rw [← hv, ← okA_ok, ← sB_data x, hz])
  clear h0 h1 h2 h3 hx hr hz hv
  go_enter Tryz.func86, Tryz.ntmps86
  go_wp2_with fail
  refine (mac_any10 (sB x) z ok _ HZ.out).mono ?_
  rintro e w2 ⟨rfl, rfl⟩
  go_wp2
  go_ret
  exact ⟨by rw [HV.out]; rfl, hb⟩
 have q3 : ((sB k).toList == [36, 109, 97, 99]) = false := by rw [sB_toList, beq_eq_false_iff_ne]; exact h3
 by_cases h4 : k = C.kVni
 ·have q4 : ((sB k).toList == [36, 118, 110, 105]) = true := by rw [sB_toList, beq_iff_eq]; exact h4
  have hv : (decide (1 ≤ N.numL x) && decide (N.numL x ≤ 16777215)) = r := by rw [← hr]; unfold C.typeB; rw [if_neg h0, if_neg h1, if_neg h2, if_neg h3, if_pos h4]
  obtain ⟨z, ok, hz⟩ : ∃ z ok, numA (sB x).data.toList 1 16777215 = (z, ok) := ⟨_, _, rfl⟩
  have HZ := Lib.hid hz
  have HV := Lib.hid (show ok = r by rw [← hv, ← numA_ok _ _ _ (by omega), ← sB_data x, hz])
  clear h0 h1 h2 h3 h4 hx hr hz hv
  go_enter Tryz.func86, Tryz.ntmps86
  go_wp2_with fail
  refine (num_any10 (sB x) 1 16777215 z ok _ HX2.out HZ.out).mono ?_
  rintro e w2 ⟨rfl, rfl⟩
  go_wp2
  go_ret
  exact ⟨by rw [HV.out]; rfl, hb⟩
 have q4 : ((sB k).toList == [36, 118, 110, 105]) = false := by rw [sB_toList, beq_eq_false_iff_ne]; exact h4
 by_cases h5 : k = C.kNum
 ·have q5 : ((sB k).toList == [36, 110, 117, 109]) = true := by rw [sB_toList, beq_iff_eq]; exact h5
  have hv : (decide (1 ≤ N.numL x) && decide (N.numL x ≤ 1000)) = r := by rw [← hr]; unfold C.typeB; rw [if_neg h0, if_neg h1, if_neg h2, if_neg h3, if_neg h4, if_pos h5]
  obtain ⟨z, ok, hz⟩ : ∃ z ok, numA (sB x).data.toList 1 1000 = (z, ok) := ⟨_, _, rfl⟩
  have HZ := Lib.hid hz
  have HV := Lib.hid (show ok = r by rw [← hv, ← numA_ok _ _ _ (by omega), ← sB_data x, hz])
  clear h0 h1 h2 h3 h4 h5 hx hr hz hv
  go_enter Tryz.func86, Tryz.ntmps86
  go_wp2_with fail
  refine (num_any10 (sB x) 1 1000 z ok _ HX2.out HZ.out).mono ?_
  rintro e w2 ⟨rfl, rfl⟩
  go_wp2
  go_ret
  exact ⟨by rw [HV.out]; rfl, hb⟩
 have q5 : ((sB k).toList == [36, 110, 117, 109]) = false := by rw [sB_toList, beq_eq_false_iff_ne]; exact h5
 by_cases h6 : k = C.kMetric
 ·have q6 : ((sB k).toList == [36, 109, 101, 116, 114, 105, 99]) = true := by rw [sB_toList, beq_iff_eq]; exact h6
  have hv : C.readB x = r := by rw [← hr]; unfold C.typeB; rw [if_neg h0, if_neg h1, if_neg h2, if_neg h3, if_neg h4, if_neg h5, if_pos h6]
  have HV := Lib.hid hv
  clear h0 h1 h2 h3 h4 h5 h6 hx hr hv
  go_enter Tryz.func86, Tryz.ntmps86
  go_wp2_with fail
  refine (read_any11 (sB x) _ HX.out).mono ?_
  rintro e w2 ⟨y, ok, rfl, hrd, hx⟩
  rw [sB_data] at hrd
  have HO := Lib.hid (show ok = r by rw [← HV.out]; exact read_readB hrd)
  clear hrd
  go_wp2
  go_ret
  exact ⟨by rw [HO.out]; rfl, bthen hb hx⟩
 have q6 : ((sB k).toList == [36, 109, 101, 116, 114, 105, 99]) = false := by rw [sB_toList, beq_eq_false_iff_ne]; exact h6
 by_cases h7 : k = C.kAction
 ·have q7 : ((sB k).toList == [36, 97, 99, 116, 105, 111, 110]) = true := by rw [sB_toList, beq_iff_eq]; exact h7
  have hv : (decide (x = C.wPermit) || decide (x = C.wDeny)) = r := by rw [← hr]; unfold C.typeB; rw [if_neg h0, if_neg h1, if_neg h2, if_neg h3, if_neg h4, if_neg h5, if_neg h6, if_pos h7]
  have e1 : ((sB x).toList == [112, 101, 114, 109, 105, 116]) = decide (x = C.wPermit) := by rw [sB_toList]; exact beq_decW
  have e2 : ((sB x).toList == [100, 101, 110, 121]) = decide (x = C.wDeny) := by rw [sB_toList]; exact beq_decW
  obtain ⟨p1, hp1⟩ : ∃ p, decide (x = C.wPermit) = p := ⟨_, rfl⟩
  obtain ⟨p2, hp2⟩ : ∃ p, decide (x = C.wDeny) = p := ⟨_, rfl⟩
  rw [hp1] at e1 hv
  rw [hp2] at e2 hv
  have HV := Lib.hid hv
  clear h0 h1 h2 h3 h4 h5 h6 h7 hx hr hp1 hp2 hv
  cases p1 <;> cases p2
  all_goals
   go_enter Tryz.func86, Tryz.ntmps86
   go_wp2
   go_ret
   exact ⟨by rw [← HV.out]; rfl, hb⟩
 have q7 : ((sB k).toList == [36, 97, 99, 116, 105, 111, 110]) = false := by rw [sB_toList, beq_eq_false_iff_ne]; exact h7
 have HV := Lib.hid (show r = false by rw [← hr]; unfold C.typeB; rw [if_neg h0, if_neg h1, if_neg h2, if_neg h3, if_neg h4, if_neg h5, if_neg h6, if_neg h7])
 clear h0 h1 h2 h3 h4 h5 h6 h7 hx hr
 go_enter Tryz.func86, Tryz.ntmps86
 go_wp2
 go_ret
 exact ⟨by rw [HV.out]; rfl, hb⟩
theorem pre_dollar (s : List UInt8) : Lib.hasPrefix s [36] = decide (s.head? = some 36) := by
 cases s with
 | nil => rfl
 | cons x t => rw [Bool.eq_iff_iff]; simp [Lib.hasPrefix]; exact eq_comm
theorem standsC (a s : List UInt8) (r : Bool) (w : World) (ha : a.length ≤ 100) (hr : C.standsB a s = r) : Calls Tryz.prog 150 #[.string (sB a), .string (sB s)] w (BoolS w r) := by
 have hb : Below w.heap.size w w := Below.refl _ _
 by_cases h : s.head? = some 36
 ·have HP := Lib.hid (show Lib.hasPrefix (sB s).data.toList (⟨#[36]⟩ : ByteArray).data.toList = true by rw [sB_data]; show Lib.hasPrefix s [36] = true; rw [pre_dollar, decide_eq_true h])
  have HV := Lib.hid (show C.typeB s a = r by rw [← hr]; unfold C.standsB; rw [if_pos h])
  clear h hr
  go_enter Tryz.func150, Tryz.ntmps150
  go_wp2_with fail
  refine (prefix_any _ _ _).mono ?_
  rintro e w1 ⟨rfl, rfl⟩
  rw [HP.out]
  go_wp2_with fail
  refine (typeC s a r _ ha HV.out).mono ?_
  rintro e w1 ⟨rfl, hx⟩
  go_wp2
  go_ret
  exact ⟨rfl, bthen hb hx⟩
 ·have HP := Lib.hid (show Lib.hasPrefix (sB s).data.toList (⟨#[36]⟩ : ByteArray).data.toList = false by rw [sB_data]; show Lib.hasPrefix s [36] = false; rw [pre_dollar, decide_eq_false h])
  have hv : decide (a = s) = r := by rw [← hr]; unfold C.standsB; rw [if_neg h]
  have e1 : ((sB a).toList == (sB s).toList) = r := by rw [sB_toList, sB_toList, ← hv]; exact beq_decW
  clear h hr hv
  go_enter Tryz.func150, Tryz.ntmps150
  go_wp2_with fail
  refine (prefix_any _ _ _).mono ?_
  rintro e w1 ⟨rfl, rfl⟩
  rw [HP.out]
  go_wp2
  go_ret
  exact ⟨rfl, hb⟩
end Go.Proofs.YtfcikfohmehmkaaGreatDoor
namespace Go.Proofs.YtfcikfohmehmkaaGreatDoor
namespace C
def lastI (c : UInt8) (l : List UInt8) : Int := (l.length : Int) - 1 - ((l.reverse.takeWhile (fun x => x != c)).length : Int)
theorem while_all {c : UInt8} : ∀ (l r : List UInt8), c ∉ l → (l ++ r).takeWhile (fun x => x != c) = l ++ r.takeWhile (fun x => x != c)
 | [], _, _ => rfl
 | x :: l, r, h => by
  rw [List.cons_append, List.takeWhile_cons, if_pos (by rw [bne_iff_ne]; exact fun e => h (e ▸ List.mem_cons_self)), while_all l r (fun g => h (List.mem_cons_of_mem _ g)), List.cons_append]
theorem last_none {c : UInt8} {l : List UInt8} (h : c ∉ l) : lastI c l = -1 := by
 unfold lastI
 have e := while_all l.reverse [] (by rwa [List.mem_reverse])
 rw [List.append_nil] at e
 rw [e, List.takeWhile_nil, List.append_nil, List.length_reverse]; omega
theorem last_at {c : UInt8} {l : List UInt8} {i : Nat} (hc : l[i]? = some c) (h : c ∉ l.drop (i + 1)) : lastI c l = (i : Int) := by
 obtain ⟨hi, hx⟩ := List.getElem?_eq_some_iff.1 hc
 have e : l = l.take i ++ c :: l.drop (i + 1) := by
  have := (List.take_append_drop i l).symm
  rw [List.drop_eq_getElem_cons hi, hx] at this
  exact this
 have e2 : l.reverse = (l.drop (i + 1)).reverse ++ (c :: (l.take i).reverse) := by
  conv => lhs; rw [e]
  rw [List.reverse_append, List.reverse_cons, List.append_assoc]; rfl
 have e3 : l.reverse.takeWhile (fun x => x != c) = (l.drop (i + 1)).reverse := by
  rw [e2, while_all _ _ (by rwa [List.mem_reverse]), List.takeWhile_cons, if_neg (by simp), List.append_nil]
 unfold lastI
 rw [e3, List.length_reverse, List.length_drop]; omega
theorem drop_next {c x : UInt8} {l : List UInt8} {i : Nat} (hx : l[i]? = some x) (hne : x ≠ c) (h : c ∉ l.drop (i + 1)) : c ∉ l.drop i := by
 obtain ⟨hi, hx⟩ := List.getElem?_eq_some_iff.1 hx
 rw [List.drop_eq_getElem_cons hi, hx, List.mem_cons]
 rintro (e | e)
 ·exact hne e.symm
 ·exact h e
end C
open Go.RowKit
open F
open T (Pth)
set_option linter.unusedVariables false
set_option maxRecDepth 100000 in
theorem lastByte_any (s : ByteArray) (c : UInt8) (z : Int) (w : World) (hs : s.size ≤ 1073741824) (hz : C.lastI c s.data.toList = z) : Calls Tryz.prog 160 #[.string s, .int .u8 (c.toNat : Int)] w (fun e w' => e = .returned (.int .i64 z) ∧ w = w') := by
 obtain ⟨n, hn⟩ : ∃ n, s.size = n := ⟨_, rfl⟩
 have hln : s.data.toList.length = n := by rw [← Lib.size_eq]; exact hn
 have HNS := Lib.hid hn
 have HLN := Lib.hid hln
 have HZ := Lib.hid hz
 rw [hn] at hs
 clear hln hz
 go_enter Tryz.func160, Tryz.ntmps160
 go_wp2
 go_loopg [5] n (fun gk vi wr => ∃ y : Int, Hid (y + 1 = (gk : Int)) ∧ vi = .int .i64 y ∧ gk ≤ n ∧ Hid (c ∉ s.data.toList.drop gk) ∧ w = wr)
 case atStart => exact ⟨(n : Int) - 1, (by show _ = _; omega), (by go_num), Nat.le_refl _, (by show _ ∉ _; rw [List.drop_eq_nil_of_le (by rw [HLN.out]; exact Nat.le_refl _)]; exact List.not_mem_nil), rfl⟩
 case round =>
  obtain ⟨y0, HY, rfl, hgn, HF, rfl⟩ := hrel
  by_cases hy : 0 ≤ y0
  ·obtain ⟨y, rfl⟩ := Int.eq_ofNat_of_zero_le hy
   have c1 : decide ((0 : Int) ≤ (y : Int)) = true := decide_eq_true hy
   have c1a : decide ((y : Int) ≥ 0) = true := decide_eq_true hy
   obtain rfl : y + 1 = gk := by have := HY.out; omega
   have hyn : y < n := by omega
   have hys : y < s.size := by rw [HNS.out]; exact hyn
   have hyi : (y : Int) < (n : Int) := by omega
   have HAT := Lib.hid (at_of s y hys)
   by_cases he : s[y] = c
   ·have e1 : ((s[y].toNat : Int) == (c.toNat : Int)) = true := by rw [he]; exact beq_self_eq_true _
    have e1b : (s[y].toNat == c.toNat) = true := by rw [he]; exact beq_self_eq_true _
    have e1c : (s[y] == c) = true := by rw [he]; exact beq_self_eq_true _
    have HE := Lib.hid (show z = (y : Int) by rw [← HZ.out]; exact C.last_at (by rw [← he]; exact HAT.out) HF.out)
    clear he hy
    go_wp2
    go_ret
    exact ⟨by rw [HE.out]; rfl, rfl⟩
   ·have hne : s[y].toNat ≠ c.toNat := fun e => he (UInt8.toNat_inj.1 e)
    have e1 : ((s[y].toNat : Int) == (c.toNat : Int)) = false := beq_eq_false_iff_ne.2 (by omega)
    have e1b : (s[y].toNat == c.toNat) = false := beq_eq_false_iff_ne.2 hne
    have e1c : (s[y] == c) = false := beq_eq_false_iff_ne.2 he
    have HF2 := Lib.hid (C.drop_next HAT.out he HF.out)
    clear he hne hy
    go_wp2
    go_roundg y
    case rel => exact ⟨(y : Int) - 1, (by show _ = _; omega), (by go_num), by omega, HF2.out, rfl⟩
    case measure => omega
  ·have c1 : decide ((0 : Int) ≤ y0) = false := decide_eq_false hy
   have c1a : decide (y0 ≥ 0) = false := decide_eq_false hy
   have HE := Lib.hid (show z = -1 by
    have h0 : gk = 0 := by have := HY.out; omega
    subst h0
    rw [← HZ.out]; exact C.last_none (by simpa using HF.out))
   clear hy
   go_wp2
   go_ret
   exact ⟨by rw [HE.out]; rfl, rfl⟩
theorem lastIndex_any (s : ByteArray) (c : UInt8) (z : Int) (w : World) (hs : s.size ≤ 1073741824) (hz : C.lastI c s.data.toList = z) : Calls Tryz.prog 127 #[.string s, .string ⟨#[c]⟩] w (fun e w' => e = .returned (.int .i64 z) ∧ w = w') := by
 have b1 : ((⟨#[c]⟩ : ByteArray).size : Int) = 1 := rfl
 have b2 : (⟨#[c]⟩ : ByteArray)[0]? = some c := rfl
 go_enter Tryz.func127, Tryz.ntmps127
 go_wp2_with fail
 refine (lastByte_any s c z _ hs hz).mono ?_
 rintro e w1 ⟨rfl, rfl⟩
 go_wp2
 go_ret
 exact ⟨rfl, rfl⟩
theorem cutQ (x : List UInt8) (w : World) (hs : x.length ≤ 100) : Calls Tryz.prog 149 #[.string (sB x), .string ⟨#[32]⟩] w (fun e w' => ∃ a b f, e = .returned (.tuple #[.string (sB a), .string (sB b), .bool f]) ∧ CutIs 32 x a b f ∧ Below w.heap.size w w') := by
 refine (cut_any10 (sB x) 32 w (by rw [sB_size]; omega)).mono ?_
 rintro e w' ⟨⟨a, b, f, rfl, h⟩, hb⟩
 rw [sB_data] at h
 exact ⟨a, b, f, rfl, h, hb⟩
set_option maxRecDepth 100000 in
set_option maxHeartbeats 4000000 in
theorem meetsC (A : Option Addr) (c n : Nat) (p : Pth) (s : List UInt8) (r : Bool) (w : World) (hn : p.length = n) (hA : Seen eS w A p) (hsw : ShortW p) (hl : n ≤ 1073741824) (hs : s.length ≤ 100) (hr : C.meetsB p s = r) :
  Calls Tryz.prog 120 #[.slice A n c, .string (sB s)] w (BoolS w r) := by
 rcases Nat.eq_zero_or_pos n with h0 | h0
 ·subst h0
  have hp : p = [] := List.eq_nil_of_length_eq_zero hn
  have HE := Lib.hid (show r = false by rw [← hr, hp]; exact C.meets_nil s)
  clear hr hp
  go_enter Tryz.func120, Tryz.ntmps120
  go_wp2
  go_loopg [1, 12] 0 (fun gk vs vi wr => vi = .int .i64 0 ∧ w = wr)
  case atStart => exact ⟨rfl, rfl⟩
  case round =>
   obtain ⟨rfl, rfl⟩ := hrel
   go_wp2
   go_ret
   exact ⟨by rw [HE.out]; rfl, Below.refl _ _⟩
 obtain ⟨m, rfl⟩ : ∃ m, n = m + 1 := ⟨n - 1, by omega⟩
 have j1 : ((m + 1 : Nat) : Int) - 1 = (m : Int) := by omega
 have j2 : IntKind.i64.wrap (m : Int) = (m : Int) := by rw [IntKind.wrap_i64]; omega
 have HN := Lib.hid hn
 have HA := Lib.hid hA
 have HSW := Lib.hid hsw
 have HR := Lib.hid hr
 have hpos : 0 < p.length := by omega
 obtain ⟨b, o, rfl, hbw, hL⟩ := hA hpos
 have HL := Lib.hid hL
 clear hn hA hsw hr hL
 go_enter Tryz.func120, Tryz.ntmps120
 go_wp2
 go_loopg [1, 12] (m + 1) (fun gk vs vi wr => ∃ (k : Nat) (rest : List UInt8), Hid (k + gk = m + 1) ∧ k ≤ m + 1 ∧ vs = .string (sB rest) ∧ vi = .int .i64 (k : Int) ∧ Hid (rest.length ≤ 100) ∧ Hid ((k < m + 1 → C.matchB (p.drop k) (N.splitL 32 rest) = r) ∧ (k = m + 1 → r = true)) ∧ Below w.heap.size w wr)
 case atStart => exact ⟨0, s, Nat.zero_add _, Nat.zero_le _, rfl, rfl, hs, ⟨fun _ => HR.out, fun h => by omega⟩, Below.refl _ _⟩
 case round =>
  obtain ⟨k, rest, HG, hk, rfl, rfl, HRL, HM, hb⟩ := hrel
  have hgk := HG.out
  by_cases hlt : k < m + 1
  ·have blt : decide ((k : Int) < ((m + 1 : Nat) : Int)) = true := decide_eq_true (by omega)
   have blt2 : decide (k < m + 1) = true := decide_eq_true hlt
   have hki : (k : Int) < ((m + 1 : Nat) : Int) := by omega
   have hkp : k < p.length := by rw [HN.out]; exact hlt
   obtain ⟨x, hx⟩ : ∃ x, p[k]? = some x := ⟨_, List.getElem?_eq_getElem hkp⟩
   have c0 : wr.cell? ⟨b, o + k, none⟩ = some (.string (sB x)) := cellS (HL.out.below hb hbw) hx
   have HX := Lib.hid (show x.length ≤ 100 from HSW.out x (List.mem_of_getElem? hx))
   have HDR := Lib.hid (show p.drop k = x :: p.drop (k + 1) by rw [List.drop_eq_getElem_cons hkp]; congr 1; exact (List.getElem?_eq_some_iff.1 hx).2)
   clear hx
   go_wp2_with fail
   refine (cutQ rest _ HRL.out).mono ?_
   rintro e w2 ⟨a, b2, f, rfl, hc, hx⟩
   replace hb := bthen hb hx
   clear hx
   have HAB := Lib.hid (hc.small HRL.out)
   obtain ⟨sb, hsb⟩ : ∃ sb, C.standsB x a = sb := ⟨_, rfl⟩
   have HSB := Lib.hid hsb
   have HCU := Lib.hid hc
   clear hc hsb
   have HW := Lib.hid (HM.out.1 hlt)
   cases sb with
   | false =>
    have HE := Lib.hid (show r = false by
     rw [← HW.out, HDR.out]
     cases f with
     | false => rw [(cut_false HCU.out).1]; show (C.standsB x a && _) = false; rw [HSB.out]; rfl
     | true => rw [(cut_true HCU.out).1]; show (C.standsB x a && _) = false; rw [HSB.out]; rfl)
    go_wp2_with fail
    refine (standsC x a false _ HX.out HSB.out).mono ?_
    rintro e w3 ⟨rfl, hx⟩
    go_wp2
    go_ret
    exact ⟨by rw [HE.out]; rfl, bthen hb hx⟩
   | true =>
    by_cases hkm : k < m
    ·have d1 : decide ((k : Int) < (m : Int)) = true := decide_eq_true (by omega)
     have d1b : decide (k < m) = true := decide_eq_true hkm
     cases f with
     | false =>
      have HE := Lib.hid (show r = false by
       rw [← HW.out, HDR.out, (cut_false HCU.out).1]
       show (C.standsB x a && _) = false
       rw [C.match_none _ (fun e => by have := congrArg List.length e; rw [List.length_drop, HN.out] at this; simp at this; omega), Bool.and_false])
      go_wp2_with fail
      refine (standsC x a true _ HX.out HSB.out).mono ?_
      rintro e w3 ⟨rfl, hx⟩
      go_wp2
      go_ret
      exact ⟨by rw [HE.out]; rfl, bthen hb hx⟩
     | true =>
      have HM2 := Lib.hid (show C.matchB (p.drop (k + 1)) (N.splitL 32 b2) = r by
       rw [← HW.out, HDR.out, (cut_true HCU.out).1]
       show _ = (C.standsB x a && _)
       rw [HSB.out, Bool.true_and])
      go_wp2_with fail
      refine (standsC x a true _ HX.out HSB.out).mono ?_
      rintro e w3 ⟨rfl, hx⟩
      go_wp2
      go_roundg (m + 1 - (k + 1))
      case rel => exact ⟨k + 1, b2, (by show _ = _; omega), by omega, rfl, by go_num, HAB.out.2, ⟨fun _ => HM2.out, fun h => by omega⟩, bthen hb hx⟩
      case measure => omega
    ·have d1 : decide ((k : Int) < (m : Int)) = false := decide_eq_false (by omega)
     have d1b : decide (k < m) = false := decide_eq_false hkm
     have HD0 := Lib.hid (show p.drop (k + 1) = [] from List.drop_eq_nil_of_le (by rw [HN.out]; omega))
     cases f with
     | false =>
      have HE := Lib.hid (show r = true by
       rw [← HW.out, HDR.out, (cut_false HCU.out).1, HD0.out]
       show (C.standsB x a && true) = true
       rw [HSB.out]; rfl)
      go_wp2_with fail
      refine (standsC x a true _ HX.out HSB.out).mono ?_
      rintro e w3 ⟨rfl, hx⟩
      go_wp2
      go_roundg (m + 1 - (k + 1))
      case rel => exact ⟨k + 1, b2, (by show _ = _; omega), by omega, rfl, by go_num, HAB.out.2, ⟨fun h => by omega, fun _ => HE.out⟩, bthen hb hx⟩
      case measure => omega
     | true =>
      have HE := Lib.hid (show r = false by
       rw [← HW.out, HDR.out, (cut_true HCU.out).1, HD0.out]
       show (C.standsB x a && C.matchB [] _) = false
       rw [C.match_nil (N.split_ne 32 b2), Bool.and_false])
      go_wp2_with fail
      refine (standsC x a true _ HX.out HSB.out).mono ?_
      rintro e w3 ⟨rfl, hx⟩
      go_wp2
      go_ret
      exact ⟨by rw [HE.out]; rfl, bthen hb hx⟩
  ·have blt : decide ((k : Int) < ((m + 1 : Nat) : Int)) = false := decide_eq_false (by omega)
   have blt2 : decide (k < m + 1) = false := decide_eq_false hlt
   have HE := Lib.hid (HM.out.2 (by omega))
   have d2 : decide (((m + 1 : Nat) : Int) > 0) = true := decide_eq_true (by omega)
   have d2a : decide ((0 : Int) < ((m + 1 : Nat) : Int)) = true := decide_eq_true (by omega)
   go_wp2
   go_ret
   exact ⟨by rw [HE.out]; rfl, hb⟩
end Go.Proofs.YtfcikfohmehmkaaGreatDoor
