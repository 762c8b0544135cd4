/-
  Layer 10's code: MAC, IPText, PrefixText, MACText; all that addr does (addr_ok). Condition: texts of at most 100 bytes.
-/
import Derived.Test.YtgefbdckngejdaaDoorAddrD
namespace Go.Proofs.YtgefbdckngejdaaDoor
open Go.RowKit
set_option linter.unusedVariables false

theorem shl4C {n : Nat} (h : n < 281474976710656) : (n : Int) * 16 = ((16 * n : Nat) : Int) := by omega
theorem or4C {n b : Nat} (h : n < 281474976710656) (hb : b < 16) : Go.bits .or .i64 ((16 * n : Nat) : Int) (b : Int) = ((16 * n + b : Nat) : Int) := by
  have h1 : 16 * n + b < 9223372036854775808 := by omega
  exact N.or_low n b 4 16 rfl hb h1
theorem hexStr : (⟨#[48, 49, 50, 51, 52, 53, 54, 55, 56, 57, 97, 98, 99, 100, 101, 102]⟩ : ByteArray).data.toList = N.hexDigs := rfl
/-- Digits of a hardware address on the way: 12 at most of the 17 bytes. -/
theorem run_lt2 : ∀ (l : List UInt8) (i n m : Nat), N.macRun i n l = some m → m < (n + 1) * 16 ^ (l.length - (l.length + i % 3) / 3)
  | [], i, n, m, h => by
    obtain rfl : n = m := Option.some.inj h
    have hp : 0 < 16 ^ (([] : List UInt8).length - (([] : List UInt8).length + i % 3) / 3) := Nat.pow_pos (by omega)
    have := Nat.mul_le_mul_left (n + 1) hp
    omega
  | c :: r, i, n, m, h => by
    by_cases h3 : i % 3 = 2
    · obtain ⟨_, e⟩ := N.run_colon h3 h
      have h1 := run_lt2 r (i + 1) n m e
      have e2 : r.length - (r.length + (i + 1) % 3) / 3 = (c :: r).length - ((c :: r).length + i % 3) / 3 := by rw [List.length_cons]; omega
      rw [e2] at h1
      exact h1
    · obtain ⟨d, hd, _, e⟩ := N.run_digit h3 h
      have h1 := run_lt2 r (i + 1) (16 * n + d) m e
      have e2 : (c :: r).length - ((c :: r).length + i % 3) / 3 = (r.length - (r.length + (i + 1) % 3) / 3) + 1 := by rw [List.length_cons]; omega
      rw [e2, Nat.pow_succ, Nat.mul_comm (16 ^ _) 16, ← Nat.mul_assoc]
      have h2 : (16 * n + d + 1) * 16 ^ (r.length - (r.length + (i + 1) % 3) / 3) ≤ (n + 1) * 16 * 16 ^ (r.length - (r.length + (i + 1) % 3) / 3) := Nat.mul_le_mul_right _ (by omega)
      omega
theorem run_small {l : List UInt8} {m : Nat} (hl : l.length ≤ 17) (h : N.macRun 0 0 l = some m) : m < 281474976710656 := by
  have h1 := run_lt2 l 0 0 m h
  have h2 : 16 ^ (l.length - (l.length + 0 % 3) / 3) ≤ 16 ^ 12 := Nat.pow_le_pow_right (by omega) (by omega)
  have h3 : 16 ^ 12 = 281474976710656 := rfl
  rw [h3] at h2
  omega
set_option maxRecDepth 100000 in
set_option maxHeartbeats 4000000 in
theorem mac_any10 (s : ByteArray) (z : Int) (ok : Bool) (w : World) (hz : okA (N.macL s.data.toList) = (z, ok)) : Calls Tryd.prog 17 #[.string s] w (fun e w' => e = .returned (.tuple #[.int .i64 z, .bool ok]) ∧ w = w') := by
  have hsz : s.data.toList.length = s.size := by simp
  by_cases h17 : s.size = 17
  · have b1 : ((s.size : Int) == 17) = true := by simp; omega
    have b1b : (s.size == 17) = true := by simp; omega
    have b1c : ((s.size : Int) != 17) = false := by simp; omega
    have HSZ := Lib.hid (show s.data.toList.length = 17 by rw [hsz]; exact h17)
    have HZ := Lib.hid hz
    have H17 := Lib.hid h17
    clear hz hsz h17
    go_enter Tryd.func17, Tryd.ntmps17
    go_wp2
    go_loopg [4, 5] 17 (fun gk vn vi wr => ∃ (k n : Nat), Hid (k + gk = 17) ∧ vi = .int .i64 (k : Int) ∧ vn = .int .i64 (n : Int) ∧ Hid (N.macRun 0 0 (s.data.toList.take k) = some n) ∧ w = wr)
    case atStart => exact ⟨0, 0, (by show _ = _; rfl), rfl, rfl, rfl, rfl⟩
    case round =>
      obtain ⟨k, n, HG, rfl, rfl, HR, rfl⟩ := hrel
      have hgk := HG.out
      by_cases hlt : k < s.size
      · have blt : decide ((k : Int) < (s.size : Int)) = true := decide_eq_true (by omega)
        have blt2 : decide (k < s.size) = true := decide_eq_true hlt
        have hki : (k : Int) < (s.size : Int) := by omega
        have hx := s[k].toNat_lt
        have hk17 : k < 17 := by have := H17.out; omega
        have hll : k < s.data.toList.length := by rw [HSZ.out]; exact hk17
        have hget : s.data.toList[k] = s[k] := rfl
        have HN := Lib.hid (run_small (by rw [List.length_take]; omega) HR.out)
        by_cases hm : k % 3 = 2
        · have e1 : Int.tmod (k : Int) 3 = 2 := by rw [Int.tmod_eq_emod_of_nonneg (by omega)]; omega
          by_cases hc : s[k] = 58
          · have b2 : ((s[k].toNat : Int) == 58) = true := by rw [hc]; rfl
            have HS := Lib.hid (N.run_snoc hll HR.out (show N.macStep k n s.data.toList[k] = some n by rw [N.mac_colon hm, hget, if_pos hc]))
            clear hc hm hget
            go_wp2
            go_roundg (17 - (k + 1))
            case rel => exact ⟨k + 1, n, (by show _ = _; omega), by go_num, by go_num, HS.out, rfl⟩
            case measure => omega
          · have hne : s[k].toNat ≠ 58 := fun e => hc (UInt8.toNat_inj.1 e)
            have b2 : ((s[k].toNat : Int) == 58) = false := by simp; omega
            have HE := Lib.hid (show z = 0 ∧ ok = false by
              have := HZ.out
              rw [N.run_none_at hll HR.out (by rw [N.mac_colon hm, hget, if_neg hc])] at this
              exact ⟨(congrArg Prod.fst this).symm, (congrArg Prod.snd this).symm⟩)
            obtain ⟨rfl, rfl⟩ := HE.out
            clear hc hm hget hne
            go_wp2
            go_ret2
            exact ⟨rfl, rfl⟩
        · have hmi : Int.tmod (k : Int) 3 = ((k % 3 : Nat) : Int) := by rw [Int.tmod_eq_emod_of_nonneg (by omega)]; omega
          obtain ⟨m3, hm3⟩ : ∃ m, k % 3 = m := ⟨_, rfl⟩
          rw [hm3] at hmi
          have b2 : ((m3 : Int) == 2) = false := beq_eq_false_iff_ne.2 (by omega)
          have b2b : (m3 == 2) = false := beq_eq_false_iff_ne.2 (by omega)
          have HIX := Lib.hid (show Lib.indexByte (⟨#[48, 49, 50, 51, 52, 53, 54, 55, 56, 57, 97, 98, 99, 100, 101, 102]⟩ : ByteArray).data.toList s[k] = N.hexV s[k] by rw [hexStr]; exact N.hex_index _)
          rcases N.hex_cases s[k] with hh | ⟨d, hh, hd, _⟩
          · have HV := Lib.hid (HIX.out.trans hh)
            have HE := Lib.hid (show z = 0 ∧ ok = false by
              have := HZ.out
              rw [N.run_none_at hll HR.out (by rw [N.mac_digit hm, hget, if_pos (by omega)])] at this
              exact ⟨(congrArg Prod.fst this).symm, (congrArg Prod.snd this).symm⟩)
            obtain ⟨rfl, rfl⟩ := HE.out
            clear hm hget hh hm3
            go_wp2_with fail
            refine (indexByte_any _ _ _).mono ?_
            rintro e w1 ⟨rfl, rfl⟩
            rw [HV.out]
            go_wp2
            go_ret2
            exact ⟨rfl, rfl⟩
          · have HV := Lib.hid (HIX.out.trans hh)
            have HS := Lib.hid (N.run_snoc hll HR.out (show N.macStep k n s.data.toList[k] = some (16 * n + d) by rw [N.mac_digit hm, hget, hh, if_neg (by omega), Int.toNat_natCast]))
            have e8 := shl4C HN.out
            have e9 := or4C HN.out hd
            obtain ⟨m, hmm⟩ : ∃ m, 16 * n = m := ⟨_, rfl⟩
            obtain ⟨n2, hn2⟩ : ∃ k, 16 * n + d = k := ⟨_, rfl⟩
            have HN2 := Lib.hid hn2
            have hmb : m < 4503599627370496 := by have := HN.out; omega
            rw [hn2] at e9
            rw [hmm] at e8 e9
            clear hm hget hh hm3 hd hn2 hmm
            go_wp2_with fail
            refine (indexByte_any _ _ _).mono ?_
            rintro e w1 ⟨rfl, rfl⟩
            rw [HV.out]
            go_wp2
            go_roundg (17 - (k + 1))
            case rel => exact ⟨k + 1, n2, (by show _ = _; omega), by go_num, by go_num, by rw [← HN2.out]; exact HS.out, rfl⟩
            case measure => omega
      · have blt : decide ((k : Int) < (s.size : Int)) = false := decide_eq_false (by omega)
        have blt2 : decide (k < s.size) = false := decide_eq_false hlt
        have HE := Lib.hid (show z = (n : Int) ∧ ok = true by
          have h1 := HR.out
          rw [List.take_of_length_le (by rw [HSZ.out]; have := H17.out; omega)] at h1
          have := HZ.out
          rw [N.run_mac HSZ.out h1, okA_nat] at this
          exact ⟨(congrArg Prod.fst this).symm, (congrArg Prod.snd this).symm⟩)
        obtain ⟨rfl, rfl⟩ := HE.out
        go_wp2
        go_ret2
        exact ⟨rfl, rfl⟩
  · have b1 : ((s.size : Int) == 17) = false := by simp; omega
    have b1b : (s.size == 17) = false := by simp; omega
    rw [N.mac_short (by rw [hsz]; exact h17)] at hz
    have HE := Lib.hid (show z = 0 ∧ ok = false from ⟨(congrArg Prod.fst hz).symm, (congrArg Prod.snd hz).symm⟩)
    obtain ⟨rfl, rfl⟩ := HE.out
    clear hz hsz h17
    go_enter Tryd.func17, Tryd.ntmps17
    go_wp2
    go_ret2
    exact ⟨rfl, rfl⟩
-- TEXTS
/-- What is still to be written of an address. -/
def ipV (n : Nat) : Nat → List UInt8
  | 0 => []
  | g + 1 => 46 :: (T.decL (n / 256 ^ g % 256) ++ ipV n g)
theorem ipV_all (n : Nat) : T.decL (n / 16777216) ++ ipV n 3 = N.ipT n := by
  unfold N.ipT
  simp only [ipV]
  simp
theorem ipT_lenC (n : Nat) (h : n < 4294967296) : (N.ipT n).length ≤ 15 := by
  unfold N.ipT
  have h1 := dec3_len (n / 16777216) (by omega)
  have h2 := dec3_len (n / 65536 % 256) (by omega)
  have h3 := dec3_len (n / 256 % 256) (by omega)
  have h4 := dec3_len (n % 256) (by omega)
  simp only [List.length_append, List.length_cons]
  omega
theorem dec3C (n : Nat) (h : n < 256) : (T.decL n).length ≤ 3 := dec3_len n (by omega)
theorem shrC (n k p : Nat) (h : 2 ^ k = p) : (n : Int) / (p : Int) = ((n / p : Nat) : Int) := (Int.natCast_ediv n p).symm
theorem and255C (a : Nat) (h : a < 4294967296) : Go.bits .and .i64 (a : Int) 255 = ((a % 256 : Nat) : Int) := by
  have h1 : a < 9223372036854775808 := by omega
  exact N.and_low a 8 256 rfl h1 (by decide)
theorem and15C (a : Nat) (h : a < 281474976710656) : Go.bits .and .i64 (a : Int) 15 = ((a % 16 : Nat) : Int) := by
  have h1 : a < 9223372036854775808 := by omega
  exact N.and_low a 4 16 rfl h1 (by decide)
theorem divC {n p q : Nat} (h : n / p = q) : (n : Int) / (p : Int) = (q : Int) := by rw [← h, Int.natCast_ediv]
theorem ownB_none (w : World) (b : Nat) : OwnB w b (.slice none 0 0) [] := ⟨rfl, .inl ⟨rfl, rfl⟩⟩
set_option maxRecDepth 100000 in
set_option maxHeartbeats 4000000 in
theorem ipText_any10 (n : Int) (q : ByteArray) (ok : Bool) (w : World) (hn : I64 n) (HT : TabOk w) (hq : ipTA n = (q, ok)) : Calls Tryd.prog 19 #[.int .i64 n] w (fun e w' => e = .returned (.tuple #[.string q, .bool ok]) ∧ Below w.heap.size w w') := by
  have TAB := Lib.hid HT
  clear HT
  by_cases h : 0 ≤ n ∧ n < 4294967296
  · obtain ⟨m, rfl⟩ := Int.eq_ofNat_of_zero_le h.1
    have HB := Lib.hid (show (decide (0 ≤ (m : Int)) && decide ((m : Int) < 4294967296)) = true by rw [decide_eq_true h.1, decide_eq_true h.2]; rfl)
    have hm : m < 4294967296 := by omega
    rw [ipTA_of hm rfl] at hq
    have HE := Lib.hid (show q = sB (N.ipT m) ∧ ok = true from ⟨(congrArg Prod.fst hq).symm, (congrArg Prod.snd hq).symm⟩)
    obtain ⟨rfl, rfl⟩ := HE.out
    obtain ⟨a, ha⟩ : ∃ a, m / 16777216 = a := ⟨_, rfl⟩
    have ha2 : a < 256 := by omega
    have e1 : (m : Int) / 16777216 = (a : Int) := divC ha
    have HV := Lib.hid (show T.decL a ++ ipV m 3 = N.ipT m by rw [← ha]; exact ipV_all m)
    have HA := Lib.hid (dec3C a ha2)
    clear hq hn h ha
    go_enter Tryd.func19, Tryd.ntmps19
    go_wp2_with fail
    refine (belowIP _ true _ HB.out).mono ?_
    rintro e w1 ⟨rfl, rfl⟩
    go_wp2_with fail
    refine (appendInt_any w TAB.out a _ rfl (by omega) _ [] w (ownB_none w _) (Below.refl _ _) (by decide)).mono ?_
    rintro e w1 ⟨v1, rfl, ho1, hb1⟩
    rw [List.nil_append] at ho1
    have HO1 := Lib.hid ho1
    clear ho1
    go_wp2
    go_loopg [4, 5] 3 (fun gk vb vs wr => ∃ (l : List UInt8) (y : Int), Hid (y + 8 = 8 * (gk : Int)) ∧ gk ≤ 3 ∧ vs = .int .i64 y ∧ Hid (OwnB wr w.heap.size vb l) ∧ Hid (l.length ≤ 4 * (4 - gk)) ∧ Hid (l ++ ipV m gk = N.ipT m) ∧ Below w.heap.size w wr)
    case atStart => exact ⟨T.decL a, 16, (by show _ = _; rfl), (by omega), rfl, HO1.out, (by have := HA.out; show _ ≤ 4; omega), HV.out, hb1⟩
    case round =>
      obtain ⟨l, y, HY, hg3, rfl, HO, HL, HV, hbr⟩ := hrel
      rcases (show gk = 3 ∨ gk = 2 ∨ gk = 1 ∨ gk = 0 by omega) with hg | hg | hg | hg
      · obtain rfl : gk = 3 := by omega
        obtain rfl : y = 16 := by have := HY.out; omega
        obtain ⟨b, hb⟩ : ∃ b, m / 65536 = b := ⟨_, rfl⟩
        obtain ⟨d, hd⟩ : ∃ d, b % 256 = d := ⟨_, rfl⟩
        have hb2 : b < 4294967296 := by omega
        have hd2 : d < 256 := by omega
        have e2 : (m : Int) / 65536 = (b : Int) := divC hb
        have e3 := and255C b hb2
        rw [hd] at e3
        have HV2 := Lib.hid (show l ++ [46] ++ T.decL d ++ ipV m 2 = N.ipT m by
          rw [← HV.out]
          show _ = l ++ 46 :: (T.decL (m / 256 ^ 2 % 256) ++ ipV m 2)
          rw [show m / 256 ^ 2 % 256 = d by rw [← hd, ← hb]]
          simp)
        have HL2 := Lib.hid (show (l ++ [46] ++ T.decL d).length ≤ 8 by
          have h1 := HL.out; have h2 := dec3C d hd2
          rw [List.length_append, List.length_append, List.length_singleton]; omega)
        clear hb hd
        go_wp2_with (at_builtin; refine wpList_appB wr rfl (.tmp 16) (.tmp 17) rfl w.heap.size u4 l rfl HO.out [46] 1 1 _ rfl rfl rfl (by have := HL.out; omega) hbr.size ?_; intro v2 w2 ho2 hb2; have HO2 := Lib.hid ho2; have HB2 := Lib.hid (hbr.trans hb2); clear ho2 hb2)
        refine (appendInt_any w TAB.out d _ rfl (by omega) _ (l ++ [46]) _ HO2.out HB2.out (by rw [List.length_append, List.length_singleton]; have := HL.out; omega)).mono ?_
        rintro e w3 ⟨v3, rfl, ho3, hb3⟩
        have HO3 := Lib.hid ho3
        clear ho3
        go_wp2
        go_roundg 2
        case rel => exact ⟨l ++ [46] ++ T.decL d, 8, (by show _ = _; rfl), by omega, by go_num, HO3.out, HL2.out, HV2.out, HB2.out.trans hb3⟩
        case measure => omega
      · obtain rfl : gk = 2 := by omega
        obtain rfl : y = 8 := by have := HY.out; omega
        obtain ⟨b, hb⟩ : ∃ b, m / 256 = b := ⟨_, rfl⟩
        obtain ⟨d, hd⟩ : ∃ d, b % 256 = d := ⟨_, rfl⟩
        have hb2 : b < 4294967296 := by omega
        have hd2 : d < 256 := by omega
        have e2 : (m : Int) / 256 = (b : Int) := divC hb
        have e3 := and255C b hb2
        rw [hd] at e3
        have HV2 := Lib.hid (show l ++ [46] ++ T.decL d ++ ipV m 1 = N.ipT m by
          rw [← HV.out]
          show _ = l ++ 46 :: (T.decL (m / 256 ^ 1 % 256) ++ ipV m 1)
          rw [show m / 256 ^ 1 % 256 = d by rw [← hd, ← hb]]
          simp)
        have HL2 := Lib.hid (show (l ++ [46] ++ T.decL d).length ≤ 12 by
          have h1 := HL.out; have h2 := dec3C d hd2
          rw [List.length_append, List.length_append, List.length_singleton]; omega)
        clear hb hd
        go_wp2_with (at_builtin; refine wpList_appB wr rfl (.tmp 16) (.tmp 17) rfl w.heap.size u4 l rfl HO.out [46] 1 1 _ rfl rfl rfl (by have := HL.out; omega) hbr.size ?_; intro v2 w2 ho2 hb2; have HO2 := Lib.hid ho2; have HB2 := Lib.hid (hbr.trans hb2); clear ho2 hb2)
        refine (appendInt_any w TAB.out d _ rfl (by omega) _ (l ++ [46]) _ HO2.out HB2.out (by rw [List.length_append, List.length_singleton]; have := HL.out; omega)).mono ?_
        rintro e w3 ⟨v3, rfl, ho3, hb3⟩
        have HO3 := Lib.hid ho3
        clear ho3
        go_wp2
        go_roundg 1
        case rel => exact ⟨l ++ [46] ++ T.decL d, 0, (by show _ = _; rfl), by omega, by go_num, HO3.out, HL2.out, HV2.out, HB2.out.trans hb3⟩
        case measure => omega
      · obtain rfl : gk = 1 := by omega
        obtain rfl : y = 0 := by have := HY.out; omega
        obtain ⟨b, hb⟩ : ∃ b, m / 1 = b := ⟨_, rfl⟩
        obtain ⟨d, hd⟩ : ∃ d, b % 256 = d := ⟨_, rfl⟩
        have hb2 : b < 4294967296 := by omega
        have hd2 : d < 256 := by omega
        have e2 : (m : Int) / 1 = (b : Int) := divC hb
        have e3 := and255C b hb2
        rw [hd] at e3
        have HV2 := Lib.hid (show l ++ [46] ++ T.decL d ++ ipV m 0 = N.ipT m by
          rw [← HV.out]
          show _ = l ++ 46 :: (T.decL (m / 256 ^ 0 % 256) ++ ipV m 0)
          rw [show m / 256 ^ 0 % 256 = d by rw [← hd, ← hb]]
          simp)
        have HL2 := Lib.hid (show (l ++ [46] ++ T.decL d).length ≤ 16 by
          have h1 := HL.out; have h2 := dec3C d hd2
          rw [List.length_append, List.length_append, List.length_singleton]; omega)
        clear hb hd
        go_wp2_with (at_builtin; refine wpList_appB wr rfl (.tmp 16) (.tmp 17) rfl w.heap.size u4 l rfl HO.out [46] 1 1 _ rfl rfl rfl (by have := HL.out; omega) hbr.size ?_; intro v2 w2 ho2 hb2; have HO2 := Lib.hid ho2; have HB2 := Lib.hid (hbr.trans hb2); clear ho2 hb2)
        refine (appendInt_any w TAB.out d _ rfl (by omega) _ (l ++ [46]) _ HO2.out HB2.out (by rw [List.length_append, List.length_singleton]; have := HL.out; omega)).mono ?_
        rintro e w3 ⟨v3, rfl, ho3, hb3⟩
        have HO3 := Lib.hid ho3
        clear ho3
        go_wp2
        go_roundg 0
        case rel => exact ⟨l ++ [46] ++ T.decL d, -8, (by show _ = _; rfl), by omega, by go_num, HO3.out, HL2.out, HV2.out, HB2.out.trans hb3⟩
        case measure => omega
      · obtain rfl : gk = 0 := hg
        obtain rfl : y = -8 := by have := HY.out; omega
        have HE2 := Lib.hid (show l = N.ipT m by rw [← HV.out]; show l = l ++ []; rw [List.append_nil])
        have hcv := conv_own HO.out
        go_wp2
        go_ret2
        exact ⟨by rw [← HE2.out]; rfl, hbr⟩
  · have hz : (decide (0 ≤ n) && decide (n < 4294967296)) = false := by
      cases hz : (decide (0 ≤ n) && decide (n < 4294967296)) with
      | false => rfl
      | true => rw [Bool.and_eq_true, decide_eq_true_eq, decide_eq_true_eq] at hz; exact absurd hz h
    have HB := Lib.hid hz
    unfold ipTA at hq
    rw [if_neg h] at hq
    have HE := Lib.hid (show q = sB [] ∧ ok = false from ⟨(congrArg Prod.fst hq).symm, (congrArg Prod.snd hq).symm⟩)
    obtain ⟨rfl, rfl⟩ := HE.out
    clear hq hn h hz
    go_enter Tryd.func19, Tryd.ntmps19
    go_wp2_with fail
    refine (belowIP _ false _ HB.out).mono ?_
    rintro e w1 ⟨rfl, rfl⟩
    go_wp2
    go_ret2
    exact ⟨rfl, Below.refl _ _⟩
set_option maxRecDepth 100000 in
set_option maxHeartbeats 2000000 in
theorem prefText_any10 (n b : Int) (q : ByteArray) (ok : Bool) (w : World) (hn : I64 n) (hb : I64 b) (HT : TabOk w) (hq : prefTA n b = (q, ok)) : Calls Tryd.prog 20 #[.int .i64 n, .int .i64 b] w (fun e w' => e = .returned (.tuple #[.string q, .bool ok]) ∧ Below w.heap.size w w') := by
  have TAB := Lib.hid HT
  clear HT
  obtain ⟨v, hv⟩ : ∃ v, N.rightB n b = v := ⟨_, rfl⟩
  have HV := Lib.hid hv
  cases v with
  | false =>
    unfold prefTA at hq
    rw [hv, if_neg (by decide)] at hq
    have HE := Lib.hid (show q = sB [] ∧ ok = false from ⟨(congrArg Prod.fst hq).symm, (congrArg Prod.snd hq).symm⟩)
    obtain ⟨rfl, rfl⟩ := HE.out
    clear hq hn hb hv
    go_enter Tryd.func20, Tryd.ntmps20
    go_wp2_with fail
    refine (prefix_any _ _ false _ HV.out).mono ?_
    rintro e w1 ⟨rfl, rfl⟩
    go_wp2
    go_ret2
    exact ⟨rfl, Below.refl _ _⟩
  | true =>
    obtain ⟨g1, g2, g3, g4⟩ := right_nums hv
    obtain ⟨m, rfl⟩ := Int.eq_ofNat_of_zero_le g1
    obtain ⟨k, rfl⟩ := Int.eq_ofNat_of_zero_le g3
    have HIP := Lib.hid (ipTA_of (n := m) (by omega) rfl)
    rw [prefTA_of (n := m) (b := k) hv rfl] at hq
    have HE := Lib.hid (show q = sB (N.prefT m k) ∧ ok = true from ⟨(congrArg Prod.fst hq).symm, (congrArg Prod.snd hq).symm⟩)
    obtain ⟨rfl, rfl⟩ := HE.out
    obtain ⟨v1, hv1⟩ : ∃ v, sB (N.ipT m) = v := ⟨_, rfl⟩
    obtain ⟨v2, hv2⟩ : ∃ v, (⟨(Lib.decDigits k).toArray⟩ : ByteArray) = v := ⟨_, rfl⟩
    obtain ⟨v3, hv3⟩ : ∃ v, sB (N.prefT m k) = v := ⟨_, rfl⟩
    have hl1 : v1.size ≤ 15 := by rw [← hv1, sB_size]; exact ipT_lenC m (by omega)
    have hl2 : v2.size ≤ 3 := by rw [← hv2, dec_is10]; show (T.decL k).toArray.size ≤ 3; rw [List.size_toArray]; exact dec3_len k (by omega)
    have hsum : v1 ++ ⟨#[47]⟩ ++ v2 = v3 := by
      rw [← hv1, ← hv2, ← hv3, dec_is10]; unfold N.prefT; exact ByteArray.ext (by simp [ByteArray.data_append, sB])
    rw [hv1] at HIP
    rw [hv3]
    have HV2 := Lib.hid hv2
    have hk : k < 100 := by omega
    clear hq hn hb hv g1 g2 g3 g4 hv1 hv2 hv3
    go_enter Tryd.func20, Tryd.ntmps20
    go_wp2_with fail
    refine (prefix_any _ _ true _ HV.out).mono ?_
    rintro e w1 ⟨rfl, rfl⟩
    go_wp2_with fail
    refine (ipText_any10 _ v1 true _ (by unfold I64; have := right_nums HV.out; omega) TAB.out HIP.out).mono ?_
    rintro e w1 ⟨rfl, hb⟩
    go_wp2_with fail
    refine (itoa_any k _ (.inl hk)).mono ?_
    rintro e w2 ⟨rfl, hx⟩
    have hbx := bthen hb hx
    rw [HV2.out]
    go_wp2
    go_ret2
    exact ⟨rfl, hbx⟩
/-- What is still to be written of a hardware address. -/
def macV (n : Nat) : Nat → List UInt8
  | 0 => []
  | g + 1 => N.pairT (n / 256 ^ g % 256) ++ (if g = 0 then [] else 58 :: macV n g)
theorem macV_all (n : Nat) : macV n 6 = N.macT n := macTo_all n
theorem hexA : ∀ (n : Nat) (h : n < 16), (⟨#[48, 49, 50, 51, 52, 53, 54, 55, 56, 57, 97, 98, 99, 100, 101, 102]⟩ : ByteArray)[n]'h = N.hexC n := by
  intro n h
  have hall : ∀ m : Fin 16, (⟨#[48, 49, 50, 51, 52, 53, 54, 55, 56, 57, 97, 98, 99, 100, 101, 102]⟩ : ByteArray)[m.val]'m.isLt = N.hexC m.val := by decide +kernel
  exact hall ⟨n, h⟩
theorem own_view {w : World} {base n : Nat} {v : Value} {l : List UInt8} (h : OwnB w base v l) (hl : l.length = n) : ∃ A c, v = .slice A n c := by
  rcases h.2 with ⟨rfl, hn⟩ | ⟨g, cap, cur, rfl, _⟩
  · exact ⟨none, 0, by rw [← hl, hn]⟩
  · exact ⟨_, _, by rw [← hl]⟩
set_option maxRecDepth 100000 in
set_option maxHeartbeats 4000000 in
theorem macText_any10 (n : Int) (q : ByteArray) (ok : Bool) (w : World) (hn : I64 n) (hq : macTA n = (q, ok)) : Calls Tryd.prog 21 #[.int .i64 n] w (fun e w' => e = .returned (.tuple #[.string q, .bool ok]) ∧ Below w.heap.size w w') := by
  by_cases h : 0 ≤ n ∧ n < 281474976710656
  · obtain ⟨m, rfl⟩ := Int.eq_ofNat_of_zero_le h.1
    have HB := Lib.hid (show (decide (0 ≤ (m : Int)) && decide ((m : Int) < 281474976710656)) = true by rw [decide_eq_true h.1, decide_eq_true h.2]; rfl)
    have hm : m < 281474976710656 := by omega
    rw [macTA_of hm rfl] at hq
    have HE := Lib.hid (show q = sB (N.macT m) ∧ ok = true from ⟨(congrArg Prod.fst hq).symm, (congrArg Prod.snd hq).symm⟩)
    obtain ⟨rfl, rfl⟩ := HE.out
    have HM := Lib.hid hm
    clear hq hn h hm
    go_enter Tryd.func21, Tryd.ntmps21
    go_wp2_with fail
    refine (belowMAC _ true _ HB.out).mono ?_
    rintro e w1 ⟨rfl, rfl⟩
    go_wp2
    go_loopg [4, 5] 6 (fun gk vb vs wr => ∃ (l : List UInt8) (y : Int), Hid (y + 8 = 8 * (gk : Int)) ∧ gk ≤ 6 ∧ vs = .int .i64 y ∧ Hid (OwnB wr w.heap.size vb l) ∧ Hid (l.length = 18 - 3 * gk - (if gk = 6 then 0 else 1)) ∧ Hid (l ++ (if gk = 6 ∨ gk = 0 then [] else [58]) ++ macV m gk = N.macT m) ∧ Below w.heap.size w wr)
    case atStart => exact ⟨[], 40, (by show _ = _; rfl), (by omega), rfl, ownB_none _ _, rfl, macV_all m, Below.refl _ _⟩
    case round =>
      obtain ⟨l, y, HY, hg6, rfl, HO, HL, HV, hbr⟩ := hrel
      rcases (show gk = 6 ∨ gk = 5 ∨ gk = 4 ∨ gk = 3 ∨ gk = 2 ∨ gk = 1 ∨ gk = 0 by omega) with hg | hg | hg | hg | hg | hg | hg
      · obtain rfl : gk = 6 := by omega
        obtain rfl : y = 40 := by have := HY.out; omega
        have hw4 : IntKind.i64.wrap 44 = 44 := by rw [IntKind.wrap_i64]; rfl
        obtain ⟨a, ha⟩ : ∃ b, m / 17592186044416 = b := ⟨_, rfl⟩
        obtain ⟨b, hb⟩ : ∃ b, m / 1099511627776 = b := ⟨_, rfl⟩
        obtain ⟨d1, hd1⟩ : ∃ d, a % 16 = d := ⟨_, rfl⟩
        obtain ⟨d2, hd2⟩ : ∃ d, b % 16 = d := ⟨_, rfl⟩
        have ha2 : a < 281474976710656 := by have := HM.out; omega
        have hb2 : b < 281474976710656 := by have := HM.out; omega
        have hd12 : d1 < 16 := by omega
        have hd22 : d2 < 16 := by omega
        have hd13 : (d1 : Int) < 16 := by omega
        have hd23 : (d2 : Int) < 16 := by omega
        have e1 : (m : Int) / 17592186044416 = (a : Int) := divC ha
        have e2 : (m : Int) / 1099511627776 = (b : Int) := divC hb
        have e3 := and15C a ha2
        rw [hd1] at e3
        have e4 := and15C b hb2
        rw [hd2] at e4
        have HPT := Lib.hid (show N.pairT (m / 256 ^ 5 % 256) = [N.hexC d1, N.hexC d2] by
          unfold N.pairT
          rw [show m / 256 ^ 5 % 256 / 16 = d1 by rw [← hd1, ← ha]; omega, show m / 256 ^ 5 % 256 % 16 = d2 by rw [← hd2, ← hb]; omega])
        have hlen : l.length = 0 := HL.out
        have HLEN := Lib.hid hlen
        obtain ⟨A, c, rfl⟩ := own_view HO.out hlen
        clear ha hb hd1 hd2 ha2 hb2 hlen
        have HV2 := Lib.hid (show (l ++ [N.hexC d1, N.hexC d2]) ++ (if 5 = 6 ∨ 5 = 0 then [] else [58]) ++ macV m 5 = N.macT m by
          rw [← HV.out]
          show _ = l ++ [] ++ (N.pairT (m / 256 ^ 5 % 256) ++ (if 5 = 0 then [] else 58 :: macV m 5))
          rw [HPT.out]
          simp)
        have HL2 := Lib.hid (show (l ++ [N.hexC d1, N.hexC d2]).length = 18 - 3 * 5 - (if 5 = 6 then 0 else 1) by
          simp only [List.length_append, List.length_cons, List.length_nil]; rw [HLEN.out]; rfl)
        go_wp2
        go_region_law (refine step_appB wr rfl (.tmp 19) (.tmp 31) rfl w.heap.size (.slice A 0 c) l rfl HO.out [_, _] 2 2 _ rfl rfl rfl (by rw [HLEN.out]; omega) hbr.size ?_; intro v3 w3 ho3 hb3)
        all_goals
          rw [hexA d1 hd12, hexA d2 hd22] at ho3
          have HO3 := Lib.hid ho3
          have HB3 := Lib.hid (hbr.trans hb3)
          clear ho3 hb3
          go_wp2
          go_roundg 5
          case rel => exact ⟨_, 32, (by show _ = _; rfl), by omega, by go_num, HO3.out, HL2.out, HV2.out, HB3.out⟩
          case measure => omega
      · obtain rfl : gk = 5 := by omega
        obtain rfl : y = 32 := by have := HY.out; omega
        have hw4 : IntKind.i64.wrap 36 = 36 := by rw [IntKind.wrap_i64]; rfl
        obtain ⟨a, ha⟩ : ∃ b, m / 68719476736 = b := ⟨_, rfl⟩
        obtain ⟨b, hb⟩ : ∃ b, m / 4294967296 = b := ⟨_, rfl⟩
        obtain ⟨d1, hd1⟩ : ∃ d, a % 16 = d := ⟨_, rfl⟩
        obtain ⟨d2, hd2⟩ : ∃ d, b % 16 = d := ⟨_, rfl⟩
        have ha2 : a < 281474976710656 := by have := HM.out; omega
        have hb2 : b < 281474976710656 := by have := HM.out; omega
        have hd12 : d1 < 16 := by omega
        have hd22 : d2 < 16 := by omega
        have hd13 : (d1 : Int) < 16 := by omega
        have hd23 : (d2 : Int) < 16 := by omega
        have e1 : (m : Int) / 68719476736 = (a : Int) := divC ha
        have e2 : (m : Int) / 4294967296 = (b : Int) := divC hb
        have e3 := and15C a ha2
        rw [hd1] at e3
        have e4 := and15C b hb2
        rw [hd2] at e4
        have HPT := Lib.hid (show N.pairT (m / 256 ^ 4 % 256) = [N.hexC d1, N.hexC d2] by
          unfold N.pairT
          rw [show m / 256 ^ 4 % 256 / 16 = d1 by rw [← hd1, ← ha]; omega, show m / 256 ^ 4 % 256 % 16 = d2 by rw [← hd2, ← hb]; omega])
        have HLEN := Lib.hid (show l.length = 2 from HL.out)
        obtain ⟨ln, hlen⟩ : ∃ n, l.length = n := ⟨_, rfl⟩
        have hln : decide ((0 : Int) < (ln : Int)) = true := decide_eq_true (by have := HLEN.out; omega)
        have hln2 : decide (0 < ln) = true := decide_eq_true (by have := HLEN.out; omega)
        obtain ⟨A, c, rfl⟩ := own_view HO.out hlen
        clear ha hb hd1 hd2 ha2 hb2 hlen
        have HV2 := Lib.hid (show (l ++ [58] ++ [N.hexC d1, N.hexC d2]) ++ (if 4 = 6 ∨ 4 = 0 then [] else [58]) ++ macV m 4 = N.macT m by
          rw [← HV.out]
          show _ = l ++ [58] ++ (N.pairT (m / 256 ^ 4 % 256) ++ (if 4 = 0 then [] else 58 :: macV m 4))
          rw [HPT.out]
          simp)
        have HL2 := Lib.hid (show (l ++ [58] ++ [N.hexC d1, N.hexC d2]).length = 18 - 3 * 4 - (if 4 = 6 then 0 else 1) by
          simp only [List.length_append, List.length_cons, List.length_nil]; rw [HLEN.out]; rfl)
        go_wp2_with (at_builtin; refine wpList_appB wr rfl (.tmp 16) (.tmp 17) rfl w.heap.size (.slice A ln c) l rfl HO.out [58] 1 1 _ rfl rfl rfl (by rw [HLEN.out]; omega) hbr.size ?_; intro v2 w2 ho2 hb2; have HO2 := Lib.hid ho2; have HB2 := Lib.hid (hbr.trans hb2); clear ho2 hb2)
        go_region_law (refine step_appB w2 rfl (.tmp 19) (.tmp 31) rfl w.heap.size v2 (l ++ [58]) rfl HO2.out [_, _] 2 2 _ rfl rfl rfl (by rw [List.length_append, HLEN.out, List.length_singleton]; omega) HB2.out.size ?_; intro v3 w3 ho3 hb3)
        all_goals
          rw [hexA d1 hd12, hexA d2 hd22] at ho3
          have HO3 := Lib.hid ho3
          have HB3 := Lib.hid (HB2.out.trans hb3)
          clear ho3 hb3
          go_wp2
          go_roundg 4
          case rel => exact ⟨_, 24, (by show _ = _; rfl), by omega, by go_num, HO3.out, HL2.out, HV2.out, HB3.out⟩
          case measure => omega
      · obtain rfl : gk = 4 := by omega
        obtain rfl : y = 24 := by have := HY.out; omega
        have hw4 : IntKind.i64.wrap 28 = 28 := by rw [IntKind.wrap_i64]; rfl
        obtain ⟨a, ha⟩ : ∃ b, m / 268435456 = b := ⟨_, rfl⟩
        obtain ⟨b, hb⟩ : ∃ b, m / 16777216 = b := ⟨_, rfl⟩
        obtain ⟨d1, hd1⟩ : ∃ d, a % 16 = d := ⟨_, rfl⟩
        obtain ⟨d2, hd2⟩ : ∃ d, b % 16 = d := ⟨_, rfl⟩
        have ha2 : a < 281474976710656 := by have := HM.out; omega
        have hb2 : b < 281474976710656 := by have := HM.out; omega
        have hd12 : d1 < 16 := by omega
        have hd22 : d2 < 16 := by omega
        have hd13 : (d1 : Int) < 16 := by omega
        have hd23 : (d2 : Int) < 16 := by omega
        have e1 : (m : Int) / 268435456 = (a : Int) := divC ha
        have e2 : (m : Int) / 16777216 = (b : Int) := divC hb
        have e3 := and15C a ha2
        rw [hd1] at e3
        have e4 := and15C b hb2
        rw [hd2] at e4
        have HPT := Lib.hid (show N.pairT (m / 256 ^ 3 % 256) = [N.hexC d1, N.hexC d2] by
          unfold N.pairT
          rw [show m / 256 ^ 3 % 256 / 16 = d1 by rw [← hd1, ← ha]; omega, show m / 256 ^ 3 % 256 % 16 = d2 by rw [← hd2, ← hb]; omega])
        have HLEN := Lib.hid (show l.length = 5 from HL.out)
        obtain ⟨ln, hlen⟩ : ∃ n, l.length = n := ⟨_, rfl⟩
        have hln : decide ((0 : Int) < (ln : Int)) = true := decide_eq_true (by have := HLEN.out; omega)
        have hln2 : decide (0 < ln) = true := decide_eq_true (by have := HLEN.out; omega)
        obtain ⟨A, c, rfl⟩ := own_view HO.out hlen
        clear ha hb hd1 hd2 ha2 hb2 hlen
        have HV2 := Lib.hid (show (l ++ [58] ++ [N.hexC d1, N.hexC d2]) ++ (if 3 = 6 ∨ 3 = 0 then [] else [58]) ++ macV m 3 = N.macT m by
          rw [← HV.out]
          show _ = l ++ [58] ++ (N.pairT (m / 256 ^ 3 % 256) ++ (if 3 = 0 then [] else 58 :: macV m 3))
          rw [HPT.out]
          simp)
        have HL2 := Lib.hid (show (l ++ [58] ++ [N.hexC d1, N.hexC d2]).length = 18 - 3 * 3 - (if 3 = 6 then 0 else 1) by
          simp only [List.length_append, List.length_cons, List.length_nil]; rw [HLEN.out]; rfl)
        go_wp2_with (at_builtin; refine wpList_appB wr rfl (.tmp 16) (.tmp 17) rfl w.heap.size (.slice A ln c) l rfl HO.out [58] 1 1 _ rfl rfl rfl (by rw [HLEN.out]; omega) hbr.size ?_; intro v2 w2 ho2 hb2; have HO2 := Lib.hid ho2; have HB2 := Lib.hid (hbr.trans hb2); clear ho2 hb2)
        go_region_law (refine step_appB w2 rfl (.tmp 19) (.tmp 31) rfl w.heap.size v2 (l ++ [58]) rfl HO2.out [_, _] 2 2 _ rfl rfl rfl (by rw [List.length_append, HLEN.out, List.length_singleton]; omega) HB2.out.size ?_; intro v3 w3 ho3 hb3)
        all_goals
          rw [hexA d1 hd12, hexA d2 hd22] at ho3
          have HO3 := Lib.hid ho3
          have HB3 := Lib.hid (HB2.out.trans hb3)
          clear ho3 hb3
          go_wp2
          go_roundg 3
          case rel => exact ⟨_, 16, (by show _ = _; rfl), by omega, by go_num, HO3.out, HL2.out, HV2.out, HB3.out⟩
          case measure => omega
      · obtain rfl : gk = 3 := by omega
        obtain rfl : y = 16 := by have := HY.out; omega
        have hw4 : IntKind.i64.wrap 20 = 20 := by rw [IntKind.wrap_i64]; rfl
        obtain ⟨a, ha⟩ : ∃ b, m / 1048576 = b := ⟨_, rfl⟩
        obtain ⟨b, hb⟩ : ∃ b, m / 65536 = b := ⟨_, rfl⟩
        obtain ⟨d1, hd1⟩ : ∃ d, a % 16 = d := ⟨_, rfl⟩
        obtain ⟨d2, hd2⟩ : ∃ d, b % 16 = d := ⟨_, rfl⟩
        have ha2 : a < 281474976710656 := by have := HM.out; omega
        have hb2 : b < 281474976710656 := by have := HM.out; omega
        have hd12 : d1 < 16 := by omega
        have hd22 : d2 < 16 := by omega
        have hd13 : (d1 : Int) < 16 := by omega
        have hd23 : (d2 : Int) < 16 := by omega
        have e1 : (m : Int) / 1048576 = (a : Int) := divC ha
        have e2 : (m : Int) / 65536 = (b : Int) := divC hb
        have e3 := and15C a ha2
        rw [hd1] at e3
        have e4 := and15C b hb2
        rw [hd2] at e4
        have HPT := Lib.hid (show N.pairT (m / 256 ^ 2 % 256) = [N.hexC d1, N.hexC d2] by
          unfold N.pairT
          rw [show m / 256 ^ 2 % 256 / 16 = d1 by rw [← hd1, ← ha]; omega, show m / 256 ^ 2 % 256 % 16 = d2 by rw [← hd2, ← hb]; omega])
        have HLEN := Lib.hid (show l.length = 8 from HL.out)
        obtain ⟨ln, hlen⟩ : ∃ n, l.length = n := ⟨_, rfl⟩
        have hln : decide ((0 : Int) < (ln : Int)) = true := decide_eq_true (by have := HLEN.out; omega)
        have hln2 : decide (0 < ln) = true := decide_eq_true (by have := HLEN.out; omega)
        obtain ⟨A, c, rfl⟩ := own_view HO.out hlen
        clear ha hb hd1 hd2 ha2 hb2 hlen
        have HV2 := Lib.hid (show (l ++ [58] ++ [N.hexC d1, N.hexC d2]) ++ (if 2 = 6 ∨ 2 = 0 then [] else [58]) ++ macV m 2 = N.macT m by
          rw [← HV.out]
          show _ = l ++ [58] ++ (N.pairT (m / 256 ^ 2 % 256) ++ (if 2 = 0 then [] else 58 :: macV m 2))
          rw [HPT.out]
          simp)
        have HL2 := Lib.hid (show (l ++ [58] ++ [N.hexC d1, N.hexC d2]).length = 18 - 3 * 2 - (if 2 = 6 then 0 else 1) by
          simp only [List.length_append, List.length_cons, List.length_nil]; rw [HLEN.out]; rfl)
        go_wp2_with (at_builtin; refine wpList_appB wr rfl (.tmp 16) (.tmp 17) rfl w.heap.size (.slice A ln c) l rfl HO.out [58] 1 1 _ rfl rfl rfl (by rw [HLEN.out]; omega) hbr.size ?_; intro v2 w2 ho2 hb2; have HO2 := Lib.hid ho2; have HB2 := Lib.hid (hbr.trans hb2); clear ho2 hb2)
        go_region_law (refine step_appB w2 rfl (.tmp 19) (.tmp 31) rfl w.heap.size v2 (l ++ [58]) rfl HO2.out [_, _] 2 2 _ rfl rfl rfl (by rw [List.length_append, HLEN.out, List.length_singleton]; omega) HB2.out.size ?_; intro v3 w3 ho3 hb3)
        all_goals
          rw [hexA d1 hd12, hexA d2 hd22] at ho3
          have HO3 := Lib.hid ho3
          have HB3 := Lib.hid (HB2.out.trans hb3)
          clear ho3 hb3
          go_wp2
          go_roundg 2
          case rel => exact ⟨_, 8, (by show _ = _; rfl), by omega, by go_num, HO3.out, HL2.out, HV2.out, HB3.out⟩
          case measure => omega
      · obtain rfl : gk = 2 := by omega
        obtain rfl : y = 8 := by have := HY.out; omega
        have hw4 : IntKind.i64.wrap 12 = 12 := by rw [IntKind.wrap_i64]; rfl
        obtain ⟨a, ha⟩ : ∃ b, m / 4096 = b := ⟨_, rfl⟩
        obtain ⟨b, hb⟩ : ∃ b, m / 256 = b := ⟨_, rfl⟩
        obtain ⟨d1, hd1⟩ : ∃ d, a % 16 = d := ⟨_, rfl⟩
        obtain ⟨d2, hd2⟩ : ∃ d, b % 16 = d := ⟨_, rfl⟩
        have ha2 : a < 281474976710656 := by have := HM.out; omega
        have hb2 : b < 281474976710656 := by have := HM.out; omega
        have hd12 : d1 < 16 := by omega
        have hd22 : d2 < 16 := by omega
        have hd13 : (d1 : Int) < 16 := by omega
        have hd23 : (d2 : Int) < 16 := by omega
        have e1 : (m : Int) / 4096 = (a : Int) := divC ha
        have e2 : (m : Int) / 256 = (b : Int) := divC hb
        have e3 := and15C a ha2
        rw [hd1] at e3
        have e4 := and15C b hb2
        rw [hd2] at e4
        have HPT := Lib.hid (show N.pairT (m / 256 ^ 1 % 256) = [N.hexC d1, N.hexC d2] by
          unfold N.pairT
          rw [show m / 256 ^ 1 % 256 / 16 = d1 by rw [← hd1, ← ha]; omega, show m / 256 ^ 1 % 256 % 16 = d2 by rw [← hd2, ← hb]; omega])
        have HLEN := Lib.hid (show l.length = 11 from HL.out)
        obtain ⟨ln, hlen⟩ : ∃ n, l.length = n := ⟨_, rfl⟩
        have hln : decide ((0 : Int) < (ln : Int)) = true := decide_eq_true (by have := HLEN.out; omega)
        have hln2 : decide (0 < ln) = true := decide_eq_true (by have := HLEN.out; omega)
        obtain ⟨A, c, rfl⟩ := own_view HO.out hlen
        clear ha hb hd1 hd2 ha2 hb2 hlen
        have HV2 := Lib.hid (show (l ++ [58] ++ [N.hexC d1, N.hexC d2]) ++ (if 1 = 6 ∨ 1 = 0 then [] else [58]) ++ macV m 1 = N.macT m by
          rw [← HV.out]
          show _ = l ++ [58] ++ (N.pairT (m / 256 ^ 1 % 256) ++ (if 1 = 0 then [] else 58 :: macV m 1))
          rw [HPT.out]
          simp)
        have HL2 := Lib.hid (show (l ++ [58] ++ [N.hexC d1, N.hexC d2]).length = 18 - 3 * 1 - (if 1 = 6 then 0 else 1) by
          simp only [List.length_append, List.length_cons, List.length_nil]; rw [HLEN.out]; rfl)
        go_wp2_with (at_builtin; refine wpList_appB wr rfl (.tmp 16) (.tmp 17) rfl w.heap.size (.slice A ln c) l rfl HO.out [58] 1 1 _ rfl rfl rfl (by rw [HLEN.out]; omega) hbr.size ?_; intro v2 w2 ho2 hb2; have HO2 := Lib.hid ho2; have HB2 := Lib.hid (hbr.trans hb2); clear ho2 hb2)
        go_region_law (refine step_appB w2 rfl (.tmp 19) (.tmp 31) rfl w.heap.size v2 (l ++ [58]) rfl HO2.out [_, _] 2 2 _ rfl rfl rfl (by rw [List.length_append, HLEN.out, List.length_singleton]; omega) HB2.out.size ?_; intro v3 w3 ho3 hb3)
        all_goals
          rw [hexA d1 hd12, hexA d2 hd22] at ho3
          have HO3 := Lib.hid ho3
          have HB3 := Lib.hid (HB2.out.trans hb3)
          clear ho3 hb3
          go_wp2
          go_roundg 1
          case rel => exact ⟨_, 0, (by show _ = _; rfl), by omega, by go_num, HO3.out, HL2.out, HV2.out, HB3.out⟩
          case measure => omega
      · obtain rfl : gk = 1 := by omega
        obtain rfl : y = 0 := by have := HY.out; omega
        have hw4 : IntKind.i64.wrap 4 = 4 := by rw [IntKind.wrap_i64]; rfl
        obtain ⟨a, ha⟩ : ∃ b, m / 16 = b := ⟨_, rfl⟩
        obtain ⟨b, hb⟩ : ∃ b, m / 1 = b := ⟨_, rfl⟩
        obtain ⟨d1, hd1⟩ : ∃ d, a % 16 = d := ⟨_, rfl⟩
        obtain ⟨d2, hd2⟩ : ∃ d, b % 16 = d := ⟨_, rfl⟩
        have ha2 : a < 281474976710656 := by have := HM.out; omega
        have hb2 : b < 281474976710656 := by have := HM.out; omega
        have hd12 : d1 < 16 := by omega
        have hd22 : d2 < 16 := by omega
        have hd13 : (d1 : Int) < 16 := by omega
        have hd23 : (d2 : Int) < 16 := by omega
        have e1 : (m : Int) / 16 = (a : Int) := divC ha
        have e2 : (m : Int) / 1 = (b : Int) := divC hb
        have e3 := and15C a ha2
        rw [hd1] at e3
        have e4 := and15C b hb2
        rw [hd2] at e4
        have HPT := Lib.hid (show N.pairT (m / 256 ^ 0 % 256) = [N.hexC d1, N.hexC d2] by
          unfold N.pairT
          rw [show m / 256 ^ 0 % 256 / 16 = d1 by rw [← hd1, ← ha]; omega, show m / 256 ^ 0 % 256 % 16 = d2 by rw [← hd2, ← hb]; omega])
        have HLEN := Lib.hid (show l.length = 14 from HL.out)
        obtain ⟨ln, hlen⟩ : ∃ n, l.length = n := ⟨_, rfl⟩
        have hln : decide ((0 : Int) < (ln : Int)) = true := decide_eq_true (by have := HLEN.out; omega)
        have hln2 : decide (0 < ln) = true := decide_eq_true (by have := HLEN.out; omega)
        obtain ⟨A, c, rfl⟩ := own_view HO.out hlen
        clear ha hb hd1 hd2 ha2 hb2 hlen
        have HV2 := Lib.hid (show (l ++ [58] ++ [N.hexC d1, N.hexC d2]) ++ (if 0 = 6 ∨ 0 = 0 then [] else [58]) ++ macV m 0 = N.macT m by
          rw [← HV.out]
          show _ = l ++ [58] ++ (N.pairT (m / 256 ^ 0 % 256) ++ (if 0 = 0 then [] else 58 :: macV m 0))
          rw [HPT.out]
          simp [macV])
        have HL2 := Lib.hid (show (l ++ [58] ++ [N.hexC d1, N.hexC d2]).length = 18 - 3 * 0 - (if 0 = 6 then 0 else 1) by
          simp only [List.length_append, List.length_cons, List.length_nil]; rw [HLEN.out]; rfl)
        go_wp2_with (at_builtin; refine wpList_appB wr rfl (.tmp 16) (.tmp 17) rfl w.heap.size (.slice A ln c) l rfl HO.out [58] 1 1 _ rfl rfl rfl (by rw [HLEN.out]; omega) hbr.size ?_; intro v2 w2 ho2 hb2; have HO2 := Lib.hid ho2; have HB2 := Lib.hid (hbr.trans hb2); clear ho2 hb2)
        go_region_law (refine step_appB w2 rfl (.tmp 19) (.tmp 31) rfl w.heap.size v2 (l ++ [58]) rfl HO2.out [_, _] 2 2 _ rfl rfl rfl (by rw [List.length_append, HLEN.out, List.length_singleton]; omega) HB2.out.size ?_; intro v3 w3 ho3 hb3)
        all_goals
          rw [hexA d1 hd12, hexA d2 hd22] at ho3
          have HO3 := Lib.hid ho3
          have HB3 := Lib.hid (HB2.out.trans hb3)
          clear ho3 hb3
          go_wp2
          go_roundg 0
          case rel => exact ⟨_, -8, (by show _ = _; rfl), by omega, by go_num, HO3.out, HL2.out, HV2.out, HB3.out⟩
          case measure => omega
      · obtain rfl : gk = 0 := hg
        obtain rfl : y = -8 := by have := HY.out; omega
        have HE2 := Lib.hid (show l = N.macT m by rw [← HV.out]; show l = l ++ [] ++ []; rw [List.append_nil, List.append_nil])
        have hcv := conv_own HO.out
        go_wp2
        go_ret2
        exact ⟨by rw [← HE2.out]; rfl, hbr⟩
  · have hz : (decide (0 ≤ n) && decide (n < 281474976710656)) = false := by
      cases hz : (decide (0 ≤ n) && decide (n < 281474976710656)) with
      | false => rfl
      | true => rw [Bool.and_eq_true, decide_eq_true_eq, decide_eq_true_eq] at hz; exact absurd hz h
    have HB := Lib.hid hz
    unfold macTA at hq
    rw [if_neg h] at hq
    have HE := Lib.hid (show q = sB [] ∧ ok = false from ⟨(congrArg Prod.fst hq).symm, (congrArg Prod.snd hq).symm⟩)
    obtain ⟨rfl, rfl⟩ := HE.out
    clear hq hn h hz
    go_enter Tryd.func21, Tryd.ntmps21
    go_wp2_with fail
    refine (belowMAC _ false _ HB.out).mono ?_
    rintro e w1 ⟨rfl, rfl⟩
    go_wp2
    go_ret2
    exact ⟨rfl, Below.refl _ _⟩
theorem same_below {w w' : World} (h : w = w') : Below w.heap.size w w' := by subst h; exact Below.refl _ _
/-- All that addr does. -/
theorem addr_ok : AddrOk where
  numOf := fun s least most z ok w hs h1 h2 hz => (num_any10 s least most z ok w (by omega) hz).mono fun e w' ⟨a, b⟩ => ⟨a, same_below b⟩
  ipOf := fun s z ok w hs hz => ip_any10 s z ok w hs hz
  macOf := fun s z ok w hs hz => (mac_any10 s z ok w hz).mono fun e w' ⟨a, b⟩ => ⟨a, same_below b⟩
  prefOf := fun s n b ok w hs hz => pref_any10 s n b ok w hs hz
  ipText := fun n q ok w hn ht hq => ipText_any10 n q ok w hn ht hq
  prefText := fun n b q ok w hn hb ht hq => prefText_any10 n b q ok w hn hb ht hq
  macText := fun n q ok w hn hq => macText_any10 n q ok w hn hq
  inOf := fun n b ip r w hn hb hi hr => in_any10 n b ip r w hn hb hi hr
end Go.Proofs.YtgefbdckngejdaaDoor
