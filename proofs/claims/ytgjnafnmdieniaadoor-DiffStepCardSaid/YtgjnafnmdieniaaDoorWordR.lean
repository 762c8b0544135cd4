/-
  Contracts of the document's answers for layer 1 (ferryslipref01): bare, Bare, digit, value, Scan return what the plain definitions say, and leave the world as it was. Condition: strings of at most 2^40 bytes.
  Contracts of the document's answers for layer 1 (ferryslipref01): Quote and Scan return what the plain definitions say; below the heap's size at the call the world is as it was. Condition: strings of at most 2^30 bytes.
  Contract of the document's answer for layer 1 (ferryslipref01): Unquote returns what the plain definitions say; below the heap's size at the call the world is as it was. Condition: strings of at most 2^30 bytes.
  Contracts of the document's answers for layer 1 (ferryslipref01): Unquote, whatever the text; Bare, Quote and Scan with what they answer as a variable. Condition: strings of at most 2^30 bytes.
-/
import Derived.Test.YtgjnafnmdieniaaDoorWordC
import Derived.Test.YtgjnafnmdieniaaDoorPureW
import Derived.Deep.RegionLaw
import Derived.Deep.Cut
import Derived.IntWalk

namespace Go.Proofs.YtgjnafnmdieniaaDoor
open Go.RowKit

theorem ret_u8 {a b : Int} (h : a = b) : Ending.returned (.int .u8 a) = .returned (.int .u8 b) := by rw [h]
theorem ret_i64 {a b : Int} (h : a = b) : Ending.returned (.int .i64 a) = .returned (.int .i64 b) := by rw [h]

theorem bareR_any (c : UInt8) (w : World) :
    Calls Tryd.prog 68 #[.int .u8 c.toNat] w fun e w' => e = .returned (.bool (W.plainB c)) ∧ w = w' := by
  go_enter Tryd.func68, Tryd.ntmps68
  go_wp2
  all_goals go_ret
  all_goals refine ⟨ret_bool (Eq.symm ?_), rfl⟩
  all_goals first
    | exact W.plainB_of (by omega)
    | (unfold W.plainB; simp; omega)
    | (unfold W.plainB; rw [Bool.eq_iff_iff]; simp; omega)

theorem digitR_any (n : Int) (w : World) (h0 : 0 ≤ n) (h1 : n < 16) :
    Calls Tryd.prog 54 #[.int .i64 n] w fun e w' => e = .returned (.int .u8 (W.hexD n.toNat).toNat) ∧ w = w' := by
  obtain ⟨k, rfl⟩ := Int.eq_ofNat_of_zero_le h0
  go_enter Tryd.func54, Tryd.ntmps54
  go_wp2
  all_goals go_ret
  all_goals
    refine ⟨ret_u8 ?_, rfl⟩
    rw [Int.toNat_natCast, W.hexD_eq k (by omega)]
    first | rw [if_pos (by omega)] | rw [if_neg (by omega)]

set_option maxHeartbeats 1000000 in
theorem BareR_any (s : ByteArray) (w : World) (hs : s.size ≤ 1099511627776) :
    Calls Tryd.prog 53 #[.string s] w fun e w' => e = .returned (.bool (W.bareL s.data.toList)) ∧ w = w' := by
  by_cases h0 : s.data.toList = []
  · have hE : s.toList.isEmpty = true := by rw [Lib.toList_data, h0]; rfl
    have HB := Lib.hid (W.bare_empty s h0)
    clear h0
    go_enter Tryd.func53, Tryd.ntmps53
    go_wp2
    go_ret
    exact ⟨ret_bool HB.out.symm, rfl⟩
  have hE : s.toList.isEmpty = false := by rw [Lib.toList_data]; cases hd : s.data.toList; exact absurd hd h0; rfl
  have hpos : 0 < s.size := by rw [Lib.size_eq]; exact List.length_pos_iff.2 h0
  clear h0
  by_cases h1 : s.toList = [105, 110, 97, 99, 116, 105, 118, 101, 58]
  · have hI : (s.toList == [105, 110, 97, 99, 116, 105, 118, 101, 58]) = true := by rw [h1]; rfl
    have HB := Lib.hid (W.bare_res s (W.reserved_a s h1))
    clear h1
    go_enter Tryd.func53, Tryd.ntmps53
    go_wp2
    go_ret
    exact ⟨ret_bool HB.out.symm, rfl⟩
  have hI : (s.toList == [105, 110, 97, 99, 116, 105, 118, 101, 58]) = false := beq_eq_false_iff_ne.2 h1
  by_cases h2 : s.toList = [112, 114, 111, 116, 101, 99, 116, 58]
  · have hP : (s.toList == [112, 114, 111, 116, 101, 99, 116, 58]) = true := by rw [h2]; rfl
    have HB := Lib.hid (W.bare_res s (W.reserved_b s h2))
    clear h1 h2
    go_enter Tryd.func53, Tryd.ntmps53
    go_wp2
    go_ret
    exact ⟨ret_bool HB.out.symm, rfl⟩
  have hP : (s.toList == [112, 114, 111, 116, 101, 99, 116, 58]) = false := beq_eq_false_iff_ne.2 h2
  have HR := Lib.hid (W.reserved_c s h1 h2)
  clear h1 h2
  by_cases hl : 1 < s.size
  · have HA := Lib.hid (W.pre_at s hl)
    have g1 : (1 : Int) < s.size := by omega
    by_cases h3 : s[0].toNat = 47 ∧ s[1].toNat = 42
    · have b0 : ((s[0].toNat : Int) == 47) = true := by simp; omega
      have b1 : ((s[1].toNat : Int) == 42) = true := by simp; omega
      have HB := Lib.hid (W.bare_res s (by rw [HR.out, HA.out]; simp [h3.1, h3.2]))
      clear h3
      go_enter Tryd.func53, Tryd.ntmps53
      go_wp2
      go_ret
      exact ⟨ret_bool HB.out.symm, rfl⟩
    · have HN : Hid (W.reservedL s.data.toList = false) := by
        rw [HR.out, HA.out]
        have : (decide (s[0].toNat = 47) && decide (s[1].toNat = 42)) = false := by
          rw [Bool.and_eq_false_iff]
          by_cases h : s[0].toNat = 47
          · exact .inr (decide_eq_false (fun h' => h3 ⟨h, h'⟩))
          · exact .inl (decide_eq_false h)
        exact this
      by_cases h4 : s[0].toNat = 47
      · have b0 : ((s[0].toNat : Int) == 47) = true := by simp; omega
        have b1 : ((s[1].toNat : Int) == 42) = false := by simp; omega
        clear h3 h4
        go_enter Tryd.func53, Tryd.ntmps53
        go_wp2
        go_loop [3] (fun i => ∃ k : Nat, k ≤ s.size ∧ i = .int .i64 k ∧ Hid ((s.data.toList.take k).all W.plainB = true)) (fun i => s.size - (intOf i).toNat)
        case atStart => exact ⟨0, Nat.zero_le _, rfl, by simp [Hid]⟩
        case round =>
          obtain ⟨k, hk, rfl, H⟩ := hrel
          by_cases hlt : k < s.size
          · cases hp : W.plainB s[k]
            · go_wp2_with (go_at_call 68; refine (bareR_any _ _).mono ?_; rintro e w' ⟨rfl, rfl⟩)
              go_ret
              exact ⟨ret_bool (W.bare_miss s k hlt hp).symm, rfl⟩
            · go_wp2_with (go_at_call 68; refine (bareR_any _ _).mono ?_; rintro e w' ⟨rfl, rfl⟩)
              go_round
              case rel => exact ⟨k + 1, by omega, by go_num, W.all_snoc s k hlt H.out hp⟩
              case measure => simp [intOf]; omega
          · go_wp2
            go_ret
            exact ⟨ret_bool (W.bare_all s k (by omega) hpos H.out HN.out).symm, rfl⟩
      · have b0 : ((s[0].toNat : Int) == 47) = false := by simp; omega
        clear h3 h4
        go_enter Tryd.func53, Tryd.ntmps53
        go_wp2
        go_loop [3] (fun i => ∃ k : Nat, k ≤ s.size ∧ i = .int .i64 k ∧ Hid ((s.data.toList.take k).all W.plainB = true)) (fun i => s.size - (intOf i).toNat)
        case atStart => exact ⟨0, Nat.zero_le _, rfl, by simp [Hid]⟩
        case round =>
          obtain ⟨k, hk, rfl, H⟩ := hrel
          by_cases hlt : k < s.size
          · cases hp : W.plainB s[k]
            · go_wp2_with (go_at_call 68; refine (bareR_any _ _).mono ?_; rintro e w' ⟨rfl, rfl⟩)
              go_ret
              exact ⟨ret_bool (W.bare_miss s k hlt hp).symm, rfl⟩
            · go_wp2_with (go_at_call 68; refine (bareR_any _ _).mono ?_; rintro e w' ⟨rfl, rfl⟩)
              go_round
              case rel => exact ⟨k + 1, by omega, by go_num, W.all_snoc s k hlt H.out hp⟩
              case measure => simp [intOf]; omega
          · go_wp2
            go_ret
            exact ⟨ret_bool (W.bare_all s k (by omega) hpos H.out HN.out).symm, rfl⟩
  · have HN : Hid (W.reservedL s.data.toList = false) := by rw [HR.out, W.pre_short s (by omega)]; exact rfl
    go_enter Tryd.func53, Tryd.ntmps53
    go_wp2
    go_loop [3] (fun i => ∃ k : Nat, k ≤ s.size ∧ i = .int .i64 k ∧ Hid ((s.data.toList.take k).all W.plainB = true)) (fun i => s.size - (intOf i).toNat)
    case atStart => exact ⟨0, Nat.zero_le _, rfl, by simp [Hid]⟩
    case round =>
      obtain ⟨k, hk, rfl, H⟩ := hrel
      by_cases hlt : k < s.size
      · cases hp : W.plainB s[k]
        · go_wp2_with (go_at_call 68; refine (bareR_any _ _).mono ?_; rintro e w' ⟨rfl, rfl⟩)
          go_ret
          exact ⟨ret_bool (W.bare_miss s k hlt hp).symm, rfl⟩
        · go_wp2_with (go_at_call 68; refine (bareR_any _ _).mono ?_; rintro e w' ⟨rfl, rfl⟩)
          go_round
          case rel => exact ⟨k + 1, by omega, by go_num, W.all_snoc s k hlt H.out hp⟩
          case measure => simp [intOf]; omega
      · go_wp2
        go_ret
        exact ⟨ret_bool (W.bare_all s k (by omega) hpos H.out HN.out).symm, rfl⟩
end Go.Proofs.YtgjnafnmdieniaaDoor

namespace Go.Proofs.YtgjnafnmdieniaaDoor
open Go.RowKit

def WroteQ (B : Nat) (w : World) (l : List UInt8) (e : Ending) (w' : World) : Prop := e = .returned (.string ⟨l.toArray⟩) ∧ Below B w w'
theorem hex_pair (c : UInt8) : W.hexD ((c.toNat : Int) / 16).toNat = W.hexD (c.toNat / 16) ∧ W.hexD ((c.toNat : Int) % 16).toNat = W.hexD (c.toNat % 16) := by
  have e1 : ((c.toNat : Int) / 16).toNat = c.toNat / 16 := by omega
  have e2 : ((c.toNat : Int) % 16).toNat = c.toNat % 16 := by omega
  rw [e1, e2]; exact ⟨rfl, rfl⟩

set_option maxHeartbeats 1000000 in
theorem quoteR_any (s : ByteArray) (w : World) (hs : s.size ≤ 1073741824) :
    Calls Tryd.prog 37 #[.string s] w (WroteQ w.heap.size w (W.quoteL s.data.toList)) := by
  cases hp : W.bareL s.data.toList with
  | true =>
    have HQ : Hid (W.quoteL s.data.toList = s.data.toList) := by unfold W.quoteL; rw [if_pos hp]; exact rfl
    go_enter Tryd.func37, Tryd.ntmps37
    go_wp2_with (go_at_call 53; refine (BareR_any _ _ (by omega)).mono ?_; rintro e w' ⟨rfl, rfl⟩)
    go_ret
    exact ⟨by rw [HQ.out, Lib.mk_data]; rfl, Below.refl _ _⟩
  | false =>
    have HQ : Hid (W.quoteL s.data.toList = W.quotedL s.data.toList) := by unfold W.quoteL; rw [if_neg (by simp [hp])]; exact rfl
    go_enter Tryd.func37, Tryd.ntmps37
    go_wp2_with (go_at_call 53; refine (BareR_any _ _ (by omega)).mono ?_; rintro e w' ⟨rfl, rfl⟩)
    go_loopw [3, 4] (fun b i wr => ∃ k : Nat, k ≤ s.size ∧ i = .int .i64 k ∧ OwnB wr w.heap.size b (34 :: W.encL (s.data.toList.take k)) ∧ Below w.heap.size w wr) (fun _ i _ => s.size - (intOf i).toNat)
    case atStart => exact ⟨0, Nat.zero_le _, rfl, own_lit w _ (Nat.le_refl _) [34] _ rfl 1 rfl (by omega), (Below.refl _ _).alloc (Nat.le_refl _) _⟩
    case round =>
      obtain ⟨k, hk, rfl, hown, hb⟩ := hrel
      have hsz := hb.size
      have hen := W.encL_len (s.data.toList.take k)
      have htl : (s.data.toList.take k).length ≤ k := List.length_take_le _ _
      have hln : (34 :: W.encL (s.data.toList.take k)).length ≤ 4294967300 := by simp only [List.length_cons]; omega
      clear hen htl
      by_cases hlt : k < s.size
      · have HT := Lib.hid (W.take_snoc s k hlt)
        have hc := s[k].toNat_lt
        by_cases hq : s[k].toNat = 34 ∨ s[k].toNat = 92
        · have HE := Lib.hid (W.enc_esc hq)
          by_cases h34 : s[k].toNat = 34
          · have b34 : ((s[k].toNat : Int) == 34) = true := by simp; omega
            clear hq h34
            go_wp2_with (at_builtin; refine wpList_appB _ rfl (.tmp 25) (.tmp 27) rfl w.heap.size _ (34 :: W.encL (s.data.toList.take k)) rfl hown [92, s[k]] 2 2 _ rfl rfl rfl (by omega) hsz ?_; intro v1 w1 hown1 hb1)
            go_roundw
            case rel => exact ⟨k + 1, by omega, by go_num, by rw [HT.out, W.encL_snoc, HE.out]; exact hown1, hb.trans hb1⟩
            case measure => simp [intOf]; omega
          · have b34 : ((s[k].toNat : Int) == 34) = false := by simp; omega
            have b92 : ((s[k].toNat : Int) == 92) = true := by simp; omega
            clear hq h34
            go_wp2_with (at_builtin; refine wpList_appB _ rfl (.tmp 25) (.tmp 27) rfl w.heap.size _ (34 :: W.encL (s.data.toList.take k)) rfl hown [92, s[k]] 2 2 _ rfl rfl rfl (by omega) hsz ?_; intro v1 w1 hown1 hb1)
            go_roundw
            case rel => exact ⟨k + 1, by omega, by go_num, by rw [HT.out, W.encL_snoc, HE.out]; exact hown1, hb.trans hb1⟩
            case measure => simp [intOf]; omega
        · have b34 : ((s[k].toNat : Int) == 34) = false := by simp; omega
          have b92 : ((s[k].toNat : Int) == 92) = false := by simp; omega
          by_cases hsh : 32 ≤ s[k].toNat ∧ s[k].toNat ≤ 126
          · have HE := Lib.hid (W.enc_self hq (by unfold W.shownB; exact decide_eq_true hsh))
            have g1 : (32 : Int) ≤ s[k].toNat := by omega
            have g2 : (s[k].toNat : Int) ≤ 126 := by omega
            clear hq hsh
            go_wp2_with (at_builtin; refine wpList_appB _ rfl (.tmp 46) (.tmp 48) rfl w.heap.size _ (34 :: W.encL (s.data.toList.take k)) rfl hown [s[k]] 1 1 _ rfl rfl rfl (by omega) hsz ?_; intro v1 w1 hown1 hb1)
            go_roundw
            case rel => exact ⟨k + 1, by omega, by go_num, by rw [HT.out, W.encL_snoc, HE.out]; exact hown1, hb.trans hb1⟩
            case measure => simp [intOf]; omega
          · have HE := Lib.hid (W.enc_hex hq (by unfold W.shownB; exact decide_eq_false hsh))
            have HX := Lib.hid (hex_pair s[k])
            by_cases h32 : s[k].toNat < 32
            · have g1 : (s[k].toNat : Int) < 32 := by omega
              clear hq hsh h32
              go_wp2_with (first | (go_at_call 54; refine (digitR_any _ _ (by omega) (by omega)).mono ?_; rintro e w' ⟨rfl, rfl⟩) | (at_builtin; refine wpList_appB _ rfl (.tmp 35) (.tmp 44) rfl w.heap.size _ (34 :: W.encL (s.data.toList.take k)) rfl hown [92, 120, W.hexD ((s[k].toNat : Int) / 16).toNat, W.hexD ((s[k].toNat : Int) % 16).toNat] 4 4 _ rfl rfl rfl (by omega) hsz ?_; intro v1 w1 hown1 hb1))
              go_roundw
              case rel => exact ⟨k + 1, by omega, by go_num, by rw [HT.out, W.encL_snoc, HE.out, ← HX.out.1, ← HX.out.2]; exact hown1, hb.trans hb1⟩
              case measure => simp [intOf]; omega
            · have g1 : (126 : Int) < s[k].toNat := by omega
              clear hq hsh h32
              go_wp2_with (first | (go_at_call 54; refine (digitR_any _ _ (by omega) (by omega)).mono ?_; rintro e w' ⟨rfl, rfl⟩) | (at_builtin; refine wpList_appB _ rfl (.tmp 35) (.tmp 44) rfl w.heap.size _ (34 :: W.encL (s.data.toList.take k)) rfl hown [92, 120, W.hexD ((s[k].toNat : Int) / 16).toNat, W.hexD ((s[k].toNat : Int) % 16).toNat] 4 4 _ rfl rfl rfl (by omega) hsz ?_; intro v1 w1 hown1 hb1))
              go_roundw
              case rel => exact ⟨k + 1, by omega, by go_num, by rw [HT.out, W.encL_snoc, HE.out, ← HX.out.1, ← HX.out.2]; exact hown1, hb.trans hb1⟩
              case measure => simp [intOf]; omega
      · go_wp2_with (at_builtin; refine wpList_appB _ rfl (.tmp 50) (.tmp 51) rfl w.heap.size _ (34 :: W.encL (s.data.toList.take k)) rfl hown [34] 1 1 _ rfl rfl rfl (by omega) hsz ?_; intro v1 w1 hown1 hb1; have hcv := conv_own hown1)
        go_ret
        refine ⟨?_, hb.trans hb1⟩
        rw [HQ.out, List.take_of_length_le (by rw [← Lib.size_eq]; omega)]
        rfl

end Go.Proofs.YtgjnafnmdieniaaDoor

namespace Go.Proofs.YtgjnafnmdieniaaDoor
open Go.RowKit

def RelU (t : ByteArray) (w : World) (b i : Value) (wr : World) : Prop :=
  ∃ (j : Nat) (acc : List UInt8), j + 1 ≤ t.size - 1 ∧ acc.length ≤ j ∧ i = .int .i64 (j + 1 : Nat) ∧ OwnB wr w.heap.size b acc ∧ Below w.heap.size w wr ∧
    W.decL (t.extract 1 (t.size - 1)).data.toList = (W.decL ((t.extract 1 (t.size - 1)).data.toList.drop j)).map (acc ++ ·)

theorem relU_step {t : ByteArray} {w wr w1 : World} {v1 : Value} {j n : Nat} {acc : List UInt8} {c : UInt8} (hj : j + 1 < t.size - 1) (hac : acc.length ≤ j)
    (hb : Below w.heap.size w wr) (H : W.decL (t.extract 1 (t.size - 1)).data.toList = (W.decL ((t.extract 1 (t.size - 1)).data.toList.drop j)).map (acc ++ ·))
    (ho : W.oneD ((t.extract 1 (t.size - 1)).data.toList.drop j) = some (c, n)) (hown1 : OwnB w1 w.heap.size v1 (acc ++ [c])) (hb1 : Below w.heap.size wr w1) {i : Value} (hi : i = .int .i64 ((j + n + 1 : Nat) : Int)) :
    RelU t w v1 i w1 := by
  have hn := W.oneD_pos ho
  have hl : ((t.extract 1 (t.size - 1)).data.toList.drop j).length = t.size - 2 - j := by rw [List.length_drop, ← Lib.size_eq, W.rest_size t 1 _ (by omega)]; omega
  rw [hl] at hn
  refine ⟨j + n, acc ++ [c], by omega, by simp only [List.length_append, List.length_singleton]; omega, hi, hown1, hb.trans hb1, ?_⟩
  rw [H, W.decL_some ho, W.map_acc, List.drop_drop]

theorem decU_none {t : ByteArray} {j : Nat} {acc : List UInt8} (hj : j + 1 < t.size - 1) (H : W.decL (t.extract 1 (t.size - 1)).data.toList = (W.decL ((t.extract 1 (t.size - 1)).data.toList.drop j)).map (acc ++ ·))
    (ho : W.oneD ((t.extract 1 (t.size - 1)).data.toList.drop j) = none) (h0 : 0 < t.size) (h3 : (t[0]'h0).toNat = 34) (h4 : (t[t.size - 1]'(by omega)).toNat = 34) : W.unqL t.data.toList = ([], 2) := by
  apply W.unq_none
  rw [W.meant_quoted t (W.quoted_not_plain t h0 h3) (by omega) h3 h4, H, W.decL_none ?_ ho]
  · rfl
  · rw [W.mid_drop t j hj]; simp

theorem wrapA (n : Int) (h : -1 ≤ n ∧ n < 16) : IntKind.i64.wrap (16 * n) = 16 * n := IntWalk.i64_in _ (by omega)
theorem cell_code (c : UInt8) (n : Int) (h : n = (c.toNat : Int)) : (#[Value.int .u8 (IntKind.u8.wrap (IntKind.i64.wrap n))] : Array Value).toList = byteCells [c] := by
  have hc := c.toNat_lt
  rw [h, IntWalk.i64_in _ (by omega), IntWalk.u8_in _ (by omega)]; rfl

end Go.Proofs.YtgjnafnmdieniaaDoor

namespace Go.Proofs.YtgjnafnmdieniaaDoor
open Go.RowKit

theorem bare_is (s : ByteArray) (w : World) (b : Bool) (hs : s.size ≤ 1099511627776) (h : W.bareL s.data.toList = b) : Calls Tryd.prog 53 #[.string s] w fun e w' => e = .returned (.bool b) ∧ w = w' := by
  rw [← h]; exact BareR_any s w hs
theorem quoteR_is (s : ByteArray) (q : List UInt8) (w : World) (hs : s.size ≤ 1073741824) (h : W.quoteL s.data.toList = q) : Calls Tryd.prog 37 #[.string s] w (WroteQ w.heap.size w q) := by
  rw [← h]; exact quoteR_any s w hs

theorem shape_head (t : ByteArray) (h : 0 < t.size) (h3 : t[0].toNat ≠ 34) : t.data.toList.head? ≠ some 34 := by
  rw [W.head_at t h]; exact fun e => h3 ((W.byte_eq (n := 34) (by omega)).1 e)
theorem shape_last (t : ByteArray) (h : 0 < t.size) (h3 : (t[t.size - 1]'(by omega)).toNat ≠ 34) : t.data.toList.getLast? ≠ some 34 := by
  rw [W.last_at t h]; exact fun e => h3 ((W.byte_eq (n := 34) (by omega)).1 e)

/-- How the three ways ahead of the quotes end, once for all: a bare word, one that is too long, none. -/
theorem unq_bare (t : ByteArray) (h : t.size < 2 ∨ t.data.toList.head? ≠ some 34 ∨ t.data.toList.getLast? ≠ some 34) (hb : W.bareL t.data.toList = true) (h40 : ¬ 40 < t.size) : W.unqL t.data.toList = (t.data.toList, 0) := by
  refine W.unq_ok ?_ (by rw [← Lib.size_eq]; exact h40)
  rw [W.meant_noshape t h, if_pos hb]
theorem unq_bareLong (t : ByteArray) (h : t.size < 2 ∨ t.data.toList.head? ≠ some 34 ∨ t.data.toList.getLast? ≠ some 34) (hb : W.bareL t.data.toList = true) (h40 : 40 < t.size) : W.unqL t.data.toList = ([], 5) := by
  refine W.unq_long (y := t.data.toList) ?_ (by rw [← Lib.size_eq]; exact h40)
  rw [W.meant_noshape t h, if_pos hb]
theorem unq_notBare (t : ByteArray) (h : t.size < 2 ∨ t.data.toList.head? ≠ some 34 ∨ t.data.toList.getLast? ≠ some 34) (hb : W.bareL t.data.toList = false) : W.unqL t.data.toList = ([], 2) := by
  refine W.unq_none ?_
  rw [W.meant_noshape t h, if_neg (by simp [hb])]

end Go.Proofs.YtgjnafnmdieniaaDoor
