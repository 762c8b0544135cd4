/-
  Contracts of layer 1's inner, meant and Unquote: the word of a text is what the plain definitions say; below the heap's size at the call the world is as it was. Condition: strings of at most 2^40 bytes.
-/
import Derived.Test.YtccbdogfapiidaaWordOne
import Derived.Test.YtccbdogfapiidaaOwnB
import Derived.Test.YtccbdogfapiidaaWordPure3
namespace Go.Proofs.Ytccbdogfapiidaa
open Go.RowKit

def InnerS (w : World) (o : Option (List UInt8)) (e : Ending) (w' : World) : Prop :=
  e = .returned (.tuple #[.string ⟨(o.getD []).toArray⟩, .bool o.isSome]) ∧ Below w.heap.size w w'

set_option maxHeartbeats 800000 in
theorem inner_any (s : ByteArray) (w : World) (hs : s.size ≤ 1099511627776) :
    Calls Try.prog 48 #[.string s] w (InnerS w (W.decL s.data.toList)) := by
  go_enter Try.func48, Try.ntmps48
  go_wp2
  go_loopw [4, 5] (fun b i wr => ∃ (k : Nat) (acc : List UInt8), k ≤ s.size ∧ acc.length ≤ k ∧ i = .int .i64 k ∧ OwnB wr w.heap.size b acc ∧ Below w.heap.size w wr ∧ Hid (W.decL s.data.toList = (W.decL (s.data.toList.drop k)).map (acc ++ ·))) (fun _ i _ => s.size - (intOf i).toNat)
  case atStart => exact ⟨0, [], Nat.zero_le _, Nat.zero_le _, rfl, own_lit w _ (Nat.le_refl _) [] _ rfl 0 rfl (by omega), (Below.refl _ _).alloc (Nat.le_refl _) _, by simp [Hid]⟩
  case round =>
    obtain ⟨k, acc, hk, hac, rfl, hown, hb, H⟩ := hrel
    have hsz := hb.size
    by_cases hlt : k < s.size
    · have hlen : (s.data.toList.drop k).length = s.size - k := by rw [List.length_drop, ← Lib.size_eq]
      have HL := Lib.hid hlen
      clear hlen
      cases ho : W.oneD (s.data.toList.drop k) with
      | none =>
        have HD : Hid (W.decL s.data.toList = none) := by
          rw [H.out, W.decL_none (by rw [W.drop_at s k hlt]; simp) ho]; rfl
        have HO := Lib.hid ho
        clear ho
        go_wp2_with (go_at_call 53; refine (one_any _ k _ hs hlt).mono ?_; rintro e w' ⟨rfl, rfl⟩; rw [HO.out]; simp only [W.oneC, W.oneN])
        go_ret2
        exact ⟨by rw [HD.out]; rfl, hb⟩
      | some p =>
        obtain ⟨c, n⟩ := p
        have hn := W.oneD_pos ho
        rw [HL.out] at hn
        have hn1 := hn.1
        have hn2 := hn.2.1
        have hn3 := hn.2.2
        clear hn
        have hn0 : ((n : Int) == 0) = false := by simp; omega
        have HD : Hid (W.decL s.data.toList = (W.decL (s.data.toList.drop (k + n))).map ((acc ++ [c]) ++ ·)) := by
          rw [H.out, W.decL_some ho, W.map_acc, List.drop_drop]; exact rfl
        have HO := Lib.hid ho
        clear ho
        go_wp2_with (first | (go_at_call 53; refine (one_any _ k _ hs hlt).mono ?_; rintro e w' ⟨rfl, rfl⟩; rw [HO.out]; simp only [W.oneC, W.oneN]) | (at_builtin; refine wpList_appB _ rfl (.tmp 21) (.tmp 23) rfl w.heap.size _ acc rfl hown [c] 1 1 _ rfl rfl rfl (by omega) hsz ?_; intro v1 w1 hown1 hb1))
        go_roundw
        case rel => exact ⟨k + n, acc ++ [c], by omega, by simp only [List.length_append, List.length_singleton]; omega, by go_num, hown1, hb.trans hb1, HD⟩
        case measure => simp [intOf]; omega
    · have HD : Hid (W.decL s.data.toList = some acc) := by
        rw [H.out, W.drop_over s k (by omega), W.decL_nil]; simp [Hid]
      have hcv := conv_own hown
      go_wp2
      go_ret2
      exact ⟨by rw [HD.out]; rfl, hb⟩

def MeantS (w : World) (o : Option (List UInt8)) (e : Ending) (w' : World) : Prop :=
  ∃ x : List UInt8, e = .returned (.tuple #[.string ⟨x.toArray⟩, .bool o.isSome]) ∧ (∀ y, o = some y → x = y) ∧ Below w.heap.size w w'

set_option maxHeartbeats 800000 in
theorem meant_any (s : ByteArray) (w : World) (hs : s.size ≤ 1099511627776) :
    Calls Try.prog 43 #[.string s] w (MeantS w (W.meantL s.data.toList)) := by
  cases hp : W.allPlainL s.data.toList with
  | true =>
    have HM := Lib.hid (W.meant_plain s hp)
    go_enter Try.func43, Try.ntmps43
    go_wp2_with (first | (go_at_call 46; refine (allPlain_any _ _ hs).mono ?_; rintro e w' ⟨rfl, rfl⟩) | (go_at_call 47; refine (reserved_any _ _).mono ?_; rintro e w' ⟨rfl, rfl⟩))
    go_ret2
    refine ⟨s.data.toList, ?_, ?_, Below.refl _ _⟩
    · rw [HM.out, Lib.mk_data]; cases W.reservedL s.data.toList <;> rfl
    · intro y hy; rw [HM.out] at hy; split at hy
      · cases hy
      · injection hy
  | false =>
    by_cases h2 : s.size < 2
    · have HM := Lib.hid (W.meant_short s hp h2)
      go_enter Try.func43, Try.ntmps43
      go_wp2_with (go_at_call 46; refine (allPlain_any _ _ hs).mono ?_; rintro e w' ⟨rfl, rfl⟩)
      go_ret2
      exact ⟨[], by rw [HM.out]; rfl, (fun y hy => by rw [HM.out] at hy; cases hy), Below.refl _ _⟩
    · have g0 : 0 < s.size := by omega
      have g1 : s.size - 1 < s.size := by omega
      have g2 : 2 ≤ s.size := by omega
      by_cases h3 : s[0].toNat = 34
      · by_cases h4 : s[s.size - 1].toNat = 34
        · have HM := Lib.hid (W.meant_quoted s hp (by omega) h3 h4)
          have b3 : ((s[0].toNat : Int) != 34) = false := by simp; omega
          have b4 : ((s[s.size - 1].toNat : Int) != 34) = false := by simp; omega
          have hes : (s.extract 1 (s.size - 1)).size ≤ 1099511627776 := by rw [Lib.size_eq, Lib.extract_data, List.length_take, List.length_drop, ← Lib.size_eq]; omega
          clear h3 h4
          obtain ⟨o, ho⟩ : ∃ o, W.decL (s.extract 1 (s.size - 1)).data.toList = o := ⟨_, rfl⟩
          have HO := Lib.hid ho
          clear ho
          go_enter Try.func43, Try.ntmps43
          go_wp2_with (first | (go_at_call 46; refine (allPlain_any _ _ hs).mono ?_; rintro e w' ⟨rfl, rfl⟩) | (go_at_call 48; refine (inner_any _ _ hes).mono ?_; rintro e w1 ⟨rfl, hb1⟩; rw [HO.out]))
          go_ret2
          refine ⟨_, by rw [HM.out, HO.out]; rfl, fun y hy => ?_, hb1⟩
          rw [HM.out, HO.out] at hy
          rw [hy]; rfl
        · have HM := Lib.hid (W.meant_last s hp g0 h4)
          have b3 : ((s[0].toNat : Int) != 34) = false := by simp; omega
          have b4 : ((s[s.size - 1].toNat : Int) != 34) = true := by simp; omega
          clear h3 h4
          go_enter Try.func43, Try.ntmps43
          go_wp2_with (go_at_call 46; refine (allPlain_any _ _ hs).mono ?_; rintro e w' ⟨rfl, rfl⟩)
          go_ret2
          exact ⟨[], by rw [HM.out]; rfl, (fun y hy => by rw [HM.out] at hy; cases hy), Below.refl _ _⟩
      · have HM := Lib.hid (W.meant_head s hp g0 h3)
        have b3 : ((s[0].toNat : Int) != 34) = true := by simp; omega
        clear h3
        go_enter Try.func43, Try.ntmps43
        go_wp2_with (go_at_call 46; refine (allPlain_any _ _ hs).mono ?_; rintro e w' ⟨rfl, rfl⟩)
        go_ret2
        exact ⟨[], by rw [HM.out]; rfl, (fun y hy => by rw [HM.out] at hy; cases hy), Below.refl _ _⟩

set_option maxHeartbeats 800000 in
theorem unquote_any (s : ByteArray) (w : World) (hs : s.size ≤ 1099511627776) :
    Calls Try.prog 34 #[.string s] w (WroteS w.heap.size w (W.unqL s.data.toList).1 (W.unqL s.data.toList).2) := by
  cases hm : W.meantL s.data.toList with
  | none =>
    have HU := Lib.hid (W.unq_none hm)
    have HM := Lib.hid hm
    clear hm
    go_enter Try.func34, Try.ntmps34
    go_wp2_with (go_at_call 43; refine (meant_any _ _ hs).mono ?_; rintro e w1 ⟨x, rfl, hx, hb1⟩; clear hx; rw [HM.out]; simp only [Option.isSome])
    go_ret2
    exact ⟨by rw [HU.out]; rfl, hb1⟩
  | some y =>
    by_cases h40 : 40 < y.length
    · have HU := Lib.hid (W.unq_long hm h40)
      have HM := Lib.hid hm
      clear hm
      have hsz : 40 < (⟨y.toArray⟩ : ByteArray).size := by show 40 < y.toArray.size; rw [List.size_toArray]; exact h40
      go_enter Try.func34, Try.ntmps34
      go_wp2_with (go_at_call 43; refine (meant_any _ _ hs).mono ?_; rintro e w1 ⟨x, rfl, hx, hb1⟩; obtain rfl := hx y HM.out; clear hx; rw [HM.out]; simp only [Option.isSome])
      go_ret2
      exact ⟨by rw [HU.out]; rfl, hb1⟩
    · have HU := Lib.hid (W.unq_ok hm h40)
      have HM := Lib.hid hm
      clear hm
      have hsz : (⟨y.toArray⟩ : ByteArray).size ≤ 40 := by show y.toArray.size ≤ 40; rw [List.size_toArray]; omega
      go_enter Try.func34, Try.ntmps34
      go_wp2_with (go_at_call 43; refine (meant_any _ _ hs).mono ?_; rintro e w1 ⟨x, rfl, hx, hb1⟩; obtain rfl := hx y HM.out; clear hx; rw [HM.out]; simp only [Option.isSome])
      go_ret2
      exact ⟨by rw [HU.out]; rfl, hb1⟩
end Go.Proofs.Ytccbdogfapiidaa
