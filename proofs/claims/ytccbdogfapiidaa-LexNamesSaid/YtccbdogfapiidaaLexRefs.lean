/-
  Contracts of the statements' refs and of the document's Text (layer 2): the tokens as the document's, and their text. Conditions: at most 2^20 tokens; for Text, tokens as All makes them.
-/
import Derived.Test.YtccbdogfapiidaaLexAwake
import Derived.Test.YtccbdogfapiidaaLexPure5
import Derived.Test.YtccbdogfapiidaaWordRefV
namespace Go.Proofs.Ytccbdogfapiidaa
open Go.RowKit

theorem tokR_info : (Try.prog.info? 48).map (fun i => (i.zero, i.size, i.bytes)) = some (some zeroTok, 4, 40) := by kernel_rfl
/-- A slice value in its parts, that reads as the tokens l. -/
def ViewT (w : World) (A : Option Addr) (l : List W.Tok) : Prop := 0 < l.length → ∃ g, A = some ⟨g, 0, none⟩ ∧ HoldsT w g l

set_option maxRecDepth 100000 in
set_option maxHeartbeats 1000000 in
theorem refs_any (A : Option Addr) (cap : Nat) (l : List W.Tok) (w : World) (hl : l.length ≤ 1048576) (hv : ViewT w A l) :
    Calls Try.prog 14 #[.slice A l.length cap] w fun e w' => ∃ v, e = .returned v ∧ OwnT 48 w' w.heap.size v l ∧ Below w.heap.size w w' := by
  have HV := Lib.hid hv
  clear hv
  go_enter Try.func14, Try.ntmps14
  go_wp2
  go_loopg [3, 8] l.length (fun g v i wr => ∃ k : Nat, Hid (k + g = l.length) ∧ k ≤ l.length ∧ i = .int .i64 k ∧ OwnT 48 wr w.heap.size v (l.take k) ∧ Below w.heap.size w wr)
  case atStart => exact ⟨0, Nat.zero_add _, Nat.zero_le _, rfl, by simpa using OwnT.nil _ _ _, Below.refl _ _⟩
  case round =>
    obtain ⟨k, HG, hk, rfl, hown, hb⟩ := hrel
    have hsz := hb.size
    by_cases hlt : k < l.length
    · obtain ⟨g, rfl, hg⟩ := HV.out (by omega)
      obtain ⟨kd, pos, wd, bt, ht⟩ : ∃ kd pos wd bt, l[k] = ⟨kd, pos, wd, bt⟩ := ⟨_, _, _, _, rfl⟩
      obtain ⟨c0, c1, c2, c3⟩ := HoldsT.cells (hg.below hb) hlt ht
      have HT := Lib.hid (show l.take (k + 1) = l.take k ++ [⟨kd, pos, wd, bt⟩] by rw [List.take_succ_eq_append_getElem hlt, ht])
      have htl : (l.take k).length ≤ 1048576 := by rw [List.length_take]; omega
      clear ht
      go_wp2_with (at_builtin; refine wpList_appT 27 48 Try.underlying27 tokR_info _ rfl (.tmp 12) (.tmp 14) rfl w.heap.size u3 (l.take k) rfl (OwnT.alloc hown _) ⟨kd, pos, wd, bt⟩ 1 _ rfl (wr.heap.size + 1) (by simp) rfl (by omega) (by simp; omega) ?_; intro v2 w2 hown2 hb2)
      go_roundg (l.length - (k + 1))
      case rel => exact ⟨k + 1, (by show _ = _; omega), by omega, by go_num, by rw [HT.out]; exact hown2, (hb.alloc hsz _).trans hb2⟩
      case measure => have := HG.out; omega
    · go_wp2
      go_ret
      exact ⟨_, rfl, by rw [List.take_of_length_le (by omega)] at hown; exact hown, hb⟩

theorem byt_app (a b : List UInt8) : (⟨a.toArray⟩ : ByteArray) ++ (⟨b.toArray⟩ : ByteArray) = ⟨(a ++ b).toArray⟩ := by
  apply ByteArray.ext; simp [ByteArray.data_append]
theorem byt_size (a : List UInt8) : (⟨a.toArray⟩ : ByteArray).size = a.length := by show a.toArray.size = _; simp

set_option maxRecDepth 100000 in
set_option maxHeartbeats 4000000 in
theorem text_any (A : Option Addr) (cap : Nat) (l : List W.Tok) (w : World) (hl : l.length ≤ 1048576) (hv : ViewT w A l) (hg : ∀ t ∈ l, W.GoodTok t) :
    Calls Try.prog 17 #[.slice A l.length cap] w fun e w' => e = .returned (.string ⟨(W.textL l).toArray⟩) ∧ Below w.heap.size w w' := by
  have HV := Lib.hid hv
  have HGT := Lib.hid hg
  clear hv hg
  go_enter Try.func17, Try.ntmps17
  go_wp2
  go_loopg [3, 4] l.length (fun g v i wr => ∃ k : Nat, Hid (k + g = l.length) ∧ k ≤ l.length ∧ i = .int .i64 k ∧ v = .string ⟨(W.textL (l.take k)).toArray⟩ ∧ Below w.heap.size w wr)
  case atStart => exact ⟨0, Nat.zero_add _, Nat.zero_le _, rfl, by simp [W.textL, W.sepText], Below.refl _ _⟩
  case round =>
    obtain ⟨k, HG, hk, rfl, rfl, hb⟩ := hrel
    have hsz := hb.size
    by_cases hlt : k < l.length
    · obtain ⟨g, rfl, hgg⟩ := HV.out (by omega)
      obtain ⟨kd, pos, wd, bt, ht⟩ : ∃ kd pos wd bt, l[k] = ⟨kd, pos, wd, bt⟩ := ⟨_, _, _, _, rfl⟩
      obtain ⟨c0, c1, c2, c3⟩ := HoldsT.cells (hgg.below hb) hlt ht
      have hgood := HGT.out l[k] (List.getElem_mem hlt)
      rw [ht] at hgood
      have hlen := W.text_len (l.take k) (fun t ht => HGT.out t (List.mem_of_mem_take ht))
      have htl : (l.take k).length ≤ 1048576 := by rw [List.length_take]; omega
      obtain ⟨T, hT⟩ : ∃ T, W.textL (l.take k) = T := ⟨_, rfl⟩
      have hTn : W.textL (l.take (k + 1)) = (if 0 < k then T ++ [32] else T) ++ W.tokText ⟨kd, pos, wd, bt⟩ := by
        by_cases hk0 : 0 < k
        · rw [if_pos hk0, W.text_next l k hlt hk0, ht, hT]; simp
        · obtain rfl : k = 0 := by omega
          rw [if_neg hk0, ← hT, W.text_first l hlt, ht]; simp [W.textL, W.sepText]
      rw [hT] at hlen ⊢
      have hTs : T.length ≤ 170917888 := by omega
      have HTN := Lib.hid hTn
      clear hTn hT ht hlen htl
      obtain hkk | ⟨hkk, hw, hbt⟩ | ⟨hkk, hw, hbt⟩ : (kd = 1 ∧ wd.length ≤ 40) ∨ ((kd = 2 ∨ kd = 3 ∨ kd = 4) ∧ wd = [] ∧ bt = 0) ∨ (kd = 5 ∧ wd = [] ∧ (bt = 1 ∨ bt = 2)) := by
        rcases hgood with ⟨h1, h2, _⟩ | h | h
        · exact .inl ⟨h1, h2⟩
        · exact .inr (.inl h)
        · exact .inr (.inr h)
      · obtain ⟨rfl, h40⟩ := hkk
        have hq := W.quote_len wd
        obtain ⟨q, hqe⟩ : ∃ q, W.quoteL wd = q := ⟨_, rfl⟩
        rw [hqe] at hq
        obtain ⟨_, hq2⟩ := hq
        have hqs : q.length ≤ 162 := by omega
        have hws : (⟨wd.toArray⟩ : ByteArray).size ≤ 1073741824 := by rw [byt_size]; omega
        have HQ := Lib.hid hqe
        have HE := Lib.hid (show W.tokText ⟨1, pos, wd, bt⟩ = q by rw [← hqe]; rfl)
        clear hqe hgood hq2 h40
        by_cases hk0 : 0 < k
        · rw [if_pos hk0] at HTN
          go_wp2_with fail
          refine (quoteR_is ⟨wd.toArray⟩ q _ hws (by simpa using HQ.out)).mono ?_
          rintro e w1 ⟨rfl, hb1⟩
          go_wp2
          go_roundg (l.length - (k + 1))
          case rel => exact ⟨k + 1, (by show _ = _; omega), by omega, by go_num, by rw [HTN.out, HE.out]; exact congrArg Value.string (ByteArray.ext (by simp [ByteArray.data_append])), hb.trans (hb1.mono hsz)⟩
          case measure => have := HG.out; omega
        · rw [if_neg hk0] at HTN
          go_wp2_with fail
          refine (quoteR_is ⟨wd.toArray⟩ q _ hws (by simpa using HQ.out)).mono ?_
          rintro e w1 ⟨rfl, hb1⟩
          go_wp2
          go_roundg (l.length - (k + 1))
          case rel => exact ⟨k + 1, (by show _ = _; omega), by omega, by go_num, by rw [HTN.out, HE.out]; exact congrArg Value.string (ByteArray.ext (by simp [ByteArray.data_append])), hb.trans (hb1.mono hsz)⟩
          case measure => have := HG.out; omega
      · clear hgood
        rcases hkk with rfl | rfl | rfl
        all_goals
          by_cases hk0 : 0 < k
          · rw [if_pos hk0] at HTN
            go_wp2
            go_roundg (l.length - (k + 1))
            case rel => exact ⟨k + 1, (by show _ = _; omega), by omega, by go_num, by rw [HTN.out]; exact congrArg Value.string (ByteArray.ext (by simp [ByteArray.data_append, W.tokText])), hb⟩
            case measure => have := HG.out; omega
          · rw [if_neg hk0] at HTN
            go_wp2
            go_roundg (l.length - (k + 1))
            case rel => exact ⟨k + 1, (by show _ = _; omega), by omega, by go_num, by rw [HTN.out]; exact congrArg Value.string (ByteArray.ext (by simp [ByteArray.data_append, W.tokText])), hb⟩
            case measure => have := HG.out; omega
      · clear hgood
        obtain rfl := hkk
        rcases hbt with rfl | rfl
        all_goals
          by_cases hk0 : 0 < k
          · rw [if_pos hk0] at HTN
            go_wp2
            go_roundg (l.length - (k + 1))
            case rel => exact ⟨k + 1, (by show _ = _; omega), by omega, by go_num, by rw [HTN.out]; exact congrArg Value.string (ByteArray.ext (by simp [ByteArray.data_append, W.tokText, W.inactiveL, W.protectL])), hb⟩
            case measure => have := HG.out; omega
          · rw [if_neg hk0] at HTN
            go_wp2
            go_roundg (l.length - (k + 1))
            case rel => exact ⟨k + 1, (by show _ = _; omega), by omega, by go_num, by rw [HTN.out]; exact congrArg Value.string (ByteArray.ext (by simp [ByteArray.data_append, W.tokText, W.inactiveL, W.protectL])), hb⟩
            case measure => have := HG.out; omega
    · have e : W.textL (l.take k) = W.textL l := by rw [List.take_of_length_le (by omega)]
      rw [e]
      clear e
      go_wp2
      go_ret
      exact ⟨rfl, hb⟩
end Go.Proofs.Ytccbdogfapiidaa
