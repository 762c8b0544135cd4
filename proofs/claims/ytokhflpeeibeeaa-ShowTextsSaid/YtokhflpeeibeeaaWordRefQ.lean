/-
  Contracts of the document's answers for layer 1 (ferryslipref01): Quote and Scan return what the plain definitions say; below the heap's size at the call the world is as it was. Condition: strings of at most 2^30 bytes.
-/
import Derived.Test.YtokhflpeeibeeaaWordRef
namespace Go.Proofs.Ytokhflpeeibeeaa
open Go.RowKit

def WroteQ (B : Nat) (w : World) (l : List UInt8) (e : Ending) (w' : World) : Prop := e = .returned (.string ⟨l.toArray⟩) ∧ Below B w w'
theorem hex_pair (c : UInt8) : W.hexD ((c.toNat : Int) / 16).toNat = W.hexD (c.toNat / 16) ∧ W.hexD ((c.toNat : Int) % 16).toNat = W.hexD (c.toNat % 16) := by
  have e1 : ((c.toNat : Int) / 16).toNat = c.toNat / 16 := by omega
  have e2 : ((c.toNat : Int) % 16).toNat = c.toNat % 16 := by omega
  rw [e1, e2]; exact ⟨rfl, rfl⟩

set_option maxHeartbeats 1000000 in
theorem quoteR_any (s : ByteArray) (w : World) (hs : s.size ≤ 1073741824) :
    Calls Try.prog 26 #[.string s] w (WroteQ w.heap.size w (W.quoteL s.data.toList)) := by
  cases hp : W.bareL s.data.toList with
  | true =>
    have HQ : Hid (W.quoteL s.data.toList = s.data.toList) := by unfold W.quoteL; rw [if_pos hp]; exact rfl
    go_enter Try.func26, Try.ntmps26
    go_wp2_with (go_at_call 34; refine (BareR_any _ _ (by omega)).mono ?_; rintro e w' ⟨rfl, rfl⟩)
    go_ret
    exact ⟨by rw [HQ.out, Lib.mk_data]; rfl, Below.refl _ _⟩
  | false =>
    have HQ : Hid (W.quoteL s.data.toList = W.quotedL s.data.toList) := by unfold W.quoteL; rw [if_neg (by simp [hp])]; exact rfl
    go_enter Try.func26, Try.ntmps26
    go_wp2_with (go_at_call 34; refine (BareR_any _ _ (by omega)).mono ?_; rintro e w' ⟨rfl, rfl⟩)
    go_loopw [3, 4] (fun b i wr => ∃ k : Nat, k ≤ s.size ∧ i = .int .i64 k ∧ OwnB wr w.heap.size b (34 :: W.encL (s.data.toList.take k)) ∧ Below w.heap.size w wr) (fun _ i _ => s.size - (intOf i).toNat)
    case atStart => exact ⟨0, Nat.zero_le _, rfl, own_lit w _ (Nat.le_refl _) [34] _ rfl 1 rfl (by omega), (Below.refl _ _).alloc (Nat.le_refl _) _⟩
    case round =>
      obtain ⟨k, hk, rfl, hown, hb⟩ := hrel
      have hsz := hb.size
      have hen := W.encL_len (s.data.toList.take k)
      have htl : (s.data.toList.take k).length ≤ k := List.length_take_le _ _
      have hln : (34 :: W.encL (s.data.toList.take k)).length ≤ 4294967300 := by simp only [List.length_cons]; omega
      clear hen htl
      by_cases hlt : k < s.size
      · have HT := Lib.hid (W.take_snoc s k hlt)
        have hc := s[k].toNat_lt
        by_cases hq : s[k].toNat = 34 ∨ s[k].toNat = 92
        · have HE := Lib.hid (W.enc_esc hq)
          by_cases h34 : s[k].toNat = 34
          · have b34 : ((s[k].toNat : Int) == 34) = true := by simp; omega
            clear hq h34
            go_wp2_with (at_builtin; refine wpList_appB _ rfl (.tmp 25) (.tmp 27) rfl w.heap.size _ (34 :: W.encL (s.data.toList.take k)) rfl hown [92, s[k]] 2 2 _ rfl rfl rfl (by omega) hsz ?_; intro v1 w1 hown1 hb1)
            go_roundw
            case rel => exact ⟨k + 1, by omega, by go_num, by rw [HT.out, W.encL_snoc, HE.out]; exact hown1, hb.trans hb1⟩
            case measure => simp [intOf]; omega
          · have b34 : ((s[k].toNat : Int) == 34) = false := by simp; omega
            have b92 : ((s[k].toNat : Int) == 92) = true := by simp; omega
            clear hq h34
            go_wp2_with (at_builtin; refine wpList_appB _ rfl (.tmp 25) (.tmp 27) rfl w.heap.size _ (34 :: W.encL (s.data.toList.take k)) rfl hown [92, s[k]] 2 2 _ rfl rfl rfl (by omega) hsz ?_; intro v1 w1 hown1 hb1)
            go_roundw
            case rel => exact ⟨k + 1, by omega, by go_num, by rw [HT.out, W.encL_snoc, HE.out]; exact hown1, hb.trans hb1⟩
            case measure => simp [intOf]; omega
        · have b34 : ((s[k].toNat : Int) == 34) = false := by simp; omega
          have b92 : ((s[k].toNat : Int) == 92) = false := by simp; omega
          by_cases hsh : 32 ≤ s[k].toNat ∧ s[k].toNat ≤ 126
          · have HE := Lib.hid (W.enc_self hq (by unfold W.shownB; exact decide_eq_true hsh))
            have g1 : (32 : Int) ≤ s[k].toNat := by omega
            have g2 : (s[k].toNat : Int) ≤ 126 := by omega
            clear hq hsh
            go_wp2_with (at_builtin; refine wpList_appB _ rfl (.tmp 46) (.tmp 48) rfl w.heap.size _ (34 :: W.encL (s.data.toList.take k)) rfl hown [s[k]] 1 1 _ rfl rfl rfl (by omega) hsz ?_; intro v1 w1 hown1 hb1)
            go_roundw
            case rel => exact ⟨k + 1, by omega, by go_num, by rw [HT.out, W.encL_snoc, HE.out]; exact hown1, hb.trans hb1⟩
            case measure => simp [intOf]; omega
          · have HE := Lib.hid (W.enc_hex hq (by unfold W.shownB; exact decide_eq_false hsh))
            have HX := Lib.hid (hex_pair s[k])
            by_cases h32 : s[k].toNat < 32
            · have g1 : (s[k].toNat : Int) < 32 := by omega
              clear hq hsh h32
              go_wp2_with (first | (go_at_call 35; refine (digitR_any _ _ (by omega) (by omega)).mono ?_; rintro e w' ⟨rfl, rfl⟩) | (at_builtin; refine wpList_appB _ rfl (.tmp 35) (.tmp 44) rfl w.heap.size _ (34 :: W.encL (s.data.toList.take k)) rfl hown [92, 120, W.hexD ((s[k].toNat : Int) / 16).toNat, W.hexD ((s[k].toNat : Int) % 16).toNat] 4 4 _ rfl rfl rfl (by omega) hsz ?_; intro v1 w1 hown1 hb1))
              go_roundw
              case rel => exact ⟨k + 1, by omega, by go_num, by rw [HT.out, W.encL_snoc, HE.out, ← HX.out.1, ← HX.out.2]; exact hown1, hb.trans hb1⟩
              case measure => simp [intOf]; omega
            · have g1 : (126 : Int) < s[k].toNat := by omega
              clear hq hsh h32
              go_wp2_with (first | (go_at_call 35; refine (digitR_any _ _ (by omega) (by omega)).mono ?_; rintro e w' ⟨rfl, rfl⟩) | (at_builtin; refine wpList_appB _ rfl (.tmp 35) (.tmp 44) rfl w.heap.size _ (34 :: W.encL (s.data.toList.take k)) rfl hown [92, 120, W.hexD ((s[k].toNat : Int) / 16).toNat, W.hexD ((s[k].toNat : Int) % 16).toNat] 4 4 _ rfl rfl rfl (by omega) hsz ?_; intro v1 w1 hown1 hb1))
              go_roundw
              case rel => exact ⟨k + 1, by omega, by go_num, by rw [HT.out, W.encL_snoc, HE.out, ← HX.out.1, ← HX.out.2]; exact hown1, hb.trans hb1⟩
              case measure => simp [intOf]; omega
      · go_wp2_with (at_builtin; refine wpList_appB _ rfl (.tmp 50) (.tmp 51) rfl w.heap.size _ (34 :: W.encL (s.data.toList.take k)) rfl hown [34] 1 1 _ rfl rfl rfl (by omega) hsz ?_; intro v1 w1 hown1 hb1; have hcv := conv_own hown1)
        go_ret
        refine ⟨?_, hb.trans hb1⟩
        rw [HQ.out, List.take_of_length_le (by rw [← Lib.size_eq]; omega)]
        rfl

end Go.Proofs.Ytokhflpeeibeeaa
