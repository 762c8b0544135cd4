/-
  Contracts of the document's answers for layer 1 (ferryslipref01): Quote and Scan return what the plain definitions say; below the heap's size at the call the world is as it was. Condition: strings of at most 2^30 bytes.
-/
import Derived.Test.YtccbdogfapiidaaWordRef
namespace Go.Proofs.Ytccbdogfapiidaa
open Go.RowKit

def WroteQ (B : Nat) (w : World) (l : List UInt8) (e : Ending) (w' : World) : Prop := e = .returned (.string ⟨l.toArray⟩) ∧ Below B w w'
theorem hex_pair (c : UInt8) : W.hexD ((c.toNat : Int) / 16).toNat = W.hexD (c.toNat / 16) ∧ W.hexD ((c.toNat : Int) % 16).toNat = W.hexD (c.toNat % 16) := by
  have e1 : ((c.toNat : Int) / 16).toNat = c.toNat / 16 := by omega
  have e2 : ((c.toNat : Int) % 16).toNat = c.toNat % 16 := by omega
  rw [e1, e2]; exact ⟨rfl, rfl⟩

set_option maxHeartbeats 1000000 in
theorem quoteR_any (s : ByteArray) (w : World) (hs : s.size ≤ 1073741824) :
    Calls Try.prog 18 #[.string s] w (WroteQ w.heap.size w (W.quoteL s.data.toList)) := by
  cases hp : W.bareL s.data.toList with
  | true =>
    have HQ : Hid (W.quoteL s.data.toList = s.data.toList) := by unfold W.quoteL; rw [if_pos hp]; exact rfl
    go_enter Try.func18, Try.ntmps18
    go_wp2_with (go_at_call 28; refine (BareR_any _ _ (by omega)).mono ?_; rintro e w' ⟨rfl, rfl⟩)
    go_ret
    exact ⟨by rw [HQ.out, Lib.mk_data]; rfl, Below.refl _ _⟩
  | false =>
    have HQ : Hid (W.quoteL s.data.toList = W.quotedL s.data.toList) := by unfold W.quoteL; rw [if_neg (by simp [hp])]; exact rfl
    go_enter Try.func18, Try.ntmps18
    go_wp2_with (go_at_call 28; refine (BareR_any _ _ (by omega)).mono ?_; rintro e w' ⟨rfl, rfl⟩)
    go_loopw [3, 4] (fun b i wr => ∃ k : Nat, k ≤ s.size ∧ i = .int .i64 k ∧ OwnB wr w.heap.size b (34 :: W.encL (s.data.toList.take k)) ∧ Below w.heap.size w wr) (fun _ i _ => s.size - (intOf i).toNat)
    case atStart => exact ⟨0, Nat.zero_le _, rfl, own_lit w _ (Nat.le_refl _) [34] _ rfl 1 rfl (by omega), (Below.refl _ _).alloc (Nat.le_refl _) _⟩
    case round =>
      obtain ⟨k, hk, rfl, hown, hb⟩ := hrel
      have hsz := hb.size
      have hen := W.encL_len (s.data.toList.take k)
      have htl : (s.data.toList.take k).length ≤ k := List.length_take_le _ _
      have hln : (34 :: W.encL (s.data.toList.take k)).length ≤ 4294967300 := by simp only [List.length_cons]; omega
      clear hen htl
      by_cases hlt : k < s.size
      · have HT := Lib.hid (W.take_snoc s k hlt)
        have hc := s[k].toNat_lt
        by_cases hq : s[k].toNat = 34 ∨ s[k].toNat = 92
        · have HE := Lib.hid (W.enc_esc hq)
          by_cases h34 : s[k].toNat = 34
          · have b34 : ((s[k].toNat : Int) == 34) = true := by simp; omega
            clear hq h34
            go_wp2_with (at_builtin; refine wpList_appB _ rfl (.tmp 25) (.tmp 27) rfl w.heap.size _ (34 :: W.encL (s.data.toList.take k)) rfl hown [92, s[k]] 2 2 _ rfl rfl rfl (by omega) hsz ?_; intro v1 w1 hown1 hb1)
            go_roundw
            case rel => exact ⟨k + 1, by omega, by go_num, by rw [HT.out, W.encL_snoc, HE.out]; exact hown1, hb.trans hb1⟩
            case measure => simp [intOf]; omega
          · have b34 : ((s[k].toNat : Int) == 34) = false := by simp; omega
            have b92 : ((s[k].toNat : Int) == 92) = true := by simp; omega
            clear hq h34
            go_wp2_with (at_builtin; refine wpList_appB _ rfl (.tmp 25) (.tmp 27) rfl w.heap.size _ (34 :: W.encL (s.data.toList.take k)) rfl hown [92, s[k]] 2 2 _ rfl rfl rfl (by omega) hsz ?_; intro v1 w1 hown1 hb1)
            go_roundw
            case rel => exact ⟨k + 1, by omega, by go_num, by rw [HT.out, W.encL_snoc, HE.out]; exact hown1, hb.trans hb1⟩
            case measure => simp [intOf]; omega
        · have b34 : ((s[k].toNat : Int) == 34) = false := by simp; omega
          have b92 : ((s[k].toNat : Int) == 92) = false := by simp; omega
          by_cases hsh : 32 ≤ s[k].toNat ∧ s[k].toNat ≤ 126
          · have HE := Lib.hid (W.enc_self hq (by unfold W.shownB; exact decide_eq_true hsh))
            have g1 : (32 : Int) ≤ s[k].toNat := by omega
            have g2 : (s[k].toNat : Int) ≤ 126 := by omega
            clear hq hsh
            go_wp2_with (at_builtin; refine wpList_appB _ rfl (.tmp 46) (.tmp 48) rfl w.heap.size _ (34 :: W.encL (s.data.toList.take k)) rfl hown [s[k]] 1 1 _ rfl rfl rfl (by omega) hsz ?_; intro v1 w1 hown1 hb1)
            go_roundw
            case rel => exact ⟨k + 1, by omega, by go_num, by rw [HT.out, W.encL_snoc, HE.out]; exact hown1, hb.trans hb1⟩
            case measure => simp [intOf]; omega
          · have HE := Lib.hid (W.enc_hex hq (by unfold W.shownB; exact decide_eq_false hsh))
            have HX := Lib.hid (hex_pair s[k])
            by_cases h32 : s[k].toNat < 32
            · have g1 : (s[k].toNat : Int) < 32 := by omega
              clear hq hsh h32
              go_wp2_with (first | (go_at_call 29; refine (digitR_any _ _ (by omega) (by omega)).mono ?_; rintro e w' ⟨rfl, rfl⟩) | (at_builtin; refine wpList_appB _ rfl (.tmp 35) (.tmp 44) rfl w.heap.size _ (34 :: W.encL (s.data.toList.take k)) rfl hown [92, 120, W.hexD ((s[k].toNat : Int) / 16).toNat, W.hexD ((s[k].toNat : Int) % 16).toNat] 4 4 _ rfl rfl rfl (by omega) hsz ?_; intro v1 w1 hown1 hb1))
              go_roundw
              case rel => exact ⟨k + 1, by omega, by go_num, by rw [HT.out, W.encL_snoc, HE.out, ← HX.out.1, ← HX.out.2]; exact hown1, hb.trans hb1⟩
              case measure => simp [intOf]; omega
            · have g1 : (126 : Int) < s[k].toNat := by omega
              clear hq hsh h32
              go_wp2_with (first | (go_at_call 29; refine (digitR_any _ _ (by omega) (by omega)).mono ?_; rintro e w' ⟨rfl, rfl⟩) | (at_builtin; refine wpList_appB _ rfl (.tmp 35) (.tmp 44) rfl w.heap.size _ (34 :: W.encL (s.data.toList.take k)) rfl hown [92, 120, W.hexD ((s[k].toNat : Int) / 16).toNat, W.hexD ((s[k].toNat : Int) % 16).toNat] 4 4 _ rfl rfl rfl (by omega) hsz ?_; intro v1 w1 hown1 hb1))
              go_roundw
              case rel => exact ⟨k + 1, by omega, by go_num, by rw [HT.out, W.encL_snoc, HE.out, ← HX.out.1, ← HX.out.2]; exact hown1, hb.trans hb1⟩
              case measure => simp [intOf]; omega
      · go_wp2_with (at_builtin; refine wpList_appB _ rfl (.tmp 50) (.tmp 51) rfl w.heap.size _ (34 :: W.encL (s.data.toList.take k)) rfl hown [34] 1 1 _ rfl rfl rfl (by omega) hsz ?_; intro v1 w1 hown1 hb1; have hcv := conv_own hown1)
        go_ret
        refine ⟨?_, hb.trans hb1⟩
        rw [HQ.out, List.take_of_length_le (by rw [← Lib.size_eq]; omega)]
        rfl

set_option maxHeartbeats 1000000 in
theorem scanR_any (s : ByteArray) (a : Int) (w : World) (hs : s.size ≤ 1099511627776) :
    Calls Try.prog 24 #[.string s, .int .i64 a] w fun e w' => e = .returned (.tuple #[.int .i64 (W.optN (W.scanL s.data.toList a)), .bool (W.scanL s.data.toList a).isSome]) ∧ w = w' := by
  by_cases h0 : a < 0
  · go_enter Try.func24, Try.ntmps24
    go_wp2
    go_ret2
    exact ⟨ret_int_bool (by rw [W.scan_neg _ _ h0]; rfl) (by rw [W.scan_neg _ _ h0]; rfl), rfl⟩
  · obtain ⟨k, rfl⟩ := Int.eq_ofNat_of_zero_le (show 0 ≤ a by omega)
    by_cases hlt : k < s.size
    · by_cases hc : s[k].toNat = 34
      · have hb : ((s[k].toNat : Int) != 34) = false := by simp; omega
        have HC := Lib.hid hc
        clear hc
        go_enter Try.func24, Try.ntmps24
        go_wp2
        go_loop [7, 8] (fun c i => ∃ (j : Nat) (b : Bool), j ≤ s.size ∧ i = .int .i64 j ∧ c = .bool b ∧ Hid (W.qFrom s.data.toList (k + 1) = W.qFrom s.data.toList (if b then j + 1 else j))) (fun _ i => s.size - (intOf i).toNat)
        case atStart => exact ⟨k + 1, false, by omega, by go_num, rfl, rfl⟩
        case round =>
          obtain ⟨j, b, hj, rfl, rfl, H⟩ := hrel
          by_cases hjl : j < s.size
          · cases b with
            | true =>
              go_wp2
              go_round
              case rel => exact ⟨j + 1, false, by omega, by go_num, rfl, by rw [H.out]; exact rfl⟩
              case measure => simp [intOf]; omega
            | false =>
              by_cases h92 : s[j].toNat = 92
              · have b92 : ((s[j].toNat : Int) == 92) = true := by simp; omega
                have HB := Lib.hid (W.qFrom_back s j hjl h92)
                clear h92
                go_wp2
                go_round
                case rel => exact ⟨j + 1, true, by omega, by go_num, rfl, by rw [H.out]; exact HB.out⟩
                case measure => simp [intOf]; omega
              · have b92 : ((s[j].toNat : Int) == 92) = false := by simp; omega
                by_cases h34 : s[j].toNat = 34
                · have b34 : ((s[j].toNat : Int) == 34) = true := by simp; omega
                  have HB := Lib.hid (W.qFrom_hit s j hjl h34)
                  clear h92 h34
                  go_wp2
                  go_ret2
                  have e : W.scanL s.data.toList k = some (j + 1) := by rw [W.scan_quote s k hlt HC.out, H.out]; exact HB.out
                  exact ⟨ret_int_bool (by rw [e]; rfl) (by rw [e]; rfl), rfl⟩
                · have b34 : ((s[j].toNat : Int) == 34) = false := by simp; omega
                  have HB := Lib.hid (W.qFrom_plain s j hjl h34 h92)
                  clear h92 h34
                  go_wp2
                  go_round
                  case rel => exact ⟨j + 1, false, by omega, by go_num, rfl, by rw [H.out]; exact HB.out⟩
                  case measure => simp [intOf]; omega
          · have e : W.scanL s.data.toList k = none := by
              rw [W.scan_quote s k hlt HC.out, H.out]
              cases b
              · exact W.qFrom_over s j (by omega)
              · exact W.qFrom_over s (j + 1) (by omega)
            have E := Lib.hid e
            clear e
            go_wp2
            go_ret2
            exact ⟨ret_int_bool (by rw [E.out]; rfl) (by rw [E.out]; rfl), rfl⟩
      · have hb : ((s[k].toNat : Int) != 34) = true := by simp; omega
        go_enter Try.func24, Try.ntmps24
        go_wp2
        go_loop [6] (fun i => ∃ j : Nat, k ≤ j ∧ j ≤ s.size ∧ i = .int .i64 j ∧ Hid (W.plainRun (s.data.toList.drop k) = j - k + W.plainRun (s.data.toList.drop j))) (fun i => s.size - (intOf i).toNat)
        case atStart => exact ⟨k, by omega, by omega, rfl, by simp [Hid]⟩
        case round =>
          obtain ⟨j, hj, hjs, rfl, H⟩ := hrel
          have hsc := Lib.hid (W.scan_plain s k hlt hc)
          by_cases hjl : j < s.size
          · cases hp : W.plainB s[j]
            · have hz := Lib.hid (W.plainRun_stop s j hjl hp)
              by_cases hjk : j = k
              · obtain rfl := hjk
                go_wp2_with (go_at_call 35; refine (bareR_any _ _).mono ?_; rintro e w' ⟨rfl, rfl⟩)
                go_ret2
                exact ⟨ret_int_bool (by rw [hsc.out, H.out, hz.out]; simp [W.optN]) (by rw [hsc.out, H.out, hz.out]; simp), rfl⟩
              · have hjk2 : ((j : Int) == (k : Int)) = false := by simp; omega
                go_wp2_with (go_at_call 35; refine (bareR_any _ _).mono ?_; rintro e w' ⟨rfl, rfl⟩)
                go_ret2
                have hne : ¬ (j - k + 0 = 0) := by omega
                exact ⟨ret_int_bool (by rw [hsc.out, H.out, hz.out, if_neg hne]; simp [W.optN]; omega) (by rw [hsc.out, H.out, hz.out, if_neg hne]; rfl), rfl⟩
            · have hz := Lib.hid (W.plainRun_at s j hjl hp)
              go_wp2_with (go_at_call 35; refine (bareR_any _ _).mono ?_; rintro e w' ⟨rfl, rfl⟩)
              go_round
              case rel => exact ⟨j + 1, by omega, by omega, by go_num, by rw [H.out, hz.out]; show _ = _; omega⟩
              case measure => simp [intOf]; omega
          · have hz := Lib.hid (W.plainRun_over s j (by omega))
            have hjk2 : ((j : Int) == (k : Int)) = false := by simp; omega
            go_wp2
            go_ret2
            have hne : ¬ (j - k + 0 = 0) := by omega
            exact ⟨ret_int_bool (by rw [hsc.out, H.out, hz.out, if_neg hne]; simp [W.optN]; omega) (by rw [hsc.out, H.out, hz.out, if_neg hne]; rfl), rfl⟩
    · go_enter Try.func24, Try.ntmps24
      go_wp2
      go_ret2
      exact ⟨ret_int_bool (by rw [W.scan_over s k (by omega)]; rfl) (by rw [W.scan_over s k (by omega)]; rfl), rfl⟩
end Go.Proofs.Ytccbdogfapiidaa
