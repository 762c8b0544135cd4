/-
  The walk of layer 1's statement WordBytes: it returns true whatever the string is. No conditions.
-/
import Derived.Test.YtfjdfjbbgfehaaaWordApartWalk
import Derived.Deep.RegionWith
namespace Go.Proofs.Ytfjdfjbbgfehaaa
open Go.RowKit

set_option maxHeartbeats 800000 in
theorem wordBytes_walk (s : ByteArray) (hs : s.size ≤ maxLen) (w : World) :
    Calls Try.prog 6 #[.string s] w (TrueS w) := by
  unfold maxLen at hs
  by_cases h40 : s.size ≤ 40
  · obtain ⟨q, hq⟩ : ∃ q : ByteArray, q = ⟨(W.quoteL s.data.toList).toArray⟩ := ⟨_, rfl⟩
    have hql : q.data.toList = W.quoteL s.data.toList := by rw [hq]
    have hlen := W.quote_len s.data.toList
    have hpos := W.quote_pos s.data.toList
    rw [← hql, ← Lib.size_eq, ← Lib.size_eq] at hlen
    rw [← hql, ← Lib.size_eq] at hpos
    have hl2 : q.size ≤ 162 := by omega
    have hne : (q.toList.isEmpty) = false := by
      rw [Lib.toList_data]
      cases hd : q.data.toList with
      | nil => rw [Lib.size_eq, hd] at hpos; simp at hpos
      | cons _ _ => rfl
    have HB : Hid (∀ k (h : k < q.size), 32 ≤ q[k].toNat ∧ q[k].toNat ≤ 126 ∧ (q[k].toNat = 34 → 0 < k → k < q.size - 1 → (q[k - 1]'(by omega)).toNat = 92)) := by
      intro k h
      have hk : q.data.toList[k]? = some q[k] := by rw [List.getElem?_eq_getElem (by rw [← Lib.size_eq]; exact h)]; rfl
      have hm := W.quote_bytes s.data.toList q[k] (by rw [← hql]; exact List.mem_of_getElem? hk)
      refine ⟨hm.1, hm.2, fun h34 h0 h1 => ?_⟩
      rw [hql] at hk
      have hin := W.quote_inside s.data.toList k q[k] hk h34 h0 (by rw [← hql, ← Lib.size_eq]; exact h1)
      rw [← hql, List.getElem?_eq_getElem (by rw [← Lib.size_eq]; omega)] at hin
      injection hin with hin
      have : q[k - 1]'(by omega) = 92 := hin
      rw [this]; rfl
    have hhd : (q[0].toNat = 34) ↔ W.bareL s.data.toList = false := by
      rw [← W.quote_head, ← hql, W.head_at q hpos]
      exact (W.byte_eq (n := 34) (by omega)).symm
    have hpl : W.plainL s.data.toList = W.bareL s.data.toList := by
      unfold W.plainL
      have : decide (s.data.toList.length ≤ 40) = true := by rw [← Lib.size_eq]; exact decide_eq_true h40
      rw [this, Bool.true_and]
    have h1 : Calls Try.prog 10 #[.string s] w fun e w' => e = .returned (.tuple #[.string q, .int .i64 0]) ∧ Below w.heap.size w w' :=
      (quote_is s q.data.toList w h40 hql.symm).mono fun e w' ⟨he, hb⟩ => ⟨by rw [he, Lib.mk_data], hb⟩
    have H1 := Lib.hid h1
    have HP := Lib.hid hpl
    have HH := Lib.hid hhd
    have hq0 : (0 : Int) < q.size := by omega
    clear h1 hql hq hpl hhd hlen
    go_enter Try.func6, Try.ntmps6
    go_wp2_with fail
    refine H1.out.mono ?_
    rintro e w1 ⟨rfl, hb1⟩
    go_wp2
    go_loop [23, 5] (fun i _ => ∃ k : Nat, k ≤ q.size ∧ i = .int .i64 k) (fun i _ => q.size - (intOf i).toNat)
    case atStart => exact ⟨0, Nat.zero_le _, rfl⟩
    case round =>
      obtain ⟨k, hk, rfl⟩ := hrel
      by_cases hlt : k < q.size
      · have hB := HB.out k hlt
        have g1 : (32 : Int) ≤ q[k].toNat := by omega
        have g2 : (q[k].toNat : Int) ≤ 126 := by omega
        by_cases h34 : q[k].toNat = 34
        · have b34 : ((q[k].toNat : Int) == 34) = true := by simp; omega
          by_cases h0 : 0 < k
          · by_cases h9 : k < q.size - 1
            · obtain ⟨j, rfl⟩ : ∃ j, k = j + 1 := ⟨k - 1, by omega⟩
              have hz := hB.2.2 h34 h0 h9
              have hjl : j < q.size := by omega
              have b92 : ((q[j].toNat : Int) != 92) = false := by
                have e : q[j].toNat = 92 := hz
                simp; omega
              have HZ := Lib.hid hz
              clear hz h34 hB
              go_wp2
              go_round
              case rel => exact ⟨j + 1 + 1, by omega, by go_num⟩
              case measure => simp [intOf]; omega
            · clear h34 hB
              go_wp2
              go_round
              case rel => exact ⟨k + 1, by omega, by go_num⟩
              case measure => simp [intOf]; omega
          · clear h34 hB
            obtain rfl : k = 0 := by omega
            go_wp2
            go_round
            case rel => exact ⟨0 + 1, by omega, by go_num⟩
            case measure => simp [intOf]; omega
        · have b34 : ((q[k].toNat : Int) == 34) = false := by simp; omega
          clear h34 hB
          go_wp2
          go_round
          case rel => exact ⟨k + 1, by omega, by go_num⟩
          case measure => simp [intOf]; omega
      · cases hbr : W.bareL s.data.toList with
        | true =>
          have b34 : ((q[0].toNat : Int) == 34) = false := by
            have : ¬ q[0].toNat = 34 := fun h => by have := HH.out.1 h; rw [hbr] at this; cases this
            simp; omega
          have hpl : W.plainL s.data.toList = true := by rw [HP.out]; exact hbr
          clear hbr
          go_wp2
          go_region_with (first | (go_at_call 11; refine (plain_any _ _ (by omega)).mono ?_; rintro e w' ⟨rfl, rfl⟩) | (go_at_call 9; refine (awake_any _).mono ?_; rintro e w2 ⟨rfl, hb2⟩))
          all_goals
            go_wp2
            go_ret
            exact ⟨rfl, bthen hb1 (Below.trans (Below.drew (Below.refl _ _)) hb2)⟩
        | false =>
          have b34 : ((q[0].toNat : Int) == 34) = true := by have := HH.out.2 hbr; simp; omega
          have hpl : W.plainL s.data.toList = false := by rw [HP.out]; exact hbr
          clear hbr
          go_wp2
          go_region_with (first | (go_at_call 11; refine (plain_any _ _ (by omega)).mono ?_; rintro e w' ⟨rfl, rfl⟩) | (go_at_call 9; refine (awake_any _).mono ?_; rintro e w2 ⟨rfl, hb2⟩))
          all_goals
            go_wp2
            go_ret
            exact ⟨rfl, bthen hb1 (Below.trans (Below.drew (Below.refl _ _)) hb2)⟩
  · go_enter Try.func6, Try.ntmps6
    go_wp2_with fail
    refine (awake_any _).mono ?_
    rintro e w1 ⟨rfl, hb1⟩
    go_wp2
    go_ret
    exact ⟨rfl, hb1⟩
end Go.Proofs.Ytfjdfjbbgfehaaa
