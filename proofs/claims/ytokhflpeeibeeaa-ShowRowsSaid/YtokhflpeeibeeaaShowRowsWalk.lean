/-
  The walk of layer 4's statement ShowRows: it returns true whatever the lines are. No conditions.
-/
import Derived.Test.YtokhflpeeibeeaaShowBytesWalk
namespace Go.Proofs.Ytokhflpeeibeeaa
open Go.RowKit

theorem tens_next (l : List UInt8) (k : Nat) (h : k < l.length) : S.tens (l.take (k + 1)) = S.tens (l.take k) + if l[k].toNat = 10 then 1 else 0 := by
  rw [List.take_succ_eq_append_getElem h, S.tens_app]
  congr 1
  unfold S.tens
  by_cases h10 : l[k].toNat = 10
  · simp [h10]
  · simp [h10]
/-- What a tree's text has at its bytes 10. -/
theorem rows_bytes {t : List T.Ln} (hR : T.RightT t) (q : ByteArray) (hq : q.data.toList = S.textL t) :
    (∀ k (h : k < q.size), q[k].toNat = 10 → ∃ j, k = j + 1 ∧ ∀ h2 : j < q.size, q[j].toNat = 59 ∨ q[j].toNat = 123 ∨ q[j].toNat = 125) ∧
    (∀ k (h : k < q.size), S.tens (q.data.toList.take (k + 1)) = S.tens (q.data.toList.take k) + if q[k].toNat = 10 then 1 else 0) ∧
    (∀ j (h : j < q.size), j + 1 = q.size → q[j].toNat = 10) ∧ S.tens (q.data.toList.take q.size) + (T.leavesL t).length = 2 * t.length := by
  obtain ⟨n, hn, hnl⟩ := S.RightT.rows_text hR
  rw [← hq] at hn
  have hsz : q.data.toList.length = q.size := (Lib.size_eq q).symm
  have at_ : ∀ k (h : k < q.size), q.data.toList[k]? = some q[k] := fun k h => by rw [List.getElem?_eq_getElem (by rw [hsz]; exact h)]; rfl
  refine ⟨fun k h h10 => ?_, fun k h => ?_, fun j h hj => ?_, ?_⟩
  · obtain ⟨h0, c, hc, hcc⟩ := hn.prev k q[k] (at_ k h) h10
    refine ⟨k - 1, by omega, fun h2 => ?_⟩
    rw [at_ (k - 1) h2] at hc
    injection hc with hc
    rw [hc]; exact hcc
  · rw [tens_next _ k (by rw [hsz]; exact h)]; rfl
  · have hne : q.data.toList ≠ [] := by intro e; rw [e] at hsz; simp at hsz; omega
    have hl := hn.last hne
    rw [List.getLast?_eq_getElem?, hsz, show q.size - 1 = j by omega, at_ j h] at hl
    injection hl with hl
    rw [hl]; rfl
  · rw [List.take_of_length_le (by rw [hsz]; exact Nat.le_refl _), hn.tens, ← T.leafN_all]; exact hnl

set_option maxRecDepth 100000 in
set_option maxHeartbeats 2000000 in
theorem showRows_walk (w : World) (A : Option Addr) (c : Nat) (t : List T.Ln) (_hc : t.length ≤ c) (hA : Seen eL w A t) (hl : t.length ≤ maxLen) :
    Calls Try.prog 6 #[.slice A t.length c] w (TrueS w) := by
  unfold maxLen at hl
  have HA := Lib.hid hA
  clear hA
  have hb : Below w.heap.size w w := Below.refl _ _
  go_enter Try.func6, Try.ntmps6
  go_wp2_with fail
  refine (small_is A c t _ HA.out).mono ?_
  rintro e wx1 ⟨bs, rfl, hsm, hx⟩
  replace HA := Lib.hid (HA.out.below hx)
  replace hb := bthen hb hx
  clear hx
  cases bs with
  | false =>
    clear hsm
    go_wp2_with fail
    refine (awake_any _).mono ?_
    rintro e wz ⟨rfl, hx⟩
    go_wp2
    go_ret
    exact ⟨rfl, bthen hb hx⟩
  | true =>
    replace hsm := hsm rfl
    have hll : t.length ≤ 1073741824 := by omega
    by_cases hR : T.RightT t
    · have HR := Lib.hid hR
      clear hR
      obtain ⟨q, hqd, hq, _, hT⟩ := text_bytes t hll
      replace hqd : q.data.toList = S.textL t := hqd.elim (·.2) (fun h => absurd HR.out h.1)
      obtain ⟨hP, hN, hL, hC⟩ := rows_bytes HR.out q hqd
      have h200 := HR.out.len
      have HP := Lib.hid hP
      have HN := Lib.hid hN
      have HL := Lib.hid hL
      have HT := Lib.hid hT
      obtain ⟨N, hNe⟩ : ∃ N, S.tens (q.data.toList.take q.size) = N := ⟨_, rfl⟩
      obtain ⟨K, hK⟩ : ∃ K, T.leavesL t = K := ⟨_, rfl⟩
      rw [hNe, hK] at hC
      have hNq : N ≤ 201000 := by
        rw [← hNe]; unfold S.tens
        exact Nat.le_trans (List.length_filter_le _ _) (by rw [List.length_take, ← Lib.size_eq]; omega)
      have HNe := Lib.hid hNe
      have HK := Lib.hid hK
      clear hP hN hL hT hqd hNe hK
      go_wp2_with fail
      refine (HT.out A c _ HA.out).mono ?_
      rintro e wx2 ⟨⟨er, rfl, her⟩, hx⟩
      obtain rfl : er = 0 := her.elim (·.1) (fun h => absurd HR.out h.2)
      replace HA := Lib.hid (HA.out.below hx)
      replace hb := bthen hb hx
      clear hx her
      go_wp2
      go_loopg [5, 25] q.size (fun g v x wr => ∃ k m : Nat, k + g = q.size ∧ x = .int .i64 k ∧ v = .int .i64 m ∧ m ≤ k ∧ Hid (S.tens (q.data.toList.take k) = m) ∧ wx2 = wr)
      case atStart => exact ⟨0, 0, Nat.zero_add _, rfl, rfl, Nat.le_refl _, rfl, rfl⟩
      case round =>
        obtain ⟨k, m, hg, rfl, rfl, hmk, HM, rfl⟩ := hrel
        have HG := Lib.hid hg
        clear hg
        by_cases hlt : k < q.size
        · have blt : decide (k < q.size) = true := decide_eq_true hlt
          have hN := HN.out k hlt
          rw [HM.out] at hN
          by_cases h10 : q[k].toNat = 10
          · have b10 : ((q[k].toNat : Int) == 10) = true := by simp; omega
            obtain ⟨j, rfl, hj⟩ := HP.out k hlt h10
            have hjl : j < q.size := by omega
            have hj2 := hj hjl
            rw [if_pos h10] at hN
            have HN2 := Lib.hid hN
            clear h10 hN hj
            by_cases h59 : q[j].toNat = 59
            · have b59 : ((q[j].toNat : Int) != 59) = false := by simp; omega
              clear hj2 h59
              go_wp2
              go_roundg (q.size - (j + 1 + 1))
              case rel => exact ⟨j + 1 + 1, m + 1, by have := HG.out; omega, by go_num, by go_num, by omega, HN2, rfl⟩
              case measure => have := HG.out; omega
            · have b59 : ((q[j].toNat : Int) != 59) = true := by simp; omega
              by_cases h123 : q[j].toNat = 123
              · have b123 : ((q[j].toNat : Int) != 123) = false := by simp; omega
                clear hj2 h59 h123
                go_wp2
                go_roundg (q.size - (j + 1 + 1))
                case rel => exact ⟨j + 1 + 1, m + 1, by have := HG.out; omega, by go_num, by go_num, by omega, HN2, rfl⟩
                case measure => have := HG.out; omega
              · have b123 : ((q[j].toNat : Int) != 123) = true := by simp; omega
                have b125 : ((q[j].toNat : Int) != 125) = false := by simp; omega
                clear hj2 h59 h123
                go_wp2
                go_roundg (q.size - (j + 1 + 1))
                case rel => exact ⟨j + 1 + 1, m + 1, by have := HG.out; omega, by go_num, by go_num, by omega, HN2, rfl⟩
                case measure => have := HG.out; omega
          · have b10 : ((q[k].toNat : Int) == 10) = false := by simp; omega
            rw [if_neg h10] at hN
            have HN2 := Lib.hid hN
            clear h10 hN
            go_wp2
            go_roundg (q.size - (k + 1))
            case rel => exact ⟨k + 1, m, by have := HG.out; omega, by go_num, by go_num, by omega, HN2, rfl⟩
            case measure => have := HG.out; omega
        · have blt : decide (k < q.size) = false := decide_eq_false hlt
          obtain rfl : k = q.size := by have := HG.out; omega
          obtain rfl : m = N := by rw [← HM.out, ← HNe.out]
          have bN : ((m : Int) == 2 * (t.length : Int) - (K.length : Int)) = true := by simp; omega
          have hKl : K.length ≤ 400 := by omega
          go_wp2_with fail
          refine (leaves_is A c t K _ HA.out hll HR.out HK.out).mono ?_
          rintro e wx3 ⟨B3, cap3, rfl, hcap3, hseen, hx⟩
          replace hb := bthen hb hx
          clear hx hseen
          by_cases hz : q.size = 0
          · have bz : (q.toList.isEmpty) = true := by
              rw [Lib.toList_data]
              cases hd : q.data.toList with
              | nil => rfl
              | cons _ _ => rw [Lib.size_eq, hd] at hz; simp at hz
            clear hz
            go_wp2_with fail
            refine (awake_any _).mono ?_
            rintro e wz ⟨rfl, hx⟩
            go_wp2
            go_ret
            exact ⟨rfl, bthen hb hx⟩
          · have bz : (q.toList.isEmpty) = false := by
              rw [Lib.toList_data]
              cases hd : q.data.toList with
              | nil => rw [Lib.size_eq, hd] at hz; simp at hz
              | cons _ _ => rfl
            obtain ⟨j, hj⟩ : ∃ j, q.size = j + 1 := ⟨q.size - 1, by omega⟩
            have hjl : j < q.size := by omega
            have h10 := HL.out j hjl hj.symm
            have b10 : ((q[j].toNat : Int) == 10) = true := by simp; omega
            have hjn : (q.size : Int) - 1 = (j : Int) := by omega
            clear hz h10
            go_wp2_with fail
            refine (awake_any _).mono ?_
            rintro e wz ⟨rfl, hx⟩
            go_wp2
            go_ret
            exact ⟨rfl, bthen hb hx⟩
    · have HR := Lib.hid hR
      clear hR
      go_wp2_with fail
      refine (text_no A c t _ HA.out hll HR.out).mono ?_
      rintro e wx2 ⟨rfl, hx⟩
      replace hb := bthen hb hx
      clear hx
      go_wp2_with fail
      refine (awake_any _).mono ?_
      rintro e wz ⟨rfl, hx⟩
      go_wp2
      go_ret
      exact ⟨rfl, bthen hb hx⟩
end Go.Proofs.Ytokhflpeeibeeaa
