/-
  The walk of layer 6's statement LinesRows: it returns true whatever the lines are. No conditions.
-/
import Derived.Test.YtdohnbdhloknnaaLinesBackWalk
namespace Go.Proofs.Ytdohnbdhloknnaa
open Go.RowKit
set_option linter.unusedVariables false

theorem tensB_next (q : ByteArray) (k : Nat) (h : k < q.size) : S.tens (q.data.toList.take (k + 1)) = S.tens (q.data.toList.take k) + if q[k].toNat = 10 then 1 else 0 := by
  have hsz : q.data.toList.length = q.size := (Lib.size_eq q).symm
  have hk : k < q.data.toList.length := by rw [hsz]; exact h
  rw [List.take_succ_eq_append_getElem hk, S.tens_app]
  congr 1
  have e : q.data.toList[k] = q[k] := rfl
  rw [e]
  unfold S.tens
  by_cases h10 : q[k].toNat = 10
  · simp [h10]
  · simp [h10]
theorem markN_le {t : List T.Ln} (h : T.RightT t) : ∀ k, k ≤ t.length → S.markN t k ≤ 2 * k
  | 0, _ => Nat.zero_le _
  | k + 1, hk => by
    have ih := markN_le h k (by omega)
    have hm := h.mark k (by omega)
    have e : S.markN t (k + 1) = S.markN t k + ((T.at_ t k).mark % 2 + (T.at_ t k).mark / 2).toNat := rfl
    rw [e]
    omega
theorem ltextQ_is (A : Option Addr) (c : Nat) (t : List T.Ln) (q : ByteArray) (w : World) (hA : Seen eL w A t) (hR : T.RightT t) (h : (⟨(S.cmdsT t).toArray⟩ : ByteArray) = q) :
    Calls Try.prog 16 #[.slice A t.length c] w (fun e w' => e = .returned (.tuple #[.string q, .int .i64 0]) ∧ Below w.heap.size w w') := by subst h; exact linesText_yes A c t w hA hR
set_option maxRecDepth 100000 in
set_option maxHeartbeats 2000000 in
theorem linesRows_walk (w : World) (A : Option Addr) (c : Nat) (t : List T.Ln) (hc : t.length ≤ c) (hA : Seen eL w A t) (hl : t.length ≤ maxLen) (nk : NilOk A c) :
    Calls Try.prog 9 #[.slice A t.length c] w (TrueS w) := by
  unfold maxLen at hl
  have HA := Lib.hid hA
  clear hA
  have hb : Below w.heap.size w w := Below.refl _ _
  go_enter Try.func9, Try.ntmps9
  go_wp2_with fail
  refine (small_is A c t _ HA.out).mono ?_
  rintro e wx1 ⟨bs, rfl, hsm, hx⟩
  replace HA := Lib.hid (HA.out.below hx)
  replace hb := bthen hb hx
  clear hx
  cases bs with
  | false =>
    clear hsm
    go_wp2_with fail
    refine (awake_any _).mono ?_
    rintro e wz ⟨rfl, hx⟩
    go_wp2
    go_ret
    exact ⟨rfl, bthen hb hx⟩
  | true =>
    replace hsm := hsm rfl
    have hll : t.length ≤ 1073741824 := by omega
    by_cases h60 : 60 < t.length
    · have b60 : decide ((60 : Int) < (t.length : Int)) = true := decide_eq_true (by omega)
      have b61 : decide (60 < t.length) = true := decide_eq_true h60
      go_wp2_with fail
      refine (awake_any _).mono ?_
      rintro e wz ⟨rfl, hx⟩
      go_wp2
      go_ret
      exact ⟨rfl, bthen hb hx⟩
    · have b60 : decide ((60 : Int) < (t.length : Int)) = false := decide_eq_false (by omega)
      have b61 : decide (60 < t.length) = false := decide_eq_false h60
      replace h60 : t.length ≤ 60 := by omega
      by_cases hR : T.RightT t
      · have HR := Lib.hid hR
        obtain ⟨q, hq⟩ : ∃ q : ByteArray, (⟨(S.cmdsT t).toArray⟩ : ByteArray) = q := ⟨_, rfl⟩
        obtain ⟨K, hK⟩ : ∃ K, T.leavesL t = K := ⟨_, rfl⟩
        have hKl : K.length ≤ 60 := by rw [← hK]; exact Nat.le_trans (T.filter_len t.length (T.leafB t)) h60
        have hqd : q.data.toList = S.cmdsT t := by rw [← hq]
        have hqs : q.size ≤ 2000000 := by
          have := cmds_len hR
          rw [← hqd] at this
          rwa [← Lib.size_eq] at this
        have htot := S.tens_cmds hR
        rw [← hqd, hK] at htot
        have HTOT := Lib.hid (show S.tens (q.data.toList.take q.size) = K.length + S.markN t t.length by rw [List.take_of_length_le (by rw [← Lib.size_eq]; exact Nat.le_refl _)]; exact htot)
        have HN := Lib.hid (fun k (h : k < q.size) => tensB_next q k h)
        have HQ := Lib.hid hq
        have HK := Lib.hid hK
        clear hR hq hK hqd htot
        go_wp2_with fail
        refine (ltextQ_is A c t q _ HA.out HR.out HQ.out).mono ?_
        rintro e wx2 ⟨rfl, hx⟩
        replace HA := Lib.hid (HA.out.below hx)
        replace hb := bthen hb hx
        clear hx
        go_wp2_with fail
        refine (leaves_is A c t K _ HA.out hll HR.out HK.out).mono ?_
        rintro e wx3 ⟨BK, cK, rfl, _, _, hx⟩
        replace HA := Lib.hid (HA.out.below hx)
        replace hb := bthen hb hx
        clear hx
        go_wp2
        go_loopg [5, 36] q.size (fun gk v x wr => ∃ k m : Nat, Hid (k + gk = q.size) ∧ k ≤ q.size ∧ x = .int .i64 k ∧ v = .int .i64 m ∧ m ≤ k ∧ Hid (S.tens (q.data.toList.take k) = m) ∧ Below w.heap.size w wr ∧ Hid (Seen eL wr A t))
        case atStart => exact ⟨0, 0, Nat.zero_add _, Nat.zero_le _, rfl, rfl, Nat.le_refl _, rfl, hb, HA⟩
        case round =>
          obtain ⟨k, m, HG, hk, rfl, rfl, hmk, HM, hb, HA⟩ := hrel
          by_cases hlt : k < q.size
          · have blt : decide (k < q.size) = true := decide_eq_true hlt
            have hn := HN.out k hlt
            rw [HM.out] at hn
            have hgk := HG.out
            by_cases h10 : q[k].toNat = 10
            · have b10 : ((q[k].toNat : Int) == 10) = true := by simp; omega
              rw [if_pos h10] at hn
              have HN2 := Lib.hid hn
              clear h10 hn
              go_wp2
              go_roundg (q.size - (k + 1))
              case rel => exact ⟨k + 1, m + 1, (by show _ = _; omega), by omega, by go_num, by go_num, by omega, HN2, hb, HA⟩
              case measure => omega
            · have b10 : ((q[k].toNat : Int) == 10) = false := by simp; omega
              rw [if_neg h10] at hn
              have HN2 := Lib.hid hn
              clear h10 hn
              go_wp2
              go_roundg (q.size - (k + 1))
              case rel => exact ⟨k + 1, m, (by show _ = _; omega), by omega, by go_num, by go_num, by omega, HN2, hb, HA⟩
              case measure => omega
          · have blt : decide (k < q.size) = false := decide_eq_false hlt
            have hko : k = q.size := by omega
            have HRW := Lib.hid (show m = K.length + S.markN t t.length by rw [← HM.out, hko]; exact HTOT.out)
            clear HM HN hko
            go_wp2
            go_loopg [6, 48] t.length (fun gk v x wr => ∃ j r : Nat, Hid (j + gk = t.length) ∧ j ≤ t.length ∧ x = .int .i64 j ∧ v = .int .i64 r ∧ Hid (r = K.length + S.markN t j) ∧ Below w.heap.size w wr ∧ Hid (Seen eL wr A t))
            case atStart => exact ⟨0, K.length, Nat.zero_add _, Nat.zero_le _, rfl, rfl, rfl, hb, HA⟩
            case round =>
              obtain ⟨j, r, HG, hj, rfl, rfl, HM, hb, HA⟩ := hrel
              have hrb : r ≤ 200 := by have h1 := HM.out; have h2 := markN_le HR.out j hj; omega
              by_cases hlt2 : j < t.length
              · have blt2 : decide (j < t.length) = true := decide_eq_true hlt2
                obtain ⟨b, o, rfl, hbw, hH⟩ := HA.out.lines (by omega)
                obtain ⟨c0, c1, c2⟩ := hH.line hlt2
                obtain ⟨d, hd⟩ : ∃ d, T.dp t j = d := ⟨_, rfl⟩
                obtain ⟨y, hy⟩ : ∃ y, T.wd t j = y := ⟨_, rfl⟩
                obtain ⟨m2, hm2⟩ : ∃ m2, (T.at_ t j).mark = m2 := ⟨_, rfl⟩
                have hm03 := HR.out.mark j hlt2
                have HMK := Lib.hid (show S.markN t (j + 1) = S.markN t j + (m2 % 2 + m2 / 2).toNat by rw [← hm2]; rfl)
                rw [hd] at c0
                rw [hy] at c1
                rw [hm2] at c2 hm03
                have hm4 : m2 = 0 ∨ m2 = 1 ∨ m2 = 2 ∨ m2 = 3 := by omega
                have HBA := Lib.hid (hb.alloc hb.size (lnO ⟨d, y, m2⟩))
                have HAA := Lib.hid (HA.out.below (up wr (lnO ⟨d, y, m2⟩)))
                have hgk := HG.out
                simp only [lnO] at HBA HAA
                clear hH hd hy hm2 hm03 hb
                rcases hm4 with rfl | rfl | rfl | rfl
                · have ba : bits BinOp.and IntKind.i64 0 1 = 0 := by decide +kernel
                  go_wp2
                  go_roundg (t.length - (j + 1))
                  case rel => exact ⟨j + 1, r + 0, (by show _ = _; omega), by omega, by go_num, by go_num, (by show _ = _; have h1 := HM.out; have h2 := HMK.out; rw [h2, h1, Nat.add_assoc]; rfl), HBA.out, HAA⟩
                  case measure => omega
                · have ba : bits BinOp.and IntKind.i64 1 1 = 1 := by decide +kernel
                  go_wp2
                  go_roundg (t.length - (j + 1))
                  case rel => exact ⟨j + 1, r + 1, (by show _ = _; omega), by omega, by go_num, by go_num, (by show _ = _; have h1 := HM.out; have h2 := HMK.out; rw [h2, h1, Nat.add_assoc]; rfl), HBA.out, HAA⟩
                  case measure => omega
                · have ba : bits BinOp.and IntKind.i64 2 1 = 0 := by decide +kernel
                  go_wp2
                  go_roundg (t.length - (j + 1))
                  case rel => exact ⟨j + 1, r + 1, (by show _ = _; omega), by omega, by go_num, by go_num, (by show _ = _; have h1 := HM.out; have h2 := HMK.out; rw [h2, h1, Nat.add_assoc]; rfl), HBA.out, HAA⟩
                  case measure => omega
                · have ba : bits BinOp.and IntKind.i64 3 1 = 1 := by decide +kernel
                  go_wp2
                  go_roundg (t.length - (j + 1))
                  case rel => exact ⟨j + 1, r + 2, (by show _ = _; omega), by omega, by go_num, by go_num, (by show _ = _; have h1 := HM.out; have h2 := HMK.out; rw [h2, h1, Nat.add_assoc]; rfl), HBA.out, HAA⟩
                  case measure => omega
              · have blt2 : decide (j < t.length) = false := decide_eq_false hlt2
                have hjo : j = t.length := by omega
                have hrm : r = m := by rw [HM.out, HRW.out, hjo]
                subst hrm
                clear hjo
                go_wp2_with fail
                refine (awake_any _).mono ?_
                rintro e wz ⟨rfl, hx⟩
                go_wp2
                go_ret
                exact ⟨rfl, bthen hb hx⟩
      · have HR := Lib.hid hR
        clear hR
        go_wp2_with fail
        refine (linesText_no A c t _ HA.out hll HR.out).mono ?_
        rintro e wx2 ⟨rfl, hx⟩
        replace HA := Lib.hid (HA.out.below hx)
        replace hb := bthen hb hx
        clear hx
        go_wp2_with fail
        refine (awake_any _).mono ?_
        rintro e wz ⟨rfl, hx⟩
        go_wp2
        go_ret
        exact ⟨rfl, bthen hb hx⟩
end Go.Proofs.Ytdohnbdhloknnaa
