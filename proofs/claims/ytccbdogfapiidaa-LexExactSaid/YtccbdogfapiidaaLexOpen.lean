/-
  Contract of the document's open (layer 2): the place of a comment that does not end; the world is as it was. Conditions: strings of at most 2^30 bytes; there is one.
-/
import Derived.Test.YtccbdogfapiidaaLexGap
namespace Go.Proofs.Ytccbdogfapiidaa
open Go.RowKit

def OpenS (s : ByteArray) (k0 : Nat) (w : World) (e : Ending) (w' : World) : Prop := ∃ n : Nat, e = .returned (.int .i64 n) ∧ W.lexL k0 (s.data.toList.drop k0) = .bad n 2 ∧ w = w'

set_option maxRecDepth 100000 in
set_option maxHeartbeats 4000000 in
theorem openR_any (s : ByteArray) (k0 : Nat) (w : World) (hs : s.size ≤ 1073741824) (hn : W.gapD (s.data.toList.drop k0) = none) :
    Calls Try.prog 23 #[.string s, .int .i64 k0] w (OpenS s k0 w) := by
  have hk0 := W.gapD_none_lt hn
  have HO0 : Hid (W.OpenAt s k0 k0) := ⟨hn, rfl⟩
  clear hn
  go_enter Try.func23, Try.ntmps23
  go_wp2
  go_loopg [1] (s.size - k0) (fun g i wr => ∃ k : Nat, i = .int .i64 k ∧ Hid (k + g = s.size) ∧ k ≤ s.size ∧ Hid (W.OpenAt s k0 k) ∧ w = wr)
  case atStart => exact ⟨k0, rfl, (by show _ = _; omega), by omega, HO0, rfl⟩
  case round =>
    obtain ⟨k, rfl, HG, hks, HA, rfl⟩ := hrel
    obtain ⟨go, rfl⟩ : ∃ go : Nat, go = gk := ⟨_, rfl⟩
    go_wp2
    go_loopg [5] (s.size - k) (fun g i wx => ∃ j : Nat, i = .int .i64 j ∧ k ≤ j ∧ Hid (W.OpenAt s k0 j) ∧ Hid (j + g = s.size) ∧ w = wx)
    case atStart => exact ⟨k, rfl, Nat.le_refl _, HA, (by show _ = _; omega), rfl⟩
    case round =>
      obtain ⟨j, rfl, hkj, HB0, HJ, rfl⟩ := hrel
      have hjl := HB0.out.lt
      cases hbl : W.blankB s[j] with
      | true =>
        have HN := Lib.hid (HB0.out.skip (n := 0) (W.gap_blank s j hjl hbl))
        have h4 := W.blank_is4 hbl
        clear hbl
        rcases h4 with h | h | h | h
        · have g32 : ((s[j].toNat : Int) == 32) = true := by simp; omega
          clear h
          go_wp2
          go_roundg (s.size - (j + 1))
          case rel => exact ⟨j + 1, by go_num, by omega, HN, (by show _ = _; omega), rfl⟩
          case measure => have := HJ.out; omega
        · have g32 : ((s[j].toNat : Int) == 32) = false := by simp; omega
          have g9 : ((s[j].toNat : Int) == 9) = true := by simp; omega
          clear h
          go_wp2
          go_roundg (s.size - (j + 1))
          case rel => exact ⟨j + 1, by go_num, by omega, HN, (by show _ = _; omega), rfl⟩
          case measure => have := HJ.out; omega
        · have g32 : ((s[j].toNat : Int) == 32) = false := by simp; omega
          have g9 : ((s[j].toNat : Int) == 9) = false := by simp; omega
          have g10 : ((s[j].toNat : Int) == 10) = true := by simp; omega
          clear h
          go_wp2
          go_roundg (s.size - (j + 1))
          case rel => exact ⟨j + 1, by go_num, by omega, HN, (by show _ = _; omega), rfl⟩
          case measure => have := HJ.out; omega
        · have g32 : ((s[j].toNat : Int) == 32) = false := by simp; omega
          have g9 : ((s[j].toNat : Int) == 9) = false := by simp; omega
          have g10 : ((s[j].toNat : Int) == 10) = false := by simp; omega
          have g13 : ((s[j].toNat : Int) == 13) = true := by simp; omega
          clear h
          go_wp2
          go_roundg (s.size - (j + 1))
          case rel => exact ⟨j + 1, by go_num, by omega, HN, (by show _ = _; omega), rfl⟩
          case measure => have := HJ.out; omega
      | false =>
        have h4 := W.blank_not4 hbl
        have HB := Lib.hid hbl
        have b32 : ((s[j].toNat : Int) == 32) = false := by simp; omega
        have b9 : ((s[j].toNat : Int) == 9) = false := by simp; omega
        have b10 : ((s[j].toNat : Int) == 10) = false := by simp; omega
        have b13 : ((s[j].toNat : Int) == 13) = false := by simp; omega
        clear hbl h4 HJ
        by_cases h35 : s[j].toNat = 35
        · have b35 : ((s[j].toNat : Int) == 35) = true := by simp; omega
          have H35 := Lib.hid h35
          clear h35
          go_wp2
          go_loopg [5] (s.size - j) (fun g i wx => ∃ m : Nat, i = .int .i64 m ∧ j ≤ m ∧ Hid (W.Lined s j m) ∧ Hid (m + g = s.size) ∧ w = wx)
          case atStart => exact ⟨j, rfl, Nat.le_refl _, W.Lined.start s j (by omega), (by show _ = _; omega), rfl⟩
          case round =>
            obtain ⟨m, rfl, hjm, HL, HM, rfl⟩ := hrel
            obtain ⟨hml, hme⟩ := HB0.out.line hjl HB.out H35.out HL.out
            by_cases h10 : s[m].toNat = 10
            · have n10 : ((s[m].toNat : Int) != 10) = false := by simp; omega
              have hme2 := hme (W.lineRun_stop s m hml h10)
              have HN := Lib.hid hme2
              clear h10 hme hme2
              go_wp2
              go_roundg (s.size - m)
              case rel => exact ⟨m, rfl, (by show _ = _; omega), by omega, HN.out.2, rfl⟩
              case measure => have := HG.out; have := HN.out.1; omega
            · have n10 : ((s[m].toNat : Int) != 10) = true := by simp; omega
              have HN := Lib.hid (HL.out.next hml h10)
              clear h10 hme
              go_wp2
              go_roundg (s.size - (m + 1))
              case rel => exact ⟨m + 1, by go_num, by omega, HN, (by show _ = _; omega), rfl⟩
              case measure => have := HM.out; omega
        · have b35 : ((s[j].toNat : Int) == 35) = false := by simp; omega
          have HP := Lib.hid (HB0.out.prefix_ hjl HB.out h35)
          have H35 := Lib.hid h35
          clear h35
          have hk2 := W.pre2_size s j 47 42 HP.out
          go_wp2
          go_loopg [6] (s.size - (j + 2)) (fun g i wx => ∃ m : Nat, i = .int .i64 m ∧ j + 2 ≤ m ∧ m ≤ s.size ∧ Hid (W.Starred s (j + 2) m) ∧ Hid (m + g = s.size) ∧ w = wx)
          case atStart => exact ⟨j + 2, by go_num, Nat.le_refl _, hk2, W.Starred.start s (j + 2) hk2, (by show _ = _; omega), rfl⟩
          case round =>
            obtain ⟨m, rfl, hjm, hms, HL, HM, rfl⟩ := hrel
            by_cases hml : m + 1 < s.size
            · cases hq : Lib.hasPrefix (s.data.toList.drop m) [42, 47] with
              | true =>
                have hpa := W.pre2_at s m 42 47 hml
                rw [hq] at hpa
                have h47 : s[m].toNat = 42 ∧ s[m + 1].toNat = 47 := by simpa using hpa.symm
                have d42 : ((s[m].toNat : Int) == 42) = true := by simp; omega
                have d47 : ((s[m + 1].toNat : Int) == 47) = true := by simp; omega
                have HN := Lib.hid (HB0.out.star hjl HB.out H35.out HP.out hjm (HL.out.stop hq))
                clear hq hpa h47
                go_wp2
                go_roundg (s.size - (m + 2))
                case rel => exact ⟨m + 2, by go_num, (by show _ = _; omega), by omega, HN, rfl⟩
                case measure => have := HG.out; omega
              | false =>
                have hpa := W.pre2_at s m 42 47 hml
                rw [hq] at hpa
                have HN := Lib.hid (HL.out.next (by omega) hq)
                clear hq
                by_cases h42 : s[m].toNat = 42
                · have d42 : ((s[m].toNat : Int) == 42) = true := by simp; omega
                  have d47 : ((s[m + 1].toNat : Int) == 47) = false := by
                    rw [h42] at hpa
                    have : ¬ s[m + 1].toNat = 47 := by simpa using hpa.symm
                    simp; omega
                  clear hpa h42
                  go_wp2
                  go_roundg (s.size - (m + 1))
                  case rel => exact ⟨m + 1, by go_num, by omega, by omega, HN, (by show _ = _; omega), rfl⟩
                  case measure => have := HM.out; omega
                · have d42 : ((s[m].toNat : Int) == 42) = false := by simp; omega
                  clear hpa h42
                  go_wp2
                  go_roundg (s.size - (m + 1))
                  case rel => exact ⟨m + 1, by go_num, by omega, by omega, HN, (by show _ = _; omega), rfl⟩
                  case measure => have := HM.out; omega
            · have HD := Lib.hid (HB0.out.bad hjl HB.out H35.out HP.out (HL.out.ends (by omega)))
              go_wp2
              go_ret
              exact ⟨j, rfl, HD.out, rfl⟩
end Go.Proofs.Ytccbdogfapiidaa
