/-
  Contract of the document's gap (layer 2): where what is left off ends; the world is as it was. Condition: strings of at most 2^30 bytes.
-/
import Derived.Test.YtccbdogfapiidaaLexAwake
import Derived.Test.YtccbdogfapiidaaLexPure7
namespace Go.Proofs.Ytccbdogfapiidaa
open Go.RowKit

def gapI (k : Nat) (o : Option Nat) : Int := match o with | none => -1 | some n => ((k + n : Nat) : Int)

set_option maxRecDepth 100000 in
set_option maxHeartbeats 4000000 in
theorem gapR_any (s : ByteArray) (k0 : Nat) (w : World) (hs : s.size ≤ 1073741824) (hk0 : k0 ≤ s.size) :
    Calls Try.prog 22 #[.string s, .int .i64 k0] w fun e w' => e = .returned (.int .i64 (gapI k0 (W.gapD (s.data.toList.drop k0)))) ∧ w = w' := by
  go_enter Try.func22, Try.ntmps22
  go_wp2
  go_loopg [1] (s.size - k0) (fun g i wr => ∃ k : Nat, i = .int .i64 k ∧ Hid (k + g = s.size) ∧ k0 ≤ k ∧ k ≤ s.size ∧ Hid (W.GapAt s k0 k) ∧ w = wr)
  case atStart => exact ⟨k0, rfl, (by show _ = _; omega), Nat.le_refl _, hk0, W.GapAt.start s k0 hk0, rfl⟩
  case round =>
    obtain ⟨k, rfl, HG, hkk, hks, HA, rfl⟩ := hrel
    obtain ⟨go, rfl⟩ : ∃ go : Nat, go = gk := ⟨_, rfl⟩
    by_cases hlt : k < s.size
    · cases hbl : W.blankB s[k] with
      | true =>
        have HN := Lib.hid (HA.out.skip (n := 0) (W.gap_blank s k hlt hbl))
        have h4 := W.blank_is4 hbl
        clear hbl
        rcases h4 with h | h | h | h
        · have g32 : ((s[k].toNat : Int) == 32) = true := by simp; omega
          clear h
          go_wp2
          go_roundg (s.size - (k + 1))
          case rel => exact ⟨k + 1, by go_num, (by show _ = _; omega), by omega, by omega, HN, rfl⟩
          case measure => have := HG.out; omega
        · have g32 : ((s[k].toNat : Int) == 32) = false := by simp; omega
          have g9 : ((s[k].toNat : Int) == 9) = true := by simp; omega
          clear h
          go_wp2
          go_roundg (s.size - (k + 1))
          case rel => exact ⟨k + 1, by go_num, (by show _ = _; omega), by omega, by omega, HN, rfl⟩
          case measure => have := HG.out; omega
        · have g32 : ((s[k].toNat : Int) == 32) = false := by simp; omega
          have g9 : ((s[k].toNat : Int) == 9) = false := by simp; omega
          have g10 : ((s[k].toNat : Int) == 10) = true := by simp; omega
          clear h
          go_wp2
          go_roundg (s.size - (k + 1))
          case rel => exact ⟨k + 1, by go_num, (by show _ = _; omega), by omega, by omega, HN, rfl⟩
          case measure => have := HG.out; omega
        · have g32 : ((s[k].toNat : Int) == 32) = false := by simp; omega
          have g9 : ((s[k].toNat : Int) == 9) = false := by simp; omega
          have g10 : ((s[k].toNat : Int) == 10) = false := by simp; omega
          have g13 : ((s[k].toNat : Int) == 13) = true := by simp; omega
          clear h
          go_wp2
          go_roundg (s.size - (k + 1))
          case rel => exact ⟨k + 1, by go_num, (by show _ = _; omega), by omega, by omega, HN, rfl⟩
          case measure => have := HG.out; omega
      | false =>
        have h4 := W.blank_not4 hbl
        have HB := Lib.hid hbl
        have b32 : ((s[k].toNat : Int) == 32) = false := by simp; omega
        have b9 : ((s[k].toNat : Int) == 9) = false := by simp; omega
        have b10 : ((s[k].toNat : Int) == 10) = false := by simp; omega
        have b13 : ((s[k].toNat : Int) == 13) = false := by simp; omega
        clear hbl h4
        by_cases h35 : s[k].toNat = 35
        · have b35 : ((s[k].toNat : Int) == 35) = true := by simp; omega
          have H35 := Lib.hid h35
          clear h35
          go_wp2
          go_loopg [1] (s.size - k) (fun g i wx => ∃ j : Nat, i = .int .i64 j ∧ k ≤ j ∧ j ≤ s.size ∧ Hid (W.Lined s k j) ∧ Hid (j + g = s.size) ∧ w = wx)
          case atStart => exact ⟨k, rfl, Nat.le_refl _, hks, W.Lined.start s k hks, (by show _ = _; omega), rfl⟩
          case round =>
            obtain ⟨j, rfl, hkj, hjs, HL, HJ, rfl⟩ := hrel
            by_cases hjl : j < s.size
            · by_cases h10 : s[j].toNat = 10
              · have n10 : ((s[j].toNat : Int) != 10) = false := by simp; omega
                have HN := Lib.hid (HA.out.line hlt HB.out H35.out hkj (HL.out.stop hjl h10))
                have HK := Lib.hid (line_gt H35.out h10 hkj)
                clear h10
                go_wp2
                go_roundg (s.size - j)
                case rel => exact ⟨j, rfl, (by show _ = _; omega), by omega, by omega, HN, rfl⟩
                case measure => have := HG.out; have := HK.out; omega
              · have n10 : ((s[j].toNat : Int) != 10) = true := by simp; omega
                have HN := Lib.hid (HL.out.next hjl h10)
                clear h10
                go_wp2
                go_roundg (s.size - (j + 1))
                case rel => exact ⟨j + 1, by go_num, by omega, by omega, HN, (by show _ = _; omega), rfl⟩
                case measure => have := HJ.out; omega
            · have HN := Lib.hid (HA.out.line hlt HB.out H35.out hkj (HL.out.over (by omega)))
              go_wp2
              go_roundg (s.size - j)
              case rel => exact ⟨j, rfl, (by show _ = _; omega), by omega, by omega, HN, rfl⟩
              case measure => have := HG.out; omega
        · have b35 : ((s[k].toNat : Int) == 35) = false := by simp; omega
          have H35 := Lib.hid h35
          clear h35
          cases hp : Lib.hasPrefix (s.data.toList.drop k) [47, 42] with
          | false =>
            have HD := Lib.hid (HA.out.stop (W.gap_no s k hlt HB.out H35.out hp))
            by_cases hk1 : k + 1 < s.size
            · have hpa := W.pre2_at s k 47 42 hk1
              rw [hp] at hpa
              by_cases h47 : s[k].toNat = 47
              · have c47 : ((s[k].toNat : Int) == 47) = true := by simp; omega
                have c42 : ((s[k + 1].toNat : Int) == 42) = false := by
                  rw [h47] at hpa
                  have : ¬ s[k + 1].toNat = 42 := by simpa using hpa.symm
                  simp; omega
                clear hpa hp h47
                go_wp2
                go_ret
                refine ⟨?_, rfl⟩
                rw [HD.out]
                exact retI (by simp only [gapI]; omega)
              · have c47 : ((s[k].toNat : Int) == 47) = false := by simp; omega
                clear hpa hp h47
                go_wp2
                go_ret
                refine ⟨?_, rfl⟩
                rw [HD.out]
                exact retI (by simp only [gapI]; omega)
            · clear hp
              by_cases h47 : s[k].toNat = 47
              · have c47 : ((s[k].toNat : Int) == 47) = true := by simp; omega
                clear h47
                go_wp2
                go_ret
                refine ⟨?_, rfl⟩
                rw [HD.out]
                exact retI (by simp only [gapI]; omega)
              · have c47 : ((s[k].toNat : Int) == 47) = false := by simp; omega
                clear h47
                go_wp2
                go_ret
                refine ⟨?_, rfl⟩
                rw [HD.out]
                exact retI (by simp only [gapI]; omega)
          | true =>
            have hk2 := W.pre2_size s k 47 42 hp
            have hk1 : k + 1 < s.size := by omega
            have hpa := W.pre2_at s k 47 42 hk1
            rw [hp] at hpa
            have h47 : s[k].toNat = 47 ∧ s[k + 1].toNat = 42 := by simpa using hpa.symm
            have c47 : ((s[k].toNat : Int) == 47) = true := by simp; omega
            have c42 : ((s[k + 1].toNat : Int) == 42) = true := by simp; omega
            have HP := Lib.hid hp
            clear hpa hp h47
            go_wp2
            go_loopg [6] (s.size - (k + 2)) (fun g i wx => ∃ j : Nat, i = .int .i64 j ∧ k + 2 ≤ j ∧ j ≤ s.size ∧ Hid (W.Starred s (k + 2) j) ∧ Hid (j + g = s.size) ∧ w = wx)
            case atStart => exact ⟨k + 2, by go_num, Nat.le_refl _, hk2, W.Starred.start s (k + 2) hk2, (by show _ = _; omega), rfl⟩
            case round =>
              obtain ⟨j, rfl, hkj, hjs, HL, HJ, rfl⟩ := hrel
              by_cases hjl : j + 1 < s.size
              · cases hq : Lib.hasPrefix (s.data.toList.drop j) [42, 47] with
                | true =>
                  have hpa := W.pre2_at s j 42 47 hjl
                  rw [hq] at hpa
                  have h47 : s[j].toNat = 42 ∧ s[j + 1].toNat = 47 := by simpa using hpa.symm
                  have d42 : ((s[j].toNat : Int) == 42) = true := by simp; omega
                  have d47 : ((s[j + 1].toNat : Int) == 47) = true := by simp; omega
                  have HN := Lib.hid (HA.out.star hlt HB.out H35.out HP.out hkj (HL.out.stop hq))
                  clear hq hpa h47
                  go_wp2
                  go_roundg (s.size - (j + 2))
                  case rel => exact ⟨j + 2, by go_num, (by show _ = _; omega), by omega, by omega, HN, rfl⟩
                  case measure => have := HG.out; omega
                | false =>
                  have hpa := W.pre2_at s j 42 47 hjl
                  rw [hq] at hpa
                  have HN := Lib.hid (HL.out.next (by omega) hq)
                  clear hq
                  by_cases h42 : s[j].toNat = 42
                  · have d42 : ((s[j].toNat : Int) == 42) = true := by simp; omega
                    have d47 : ((s[j + 1].toNat : Int) == 47) = false := by
                      rw [h42] at hpa
                      have : ¬ s[j + 1].toNat = 47 := by simpa using hpa.symm
                      simp; omega
                    clear hpa h42
                    go_wp2
                    go_roundg (s.size - (j + 1))
                    case rel => exact ⟨j + 1, by go_num, by omega, by omega, HN, (by show _ = _; omega), rfl⟩
                    case measure => have := HJ.out; omega
                  · have d42 : ((s[j].toNat : Int) == 42) = false := by simp; omega
                    clear hpa h42
                    go_wp2
                    go_roundg (s.size - (j + 1))
                    case rel => exact ⟨j + 1, by go_num, by omega, by omega, HN, (by show _ = _; omega), rfl⟩
                    case measure => have := HJ.out; omega
              · have HD := Lib.hid (HA.out.unstar hlt HB.out H35.out HP.out (HL.out.ends (by omega)))
                go_wp2
                go_ret
                refine ⟨?_, rfl⟩
                rw [HD.out]
                rfl
    · have HD := Lib.hid (HA.out.over (by omega))
      go_wp2
      go_ret
      refine ⟨?_, rfl⟩
      rw [HD.out]
      exact retI (by simp only [gapI]; omega)
end Go.Proofs.Ytccbdogfapiidaa
