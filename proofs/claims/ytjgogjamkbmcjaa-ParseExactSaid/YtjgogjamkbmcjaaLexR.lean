/-
  Contracts of the statements' refs and of the document's Text (layer 2): the tokens as the document's, and their text. Conditions: at most 2^20 tokens; for Text, tokens as All makes them.
  Contract of the document's gap (layer 2): where what is left off ends; the world is as it was. Condition: strings of at most 2^30 bytes.
  Contract of the document's open (layer 2): the place of a comment that does not end; the world is as it was. Conditions: strings of at most 2^30 bytes; there is one.
  Contract of the document's All (layer 2): the tokens of a text, or the first error, are what the plain definitions say; below the heap's size at the call the world is as it was. Condition: strings of at most 2^30 bytes.
-/
import Derived.Test.YtjgogjamkbmcjaaLexAwake
import Derived.Test.YtjgogjamkbmcjaaPureW
import Derived.Test.YtjgogjamkbmcjaaWordR

namespace Go.Proofs.Ytjgogjamkbmcjaa
open Go.RowKit

theorem tokR_info : (Try.prog.info? 42).map (fun i => (i.zero, i.size, i.bytes)) = some (some zeroTok, 4, 40) := by kernel_rfl
/-- A slice value in its parts, that reads as the tokens l. -/
def ViewT (w : World) (A : Option Addr) (l : List W.Tok) : Prop := 0 < l.length → ∃ g, A = some ⟨g, 0, none⟩ ∧ HoldsT w g l

theorem bytT_app (a b : List UInt8) : (⟨a.toArray⟩ : ByteArray) ++ (⟨b.toArray⟩ : ByteArray) = ⟨(a ++ b).toArray⟩ := by
  apply ByteArray.ext; simp [ByteArray.data_append]
theorem bytT_size (a : List UInt8) : (⟨a.toArray⟩ : ByteArray).size = a.length := by show a.toArray.size = _; simp

end Go.Proofs.Ytjgogjamkbmcjaa

namespace Go.Proofs.Ytjgogjamkbmcjaa
open Go.RowKit

def gapI (k : Nat) (o : Option Nat) : Int := match o with | none => -1 | some n => ((k + n : Nat) : Int)

set_option maxRecDepth 100000 in
set_option maxHeartbeats 4000000 in
theorem gapR_any (s : ByteArray) (k0 : Nat) (w : World) (hs : s.size ≤ 1073741824) (hk0 : k0 ≤ s.size) :
    Calls Try.prog 35 #[.string s, .int .i64 k0] w fun e w' => e = .returned (.int .i64 (gapI k0 (W.gapD (s.data.toList.drop k0)))) ∧ w = w' := by
  go_enter Try.func35, Try.ntmps35
  go_wp2
  go_loopg [1] (s.size - k0) (fun g i wr => ∃ k : Nat, i = .int .i64 k ∧ Hid (k + g = s.size) ∧ k0 ≤ k ∧ k ≤ s.size ∧ Hid (W.GapAt s k0 k) ∧ w = wr)
  case atStart => exact ⟨k0, rfl, (by show _ = _; omega), Nat.le_refl _, hk0, W.GapAt.start s k0 hk0, rfl⟩
  case round =>
    obtain ⟨k, rfl, HG, hkk, hks, HA, rfl⟩ := hrel
    obtain ⟨go, rfl⟩ : ∃ go : Nat, go = gk := ⟨_, rfl⟩
    by_cases hlt : k < s.size
    · cases hbl : W.blankB s[k] with
      | true =>
        have HN := Lib.hid (HA.out.skip (n := 0) (W.gap_blank s k hlt hbl))
        have h4 := W.blank_is4 hbl
        clear hbl
        rcases h4 with h | h | h | h
        · have g32 : ((s[k].toNat : Int) == 32) = true := by simp; omega
          clear h
          go_wp2
          go_roundg (s.size - (k + 1))
          case rel => exact ⟨k + 1, by go_num, (by show _ = _; omega), by omega, by omega, HN, rfl⟩
          case measure => have := HG.out; omega
        · have g32 : ((s[k].toNat : Int) == 32) = false := by simp; omega
          have g9 : ((s[k].toNat : Int) == 9) = true := by simp; omega
          clear h
          go_wp2
          go_roundg (s.size - (k + 1))
          case rel => exact ⟨k + 1, by go_num, (by show _ = _; omega), by omega, by omega, HN, rfl⟩
          case measure => have := HG.out; omega
        · have g32 : ((s[k].toNat : Int) == 32) = false := by simp; omega
          have g9 : ((s[k].toNat : Int) == 9) = false := by simp; omega
          have g10 : ((s[k].toNat : Int) == 10) = true := by simp; omega
          clear h
          go_wp2
          go_roundg (s.size - (k + 1))
          case rel => exact ⟨k + 1, by go_num, (by show _ = _; omega), by omega, by omega, HN, rfl⟩
          case measure => have := HG.out; omega
        · have g32 : ((s[k].toNat : Int) == 32) = false := by simp; omega
          have g9 : ((s[k].toNat : Int) == 9) = false := by simp; omega
          have g10 : ((s[k].toNat : Int) == 10) = false := by simp; omega
          have g13 : ((s[k].toNat : Int) == 13) = true := by simp; omega
          clear h
          go_wp2
          go_roundg (s.size - (k + 1))
          case rel => exact ⟨k + 1, by go_num, (by show _ = _; omega), by omega, by omega, HN, rfl⟩
          case measure => have := HG.out; omega
      | false =>
        have h4 := W.blank_not4 hbl
        have HB := Lib.hid hbl
        have b32 : ((s[k].toNat : Int) == 32) = false := by simp; omega
        have b9 : ((s[k].toNat : Int) == 9) = false := by simp; omega
        have b10 : ((s[k].toNat : Int) == 10) = false := by simp; omega
        have b13 : ((s[k].toNat : Int) == 13) = false := by simp; omega
        clear hbl h4
        by_cases h35 : s[k].toNat = 35
        · have b35 : ((s[k].toNat : Int) == 35) = true := by simp; omega
          have H35 := Lib.hid h35
          clear h35
          go_wp2
          go_loopg [1] (s.size - k) (fun g i wx => ∃ j : Nat, i = .int .i64 j ∧ k ≤ j ∧ j ≤ s.size ∧ Hid (W.Lined s k j) ∧ Hid (j + g = s.size) ∧ w = wx)
          case atStart => exact ⟨k, rfl, Nat.le_refl _, hks, W.Lined.start s k hks, (by show _ = _; omega), rfl⟩
          case round =>
            obtain ⟨j, rfl, hkj, hjs, HL, HJ, rfl⟩ := hrel
            by_cases hjl : j < s.size
            · by_cases h10 : s[j].toNat = 10
              · have n10 : ((s[j].toNat : Int) != 10) = false := by simp; omega
                have HN := Lib.hid (HA.out.line hlt HB.out H35.out hkj (HL.out.stop hjl h10))
                have HK := Lib.hid (line_gt H35.out h10 hkj)
                clear h10
                go_wp2
                go_roundg (s.size - j)
                case rel => exact ⟨j, rfl, (by show _ = _; omega), by omega, by omega, HN, rfl⟩
                case measure => have := HG.out; have := HK.out; omega
              · have n10 : ((s[j].toNat : Int) != 10) = true := by simp; omega
                have HN := Lib.hid (HL.out.next hjl h10)
                clear h10
                go_wp2
                go_roundg (s.size - (j + 1))
                case rel => exact ⟨j + 1, by go_num, by omega, by omega, HN, (by show _ = _; omega), rfl⟩
                case measure => have := HJ.out; omega
            · have HN := Lib.hid (HA.out.line hlt HB.out H35.out hkj (HL.out.over (by omega)))
              go_wp2
              go_roundg (s.size - j)
              case rel => exact ⟨j, rfl, (by show _ = _; omega), by omega, by omega, HN, rfl⟩
              case measure => have := HG.out; omega
        · have b35 : ((s[k].toNat : Int) == 35) = false := by simp; omega
          have H35 := Lib.hid h35
          clear h35
          cases hp : Lib.hasPrefix (s.data.toList.drop k) [47, 42] with
          | false =>
            have HD := Lib.hid (HA.out.stop (W.gap_no s k hlt HB.out H35.out hp))
            by_cases hk1 : k + 1 < s.size
            · have hpa := W.pre2_at s k 47 42 hk1
              rw [hp] at hpa
              by_cases h47 : s[k].toNat = 47
              · have c47 : ((s[k].toNat : Int) == 47) = true := by simp; omega
                have c42 : ((s[k + 1].toNat : Int) == 42) = false := by
                  rw [h47] at hpa
                  have : ¬ s[k + 1].toNat = 42 := by simpa using hpa.symm
                  simp; omega
                clear hpa hp h47
                go_wp2
                go_ret
                refine ⟨?_, rfl⟩
                rw [HD.out]
                exact retI (by simp only [gapI]; omega)
              · have c47 : ((s[k].toNat : Int) == 47) = false := by simp; omega
                clear hpa hp h47
                go_wp2
                go_ret
                refine ⟨?_, rfl⟩
                rw [HD.out]
                exact retI (by simp only [gapI]; omega)
            · clear hp
              by_cases h47 : s[k].toNat = 47
              · have c47 : ((s[k].toNat : Int) == 47) = true := by simp; omega
                clear h47
                go_wp2
                go_ret
                refine ⟨?_, rfl⟩
                rw [HD.out]
                exact retI (by simp only [gapI]; omega)
              · have c47 : ((s[k].toNat : Int) == 47) = false := by simp; omega
                clear h47
                go_wp2
                go_ret
                refine ⟨?_, rfl⟩
                rw [HD.out]
                exact retI (by simp only [gapI]; omega)
          | true =>
            have hk2 := W.pre2_size s k 47 42 hp
            have hk1 : k + 1 < s.size := by omega
            have hpa := W.pre2_at s k 47 42 hk1
            rw [hp] at hpa
            have h47 : s[k].toNat = 47 ∧ s[k + 1].toNat = 42 := by simpa using hpa.symm
            have c47 : ((s[k].toNat : Int) == 47) = true := by simp; omega
            have c42 : ((s[k + 1].toNat : Int) == 42) = true := by simp; omega
            have HP := Lib.hid hp
            clear hpa hp h47
            go_wp2
            go_loopg [6] (s.size - (k + 2)) (fun g i wx => ∃ j : Nat, i = .int .i64 j ∧ k + 2 ≤ j ∧ j ≤ s.size ∧ Hid (W.Starred s (k + 2) j) ∧ Hid (j + g = s.size) ∧ w = wx)
            case atStart => exact ⟨k + 2, by go_num, Nat.le_refl _, hk2, W.Starred.start s (k + 2) hk2, (by show _ = _; omega), rfl⟩
            case round =>
              obtain ⟨j, rfl, hkj, hjs, HL, HJ, rfl⟩ := hrel
              by_cases hjl : j + 1 < s.size
              · cases hq : Lib.hasPrefix (s.data.toList.drop j) [42, 47] with
                | true =>
                  have hpa := W.pre2_at s j 42 47 hjl
                  rw [hq] at hpa
                  have h47 : s[j].toNat = 42 ∧ s[j + 1].toNat = 47 := by simpa using hpa.symm
                  have d42 : ((s[j].toNat : Int) == 42) = true := by simp; omega
                  have d47 : ((s[j + 1].toNat : Int) == 47) = true := by simp; omega
                  have HN := Lib.hid (HA.out.star hlt HB.out H35.out HP.out hkj (HL.out.stop hq))
                  clear hq hpa h47
                  go_wp2
                  go_roundg (s.size - (j + 2))
                  case rel => exact ⟨j + 2, by go_num, (by show _ = _; omega), by omega, by omega, HN, rfl⟩
                  case measure => have := HG.out; omega
                | false =>
                  have hpa := W.pre2_at s j 42 47 hjl
                  rw [hq] at hpa
                  have HN := Lib.hid (HL.out.next (by omega) hq)
                  clear hq
                  by_cases h42 : s[j].toNat = 42
                  · have d42 : ((s[j].toNat : Int) == 42) = true := by simp; omega
                    have d47 : ((s[j + 1].toNat : Int) == 47) = false := by
                      rw [h42] at hpa
                      have : ¬ s[j + 1].toNat = 47 := by simpa using hpa.symm
                      simp; omega
                    clear hpa h42
                    go_wp2
                    go_roundg (s.size - (j + 1))
                    case rel => exact ⟨j + 1, by go_num, by omega, by omega, HN, (by show _ = _; omega), rfl⟩
                    case measure => have := HJ.out; omega
                  · have d42 : ((s[j].toNat : Int) == 42) = false := by simp; omega
                    clear hpa h42
                    go_wp2
                    go_roundg (s.size - (j + 1))
                    case rel => exact ⟨j + 1, by go_num, by omega, by omega, HN, (by show _ = _; omega), rfl⟩
                    case measure => have := HJ.out; omega
              · have HD := Lib.hid (HA.out.unstar hlt HB.out H35.out HP.out (HL.out.ends (by omega)))
                go_wp2
                go_ret
                refine ⟨?_, rfl⟩
                rw [HD.out]
                rfl
    · have HD := Lib.hid (HA.out.over (by omega))
      go_wp2
      go_ret
      refine ⟨?_, rfl⟩
      rw [HD.out]
      exact retI (by simp only [gapI]; omega)
end Go.Proofs.Ytjgogjamkbmcjaa

namespace Go.Proofs.Ytjgogjamkbmcjaa
open Go.RowKit

def OpenS (s : ByteArray) (k0 : Nat) (w : World) (e : Ending) (w' : World) : Prop := ∃ n : Nat, e = .returned (.int .i64 n) ∧ W.lexL k0 (s.data.toList.drop k0) = .bad n 2 ∧ w = w'

set_option maxRecDepth 100000 in
set_option maxHeartbeats 4000000 in
theorem openR_any (s : ByteArray) (k0 : Nat) (w : World) (hs : s.size ≤ 1073741824) (hn : W.gapD (s.data.toList.drop k0) = none) :
    Calls Try.prog 36 #[.string s, .int .i64 k0] w (OpenS s k0 w) := by
  have hk0 := W.gapD_none_lt hn
  have HO0 : Hid (W.OpenAt s k0 k0) := ⟨hn, rfl⟩
  clear hn
  go_enter Try.func36, Try.ntmps36
  go_wp2
  go_loopg [1] (s.size - k0) (fun g i wr => ∃ k : Nat, i = .int .i64 k ∧ Hid (k + g = s.size) ∧ k ≤ s.size ∧ Hid (W.OpenAt s k0 k) ∧ w = wr)
  case atStart => exact ⟨k0, rfl, (by show _ = _; omega), by omega, HO0, rfl⟩
  case round =>
    obtain ⟨k, rfl, HG, hks, HA, rfl⟩ := hrel
    obtain ⟨go, rfl⟩ : ∃ go : Nat, go = gk := ⟨_, rfl⟩
    go_wp2
    go_loopg [5] (s.size - k) (fun g i wx => ∃ j : Nat, i = .int .i64 j ∧ k ≤ j ∧ Hid (W.OpenAt s k0 j) ∧ Hid (j + g = s.size) ∧ w = wx)
    case atStart => exact ⟨k, rfl, Nat.le_refl _, HA, (by show _ = _; omega), rfl⟩
    case round =>
      obtain ⟨j, rfl, hkj, HB0, HJ, rfl⟩ := hrel
      have hjl := HB0.out.lt
      cases hbl : W.blankB s[j] with
      | true =>
        have HN := Lib.hid (HB0.out.skip (n := 0) (W.gap_blank s j hjl hbl))
        have h4 := W.blank_is4 hbl
        clear hbl
        rcases h4 with h | h | h | h
        · have g32 : ((s[j].toNat : Int) == 32) = true := by simp; omega
          clear h
          go_wp2
          go_roundg (s.size - (j + 1))
          case rel => exact ⟨j + 1, by go_num, by omega, HN, (by show _ = _; omega), rfl⟩
          case measure => have := HJ.out; omega
        · have g32 : ((s[j].toNat : Int) == 32) = false := by simp; omega
          have g9 : ((s[j].toNat : Int) == 9) = true := by simp; omega
          clear h
          go_wp2
          go_roundg (s.size - (j + 1))
          case rel => exact ⟨j + 1, by go_num, by omega, HN, (by show _ = _; omega), rfl⟩
          case measure => have := HJ.out; omega
        · have g32 : ((s[j].toNat : Int) == 32) = false := by simp; omega
          have g9 : ((s[j].toNat : Int) == 9) = false := by simp; omega
          have g10 : ((s[j].toNat : Int) == 10) = true := by simp; omega
          clear h
          go_wp2
          go_roundg (s.size - (j + 1))
          case rel => exact ⟨j + 1, by go_num, by omega, HN, (by show _ = _; omega), rfl⟩
          case measure => have := HJ.out; omega
        · have g32 : ((s[j].toNat : Int) == 32) = false := by simp; omega
          have g9 : ((s[j].toNat : Int) == 9) = false := by simp; omega
          have g10 : ((s[j].toNat : Int) == 10) = false := by simp; omega
          have g13 : ((s[j].toNat : Int) == 13) = true := by simp; omega
          clear h
          go_wp2
          go_roundg (s.size - (j + 1))
          case rel => exact ⟨j + 1, by go_num, by omega, HN, (by show _ = _; omega), rfl⟩
          case measure => have := HJ.out; omega
      | false =>
        have h4 := W.blank_not4 hbl
        have HB := Lib.hid hbl
        have b32 : ((s[j].toNat : Int) == 32) = false := by simp; omega
        have b9 : ((s[j].toNat : Int) == 9) = false := by simp; omega
        have b10 : ((s[j].toNat : Int) == 10) = false := by simp; omega
        have b13 : ((s[j].toNat : Int) == 13) = false := by simp; omega
        clear hbl h4 HJ
        by_cases h35 : s[j].toNat = 35
        · have b35 : ((s[j].toNat : Int) == 35) = true := by simp; omega
          have H35 := Lib.hid h35
          clear h35
          go_wp2
          go_loopg [5] (s.size - j) (fun g i wx => ∃ m : Nat, i = .int .i64 m ∧ j ≤ m ∧ Hid (W.Lined s j m) ∧ Hid (m + g = s.size) ∧ w = wx)
          case atStart => exact ⟨j, rfl, Nat.le_refl _, W.Lined.start s j (by omega), (by show _ = _; omega), rfl⟩
          case round =>
            obtain ⟨m, rfl, hjm, HL, HM, rfl⟩ := hrel
            obtain ⟨hml, hme⟩ := HB0.out.line hjl HB.out H35.out HL.out
            by_cases h10 : s[m].toNat = 10
            · have n10 : ((s[m].toNat : Int) != 10) = false := by simp; omega
              have hme2 := hme (W.lineRun_stop s m hml h10)
              have HN := Lib.hid hme2
              clear h10 hme hme2
              go_wp2
              go_roundg (s.size - m)
              case rel => exact ⟨m, rfl, (by show _ = _; omega), by omega, HN.out.2, rfl⟩
              case measure => have := HG.out; have := HN.out.1; omega
            · have n10 : ((s[m].toNat : Int) != 10) = true := by simp; omega
              have HN := Lib.hid (HL.out.next hml h10)
              clear h10 hme
              go_wp2
              go_roundg (s.size - (m + 1))
              case rel => exact ⟨m + 1, by go_num, by omega, HN, (by show _ = _; omega), rfl⟩
              case measure => have := HM.out; omega
        · have b35 : ((s[j].toNat : Int) == 35) = false := by simp; omega
          have HP := Lib.hid (HB0.out.prefix_ hjl HB.out h35)
          have H35 := Lib.hid h35
          clear h35
          have hk2 := W.pre2_size s j 47 42 HP.out
          go_wp2
          go_loopg [6] (s.size - (j + 2)) (fun g i wx => ∃ m : Nat, i = .int .i64 m ∧ j + 2 ≤ m ∧ m ≤ s.size ∧ Hid (W.Starred s (j + 2) m) ∧ Hid (m + g = s.size) ∧ w = wx)
          case atStart => exact ⟨j + 2, by go_num, Nat.le_refl _, hk2, W.Starred.start s (j + 2) hk2, (by show _ = _; omega), rfl⟩
          case round =>
            obtain ⟨m, rfl, hjm, hms, HL, HM, rfl⟩ := hrel
            by_cases hml : m + 1 < s.size
            · cases hq : Lib.hasPrefix (s.data.toList.drop m) [42, 47] with
              | true =>
                have hpa := W.pre2_at s m 42 47 hml
                rw [hq] at hpa
                have h47 : s[m].toNat = 42 ∧ s[m + 1].toNat = 47 := by simpa using hpa.symm
                have d42 : ((s[m].toNat : Int) == 42) = true := by simp; omega
                have d47 : ((s[m + 1].toNat : Int) == 47) = true := by simp; omega
                have HN := Lib.hid (HB0.out.star hjl HB.out H35.out HP.out hjm (HL.out.stop hq))
                clear hq hpa h47
                go_wp2
                go_roundg (s.size - (m + 2))
                case rel => exact ⟨m + 2, by go_num, (by show _ = _; omega), by omega, HN, rfl⟩
                case measure => have := HG.out; omega
              | false =>
                have hpa := W.pre2_at s m 42 47 hml
                rw [hq] at hpa
                have HN := Lib.hid (HL.out.next (by omega) hq)
                clear hq
                by_cases h42 : s[m].toNat = 42
                · have d42 : ((s[m].toNat : Int) == 42) = true := by simp; omega
                  have d47 : ((s[m + 1].toNat : Int) == 47) = false := by
                    rw [h42] at hpa
                    have : ¬ s[m + 1].toNat = 47 := by simpa using hpa.symm
                    simp; omega
                  clear hpa h42
                  go_wp2
                  go_roundg (s.size - (m + 1))
                  case rel => exact ⟨m + 1, by go_num, by omega, by omega, HN, (by show _ = _; omega), rfl⟩
                  case measure => have := HM.out; omega
                · have d42 : ((s[m].toNat : Int) == 42) = false := by simp; omega
                  clear hpa h42
                  go_wp2
                  go_roundg (s.size - (m + 1))
                  case rel => exact ⟨m + 1, by go_num, by omega, by omega, HN, (by show _ = _; omega), rfl⟩
                  case measure => have := HM.out; omega
            · have HD := Lib.hid (HB0.out.bad hjl HB.out H35.out HP.out (HL.out.ends (by omega)))
              go_wp2
              go_ret
              exact ⟨j, rfl, HD.out, rfl⟩
end Go.Proofs.Ytjgogjamkbmcjaa

namespace Go.Proofs.Ytjgogjamkbmcjaa
open Go.RowKit

theorem gap_is (s : ByteArray) (k0 : Nat) (i : Int) (w : World) (hs : s.size ≤ 1073741824) (hk0 : k0 ≤ s.size) (h : gapI k0 (W.gapD (s.data.toList.drop k0)) = i) :
    Calls Try.prog 35 #[.string s, .int .i64 k0] w fun e w' => e = .returned (.int .i64 i) ∧ w = w' := by
  rw [← h]; exact gapR_any s k0 w hs hk0
theorem reading_gap {s : ByteArray} {k m : Nat} {acc : List W.Tok} (hr : W.Reading s k acc) (hg : W.gapD (s.data.toList.drop k) = some m) : W.Reading s (k + m) acc ∧ W.gapO (s.data.toList.drop (k + m)) = some 0 := by
  obtain ⟨h1, h2, h3⟩ := W.gapD_some _ k m hg
  rw [List.length_drop, ← Lib.size_eq] at h1
  rw [List.drop_drop] at h2 h3
  have ha := hr.1
  have hb := hr.2.1
  exact ⟨⟨by omega, by omega, by rw [hr.2.2, h3]⟩, h2⟩
theorem mark_unq {x : List UInt8} (h : W.markK x ≠ 0) : W.unqL x = ([], 2) := by
  unfold W.markK at h
  by_cases h1 : (x == W.inactiveL) = true
  · have : x = W.inactiveL := by simpa using h1
    subst this; decide +kernel
  · rw [if_neg h1] at h
    by_cases h2 : (x == W.protectL) = true
    · have : x = W.protectL := by simpa using h2
      subst this; decide +kernel
    · rw [if_neg h2] at h; exact absurd rfl h
theorem mark_two (s : ByteArray) : (W.markK s.data.toList = 1 ∧ (s.toList == [105, 110, 97, 99, 116, 105, 118, 101, 58]) = true ∧ (s.toList == [112, 114, 111, 116, 101, 99, 116, 58]) = false) ∨
    (W.markK s.data.toList = 2 ∧ (s.toList == [105, 110, 97, 99, 116, 105, 118, 101, 58]) = false ∧ (s.toList == [112, 114, 111, 116, 101, 99, 116, 58]) = true) ∨
    (W.markK s.data.toList = 0 ∧ (s.toList == [105, 110, 97, 99, 116, 105, 118, 101, 58]) = false ∧ (s.toList == [112, 114, 111, 116, 101, 99, 116, 58]) = false) := by
  by_cases h1 : (s.toList == [105, 110, 97, 99, 116, 105, 118, 101, 58]) = true
  · refine .inl ⟨mark_a s h1, h1, ?_⟩
    have : s.toList = [105, 110, 97, 99, 116, 105, 118, 101, 58] := by simpa using h1
    rw [this]; decide
  · have h1' : (s.toList == [105, 110, 97, 99, 116, 105, 118, 101, 58]) = false := by simpa using h1
    by_cases h2 : (s.toList == [112, 114, 111, 116, 101, 99, 116, 58]) = true
    · exact .inr (.inl ⟨mark_b s h1' h2, h1', h2⟩)
    · have h2' : (s.toList == [112, 114, 111, 116, 101, 99, 116, 58]) = false := by simpa using h2
      exact .inr (.inr ⟨mark_c s h1' h2', h1', h2'⟩)

def RelRL (s : ByteArray) (w : World) (g : Nat) (v i : Value) (wr : World) : Prop :=
  ∃ (k : Nat) (acc : List W.Tok), i = .int .i64 k ∧ OwnT 42 wr w.heap.size v acc ∧ Below w.heap.size w wr ∧ W.Reading s k acc ∧ k + g = s.size

set_option maxRecDepth 100000 in
set_option maxHeartbeats 4000000 in
theorem refAll_any (s : ByteArray) (w : World) (hs : s.size ≤ 1073741824) :
    Calls Try.prog 19 #[.string s] w (AllS 42 w (W.lexL 0 s.data.toList)) := by
  go_enter Try.func19, Try.ntmps19
  go_wp2
  go_loopg [5, 6] s.size (fun g v i wr => RelRL s w g v i wr)
  case atStart => exact ⟨0, [], rfl, OwnT.nil _ _ _, Below.refl _ _, W.Reading.start s, Nat.zero_add _⟩
  case round =>
    obtain ⟨k, acc, rfl, hown, hb, hR, hg⟩ := hrel
    have hks := hR.1
    have HG := Lib.hid hg
    clear hg
    have hsz := hb.size
    cases hgd : W.gapD (s.data.toList.drop k) with
    | none =>
      have HI := Lib.hid (show gapI k (W.gapD (s.data.toList.drop k)) = -1 by rw [hgd]; rfl)
      have HN := Lib.hid hgd
      have HR := Lib.hid hR
      clear hgd hR
      go_wp2_with fail
      refine (gap_is s k (-1) _ hs hks HI.out).mono ?_
      rintro e w' ⟨rfl, rfl⟩
      go_wp2_with fail
      refine (openR_any s k _ hs HN.out).mono ?_
      rintro e w' ⟨n, rfl, hbad, rfl⟩
      have HD := Lib.hid (show W.lexL 0 s.data.toList = .bad n 2 by rw [HR.out.2.2, hbad]; rfl)
      clear hbad
      go_wp2
      go_ret3
      rw [HD.out]
      exact ⟨_, rfl, OwnT.nil _ _ _, hb⟩
    | some m =>
      obtain ⟨hR2, hgo⟩ := reading_gap hR hgd
      have HI := Lib.hid (show gapI k (W.gapD (s.data.toList.drop k)) = ((k + m : Nat) : Int) by rw [hgd]; rfl)
      clear hgd hR
      obtain ⟨n, hn⟩ : ∃ n, k + m = n := ⟨_, rfl⟩
      rw [hn] at hR2 hgo HI
      have hkn : k ≤ n := by omega
      have hns := hR2.1
      have hac := hR2.2.1
      have HR := Lib.hid hR2
      have HO := Lib.hid hgo
      clear hn hR2 hgo
      by_cases hlt : n < s.size
      · have bn : ((n : Int) == (s.size : Int)) = false := by simp; omega
        by_cases hsg : W.signK s[n] ≠ 0
        · have hsc := W.signK_cases s[n]
          have ht := takeD_sign s n hlt hsg
          have HN := Lib.hid (HR.out.tok hlt HO.out ht)
          clear ht
          have hc : (s[n].toNat = 123 ∧ W.signK s[n] = 2) ∨ (s[n].toNat = 125 ∧ W.signK s[n] = 3) ∨ (s[n].toNat = 59 ∧ W.signK s[n] = 4) := by omega
          clear hsc hsg
          rcases hc with ⟨h, hk⟩ | ⟨h, hk⟩ | ⟨h, hk⟩
          · have b123 : ((s[n].toNat : Int) == 123) = true := by simp; omega
            rw [hk] at HN
            clear h hk
            go_wp2_with fail
            refine (gap_is s k (n : Int) _ hs hks HI.out).mono ?_
            rintro e w' ⟨rfl, rfl⟩
            go_wp2_with (at_builtin; refine wpList_appT 38 42 Try.underlying38 tokR_info _ rfl (.tmp 82) (.tmp 84) rfl w.heap.size u5 acc rfl (OwnT.alloc hown _) ⟨2, n, [], 0⟩ 1 _ rfl (wr.heap.size + 1) (by simp) rfl (by omega) (by simp; omega) ?_; intro v2 w2 hown2 hb2)
            go_roundg (s.size - (n + 1))
            case rel => exact ⟨n + 1, acc ++ [⟨2, n, [], 0⟩], by go_num, hown2, (hb.alloc hsz _).trans hb2, HN.out, by omega⟩
            case measure => have := HG.out; omega
          · have b123 : ((s[n].toNat : Int) == 123) = false := by simp; omega
            have b125 : ((s[n].toNat : Int) == 125) = true := by simp; omega
            rw [hk] at HN
            clear h hk
            go_wp2_with fail
            refine (gap_is s k (n : Int) _ hs hks HI.out).mono ?_
            rintro e w' ⟨rfl, rfl⟩
            go_wp2_with (at_builtin; refine wpList_appT 38 42 Try.underlying38 tokR_info _ rfl (.tmp 82) (.tmp 84) rfl w.heap.size u5 acc rfl (OwnT.alloc hown _) ⟨3, n, [], 0⟩ 1 _ rfl (wr.heap.size + 1) (by simp) rfl (by omega) (by simp; omega) ?_; intro v2 w2 hown2 hb2)
            go_roundg (s.size - (n + 1))
            case rel => exact ⟨n + 1, acc ++ [⟨3, n, [], 0⟩], by go_num, hown2, (hb.alloc hsz _).trans hb2, HN.out, by omega⟩
            case measure => have := HG.out; omega
          · have b123 : ((s[n].toNat : Int) == 123) = false := by simp; omega
            have b125 : ((s[n].toNat : Int) == 125) = false := by simp; omega
            have b59 : ((s[n].toNat : Int) == 59) = true := by simp; omega
            rw [hk] at HN
            clear h hk
            go_wp2_with fail
            refine (gap_is s k (n : Int) _ hs hks HI.out).mono ?_
            rintro e w' ⟨rfl, rfl⟩
            go_wp2_with (at_builtin; refine wpList_appT 38 42 Try.underlying38 tokR_info _ rfl (.tmp 82) (.tmp 84) rfl w.heap.size u5 acc rfl (OwnT.alloc hown _) ⟨4, n, [], 0⟩ 1 _ rfl (wr.heap.size + 1) (by simp) rfl (by omega) (by simp; omega) ?_; intro v2 w2 hown2 hb2)
            go_roundg (s.size - (n + 1))
            case rel => exact ⟨n + 1, acc ++ [⟨4, n, [], 0⟩], by go_num, hown2, (hb.alloc hsz _).trans hb2, HN.out, by omega⟩
            case measure => have := HG.out; omega
        · have hsg0 : W.signK s[n] = 0 := by omega
          have hsc := W.signK_cases s[n]
          have b1 : ((s[n].toNat : Int) == 123) = false := by simp; omega
          have b2 : ((s[n].toNat : Int) == 125) = false := by simp; omega
          have b3 : ((s[n].toNat : Int) == 59) = false := by simp; omega
          have HS := Lib.hid hsg0
          clear hsg hsg0 hsc
          cases hsc : W.scanD (s.data.toList.drop n) with
          | none =>
            have HD := Lib.hid (HR.out.bad hlt HO.out (takeD_none s n hlt HS.out hsc))
            have HL := Lib.hid (show W.scanL s.data.toList n = none by rw [scanL_D, hsc]; rfl)
            clear hsc
            go_wp2_with fail
            refine (gap_is s k (n : Int) _ hs hks HI.out).mono ?_
            rintro e w' ⟨rfl, rfl⟩
            go_wp2_with fail
            refine (scanR_is s n none _ (by omega) HL.out).mono ?_
            rintro e w' ⟨rfl, rfl⟩
            simp only [W.optN, Option.isSome]
            go_wp2
            go_ret3
            rw [HD.out]
            exact ⟨_, rfl, OwnT.nil _ _ _, hb.alloc hsz _⟩
          | some q =>
            have hq := W.scanD_le _ _ hsc
            rw [List.length_drop, ← Lib.size_eq] at hq
            obtain ⟨hq1, hq2⟩ := hq
            have HL := Lib.hid (show W.scanL s.data.toList n = some (n + q) by rw [scanL_D, hsc]; simp; omega)
            have HSC := Lib.hid hsc
            have hes : (s.extract n (n + q)).size ≤ 1073741824 := by rw [W.rest_size _ _ _ (by omega)]; omega
            clear hsc
            obtain ⟨x, er, hu⟩ : ∃ x er, W.unqL (s.extract n (n + q)).data.toList = (x, er) := ⟨_, _, rfl⟩
            have HU := Lib.hid hu
            rcases mark_two (s.extract n (n + q)) with ⟨hm, m1, m2⟩ | ⟨hm, m1, m2⟩ | ⟨hm, m1, m2⟩
            · have HN := Lib.hid (HR.out.tok hlt HO.out (takeD_mark s n q hlt HS.out HSC.out hm (by omega)))
              have hun := mark_unq (show W.markK (s.extract n (n + q)).data.toList ≠ 0 by omega)
              rw [HU.out] at hun
              injection hun with h1 h2
              subst h1; subst h2
              clear hm hu
              go_wp2_with fail
              refine (gap_is s k (n : Int) _ hs hks HI.out).mono ?_
              rintro e w' ⟨rfl, rfl⟩
              go_wp2_with fail
              refine (scanR_is s n (some (n + q)) _ (by omega) HL.out).mono ?_
              rintro e w' ⟨rfl, rfl⟩
              simp only [W.optN, Option.isSome]
              go_wp2_with fail
              refine (unqR_is (s.extract n (n + q)) [] 2 _ hes HU.out).mono ?_
              rintro e w1 ⟨rfl, hb1⟩
              have c0 := blk_cell hb1 0
              have c1 := blk_cell hb1 1
              have c2 := blk_cell hb1 2
              have c3 := blk_cell hb1 3
              have f0 := blk_free hb1 0
              have f1 := blk_free hb1 1
              have f2 := blk_free hb1 2
              have f3 := blk_free hb1 3
              simp only [List.getElem?_toArray, List.getElem?_cons_zero, List.getElem?_cons_succ] at c0 c1 c2 c3
              have hb1' : Below wr.heap.size wr w1 := ((Below.refl _ _).alloc (Nat.le_refl _) _).trans (hb1.mono (by simp))
              have hs1 := hb1'.size
              go_wp2_with (at_builtin; refine wpList_appT 38 42 Try.underlying38 tokR_info _ rfl (.tmp 82) (.tmp 84) rfl w.heap.size u5 acc rfl (own_keep hown ((((hb1'.setCell (Nat.le_refl _) _).setCell (Nat.le_refl _) _).setCell (Nat.le_refl _) _).setCell (Nat.le_refl _) _)) ⟨5, n, [], 1⟩ 1 _ rfl w1.heap.size (by simp) rfl (by omega) (by simp; omega) ?_; intro v2 w2 hown2 hb2)
              go_roundg (s.size - (n + q))
              case rel => exact ⟨n + q, acc ++ [⟨5, n, [], 1⟩], by go_num, hown2, ((hb.trans (((((hb1'.setCell (Nat.le_refl _) _).setCell (Nat.le_refl _) _).setCell (Nat.le_refl _) _).setCell (Nat.le_refl _) _).mono hsz)).trans hb2), HN.out, by omega⟩
              case measure => have := HG.out; omega
            · have HN := Lib.hid (HR.out.tok hlt HO.out (takeD_mark s n q hlt HS.out HSC.out hm (by omega)))
              have hun := mark_unq (show W.markK (s.extract n (n + q)).data.toList ≠ 0 by omega)
              rw [HU.out] at hun
              injection hun with h1 h2
              subst h1; subst h2
              clear hm hu
              go_wp2_with fail
              refine (gap_is s k (n : Int) _ hs hks HI.out).mono ?_
              rintro e w' ⟨rfl, rfl⟩
              go_wp2_with fail
              refine (scanR_is s n (some (n + q)) _ (by omega) HL.out).mono ?_
              rintro e w' ⟨rfl, rfl⟩
              simp only [W.optN, Option.isSome]
              go_wp2_with fail
              refine (unqR_is (s.extract n (n + q)) [] 2 _ hes HU.out).mono ?_
              rintro e w1 ⟨rfl, hb1⟩
              have c0 := blk_cell hb1 0
              have c1 := blk_cell hb1 1
              have c2 := blk_cell hb1 2
              have c3 := blk_cell hb1 3
              have f0 := blk_free hb1 0
              have f1 := blk_free hb1 1
              have f2 := blk_free hb1 2
              have f3 := blk_free hb1 3
              simp only [List.getElem?_toArray, List.getElem?_cons_zero, List.getElem?_cons_succ] at c0 c1 c2 c3
              have hb1' : Below wr.heap.size wr w1 := ((Below.refl _ _).alloc (Nat.le_refl _) _).trans (hb1.mono (by simp))
              have hs1 := hb1'.size
              go_wp2_with (at_builtin; refine wpList_appT 38 42 Try.underlying38 tokR_info _ rfl (.tmp 82) (.tmp 84) rfl w.heap.size u5 acc rfl (own_keep hown ((((hb1'.setCell (Nat.le_refl _) _).setCell (Nat.le_refl _) _).setCell (Nat.le_refl _) _).setCell (Nat.le_refl _) _)) ⟨5, n, [], 2⟩ 1 _ rfl w1.heap.size (by simp) rfl (by omega) (by simp; omega) ?_; intro v2 w2 hown2 hb2)
              go_roundg (s.size - (n + q))
              case rel => exact ⟨n + q, acc ++ [⟨5, n, [], 2⟩], by go_num, hown2, ((hb.trans (((((hb1'.setCell (Nat.le_refl _) _).setCell (Nat.le_refl _) _).setCell (Nat.le_refl _) _).setCell (Nat.le_refl _) _).mono hsz)).trans hb2), HN.out, by omega⟩
              case measure => have := HG.out; omega
            · by_cases her : er ≠ 0
              · have HD := Lib.hid (HR.out.bad hlt HO.out (takeD_err s n q hlt HS.out HSC.out hm hu her))
                have ber : (er != 0) = true := bne_iff_ne.2 her
                clear hm hu her
                go_wp2_with fail
                refine (gap_is s k (n : Int) _ hs hks HI.out).mono ?_
                rintro e w' ⟨rfl, rfl⟩
                go_wp2_with fail
                refine (scanR_is s n (some (n + q)) _ (by omega) HL.out).mono ?_
                rintro e w' ⟨rfl, rfl⟩
                simp only [W.optN, Option.isSome]
                go_wp2_with fail
                refine (unqR_is (s.extract n (n + q)) x er _ hes HU.out).mono ?_
                rintro e w1 ⟨rfl, hb1⟩
                have c0 := blk_cell hb1 0
                have c1 := blk_cell hb1 1
                have c2 := blk_cell hb1 2
                have c3 := blk_cell hb1 3
                have f0 := blk_free hb1 0
                have f1 := blk_free hb1 1
                have f2 := blk_free hb1 2
                have f3 := blk_free hb1 3
                simp only [List.getElem?_toArray, List.getElem?_cons_zero, List.getElem?_cons_succ] at c0 c1 c2 c3
                have hb1' : Below wr.heap.size wr w1 := ((Below.refl _ _).alloc (Nat.le_refl _) _).trans (hb1.mono (by simp))
                have hs1 := hb1'.size
                go_wp2
                go_ret3
                rw [HD.out]
                exact ⟨_, rfl, OwnT.nil _ _ _, hb.trans ((((hb1'.setCell (Nat.le_refl _) _)).setCell (Nat.le_refl _) _).mono hsz)⟩
              · obtain rfl : er = 0 := by omega
                have HN := Lib.hid (HR.out.tok hlt HO.out (takeD_name s n q hlt HS.out HSC.out hm hu))
                clear hm hu her
                go_wp2_with fail
                refine (gap_is s k (n : Int) _ hs hks HI.out).mono ?_
                rintro e w' ⟨rfl, rfl⟩
                go_wp2_with fail
                refine (scanR_is s n (some (n + q)) _ (by omega) HL.out).mono ?_
                rintro e w' ⟨rfl, rfl⟩
                simp only [W.optN, Option.isSome]
                go_wp2_with fail
                refine (unqR_is (s.extract n (n + q)) x 0 _ hes HU.out).mono ?_
                rintro e w1 ⟨rfl, hb1⟩
                have c0 := blk_cell hb1 0
                have c1 := blk_cell hb1 1
                have c2 := blk_cell hb1 2
                have c3 := blk_cell hb1 3
                have f0 := blk_free hb1 0
                have f1 := blk_free hb1 1
                have f2 := blk_free hb1 2
                have f3 := blk_free hb1 3
                simp only [List.getElem?_toArray, List.getElem?_cons_zero, List.getElem?_cons_succ] at c0 c1 c2 c3
                have hb1' : Below wr.heap.size wr w1 := ((Below.refl _ _).alloc (Nat.le_refl _) _).trans (hb1.mono (by simp))
                have hs1 := hb1'.size
                go_wp2_with (at_builtin; refine wpList_appT 38 42 Try.underlying38 tokR_info _ rfl (.tmp 82) (.tmp 84) rfl w.heap.size u5 acc rfl (own_keep hown ((hb1'.setCell (Nat.le_refl _) _).setCell (Nat.le_refl _) _)) ⟨1, n, x, 0⟩ 1 _ rfl w1.heap.size (by simp) rfl (by omega) (by simp; omega) ?_; intro v2 w2 hown2 hb2)
                go_roundg (s.size - (n + q))
                case rel => exact ⟨n + q, acc ++ [⟨1, n, x, 0⟩], by go_num, hown2, ((hb.trans (((hb1'.setCell (Nat.le_refl _) _).setCell (Nat.le_refl _) _).mono hsz)).trans hb2), HN.out, by omega⟩
                case measure => have := HG.out; omega
      · obtain rfl : n = s.size := by omega
        have HD := Lib.hid (HR.out.done (Nat.le_refl _))
        go_wp2_with fail
        refine (gap_is s k (s.size : Int) _ hs hks HI.out).mono ?_
        rintro e w' ⟨rfl, rfl⟩
        go_wp2
        go_ret3
        rw [HD.out]
        exact ⟨_, rfl, hown, hb⟩
end Go.Proofs.Ytjgogjamkbmcjaa
