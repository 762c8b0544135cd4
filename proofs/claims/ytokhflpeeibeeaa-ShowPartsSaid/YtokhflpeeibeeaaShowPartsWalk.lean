/-
  The walk of layer 4's statement ShowParts: it returns true whatever the lines are. No conditions.
-/
import Derived.Test.YtokhflpeeibeeaaShowAwake
namespace Go.Proofs.Ytokhflpeeibeeaa
open Go.RowKit

set_option maxRecDepth 100000 in
set_option maxHeartbeats 2000000 in
theorem showParts_walk (w : World) (A : Option Addr) (c : Nat) (t : List T.Ln) (hc : t.length ≤ c) (hA : Seen eL w A t) (hl : t.length ≤ maxLen) :
    Calls Try.prog 4 #[.slice A t.length c] w (TrueS w) := by
  unfold maxLen at hl
  have HA := Lib.hid hA
  clear hA
  have hb : Below w.heap.size w w := Below.refl _ _
  go_enter Try.func4, Try.ntmps4
  go_wp2_with fail
  refine (small_is A c t _ HA.out).mono ?_
  rintro e wx1 ⟨bs, rfl, hsm, hx⟩
  replace HA := Lib.hid (HA.out.below hx)
  replace hb := bthen hb hx
  clear hx
  cases bs with
  | false =>
    clear hsm
    go_wp2_with fail
    refine (awake_any _).mono ?_
    rintro e wz ⟨rfl, hx⟩
    go_wp2
    go_ret
    exact ⟨rfl, bthen hb hx⟩
  | true =>
    replace hsm := hsm rfl
    have hll : t.length ≤ 1073741824 := by omega
    by_cases hR : T.RightT t
    · have HR := Lib.hid hR
      clear hR
      obtain ⟨L, hL⟩ : ∃ L, S.textL t = L := ⟨_, rfl⟩
      have HL := Lib.hid hL
      obtain ⟨K, hK⟩ : ∃ K, T.kidsL t (-1) = K := ⟨_, rfl⟩
      have hKl : K.length ≤ 1073741824 := by rw [← hK]; exact Nat.le_trans (T.filter_len t.length _) hll
      have HK := Lib.hid hK
      clear hL hK
      go_wp2_with fail
      refine (text_is A c t.length t L _ HA.out rfl HR.out HL.out).mono ?_
      rintro e wx2 ⟨rfl, hx⟩
      replace HA := Lib.hid (HA.out.below hx)
      replace hb := bthen hb hx
      clear hx
      go_wp2_with fail
      refine (kids_is A c t (-1) K _ HA.out hll (by decide) (by omega) HR.out HK.out).mono ?_
      rintro e wx3 ⟨B3, cap3, rfl, hcap3, hseen, hx⟩
      replace HA := Lib.hid (HA.out.below hx)
      replace hb := bthen hb hx
      have HS := Lib.hid hseen
      clear hx hseen
      go_wp2
      go_loopg [5, 34] K.length (fun g v x wr => ∃ j m : Nat, j + g = K.length ∧ x = .int .i64 j ∧ Hid (T.Parts t K j m) ∧ v = .string ⟨(S.textTo t m).toArray⟩ ∧ Below wx3.heap.size wx3 wr)
      case atStart => exact ⟨0, 0, Nat.zero_add _, rfl, T.Parts.start t K, rfl, Below.refl _ _⟩
      case round =>
        obtain ⟨j, m, hg, rfl, HP, rfl, hbr⟩ := hrel
        have HG := Lib.hid hg
        have HBr := Lib.hid hbr
        clear hg hbr
        by_cases hlt : j < K.length
        · have blt : decide (j < K.length) = true := decide_eq_true hlt
          obtain ⟨n1, n2, n3, _⟩ := T.Parts.next HR.out HK.out HP.out hlt
          have hdm := (HR.out.root_iff n2).1 (HP.out.2.2.elim (fun h => absurd h (by omega)) (·.2))
          obtain ⟨P, hP⟩ : ∃ P, S.textL (T.subL t m) = P := ⟨_, rfl⟩
          obtain ⟨T0, hT0⟩ : ∃ T0, S.textTo t m = T0 := ⟨_, rfl⟩
          have hT1 := S.RightT.sub_text HR.out n2 hdm
          rw [hP, hT0] at hT1
          have hl1 := S.RightT.text_len HR.out m (by omega)
          have hl2 := S.RightT.text_len HR.out (T.endL t m) (T.end_spec t m n2).2.1
          have he200 : T.endL t m ≤ 220 := by have := (T.end_spec t m n2).2.1; omega
          rw [← hT1, List.length_append] at hl2
          rw [hT0] at hl1 ⊢
          have hT0l : T0.length ≤ 220000 := by omega
          have hPl : P.length ≤ 220000 := by omega
          have HT1 := Lib.hid hT1
          have HP1 := Lib.hid hP
          have HN3 := Lib.hid n3
          have hsub := Lib.hid (HR.out.sub m n2)
          obtain ⟨b, o, rfl, hbw, hKs⟩ := HS.out (by omega)
          have k0 := (hKs.below HBr.out hbw).num hlt
          rw [n1] at k0
          clear hP hT0 hT1 n1 n3 hl1 hl2 hdm hKs he200
          go_wp2_with fail
          refine (part_yes A c t m _ (HA.out.below HBr.out) hc HR.out n2 P hsub.out HP1.out).mono ?_
          rintro e wx4 ⟨rfl, hx⟩
          have HB4 := Lib.hid (HBr.out.trans (hx.mono HBr.out.size))
          clear hx
          go_wp2
          go_roundg (K.length - (j + 1))
          case rel => exact ⟨j + 1, T.endL t m, by have := HG.out; omega, by go_num, HN3.out, by rw [← HT1.out]; exact congrArg Value.string (ByteArray.ext (by simp [ByteArray.data_append])), HB4.out⟩
          case measure => have := HG.out; omega
        · have blt : decide (j < K.length) = false := decide_eq_false hlt
          obtain rfl : j = K.length := by have := HG.out; omega
          have hm := T.Parts.done HK.out HP.out
          have hTL : S.textTo t m = L := by rw [hm]; exact HL.out
          replace hb := bthen hb HBr.out
          rw [hTL]
          clear hTL hm
          go_wp2_with fail
          refine (awake_any _).mono ?_
          rintro e wz ⟨rfl, hx⟩
          go_wp2
          go_ret
          exact ⟨rfl, bthen hb hx⟩
    · have HR := Lib.hid hR
      clear hR
      go_wp2_with fail
      refine (text_no A c t _ HA.out hll HR.out).mono ?_
      rintro e wx2 ⟨rfl, hx⟩
      replace HA := Lib.hid (HA.out.below hx)
      replace hb := bthen hb hx
      clear hx
      go_wp2_with fail
      refine (rightR_is A c t false _ HA.out hll (no_iff HR.out)).mono ?_
      rintro e wx3 ⟨rfl, hx⟩
      replace hb := bthen hb hx
      clear hx
      go_wp2_with fail
      refine (awake_any _).mono ?_
      rintro e wz ⟨rfl, hx⟩
      go_wp2
      go_ret
      exact ⟨rfl, bthen hb hx⟩
end Go.Proofs.Ytokhflpeeibeeaa
