/-
  The walk of layer 5's statement ParseCounts: it returns true whatever the text is. No conditions.
-/
import Derived.Test.YtjgogjamkbmcjaaParseAwake
import Derived.Test.YtjgogjamkbmcjaaLexR
namespace Go.Proofs.Ytjgogjamkbmcjaa
open Go.RowKit

theorem cnt_next (k : Int) (l : List W.Tok) (j : Nat) (h : j < l.length) {kd : Int} {ps : Nat} {wo : List UInt8} {bt : Int} (ht : l[j] = ⟨kd, ps, wo, bt⟩) : S.cntK k (l.take (j + 1)) = S.cntK k (l.take j) + S.one kd k := by
  rw [List.take_succ_eq_append_getElem h, S.cnt_snoc, ht]
/-- The counts of the first tokens. -/
def RelC (toks : List W.Tok) (w1 : World) (gk : Nat) (x9 x10 x11 x : Value) (wr : World) : Prop :=
  ∃ (j a b c : Nat), Hid (j + gk = toks.length) ∧ j ≤ toks.length ∧ x = .int .i64 j ∧ x9 = .int .i64 a ∧ x10 = .int .i64 b ∧ x11 = .int .i64 c ∧ Hid (S.cntK 1 (toks.take j) = a ∧ S.cntK 2 (toks.take j) = b ∧ S.cntK 3 (toks.take j) = c) ∧ Below w1.heap.size w1 wr

set_option maxRecDepth 100000 in
set_option maxHeartbeats 2000000 in
theorem parseCounts_walk (w : World) (s : ByteArray) (hl : s.size ≤ maxLen) :
    Calls Try.prog 8 #[.string s] w (TrueS w) := by
  unfold maxLen at hl
  have hb : Below w.heap.size w w := Below.refl _ _
  by_cases h6 : 600 < s.size
  · have b6 : decide ((600 : Int) < (s.size : Int)) = true := decide_eq_true (by omega)
    clear h6
    go_enter Try.func8, Try.ntmps8
    go_wp2_with fail
    refine (awake_any _).mono ?_
    rintro e wz ⟨rfl, hx⟩
    go_wp2
    go_ret
    exact ⟨rfl, bthen hb hx⟩
  · have b6 : decide ((600 : Int) < (s.size : Int)) = false := decide_eq_false (by omega)
    have hs : s.size ≤ 1073741824 := by omega
    cases hp : S.parseL s.data.toList with
    | bad p er =>
      obtain ⟨_, her⟩ := S.parseL_bad hp
      have be : (er != 0) = true := by simp [her]
      have hc := tree_bad s p er w hs hp
      clear hp h6 her
      go_enter Try.func8, Try.ntmps8
      go_wp2_with fail
      refine hc.mono ?_
      rintro e w1 ⟨rfl, hx⟩
      replace hb := bthen hb hx
      clear hx hc
      go_wp2_with fail
      refine (refAll_any s _ hs).mono ?_
      rintro e w2 ⟨v, rfl, _, hx⟩
      replace hb := bthen hb hx
      clear hx
      go_wp2_with fail
      refine (awake_any _).mono ?_
      rintro e wz ⟨rfl, hx⟩
      go_wp2
      go_ret
      exact ⟨rfl, bthen hb hx⟩
    | ok t =>
      obtain ⟨toks, ht, hn1, hn2⟩ := S.parseL_counts hp
      have hc := tree_ok s t t.length w hs hp rfl
      have hr := fun w => refAll_any s w hs
      have htl : toks.length ≤ 600 := by have := W.lexL_len _ 0 toks ht; rw [← Lib.size_eq] at this; omega
      rw [ht] at hr
      have HN1 := Lib.hid hn1
      have HN2 := Lib.hid hn2
      clear hp h6 ht hn1 hn2
      go_enter Try.func8, Try.ntmps8
      go_wp2_with fail
      refine hc.mono ?_
      rintro e w1 ⟨B, cap, rfl, hcap, _, hx⟩
      replace hb := bthen hb hx
      clear hx hc
      go_wp2_with fail
      refine (hr _).mono ?_
      rintro e w2 ⟨v, he, hown, hx⟩
      have he : e = .returned (.tuple #[v, .int .i64 0, .int .i64 0]) := he
      subst he
      obtain ⟨A2, cap2, hv, hT⟩ := hown.seen
      have hv : v = .slice A2 toks.length cap2 := hv
      subst hv
      have hT : 0 < toks.length → ∃ g, A2 = some ⟨g, 0, none⟩ ∧ HoldsT w2 g toks := hT
      have HT := Lib.hid hT
      replace hb := bthen hb hx
      clear hx hown hT hr
      go_wp2
      go_loopg [9, 10, 11, 13, 40] toks.length (fun gk x9 x10 x11 x13 x wr => RelC toks w2 gk x9 x10 x11 x wr)
      case atStart => exact ⟨0, 0, 0, 0, Nat.zero_add _, Nat.zero_le _, rfl, rfl, rfl, rfl, ⟨rfl, rfl, rfl⟩, Below.refl _ _⟩
      case round =>
        obtain ⟨j, a, b, c, HG, hj, rfl, rfl, rfl, rfl, HC, hbr⟩ := hrel
        obtain ⟨ha, hb2, hc2⟩ := HC.out
        have la := S.cnt_len 1 (toks.take j)
        have lb := S.cnt_len 2 (toks.take j)
        have lc := S.cnt_len 3 (toks.take j)
        rw [List.length_take] at la lb lc
        have ha6 : a ≤ 600 := by omega
        have hb6 : b ≤ 600 := by omega
        have hc6 : c ≤ 600 := by omega
        by_cases hlt : j < toks.length
        · have blt : decide ((j : Int) < (toks.length : Int)) = true := decide_eq_true (by omega)
          obtain ⟨g, rfl, hTg⟩ := HT.out (by omega)
          obtain ⟨⟨kd, ps, wo, bt⟩, ht⟩ : ∃ x, toks[j] = x := ⟨_, rfl⟩
          obtain ⟨c0, c1, c2, c3⟩ := (hTg.below hbr).cells hlt ht
          have n1 := cnt_next 1 toks j hlt ht
          have n2 := cnt_next 2 toks j hlt ht
          have n3 := cnt_next 3 toks j hlt ht
          rw [ha] at n1
          rw [hb2] at n2
          rw [hc2] at n3
          have hbs := hbr.size
          have hb3 : Below w2.heap.size w2 (wr.alloc (.cells #[.int .i64 kd, .int .i64 (ps : Int), .string ⟨wo.toArray⟩, .int .i64 bt] 42)) := hbr.alloc hbs _
          generalize (⟨wo.toArray⟩ : ByteArray) = q at *
          clear hTg ht ha hb2 hc2 la lb lc
          by_cases k1 : kd = 1
          · subst k1
            have HN := Lib.hid (show S.cntK 1 (toks.take (j + 1)) = a + 1 ∧ S.cntK 2 (toks.take (j + 1)) = b ∧ S.cntK 3 (toks.take (j + 1)) = c from ⟨n1, n2, n3⟩)
            clear n1 n2 n3
            go_wp2
            go_roundg (toks.length - (j + 1))
            case rel => exact ⟨j + 1, a + 1, b, c, (by show _ = _; omega), by omega, by go_num, by go_num, rfl, rfl, HN, hb3⟩
            case measure => have := HG.out; omega
          · by_cases k2 : kd = 2
            · subst k2
              have HN := Lib.hid (show S.cntK 1 (toks.take (j + 1)) = a ∧ S.cntK 2 (toks.take (j + 1)) = b + 1 ∧ S.cntK 3 (toks.take (j + 1)) = c from ⟨n1, n2, n3⟩)
              clear n1 n2 n3 k1
              go_wp2
              go_roundg (toks.length - (j + 1))
              case rel => exact ⟨j + 1, a, b + 1, c, (by show _ = _; omega), by omega, by go_num, rfl, by go_num, rfl, HN, hb3⟩
              case measure => have := HG.out; omega
            · by_cases k3 : kd = 3
              · subst k3
                have HN := Lib.hid (show S.cntK 1 (toks.take (j + 1)) = a ∧ S.cntK 2 (toks.take (j + 1)) = b ∧ S.cntK 3 (toks.take (j + 1)) = c + 1 from ⟨n1, n2, n3⟩)
                clear n1 n2 n3 k1 k2
                go_wp2
                go_roundg (toks.length - (j + 1))
                case rel => exact ⟨j + 1, a, b, c + 1, (by show _ = _; omega), by omega, by go_num, rfl, rfl, by go_num, HN, hb3⟩
                case measure => have := HG.out; omega
              · have HN := Lib.hid (show S.cntK 1 (toks.take (j + 1)) = a ∧ S.cntK 2 (toks.take (j + 1)) = b ∧ S.cntK 3 (toks.take (j + 1)) = c from ⟨by rw [n1, S.one_no k1]; rfl, by rw [n2, S.one_no k2]; rfl, by rw [n3, S.one_no k3]; rfl⟩)
                have e1 : (kd == 1) = false := beq_eq_false_iff_ne.2 k1
                have e2 : (kd == 2) = false := beq_eq_false_iff_ne.2 k2
                have e3 : (kd == 3) = false := beq_eq_false_iff_ne.2 k3
                clear n1 n2 n3 k1 k2 k3
                go_wp2
                go_roundg (toks.length - (j + 1))
                case rel => exact ⟨j + 1, a, b, c, (by show _ = _; omega), by omega, by go_num, rfl, rfl, rfl, HN, hb3⟩
                case measure => have := HG.out; omega
        · have blt : decide ((j : Int) < (toks.length : Int)) = false := decide_eq_false (by omega)
          rw [List.take_of_length_le (by omega)] at ha hb2 hc2
          obtain rfl : a = t.length := by rw [← ha, HN1.out]
          obtain rfl : b = c := by rw [← hb2, ← hc2, HN2.out]
          replace hb := bthen hb hbr
          clear ha hb2 hc2 la lb lc HC
          go_wp2_with fail
          refine (awake_any _).mono ?_
          rintro e wz ⟨rfl, hx⟩
          go_wp2
          go_ret
          exact ⟨rfl, bthen hb hx⟩
end Go.Proofs.Ytjgogjamkbmcjaa
