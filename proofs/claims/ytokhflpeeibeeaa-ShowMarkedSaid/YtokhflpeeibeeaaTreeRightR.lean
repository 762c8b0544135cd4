/-
  Contract of the document's Right (layer 3): it returns whether lines are a tree, by the plain definition; below the heap's size at the call the world is as it was. Condition: at most 2^30 lines.
-/
import Derived.Test.YtokhflpeeibeeaaTreeRight
import Derived.IntWalk
namespace Go.Proofs.Ytokhflpeeibeeaa
open Go.RowKit

theorem wrapI (n : Int) (h : -9223372036854775808 ≤ n ∧ n ≤ 9223372036854775807) : IntKind.i64.wrap n = n := IntWalk.i64_in _ (by omega)
def RelF (w : World) (t : List T.Ln) (g : Nat) (i : Value) (wr : World) : Prop := ∃ k : Nat, k + g = t.length ∧ i = .int .i64 k ∧ (∀ m, m < k → T.Fits t m) ∧ Below w.heap.size w wr
def RelP (w : World) (t : List T.Ln) (g : Nat) (i : Value) (wr : World) : Prop := ∃ k : Nat, k + g = t.length ∧ i = .int .i64 k ∧ (∀ m, m < k → ∀ c, m < c → c < t.length → T.Rise t m c) ∧ Below w.heap.size w wr
theorem first_ok (t : List T.Ln) : T.Fits t 0 ↔ (((0 ≤ T.dp t 0 ∧ T.dp t 0 ≤ 15) ∧ (T.wd t 0).length ≤ 40 ∧ 0 ≤ (T.at_ t 0).mark ∧ (T.at_ t 0).mark ≤ 3) ∧ T.dp t 0 = 0) := by
  unfold T.Fits T.aheadL
  rw [if_pos rfl]
  constructor
  · rintro ⟨h, h2⟩; exact ⟨h, by omega⟩
  · rintro ⟨h, h2⟩; exact ⟨h, by omega⟩

set_option maxRecDepth 100000 in
set_option maxHeartbeats 2000000 in
theorem rightR_any (A : Option Addr) (c : Nat) (t : List T.Ln) (w : World) (hA : Seen eL w A t) (hl : t.length ≤ 1073741824) :
    Calls Try.prog 13 #[.slice A t.length c] w (RightS w t) := by
  have HA := Lib.hid hA
  clear hA
  by_cases h200 : t.length ≤ 200
  · have b200 : decide ((200 : Int) < (t.length : Int)) = false := by simp; omega
    go_enter Try.func13, Try.ntmps13
    go_wp2
    go_loopg [3] t.length (fun g i wr => RelF w t g i wr)
    case atStart => exact ⟨0, Nat.zero_add _, rfl, fun m h => absurd h (Nat.not_lt_zero _), Below.refl _ _⟩
    case round =>
      obtain ⟨k, hg, rfl, hF, hb⟩ := hrel
      have HG := Lib.hid hg
      have HF := Lib.hid hF
      clear hg hF
      by_cases hlt : k < t.length
      · obtain ⟨b, o, rfl, hbw, hL⟩ := HA.out.lines (by omega)
        have hL2 := hL.below hb hbw
        obtain ⟨c0, c1, c2⟩ := hL2.line hlt
        have HL := Lib.hid hL2
        have hbr : b < wr.heap.size := Nat.lt_of_lt_of_le hbw hb.size
        clear hL hL2
        have no : ∀ w' : World, (¬ fitB (T.dp t k) (sB (T.wd t k)).size (T.at_ t k).mark) → Below w.heap.size w w' → RightS w t (.returned (.bool false)) w' := fun _ h hb => RightS.no (fun hR => h (by have := (hR.fits hlt).1; unfold fitB; rw [sB_size]; exact this)) hb
        have NO := Lib.hid no
        clear no
        by_cases h1 : T.dp t k < 0
        · have b1 : decide (T.dp t k < (0 : Int)) = true := decide_eq_true h1
          go_wp2
          go_ret
          exact NO.out _ (fun h => by have := h.1.1; omega) (hb.alloc hb.size _)
        · have b1 : decide (T.dp t k < (0 : Int)) = false := decide_eq_false h1
          by_cases h2 : 15 < T.dp t k
          · have b2 : decide ((15 : Int) < T.dp t k) = true := decide_eq_true h2
            go_wp2
            go_ret
            exact NO.out _ (fun h => by have := h.1.2; omega) (hb.alloc hb.size _)
          · have b2 : decide ((15 : Int) < T.dp t k) = false := decide_eq_false h2
            by_cases h3 : 40 < (sB (T.wd t k)).size
            · have b3 : decide ((40 : Int) < ((sB (T.wd t k)).size : Int)) = true := decide_eq_true (by omega)
              go_wp2
              go_ret
              exact NO.out _ (fun h => by have := h.2.1; omega) (hb.alloc hb.size _)
            · have b3 : decide ((40 : Int) < ((sB (T.wd t k)).size : Int)) = false := decide_eq_false (by omega)
              by_cases h4 : (T.at_ t k).mark < 0
              · have b4 : decide ((T.at_ t k).mark < (0 : Int)) = true := decide_eq_true h4
                go_wp2
                go_ret
                exact NO.out _ (fun h => by have := h.2.2.1; omega) (hb.alloc hb.size _)
              · have b4 : decide ((T.at_ t k).mark < (0 : Int)) = false := decide_eq_false h4
                by_cases h5 : 3 < (T.at_ t k).mark
                · have b5 : decide ((3 : Int) < (T.at_ t k).mark) = true := decide_eq_true h5
                  go_wp2
                  go_ret
                  exact NO.out _ (fun h => by have := h.2.2.2; omega) (hb.alloc hb.size _)
                · have b5 : decide ((3 : Int) < (T.at_ t k).mark) = false := decide_eq_false h5
                  have HT := Lib.hid (show (0 ≤ T.dp t k ∧ T.dp t k ≤ 15) ∧ (T.wd t k).length ≤ 40 ∧ 0 ≤ (T.at_ t k).mark ∧ (T.at_ t k).mark ≤ 3 from ⟨⟨by omega, by omega⟩, by rw [sB_size] at h3; omega, by omega, by omega⟩)
                  match k, HG, HF, hlt, c0, c1, c2, b1, b2, b3, b4, b5, h1, h2, HT with
                  | 0, HG, HF, hlt, c0, c1, c2, b1, b2, b3, b4, b5, h1, h2, HT =>
                    simp only [Nat.zero_mul, Nat.add_zero] at c0 c1 c2
                    by_cases h6 : T.dp t 0 = 0
                    · have b6 : (T.dp t 0 != 0) = false := by simp [h6]
                      have HN := Lib.hid ((first_ok t).2 ⟨HT.out, h6⟩)
                      clear h6
                      go_wp2
                      go_region
                      go_wp2
                      go_roundg (t.length - 1)
                      case rel => exact ⟨1, (by omega), by go_num, to_next HF.out HN.out, (hb.alloc hb.size _).drew⟩
                      case measure => have := HG.out; omega
                    · have b6 : (T.dp t 0 != 0) = true := bne_iff_ne.2 h6
                      have HN := Lib.hid (show ¬ T.RightT t from fun h => h6 (h.first hlt))
                      clear h6
                      go_wp2
                      go_region
                      go_wp2
                      go_ret
                      exact RightS.no HN.out (hb.alloc hb.size _).drew
                  | k + 1, HG, HF, hlt, c0, c1, c2, b1, b2, b3, b4, b5, h1, h2, HT =>
                    obtain ⟨d0, _, _⟩ := HL.out.line (show k < t.length by omega)
                    have hd := (HF.out k (by omega)).1.1
                    have hk0 : (((k : Int) + 1) == 0) = false := beq_eq_false_iff_ne.2 (by omega)
                    have hk1 : decide ((0 : Int) < (k : Int) + 1) = true := decide_eq_true (by omega)
                    have e1 : IntKind.i64.wrap ((k : Int) + 1 - 1) = (k : Int) := by rw [wrapI _ (by omega)]; omega
                    have e2 : IntKind.i64.wrap (T.dp t k + 1) = T.dp t k + 1 := wrapI _ (by omega)
                    by_cases h6 : T.dp t (k + 1) ≤ T.dp t k + 1
                    · have b6 : decide (T.dp t k + 1 < T.dp t (k + 1)) = false := decide_eq_false (by omega)
                      have HN := Lib.hid (show T.Fits t (k + 1) from ⟨HT.out, by rw [T.ahead_next]; exact h6⟩)
                      clear h6
                      go_wp2
                      go_region
                      go_wp2
                      go_roundg (t.length - (k + 2))
                      case rel => exact ⟨k + 2, (by omega), by go_num, to_next HF.out HN.out, (hb.alloc hb.size _).drew⟩
                      case measure => have := HG.out; omega
                    · have b6 : decide (T.dp t k + 1 < T.dp t (k + 1)) = true := decide_eq_true (by omega)
                      have HN := Lib.hid (show ¬ T.RightT t from fun h => h6 (h.step k hlt))
                      clear h6
                      go_wp2
                      go_region
                      go_wp2
                      go_ret
                      exact RightS.no HN.out (hb.alloc hb.size _).drew
      · have hkl : k = t.length := by have := HG.out; omega
        subst hkl
        clear HG
        go_wp2
        go_loopg [5, 6] t.length (fun g i _ wr => RelP w t g i wr)
        case atStart => exact ⟨0, Nat.zero_add _, rfl, fun m h => absurd h (Nat.not_lt_zero _), hb⟩
        case round =>
          obtain ⟨i, hg, rfl, hP, hb2⟩ := hrel
          obtain ⟨go, rfl⟩ : ∃ go : Nat, go = gk := ⟨_, rfl⟩
          have HG := Lib.hid hg
          have HP := Lib.hid hP
          clear hg hP
          by_cases hi : i < t.length
          · obtain ⟨b, o, rfl, hbw, hL⟩ := HA.out.lines (by omega)
            have HL := Lib.hid hL
            clear hL
            go_wp2
            go_loopg [6] (t.length - (i + 1)) (fun g k wr => ∃ j : Nat, Hid (j + g = t.length) ∧ i < j ∧ j ≤ t.length ∧ k = .int .i64 j ∧ Hid (T.PairTo t i j) ∧ Below w.heap.size w wr)
            case atStart => exact ⟨i + 1, (by show _ = _; omega), by omega, by omega, by go_num, T.PairTo.start t i, hb2⟩
            case round =>
              obtain ⟨j, HJ, hij, hj, rfl, HI, hb3⟩ := hrel
              by_cases hjl : j < t.length
              · have bjl : decide ((j : Int) < (t.length : Int)) = true := decide_eq_true (by omega)
                obtain ⟨c0, c1, _⟩ := (HL.out.below hb3 hbw).line hjl
                obtain ⟨d0, d1, _⟩ := (HL.out.below hb3 hbw).line hi
                by_cases hge : T.dp t i ≤ T.dp t j
                · have bge : decide (T.dp t i ≤ T.dp t j) = true := decide_eq_true hge
                  by_cases heq : T.dp t j = T.dp t i
                  · have beq : (T.dp t i == T.dp t i) = true := beq_self_eq_true _
                    cases hw : Op.bytesLess (T.wd t i) (T.wd t j) with
                    | true =>
                      have HN := Lib.hid (HI.out.next hge (fun _ => hw))
                      obtain ⟨x1, x2⟩ := leq_no hw
                      rw [heq] at c0 bge
                      clear hw heq hge
                      go_wp2
                      go_region
                      go_wp2
                      go_region
                      go_wp2
                      go_roundg (t.length - (j + 1))
                      case rel => exact ⟨j + 1, (by show _ = _; omega), by omega, by omega, by go_num, HN, hb3.drew.drew⟩
                      case measure => have := HJ.out; omega
                    | false =>
                      have HN := Lib.hid (HI.out.bad hij hjl heq hw)
                      rcases leq_yes hw with x1 | ⟨x1, x2⟩
                      all_goals
                        rw [heq] at c0 bge
                        clear hw heq hge
                        go_wp2
                        go_region
                        go_wp2
                        go_region
                        go_wp2
                        go_ret
                        exact RightS.no HN.out hb3.drew.drew
                  · have beq : (T.dp t j == T.dp t i) = false := beq_eq_false_iff_ne.2 heq
                    have HN := Lib.hid (HI.out.next hge (fun h => absurd h heq))
                    clear heq hge
                    go_wp2
                    go_region
                    go_wp2
                    go_region
                    go_wp2
                    go_roundg (t.length - (j + 1))
                    case rel => exact ⟨j + 1, (by show _ = _; omega), by omega, by omega, by go_num, HN, hb3.drew.drew⟩
                    case measure => have := HJ.out; omega
                · have bge : decide (T.dp t i ≤ T.dp t j) = false := decide_eq_false hge
                  have HN := Lib.hid (HI.out.done hij (fun _ => by omega))
                  clear hge
                  go_wp2
                  go_region
                  go_wp2
                  go_roundg (t.length - (i + 1))
                  case rel => exact ⟨i + 1, by omega, by go_num, to_next HP.out HN.out, hb3.drew⟩
                  case measure => have := HG.out; omega
              · have bjl : decide ((j : Int) < (t.length : Int)) = false := decide_eq_false (by omega)
                have HN := Lib.hid (HI.out.done hij (fun h => absurd h hjl))
                go_wp2
                go_region
                go_wp2
                go_roundg (t.length - (i + 1))
                case rel => exact ⟨i + 1, by omega, by go_num, to_next HP.out HN.out, hb3.drew⟩
                case measure => have := HG.out; omega
          · have HN := Lib.hid (T.right_of h200 HF.out (fun a c h1 h2 => HP.out a (by omega) c h1 h2))
            go_wp2
            go_ret
            exact RightS.yes HN.out hb2
  · have b200 : decide ((200 : Int) < (t.length : Int)) = true := by simp; omega
    go_enter Try.func13, Try.ntmps13
    go_wp2
    go_ret
    exact RightS.no (fun h => h200 h.len) (Below.refl _ _)
end Go.Proofs.Ytokhflpeeibeeaa
