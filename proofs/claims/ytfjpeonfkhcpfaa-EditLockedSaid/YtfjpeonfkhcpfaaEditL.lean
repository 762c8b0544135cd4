/-
  Contracts of the code's protected, Locked, Above, Set, find and findFor (layer 7). Condition: at most 2^30 lines and words.
-/
import Derived.Test.YtfjpeonfkhcpfaaEditR
import Derived.Test.YtfjpeonfkhcpfaaLinesM
namespace Go.Proofs.Ytfjpeonfkhcpfaa
open Go.RowKit
set_option linter.unusedVariables false

theorem and_two {m : Int} (hm : m = 0 ∨ m = 1 ∨ m = 2 ∨ m = 3) : bits BinOp.and IntKind.i64 m 2 = if 1 < m then 2 else 0 := by
  rcases hm with rfl | rfl | rfl | rfl <;> decide +kernel
set_option maxRecDepth 100000 in
theorem protected_any (d m : Int) (wd : ByteArray) (b : Bool) (w : World) (hm : m = 0 ∨ m = 1 ∨ m = 2 ∨ m = 3) (hb : decide (1 < m) = b) :
    Calls Try.prog 33 #[.agg #[.int .i64 d, .string wd, .int .i64 m]] w (BoolS w b) := by
  have h2 := and_two hm
  have hx : Below w.heap.size w (w.alloc (.cells #[.int .i64 d, .string wd, .int .i64 m] 41)) := (Below.refl _ _).alloc (Nat.le_refl _) _
  cases b with
  | true =>
    rw [if_pos (of_decide_eq_true hb)] at h2
    clear hb hm
    go_enter Try.func33, Try.ntmps33
    go_wp2
    go_ret
    exact ⟨rfl, hx⟩
  | false =>
    rw [if_neg (of_decide_eq_false hb)] at h2
    clear hb hm
    go_enter Try.func33, Try.ntmps33
    go_wp2
    go_ret
    exact ⟨rfl, hx⟩
/-- Where a beginning isn't there no longer one is. -/
theorem kept_stop {t : List T.Ln} {N : Nat} (h : T.RightN N t) {p : T.Pth} {j : Nat} (hno : ∀ i, i < t.length → T.pathL t i ≠ p.take (j + 1)) (hj : j < p.length) (hk : T.keptL t p j = false) : ∀ n, n ≤ p.length → T.keptL t p n = false := by
  intro n
  induction n with
  | zero => intro _; rfl
  | succ n ih =>
    intro hn
    rcases Nat.lt_or_ge n j with h1 | h1
    · cases e : T.keptL t p (n + 1) with
      | false => rfl
      | true => rw [keptL_mono t p j (n + 1) (by omega) e] at hk; cases hk
    · refine kept_miss (fun i hi e => ?_) (ih (by omega))
      obtain ⟨k, hk2, e2⟩ := h.path_take i i (j + 1) (Nat.le_refl _) hi (by omega) (by rw [e, List.length_take]; omega)
      exact hno k hk2 (by rw [e2, e, List.take_take, Nat.min_eq_left (by omega)])
set_option maxRecDepth 100000 in
set_option maxHeartbeats 2000000 in
theorem locked_right (A B : Option Addr) (c d m : Nat) (t : List T.Ln) (p : T.Pth) (w : World) (hm : p.length = m) (hA : Seen eL w A t) (hB : Seen eS w B p) (hl : t.length ≤ 1073741824) (hd : m ≤ d) (hp : m ≤ 1073741824) (hR : T.RightT t) :
    Calls Try.prog 17 #[.slice A t.length c, .slice B m d] w (BoolS w (T.keptL t p m)) := by
  have HM := Lib.hid hm
  have HA := Lib.hid hA
  have HB := Lib.hid hB
  have HR := Lib.hid hR
  clear hm hA hB hR
  go_enter Try.func17, Try.ntmps17
  go_wp2
  go_loopg [10] m (fun gk x wr => ∃ j : Nat, Hid (j + gk = m) ∧ j ≤ m ∧ x = .int .i64 (j : Int) ∧ Hid (T.keptL t p j = false) ∧ Below w.heap.size w wr)
  case atStart => exact ⟨0, Nat.zero_add _, Nat.zero_le _, rfl, rfl, Below.refl _ _⟩
  case round =>
    obtain ⟨j, HG, hj, rfl, HK, hb⟩ := hrel
    by_cases hlt : j < m
    · have blt : decide ((j : Int) < (m : Int)) = true := decide_eq_true (by omega)
      have blt2 : decide (j < m) = true := decide_eq_true hlt
      have hjp : j + 1 ≤ p.length := by have := HM.out; omega
      obtain ⟨b, o, rfl, hbw, hH⟩ := HB.out (by omega)
      have HQ := Lib.hid (show (p.take (j + 1)).length = j + 1 by rw [List.length_take]; omega)
      have hji : (j : Int) + 1 ≤ (d : Int) := by omega
      have hji3 : j + 1 ≤ d := by omega
      have hji4 : j + 1 ≤ m := by omega
      have hfind := find_any A (some ⟨b, o, none⟩) c d t (p.take (j + 1)) wr (HA.out.below hb) (((hH.take (j + 1)).seen hbw).below hb) hl (by rw [HQ.out]; omega) HR.out
      rw [HQ.out] at hfind
      have hgk := HG.out
      have HJP := Lib.hid hjp
      clear hH hjp
      go_wp2_with fail
      refine hfind.mono ?_
      rintro e w2 ⟨hcase, hx2⟩
      have hbn := bthen hb hx2
      clear hfind hx2 hb
      rcases hcase with ⟨i, hi, hpi, rfl⟩ | ⟨hno, rfl⟩
      · have hk2 := kept_hit HR.out hi hpi HK.out
        obtain ⟨b2, o2, rfl, hb2, hL⟩ := HA.out.lines (by omega)
        obtain ⟨c0, c1, c2⟩ := (hL.below hbn hb2).line hi
        have hm4 : (T.at_ t i).mark = 0 ∨ (T.at_ t i).mark = 1 ∨ (T.at_ t i).mark = 2 ∨ (T.at_ t i).mark = 3 := by have := HR.out.mark i hi; omega
        obtain ⟨mk, hmk⟩ : ∃ mk, (T.at_ t i).mark = mk := ⟨_, rfl⟩
        rw [hmk] at c2 hk2 hm4
        have HM4 := Lib.hid hm4
        have hii : (i : Int) < (t.length : Int) := by omega
        cases hmk1 : decide ((1 : Int) < mk) with
        | true =>
          rw [hmk1] at hk2
          have HN := Lib.hid (keptL_mono t p m (j + 1) (by omega) hk2)
          have HP := Lib.hid hmk1
          clear hk2 hL hpi hm4 hmk1 hmk
          go_wp2_with fail
          refine (protected_any _ mk _ true w2 HM4.out HP.out).mono ?_
          rintro e w3 ⟨rfl, hx3⟩
          go_wp2
          go_ret
          exact ⟨by rw [HN.out]; rfl, bthen hbn hx3⟩
        | false =>
          rw [hmk1] at hk2
          have HN := Lib.hid hk2
          have HP := Lib.hid hmk1
          clear hk2 hL hpi hm4 hmk1 hmk
          go_wp2_with fail
          refine (protected_any _ mk _ false w2 HM4.out HP.out).mono ?_
          rintro e w3 ⟨rfl, hx3⟩
          have hbn2 := bthen hbn hx3
          go_wp2
          go_roundg (m - (j + 1))
          case rel => exact ⟨j + 1, (by show _ = _; omega), by omega, by go_num, HN, hbn2⟩
          case measure => omega
      · have HN := Lib.hid (kept_stop HR.out hno (by have := HJP.out; omega) HK.out m (by have := HM.out; omega))
        clear hno
        go_wp2
        go_ret
        exact ⟨by rw [HN.out]; rfl, hbn⟩
    · have blt : decide ((j : Int) < (m : Int)) = false := decide_eq_false (by omega)
      have blt2 : decide (j < m) = false := decide_eq_false hlt
      obtain rfl : j = m := by omega
      go_wp2
      go_ret
      exact ⟨by rw [HK.out]; rfl, hb⟩
set_option maxRecDepth 100000 in
set_option maxHeartbeats 2000000 in
theorem locked_wrong (A B : Option Addr) (c d m : Nat) (t : List T.Ln) (p : T.Pth) (w : World) (hm : p.length = m) (hA : Seen eL w A t) (hB : Seen eS w B p) (hl : t.length ≤ 1073741824) (hd : m ≤ d) (hp : m ≤ 1073741824) (hR : ¬ T.RightT t) :
    Calls Try.prog 17 #[.slice A t.length c, .slice B m d] w (BoolS w false) := by
  have HA := Lib.hid hA
  have HR := Lib.hid hR
  clear hA hR
  cases m with
  | zero =>
    go_enter Try.func17, Try.ntmps17
    go_wp2
    go_loopg [10] 0 (fun gk x wr => x = .int .i64 0 ∧ gk = 0 ∧ w = wr)
    case atStart => exact ⟨rfl, rfl, rfl⟩
    case round =>
      obtain ⟨rfl, rfl, rfl⟩ := hrel
      go_wp2
      go_ret
      exact ⟨rfl, Below.refl _ _⟩
  | succ m =>
    obtain ⟨b, o, rfl, _, _⟩ := hB (by omega)
    clear hB hm
    have h1 : 1 ≤ d := by omega
    have h1i : (1 : Int) ≤ (d : Int) := by omega
    have h2i : (1 : Int) ≤ (m : Int) + 1 := by omega
    have h0 : decide ((0 : Int) < (m : Int) + 1) = true := decide_eq_true (by omega)
    have hd1 : m + 1 ≤ d := hd
    go_enter Try.func17, Try.ntmps17
    go_wp2
    go_loopg [10] 0 (fun gk x wr => x = .int .i64 0 ∧ gk = 0 ∧ w = wr)
    case atStart => exact ⟨rfl, rfl, rfl⟩
    case round =>
      obtain ⟨rfl, rfl, rfl⟩ := hrel
      go_wp2_with fail
      refine (find_wrong A _ c d t 1 w HA.out hl HR.out).mono ?_
      rintro e w2 ⟨rfl, hx2⟩
      go_wp2
      go_ret
      exact ⟨rfl, hx2⟩
end Go.Proofs.Ytfjpeonfkhcpfaa
