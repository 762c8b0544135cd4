/-
  Contracts of the document's Kept, shut and without (layer 7): what is locked; a tree without a part. Condition: a tree.
-/
import Derived.Test.YtfjpeonfkhcpfaaLinesR
import Derived.Test.YtfjpeonfkhcpfaaPureG
namespace Go.Proofs.Ytfjpeonfkhcpfaa
open Go.RowKit
set_option linter.unusedVariables false

theorem keptL_mono (t : List T.Ln) (p : T.Pth) : ∀ (n k : Nat), k ≤ n → T.keptL t p k = true → T.keptL t p n = true
  | 0, k, hk, h => by obtain rfl : k = 0 := by omega
                      exact h
  | n + 1, k, hk, h => by
    rcases Nat.eq_or_lt_of_le hk with rfl | h1
    · exact h
    · unfold T.keptL; rw [keptL_mono t p n k (by omega) h]; rfl
theorem kept_hit {N : Nat} {t : List T.Ln} (h : T.RightN N t) {p : T.Pth} {j i : Nat} (hi : i < t.length) (e : T.pathL t i = p.take (j + 1)) (hk : T.keptL t p j = false) : T.keptL t p (j + 1) = decide (1 < (T.at_ t i).mark) := by
  unfold T.keptL
  rw [hk, T.findI_some h hi e, Int.toNat_natCast]
  simp
theorem kept_miss {t : List T.Ln} {p : T.Pth} {j : Nat} (hno : ∀ i, i < t.length → T.pathL t i ≠ p.take (j + 1)) (hk : T.keptL t p j = false) : T.keptL t p (j + 1) = false := by
  unfold T.keptL
  rw [hk, T.findI_none hno]
  simp
set_option maxRecDepth 100000 in
set_option maxHeartbeats 2000000 in
theorem refKept_any (A B : Option Addr) (c d n m : Nat) (t : List T.Ln) (p : T.Pth) (w : World) (hm : p.length = m) (hA : Seen eL w A t) (hB : Seen eS w B p) (hl : t.length ≤ 1073741824) (hnm : n ≤ m) (hd : m ≤ d) (hp : m ≤ 1073741824) (hR : T.RightT t) :
    Calls Try.prog 18 #[.slice A t.length c, .slice B m d, .int .i64 (n : Int)] w (BoolS w (T.keptL t p n)) := by
  have HM := Lib.hid hm
  have HA := Lib.hid hA
  have HB := Lib.hid hB
  have HR := Lib.hid hR
  clear hm hA hB hR
  go_enter Try.func18, Try.ntmps18
  go_wp2
  go_loopg [7] n (fun gk x wr => ∃ j : Nat, Hid (j + gk = n) ∧ j ≤ n ∧ x = .int .i64 ((j : Int) + 1) ∧ Hid (T.keptL t p j = false) ∧ Below w.heap.size w wr)
  case atStart => exact ⟨0, Nat.zero_add _, Nat.zero_le _, rfl, rfl, Below.refl _ _⟩
  case round =>
    obtain ⟨j, HG, hj, rfl, HK, hb⟩ := hrel
    by_cases hlt : j < n
    · have blt : decide ((j : Int) + 1 ≤ (n : Int)) = true := decide_eq_true (by omega)
      have hjp : j + 1 ≤ p.length := by have := HM.out; omega
      obtain ⟨b, o, rfl, hbw, hH⟩ := HB.out (by omega)
      have HQ := Lib.hid (show (p.take (j + 1)).length = j + 1 by rw [List.length_take]; omega)
      have hji : (j : Int) + 1 ≤ (d : Int) := by omega
      have hji3 : j + 1 ≤ d := by omega
      have hji4 : j + 1 ≤ m := by omega
      have hfind := refFind_any A (some ⟨b, o, none⟩) c d t (p.take (j + 1)) wr (HA.out.below hb) (((hH.take (j + 1)).seen hbw).below hb) hl (by rw [HQ.out]; omega) HR.out
      rw [HQ.out] at hfind
      have hgk := HG.out
      clear hH hjp
      go_wp2_with fail
      refine hfind.mono ?_
      rintro e w2 ⟨hcase, hx2⟩
      have hbn := bthen hb hx2
      clear hfind hx2 hb
      rcases hcase with ⟨i, hi, hpi, rfl⟩ | ⟨hno, rfl⟩
      · have hk2 := kept_hit HR.out hi hpi HK.out
        obtain ⟨b2, o2, rfl, hb2, hL⟩ := HA.out.lines (by omega)
        obtain ⟨_, _, c2⟩ := (hL.below hbn hb2).line hi
        obtain ⟨mk, hmk⟩ : ∃ mk, (T.at_ t i).mark = mk := ⟨_, rfl⟩
        rw [hmk] at c2 hk2
        have bi : decide ((0 : Int) ≤ (i : Int)) = true := decide_eq_true (by omega)
        have hii : (i : Int) < (t.length : Int) := by omega
        cases hmk1 : decide ((1 : Int) < mk) with
        | true =>
          rw [hmk1] at hk2
          have HN := Lib.hid (keptL_mono t p n (j + 1) (by omega) hk2)
          clear hk2 hL hpi
          go_wp2
          go_ret
          exact ⟨by rw [HN.out]; rfl, hbn⟩
        | false =>
          rw [hmk1] at hk2
          have HN := Lib.hid hk2
          clear hk2 hL hpi
          go_wp2
          go_roundg (n - (j + 1))
          case rel => exact ⟨j + 1, (by show _ = _; omega), by omega, by go_num, HN, hbn⟩
          case measure => omega
      · have HN := Lib.hid (kept_miss hno HK.out)
        clear hno
        go_wp2
        go_roundg (n - (j + 1))
        case rel => exact ⟨j + 1, (by show _ = _; omega), by omega, by go_num, HN, hbn⟩
        case measure => omega
    · have blt : decide ((j : Int) + 1 ≤ (n : Int)) = false := decide_eq_false (by omega)
      obtain rfl : j = n := by omega
      go_wp2
      go_ret
      exact ⟨by rw [HK.out]; rfl, hb⟩
theorem refKept_none (A B : Option Addr) (c d n m : Nat) (w : World) :
    Calls Try.prog 18 #[.slice A n c, .slice B m d, .int .i64 (-1)] w (BoolS w false) := by
  go_enter Try.func18, Try.ntmps18
  go_wp2
  go_loopg [7] 0 (fun gk x wr => x = .int .i64 1 ∧ gk = 0 ∧ w = wr)
  case atStart => exact ⟨rfl, rfl, rfl⟩
  case round =>
    obtain ⟨rfl, rfl, rfl⟩ := hrel
    go_wp2
    go_ret
    exact ⟨rfl, Below.refl _ _⟩

theorem refEndE_is (A : Option Addr) (c : Nat) (t : List T.Ln) (i e : Nat) (w : World) (hA : Seen eL w A t) (hl : t.length ≤ 1073741824) (hi : i < t.length) (h : T.endL t i = e) :
    Calls Try.prog 61 #[.slice A t.length c, .int .i64 i] w (IntS w (e : Nat)) := by rw [← h]; exact refEnd_any A c t i w hA hi hl
/-- Is a line of the part Protect, or the path locked? -/
def anyB (t : List T.Ln) (a k : Nat) : Bool := (List.range k).any fun j => decide (1 < (T.at_ t (a + j)).mark)
def shutL (t : List T.Ln) (p : T.Pth) (a : Nat) : Bool := anyB t a (T.endL t a - a) || T.keptL t p p.length
theorem anyB_next (t : List T.Ln) (a k : Nat) : anyB t a (k + 1) = (anyB t a k || decide (1 < (T.at_ t (a + k)).mark)) := by
  unfold anyB; rw [List.range_succ, List.any_append]; simp
theorem anyB_mono (t : List T.Ln) (a : Nat) : ∀ (n k : Nat), k ≤ n → anyB t a k = true → anyB t a n = true
  | 0, k, hk, h => by obtain rfl : k = 0 := by omega
                      exact h
  | n + 1, k, hk, h => by
    rcases Nat.eq_or_lt_of_le hk with rfl | h1
    · exact h
    · rw [anyB_next, anyB_mono t a n k (by omega) h]; rfl
set_option maxRecDepth 100000 in
set_option maxHeartbeats 2000000 in
theorem refShut_any (A B : Option Addr) (c d a m : Nat) (t : List T.Ln) (p : T.Pth) (w : World) (hm : p.length = m) (hA : Seen eL w A t) (hB : Seen eS w B p) (hl : t.length ≤ 1073741824) (ha : a < t.length) (hd : m ≤ d) (hp : m ≤ 1073741824) (hR : T.RightT t) :
    Calls Try.prog 48 #[.slice A t.length c, .slice B m d, .int .i64 (a : Int)] w (BoolS w (shutL t p a)) := by
  obtain ⟨e0, he⟩ : ∃ e, T.endL t a = e := ⟨_, rfl⟩
  obtain ⟨g1, g2, _⟩ := T.end_spec t a ha
  rw [he] at g1 g2
  have HM := Lib.hid hm
  have HE := Lib.hid he
  have HA := Lib.hid hA
  have HB := Lib.hid hB
  have HR := Lib.hid hR
  clear hm hA hB hR he
  go_enter Try.func48, Try.ntmps48
  go_wp2
  go_loopg [7] (e0 - a) (fun gk x wr => ∃ k j : Nat, Hid (j + gk = e0 - a) ∧ j ≤ e0 - a ∧ k = a + j ∧ x = .int .i64 (k : Int) ∧ Hid (anyB t a j = false) ∧ Below w.heap.size w wr)
  case atStart => exact ⟨a, 0, Nat.zero_add _, Nat.zero_le _, rfl, rfl, rfl, Below.refl _ _⟩
  case round =>
    obtain ⟨k, j, HG, hj, hkj, rfl, HI, hb⟩ := hrel
    have hgk := HG.out
    have HKJ := Lib.hid hkj
    go_wp2_with fail
    refine (refEndE_is A c t a e0 _ (HA.out.below hb) hl ha HE.out).mono ?_
    rintro e w2 ⟨rfl, hx2⟩
    have hbn := bthen hb hx2
    clear hx2 hb
    by_cases hlt : k < e0
    · have blt : decide (k < e0) = true := decide_eq_true hlt
      have hkt : k < t.length := by omega
      obtain ⟨b2, o2, rfl, hb2, hL⟩ := HA.out.lines (by omega)
      obtain ⟨_, _, c2⟩ := (hL.below hbn hb2).line hkt
      obtain ⟨mk, hmk⟩ : ∃ mk, (T.at_ t k).mark = mk := ⟨_, rfl⟩
      have hn := anyB_next t a j
      rw [← hkj, HI.out, Bool.false_or, hmk] at hn
      rw [hmk] at c2
      cases hmk1 : decide ((1 : Int) < mk) with
      | true =>
        rw [hmk1] at hn
        have HN := Lib.hid (show shutL t p a = true by unfold shutL; rw [HE.out, anyB_mono t a (e0 - a) (j + 1) (by omega) hn]; rfl)
        clear hn hL hmk hkj
        go_wp2
        go_ret
        exact ⟨by rw [HN.out]; rfl, hbn⟩
      | false =>
        rw [hmk1] at hn
        have HN := Lib.hid hn
        clear hn hL hmk hkj
        go_wp2
        have hkj := HKJ.out
        go_roundg (e0 - a - (j + 1))
        case rel => exact ⟨k + 1, j + 1, (by show _ = _; omega), by omega, by omega, by go_num, HN, hbn⟩
        case measure => omega
    · have blt : decide (k < e0) = false := decide_eq_false hlt
      have hje : j = e0 - a := by omega
      have HN := Lib.hid (show shutL t p a = T.keptL t p m by unfold shutL; rw [HE.out, ← hje, HI.out, HM.out]; rfl)
      clear hje hkj
      go_wp2_with fail
      refine (refKept_any A B c d m m t p _ HM.out (HA.out.below hbn) (HB.out.below hbn) hl (Nat.le_refl _) hd hp HR.out).mono ?_
      rintro e w3 ⟨rfl, hx3⟩
      go_wp2
      go_ret
      exact ⟨by rw [HN.out]; rfl, bthen hbn hx3⟩
end Go.Proofs.Ytfjpeonfkhcpfaa
