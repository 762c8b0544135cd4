/-
  Contracts of layer 3's fits and Right: Right returns whether lines are a tree, by the plain definition; below the heap's size at the call the world is as it was. Condition: at most 2^30 lines.
-/
import Derived.Test.YtokhflpeeibeeaaTreeEq
import Derived.Test.YtokhflpeeibeeaaTreePure5
import Derived.Deep.OwnRows
namespace Go.Proofs.Ytokhflpeeibeeaa
open Go.RowKit

def fitB (d : Int) (n : Nat) (m : Int) : Prop := (0 ≤ d ∧ d ≤ 15) ∧ n ≤ 40 ∧ 0 ≤ m ∧ m ≤ 3
theorem fits_yes (d : Int) (s : ByteArray) (m : Int) (w : World) (h : fitB d s.size m) :
    Calls Try.prog 29 #[.agg #[.int .i64 d, .string s, .int .i64 m]] w (BoolS w true) := by
  obtain ⟨⟨h1, h2⟩, h3, h4, h5⟩ := h
  have b1 : decide ((0 : Int) ≤ d) = true := decide_eq_true h1
  have b2 : decide (d < (16 : Int)) = true := decide_eq_true (by omega)
  have b3 : decide ((s.size : Int) ≤ (40 : Int)) = true := decide_eq_true (by omega)
  have b4 : decide ((0 : Int) ≤ m) = true := decide_eq_true h4
  have b5 : decide (m ≤ (3 : Int)) = true := decide_eq_true h5
  go_enter Try.func29, Try.ntmps29
  go_wp2
  go_ret
  exact ⟨rfl, (Below.refl _ _).alloc (Nat.le_refl _) _⟩
theorem fits_no (d : Int) (s : ByteArray) (m : Int) (w : World) (h : ¬ fitB d s.size m) :
    Calls Try.prog 29 #[.agg #[.int .i64 d, .string s, .int .i64 m]] w (BoolS w false) := by
  by_cases h1 : 0 ≤ d
  · have b1 : decide ((0 : Int) ≤ d) = true := decide_eq_true h1
    by_cases h2 : d ≤ 15
    · have b2 : decide (d < (16 : Int)) = true := decide_eq_true (by omega)
      by_cases h3 : s.size ≤ 40
      · have b3 : decide ((s.size : Int) ≤ (40 : Int)) = true := decide_eq_true (by omega)
        by_cases h4 : 0 ≤ m
        · have b4 : decide ((0 : Int) ≤ m) = true := decide_eq_true h4
          have b5 : decide (m ≤ (3 : Int)) = false := decide_eq_false fun h5 => h ⟨⟨h1, h2⟩, h3, h4, h5⟩
          clear h
          go_enter Try.func29, Try.ntmps29
          go_wp2
          go_ret
          exact ⟨rfl, (Below.refl _ _).alloc (Nat.le_refl _) _⟩
        · have b4 : decide ((0 : Int) ≤ m) = false := decide_eq_false h4
          clear h
          go_enter Try.func29, Try.ntmps29
          go_wp2
          go_ret
          exact ⟨rfl, (Below.refl _ _).alloc (Nat.le_refl _) _⟩
      · have b3 : decide ((s.size : Int) ≤ (40 : Int)) = false := decide_eq_false (by omega)
        clear h
        go_enter Try.func29, Try.ntmps29
        go_wp2
        go_ret
        exact ⟨rfl, (Below.refl _ _).alloc (Nat.le_refl _) _⟩
    · have b2 : decide (d < (16 : Int)) = false := decide_eq_false (by omega)
      clear h
      go_enter Try.func29, Try.ntmps29
      go_wp2
      go_ret
      exact ⟨rfl, (Below.refl _ _).alloc (Nat.le_refl _) _⟩
  · have b1 : decide ((0 : Int) ≤ d) = false := decide_eq_false h1
    clear h
    go_enter Try.func29, Try.ntmps29
    go_wp2
    go_ret
    exact ⟨rfl, (Below.refl _ _).alloc (Nat.le_refl _) _⟩

/-- What Right leaves. -/
def RightS (w : World) (t : List T.Ln) (e : Ending) (w' : World) : Prop := ∃ b : Bool, e = .returned (.bool b) ∧ (b = true ↔ T.RightT t) ∧ Below w.heap.size w w'
theorem RightS.no {w w' : World} {t : List T.Ln} (h : ¬ T.RightT t) (hb : Below w.heap.size w w') : RightS w t (.returned (.bool false)) w' := ⟨false, rfl, ⟨(fun e => by cases e), fun e => absurd e h⟩, hb⟩
theorem RightS.yes {w w' : World} {t : List T.Ln} (h : T.RightT t) (hb : Below w.heap.size w w') : RightS w t (.returned (.bool true)) w' := ⟨true, rfl, ⟨fun _ => h, fun _ => rfl⟩, hb⟩

theorem row16 (w : World) : (w.alloc (.cells (Array.replicate 16 (.string ⟨#[]⟩)) 49)).rowIs w.heap.size 49 16 (fun _ => .string (sB [])) :=
  World.rowIs_alloc w (Array.replicate 16 (.string ⟨#[]⟩)) 49 _ (fun i hi => by simp at hi; simp [hi, sB])
/-- A comparison of words, as the walk asks it. -/
theorem leq_no {a b : List UInt8} (h : Op.bytesLess b a = true) : Op.bytesLess (sB a).toList (sB b).toList = false ∧ ((sB a).toList == (sB b).toList) = false := by
  rw [sB_toList, sB_toList]
  exact ⟨T.less_asymm h, beq_eq_false_iff_ne.2 fun e => by subst e; rw [T.less_irr] at h; cases h⟩
theorem leq_yes {a b : List UInt8} (h : Op.bytesLess b a = false) : Op.bytesLess (sB a).toList (sB b).toList = true ∨ (Op.bytesLess (sB a).toList (sB b).toList = false ∧ ((sB a).toList == (sB b).toList) = true) := by
  rw [sB_toList, sB_toList]
  rcases T.less_tri a b with h1 | h1 | h1
  · exact .inl h1
  · subst h1; exact .inr ⟨h, by simp⟩
  · rw [h] at h1; cases h1
/-- The newest words behind a store. -/
theorem row_store {w0 w : World} {g e : Nat} {f : Nat → List UInt8} (h : w0.rowIs g 49 16 (fun d => .string (sB (f d)))) (hb : Below w0.heap.size w0 w) (s : List UInt8) :
    (w.setCell ⟨g, e, none⟩ (.string (sB s))).rowIs g 49 16 (fun d => .string (sB (if d = e then s else f d))) := by
  have h1 : w.rowIs g 49 16 (fun d => .string (sB (f d))) := h.of_block (hb.block g h.lt)
  refine (h1.set e (.string (sB s))).congr fun i _ => ?_
  by_cases hi : i = e
  · simp [hi]
  · simp [hi]

theorem to_next {p : Nat → Prop} {k : Nat} (h : ∀ m, m < k → p m) (hk : p k) : ∀ m, m < k + 1 → p m := fun m hm => by
  rcases Nat.lt_or_ge m k with hlt | hge
  · exact h m hlt
  · obtain rfl : m = k := by omega
    exact hk

def RelR (w : World) (t : List T.Ln) (g : Nat) (a i : Value) (wr : World) : Prop :=
  ∃ (k : Nat) (f : Nat → List UInt8), k + g = t.length ∧ i = .int .i64 k ∧ a = .int .i64 (T.aheadL t k) ∧ (-1 ≤ T.aheadL t k ∧ T.aheadL t k ≤ 15) ∧ (∀ m, m < k → T.Fits t m) ∧ T.LastOk t k f ∧ T.RiseTo t k ∧
    wr.rowIs w.heap.size 49 16 (fun d => .string (sB (f d))) ∧ Below w.heap.size w wr

set_option maxRecDepth 100000 in
set_option maxHeartbeats 1000000 in
theorem right_any (A : Option Addr) (c : Nat) (t : List T.Ln) (w : World) (hA : Seen eL w A t) (hl : t.length ≤ 1073741824) :
    Calls Try.prog 19 #[.slice A t.length c] w (RightS w t) := by
  have HA := Lib.hid hA
  clear hA
  by_cases h200 : t.length ≤ 200
  · have b200 : decide ((200 : Int) < (t.length : Int)) = false := by simp; omega
    go_enter Try.func19, Try.ntmps19
    go_wp2
    go_loopg [4, 12] t.length (fun g a i wr => RelR w t g a i wr)
    case atStart => refine ⟨0, fun _ => [], Nat.zero_add _, rfl, rfl, ⟨by unfold T.aheadL; simp, by unfold T.aheadL; simp⟩, fun m h => absurd h (Nat.not_lt_zero _), T.LastOk.start _ _, fun i c h1 h2 => absurd h2 (Nat.not_lt_zero _), ?_, (Below.refl _ _).alloc (Nat.le_refl _) _⟩; exact row16 w
    case round =>
      obtain ⟨k, f, hg, rfl, rfl, ⟨ha1, ha2⟩, hF, hO, hR, hrow, hb⟩ := hrel
      have hgw := hrow.lt
      have HG := Lib.hid hg
      have HF := Lib.hid hF
      have HO := Lib.hid hO
      have HR := Lib.hid hR
      have HW := Lib.hid hrow
      clear hg hF hO hR hrow
      by_cases hlt : k < t.length
      · obtain ⟨b, o, rfl, hbw, hL⟩ := HA.out.lines (by omega)
        obtain ⟨c0, c1, c2⟩ := (hL.below hb hbw).line hlt
        by_cases hfit : fitB (T.dp t k) (sB (T.wd t k)).size (T.at_ t k).mark
        · obtain ⟨e, he⟩ := Int.eq_ofNat_of_zero_le hfit.1.1
          have hfit2 := hfit
          rw [he] at c0 hfit2
          have he15 : e < 16 := by have := hfit2.1.2; omega
          have HD := Lib.hid he
          have HT := Lib.hid hfit2
          have HT1 := Lib.hid hfit
          clear he hfit hfit2
          by_cases hstep : (e : Int) ≤ T.aheadL t k + 1
          · have bstep : decide (T.aheadL t k + 1 < (e : Int)) = false := decide_eq_false (by omega)
            have HFN := Lib.hid (show T.Fits t k from ⟨by have := HT1.out; unfold fitB at this; rw [sB_size] at this; exact this, by rw [HD.out]; exact hstep⟩)
            by_cases hle : (e : Int) ≤ T.aheadL t k
            · have ble : decide ((e : Int) ≤ T.aheadL t k) = true := decide_eq_true hle
              cases hw : Op.bytesLess (f e) (T.wd t k) with
              | true =>
                have HRN := Lib.hid (HR.out.next HO.out HD.out hstep (fun _ => hw))
                obtain ⟨x1, x2⟩ := leq_no hw
                clear hw
                go_wp2_with fail
                refine (fits_yes _ _ _ _ HT.out).mono ?_
                rintro x w1 ⟨rfl, hb1⟩
                have hb2 : Below wr.heap.size wr w1 := ((Below.refl wr.heap.size wr).alloc (Nat.le_refl _) _).trans (hb1.mono (by simp))
                have q0 : w1.cell? ⟨wr.heap.size, 0, none⟩ = some (.int .i64 (e : Int)) := by rw [hb1.cell (p := ⟨wr.heap.size, 0, none⟩) (by simp)]; simp
                have q1 : w1.cell? ⟨wr.heap.size, 1, none⟩ = some (.string (sB (T.wd t k))) := by rw [hb1.cell (p := ⟨wr.heap.size, 1, none⟩) (by simp)]; simp
                have qf : w1.cell? ⟨w.heap.size, e, none⟩ = some (.string (sB (f e))) := by rw [hb2.cell (p := ⟨w.heap.size, e, none⟩) hgw]; exact HW.out.cell he15
                have qz : w1.frozen? ⟨w.heap.size, e, none⟩ = false := by rw [hb2.frozen (p := ⟨w.heap.size, e, none⟩) hgw]; exact HW.out.frozen e
                have qs : (w1.setCell ⟨w.heap.size, e, none⟩ (.string (sB (T.wd t k)))).cell? ⟨wr.heap.size, 0, none⟩ = some (.int .i64 (e : Int)) := by rw [World.cell?_setCell_other _ _ _ _ (by intro h; injection h; omega)]; exact q0
                clear hb1
                go_wp2
                go_region
                go_wp2
                go_roundg (t.length - (k + 1))
                case rel => exact ⟨k + 1, _, by omega, by go_num, by rw [T.ahead_next, HD.out], by rw [T.ahead_next, HD.out]; omega, to_next HF.out HFN.out, HO.out.next HD.out hstep, HRN.out, row_store HW.out hb2 (T.wd t k), ((hb.trans (hb2.mono hb.size)).setCell (Nat.le_refl _) _).drew⟩
                case measure => have := HG.out; omega
              | false =>
                have HN := Lib.hid (show ¬ T.RightT t from fun h => by have := h.last hlt HO.out HD.out hle; rw [hw] at this; cases this)
                rcases leq_yes hw with x1 | ⟨x1, x2⟩
                all_goals
                  clear hw
                  go_wp2_with fail
                  refine (fits_yes _ _ _ _ HT.out).mono ?_
                  rintro x w1 ⟨rfl, hb1⟩
                  have hb2 : Below wr.heap.size wr w1 := ((Below.refl wr.heap.size wr).alloc (Nat.le_refl _) _).trans (hb1.mono (by simp))
                  have q0 : w1.cell? ⟨wr.heap.size, 0, none⟩ = some (.int .i64 (e : Int)) := by rw [hb1.cell (p := ⟨wr.heap.size, 0, none⟩) (by simp)]; simp
                  have q1 : w1.cell? ⟨wr.heap.size, 1, none⟩ = some (.string (sB (T.wd t k))) := by rw [hb1.cell (p := ⟨wr.heap.size, 1, none⟩) (by simp)]; simp
                  have qf : w1.cell? ⟨w.heap.size, e, none⟩ = some (.string (sB (f e))) := by rw [hb2.cell (p := ⟨w.heap.size, e, none⟩) hgw]; exact HW.out.cell he15
                  have qz : w1.frozen? ⟨w.heap.size, e, none⟩ = false := by rw [hb2.frozen (p := ⟨w.heap.size, e, none⟩) hgw]; exact HW.out.frozen e
                  have qs : (w1.setCell ⟨w.heap.size, e, none⟩ (.string (sB (T.wd t k)))).cell? ⟨wr.heap.size, 0, none⟩ = some (.int .i64 (e : Int)) := by rw [World.cell?_setCell_other _ _ _ _ (by intro h; injection h; omega)]; exact q0
                  clear hb1
                  go_wp2
                  go_region
                  go_wp2
                  go_ret
                  exact RightS.no HN.out (hb.trans (hb2.mono hb.size)).drew
            · have ble : decide ((e : Int) ≤ T.aheadL t k) = false := decide_eq_false hle
              have HRN := Lib.hid (HR.out.next HO.out HD.out hstep (fun h => absurd h hle))
              go_wp2_with fail
              refine (fits_yes _ _ _ _ HT.out).mono ?_
              rintro x w1 ⟨rfl, hb1⟩
              have hb2 : Below wr.heap.size wr w1 := ((Below.refl wr.heap.size wr).alloc (Nat.le_refl _) _).trans (hb1.mono (by simp))
              have q0 : w1.cell? ⟨wr.heap.size, 0, none⟩ = some (.int .i64 (e : Int)) := by rw [hb1.cell (p := ⟨wr.heap.size, 0, none⟩) (by simp)]; simp
              have q1 : w1.cell? ⟨wr.heap.size, 1, none⟩ = some (.string (sB (T.wd t k))) := by rw [hb1.cell (p := ⟨wr.heap.size, 1, none⟩) (by simp)]; simp
              have qf : w1.cell? ⟨w.heap.size, e, none⟩ = some (.string (sB (f e))) := by rw [hb2.cell (p := ⟨w.heap.size, e, none⟩) hgw]; exact HW.out.cell he15
              have qz : w1.frozen? ⟨w.heap.size, e, none⟩ = false := by rw [hb2.frozen (p := ⟨w.heap.size, e, none⟩) hgw]; exact HW.out.frozen e
              have qs : (w1.setCell ⟨w.heap.size, e, none⟩ (.string (sB (T.wd t k)))).cell? ⟨wr.heap.size, 0, none⟩ = some (.int .i64 (e : Int)) := by rw [World.cell?_setCell_other _ _ _ _ (by intro h; injection h; omega)]; exact q0
              clear hb1
              go_wp2
              go_region
              go_wp2
              go_roundg (t.length - (k + 1))
              case rel => exact ⟨k + 1, _, by omega, by go_num, by rw [T.ahead_next, HD.out], by rw [T.ahead_next, HD.out]; omega, to_next HF.out HFN.out, HO.out.next HD.out hstep, HRN.out, row_store HW.out hb2 (T.wd t k), ((hb.trans (hb2.mono hb.size)).setCell (Nat.le_refl _) _).drew⟩
              case measure => have := HG.out; omega
          · have bstep : decide (T.aheadL t k + 1 < (e : Int)) = true := decide_eq_true (by omega)
            have HN := Lib.hid (show ¬ T.RightT t from fun h => hstep (by rw [← HD.out]; exact (h.fits hlt).2))
            go_wp2_with fail
            refine (fits_yes _ _ _ _ HT.out).mono ?_
            rintro x w1 ⟨rfl, hb1⟩
            have q0 : w1.cell? ⟨wr.heap.size, 0, none⟩ = some (.int .i64 (e : Int)) := by rw [hb1.cell (p := ⟨wr.heap.size, 0, none⟩) (by simp)]; simp
            go_wp2
            go_ret
            exact RightS.no HN.out (((hb.alloc hb.size _)).trans (hb1.mono (by simp; omega)))
        · have HN := Lib.hid (show ¬ T.RightT t from fun h => hfit (by have := (h.fits hlt).1; unfold fitB; rw [sB_size]; exact this))
          have HT := Lib.hid hfit
          clear hfit
          go_wp2_with fail
          refine (fits_no _ _ _ _ HT.out).mono ?_
          rintro x w1 ⟨rfl, hb1⟩
          go_wp2
          go_ret
          exact RightS.no HN.out (((hb.alloc hb.size _)).trans (hb1.mono (by simp; omega)))
      · have hkl : k = t.length := by have := HG.out; omega
        have HN := Lib.hid (T.right_of h200 (fun m hm => HF.out m (by omega)) (fun i c h1 h2 => HR.out i c h1 (by omega)))
        go_wp2
        go_ret
        exact RightS.yes HN.out hb
  · have b200 : decide ((200 : Int) < (t.length : Int)) = true := by simp; omega
    go_enter Try.func19, Try.ntmps19
    go_wp2
    go_ret
    exact RightS.no (fun h => h200 h.len) (Below.refl _ _)
end Go.Proofs.Ytokhflpeeibeeaa
