/-
  The fixed answer 'awake' of layer 3's statements: it returns true; below the heap's size at the call the world is as it was. No conditions.
  Small contracts for the walks of layer 3's statements: Right of lines whose number is said otherwise; what is seen of a slice of a slice. No conditions.
-/
import Derived.Test.YtkifapbiimlafaaTreeD

namespace Go.Proofs.Ytkifapbiimlafaa
open Go.RowKit

def awT : List T.Ln := [⟨0, [97], 0⟩, ⟨1, [98], 0⟩, ⟨1, [99], 1⟩, ⟨0, [100], 0⟩]
def awO : Obj := .cells #[.int .i64 0, .string ⟨#[97]⟩, .int .i64 0, .int .i64 1, .string ⟨#[98]⟩, .int .i64 0, .int .i64 1, .string ⟨#[99]⟩, .int .i64 1, .int .i64 0, .string ⟨#[100]⟩, .int .i64 0] 40
theorem aw_right : T.RightT awT := by
  have h1 : ∀ k, k < 4 → (0 ≤ T.dp awT k ∧ T.dp awT k ≤ 15) ∧ (T.wd awT k).length ≤ 40 ∧ 0 ≤ (T.at_ awT k).mark ∧ (T.at_ awT k).mark ≤ 3 := by decide +kernel
  have h2 : ∀ k, k < 3 → T.dp awT (k + 1) ≤ T.dp awT k + 1 := by decide +kernel
  have h3 : ∀ k, k < 4 → ∀ i, i < k → T.dp awT k = T.dp awT i → (∀ j, j < k → i < j → T.dp awT i ≤ T.dp awT j) → Op.bytesLess (T.wd awT i) (T.wd awT k) = true := by decide +kernel
  exact ⟨by decide, fun i hi => (h1 i hi).1, fun i hi => (h1 i hi).2.1, fun i hi => (h1 i hi).2.2, fun _ => by decide +kernel, fun i hi => h2 i (by have : i + 1 < 4 := hi; omega), fun i k h4 h5 h6 h7 => h3 k h5 i h4 h6 (fun j h8 h9 => h7 j h9 h8)⟩
theorem lit_seen {α : Type} (E : Elem α) (w : World) (l : List α) (cs : Array Value) (h : cs.toList = cellsG E l) (hl : l.length ≤ 1000) : Seen E (w.alloc (.cells cs E.T)) (some ⟨w.heap.size, 0, none⟩) l := by
  have h1 : cs.size = l.length * E.sz := by rw [← cellsG_len, ← h, Array.length_toList]
  have := World.ownsRow_lit (base := 0) (e := E.T) (size := E.sz) w cs l.length (Nat.zero_le _) (by unfold maxLen; omega) h1
  rw [h] at this
  obtain ⟨A, cap, e, _, hs⟩ := Own.seen (E := E) this
  injection e with e1 e2 e3
  subst e1
  exact hs
theorem aw_seen (w : World) : Seen eL (w.alloc awO) (some ⟨w.heap.size, 0, none⟩) awT := lit_seen eL w awT _ rfl (by decide)
theorem aw_path : T.pathL awT 2 = [[97], [99]] := by decide +kernel
theorem aw_path1 : T.pathL awT 1 = [[97], [98]] := by decide +kernel
theorem aw_kids : T.kidsL awT (-1) = [0, 3] := by decide +kernel
theorem aw_leaves : T.leavesL awT = [1, 2, 3] := by decide +kernel
theorem aw_sub : T.subL awT 0 = [⟨0, [97], 0⟩, ⟨1, [98], 0⟩, ⟨1, [99], 1⟩] := by kernel_rfl
theorem aw_end : T.endL awT 0 = 3 := by decide +kernel
theorem aw_under : T.underL awT 2 = 0 := by decide +kernel
theorem aw_s2 (w : World) (a b : UInt8) : Seen eS (w.alloc (.cells #[.string ⟨#[a]⟩, .string ⟨#[b]⟩] 9)) (some ⟨w.heap.size, 0, none⟩) [[a], [b]] := lit_seen eS w [[a], [b]] _ rfl (by simp)
theorem aw_i2 (w : World) : Seen eI (w.alloc (.cells #[.int .i64 0, .int .i64 3] 3)) (some ⟨w.heap.size, 0, none⟩) [0, 3] := lit_seen eI w [0, 3] _ rfl (by decide)
theorem aw_i3 (w : World) : Seen eI (w.alloc (.cells #[.int .i64 1, .int .i64 2, .int .i64 3] 3)) (some ⟨w.heap.size, 0, none⟩) [1, 2, 3] := lit_seen eI w [1, 2, 3] _ rfl (by decide)
theorem up (w : World) (o : Obj) : Below w.heap.size w (w.alloc o) := (Below.refl _ _).alloc (Nat.le_refl _) o

theorem Path_is (A : Option Addr) (c : Nat) (t : List T.Ln) (i : Nat) (p : List (List UInt8)) (w : World) (hA : Seen eL w A t) (hl : t.length ≤ 1073741824) (hi : i < t.length) (hR : T.RightT t) (h : T.pathL t i = p) :
    Calls Try.prog 25 #[.slice A t.length c, .int .i64 i] w (PathS w p 0) := by rw [← h]; exact Path_yes A c t i w hA hl hi hR
theorem kids_is (A : Option Addr) (c : Nat) (t : List T.Ln) (i : Int) (l : List Nat) (w : World) (hA : Seen eL w A t) (hl : t.length ≤ 1073741824) (hi : -1 ≤ i) (hil : i < t.length) (hR : T.RightT t) (h : T.kidsL t i = l) :
    Calls Try.prog 52 #[.slice A t.length c, .int .i64 i] w (SawG eI w l) := by rw [← h]; exact kids_yes A c t i w hA hl hi hil hR
theorem leaves_is (A : Option Addr) (c : Nat) (t : List T.Ln) (l : List Nat) (w : World) (hA : Seen eL w A t) (hl : t.length ≤ 1073741824) (hR : T.RightT t) (h : T.leavesL t = l) :
    Calls Try.prog 57 #[.slice A t.length c] w (SawG eI w l) := by rw [← h]; exact leaves_yes A c t w hA hl hR
theorem End_is (A : Option Addr) (c : Nat) (t : List T.Ln) (i e : Nat) (w : World) (hA : Seen eL w A t) (hl : t.length ≤ 1073741824) (hi : i < t.length) (hR : T.RightT t) (h : T.endL t i = e) :
    Calls Try.prog 49 #[.slice A t.length c, .int .i64 i] w (IntS w (e : Nat)) := by rw [← h]; exact End_yes A c t i w hA hl hi hR
end Go.Proofs.Ytkifapbiimlafaa

namespace Go.Proofs.Ytkifapbiimlafaa
open Go.RowKit

theorem right_n (A : Option Addr) (c : Nat) (t : List T.Ln) (n : Nat) (w : World) (hA : Seen eL w A t) (hn : t.length = n) (hl : n ≤ 1073741824) (hR : T.RightT t) :
    Calls Try.prog 24 #[.slice A n c] w (BoolS w true) := by
  subst hn; exact right_is A c t true w hA hl (yes_iff hR)
theorem Holds.seen {α : Type} {E : Elem α} {w : World} {b o : Nat} {l : List α} (h : Holds E w b o l) (hb : b < w.heap.size) : Seen E w (some ⟨b, o, none⟩) l := fun _ => ⟨b, o, rfl, hb, h⟩
theorem Holds.belowN {α : Type} {E : Elem α} {w w1 : World} {n b o : Nat} {l : List α} (h : Holds E w b o l) (hb : Below n w w1) (hlt : b < n) : Holds E w1 b o l := by
  intro i hi j u hu
  rw [← h i hi j u hu]
  exact hb.cell (p := ⟨b, o + i * E.sz + j, none⟩) hlt
/-- Small, as the laws ask it. -/
theorem small_is (A : Option Addr) (c : Nat) (t : List T.Ln) (w : World) (hA : Seen eL w A t) : Calls Try.prog 32 #[.slice A t.length c] w (fun e w' => ∃ b : Bool, e = .returned (.bool b) ∧ (b = true → t.length ≤ 220) ∧ Below w.heap.size w w') := small_any A c t w hA
end Go.Proofs.Ytkifapbiimlafaa
