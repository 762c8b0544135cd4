/-
  The fixed answer 'awake' of layer 3's statements: it returns true; below the heap's size at the call the world is as it was. No conditions.
  Small contracts for the walks of layer 3's statements: Right of lines whose number is said otherwise; what is seen of a slice of a slice. No conditions.
-/
import Derived.Test.YtgefbdckngejdaaDoorTreeD

namespace Go.Proofs.YtgefbdckngejdaaDoor
open Go.RowKit

def awT : List T.Ln := [⟨0, [97], 0⟩, ⟨1, [98], 0⟩, ⟨1, [99], 1⟩, ⟨0, [100], 0⟩]
theorem aw_right : T.RightT awT := by
  have h1 : ∀ k, k < 4 → (0 ≤ T.dp awT k ∧ T.dp awT k ≤ 15) ∧ (T.wd awT k).length ≤ 40 ∧ 0 ≤ (T.at_ awT k).mark ∧ (T.at_ awT k).mark ≤ 3 := by decide +kernel
  have h2 : ∀ k, k < 3 → T.dp awT (k + 1) ≤ T.dp awT k + 1 := by decide +kernel
  have h3 : ∀ k, k < 4 → ∀ i, i < k → T.dp awT k = T.dp awT i → (∀ j, j < k → i < j → T.dp awT i ≤ T.dp awT j) → Op.bytesLess (T.wd awT i) (T.wd awT k) = true := by decide +kernel
  exact ⟨by decide, fun i hi => (h1 i hi).1, fun i hi => (h1 i hi).2.1, fun i hi => (h1 i hi).2.2, fun _ => by decide +kernel, fun i hi => h2 i (by have : i + 1 < 4 := hi; omega), fun i k h4 h5 h6 h7 => h3 k h5 i h4 h6 (fun j h8 h9 => h7 j h9 h8)⟩
theorem lit_seen {α : Type} (E : Elem α) (w : World) (l : List α) (cs : Array Value) (h : cs.toList = cellsG E l) (hl : l.length ≤ 1000) : Seen E (w.alloc (.cells cs E.T)) (some ⟨w.heap.size, 0, none⟩) l := by
  have h1 : cs.size = l.length * E.sz := by rw [← cellsG_len, ← h, Array.length_toList]
  have := World.ownsRow_lit (base := 0) (e := E.T) (size := E.sz) w cs l.length (Nat.zero_le _) (by unfold maxLen; omega) h1
  rw [h] at this
  obtain ⟨A, cap, e, _, hs⟩ := Own.seen (E := E) this
  injection e with e1 e2 e3
  subst e1
  exact hs
theorem aw_path : T.pathL awT 2 = [[97], [99]] := by decide +kernel
theorem aw_path1 : T.pathL awT 1 = [[97], [98]] := by decide +kernel
theorem aw_kids : T.kidsL awT (-1) = [0, 3] := by decide +kernel
theorem aw_leaves : T.leavesL awT = [1, 2, 3] := by decide +kernel
theorem aw_sub : T.subL awT 0 = [⟨0, [97], 0⟩, ⟨1, [98], 0⟩, ⟨1, [99], 1⟩] := by kernel_rfl
theorem aw_end : T.endL awT 0 = 3 := by decide +kernel
theorem aw_under : T.underL awT 2 = 0 := by decide +kernel
theorem aw_s2 (w : World) (a b : UInt8) : Seen eS (w.alloc (.cells #[.string ⟨#[a]⟩, .string ⟨#[b]⟩] 9)) (some ⟨w.heap.size, 0, none⟩) [[a], [b]] := lit_seen eS w [[a], [b]] _ rfl (by simp)
theorem up (w : World) (o : Obj) : Below w.heap.size w (w.alloc o) := (Below.refl _ _).alloc (Nat.le_refl _) o

end Go.Proofs.YtgefbdckngejdaaDoor

namespace Go.Proofs.YtgefbdckngejdaaDoor
open Go.RowKit

theorem Holds.seen {α : Type} {E : Elem α} {w : World} {b o : Nat} {l : List α} (h : Holds E w b o l) (hb : b < w.heap.size) : Seen E w (some ⟨b, o, none⟩) l := fun _ => ⟨b, o, rfl, hb, h⟩
theorem Holds.belowN {α : Type} {E : Elem α} {w w1 : World} {n b o : Nat} {l : List α} (h : Holds E w b o l) (hb : Below n w w1) (hlt : b < n) : Holds E w1 b o l := by
  intro i hi j u hu
  rw [← h i hi j u hu]
  exact hb.cell (p := ⟨b, o + i * E.sz + j, none⟩) hlt
end Go.Proofs.YtgefbdckngejdaaDoor
