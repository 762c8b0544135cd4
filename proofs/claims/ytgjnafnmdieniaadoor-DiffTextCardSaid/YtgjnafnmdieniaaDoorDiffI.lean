/-
  Changes that come in (layer 8's statements): a slice of structs of three fields. No conditions.
-/
import Derived.Test.YtgjnafnmdieniaaDoorLawFrame
import Derived.Test.YtgjnafnmdieniaaDoorLawStrs
import Derived.Test.YtgjnafnmdieniaaDoorEditQ
import Derived.Test.YtgjnafnmdieniaaDoorDiffA
namespace Go.Proofs.YtgjnafnmdieniaaDoor
open Go.ChangeShapes Go.WideShapes Go.ChangeAt Go.RowKit
set_option linter.unusedVariables false

theorem Tryd.cellsChange : Tryd.prog.cellsOf 41 = 3 := by kernel_rfl
set_option maxRecDepth 100000 in
theorem open_changes {H : Type} {enc : TypeId × Value → H} {W : World} {base : Nat} {v : Value} {d : DataW H} {p : List MemPlace} (hok : Value.okWide Tryd.prog W .any base 25 v)
    (h : DataW.Trod enc Tryd.prog W 0 (fun _ => true) true 25 v d p) : ∃ (A : Option Addr) (c : Nat) (L : List T.Chg), v = .slice A L.length c ∧ L.length ≤ c ∧ SeenC eD W A L := by
  obtain ⟨A, n, c, rfl⟩ := okWide_slice Tryd.underlying25 hok
  have hnc : n ≤ c := (slice_ok Tryd.underlying25 hok).2
  obtain ⟨fuel, hf⟩ := h
  rcases Go.Deep.open_slice Tryd.underlying25 hf with ⟨hcs, _⟩ | ⟨a, len, cap, m, k, D, Pl, hcs, _, hl, hm, hmm, _, hx⟩
  · have hc2 : ([Value.slice A n c] : List Value) = [.slice none 0 0] := hcs
    injection hc2 with hc2
    injection hc2 with e1 e2 e3
    subst e1; subst e2; subst e3
    exact ⟨none, 0, [], rfl, Nat.le_refl _, SeenC.nil⟩
  · have hc2 : ([Value.slice A n c] : List Value) = [.slice (some a) len cap] := hcs
    injection hc2 with hc2
    injection hc2 with e1 e2 e3
    subst e1; subst e2; subst e3
    have hnm : n ≤ m := by rw [hmm]; simp; exact hl
    have each : ∀ i, i < n → ∃ x : ChM × T.Chg, W.cell? (a.add (i * 3)) = some (.int .i64 x.1.kind) ∧ W.cell? (a.add (i * 3 + 1)) = some (.slice x.1.A x.1.n x.1.c) ∧ W.cell? (a.add (i * 3 + 2)) = some (.int .i64 x.1.mark) ∧ ChS W x.1 x.2 := by
      intro i hi
      obtain ⟨cs', h1, h2⟩ := hx i (by omega)
      rw [Tryd.cellsChange] at h1
      obtain ⟨_, hlen, hcell⟩ := World.cells?_some h1
      obtain ⟨xs, q, hq, hxy, _, hxl, hff⟩ := DataW.trod_struct Tryd.underlying41 h2
      match xs, hxl, cs', hlen with
      | [y0, y1, y2], _, [v0, v1, v2], _ =>
        have g0 := hff 0 _ rfl
        have g1 := hff 1 _ rfl
        have g2 := hff 2 _ rfl
        simp [Tryd.cellsInt, Tryd.cellsStrsQ] at g0 g1 g2
        obtain ⟨z0, q0, _, w0⟩ := DataW.trod_int Tryd.underlying3 g0
        obtain ⟨B, m1, c1, l, q1, hl1, hlc, hs, hm1⟩ := open_path1 g1
        obtain ⟨z2, q2, _, w2⟩ := DataW.trod_int Tryd.underlying3 g2
        simp at q0 q2
        subst q0; subst q1; subst q2
        have e0 := hcell 0 (by omega)
        have e1 := hcell 1 (by omega)
        have e2 := hcell 2 (by omega)
        rw [Go.Deep.add_add] at e0 e1 e2
        exact ⟨(⟨z0, B, m1, c1, z2⟩, ⟨z0, l, z2⟩), by simpa using e0, by simpa using e1, by simpa using e2, ⟨rfl, rfl, hl1, hlc, hs⟩⟩
    haveI : Inhabited (ChM × T.Chg) := ⟨(⟨0, none, 0, 0, 0⟩, ⟨0, [], 0⟩)⟩
    obtain ⟨f, hfx⟩ := Go.Deep.choose_lt each
    refine ⟨some a, c, (List.range n).map fun i => (f i).2, by simp, by simpa using hnc, (List.range n).map fun i => (f i).1, by simp, fun hpos => ?_, fun i h1 h2 => ?_⟩
    · have hn : 0 < n := by simpa using hpos
      obtain ⟨b, o, sp⟩ := a
      obtain ⟨hc0, _⟩ := hfx 0 hn
      have hsp : sp = none := by simpa [Addr.add] using World.cell?_spot hc0
      subst hsp
      refine ⟨b, o, rfl, ?_, fun i hi j u hu => ?_⟩
      · have := World.block_lt_of_cell? W _ hc0; simpa [Addr.add] using this
      · have hin : i < n := by simpa using hi
        obtain ⟨h0, h1, h2, _⟩ := hfx i hin
        rw [add_off] at h0 h1 h2
        have eg : ((List.range n).map fun i => (f i).1)[i] = (f i).1 := by simp
        rw [eg] at hu
        match j, hu with
        | 0, hu => injection hu with hu; rw [← hu]; exact h0
        | 1, hu => injection hu with hu; rw [← hu]; exact h1
        | 2, hu => injection hu with hu; rw [← hu]; exact h2
        | j + 3, hu => cases hu
    · have hin : i < n := by simpa using h1
      have e1 : ((List.range n).map fun i => (f i).1)[i] = (f i).1 := by simp
      have e2 : ((List.range n).map fun i => (f i).2)[i] = (f i).2 := by simp
      rw [e1, e2]
      exact (hfx i hin).2.2.2
end Go.Proofs.YtgjnafnmdieniaaDoor
