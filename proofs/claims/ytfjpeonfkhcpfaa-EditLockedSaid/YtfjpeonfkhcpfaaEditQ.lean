/-
  Acts that come in (layer 7's statements): a struct of four fields, and a slice of such. No conditions.
-/
import Derived.Test.YtfjpeonfkhcpfaaLawFrame
import Derived.Test.YtfjpeonfkhcpfaaLawStrs
import Derived.Test.YtfjpeonfkhcpfaaTreeE
import Derived.Lib.SmallJoins
namespace Go.Proofs.Ytfjpeonfkhcpfaa
open Go.ChangeShapes Go.WideShapes Go.ChangeAt Go.RowKit
set_option linter.unusedVariables false

theorem Try.cellsStrsQ : Try.prog.cellsOf 23 = 1 := by kernel_rfl
theorem Try.cellsAct : Try.prog.cellsOf 25 = 4 := by kernel_rfl
set_option maxRecDepth 100000 in
theorem open_path1 {H : Type} {enc : TypeId × Value → H} {W : World} {v : Value} {fuel : Nat} {x : DataW H × List MemPlace}
    (hf : DataW.trod enc Try.prog W 0 (fun _ => true) true fuel 23 [v] = some x) : ∃ (A : Option Addr) (n c : Nat) (l : T.Pth), v = .slice A n c ∧ l.length = n ∧ n ≤ c ∧ Seen eS W A l ∧ n ≤ maxLen := by
  rcases open_strings Try.underlying23 Try.underlying9 Try.cellsStr hf with ⟨hcs, _⟩ | ⟨a, len, cap, ss, hcs, _, hl, hm, hz, _, hcell, hws⟩
  · injection hcs with hcs
    exact ⟨none, 0, 0, [], hcs, rfl, Nat.le_refl _, Seen.nil, by unfold maxLen; omega⟩
  · injection hcs with hcs
    simp at hz
    have hH : HoldsS W (some a) len (ss.take len) := ⟨by rw [List.length_take]; omega, fun i hi => ⟨a, rfl, by
      have e : (ss.take len).getD i ByteArray.empty = ss.getD i ByteArray.empty := by simp [List.getD, hi]
      rw [e]
      exact hcell i (by omega)⟩⟩
    obtain ⟨l, hll, hs⟩ := seen_strs hH
    exact ⟨some a, len, cap, l, hcs, hll, hl, hs, by omega⟩
set_option maxRecDepth 100000 in
theorem open_act {H : Type} {enc : TypeId × Value → H} {W : World} {base : Nat} {v : Value} {d : DataW H} {p : List MemPlace} (hok : Value.okWide Try.prog W .any base 25 v)
    (h : DataW.Trod enc Try.prog W 0 (fun _ => true) true 25 v d p) : ∃ (k bit : Int) (B : Option Addr) (n c : Nat) (l : T.Pth) (wd : List UInt8), v = .agg #[.int .i64 k, .slice B n c, .int .i64 bit, .string (sB wd)] ∧ l.length = n ∧ Seen eS W B l ∧ n ≤ c ∧ n ≤ maxLen := by
  obtain ⟨v0, v1, v2, v3, y0, y1, y2, y3, n, rfl, _, _, g0, g1, g2, g3⟩ := Go.Joins.open_agg4 Try.underlying25 (by kernel_rfl) Try.cellsAct hok h
  obtain ⟨z0, q0, _, w0⟩ := DataW.trod_int Try.underlying3 g0
  obtain ⟨B, m, c, l, q1, hl, hlc, hs, hm⟩ := open_path1 g1
  obtain ⟨z2, q2, _, w2⟩ := DataW.trod_int Try.underlying3 g2
  obtain ⟨z3, q3, _, w3⟩ := DataW.trod_string Try.underlying9 g3
  simp at q0 q2 q3
  subst q0; subst q1; subst q2; subst q3
  exact ⟨z0, z2, B, m, c, l, z3.data.toList, by rw [sB_of], hl, hs, hlc, hm⟩

/-- An act. -/
structure ActM where
  kind : Int
  bit : Int
  path : T.Pth
  wd : List UInt8
/-- An act's four cells. -/
def ActC (W : World) (b o : Nat) (x : ActM) : Prop := ∃ B c, W.cell? ⟨b, o, none⟩ = some (.int .i64 x.kind) ∧ W.cell? ⟨b, o + 1, none⟩ = some (.slice B x.path.length c) ∧ W.cell? ⟨b, o + 2, none⟩ = some (.int .i64 x.bit) ∧ W.cell? ⟨b, o + 3, none⟩ = some (.string (sB x.wd)) ∧ x.path.length ≤ c ∧ x.path.length ≤ maxLen ∧ Seen eS W B x.path
/-- A slice of this address reads as these acts. -/
def SeenA (W : World) (A : Option Addr) (L : List ActM) : Prop := 0 < L.length → ∃ b o, A = some ⟨b, o, none⟩ ∧ b < W.heap.size ∧ ∀ i (h : i < L.length), ActC W b (o + i * 4) L[i]
set_option maxRecDepth 100000 in
theorem open_acts {H : Type} {enc : TypeId × Value → H} {W : World} {base : Nat} {v : Value} {d : DataW H} {p : List MemPlace} (hok : Value.okWide Try.prog W .any base 38 v)
    (h : DataW.Trod enc Try.prog W 0 (fun _ => true) true 38 v d p) : ∃ (A : Option Addr) (c : Nat) (L : List ActM), v = .slice A L.length c ∧ L.length ≤ maxLen ∧ SeenA W A L := by
  obtain ⟨A, n, c, rfl⟩ := okWide_slice Try.underlying38 hok
  obtain ⟨fuel, hf⟩ := h
  rcases Go.Deep.open_slice Try.underlying38 hf with ⟨hcs, _⟩ | ⟨a, len, cap, m, k, D, Pl, hcs, _, hl, hm, hmm, _, hx⟩
  · have hc2 : ([Value.slice A n c] : List Value) = [.slice none 0 0] := hcs
    injection hc2 with hc2
    injection hc2 with e1 e2 e3
    subst e1; subst e2; subst e3
    exact ⟨none, 0, [], rfl, by unfold maxLen; simp, fun h => absurd h (Nat.lt_irrefl 0)⟩
  · have hc2 : ([Value.slice A n c] : List Value) = [.slice (some a) len cap] := hcs
    injection hc2 with hc2
    injection hc2 with e1 e2 e3
    subst e1; subst e2; subst e3
    have hnm : n ≤ m := by rw [hmm]; simp; exact hl
    have each : ∀ i, i < n → ∃ x : ActM, ∃ B c, W.cell? (a.add (i * 4)) = some (.int .i64 x.kind) ∧ W.cell? (a.add (i * 4 + 1)) = some (.slice B x.path.length c) ∧ W.cell? (a.add (i * 4 + 2)) = some (.int .i64 x.bit) ∧ W.cell? (a.add (i * 4 + 3)) = some (.string (sB x.wd)) ∧ x.path.length ≤ c ∧ x.path.length ≤ maxLen ∧ Seen eS W B x.path := by
      intro i hi
      obtain ⟨cs', h1, h2⟩ := hx i (by omega)
      rw [Try.cellsAct] at h1
      obtain ⟨_, hlen, hcell⟩ := World.cells?_some h1
      obtain ⟨xs, q, hq, hxy, _, hxl, hff⟩ := DataW.trod_struct Try.underlying25 h2
      match xs, hxl, cs', hlen with
      | [y0, y1, y2, y3], _, [v0, v1, v2, v3], _ =>
        have g0 := hff 0 _ rfl
        have g1 := hff 1 _ rfl
        have g2 := hff 2 _ rfl
        have g3 := hff 3 _ rfl
        simp [Try.cellsInt, Try.cellsStr, Try.cellsStrsQ] at g0 g1 g2 g3
        obtain ⟨z0, q0, _, w0⟩ := DataW.trod_int Try.underlying3 g0
        obtain ⟨B, m1, c1, l, q1, hl1, hlc, hs, hm1⟩ := open_path1 g1
        obtain ⟨z2, q2, _, w2⟩ := DataW.trod_int Try.underlying3 g2
        obtain ⟨z3, q3, _, w3⟩ := DataW.trod_string Try.underlying9 g3
        simp at q0 q2 q3
        subst q0; subst q1; subst q2; subst q3; subst hl1
        have e0 := hcell 0 (by omega)
        have e1 := hcell 1 (by omega)
        have e2 := hcell 2 (by omega)
        have e3 := hcell 3 (by omega)
        rw [Go.Deep.add_add] at e0 e1 e2 e3
        exact ⟨⟨z0, z2, l, z3.data.toList⟩, B, c1, by simpa using e0, by simpa using e1, by simpa using e2, by rw [sB_of]; simpa using e3, hlc, hm1, hs⟩
    haveI : Inhabited ActM := ⟨⟨0, 0, [], []⟩⟩
    obtain ⟨f, hfx⟩ := Go.Deep.choose_lt each
    refine ⟨some a, c, (List.range n).map f, by simp, by simp; omega, fun hpos => ?_⟩
    have hn : 0 < n := by simpa using hpos
    obtain ⟨b, o, sp⟩ := a
    obtain ⟨B0, c0, hc0, _⟩ := hfx 0 hn
    have hsp : sp = none := by simpa [Addr.add] using World.cell?_spot hc0
    subst hsp
    refine ⟨b, o, rfl, ?_, fun i hi => ?_⟩
    · have := World.block_lt_of_cell? W _ hc0; simpa [Addr.add] using this
    · have hin : i < n := by simpa using hi
      obtain ⟨B, c2, h0, h1, h2, h3, h4⟩ := hfx i hin
      rw [add_off] at h0 h1 h2 h3
      have eg : ((List.range n).map f)[i] = f i := by simp
      rw [eg]
      exact ⟨B, c2, h0, by rw [Nat.add_assoc]; exact h1, by rw [Nat.add_assoc]; exact h2, by rw [Nat.add_assoc]; exact h3, h4⟩
end Go.Proofs.Ytfjpeonfkhcpfaa
