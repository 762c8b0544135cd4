/-
  A [][]string that came in, opened: the paths that it holds, kept over whatever leaves old memory as it was. No conditions.
-/
import Derived.Test.YtkifapbiimlafaaLinesC
import Derived.Test.YtkifapbiimlafaaTreeMem
namespace Go.Proofs.Ytkifapbiimlafaa
open Go.ChangeShapes Go.WideShapes Go.ChangeAt Go.RowKit

/-- A slice of this address, and of as many elements as L has, holds these paths. -/
def SeenP (w : World) (A : Option Addr) (L : List T.Pth) : Prop := 0 < L.length → ∃ b o, A = some ⟨b, o, none⟩ ∧ b < w.heap.size ∧ ∀ i (h : i < L.length), ∃ B c, w.cell? ⟨b, o + i, none⟩ = some (.slice B L[i].length c) ∧ L[i].length ≤ c ∧ Seen eS w B L[i]
theorem SeenP.below {w w1 : World} {A : Option Addr} {L : List T.Pth} (h : SeenP w A L) (hb : Below w.heap.size w w1) : SeenP w1 A L := fun hl => by
  obtain ⟨b, o, e, hlt, hh⟩ := h hl
  refine ⟨b, o, e, Nat.lt_of_lt_of_le hlt hb.size, fun i hi => ?_⟩
  obtain ⟨B, c, h1, h2, h3⟩ := hh i hi
  exact ⟨B, c, (hb.cell (p := ⟨b, o + i, none⟩) hlt).trans h1, h2, h3.below hb⟩
theorem Try.cellsStrs : Try.prog.cellsOf 41 = 1 := by kernel_rfl
set_option maxRecDepth 100000 in
theorem open_strs1 {H : Type} {enc : TypeId × Value → H} {W : World} {v : Value} {fuel : Nat} {x : DataW H × List MemPlace}
    (hf : DataW.trod enc Try.prog W 0 (fun _ => true) true fuel 41 [v] = some x) : ∃ (A : Option Addr) (c : Nat) (l : T.Pth), v = .slice A l.length c ∧ l.length ≤ c ∧ Seen eS W A l := by
  rcases open_strings Try.underlying41 Try.underlying9 Try.cellsStr hf with ⟨hcs, _⟩ | ⟨a, len, cap, ss, hcs, _, hl, hm, hz, _, hcell, hws⟩
  · injection hcs with hcs
    exact ⟨none, 0, [], hcs, Nat.le_refl _, Seen.nil⟩
  · injection hcs with hcs
    simp at hz
    have hH : HoldsS W (some a) len (ss.take len) := ⟨by rw [List.length_take]; omega, fun i hi => ⟨a, rfl, by
      have e : (ss.take len).getD i ByteArray.empty = ss.getD i ByteArray.empty := by simp [List.getD, hi]
      rw [e]
      exact hcell i (by omega)⟩⟩
    obtain ⟨l, hll, hs⟩ := seen_strs hH
    subst hll
    exact ⟨some a, cap, l, hcs, hl, hs⟩
set_option maxRecDepth 100000 in
theorem open_strss {H : Type} {enc : TypeId × Value → H} {W : World} {base : Nat} {v : Value} {d : DataW H} {p : List MemPlace} (hok : Value.okWide Try.prog W .any base 30 v)
    (h : DataW.Trod enc Try.prog W 0 (fun _ => true) true 30 v d p) : ∃ (A : Option Addr) (c : Nat) (L : List T.Pth), v = .slice A L.length c ∧ SeenP W A L := by
  obtain ⟨A, n, c, rfl⟩ := okWide_slice Try.underlying30 hok
  obtain ⟨fuel, hf⟩ := h
  rcases Go.Deep.open_slice1 Try.underlying30 Try.cellsStrs hf with ⟨hcs, _⟩ | ⟨a, len, cap, m, k, V, D, Pl, hcs, _, hl, hm, hmm, _, hx⟩
  · have hc2 : ([Value.slice A n c] : List Value) = [.slice none 0 0] := hcs
    injection hc2 with hc2
    injection hc2 with e1 e2 e3
    subst e1; subst e2; subst e3
    exact ⟨none, 0, [], rfl, fun h => absurd h (Nat.lt_irrefl 0)⟩
  · have hc2 : ([Value.slice A n c] : List Value) = [.slice (some a) len cap] := hcs
    injection hc2 with hc2
    injection hc2 with e1 e2 e3
    subst e1; subst e2; subst e3
    have hnm : n ≤ m := by rw [hmm]; simp; exact hl
    have each : ∀ i, i < n → ∃ l : T.Pth, ∃ B c, W.cell? (a.add i) = some (.slice B l.length c) ∧ l.length ≤ c ∧ Seen eS W B l := by
      intro i hi
      obtain ⟨h1, h2⟩ := hx i (by omega)
      obtain ⟨B, c, l, hv, hlc, hs⟩ := open_strs1 h2
      exact ⟨l, B, c, by rw [h1, hv], hlc, hs⟩
    haveI : Inhabited T.Pth := ⟨[]⟩
    obtain ⟨f, hfx⟩ := Go.Deep.choose_lt each
    refine ⟨some a, c, (List.range n).map f, by simp, fun hpos => ?_⟩
    have hn : 0 < n := by simpa using hpos
    obtain ⟨b, o, sp⟩ := a
    obtain ⟨B0, c0, hc0, _⟩ := hfx 0 hn
    have hsp : sp = none := by simpa [Addr.add] using World.cell?_spot hc0
    subst hsp
    refine ⟨b, o, rfl, ?_, fun i hi => ?_⟩
    · have := World.block_lt_of_cell? W _ hc0; simpa [Addr.add] using this
    · have hin : i < n := by simpa using hi
      obtain ⟨B, c2, h1, h2, h3⟩ := hfx i hin
      rw [add_off] at h1
      have eg : ((List.range n).map f)[i] = f i := by simp
      rw [eg]
      exact ⟨B, c2, h1, h2, h3⟩
end Go.Proofs.Ytkifapbiimlafaa
