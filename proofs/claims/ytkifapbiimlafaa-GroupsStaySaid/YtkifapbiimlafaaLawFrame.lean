/-
  The last step of a law's row, once for all laws of this seat: a call that returns true, and below the heap's size at the call leaves the world as it was, meets the row's post. Condition: the parameters' types can be read as data.
  A []string that came in, opened: the strings that it holds, kept over whatever leaves old memory as it was. No conditions.
-/
import Derived.Test.YtkifapbiimlafaaRows
import Derived.WalkKit
import Derived.ProofKit
import Derived.OpenShut
import Derived.ShutString
import Derived.Carry
import Derived.SliceStrings

namespace Go.Proofs.Ytkifapbiimlafaa
open Go.ChangeShapes Go.WideShapes Go.ChangeAt Go.RowKit

theorem Try.own : ownKnob Try.prog.godebug = none := by kernel_rfl
theorem Try.laidOut : laidOutB Try.prog = true := by kernel_rfl

theorem args_stay {P : Program} (hl : laidOutB P = true) {H : Type} {enc : TypeId × Value → H} {W W' : World} (hb : Below W.heap.size W W') :
    ∀ (ts : List TypeId) (vs : List Value) (ds : List (DataW H)) (ps : List MemPlace), ts.all (fun t => P.readableRec t && decide (t < P.types.size)) = true →
      DataW.TrodAll enc P W 0 (fun _ => true) true ts vs ds ps → (∀ x ∈ ps, x.block < W.heap.size) → DataW.TrodAll enc P W' 0 (fun b => decide (b < W.heap.size)) true ts vs ds ps
  | [], vs, ds, ps, _, h, _ => by
    obtain ⟨rfl, rfl, rfl⟩ := trodAll_nil h
    exact trodAll_mk0
  | t :: ts, vs, ds, ps, hr, h, hlt => by
    obtain ⟨v, vs', d, ds', p, q, rfl, rfl, rfl, h0, h1⟩ := trodAll_cons h
    simp only [List.all_cons, Bool.and_eq_true, decide_eq_true_eq] at hr
    refine trodAll_cons_mk (Below.trod hl hr.1.1 hr.1.2 h0 hb fun x hx => hlt x (by simp [hx])) (args_stay hl hb ts vs' ds' q ?_ h1 fun x hx => hlt x (by simp [hx]))
    simpa only [Bool.and_eq_true, decide_eq_true_eq] using hr.2

theorem law_post {H : Type} {enc : TypeId × Value → H} {f : Func} {s : ChangeSpec} {W W' : World} {args : Array Value} {ds gs : List (DataW H)} {before : List MemPlace}
    (hr : f.params.toList.all (fun t => Try.prog.readableRec t && decide (t < Try.prog.types.size)) = true) (hres : f.resultTypes = #[4]) (hvars : s.vars = [])
    (hfn1 : (s.fn H (ds ++ gs)).results = [.lit (.bool true)]) (hfn2 : (s.fn H (ds ++ gs)).args = ds) (hfn3 : (s.fn H (ds ++ gs)).vars = [])
    (hW : DataW.Whole enc Try.prog f.params.toList s.vars false W args.toList ds gs before) (hb : Below W.heap.size W W') : s.post enc Try.prog f false true false false W args (.bool true) W' := by
  have hlt : ∀ p ∈ before, p.block < W.heap.size := fun p hp => hW.lt p hp
  have hW2 := hW
  obtain ⟨p, q, hA, hV, rfl, _, _⟩ := hW
  rw [hvars] at hV
  obtain ⟨rfl, rfl⟩ := trodVars_none hV
  refine ⟨ds, [], p ++ [], [], p, [], hW2, ?_, ?_, ?_, hb.frame _, fun h => by cases h⟩
  · rw [hfn1, hres]
    exact trodAll_cons_mk (shut_bool Try.underlying4 true) trodAll_mk0
  · rw [hfn2]
    exact args_stay Try.laidOut hb _ _ _ _ hr hA (fun x hx => hlt x (by simp [hx]))
  · rw [hfn3, hvars]; rfl
end Go.Proofs.Ytkifapbiimlafaa

namespace Go.Proofs.Ytkifapbiimlafaa
open Go.ChangeShapes Go.WideShapes Go.ChangeAt Go.RowKit

/-- The slice '.slice A n c' holds the strings xs. -/
def HoldsS (w : World) (A : Option Addr) (n : Nat) (xs : List ByteArray) : Prop :=
  xs.length = n ∧ ∀ i, i < n → ∃ ad : Addr, A = some ad ∧ w.cell? (ad.add i) = some (.string (xs.getD i ByteArray.empty))
theorem HoldsS.below {w w' : World} {A : Option Addr} {n : Nat} {xs : List ByteArray} (h : HoldsS w A n xs) (hb : Below w.heap.size w w') : HoldsS w' A n xs :=
  ⟨h.1, fun i hi => by
    obtain ⟨ad, e, hc⟩ := h.2 i hi
    exact ⟨ad, e, (hb.cell (World.block_lt_of_cell? w _ hc)).trans hc⟩⟩

theorem Try.cellsStr : Try.prog.cellsOf 9 = 1 := by kernel_rfl
set_option maxRecDepth 100000 in
theorem open_strs {H : Type} {enc : TypeId × Value → H} {W : World} {base : Nat} {v : Value} {d : DataW H} {p : List MemPlace} (hok : Value.okWide Try.prog W .any base 41 v)
    (h : DataW.Trod enc Try.prog W 0 (fun _ => true) true 41 v d p) : ∃ A n c xs, v = .slice A n c ∧ HoldsS W A n xs ∧ n ≤ maxLen ∧ ∀ x ∈ xs, x.size ≤ maxLen := by
  obtain ⟨A, n, c, rfl⟩ := okWide_slice Try.underlying41 hok
  obtain ⟨fuel, hf⟩ := h
  rcases open_strings Try.underlying41 Try.underlying9 Try.cellsStr hf with ⟨hcs, _⟩ | ⟨a, len, cap, ss, hcs, _, hl, hm, hz, _, hcell, hws⟩
  · have hc2 : ([Value.slice A n c] : List Value) = [.slice none 0 0] := hcs
    injection hc2 with hc2
    injection hc2 with e1 e2 e3
    subst e1; subst e2; subst e3
    exact ⟨none, 0, 0, [], rfl, ⟨rfl, fun i hi => by omega⟩, by unfold maxLen; omega, by simp⟩
  · have hc2 : ([Value.slice A n c] : List Value) = [.slice (some a) len cap] := hcs
    injection hc2 with hc2
    injection hc2 with e1 e2 e3
    subst e1; subst e2; subst e3
    simp at hz
    refine ⟨some a, n, c, ss.take n, rfl, ⟨by rw [List.length_take]; omega, fun i hi => ⟨a, rfl, ?_⟩⟩, by omega, fun x hx => hws x (List.mem_of_mem_take hx)⟩
    have e : (ss.take n).getD i ByteArray.empty = ss.getD i ByteArray.empty := by simp [List.getD, hi]
    rw [e]
    exact hcell i (by omega)
end Go.Proofs.Ytkifapbiimlafaa
