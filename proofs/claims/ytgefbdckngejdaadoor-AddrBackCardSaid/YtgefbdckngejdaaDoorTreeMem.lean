/-
  Lines, integers and strings in memory: the cells of each; a []api.Line and a []string that came in, opened. No conditions.
-/
import Derived.Test.YtgefbdckngejdaaDoorRowG
import Derived.Test.YtgefbdckngejdaaDoorPureT
import Derived.Test.YtgefbdckngejdaaDoorLawFrame
import Derived.Deep.Slices
namespace Go.Proofs.YtgefbdckngejdaaDoor
open Go.ChangeShapes Go.WideShapes Go.ChangeAt Go.RowKit

/-- A word as the program has it. -/
def sB (l : List UInt8) : ByteArray := ⟨l.toArray⟩
theorem sB_size (l : List UInt8) : (sB l).size = l.length := by simp [sB, ByteArray.size]
theorem sB_data (l : List UInt8) : (sB l).data.toList = l := by simp [sB]
theorem sB_of (s : ByteArray) : sB s.data.toList = s := by simp [sB]
theorem sB_toList (l : List UInt8) : (sB l).toList = l := by rw [ByteArray.toList_eq, sB_data]
theorem sB_eq {a b : List UInt8} (h : a = b) : ((sB a).toList == (sB b).toList) = true := by rw [h]; simp
theorem sB_ne {a b : List UInt8} (h : a ≠ b) : ((sB a).toList == (sB b).toList) = false := by rw [sB_toList, sB_toList]; exact beq_eq_false_iff_ne.2 h
theorem sB_inj {a b : List UInt8} (h : sB a = sB b) : a = b := by rw [← sB_data a, h, sB_data]

def lnC (x : T.Ln) : List Value := [.int .i64 x.depth, .string (sB x.word), .int .i64 x.mark]
def lnV (x : T.Ln) : Value := .agg #[.int .i64 x.depth, .string (sB x.word), .int .i64 x.mark]
def zeroLn : Value := .agg #[.int .i64 0, .string ⟨#[]⟩, .int .i64 0]
def eS : Elem (List UInt8) where
  st := 47
  T := 9
  sz := 1
  zero := .string ⟨#[]⟩
  by_ := 16
  C := fun s => [.string (sB s)]
  hst := Tryd.underlying47
  hin := by kernel_rfl
  hzs := rfl
  hsz := by decide
  hby := by decide
  len := fun _ => rfl
  one := fun x u hu => by simp at hu; subst hu; rfl

theorem at_get (t : List T.Ln) (i : Nat) (h : i < t.length) : t[i] = T.at_ t i := by
  unfold T.at_ List.getD; rw [List.getElem?_eq_getElem h]; rfl
theorem Holds.str {w : World} {b o : Nat} {l : List (List UInt8)} (h : Holds eS w b o l) {i : Nat} (hi : i < l.length) : w.cell? ⟨b, o + i, none⟩ = some (.string (sB l[i])) := by
  have := h i hi 0 _ rfl
  simpa [eS] using this

/-- A list of bytes strings that came in. -/
theorem seen_strs {w : World} {A : Option Addr} {n : Nat} {xs : List ByteArray} (h : HoldsS w A n xs) : ∃ l : List (List UInt8), l.length = n ∧ Seen eS w A l := by
  refine ⟨xs.map fun s => s.data.toList, by simp [h.1], fun hl => ?_⟩
  have hn : 0 < n := by simpa [h.1] using hl
  obtain ⟨ad, rfl, hc⟩ := h.2 0 hn
  obtain ⟨b, o, sp⟩ := ad
  have hsp : sp = none := by simpa [Addr.add] using World.cell?_spot hc
  subst hsp
  refine ⟨b, o, rfl, ?_, fun i hi j u hu => ?_⟩
  · have := World.block_lt_of_cell? w _ hc; simpa [Addr.add] using this
  · have hi2 : i < xs.length := by simpa using hi
    obtain ⟨ad, e, hc⟩ := h.2 i (by rw [← h.1]; exact hi2)
    injection e with e
    subst e
    match j, hu with
    | 0, hu =>
      simp only [eS] at hu ⊢
      rw [add_off] at hc
      rw [List.getElem_map, sB_of] at hu
      simp only [List.getElem?_cons_zero, Option.some.injEq] at hu
      rw [← hu, Nat.mul_one, Nat.add_zero, hc]
      simp [List.getD, hi2]
    | j + 1, hu => simp [eS] at hu

theorem Tryd.cellsInt : Tryd.prog.cellsOf 3 = 1 := by kernel_rfl
end Go.Proofs.YtgefbdckngejdaaDoor
