/-
  Lines, integers and strings in memory: the cells of each; a []api.Line and a []string that came in, opened. No conditions.
-/
import Derived.Test.YtkifapbiimlafaaRowG
import Derived.Test.YtkifapbiimlafaaPureT
import Derived.Test.YtkifapbiimlafaaLawFrame
import Derived.Deep.Slices
namespace Go.Proofs.Ytkifapbiimlafaa
open Go.ChangeShapes Go.WideShapes Go.ChangeAt Go.RowKit

/-- A word as the program has it. -/
def sB (l : List UInt8) : ByteArray := ⟨l.toArray⟩
theorem sB_size (l : List UInt8) : (sB l).size = l.length := by simp [sB, ByteArray.size]
theorem sB_data (l : List UInt8) : (sB l).data.toList = l := by simp [sB]
theorem sB_of (s : ByteArray) : sB s.data.toList = s := by simp [sB]
theorem sB_toList (l : List UInt8) : (sB l).toList = l := by rw [ByteArray.toList_eq, sB_data]
theorem sB_eq {a b : List UInt8} (h : a = b) : ((sB a).toList == (sB b).toList) = true := by rw [h]; simp
theorem sB_ne {a b : List UInt8} (h : a ≠ b) : ((sB a).toList == (sB b).toList) = false := by rw [sB_toList, sB_toList]; exact beq_eq_false_iff_ne.2 h
theorem sB_inj {a b : List UInt8} (h : sB a = sB b) : a = b := by rw [← sB_data a, h, sB_data]

def lnC (x : T.Ln) : List Value := [.int .i64 x.depth, .string (sB x.word), .int .i64 x.mark]
def lnV (x : T.Ln) : Value := .agg #[.int .i64 x.depth, .string (sB x.word), .int .i64 x.mark]
def zeroLn : Value := .agg #[.int .i64 0, .string ⟨#[]⟩, .int .i64 0]
def eL : Elem T.Ln where
  st := 22
  T := 40
  sz := 3
  zero := zeroLn
  by_ := 32
  C := lnC
  hst := Try.underlying22
  hin := by kernel_rfl
  hzs := rfl
  hsz := by decide
  hby := by decide
  len := fun _ => rfl
  one := fun x u hu => by simp [lnC] at hu; rcases hu with rfl | rfl | rfl <;> rfl
def eI : Elem Nat where
  st := 63
  T := 3
  sz := 1
  zero := .int .i64 0
  by_ := 8
  C := fun n => [.int .i64 (n : Int)]
  hst := Try.underlying63
  hin := by kernel_rfl
  hzs := rfl
  hsz := by decide
  hby := by decide
  len := fun _ => rfl
  one := fun x u hu => by simp at hu; subst hu; rfl
def eS : Elem (List UInt8) where
  st := 41
  T := 9
  sz := 1
  zero := .string ⟨#[]⟩
  by_ := 16
  C := fun s => [.string (sB s)]
  hst := Try.underlying41
  hin := by kernel_rfl
  hzs := rfl
  hsz := by decide
  hby := by decide
  len := fun _ => rfl
  one := fun x u hu => by simp at hu; subst hu; rfl

theorem at_get (t : List T.Ln) (i : Nat) (h : i < t.length) : t[i] = T.at_ t i := by
  unfold T.at_ List.getD; rw [List.getElem?_eq_getElem h]; rfl
/-- The three cells of each line. -/
theorem Holds.line {w : World} {b o : Nat} {t : List T.Ln} (h : Holds eL w b o t) {i : Nat} (hi : i < t.length) :
    w.cell? ⟨b, o + i * 3, none⟩ = some (.int .i64 (T.dp t i)) ∧ w.cell? ⟨b, o + i * 3 + 1, none⟩ = some (.string (sB (T.wd t i))) ∧ w.cell? ⟨b, o + i * 3 + 2, none⟩ = some (.int .i64 (T.at_ t i).mark) := by
  have e := at_get t i hi
  refine ⟨h i hi 0 _ ?_, h i hi 1 _ ?_, h i hi 2 _ ?_⟩ <;> rw [e] <;> rfl
theorem Seen.lines {w : World} {A : Option Addr} {t : List T.Ln} (h : Seen eL w A t) (hl : 0 < t.length) : ∃ b o, A = some ⟨b, o, none⟩ ∧ b < w.heap.size ∧ Holds eL w b o t := h hl
theorem Holds.num {w : World} {b o : Nat} {l : List Nat} (h : Holds eI w b o l) {i : Nat} (hi : i < l.length) : w.cell? ⟨b, o + i, none⟩ = some (.int .i64 ((l[i] : Nat) : Int)) := by
  have := h i hi 0 _ rfl
  simpa [eI] using this
theorem Holds.str {w : World} {b o : Nat} {l : List (List UInt8)} (h : Holds eS w b o l) {i : Nat} (hi : i < l.length) : w.cell? ⟨b, o + i, none⟩ = some (.string (sB l[i])) := by
  have := h i hi 0 _ rfl
  simpa [eS] using this

/-- A list of bytes strings that came in. -/
theorem seen_strs {w : World} {A : Option Addr} {n : Nat} {xs : List ByteArray} (h : HoldsS w A n xs) : ∃ l : List (List UInt8), l.length = n ∧ Seen eS w A l := by
  refine ⟨xs.map fun s => s.data.toList, by simp [h.1], fun hl => ?_⟩
  have hn : 0 < n := by simpa [h.1] using hl
  obtain ⟨ad, rfl, hc⟩ := h.2 0 hn
  obtain ⟨b, o, sp⟩ := ad
  have hsp : sp = none := by simpa [Addr.add] using World.cell?_spot hc
  subst hsp
  refine ⟨b, o, rfl, ?_, fun i hi j u hu => ?_⟩
  · have := World.block_lt_of_cell? w _ hc; simpa [Addr.add] using this
  · have hi2 : i < xs.length := by simpa using hi
    obtain ⟨ad, e, hc⟩ := h.2 i (by rw [← h.1]; exact hi2)
    injection e with e
    subst e
    match j, hu with
    | 0, hu =>
      simp only [eS] at hu ⊢
      rw [add_off] at hc
      rw [List.getElem_map, sB_of] at hu
      simp only [List.getElem?_cons_zero, Option.some.injEq] at hu
      rw [← hu, Nat.mul_one, Nat.add_zero, hc]
      simp [List.getD, hi2]
    | j + 1, hu => simp [eS] at hu

theorem Try.cellsLn : Try.prog.cellsOf 40 = 3 := by kernel_rfl
theorem Try.cellsInt : Try.prog.cellsOf 3 = 1 := by kernel_rfl
set_option maxRecDepth 100000 in
/-- A []api.Line that came in. -/
theorem open_lines {H : Type} {enc : TypeId × Value → H} {W : World} {base : Nat} {v : Value} {d : DataW H} {p : List MemPlace} (hok : Value.okWide Try.prog W .any base 22 v)
    (h : DataW.Trod enc Try.prog W 0 (fun _ => true) true 22 v d p) :
    ∃ (A : Option Addr) (c : Nat) (t : List T.Ln), v = .slice A t.length c ∧ t.length ≤ c ∧ Seen eL W A t ∧ t.length ≤ maxLen ∧ ∀ i, i < t.length → -9223372036854775808 ≤ T.dp t i ∧ T.dp t i ≤ 9223372036854775807 ∧ (T.wd t i).length ≤ maxLen := by
  obtain ⟨A, n, c, rfl⟩ := okWide_slice Try.underlying22 hok
  obtain ⟨fuel, hf⟩ := h
  rcases Go.Deep.open_slice Try.underlying22 hf with ⟨hcs, _⟩ | ⟨a, len, cap, m, k, D, Pl, hcs, _, hl, hm, hmm, _, hx⟩
  · have hc2 : ([Value.slice A n c] : List Value) = [.slice none 0 0] := hcs
    injection hc2 with hc2
    injection hc2 with e1 e2 e3
    subst e1; subst e2; subst e3
    exact ⟨none, 0, [], rfl, Nat.le_refl _, Seen.nil, by unfold maxLen; simp, fun i hi => absurd hi (Nat.not_lt_zero i)⟩
  · have hc2 : ([Value.slice A n c] : List Value) = [.slice (some a) len cap] := hcs
    injection hc2 with hc2
    injection hc2 with e1 e2 e3
    subst e1; subst e2; subst e3
    have hnm : n ≤ m := by rw [hmm]; simp; exact hl
    have each : ∀ i, i < n → ∃ x : T.Ln, (W.cell? (a.add (i * 3)) = some (.int .i64 x.depth) ∧ W.cell? (a.add (i * 3 + 1)) = some (.string (sB x.word)) ∧ W.cell? (a.add (i * 3 + 2)) = some (.int .i64 x.mark)) ∧
        -9223372036854775808 ≤ x.depth ∧ x.depth ≤ 9223372036854775807 ∧ x.word.length ≤ maxLen := by
      intro i hi
      obtain ⟨cs', h1, h2⟩ := hx i (by omega)
      rw [Try.cellsLn] at h1
      obtain ⟨_, hlen, hcell⟩ := World.cells?_some h1
      obtain ⟨xs, q, hq, hxy, _, hxl, hff⟩ := DataW.trod_struct Try.underlying40 h2
      match xs, hxl, cs', hlen with
      | [y0, y1, y2], _, [v0, v1, v2], _ =>
        have g0 := hff 0 _ rfl
        have g1 := hff 1 _ rfl
        have g2 := hff 2 _ rfl
        simp [Try.cellsInt, Try.cellsStr] at g0 g1 g2
        obtain ⟨z0, q0, _, w0⟩ := DataW.trod_int Try.underlying3 g0
        obtain ⟨z1, q1, _, w1⟩ := DataW.trod_string Try.underlying9 g1
        obtain ⟨z2, q2, _, w2⟩ := DataW.trod_int Try.underlying3 g2
        simp at q0 q1 q2
        subst q0; subst q1; subst q2
        have e0 := hcell 0 (by omega)
        have e1 := hcell 1 (by omega)
        have e2 := hcell 2 (by omega)
        rw [Go.Deep.add_add] at e0 e1 e2
        have wb := bounds_i64 w0
        refine ⟨⟨z0, z1.data.toList, z2⟩, ⟨by simpa using e0, by rw [sB_of]; simpa using e1, by simpa using e2⟩, wb.1, wb.2, ?_⟩
        rw [← sB_size, sB_of]; exact w1
    haveI : Inhabited T.Ln := ⟨T.L0⟩
    obtain ⟨f, hfx⟩ := Go.Deep.choose_lt each
    have hat : ∀ i, i < n → T.at_ ((List.range n).map f) i = f i := fun i hi => by unfold T.at_; simp [List.getD, hi]
    refine ⟨some a, c, (List.range n).map f, by simp, by simp; exact hl, fun hpos => ?_, by simp; omega, fun i hi => ?_⟩
    · have hn : 0 < n := by simpa using hpos
      obtain ⟨b, o, sp⟩ := a
      have hc0 := (hfx 0 hn).1.1
      have hsp : sp = none := by simpa [Addr.add] using World.cell?_spot hc0
      subst hsp
      refine ⟨b, o, rfl, ?_, fun i hi j u hu => ?_⟩
      · have := World.block_lt_of_cell? W _ hc0; simpa [Addr.add] using this
      · have hin : i < n := by simpa using hi
        obtain ⟨⟨k0, k1, k2⟩, _⟩ := hfx i hin
        rw [add_off] at k0 k1 k2
        have eg : ((List.range n).map f)[i] = f i := by simp
        rw [eg] at hu
        match j, hu with
        | 0, hu => simp [eL, lnC] at hu; subst hu; simpa [eL] using k0
        | 1, hu => simp [eL, lnC] at hu; subst hu; simpa [eL, Nat.add_assoc] using k1
        | 2, hu => simp [eL, lnC] at hu; subst hu; simpa [eL, Nat.add_assoc] using k2
        | j + 3, hu => simp [eL, lnC] at hu
    · have hin : i < n := by simpa using hi
      unfold T.dp T.wd
      rw [hat i hin]
      exact (hfx i hin).2
end Go.Proofs.Ytkifapbiimlafaa
