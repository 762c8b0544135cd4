/-
  What the library proves once of (*strings.Builder).WriteString and String, at this program's numbers; a builder is kept by whatever leaves old memory as it was; a builder at its start. Condition: at most 2^47 bytes.
-/
import Derived.Shelf.Strings.BuilderK
import Derived.Test.YtdohnbdhloknnaaTreeMem
namespace Go.Proofs.Ytdohnbdhloknnaa
open Go.Shelf Go.RowKit

def ren166 : Go.Shelf.Ren := ⟨fun | 166 => 49 | 240 => 59 | 276 => 69 | n => n, fun | 0 => 0 | 3 => 3 | 4 => 4 | 5 => 5 | 9 => 9 | 20 => 20 | 37 => 59 | 70 => 58 | 72 => 61 | 75 => 83 | 80 => 63 | 164 => 99 | n => n, fun n => n⟩
theorem lays166 : Go.Proofs.Lays.n166 Try.prog ren166 := {
  mixed := by kernel_rfl
  f166 := Try.func49.trans (congrArg some (by kernel_rfl))
  f240 := Try.func59.trans (congrArg some (by kernel_rfl))
  f276 := Try.func69.trans (congrArg some (by kernel_rfl))
  t0 := Try.underlying0
  a0 := Try.isAgg0
  z0 := Try.sizeOf0
  v0 := Try.zeroValue0
  t3 := Try.underlying3
  a3 := Try.isAgg3
  z3 := Try.sizeOf3
  v3 := Try.zeroValue3
  t4 := Try.underlying4
  a4 := Try.isAgg4
  z4 := Try.sizeOf4
  v4 := Try.zeroValue4
  t9 := Try.underlying9
  a9 := Try.isAgg9
  z9 := Try.sizeOf9
  v9 := Try.zeroValue9
  t20 := Try.underlying20
  a20 := Try.isAgg20
  z20 := Try.sizeOf20
  v20 := Try.zeroValue20
  t37 := Try.underlying59
  a37 := Try.isAgg59
  z37 := Try.sizeOf59
  v37 := Try.zeroValue59
  t70 := Try.underlying58
  a70 := Try.isAgg58
  z70 := Try.sizeOf58
  v70 := Try.zeroValue58
  t72 := Try.underlying61
  a72 := Try.isAgg61
  z72 := Try.sizeOf61
  v72 := Try.zeroValue61
  t75 := Try.underlying83
  a75 := Try.isAgg83
  z75 := Try.sizeOf83
  v75 := Try.zeroValue83
  t164 := Try.underlying99
  a164 := Try.isAgg99
  z164 := Try.sizeOf99
  v164 := Try.zeroValue99 }
def ren169 : Go.Shelf.Ren := ⟨fun | 169 => 31 | n => n, fun | 0 => 0 | 3 => 3 | 5 => 5 | 9 => 9 | 37 => 59 | 70 => 58 | 72 => 61 | 80 => 63 | 127 => 87 | n => n, fun n => n⟩
theorem lays169 : Go.Proofs.Lays.n169 Try.prog ren169 := {
  mixed := by kernel_rfl
  f169 := Try.func31.trans (congrArg some (by kernel_rfl))
  t0 := Try.underlying0
  a0 := Try.isAgg0
  z0 := Try.sizeOf0
  v0 := Try.zeroValue0
  t3 := Try.underlying3
  a3 := Try.isAgg3
  z3 := Try.sizeOf3
  v3 := Try.zeroValue3
  t9 := Try.underlying9
  a9 := Try.isAgg9
  z9 := Try.sizeOf9
  v9 := Try.zeroValue9
  t37 := Try.underlying59
  a37 := Try.isAgg59
  z37 := Try.sizeOf59
  v37 := Try.zeroValue59
  t70 := Try.underlying58
  a70 := Try.isAgg58
  z70 := Try.sizeOf58
  v70 := Try.zeroValue58
  t72 := Try.underlying61
  a72 := Try.isAgg61
  z72 := Try.sizeOf61
  v72 := Try.zeroValue61
  t127 := Try.underlying87
  a127 := Try.isAgg87
  z127 := Try.sizeOf87
  v127 := Try.zeroValue87 }
def ren240 : Go.Shelf.Ren := ⟨fun | 240 => 59 | 276 => 69 | n => n, fun | 0 => 0 | 4 => 4 | 5 => 5 | 9 => 9 | 20 => 20 | 37 => 59 | 70 => 58 | 72 => 61 | 80 => 63 | 164 => 99 | n => n, fun n => n⟩
theorem lays240 : Go.Proofs.Lays.n240 Try.prog ren240 := {
  mixed := by kernel_rfl
  f240 := Try.func59.trans (congrArg some (by kernel_rfl))
  f276 := Try.func69.trans (congrArg some (by kernel_rfl))
  t0 := Try.underlying0
  a0 := Try.isAgg0
  z0 := Try.sizeOf0
  v0 := Try.zeroValue0
  t4 := Try.underlying4
  a4 := Try.isAgg4
  z4 := Try.sizeOf4
  v4 := Try.zeroValue4
  t9 := Try.underlying9
  a9 := Try.isAgg9
  z9 := Try.sizeOf9
  v9 := Try.zeroValue9
  t20 := Try.underlying20
  a20 := Try.isAgg20
  z20 := Try.sizeOf20
  v20 := Try.zeroValue20
  t70 := Try.underlying58
  a70 := Try.isAgg58
  z70 := Try.sizeOf58
  v70 := Try.zeroValue58
  t72 := Try.underlying61
  a72 := Try.isAgg61
  z72 := Try.sizeOf61
  v72 := Try.zeroValue61
  t164 := Try.underlying99
  a164 := Try.isAgg99
  z164 := Try.sizeOf99
  v164 := Try.zeroValue99 }
theorem extra166 : Builder.Extra Try.prog ren166 := { sizeBuilder := by kernel_rfl, liesBuilder := by kernel_rfl, t5 := Try.underlying5, a5 := Try.isAgg5, z5 := Try.sizeOf5, v5 := Try.zeroValue5, infoByte := by kernel_rfl, cellsByte := by kernel_rfl, sizeByte := by kernel_rfl, neB5 := by decide }
theorem extra169 : Builder.Extra Try.prog ren169 := { sizeBuilder := by kernel_rfl, liesBuilder := by kernel_rfl, t5 := Try.underlying5, a5 := Try.isAgg5, z5 := Try.sizeOf5, v5 := Try.zeroValue5, infoByte := by kernel_rfl, cellsByte := by kernel_rfl, sizeByte := by kernel_rfl, neB5 := by decide }

/-- The builder at block b, whose bytes lie in blocks from base on, holds l. -/
def HasB (w : World) (base b : Nat) (l : List UInt8) : Prop := Lib.IsBuilderF 61 5 base b (Lib.byteCells l) w
/-- What a write to the builder at b leaves as it was. -/
def KeepB (base b : Nat) (w w1 : World) : Prop := Below base w w1 ∧ Lib.OthersKept 5 (some b) w w1
theorem KeepB.refl (base b : Nat) (w : World) : KeepB base b w w := ⟨Below.refl _ _, Lib.OthersKept.refl _ _ _⟩
theorem KeepB.trans {base b : Nat} {w w1 w2 : World} (h : KeepB base b w w1) (k : KeepB base b w1 w2) : KeepB base b w w2 := ⟨h.1.trans k.1, h.2.trans k.2⟩
theorem KeepB.of {base b : Nat} {w w1 : World} (h : Below w.heap.size w w1) (hb : base ≤ w.heap.size) : KeepB base b w w1 :=
  ⟨h.mono hb, fun k o hk _ _ => by rw [h.block k (Array.getElem?_eq_some_iff.1 hk).1]; exact hk⟩
theorem HasB.lt {w : World} {base b : Nat} {l : List UInt8} (h : HasB w base b l) : b < w.heap.size := h.elim (·.lt) (·.lt)
theorem HasB.base_le {w : World} {base b : Nat} {l : List UInt8} (h : HasB w base b l) : base ≤ b := h.elim (·.1) (·.1)
theorem HasB.keep {w w1 : World} {base b : Nat} {l : List UInt8} (h : HasB w base b l) (hb : Below w.heap.size w w1) : HasB w1 base b l := by
  have key : ∀ p, Lib.BuilderAtF 61 5 base b p (Lib.byteCells l) w → Lib.BuilderAtF 61 5 base b p (Lib.byteCells l) w1 := by
    rintro p ⟨h1, v, h2, h3, h4⟩
    refine ⟨h1, v, ?_, ⟨h3.1, ?_⟩, h4⟩
    · rw [hb.block b (Array.getElem?_eq_some_iff.1 h2).1]; exact h2
    · rcases h3.2 with hn | ⟨g, cap, cur, fz, e, hg, hgg, rest⟩
      · exact .inl hn
      · exact .inr ⟨g, cap, cur, fz, e, hg, (hb.block g (Array.getElem?_eq_some_iff.1 hgg).1).trans hgg, rest⟩
  exact h.elim (fun x => .inl (key _ x)) (fun x => .inr (key _ x))
theorem byteCells_app (a b : List UInt8) : Lib.byteCells (a ++ b) = Lib.byteCells a ++ Lib.byteCells b := by simp [Lib.byteCells]
theorem strCells_mk (s : ByteArray) : Lib.strCells s = Lib.byteCells s.data.toList := by simp [Lib.strCells, Lib.byteCells]
/-- A write: the bytes come behind. -/
theorem write_any (base b : Nat) (l : List UInt8) (s : ByteArray) (w : World) (h : HasB w base b l) (hlen : l.length + s.size ≤ 140737488355328) :
    Calls Try.prog 49 #[.pointer (some ⟨b, 0, none⟩), .string s] w fun e w1 => e = .returned (.tuple #[.int .i64 s.size, .nilIface]) ∧ HasB w1 base b (l ++ s.data.toList) ∧ KeepB base b w w1 := by
  refine (Any.Builder_WriteString_k lays166 extra166 base b (Lib.byteCells l) s w h (by rw [Lib.byteCells_length]; exact hlen) (by have := h.base_le; have := h.lt; omega)).mono ?_
  rintro e w1 ⟨h1, h2, h3, h4⟩
  refine ⟨h1, .inr ?_, h3, h4⟩
  rw [byteCells_app, ← strCells_mk]
  exact h2
theorem string_any (base b : Nat) (l : List UInt8) (w : World) (h : HasB w base b l) :
    Calls Try.prog 31 #[.pointer (some ⟨b, 0, none⟩)] w fun e w1 => e = .returned (.string ⟨l.toArray⟩) ∧ KeepB base b w w1 := by
  refine (Any.Builder_String_any_k lays169 extra169 base b l w h (by have := h.base_le; have := h.lt; omega)).mono ?_
  rintro e w1 ⟨h1, _, h3, h4⟩
  exact ⟨h1, h3, h4⟩
end Go.Proofs.Ytdohnbdhloknnaa
