/-
  What the library proves once of (*strings.Builder).WriteString and String, at this program's numbers; a builder is kept by whatever leaves old memory as it was; a builder at its start. Condition: at most 2^47 bytes.
-/
import Derived.Shelf.Strings.BuilderK
import Derived.Test.YtgjnafnmdieniaaDoorTreeMem
namespace Go.Proofs.YtgjnafnmdieniaaDoor
open Go.Shelf Go.RowKit

def ren166 : Go.Shelf.Ren := ⟨fun | 166 => 33 | 240 => 49 | 276 => 63 | n => n, fun | 0 => 0 | 3 => 3 | 4 => 4 | 5 => 5 | 9 => 9 | 20 => 20 | 37 => 56 | 70 => 55 | 72 => 58 | 75 => 60 | 80 => 69 | 164 => 92 | n => n, fun n => n⟩
theorem lays166 : Go.Proofs.Lays.n166 Tryd.prog ren166 := {
  mixed := by kernel_rfl
  f166 := Tryd.func33.trans (congrArg some (by kernel_rfl))
  f240 := Tryd.func49.trans (congrArg some (by kernel_rfl))
  f276 := Tryd.func63.trans (congrArg some (by kernel_rfl))
  t0 := Tryd.underlying0
  a0 := Tryd.isAgg0
  z0 := Tryd.sizeOf0
  v0 := Tryd.zeroValue0
  t3 := Tryd.underlying3
  a3 := Tryd.isAgg3
  z3 := Tryd.sizeOf3
  v3 := Tryd.zeroValue3
  t4 := Tryd.underlying4
  a4 := Tryd.isAgg4
  z4 := Tryd.sizeOf4
  v4 := Tryd.zeroValue4
  t9 := Tryd.underlying9
  a9 := Tryd.isAgg9
  z9 := Tryd.sizeOf9
  v9 := Tryd.zeroValue9
  t20 := Tryd.underlying20
  a20 := Tryd.isAgg20
  z20 := Tryd.sizeOf20
  v20 := Tryd.zeroValue20
  t37 := Tryd.underlying56
  a37 := Tryd.isAgg56
  z37 := Tryd.sizeOf56
  v37 := Tryd.zeroValue56
  t70 := Tryd.underlying55
  a70 := Tryd.isAgg55
  z70 := Tryd.sizeOf55
  v70 := Tryd.zeroValue55
  t72 := Tryd.underlying58
  a72 := Tryd.isAgg58
  z72 := Tryd.sizeOf58
  v72 := Tryd.zeroValue58
  t75 := Tryd.underlying60
  a75 := Tryd.isAgg60
  z75 := Tryd.sizeOf60
  v75 := Tryd.zeroValue60
  t164 := Tryd.underlying92
  a164 := Tryd.isAgg92
  z164 := Tryd.sizeOf92
  v164 := Tryd.zeroValue92 }
def ren169 : Go.Shelf.Ren := ⟨fun | 169 => 36 | n => n, fun | 0 => 0 | 3 => 3 | 5 => 5 | 9 => 9 | 37 => 56 | 70 => 55 | 72 => 58 | 80 => 69 | 127 => 84 | n => n, fun n => n⟩
theorem lays169 : Go.Proofs.Lays.n169 Tryd.prog ren169 := {
  mixed := by kernel_rfl
  f169 := Tryd.func36.trans (congrArg some (by kernel_rfl))
  t0 := Tryd.underlying0
  a0 := Tryd.isAgg0
  z0 := Tryd.sizeOf0
  v0 := Tryd.zeroValue0
  t3 := Tryd.underlying3
  a3 := Tryd.isAgg3
  z3 := Tryd.sizeOf3
  v3 := Tryd.zeroValue3
  t9 := Tryd.underlying9
  a9 := Tryd.isAgg9
  z9 := Tryd.sizeOf9
  v9 := Tryd.zeroValue9
  t37 := Tryd.underlying56
  a37 := Tryd.isAgg56
  z37 := Tryd.sizeOf56
  v37 := Tryd.zeroValue56
  t70 := Tryd.underlying55
  a70 := Tryd.isAgg55
  z70 := Tryd.sizeOf55
  v70 := Tryd.zeroValue55
  t72 := Tryd.underlying58
  a72 := Tryd.isAgg58
  z72 := Tryd.sizeOf58
  v72 := Tryd.zeroValue58
  t127 := Tryd.underlying84
  a127 := Tryd.isAgg84
  z127 := Tryd.sizeOf84
  v127 := Tryd.zeroValue84 }
def ren240 : Go.Shelf.Ren := ⟨fun | 240 => 49 | 276 => 63 | n => n, fun | 0 => 0 | 4 => 4 | 5 => 5 | 9 => 9 | 20 => 20 | 37 => 56 | 70 => 55 | 72 => 58 | 80 => 69 | 164 => 92 | n => n, fun n => n⟩
theorem lays240 : Go.Proofs.Lays.n240 Tryd.prog ren240 := {
  mixed := by kernel_rfl
  f240 := Tryd.func49.trans (congrArg some (by kernel_rfl))
  f276 := Tryd.func63.trans (congrArg some (by kernel_rfl))
  t0 := Tryd.underlying0
  a0 := Tryd.isAgg0
  z0 := Tryd.sizeOf0
  v0 := Tryd.zeroValue0
  t4 := Tryd.underlying4
  a4 := Tryd.isAgg4
  z4 := Tryd.sizeOf4
  v4 := Tryd.zeroValue4
  t9 := Tryd.underlying9
  a9 := Tryd.isAgg9
  z9 := Tryd.sizeOf9
  v9 := Tryd.zeroValue9
  t20 := Tryd.underlying20
  a20 := Tryd.isAgg20
  z20 := Tryd.sizeOf20
  v20 := Tryd.zeroValue20
  t70 := Tryd.underlying55
  a70 := Tryd.isAgg55
  z70 := Tryd.sizeOf55
  v70 := Tryd.zeroValue55
  t72 := Tryd.underlying58
  a72 := Tryd.isAgg58
  z72 := Tryd.sizeOf58
  v72 := Tryd.zeroValue58
  t164 := Tryd.underlying92
  a164 := Tryd.isAgg92
  z164 := Tryd.sizeOf92
  v164 := Tryd.zeroValue92 }
theorem extra166 : Builder.Extra Tryd.prog ren166 := { sizeBuilder := by kernel_rfl, liesBuilder := by kernel_rfl, t5 := Tryd.underlying5, a5 := Tryd.isAgg5, z5 := Tryd.sizeOf5, v5 := Tryd.zeroValue5, infoByte := by kernel_rfl, cellsByte := by kernel_rfl, sizeByte := by kernel_rfl, neB5 := by decide }
theorem extra169 : Builder.Extra Tryd.prog ren169 := { sizeBuilder := by kernel_rfl, liesBuilder := by kernel_rfl, t5 := Tryd.underlying5, a5 := Tryd.isAgg5, z5 := Tryd.sizeOf5, v5 := Tryd.zeroValue5, infoByte := by kernel_rfl, cellsByte := by kernel_rfl, sizeByte := by kernel_rfl, neB5 := by decide }

/-- The builder at block b, whose bytes lie in blocks from base on, holds l. -/
def HasB (w : World) (base b : Nat) (l : List UInt8) : Prop := Lib.IsBuilderF 58 5 base b (Lib.byteCells l) w
/-- What a write to the builder at b leaves as it was. -/
def KeepB (base b : Nat) (w w1 : World) : Prop := Below base w w1 ∧ Lib.OthersKept 5 (some b) w w1
theorem KeepB.refl (base b : Nat) (w : World) : KeepB base b w w := ⟨Below.refl _ _, Lib.OthersKept.refl _ _ _⟩
theorem KeepB.trans {base b : Nat} {w w1 w2 : World} (h : KeepB base b w w1) (k : KeepB base b w1 w2) : KeepB base b w w2 := ⟨h.1.trans k.1, h.2.trans k.2⟩
theorem KeepB.of {base b : Nat} {w w1 : World} (h : Below w.heap.size w w1) (hb : base ≤ w.heap.size) : KeepB base b w w1 :=
  ⟨h.mono hb, fun k o hk _ _ => by rw [h.block k (Array.getElem?_eq_some_iff.1 hk).1]; exact hk⟩
theorem HasB.lt {w : World} {base b : Nat} {l : List UInt8} (h : HasB w base b l) : b < w.heap.size := h.elim (·.lt) (·.lt)
theorem HasB.base_le {w : World} {base b : Nat} {l : List UInt8} (h : HasB w base b l) : base ≤ b := h.elim (·.1) (·.1)
theorem HasB.keep {w w1 : World} {base b : Nat} {l : List UInt8} (h : HasB w base b l) (hb : Below w.heap.size w w1) : HasB w1 base b l := by
  have key : ∀ p, Lib.BuilderAtF 58 5 base b p (Lib.byteCells l) w → Lib.BuilderAtF 58 5 base b p (Lib.byteCells l) w1 := by
    rintro p ⟨h1, v, h2, h3, h4⟩
    refine ⟨h1, v, ?_, ⟨h3.1, ?_⟩, h4⟩
    · rw [hb.block b (Array.getElem?_eq_some_iff.1 h2).1]; exact h2
    · rcases h3.2 with hn | ⟨g, cap, cur, fz, e, hg, hgg, rest⟩
      · exact .inl hn
      · exact .inr ⟨g, cap, cur, fz, e, hg, (hb.block g (Array.getElem?_eq_some_iff.1 hgg).1).trans hgg, rest⟩
  exact h.elim (fun x => .inl (key _ x)) (fun x => .inr (key _ x))
theorem byteCells_app (a b : List UInt8) : Lib.byteCells (a ++ b) = Lib.byteCells a ++ Lib.byteCells b := by simp [Lib.byteCells]
theorem strCells_mk (s : ByteArray) : Lib.strCells s = Lib.byteCells s.data.toList := by simp [Lib.strCells, Lib.byteCells]
/-- A write: the bytes come behind. -/
theorem write_any (base b : Nat) (l : List UInt8) (s : ByteArray) (w : World) (h : HasB w base b l) (hlen : l.length + s.size ≤ 140737488355328) :
    Calls Tryd.prog 33 #[.pointer (some ⟨b, 0, none⟩), .string s] w fun e w1 => e = .returned (.tuple #[.int .i64 s.size, .nilIface]) ∧ HasB w1 base b (l ++ s.data.toList) ∧ KeepB base b w w1 := by
  refine (Any.Builder_WriteString_k lays166 extra166 base b (Lib.byteCells l) s w h (by rw [Lib.byteCells_length]; exact hlen) (by have := h.base_le; have := h.lt; omega)).mono ?_
  rintro e w1 ⟨h1, h2, h3, h4⟩
  refine ⟨h1, .inr ?_, h3, h4⟩
  rw [byteCells_app, ← strCells_mk]
  exact h2
theorem string_any (base b : Nat) (l : List UInt8) (w : World) (h : HasB w base b l) :
    Calls Tryd.prog 36 #[.pointer (some ⟨b, 0, none⟩)] w fun e w1 => e = .returned (.string ⟨l.toArray⟩) ∧ KeepB base b w w1 := by
  refine (Any.Builder_String_any_k lays169 extra169 base b l w h (by have := h.base_le; have := h.lt; omega)).mono ?_
  rintro e w1 ⟨h1, _, h3, h4⟩
  exact ⟨h1, h3, h4⟩
theorem HasB.eq {w : World} {base b : Nat} {l l2 : List UInt8} (h : HasB w base b l) (e : l = l2) : HasB w base b l2 := e ▸ h
theorem HasB.new (w : World) : HasB (w.alloc (.cells #[.pointer none, .slice none 0 0] 58)) w.heap.size w.heap.size [] := by
  refine .inl ⟨Nat.le_refl _, .slice none 0 0, ?_, ⟨rfl, .inl ⟨rfl, rfl⟩⟩, by simp [Value.ownBlock]⟩
  show (w.heap.push _)[w.heap.size]? = _
  simp
end Go.Proofs.YtgjnafnmdieniaaDoor
