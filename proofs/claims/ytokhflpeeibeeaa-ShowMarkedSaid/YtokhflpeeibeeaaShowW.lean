/-
  Contracts of layer 4's depthAt, indent, writeClose and writeLine: what each writes behind what the builder holds. Condition: lines as a tree has them; a builder of at most 2^40 bytes.
-/
import Derived.Test.YtokhflpeeibeeaaBuild
import Derived.Test.YtokhflpeeibeeaaShowPure3
import Derived.Test.YtokhflpeeibeeaaWordApp
import Derived.Deep.LoopGhost
import Derived.WalkMore
namespace Go.Proofs.Ytokhflpeeibeeaa
open Go.RowKit

/-- A write of a call: behind it the builder holds l. -/
def WroteB (base b : Nat) (w : World) (l : List UInt8) (e : Ending) (w1 : World) : Prop := e = .returned (.tuple #[]) ∧ HasB w1 base b l ∧ KeepB base b w w1
theorem HasB.eq {w : World} {base b : Nat} {l l2 : List UInt8} (h : HasB w base b l) (e : l = l2) : HasB w base b l2 := e ▸ h

def lnO (x : T.Ln) : Obj := .cells #[.int .i64 x.depth, .string (sB x.word), .int .i64 x.mark] 37
/-- The block lb holds a line. -/
def LineAt (w : World) (lb : Nat) (x : T.Ln) : Prop := w.heap[lb]? = some (lnO x)
theorem LineAt.keep {w w1 : World} {base b lb : Nat} {x : T.Ln} (h : LineAt w lb x) (hk : KeepB base b w w1) (hne : lb ≠ b) : LineAt w1 lb x :=
  hk.2 lb _ h (fun e => hne (Option.some.inj e)) (fun c fz e => by simp [lnO] at e)
theorem LineAt.below {w w1 : World} {lb : Nat} {x : T.Ln} (h : LineAt w lb x) (hb : Below w.heap.size w w1) : LineAt w1 lb x :=
  (hb.block lb (Array.getElem?_eq_some_iff.1 h).1).trans h
theorem LineAt.new (w : World) (x : T.Ln) : LineAt (w.alloc (lnO x)) w.heap.size x := by show (w.heap.push _)[w.heap.size]? = _; simp
theorem LineAt.cells {w : World} {lb : Nat} {x : T.Ln} (h : LineAt w lb x) : w.cell? ⟨lb, 0, none⟩ = some (.int .i64 x.depth) ∧ w.cell? ⟨lb, 1, none⟩ = some (.string (sB x.word)) ∧ w.cell? ⟨lb, 2, none⟩ = some (.int .i64 x.mark) := by
  unfold LineAt lnO at h
  refine ⟨?_, ?_, ?_⟩ <;> rw [Lib.cell_of_heap h] <;> rfl

theorem indent_any (base b : Nat) (l : List UInt8) (n : Nat) (w : World) (h : HasB w base b l) (hn : n ≤ 16) (hlen : l.length ≤ 1099511627776) :
    Calls Try.prog 30 #[.pointer (some ⟨b, 0, none⟩), .int .i64 n] w (WroteB base b w (l ++ S.blanksL n)) := by
  have HL := Lib.hid hlen
  clear hlen
  go_enter Try.func30, Try.ntmps30
  go_wp2
  go_loopg [5] n (fun g x wr => ∃ k : Nat, k + g = n ∧ x = .int .i64 k ∧ HasB wr base b (l ++ S.blanksL k) ∧ KeepB base b w wr)
  case atStart => exact ⟨0, by omega, rfl, by simpa [S.blanksL] using h, KeepB.refl _ _ _⟩
  case round =>
    obtain ⟨k, hg, rfl, hB, hK⟩ := hrel
    have HG := Lib.hid hg
    have HB := Lib.hid hB
    have HK := Lib.hid hK
    clear hg hB hK
    by_cases hlt : k < n
    · have blt : decide ((k : Int) < (n : Int)) = true := decide_eq_true (by omega)
      have hlen2 : (l ++ S.blanksL k).length + (⟨#[32, 32]⟩ : ByteArray).size ≤ 140737488355328 := by
        have := HL.out; rw [List.length_append, S.blanks_len]; show _ + 2 ≤ _; omega
      go_wp2_with fail
      refine (write_any base b _ _ _ HB.out hlen2).mono ?_
      rintro e w1 ⟨rfl, hB1, hK1⟩
      have HB1 := Lib.hid hB1
      have HK1 := Lib.hid hK1
      clear hB1 hK1
      go_wp2
      go_roundg (n - (k + 1))
      case rel =>
        refine ⟨k + 1, by omega, by go_num, HB1.out.eq ?_, HK.out.trans HK1.out⟩
        rw [List.append_assoc]; congr 1
        show S.blanksL k ++ [32, 32] = S.blanksL (k + 1)
        unfold S.blanksL
        rw [show 2 * (k + 1) = 2 * k + 2 by omega, ← List.replicate_append_replicate]; rfl
      case measure => have := HG.out; omega
    · have blt : decide ((k : Int) < (n : Int)) = false := decide_eq_false (by omega)
      obtain rfl : k = n := by have := HG.out; omega
      go_wp2
      go_end0
      exact ⟨rfl, HB.out, HK.out⟩

theorem writeClose_any (base b : Nat) (l : List UInt8) (n : Nat) (w : World) (h : HasB w base b l) (hn : n ≤ 16) (hlen : l.length ≤ 1099511627000) :
    Calls Try.prog 22 #[.pointer (some ⟨b, 0, none⟩), .int .i64 n] w (WroteB base b w (l ++ (S.blanksL n ++ [125, 10]))) := by
  have hlen2 : (l ++ S.blanksL n).length + (⟨#[125, 10]⟩ : ByteArray).size ≤ 140737488355328 := by rw [List.length_append, S.blanks_len]; show _ + 2 ≤ _; omega
  have H2 := Lib.hid hlen2
  clear hlen2
  go_enter Try.func22, Try.ntmps22
  go_wp2_with fail
  refine (indent_any base b l n _ h hn (by omega)).mono ?_
  rintro e w1 ⟨rfl, hB1, hK1⟩
  have HB1 := Lib.hid hB1
  have HK1 := Lib.hid hK1
  clear hB1 hK1
  go_wp2_with fail
  refine (write_any base b _ _ _ HB1.out H2.out).mono ?_
  rintro e w2 ⟨rfl, hB2, hK2⟩
  have HB2 := Lib.hid hB2
  have HK2 := Lib.hid hK2
  clear hB2 hK2
  go_wp2
  go_end0
  exact ⟨rfl, HB2.out.eq (List.append_assoc _ _ _), HK1.out.trans HK2.out⟩
end Go.Proofs.Ytokhflpeeibeeaa
