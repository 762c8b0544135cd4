/-
  Contracts of layer 4's depthAt, indent, writeClose and writeLine: what each writes behind what the builder holds. Condition: lines as a tree has them; a builder of at most 2^40 bytes.
  Contract of layer 4's writeLine: a line's row is written behind what the builder holds. Condition: a line as a tree has it; a builder of at most 2^40 bytes.
  Contracts of layer 4's depthAt and Text: a tree's text is what the plain definition says, and of what is no tree there is none; below the heap's size at the call the world is as it was. Condition: at most 2^30 lines.
-/
import Derived.Test.YtjgogjamkbmcjaaBuild
import Derived.Test.YtjgogjamkbmcjaaPureS
import Derived.Test.YtjgogjamkbmcjaaWordC
import Derived.Deep.LoopGhost
import Derived.WalkMore
import Derived.Test.YtjgogjamkbmcjaaTreeE

namespace Go.Proofs.Ytjgogjamkbmcjaa
open Go.RowKit

/-- A write of a call: behind it the builder holds l. -/
def WroteB (base b : Nat) (w : World) (l : List UInt8) (e : Ending) (w1 : World) : Prop := e = .returned (.tuple #[]) ∧ HasB w1 base b l ∧ KeepB base b w w1
theorem HasB.eq {w : World} {base b : Nat} {l l2 : List UInt8} (h : HasB w base b l) (e : l = l2) : HasB w base b l2 := e ▸ h

def lnO (x : T.Ln) : Obj := .cells #[.int .i64 x.depth, .string (sB x.word), .int .i64 x.mark] 36
/-- The block lb holds a line. -/
def LineAt (w : World) (lb : Nat) (x : T.Ln) : Prop := w.heap[lb]? = some (lnO x)
theorem LineAt.keep {w w1 : World} {base b lb : Nat} {x : T.Ln} (h : LineAt w lb x) (hk : KeepB base b w w1) (hne : lb ≠ b) : LineAt w1 lb x :=
  hk.2 lb _ h (fun e => hne (Option.some.inj e)) (fun c fz e => by simp [lnO] at e)
theorem LineAt.below {w w1 : World} {lb : Nat} {x : T.Ln} (h : LineAt w lb x) (hb : Below w.heap.size w w1) : LineAt w1 lb x :=
  (hb.block lb (Array.getElem?_eq_some_iff.1 h).1).trans h
theorem LineAt.new (w : World) (x : T.Ln) : LineAt (w.alloc (lnO x)) w.heap.size x := by show (w.heap.push _)[w.heap.size]? = _; simp
theorem LineAt.cells {w : World} {lb : Nat} {x : T.Ln} (h : LineAt w lb x) : w.cell? ⟨lb, 0, none⟩ = some (.int .i64 x.depth) ∧ w.cell? ⟨lb, 1, none⟩ = some (.string (sB x.word)) ∧ w.cell? ⟨lb, 2, none⟩ = some (.int .i64 x.mark) := by
  unfold LineAt lnO at h
  refine ⟨?_, ?_, ?_⟩ <;> rw [Lib.cell_of_heap h] <;> rfl

theorem indent_any (base b : Nat) (l : List UInt8) (n : Nat) (w : World) (h : HasB w base b l) (hn : n ≤ 16) (hlen : l.length ≤ 1099511627776) :
    Calls Try.prog 50 #[.pointer (some ⟨b, 0, none⟩), .int .i64 n] w (WroteB base b w (l ++ S.blanksL n)) := by
  have HL := Lib.hid hlen
  clear hlen
  go_enter Try.func50, Try.ntmps50
  go_wp2
  go_loopg [5] n (fun g x wr => ∃ k : Nat, k + g = n ∧ x = .int .i64 k ∧ HasB wr base b (l ++ S.blanksL k) ∧ KeepB base b w wr)
  case atStart => exact ⟨0, by omega, rfl, by simpa [S.blanksL] using h, KeepB.refl _ _ _⟩
  case round =>
    obtain ⟨k, hg, rfl, hB, hK⟩ := hrel
    have HG := Lib.hid hg
    have HB := Lib.hid hB
    have HK := Lib.hid hK
    clear hg hB hK
    by_cases hlt : k < n
    · have blt : decide ((k : Int) < (n : Int)) = true := decide_eq_true (by omega)
      have hlen2 : (l ++ S.blanksL k).length + (⟨#[32, 32]⟩ : ByteArray).size ≤ 140737488355328 := by
        have := HL.out; rw [List.length_append, S.blanks_len]; show _ + 2 ≤ _; omega
      go_wp2_with fail
      refine (write_any base b _ _ _ HB.out hlen2).mono ?_
      rintro e w1 ⟨rfl, hB1, hK1⟩
      have HB1 := Lib.hid hB1
      have HK1 := Lib.hid hK1
      clear hB1 hK1
      go_wp2
      go_roundg (n - (k + 1))
      case rel =>
        refine ⟨k + 1, by omega, by go_num, HB1.out.eq ?_, HK.out.trans HK1.out⟩
        rw [List.append_assoc]; congr 1
        show S.blanksL k ++ [32, 32] = S.blanksL (k + 1)
        unfold S.blanksL
        rw [show 2 * (k + 1) = 2 * k + 2 by omega, ← List.replicate_append_replicate]; rfl
      case measure => have := HG.out; omega
    · have blt : decide ((k : Int) < (n : Int)) = false := decide_eq_false (by omega)
      obtain rfl : k = n := by have := HG.out; omega
      go_wp2
      go_end0
      exact ⟨rfl, HB.out, HK.out⟩

theorem writeClose_any (base b : Nat) (l : List UInt8) (n : Nat) (w : World) (h : HasB w base b l) (hn : n ≤ 16) (hlen : l.length ≤ 1099511627000) :
    Calls Try.prog 29 #[.pointer (some ⟨b, 0, none⟩), .int .i64 n] w (WroteB base b w (l ++ (S.blanksL n ++ [125, 10]))) := by
  have hlen2 : (l ++ S.blanksL n).length + (⟨#[125, 10]⟩ : ByteArray).size ≤ 140737488355328 := by rw [List.length_append, S.blanks_len]; show _ + 2 ≤ _; omega
  have H2 := Lib.hid hlen2
  clear hlen2
  go_enter Try.func29, Try.ntmps29
  go_wp2_with fail
  refine (indent_any base b l n _ h hn (by omega)).mono ?_
  rintro e w1 ⟨rfl, hB1, hK1⟩
  have HB1 := Lib.hid hB1
  have HK1 := Lib.hid hK1
  clear hB1 hK1
  go_wp2_with fail
  refine (write_any base b _ _ _ HB1.out H2.out).mono ?_
  rintro e w2 ⟨rfl, hB2, hK2⟩
  have HB2 := Lib.hid hB2
  have HK2 := Lib.hid hK2
  clear hB2 hK2
  go_wp2
  go_end0
  exact ⟨rfl, HB2.out.eq (List.append_assoc _ _ _), HK1.out.trans HK2.out⟩
end Go.Proofs.Ytjgogjamkbmcjaa

namespace Go.Proofs.Ytjgogjamkbmcjaa
open Go.RowKit

theorem quote_is (x : List UInt8) (w : World) (h : x.length ≤ 40) : Calls Try.prog 52 #[.string (sB x)] w (WroteS w.heap.size w (W.quoteL x) 0) := by
  have := quote_any (sB x) w
  rw [sB_size, if_pos h, if_pos h, sB_data] at this
  exact this
/-- What a line's row is, but for the ends of parts. -/
def lineRow (x : T.Ln) (o : Bool) : List UInt8 := S.blanksL x.depth.toNat ++ S.markT x.mark ++ W.quoteL x.word ++ (if o = true then [32, 123, 10] else [59, 10])

set_option maxRecDepth 100000 in
set_option maxHeartbeats 1000000 in
theorem writeLine_0o (base b : Nat) (l : List UInt8) (d : Nat) (wd : List UInt8) (w : World) (h : HasB w base b l) (hd : d ≤ 15) (hw : wd.length ≤ 40) (hlen : l.length ≤ 1099511627776) :
    Calls Try.prog 28 #[.pointer (some ⟨b, 0, none⟩), .agg #[.int .i64 d, .string (sB wd), .int .i64 0], .bool true] w (WroteB base b w (l ++ lineRow ⟨d, wd, 0⟩ true)) := by
  have hq := (W.quote_len wd).2
  have hbl := S.blanks_len d
  have hlt := h.lt
  have HB := Lib.hid (h.keep ((Below.refl w.heap.size w).alloc (Nat.le_refl _) (lnO ⟨d, wd, 0⟩)))
  have HL := Lib.hid (LineAt.new w ⟨d, wd, 0⟩)
  have hb0 : KeepB base b w (w.alloc (lnO ⟨d, wd, 0⟩)) := KeepB.of ((Below.refl _ _).alloc (Nat.le_refl _) _) (by have := h.base_le; omega)
  have HK := Lib.hid hb0
  have hlb : w.heap.size ≠ b := by omega
  clear hb0 h
  simp only [lnO] at HB HL HK
  obtain ⟨c0, c1, c2⟩ := HL.out.cells
  simp only [] at c0 c1 c2
  go_enter Try.func28, Try.ntmps28
  go_wp2_with fail
  refine (indent_any base b _ d _ HB.out (by omega) hlen).mono ?_
  rintro e w1 ⟨rfl, hB, hK⟩
  replace HB := Lib.hid hB
  replace HL := Lib.hid (HL.out.keep hK hlb)
  replace HK := Lib.hid (HK.out.trans hK)
  clear hB hK c0 c1 c2
  obtain ⟨c0, c1, c2⟩ := HL.out.cells
  simp only [] at c0 c1 c2
  go_wp2_with fail
  refine (quote_is wd _ hw).mono ?_
  rintro e w2 ⟨rfl, hQ⟩
  replace HK := Lib.hid (HK.out.trans (KeepB.of hQ (Nat.le_of_lt (Nat.lt_of_le_of_lt HB.out.base_le HB.out.lt))))
  replace HB := Lib.hid (HB.out.keep hQ)
  clear hQ c0 c1 c2
  have hlen3 : (l ++ S.blanksL d ++ S.markT 0).length + (⟨(W.quoteL wd).toArray⟩ : ByteArray).size ≤ 140737488355328 := by
    have hs : (⟨(W.quoteL wd).toArray⟩ : ByteArray).size = (W.quoteL wd).length := sB_size _
    have hm : (S.markT 0).length ≤ 19 := by decide
    simp only [List.length_append, hbl, hs]; omega
  replace HB := Lib.hid (HB.out.eq (show _ = l ++ S.blanksL d ++ S.markT 0 from (List.append_nil _).symm))
  go_wp2_with fail
  refine (write_any base b _ _ _ HB.out hlen3).mono ?_
  rintro e w3 ⟨rfl, hB, hK⟩
  replace HB := Lib.hid (hB.eq (show _ = l ++ S.blanksL d ++ S.markT 0 ++ W.quoteL wd by simp))
  replace HK := Lib.hid (HK.out.trans hK)
  clear hB hK
  have hlen4 : (l ++ S.blanksL d ++ S.markT 0 ++ W.quoteL wd).length + (⟨#[32, 123, 10]⟩ : ByteArray).size ≤ 140737488355328 := by
    have hm : (S.markT 0).length ≤ 19 := by decide
    have hs : (⟨#[32, 123, 10]⟩ : ByteArray).size = 3 := rfl
    simp only [List.length_append, hbl, hs]; omega
  go_wp2_with fail
  refine (write_any base b _ _ _ HB.out hlen4).mono ?_
  rintro e w4 ⟨rfl, hB, hK⟩
  have HB2 := Lib.hid hB
  replace HK := Lib.hid (HK.out.trans hK)
  clear hB hK
  go_wp2
  go_end0
  refine ⟨rfl, HB2.out.eq ?_, HK.out⟩
  simp [lineRow]

set_option maxRecDepth 100000 in
set_option maxHeartbeats 1000000 in
theorem writeLine_0c (base b : Nat) (l : List UInt8) (d : Nat) (wd : List UInt8) (w : World) (h : HasB w base b l) (hd : d ≤ 15) (hw : wd.length ≤ 40) (hlen : l.length ≤ 1099511627776) :
    Calls Try.prog 28 #[.pointer (some ⟨b, 0, none⟩), .agg #[.int .i64 d, .string (sB wd), .int .i64 0], .bool false] w (WroteB base b w (l ++ lineRow ⟨d, wd, 0⟩ false)) := by
  have hq := (W.quote_len wd).2
  have hbl := S.blanks_len d
  have hlt := h.lt
  have HB := Lib.hid (h.keep ((Below.refl w.heap.size w).alloc (Nat.le_refl _) (lnO ⟨d, wd, 0⟩)))
  have HL := Lib.hid (LineAt.new w ⟨d, wd, 0⟩)
  have hb0 : KeepB base b w (w.alloc (lnO ⟨d, wd, 0⟩)) := KeepB.of ((Below.refl _ _).alloc (Nat.le_refl _) _) (by have := h.base_le; omega)
  have HK := Lib.hid hb0
  have hlb : w.heap.size ≠ b := by omega
  clear hb0 h
  simp only [lnO] at HB HL HK
  obtain ⟨c0, c1, c2⟩ := HL.out.cells
  simp only [] at c0 c1 c2
  go_enter Try.func28, Try.ntmps28
  go_wp2_with fail
  refine (indent_any base b _ d _ HB.out (by omega) hlen).mono ?_
  rintro e w1 ⟨rfl, hB, hK⟩
  replace HB := Lib.hid hB
  replace HL := Lib.hid (HL.out.keep hK hlb)
  replace HK := Lib.hid (HK.out.trans hK)
  clear hB hK c0 c1 c2
  obtain ⟨c0, c1, c2⟩ := HL.out.cells
  simp only [] at c0 c1 c2
  go_wp2_with fail
  refine (quote_is wd _ hw).mono ?_
  rintro e w2 ⟨rfl, hQ⟩
  replace HK := Lib.hid (HK.out.trans (KeepB.of hQ (Nat.le_of_lt (Nat.lt_of_le_of_lt HB.out.base_le HB.out.lt))))
  replace HB := Lib.hid (HB.out.keep hQ)
  clear hQ c0 c1 c2
  have hlen3 : (l ++ S.blanksL d ++ S.markT 0).length + (⟨(W.quoteL wd).toArray⟩ : ByteArray).size ≤ 140737488355328 := by
    have hs : (⟨(W.quoteL wd).toArray⟩ : ByteArray).size = (W.quoteL wd).length := sB_size _
    have hm : (S.markT 0).length ≤ 19 := by decide
    simp only [List.length_append, hbl, hs]; omega
  replace HB := Lib.hid (HB.out.eq (show _ = l ++ S.blanksL d ++ S.markT 0 from (List.append_nil _).symm))
  go_wp2_with fail
  refine (write_any base b _ _ _ HB.out hlen3).mono ?_
  rintro e w3 ⟨rfl, hB, hK⟩
  replace HB := Lib.hid (hB.eq (show _ = l ++ S.blanksL d ++ S.markT 0 ++ W.quoteL wd by simp))
  replace HK := Lib.hid (HK.out.trans hK)
  clear hB hK
  have hlen4 : (l ++ S.blanksL d ++ S.markT 0 ++ W.quoteL wd).length + (⟨#[59, 10]⟩ : ByteArray).size ≤ 140737488355328 := by
    have hm : (S.markT 0).length ≤ 19 := by decide
    have hs : (⟨#[59, 10]⟩ : ByteArray).size = 2 := rfl
    simp only [List.length_append, hbl, hs]; omega
  go_wp2_with fail
  refine (write_any base b _ _ _ HB.out hlen4).mono ?_
  rintro e w4 ⟨rfl, hB, hK⟩
  have HB2 := Lib.hid hB
  replace HK := Lib.hid (HK.out.trans hK)
  clear hB hK
  go_wp2
  go_end0
  refine ⟨rfl, HB2.out.eq ?_, HK.out⟩
  simp [lineRow]

set_option maxRecDepth 100000 in
set_option maxHeartbeats 1000000 in
theorem writeLine_1o (base b : Nat) (l : List UInt8) (d : Nat) (wd : List UInt8) (w : World) (h : HasB w base b l) (hd : d ≤ 15) (hw : wd.length ≤ 40) (hlen : l.length ≤ 1099511627776) :
    Calls Try.prog 28 #[.pointer (some ⟨b, 0, none⟩), .agg #[.int .i64 d, .string (sB wd), .int .i64 1], .bool true] w (WroteB base b w (l ++ lineRow ⟨d, wd, 1⟩ true)) := by
  have hq := (W.quote_len wd).2
  have hbl := S.blanks_len d
  have hlt := h.lt
  have HB := Lib.hid (h.keep ((Below.refl w.heap.size w).alloc (Nat.le_refl _) (lnO ⟨d, wd, 1⟩)))
  have HL := Lib.hid (LineAt.new w ⟨d, wd, 1⟩)
  have hb0 : KeepB base b w (w.alloc (lnO ⟨d, wd, 1⟩)) := KeepB.of ((Below.refl _ _).alloc (Nat.le_refl _) _) (by have := h.base_le; omega)
  have HK := Lib.hid hb0
  have hlb : w.heap.size ≠ b := by omega
  clear hb0 h
  simp only [lnO] at HB HL HK
  obtain ⟨c0, c1, c2⟩ := HL.out.cells
  simp only [] at c0 c1 c2
  go_enter Try.func28, Try.ntmps28
  go_wp2_with fail
  refine (indent_any base b _ d _ HB.out (by omega) hlen).mono ?_
  rintro e w1 ⟨rfl, hB, hK⟩
  replace HB := Lib.hid hB
  replace HL := Lib.hid (HL.out.keep hK hlb)
  replace HK := Lib.hid (HK.out.trans hK)
  clear hB hK c0 c1 c2
  obtain ⟨c0, c1, c2⟩ := HL.out.cells
  simp only [] at c0 c1 c2
  have hlen2 : (l ++ S.blanksL d).length + (⟨#[105, 110, 97, 99, 116, 105, 118, 101, 58, 32]⟩ : ByteArray).size ≤ 140737488355328 := by
    have hs : (⟨#[105, 110, 97, 99, 116, 105, 118, 101, 58, 32]⟩ : ByteArray).size = 10 := rfl
    simp only [List.length_append, hbl, hs]; omega
  go_wp2_with fail
  refine (write_any base b _ _ _ HB.out hlen2).mono ?_
  rintro e w2 ⟨rfl, hB, hK⟩
  replace HB := Lib.hid hB
  replace HL := Lib.hid (HL.out.keep hK hlb)
  replace HK := Lib.hid (HK.out.trans hK)
  clear hB hK c0 c1 c2
  obtain ⟨c0, c1, c2⟩ := HL.out.cells
  simp only [] at c0 c1 c2
  go_wp2_with fail
  refine (quote_is wd _ hw).mono ?_
  rintro e w3 ⟨rfl, hQ⟩
  replace HK := Lib.hid (HK.out.trans (KeepB.of hQ (Nat.le_of_lt (Nat.lt_of_le_of_lt HB.out.base_le HB.out.lt))))
  replace HB := Lib.hid (HB.out.keep hQ)
  clear hQ c0 c1 c2
  have hlen4 : (l ++ S.blanksL d ++ S.markT 1).length + (⟨(W.quoteL wd).toArray⟩ : ByteArray).size ≤ 140737488355328 := by
    have hs : (⟨(W.quoteL wd).toArray⟩ : ByteArray).size = (W.quoteL wd).length := sB_size _
    have hm : (S.markT 1).length ≤ 19 := by decide
    simp only [List.length_append, hbl, hs]; omega
  replace HB := Lib.hid (HB.out.eq (show _ = l ++ S.blanksL d ++ S.markT 1 from congrArg (l ++ S.blanksL d ++ ·) (by decide)))
  go_wp2_with fail
  refine (write_any base b _ _ _ HB.out hlen4).mono ?_
  rintro e w4 ⟨rfl, hB, hK⟩
  replace HB := Lib.hid (hB.eq (show _ = l ++ S.blanksL d ++ S.markT 1 ++ W.quoteL wd by simp))
  replace HK := Lib.hid (HK.out.trans hK)
  clear hB hK
  have hlen5 : (l ++ S.blanksL d ++ S.markT 1 ++ W.quoteL wd).length + (⟨#[32, 123, 10]⟩ : ByteArray).size ≤ 140737488355328 := by
    have hm : (S.markT 1).length ≤ 19 := by decide
    have hs : (⟨#[32, 123, 10]⟩ : ByteArray).size = 3 := rfl
    simp only [List.length_append, hbl, hs]; omega
  go_wp2_with fail
  refine (write_any base b _ _ _ HB.out hlen5).mono ?_
  rintro e w5 ⟨rfl, hB, hK⟩
  have HB2 := Lib.hid hB
  replace HK := Lib.hid (HK.out.trans hK)
  clear hB hK
  go_wp2
  go_end0
  refine ⟨rfl, HB2.out.eq ?_, HK.out⟩
  simp [lineRow]

set_option maxRecDepth 100000 in
set_option maxHeartbeats 1000000 in
theorem writeLine_1c (base b : Nat) (l : List UInt8) (d : Nat) (wd : List UInt8) (w : World) (h : HasB w base b l) (hd : d ≤ 15) (hw : wd.length ≤ 40) (hlen : l.length ≤ 1099511627776) :
    Calls Try.prog 28 #[.pointer (some ⟨b, 0, none⟩), .agg #[.int .i64 d, .string (sB wd), .int .i64 1], .bool false] w (WroteB base b w (l ++ lineRow ⟨d, wd, 1⟩ false)) := by
  have hq := (W.quote_len wd).2
  have hbl := S.blanks_len d
  have hlt := h.lt
  have HB := Lib.hid (h.keep ((Below.refl w.heap.size w).alloc (Nat.le_refl _) (lnO ⟨d, wd, 1⟩)))
  have HL := Lib.hid (LineAt.new w ⟨d, wd, 1⟩)
  have hb0 : KeepB base b w (w.alloc (lnO ⟨d, wd, 1⟩)) := KeepB.of ((Below.refl _ _).alloc (Nat.le_refl _) _) (by have := h.base_le; omega)
  have HK := Lib.hid hb0
  have hlb : w.heap.size ≠ b := by omega
  clear hb0 h
  simp only [lnO] at HB HL HK
  obtain ⟨c0, c1, c2⟩ := HL.out.cells
  simp only [] at c0 c1 c2
  go_enter Try.func28, Try.ntmps28
  go_wp2_with fail
  refine (indent_any base b _ d _ HB.out (by omega) hlen).mono ?_
  rintro e w1 ⟨rfl, hB, hK⟩
  replace HB := Lib.hid hB
  replace HL := Lib.hid (HL.out.keep hK hlb)
  replace HK := Lib.hid (HK.out.trans hK)
  clear hB hK c0 c1 c2
  obtain ⟨c0, c1, c2⟩ := HL.out.cells
  simp only [] at c0 c1 c2
  have hlen2 : (l ++ S.blanksL d).length + (⟨#[105, 110, 97, 99, 116, 105, 118, 101, 58, 32]⟩ : ByteArray).size ≤ 140737488355328 := by
    have hs : (⟨#[105, 110, 97, 99, 116, 105, 118, 101, 58, 32]⟩ : ByteArray).size = 10 := rfl
    simp only [List.length_append, hbl, hs]; omega
  go_wp2_with fail
  refine (write_any base b _ _ _ HB.out hlen2).mono ?_
  rintro e w2 ⟨rfl, hB, hK⟩
  replace HB := Lib.hid hB
  replace HL := Lib.hid (HL.out.keep hK hlb)
  replace HK := Lib.hid (HK.out.trans hK)
  clear hB hK c0 c1 c2
  obtain ⟨c0, c1, c2⟩ := HL.out.cells
  simp only [] at c0 c1 c2
  go_wp2_with fail
  refine (quote_is wd _ hw).mono ?_
  rintro e w3 ⟨rfl, hQ⟩
  replace HK := Lib.hid (HK.out.trans (KeepB.of hQ (Nat.le_of_lt (Nat.lt_of_le_of_lt HB.out.base_le HB.out.lt))))
  replace HB := Lib.hid (HB.out.keep hQ)
  clear hQ c0 c1 c2
  have hlen4 : (l ++ S.blanksL d ++ S.markT 1).length + (⟨(W.quoteL wd).toArray⟩ : ByteArray).size ≤ 140737488355328 := by
    have hs : (⟨(W.quoteL wd).toArray⟩ : ByteArray).size = (W.quoteL wd).length := sB_size _
    have hm : (S.markT 1).length ≤ 19 := by decide
    simp only [List.length_append, hbl, hs]; omega
  replace HB := Lib.hid (HB.out.eq (show _ = l ++ S.blanksL d ++ S.markT 1 from congrArg (l ++ S.blanksL d ++ ·) (by decide)))
  go_wp2_with fail
  refine (write_any base b _ _ _ HB.out hlen4).mono ?_
  rintro e w4 ⟨rfl, hB, hK⟩
  replace HB := Lib.hid (hB.eq (show _ = l ++ S.blanksL d ++ S.markT 1 ++ W.quoteL wd by simp))
  replace HK := Lib.hid (HK.out.trans hK)
  clear hB hK
  have hlen5 : (l ++ S.blanksL d ++ S.markT 1 ++ W.quoteL wd).length + (⟨#[59, 10]⟩ : ByteArray).size ≤ 140737488355328 := by
    have hm : (S.markT 1).length ≤ 19 := by decide
    have hs : (⟨#[59, 10]⟩ : ByteArray).size = 2 := rfl
    simp only [List.length_append, hbl, hs]; omega
  go_wp2_with fail
  refine (write_any base b _ _ _ HB.out hlen5).mono ?_
  rintro e w5 ⟨rfl, hB, hK⟩
  have HB2 := Lib.hid hB
  replace HK := Lib.hid (HK.out.trans hK)
  clear hB hK
  go_wp2
  go_end0
  refine ⟨rfl, HB2.out.eq ?_, HK.out⟩
  simp [lineRow]

set_option maxRecDepth 100000 in
set_option maxHeartbeats 1000000 in
theorem writeLine_2o (base b : Nat) (l : List UInt8) (d : Nat) (wd : List UInt8) (w : World) (h : HasB w base b l) (hd : d ≤ 15) (hw : wd.length ≤ 40) (hlen : l.length ≤ 1099511627776) :
    Calls Try.prog 28 #[.pointer (some ⟨b, 0, none⟩), .agg #[.int .i64 d, .string (sB wd), .int .i64 2], .bool true] w (WroteB base b w (l ++ lineRow ⟨d, wd, 2⟩ true)) := by
  have hq := (W.quote_len wd).2
  have hbl := S.blanks_len d
  have hlt := h.lt
  have HB := Lib.hid (h.keep ((Below.refl w.heap.size w).alloc (Nat.le_refl _) (lnO ⟨d, wd, 2⟩)))
  have HL := Lib.hid (LineAt.new w ⟨d, wd, 2⟩)
  have hb0 : KeepB base b w (w.alloc (lnO ⟨d, wd, 2⟩)) := KeepB.of ((Below.refl _ _).alloc (Nat.le_refl _) _) (by have := h.base_le; omega)
  have HK := Lib.hid hb0
  have hlb : w.heap.size ≠ b := by omega
  clear hb0 h
  simp only [lnO] at HB HL HK
  obtain ⟨c0, c1, c2⟩ := HL.out.cells
  simp only [] at c0 c1 c2
  go_enter Try.func28, Try.ntmps28
  go_wp2_with fail
  refine (indent_any base b _ d _ HB.out (by omega) hlen).mono ?_
  rintro e w1 ⟨rfl, hB, hK⟩
  replace HB := Lib.hid hB
  replace HL := Lib.hid (HL.out.keep hK hlb)
  replace HK := Lib.hid (HK.out.trans hK)
  clear hB hK c0 c1 c2
  obtain ⟨c0, c1, c2⟩ := HL.out.cells
  simp only [] at c0 c1 c2
  have hlen2 : (l ++ S.blanksL d).length + (⟨#[112, 114, 111, 116, 101, 99, 116, 58, 32]⟩ : ByteArray).size ≤ 140737488355328 := by
    have hs : (⟨#[112, 114, 111, 116, 101, 99, 116, 58, 32]⟩ : ByteArray).size = 9 := rfl
    simp only [List.length_append, hbl, hs]; omega
  go_wp2_with fail
  refine (write_any base b _ _ _ HB.out hlen2).mono ?_
  rintro e w2 ⟨rfl, hB, hK⟩
  replace HB := Lib.hid hB
  replace HL := Lib.hid (HL.out.keep hK hlb)
  replace HK := Lib.hid (HK.out.trans hK)
  clear hB hK c0 c1 c2
  obtain ⟨c0, c1, c2⟩ := HL.out.cells
  simp only [] at c0 c1 c2
  go_wp2_with fail
  refine (quote_is wd _ hw).mono ?_
  rintro e w3 ⟨rfl, hQ⟩
  replace HK := Lib.hid (HK.out.trans (KeepB.of hQ (Nat.le_of_lt (Nat.lt_of_le_of_lt HB.out.base_le HB.out.lt))))
  replace HB := Lib.hid (HB.out.keep hQ)
  clear hQ c0 c1 c2
  have hlen4 : (l ++ S.blanksL d ++ S.markT 2).length + (⟨(W.quoteL wd).toArray⟩ : ByteArray).size ≤ 140737488355328 := by
    have hs : (⟨(W.quoteL wd).toArray⟩ : ByteArray).size = (W.quoteL wd).length := sB_size _
    have hm : (S.markT 2).length ≤ 19 := by decide
    simp only [List.length_append, hbl, hs]; omega
  replace HB := Lib.hid (HB.out.eq (show _ = l ++ S.blanksL d ++ S.markT 2 from congrArg (l ++ S.blanksL d ++ ·) (by decide)))
  go_wp2_with fail
  refine (write_any base b _ _ _ HB.out hlen4).mono ?_
  rintro e w4 ⟨rfl, hB, hK⟩
  replace HB := Lib.hid (hB.eq (show _ = l ++ S.blanksL d ++ S.markT 2 ++ W.quoteL wd by simp))
  replace HK := Lib.hid (HK.out.trans hK)
  clear hB hK
  have hlen5 : (l ++ S.blanksL d ++ S.markT 2 ++ W.quoteL wd).length + (⟨#[32, 123, 10]⟩ : ByteArray).size ≤ 140737488355328 := by
    have hm : (S.markT 2).length ≤ 19 := by decide
    have hs : (⟨#[32, 123, 10]⟩ : ByteArray).size = 3 := rfl
    simp only [List.length_append, hbl, hs]; omega
  go_wp2_with fail
  refine (write_any base b _ _ _ HB.out hlen5).mono ?_
  rintro e w5 ⟨rfl, hB, hK⟩
  have HB2 := Lib.hid hB
  replace HK := Lib.hid (HK.out.trans hK)
  clear hB hK
  go_wp2
  go_end0
  refine ⟨rfl, HB2.out.eq ?_, HK.out⟩
  simp [lineRow]

set_option maxRecDepth 100000 in
set_option maxHeartbeats 1000000 in
theorem writeLine_2c (base b : Nat) (l : List UInt8) (d : Nat) (wd : List UInt8) (w : World) (h : HasB w base b l) (hd : d ≤ 15) (hw : wd.length ≤ 40) (hlen : l.length ≤ 1099511627776) :
    Calls Try.prog 28 #[.pointer (some ⟨b, 0, none⟩), .agg #[.int .i64 d, .string (sB wd), .int .i64 2], .bool false] w (WroteB base b w (l ++ lineRow ⟨d, wd, 2⟩ false)) := by
  have hq := (W.quote_len wd).2
  have hbl := S.blanks_len d
  have hlt := h.lt
  have HB := Lib.hid (h.keep ((Below.refl w.heap.size w).alloc (Nat.le_refl _) (lnO ⟨d, wd, 2⟩)))
  have HL := Lib.hid (LineAt.new w ⟨d, wd, 2⟩)
  have hb0 : KeepB base b w (w.alloc (lnO ⟨d, wd, 2⟩)) := KeepB.of ((Below.refl _ _).alloc (Nat.le_refl _) _) (by have := h.base_le; omega)
  have HK := Lib.hid hb0
  have hlb : w.heap.size ≠ b := by omega
  clear hb0 h
  simp only [lnO] at HB HL HK
  obtain ⟨c0, c1, c2⟩ := HL.out.cells
  simp only [] at c0 c1 c2
  go_enter Try.func28, Try.ntmps28
  go_wp2_with fail
  refine (indent_any base b _ d _ HB.out (by omega) hlen).mono ?_
  rintro e w1 ⟨rfl, hB, hK⟩
  replace HB := Lib.hid hB
  replace HL := Lib.hid (HL.out.keep hK hlb)
  replace HK := Lib.hid (HK.out.trans hK)
  clear hB hK c0 c1 c2
  obtain ⟨c0, c1, c2⟩ := HL.out.cells
  simp only [] at c0 c1 c2
  have hlen2 : (l ++ S.blanksL d).length + (⟨#[112, 114, 111, 116, 101, 99, 116, 58, 32]⟩ : ByteArray).size ≤ 140737488355328 := by
    have hs : (⟨#[112, 114, 111, 116, 101, 99, 116, 58, 32]⟩ : ByteArray).size = 9 := rfl
    simp only [List.length_append, hbl, hs]; omega
  go_wp2_with fail
  refine (write_any base b _ _ _ HB.out hlen2).mono ?_
  rintro e w2 ⟨rfl, hB, hK⟩
  replace HB := Lib.hid hB
  replace HL := Lib.hid (HL.out.keep hK hlb)
  replace HK := Lib.hid (HK.out.trans hK)
  clear hB hK c0 c1 c2
  obtain ⟨c0, c1, c2⟩ := HL.out.cells
  simp only [] at c0 c1 c2
  go_wp2_with fail
  refine (quote_is wd _ hw).mono ?_
  rintro e w3 ⟨rfl, hQ⟩
  replace HK := Lib.hid (HK.out.trans (KeepB.of hQ (Nat.le_of_lt (Nat.lt_of_le_of_lt HB.out.base_le HB.out.lt))))
  replace HB := Lib.hid (HB.out.keep hQ)
  clear hQ c0 c1 c2
  have hlen4 : (l ++ S.blanksL d ++ S.markT 2).length + (⟨(W.quoteL wd).toArray⟩ : ByteArray).size ≤ 140737488355328 := by
    have hs : (⟨(W.quoteL wd).toArray⟩ : ByteArray).size = (W.quoteL wd).length := sB_size _
    have hm : (S.markT 2).length ≤ 19 := by decide
    simp only [List.length_append, hbl, hs]; omega
  replace HB := Lib.hid (HB.out.eq (show _ = l ++ S.blanksL d ++ S.markT 2 from congrArg (l ++ S.blanksL d ++ ·) (by decide)))
  go_wp2_with fail
  refine (write_any base b _ _ _ HB.out hlen4).mono ?_
  rintro e w4 ⟨rfl, hB, hK⟩
  replace HB := Lib.hid (hB.eq (show _ = l ++ S.blanksL d ++ S.markT 2 ++ W.quoteL wd by simp))
  replace HK := Lib.hid (HK.out.trans hK)
  clear hB hK
  have hlen5 : (l ++ S.blanksL d ++ S.markT 2 ++ W.quoteL wd).length + (⟨#[59, 10]⟩ : ByteArray).size ≤ 140737488355328 := by
    have hm : (S.markT 2).length ≤ 19 := by decide
    have hs : (⟨#[59, 10]⟩ : ByteArray).size = 2 := rfl
    simp only [List.length_append, hbl, hs]; omega
  go_wp2_with fail
  refine (write_any base b _ _ _ HB.out hlen5).mono ?_
  rintro e w5 ⟨rfl, hB, hK⟩
  have HB2 := Lib.hid hB
  replace HK := Lib.hid (HK.out.trans hK)
  clear hB hK
  go_wp2
  go_end0
  refine ⟨rfl, HB2.out.eq ?_, HK.out⟩
  simp [lineRow]

set_option maxRecDepth 100000 in
set_option maxHeartbeats 1000000 in
theorem writeLine_3o (base b : Nat) (l : List UInt8) (d : Nat) (wd : List UInt8) (w : World) (h : HasB w base b l) (hd : d ≤ 15) (hw : wd.length ≤ 40) (hlen : l.length ≤ 1099511627776) :
    Calls Try.prog 28 #[.pointer (some ⟨b, 0, none⟩), .agg #[.int .i64 d, .string (sB wd), .int .i64 3], .bool true] w (WroteB base b w (l ++ lineRow ⟨d, wd, 3⟩ true)) := by
  have hq := (W.quote_len wd).2
  have hbl := S.blanks_len d
  have hlt := h.lt
  have HB := Lib.hid (h.keep ((Below.refl w.heap.size w).alloc (Nat.le_refl _) (lnO ⟨d, wd, 3⟩)))
  have HL := Lib.hid (LineAt.new w ⟨d, wd, 3⟩)
  have hb0 : KeepB base b w (w.alloc (lnO ⟨d, wd, 3⟩)) := KeepB.of ((Below.refl _ _).alloc (Nat.le_refl _) _) (by have := h.base_le; omega)
  have HK := Lib.hid hb0
  have hlb : w.heap.size ≠ b := by omega
  clear hb0 h
  simp only [lnO] at HB HL HK
  obtain ⟨c0, c1, c2⟩ := HL.out.cells
  simp only [] at c0 c1 c2
  go_enter Try.func28, Try.ntmps28
  go_wp2_with fail
  refine (indent_any base b _ d _ HB.out (by omega) hlen).mono ?_
  rintro e w1 ⟨rfl, hB, hK⟩
  replace HB := Lib.hid hB
  replace HL := Lib.hid (HL.out.keep hK hlb)
  replace HK := Lib.hid (HK.out.trans hK)
  clear hB hK c0 c1 c2
  obtain ⟨c0, c1, c2⟩ := HL.out.cells
  simp only [] at c0 c1 c2
  have hlen2 : (l ++ S.blanksL d).length + (⟨#[105, 110, 97, 99, 116, 105, 118, 101, 58, 32]⟩ : ByteArray).size ≤ 140737488355328 := by
    have hs : (⟨#[105, 110, 97, 99, 116, 105, 118, 101, 58, 32]⟩ : ByteArray).size = 10 := rfl
    simp only [List.length_append, hbl, hs]; omega
  go_wp2_with fail
  refine (write_any base b _ _ _ HB.out hlen2).mono ?_
  rintro e w2 ⟨rfl, hB, hK⟩
  replace HB := Lib.hid hB
  replace HL := Lib.hid (HL.out.keep hK hlb)
  replace HK := Lib.hid (HK.out.trans hK)
  clear hB hK c0 c1 c2
  obtain ⟨c0, c1, c2⟩ := HL.out.cells
  simp only [] at c0 c1 c2
  have hlen3 : (l ++ S.blanksL d ++ (⟨#[105, 110, 97, 99, 116, 105, 118, 101, 58, 32]⟩ : ByteArray).data.toList).length + (⟨#[112, 114, 111, 116, 101, 99, 116, 58, 32]⟩ : ByteArray).size ≤ 140737488355328 := by
    have hs : (⟨#[112, 114, 111, 116, 101, 99, 116, 58, 32]⟩ : ByteArray).size = 9 := rfl
    simp only [List.length_append, hbl, hs, show (⟨#[105, 110, 97, 99, 116, 105, 118, 101, 58, 32]⟩ : ByteArray).data.toList.length = 10 from rfl]; omega
  go_wp2_with fail
  refine (write_any base b _ _ _ HB.out hlen3).mono ?_
  rintro e w3 ⟨rfl, hB, hK⟩
  replace HB := Lib.hid hB
  replace HL := Lib.hid (HL.out.keep hK hlb)
  replace HK := Lib.hid (HK.out.trans hK)
  clear hB hK c0 c1 c2
  obtain ⟨c0, c1, c2⟩ := HL.out.cells
  simp only [] at c0 c1 c2
  go_wp2_with fail
  refine (quote_is wd _ hw).mono ?_
  rintro e w4 ⟨rfl, hQ⟩
  replace HK := Lib.hid (HK.out.trans (KeepB.of hQ (Nat.le_of_lt (Nat.lt_of_le_of_lt HB.out.base_le HB.out.lt))))
  replace HB := Lib.hid (HB.out.keep hQ)
  clear hQ c0 c1 c2
  have hlen5 : (l ++ S.blanksL d ++ S.markT 3).length + (⟨(W.quoteL wd).toArray⟩ : ByteArray).size ≤ 140737488355328 := by
    have hs : (⟨(W.quoteL wd).toArray⟩ : ByteArray).size = (W.quoteL wd).length := sB_size _
    have hm : (S.markT 3).length ≤ 19 := by decide
    simp only [List.length_append, hbl, hs]; omega
  replace HB := Lib.hid (HB.out.eq (show _ = l ++ S.blanksL d ++ S.markT 3 from (List.append_assoc _ _ _).trans (congrArg (l ++ S.blanksL d ++ ·) (by decide))))
  go_wp2_with fail
  refine (write_any base b _ _ _ HB.out hlen5).mono ?_
  rintro e w5 ⟨rfl, hB, hK⟩
  replace HB := Lib.hid (hB.eq (show _ = l ++ S.blanksL d ++ S.markT 3 ++ W.quoteL wd by simp))
  replace HK := Lib.hid (HK.out.trans hK)
  clear hB hK
  have hlen6 : (l ++ S.blanksL d ++ S.markT 3 ++ W.quoteL wd).length + (⟨#[32, 123, 10]⟩ : ByteArray).size ≤ 140737488355328 := by
    have hm : (S.markT 3).length ≤ 19 := by decide
    have hs : (⟨#[32, 123, 10]⟩ : ByteArray).size = 3 := rfl
    simp only [List.length_append, hbl, hs]; omega
  go_wp2_with fail
  refine (write_any base b _ _ _ HB.out hlen6).mono ?_
  rintro e w6 ⟨rfl, hB, hK⟩
  have HB2 := Lib.hid hB
  replace HK := Lib.hid (HK.out.trans hK)
  clear hB hK
  go_wp2
  go_end0
  refine ⟨rfl, HB2.out.eq ?_, HK.out⟩
  simp [lineRow]

set_option maxRecDepth 100000 in
set_option maxHeartbeats 1000000 in
theorem writeLine_3c (base b : Nat) (l : List UInt8) (d : Nat) (wd : List UInt8) (w : World) (h : HasB w base b l) (hd : d ≤ 15) (hw : wd.length ≤ 40) (hlen : l.length ≤ 1099511627776) :
    Calls Try.prog 28 #[.pointer (some ⟨b, 0, none⟩), .agg #[.int .i64 d, .string (sB wd), .int .i64 3], .bool false] w (WroteB base b w (l ++ lineRow ⟨d, wd, 3⟩ false)) := by
  have hq := (W.quote_len wd).2
  have hbl := S.blanks_len d
  have hlt := h.lt
  have HB := Lib.hid (h.keep ((Below.refl w.heap.size w).alloc (Nat.le_refl _) (lnO ⟨d, wd, 3⟩)))
  have HL := Lib.hid (LineAt.new w ⟨d, wd, 3⟩)
  have hb0 : KeepB base b w (w.alloc (lnO ⟨d, wd, 3⟩)) := KeepB.of ((Below.refl _ _).alloc (Nat.le_refl _) _) (by have := h.base_le; omega)
  have HK := Lib.hid hb0
  have hlb : w.heap.size ≠ b := by omega
  clear hb0 h
  simp only [lnO] at HB HL HK
  obtain ⟨c0, c1, c2⟩ := HL.out.cells
  simp only [] at c0 c1 c2
  go_enter Try.func28, Try.ntmps28
  go_wp2_with fail
  refine (indent_any base b _ d _ HB.out (by omega) hlen).mono ?_
  rintro e w1 ⟨rfl, hB, hK⟩
  replace HB := Lib.hid hB
  replace HL := Lib.hid (HL.out.keep hK hlb)
  replace HK := Lib.hid (HK.out.trans hK)
  clear hB hK c0 c1 c2
  obtain ⟨c0, c1, c2⟩ := HL.out.cells
  simp only [] at c0 c1 c2
  have hlen2 : (l ++ S.blanksL d).length + (⟨#[105, 110, 97, 99, 116, 105, 118, 101, 58, 32]⟩ : ByteArray).size ≤ 140737488355328 := by
    have hs : (⟨#[105, 110, 97, 99, 116, 105, 118, 101, 58, 32]⟩ : ByteArray).size = 10 := rfl
    simp only [List.length_append, hbl, hs]; omega
  go_wp2_with fail
  refine (write_any base b _ _ _ HB.out hlen2).mono ?_
  rintro e w2 ⟨rfl, hB, hK⟩
  replace HB := Lib.hid hB
  replace HL := Lib.hid (HL.out.keep hK hlb)
  replace HK := Lib.hid (HK.out.trans hK)
  clear hB hK c0 c1 c2
  obtain ⟨c0, c1, c2⟩ := HL.out.cells
  simp only [] at c0 c1 c2
  have hlen3 : (l ++ S.blanksL d ++ (⟨#[105, 110, 97, 99, 116, 105, 118, 101, 58, 32]⟩ : ByteArray).data.toList).length + (⟨#[112, 114, 111, 116, 101, 99, 116, 58, 32]⟩ : ByteArray).size ≤ 140737488355328 := by
    have hs : (⟨#[112, 114, 111, 116, 101, 99, 116, 58, 32]⟩ : ByteArray).size = 9 := rfl
    simp only [List.length_append, hbl, hs, show (⟨#[105, 110, 97, 99, 116, 105, 118, 101, 58, 32]⟩ : ByteArray).data.toList.length = 10 from rfl]; omega
  go_wp2_with fail
  refine (write_any base b _ _ _ HB.out hlen3).mono ?_
  rintro e w3 ⟨rfl, hB, hK⟩
  replace HB := Lib.hid hB
  replace HL := Lib.hid (HL.out.keep hK hlb)
  replace HK := Lib.hid (HK.out.trans hK)
  clear hB hK c0 c1 c2
  obtain ⟨c0, c1, c2⟩ := HL.out.cells
  simp only [] at c0 c1 c2
  go_wp2_with fail
  refine (quote_is wd _ hw).mono ?_
  rintro e w4 ⟨rfl, hQ⟩
  replace HK := Lib.hid (HK.out.trans (KeepB.of hQ (Nat.le_of_lt (Nat.lt_of_le_of_lt HB.out.base_le HB.out.lt))))
  replace HB := Lib.hid (HB.out.keep hQ)
  clear hQ c0 c1 c2
  have hlen5 : (l ++ S.blanksL d ++ S.markT 3).length + (⟨(W.quoteL wd).toArray⟩ : ByteArray).size ≤ 140737488355328 := by
    have hs : (⟨(W.quoteL wd).toArray⟩ : ByteArray).size = (W.quoteL wd).length := sB_size _
    have hm : (S.markT 3).length ≤ 19 := by decide
    simp only [List.length_append, hbl, hs]; omega
  replace HB := Lib.hid (HB.out.eq (show _ = l ++ S.blanksL d ++ S.markT 3 from (List.append_assoc _ _ _).trans (congrArg (l ++ S.blanksL d ++ ·) (by decide))))
  go_wp2_with fail
  refine (write_any base b _ _ _ HB.out hlen5).mono ?_
  rintro e w5 ⟨rfl, hB, hK⟩
  replace HB := Lib.hid (hB.eq (show _ = l ++ S.blanksL d ++ S.markT 3 ++ W.quoteL wd by simp))
  replace HK := Lib.hid (HK.out.trans hK)
  clear hB hK
  have hlen6 : (l ++ S.blanksL d ++ S.markT 3 ++ W.quoteL wd).length + (⟨#[59, 10]⟩ : ByteArray).size ≤ 140737488355328 := by
    have hm : (S.markT 3).length ≤ 19 := by decide
    have hs : (⟨#[59, 10]⟩ : ByteArray).size = 2 := rfl
    simp only [List.length_append, hbl, hs]; omega
  go_wp2_with fail
  refine (write_any base b _ _ _ HB.out hlen6).mono ?_
  rintro e w6 ⟨rfl, hB, hK⟩
  have HB2 := Lib.hid hB
  replace HK := Lib.hid (HK.out.trans hK)
  clear hB hK
  go_wp2
  go_end0
  refine ⟨rfl, HB2.out.eq ?_, HK.out⟩
  simp [lineRow]

theorem writeLine_any (base b : Nat) (l : List UInt8) (x : T.Ln) (o : Bool) (w : World) (h : HasB w base b l) (hd : 0 ≤ x.depth ∧ x.depth ≤ 15) (hw : x.word.length ≤ 40) (hm : 0 ≤ x.mark ∧ x.mark ≤ 3) (hlen : l.length ≤ 1099511627776) :
    Calls Try.prog 28 #[.pointer (some ⟨b, 0, none⟩), .agg #[.int .i64 x.depth, .string (sB x.word), .int .i64 x.mark], .bool o] w (WroteB base b w (l ++ lineRow x o)) := by
  obtain ⟨d, wd, m⟩ := x
  obtain ⟨n, rfl⟩ := Int.eq_ofNat_of_zero_le hd.1
  simp only at hd hw hm ⊢
  have hm2 : m = 0 ∨ m = 1 ∨ m = 2 ∨ m = 3 := by omega
  cases o <;> rcases hm2 with rfl | rfl | rfl | rfl
  · exact writeLine_0c base b l n wd w h (by omega) hw hlen
  · exact writeLine_1c base b l n wd w h (by omega) hw hlen
  · exact writeLine_2c base b l n wd w h (by omega) hw hlen
  · exact writeLine_3c base b l n wd w h (by omega) hw hlen
  · exact writeLine_0o base b l n wd w h (by omega) hw hlen
  · exact writeLine_1o base b l n wd w h (by omega) hw hlen
  · exact writeLine_2o base b l n wd w h (by omega) hw hlen
  · exact writeLine_3o base b l n wd w h (by omega) hw hlen
end Go.Proofs.Ytjgogjamkbmcjaa

namespace Go.Proofs.Ytjgogjamkbmcjaa
open Go.RowKit
open S (RightT.text_len)

theorem RightT.nextD_le {t : List T.Ln} (h : T.RightT t) (k : Nat) : S.nextD t k ≤ 15 := by
  unfold S.nextD
  by_cases h1 : k + 1 < t.length
  · rw [if_pos h1]; have := h.deep (k + 1) h1; omega
  · rw [if_neg h1]; omega
theorem RightT.open_next {t : List T.Ln} (h : T.RightT t) (k : Nat) (hk : k < t.length) : decide (T.dp t k < (S.nextD t k : Int)) = S.openB t k := by
  have hd := (h.deep k hk).1
  unfold S.nextD S.openB
  by_cases h1 : k + 1 < t.length
  · rw [if_pos h1]
    have := (h.deep (k + 1) h1).1
    rw [Bool.eq_iff_iff, decide_eq_true_iff, decide_eq_true_iff]
    exact ⟨fun x => ⟨h1, by omega⟩, fun x => by have := x.2; omega⟩
  · rw [if_neg h1]
    rw [Bool.eq_iff_iff, decide_eq_true_iff, decide_eq_true_iff]
    exact ⟨fun x => by omega, fun x => absurd x.1 h1⟩
theorem depthAt_is (A : Option Addr) (c : Nat) (t : List T.Ln) (k : Nat) (n : Nat) (w : World) (hA : Seen eL w A t) (hl : t.length ≤ 1073741824) (hk : k < t.length) (hR : T.RightT t) (h : S.nextD t k = n) :
    Calls Try.prog 27 #[.slice A t.length c, .int .i64 ((k : Int) + 1)] w (fun e w' => e = .returned (.int .i64 n) ∧ Below w.heap.size w w') := by
  by_cases h1 : k + 1 < t.length
  · have b1 : decide ((t.length : Int) ≤ (k : Int) + 1) = false := decide_eq_false (by omega)
    obtain ⟨b, o, rfl, hbw, hL⟩ := hA.lines (by omega)
    obtain ⟨c0, _, _⟩ := hL.line h1
    have hn : T.dp t (k + 1) = (n : Int) := by
      have := (hR.deep (k + 1) h1).1
      rw [← h]; unfold S.nextD; rw [if_pos h1]; omega
    rw [hn] at c0
    clear hn h
    go_enter Try.func27, Try.ntmps27
    go_wp2
    go_ret
    exact ⟨rfl, Below.refl _ _⟩
  · have b1 : decide ((t.length : Int) ≤ (k : Int) + 1) = true := decide_eq_true (by omega)
    have hn : n = 0 := by rw [← h]; unfold S.nextD; rw [if_neg h1]
    subst hn
    clear h
    go_enter Try.func27, Try.ntmps27
    go_wp2
    go_ret
    exact ⟨rfl, Below.refl _ _⟩

theorem text_no (A : Option Addr) (c : Nat) (t : List T.Ln) (w : World) (hA : Seen eL w A t) (hl : t.length ≤ 1073741824) (hR : ¬ T.RightT t) :
    Calls Try.prog 15 #[.slice A t.length c] w (WroteS w.heap.size w [] 1) := by
  have HA := Lib.hid hA
  have HR := Lib.hid hR
  clear hA hR
  go_enter Try.func15, Try.ntmps15
  go_wp2_with fail
  refine (right_is A c t false _ HA.out hl (no_iff HR.out)).mono ?_
  rintro e w1 ⟨rfl, hb1⟩
  go_wp2
  go_ret2
  exact ⟨rfl, hb1⟩

theorem HasB.new (w : World) : HasB (w.alloc (.cells #[.pointer none, .slice none 0 0] 61)) w.heap.size w.heap.size [] := by
  refine .inl ⟨Nat.le_refl _, .slice none 0 0, ?_, ⟨rfl, .inl ⟨rfl, rfl⟩⟩, by simp [Value.ownBlock]⟩
  show (w.heap.push _)[w.heap.size]? = _
  simp
set_option maxRecDepth 100000 in
set_option maxHeartbeats 1000000 in
theorem text_yes (A : Option Addr) (c : Nat) (t : List T.Ln) (w : World) (hA : Seen eL w A t) (hR : T.RightT t) :
    Calls Try.prog 15 #[.slice A t.length c] w (WroteS w.heap.size w (S.textL t) 0) := by
  have HA := Lib.hid hA
  have HR := Lib.hid hR
  have hl : t.length ≤ 1073741824 := by have := hR.len; omega
  clear hA hR
  go_enter Try.func15, Try.ntmps15
  go_wp2_with fail
  refine (right_is A c t true _ HA.out hl (yes_iff HR.out)).mono ?_
  rintro e w1 ⟨rfl, hb1⟩
  have HA1 := Lib.hid (HA.out.below hb1)
  have HB1 := Lib.hid hb1
  clear hb1
  have HB := Lib.hid (HasB.new w1)
  go_wp2
  go_loopg [14] t.length (fun g x wr => ∃ k : Nat, k + g = t.length ∧ x = .int .i64 k ∧ HasB wr w1.heap.size w1.heap.size (S.textTo t k) ∧ Below w1.heap.size w1 wr)
  case atStart => exact ⟨0, by omega, rfl, by simpa [S.textTo] using HB.out, (Below.refl _ _).alloc (Nat.le_refl _) _⟩
  case round =>
    obtain ⟨k, hg, rfl, hB, hb⟩ := hrel
    have HG := Lib.hid hg
    have HBk := Lib.hid hB
    have HBB := Lib.hid hb
    clear hg hB hb
    by_cases hlt : k < t.length
    · obtain ⟨b, o, rfl, hbw, hL⟩ := HA1.out.lines (by omega)
      obtain ⟨c0, c1, c2⟩ := (hL.below HBB.out hbw).line hlt
      obtain ⟨nx, hnx⟩ : ∃ n, S.nextD t k = n := ⟨_, rfl⟩
      obtain ⟨d, hd⟩ := Int.eq_ofNat_of_zero_le (HR.out.deep k hlt).1
      have hd15 : d ≤ 15 := by have := (HR.out.deep k hlt).2; omega
      obtain ⟨o1, ho1⟩ : ∃ x, S.openB t k = x := ⟨_, rfl⟩
      have bo : decide (d < nx) = o1 := by rw [← ho1, ← RightT.open_next HR.out k hlt, hd, hnx]; simp
      have HRow := Lib.hid (show lineRow ⟨d, T.wd t k, (T.at_ t k).mark⟩ o1 = S.lineT t k by unfold lineRow S.lineT; rw [ho1, hd])
      have HNx := Lib.hid (show S.rowT t k = S.lineT t k ++ S.closeT d nx by unfold S.rowT; rw [hnx, hd, Int.toNat_natCast])
      have hw := HR.out.long k hlt
      have hm := HR.out.mark k hlt
      have hlen : (S.textTo t k).length ≤ 1000 * k := RightT.text_len HR.out k (by omega)
      have hk200 : k < 200 := by have := HR.out.len; omega
      have HX := Lib.hid (LineAt.new wr ⟨d, T.wd t k, (T.at_ t k).mark⟩)
      have HW := Lib.hid (up wr (lnO ⟨d, T.wd t k, (T.at_ t k).mark⟩))
      have hne : wr.heap.size ≠ w1.heap.size := by have := HBk.out.lt; omega
      have Hnx := Lib.hid hnx
      have Hop := Lib.hid ho1
      have Hlen := Lib.hid hlen
      have Hne := Lib.hid hne
      have HA2 := Lib.hid ((HA1.out.below HBB.out).below HW.out)
      rw [hd] at c0
      simp only [lnO] at HX HW HA2
      clear hnx ho1 hlen hd hne
      go_wp2_with fail
      refine (depthAt_is _ c t k nx _ HA2.out hl hlt HR.out Hnx.out).mono ?_
      rintro e w2 ⟨rfl, hb2⟩
      replace HX := Lib.hid (HX.out.below hb2)
      have HB2 := Lib.hid (bthen HW.out hb2)
      replace HBk := Lib.hid (HBk.out.keep HB2.out)
      replace HBB := Lib.hid (HBB.out.trans (HB2.out.mono HBB.out.size))
      clear hb2 c0 c1 c2 HB2 HW HA2
      obtain ⟨c0, c1, c2⟩ := HX.out.cells
      simp only [] at c0 c1 c2
      go_wp2_with fail
      refine (writeLine_any _ _ (S.textTo t k) ⟨d, T.wd t k, (T.at_ t k).mark⟩ o1 _ HBk.out ⟨by simp, by simp; omega⟩ hw hm (by have := Hlen.out; omega)).mono ?_
      rintro e w3 ⟨rfl, hB3, hK3⟩
      replace HX := Lib.hid (HX.out.keep hK3 Hne.out)
      replace HBk := Lib.hid (hB3.eq (by rw [HRow.out]))
      replace HBB := Lib.hid (HBB.out.trans hK3.1)
      clear hB3 hK3 c0 c1 c2
      obtain ⟨c0, c1, c2⟩ := HX.out.cells
      simp only [] at c0 c1 c2
      have hll : (S.textTo t k ++ S.lineT t k).length ≤ 201000 := by
        have h1 := RightT.text_len HR.out (k + 1) (by omega)
        rw [S.text_next, HNx.out, ← List.append_assoc, List.length_append] at h1
        omega
      have Hll := Lib.hid hll
      clear hll
      go_wp2
      go_loopg [8] d (fun g x wq => ∃ y : Int, y + 1 = g ∧ g ≤ d ∧ x = .int .i64 y ∧ (∃ acc, HasB wq w1.heap.size w1.heap.size (S.textTo t k ++ S.lineT t k ++ acc) ∧ acc ++ S.closeT g nx = S.closeT d nx) ∧ Below w1.heap.size w1 wq)
      case atStart => exact ⟨(d : Int) - 1, by omega, Nat.le_refl _, rfl, ⟨[], by rw [List.append_nil]; exact HBk.out, rfl⟩, HBB.out⟩
      case round =>
        obtain ⟨y, hy, hgd, rfl, ⟨acc, hB, hacc⟩, hb⟩ := hrel
        have HBq := Lib.hid hB
        have HBBq := Lib.hid hb
        have Hacc := Lib.hid hacc
        have Hy := Lib.hid hy
        clear hB hb hacc hy HBk HBB
        by_cases hny : (nx : Int) ≤ y
        · obtain ⟨q, rfl⟩ := Int.eq_ofNat_of_zero_le (show 0 ≤ y by omega)
          have bny : decide (nx ≤ q) = true := decide_eq_true (by omega)
          have hgq := Hy.out
          have hla : (S.textTo t k ++ S.lineT t k ++ acc).length ≤ 1099511627000 := by
            have h1 := congrArg List.length Hacc.out
            have h2 := S.close_len d nx hd15
            have h3 := Hll.out
            rw [List.length_append] at h1
            rw [List.length_append]; omega
          have HC := Lib.hid (show S.closeT (q + 1) nx = S.blanksL q ++ [125, 10] ++ S.closeT q nx by rw [S.close_step, if_pos (by omega)])
          clear hny
          go_wp2_with fail
          refine (writeClose_any _ _ _ q _ HBq.out (by omega) hla).mono ?_
          rintro e w4 ⟨rfl, hB4, hK4⟩
          have HB4 := Lib.hid hB4
          have HK4 := Lib.hid hK4
          clear hB4 hK4
          go_wp2
          go_roundg q
          case rel =>
            refine ⟨(q : Int) - 1, by omega, by omega, by go_num, ⟨acc ++ (S.blanksL q ++ [125, 10]), HB4.out.eq (by simp only [List.append_assoc]), ?_⟩, HBBq.out.trans HK4.out.1⟩
            have h1 := Hacc.out
            have hg1 : gk = q + 1 := by omega
            rw [hg1, HC.out] at h1
            rw [← h1]
            simp only [List.append_assoc]
          case measure => omega
        · have bny : decide ((nx : Int) ≤ y) = false := decide_eq_false hny
          have hgq := Hy.out
          go_wp2
          go_roundg (t.length - (k + 1))
          case rel =>
            refine ⟨k + 1, by have := HG.out; omega, by go_num, ?_, HBBq.out⟩
            rw [S.text_next, HNx.out, ← Hacc.out, S.close_low _ _ (by omega), List.append_nil, ← List.append_assoc]
            exact HBq.out
          case measure => have := HG.out; omega
    · have blt : decide ((k : Int) < (t.length : Int)) = false := decide_eq_false (by omega)
      obtain rfl : k = t.length := by have := HG.out; omega
      go_wp2_with fail
      refine (string_any _ _ _ _ HBk.out).mono ?_
      rintro e w2 ⟨rfl, hK⟩
      go_wp2
      go_ret2
      exact ⟨rfl, HB1.out.trans ((HBB.out.trans hK.1).mono HB1.out.size)⟩

theorem text_is (A : Option Addr) (c n : Nat) (t : List T.Ln) (l : List UInt8) (w : World) (hA : Seen eL w A t) (hn : t.length = n) (hR : T.RightT t) (h : S.textL t = l) :
    Calls Try.prog 15 #[.slice A n c] w (WroteS w.heap.size w l 0) := by rw [← h, ← hn]; exact text_yes A c t w hA hR

end Go.Proofs.Ytjgogjamkbmcjaa
