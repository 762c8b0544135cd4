/-
  Contract of layer 4's writeLine: a line's row is written behind what the builder holds. Condition: a line as a tree has it; a builder of at most 2^40 bytes.
-/
import Derived.Test.YtokhflpeeibeeaaShowW
namespace Go.Proofs.Ytokhflpeeibeeaa
open Go.RowKit

theorem quote_is (x : List UInt8) (w : World) (h : x.length ≤ 40) : Calls Try.prog 32 #[.string (sB x)] w (WroteS w.heap.size w (W.quoteL x) 0) := by
  have := quote_any (sB x) w
  rw [sB_size, if_pos h, if_pos h, sB_data] at this
  exact this
/-- What a line's row is, but for the ends of parts. -/
def lineRow (x : T.Ln) (o : Bool) : List UInt8 := S.blanksL x.depth.toNat ++ S.markT x.mark ++ W.quoteL x.word ++ (if o = true then [32, 123, 10] else [59, 10])

set_option maxRecDepth 100000 in
set_option maxHeartbeats 1000000 in
theorem writeLine_0o (base b : Nat) (l : List UInt8) (d : Nat) (wd : List UInt8) (w : World) (h : HasB w base b l) (hd : d ≤ 15) (hw : wd.length ≤ 40) (hlen : l.length ≤ 1099511627776) :
    Calls Try.prog 21 #[.pointer (some ⟨b, 0, none⟩), .agg #[.int .i64 d, .string (sB wd), .int .i64 0], .bool true] w (WroteB base b w (l ++ lineRow ⟨d, wd, 0⟩ true)) := by
  have hq := (W.quote_len wd).2
  have hbl := S.blanks_len d
  have hlt := h.lt
  have HB := Lib.hid (h.keep ((Below.refl w.heap.size w).alloc (Nat.le_refl _) (lnO ⟨d, wd, 0⟩)))
  have HL := Lib.hid (LineAt.new w ⟨d, wd, 0⟩)
  have hb0 : KeepB base b w (w.alloc (lnO ⟨d, wd, 0⟩)) := KeepB.of ((Below.refl _ _).alloc (Nat.le_refl _) _) (by have := h.base_le; omega)
  have HK := Lib.hid hb0
  have hlb : w.heap.size ≠ b := by omega
  clear hb0 h
  simp only [lnO] at HB HL HK
  obtain ⟨c0, c1, c2⟩ := HL.out.cells
  simp only [] at c0 c1 c2
  go_enter Try.func21, Try.ntmps21
  go_wp2_with fail
  refine (indent_any base b _ d _ HB.out (by omega) hlen).mono ?_
  rintro e w1 ⟨rfl, hB, hK⟩
  replace HB := Lib.hid hB
  replace HL := Lib.hid (HL.out.keep hK hlb)
  replace HK := Lib.hid (HK.out.trans hK)
  clear hB hK c0 c1 c2
  obtain ⟨c0, c1, c2⟩ := HL.out.cells
  simp only [] at c0 c1 c2
  go_wp2_with fail
  refine (quote_is wd _ hw).mono ?_
  rintro e w2 ⟨rfl, hQ⟩
  replace HK := Lib.hid (HK.out.trans (KeepB.of hQ (Nat.le_of_lt (Nat.lt_of_le_of_lt HB.out.base_le HB.out.lt))))
  replace HB := Lib.hid (HB.out.keep hQ)
  clear hQ c0 c1 c2
  have hlen3 : (l ++ S.blanksL d ++ S.markT 0).length + (⟨(W.quoteL wd).toArray⟩ : ByteArray).size ≤ 140737488355328 := by
    have hs : (⟨(W.quoteL wd).toArray⟩ : ByteArray).size = (W.quoteL wd).length := sB_size _
    have hm : (S.markT 0).length ≤ 19 := by decide
    simp only [List.length_append, hbl, hs]; omega
  replace HB := Lib.hid (HB.out.eq (show _ = l ++ S.blanksL d ++ S.markT 0 from (List.append_nil _).symm))
  go_wp2_with fail
  refine (write_any base b _ _ _ HB.out hlen3).mono ?_
  rintro e w3 ⟨rfl, hB, hK⟩
  replace HB := Lib.hid (hB.eq (show _ = l ++ S.blanksL d ++ S.markT 0 ++ W.quoteL wd by simp))
  replace HK := Lib.hid (HK.out.trans hK)
  clear hB hK
  have hlen4 : (l ++ S.blanksL d ++ S.markT 0 ++ W.quoteL wd).length + (⟨#[32, 123, 10]⟩ : ByteArray).size ≤ 140737488355328 := by
    have hm : (S.markT 0).length ≤ 19 := by decide
    have hs : (⟨#[32, 123, 10]⟩ : ByteArray).size = 3 := rfl
    simp only [List.length_append, hbl, hs]; omega
  go_wp2_with fail
  refine (write_any base b _ _ _ HB.out hlen4).mono ?_
  rintro e w4 ⟨rfl, hB, hK⟩
  have HB2 := Lib.hid hB
  replace HK := Lib.hid (HK.out.trans hK)
  clear hB hK
  go_wp2
  go_end0
  refine ⟨rfl, HB2.out.eq ?_, HK.out⟩
  simp [lineRow]

set_option maxRecDepth 100000 in
set_option maxHeartbeats 1000000 in
theorem writeLine_0c (base b : Nat) (l : List UInt8) (d : Nat) (wd : List UInt8) (w : World) (h : HasB w base b l) (hd : d ≤ 15) (hw : wd.length ≤ 40) (hlen : l.length ≤ 1099511627776) :
    Calls Try.prog 21 #[.pointer (some ⟨b, 0, none⟩), .agg #[.int .i64 d, .string (sB wd), .int .i64 0], .bool false] w (WroteB base b w (l ++ lineRow ⟨d, wd, 0⟩ false)) := by
  have hq := (W.quote_len wd).2
  have hbl := S.blanks_len d
  have hlt := h.lt
  have HB := Lib.hid (h.keep ((Below.refl w.heap.size w).alloc (Nat.le_refl _) (lnO ⟨d, wd, 0⟩)))
  have HL := Lib.hid (LineAt.new w ⟨d, wd, 0⟩)
  have hb0 : KeepB base b w (w.alloc (lnO ⟨d, wd, 0⟩)) := KeepB.of ((Below.refl _ _).alloc (Nat.le_refl _) _) (by have := h.base_le; omega)
  have HK := Lib.hid hb0
  have hlb : w.heap.size ≠ b := by omega
  clear hb0 h
  simp only [lnO] at HB HL HK
  obtain ⟨c0, c1, c2⟩ := HL.out.cells
  simp only [] at c0 c1 c2
  go_enter Try.func21, Try.ntmps21
  go_wp2_with fail
  refine (indent_any base b _ d _ HB.out (by omega) hlen).mono ?_
  rintro e w1 ⟨rfl, hB, hK⟩
  replace HB := Lib.hid hB
  replace HL := Lib.hid (HL.out.keep hK hlb)
  replace HK := Lib.hid (HK.out.trans hK)
  clear hB hK c0 c1 c2
  obtain ⟨c0, c1, c2⟩ := HL.out.cells
  simp only [] at c0 c1 c2
  go_wp2_with fail
  refine (quote_is wd _ hw).mono ?_
  rintro e w2 ⟨rfl, hQ⟩
  replace HK := Lib.hid (HK.out.trans (KeepB.of hQ (Nat.le_of_lt (Nat.lt_of_le_of_lt HB.out.base_le HB.out.lt))))
  replace HB := Lib.hid (HB.out.keep hQ)
  clear hQ c0 c1 c2
  have hlen3 : (l ++ S.blanksL d ++ S.markT 0).length + (⟨(W.quoteL wd).toArray⟩ : ByteArray).size ≤ 140737488355328 := by
    have hs : (⟨(W.quoteL wd).toArray⟩ : ByteArray).size = (W.quoteL wd).length := sB_size _
    have hm : (S.markT 0).length ≤ 19 := by decide
    simp only [List.length_append, hbl, hs]; omega
  replace HB := Lib.hid (HB.out.eq (show _ = l ++ S.blanksL d ++ S.markT 0 from (List.append_nil _).symm))
  go_wp2_with fail
  refine (write_any base b _ _ _ HB.out hlen3).mono ?_
  rintro e w3 ⟨rfl, hB, hK⟩
  replace HB := Lib.hid (hB.eq (show _ = l ++ S.blanksL d ++ S.markT 0 ++ W.quoteL wd by simp))
  replace HK := Lib.hid (HK.out.trans hK)
  clear hB hK
  have hlen4 : (l ++ S.blanksL d ++ S.markT 0 ++ W.quoteL wd).length + (⟨#[59, 10]⟩ : ByteArray).size ≤ 140737488355328 := by
    have hm : (S.markT 0).length ≤ 19 := by decide
    have hs : (⟨#[59, 10]⟩ : ByteArray).size = 2 := rfl
    simp only [List.length_append, hbl, hs]; omega
  go_wp2_with fail
  refine (write_any base b _ _ _ HB.out hlen4).mono ?_
  rintro e w4 ⟨rfl, hB, hK⟩
  have HB2 := Lib.hid hB
  replace HK := Lib.hid (HK.out.trans hK)
  clear hB hK
  go_wp2
  go_end0
  refine ⟨rfl, HB2.out.eq ?_, HK.out⟩
  simp [lineRow]

set_option maxRecDepth 100000 in
set_option maxHeartbeats 1000000 in
theorem writeLine_1o (base b : Nat) (l : List UInt8) (d : Nat) (wd : List UInt8) (w : World) (h : HasB w base b l) (hd : d ≤ 15) (hw : wd.length ≤ 40) (hlen : l.length ≤ 1099511627776) :
    Calls Try.prog 21 #[.pointer (some ⟨b, 0, none⟩), .agg #[.int .i64 d, .string (sB wd), .int .i64 1], .bool true] w (WroteB base b w (l ++ lineRow ⟨d, wd, 1⟩ true)) := by
  have hq := (W.quote_len wd).2
  have hbl := S.blanks_len d
  have hlt := h.lt
  have HB := Lib.hid (h.keep ((Below.refl w.heap.size w).alloc (Nat.le_refl _) (lnO ⟨d, wd, 1⟩)))
  have HL := Lib.hid (LineAt.new w ⟨d, wd, 1⟩)
  have hb0 : KeepB base b w (w.alloc (lnO ⟨d, wd, 1⟩)) := KeepB.of ((Below.refl _ _).alloc (Nat.le_refl _) _) (by have := h.base_le; omega)
  have HK := Lib.hid hb0
  have hlb : w.heap.size ≠ b := by omega
  clear hb0 h
  simp only [lnO] at HB HL HK
  obtain ⟨c0, c1, c2⟩ := HL.out.cells
  simp only [] at c0 c1 c2
  go_enter Try.func21, Try.ntmps21
  go_wp2_with fail
  refine (indent_any base b _ d _ HB.out (by omega) hlen).mono ?_
  rintro e w1 ⟨rfl, hB, hK⟩
  replace HB := Lib.hid hB
  replace HL := Lib.hid (HL.out.keep hK hlb)
  replace HK := Lib.hid (HK.out.trans hK)
  clear hB hK c0 c1 c2
  obtain ⟨c0, c1, c2⟩ := HL.out.cells
  simp only [] at c0 c1 c2
  have hlen2 : (l ++ S.blanksL d).length + (⟨#[105, 110, 97, 99, 116, 105, 118, 101, 58, 32]⟩ : ByteArray).size ≤ 140737488355328 := by
    have hs : (⟨#[105, 110, 97, 99, 116, 105, 118, 101, 58, 32]⟩ : ByteArray).size = 10 := rfl
    simp only [List.length_append, hbl, hs]; omega
  go_wp2_with fail
  refine (write_any base b _ _ _ HB.out hlen2).mono ?_
  rintro e w2 ⟨rfl, hB, hK⟩
  replace HB := Lib.hid hB
  replace HL := Lib.hid (HL.out.keep hK hlb)
  replace HK := Lib.hid (HK.out.trans hK)
  clear hB hK c0 c1 c2
  obtain ⟨c0, c1, c2⟩ := HL.out.cells
  simp only [] at c0 c1 c2
  go_wp2_with fail
  refine (quote_is wd _ hw).mono ?_
  rintro e w3 ⟨rfl, hQ⟩
  replace HK := Lib.hid (HK.out.trans (KeepB.of hQ (Nat.le_of_lt (Nat.lt_of_le_of_lt HB.out.base_le HB.out.lt))))
  replace HB := Lib.hid (HB.out.keep hQ)
  clear hQ c0 c1 c2
  have hlen4 : (l ++ S.blanksL d ++ S.markT 1).length + (⟨(W.quoteL wd).toArray⟩ : ByteArray).size ≤ 140737488355328 := by
    have hs : (⟨(W.quoteL wd).toArray⟩ : ByteArray).size = (W.quoteL wd).length := sB_size _
    have hm : (S.markT 1).length ≤ 19 := by decide
    simp only [List.length_append, hbl, hs]; omega
  replace HB := Lib.hid (HB.out.eq (show _ = l ++ S.blanksL d ++ S.markT 1 from congrArg (l ++ S.blanksL d ++ ·) (by decide)))
  go_wp2_with fail
  refine (write_any base b _ _ _ HB.out hlen4).mono ?_
  rintro e w4 ⟨rfl, hB, hK⟩
  replace HB := Lib.hid (hB.eq (show _ = l ++ S.blanksL d ++ S.markT 1 ++ W.quoteL wd by simp))
  replace HK := Lib.hid (HK.out.trans hK)
  clear hB hK
  have hlen5 : (l ++ S.blanksL d ++ S.markT 1 ++ W.quoteL wd).length + (⟨#[32, 123, 10]⟩ : ByteArray).size ≤ 140737488355328 := by
    have hm : (S.markT 1).length ≤ 19 := by decide
    have hs : (⟨#[32, 123, 10]⟩ : ByteArray).size = 3 := rfl
    simp only [List.length_append, hbl, hs]; omega
  go_wp2_with fail
  refine (write_any base b _ _ _ HB.out hlen5).mono ?_
  rintro e w5 ⟨rfl, hB, hK⟩
  have HB2 := Lib.hid hB
  replace HK := Lib.hid (HK.out.trans hK)
  clear hB hK
  go_wp2
  go_end0
  refine ⟨rfl, HB2.out.eq ?_, HK.out⟩
  simp [lineRow]

set_option maxRecDepth 100000 in
set_option maxHeartbeats 1000000 in
theorem writeLine_1c (base b : Nat) (l : List UInt8) (d : Nat) (wd : List UInt8) (w : World) (h : HasB w base b l) (hd : d ≤ 15) (hw : wd.length ≤ 40) (hlen : l.length ≤ 1099511627776) :
    Calls Try.prog 21 #[.pointer (some ⟨b, 0, none⟩), .agg #[.int .i64 d, .string (sB wd), .int .i64 1], .bool false] w (WroteB base b w (l ++ lineRow ⟨d, wd, 1⟩ false)) := by
  have hq := (W.quote_len wd).2
  have hbl := S.blanks_len d
  have hlt := h.lt
  have HB := Lib.hid (h.keep ((Below.refl w.heap.size w).alloc (Nat.le_refl _) (lnO ⟨d, wd, 1⟩)))
  have HL := Lib.hid (LineAt.new w ⟨d, wd, 1⟩)
  have hb0 : KeepB base b w (w.alloc (lnO ⟨d, wd, 1⟩)) := KeepB.of ((Below.refl _ _).alloc (Nat.le_refl _) _) (by have := h.base_le; omega)
  have HK := Lib.hid hb0
  have hlb : w.heap.size ≠ b := by omega
  clear hb0 h
  simp only [lnO] at HB HL HK
  obtain ⟨c0, c1, c2⟩ := HL.out.cells
  simp only [] at c0 c1 c2
  go_enter Try.func21, Try.ntmps21
  go_wp2_with fail
  refine (indent_any base b _ d _ HB.out (by omega) hlen).mono ?_
  rintro e w1 ⟨rfl, hB, hK⟩
  replace HB := Lib.hid hB
  replace HL := Lib.hid (HL.out.keep hK hlb)
  replace HK := Lib.hid (HK.out.trans hK)
  clear hB hK c0 c1 c2
  obtain ⟨c0, c1, c2⟩ := HL.out.cells
  simp only [] at c0 c1 c2
  have hlen2 : (l ++ S.blanksL d).length + (⟨#[105, 110, 97, 99, 116, 105, 118, 101, 58, 32]⟩ : ByteArray).size ≤ 140737488355328 := by
    have hs : (⟨#[105, 110, 97, 99, 116, 105, 118, 101, 58, 32]⟩ : ByteArray).size = 10 := rfl
    simp only [List.length_append, hbl, hs]; omega
  go_wp2_with fail
  refine (write_any base b _ _ _ HB.out hlen2).mono ?_
  rintro e w2 ⟨rfl, hB, hK⟩
  replace HB := Lib.hid hB
  replace HL := Lib.hid (HL.out.keep hK hlb)
  replace HK := Lib.hid (HK.out.trans hK)
  clear hB hK c0 c1 c2
  obtain ⟨c0, c1, c2⟩ := HL.out.cells
  simp only [] at c0 c1 c2
  go_wp2_with fail
  refine (quote_is wd _ hw).mono ?_
  rintro e w3 ⟨rfl, hQ⟩
  replace HK := Lib.hid (HK.out.trans (KeepB.of hQ (Nat.le_of_lt (Nat.lt_of_le_of_lt HB.out.base_le HB.out.lt))))
  replace HB := Lib.hid (HB.out.keep hQ)
  clear hQ c0 c1 c2
  have hlen4 : (l ++ S.blanksL d ++ S.markT 1).length + (⟨(W.quoteL wd).toArray⟩ : ByteArray).size ≤ 140737488355328 := by
    have hs : (⟨(W.quoteL wd).toArray⟩ : ByteArray).size = (W.quoteL wd).length := sB_size _
    have hm : (S.markT 1).length ≤ 19 := by decide
    simp only [List.length_append, hbl, hs]; omega
  replace HB := Lib.hid (HB.out.eq (show _ = l ++ S.blanksL d ++ S.markT 1 from congrArg (l ++ S.blanksL d ++ ·) (by decide)))
  go_wp2_with fail
  refine (write_any base b _ _ _ HB.out hlen4).mono ?_
  rintro e w4 ⟨rfl, hB, hK⟩
  replace HB := Lib.hid (hB.eq (show _ = l ++ S.blanksL d ++ S.markT 1 ++ W.quoteL wd by simp))
  replace HK := Lib.hid (HK.out.trans hK)
  clear hB hK
  have hlen5 : (l ++ S.blanksL d ++ S.markT 1 ++ W.quoteL wd).length + (⟨#[59, 10]⟩ : ByteArray).size ≤ 140737488355328 := by
    have hm : (S.markT 1).length ≤ 19 := by decide
    have hs : (⟨#[59, 10]⟩ : ByteArray).size = 2 := rfl
    simp only [List.length_append, hbl, hs]; omega
  go_wp2_with fail
  refine (write_any base b _ _ _ HB.out hlen5).mono ?_
  rintro e w5 ⟨rfl, hB, hK⟩
  have HB2 := Lib.hid hB
  replace HK := Lib.hid (HK.out.trans hK)
  clear hB hK
  go_wp2
  go_end0
  refine ⟨rfl, HB2.out.eq ?_, HK.out⟩
  simp [lineRow]

set_option maxRecDepth 100000 in
set_option maxHeartbeats 1000000 in
theorem writeLine_2o (base b : Nat) (l : List UInt8) (d : Nat) (wd : List UInt8) (w : World) (h : HasB w base b l) (hd : d ≤ 15) (hw : wd.length ≤ 40) (hlen : l.length ≤ 1099511627776) :
    Calls Try.prog 21 #[.pointer (some ⟨b, 0, none⟩), .agg #[.int .i64 d, .string (sB wd), .int .i64 2], .bool true] w (WroteB base b w (l ++ lineRow ⟨d, wd, 2⟩ true)) := by
  have hq := (W.quote_len wd).2
  have hbl := S.blanks_len d
  have hlt := h.lt
  have HB := Lib.hid (h.keep ((Below.refl w.heap.size w).alloc (Nat.le_refl _) (lnO ⟨d, wd, 2⟩)))
  have HL := Lib.hid (LineAt.new w ⟨d, wd, 2⟩)
  have hb0 : KeepB base b w (w.alloc (lnO ⟨d, wd, 2⟩)) := KeepB.of ((Below.refl _ _).alloc (Nat.le_refl _) _) (by have := h.base_le; omega)
  have HK := Lib.hid hb0
  have hlb : w.heap.size ≠ b := by omega
  clear hb0 h
  simp only [lnO] at HB HL HK
  obtain ⟨c0, c1, c2⟩ := HL.out.cells
  simp only [] at c0 c1 c2
  go_enter Try.func21, Try.ntmps21
  go_wp2_with fail
  refine (indent_any base b _ d _ HB.out (by omega) hlen).mono ?_
  rintro e w1 ⟨rfl, hB, hK⟩
  replace HB := Lib.hid hB
  replace HL := Lib.hid (HL.out.keep hK hlb)
  replace HK := Lib.hid (HK.out.trans hK)
  clear hB hK c0 c1 c2
  obtain ⟨c0, c1, c2⟩ := HL.out.cells
  simp only [] at c0 c1 c2
  have hlen2 : (l ++ S.blanksL d).length + (⟨#[112, 114, 111, 116, 101, 99, 116, 58, 32]⟩ : ByteArray).size ≤ 140737488355328 := by
    have hs : (⟨#[112, 114, 111, 116, 101, 99, 116, 58, 32]⟩ : ByteArray).size = 9 := rfl
    simp only [List.length_append, hbl, hs]; omega
  go_wp2_with fail
  refine (write_any base b _ _ _ HB.out hlen2).mono ?_
  rintro e w2 ⟨rfl, hB, hK⟩
  replace HB := Lib.hid hB
  replace HL := Lib.hid (HL.out.keep hK hlb)
  replace HK := Lib.hid (HK.out.trans hK)
  clear hB hK c0 c1 c2
  obtain ⟨c0, c1, c2⟩ := HL.out.cells
  simp only [] at c0 c1 c2
  go_wp2_with fail
  refine (quote_is wd _ hw).mono ?_
  rintro e w3 ⟨rfl, hQ⟩
  replace HK := Lib.hid (HK.out.trans (KeepB.of hQ (Nat.le_of_lt (Nat.lt_of_le_of_lt HB.out.base_le HB.out.lt))))
  replace HB := Lib.hid (HB.out.keep hQ)
  clear hQ c0 c1 c2
  have hlen4 : (l ++ S.blanksL d ++ S.markT 2).length + (⟨(W.quoteL wd).toArray⟩ : ByteArray).size ≤ 140737488355328 := by
    have hs : (⟨(W.quoteL wd).toArray⟩ : ByteArray).size = (W.quoteL wd).length := sB_size _
    have hm : (S.markT 2).length ≤ 19 := by decide
    simp only [List.length_append, hbl, hs]; omega
  replace HB := Lib.hid (HB.out.eq (show _ = l ++ S.blanksL d ++ S.markT 2 from congrArg (l ++ S.blanksL d ++ ·) (by decide)))
  go_wp2_with fail
  refine (write_any base b _ _ _ HB.out hlen4).mono ?_
  rintro e w4 ⟨rfl, hB, hK⟩
  replace HB := Lib.hid (hB.eq (show _ = l ++ S.blanksL d ++ S.markT 2 ++ W.quoteL wd by simp))
  replace HK := Lib.hid (HK.out.trans hK)
  clear hB hK
  have hlen5 : (l ++ S.blanksL d ++ S.markT 2 ++ W.quoteL wd).length + (⟨#[32, 123, 10]⟩ : ByteArray).size ≤ 140737488355328 := by
    have hm : (S.markT 2).length ≤ 19 := by decide
    have hs : (⟨#[32, 123, 10]⟩ : ByteArray).size = 3 := rfl
    simp only [List.length_append, hbl, hs]; omega
  go_wp2_with fail
  refine (write_any base b _ _ _ HB.out hlen5).mono ?_
  rintro e w5 ⟨rfl, hB, hK⟩
  have HB2 := Lib.hid hB
  replace HK := Lib.hid (HK.out.trans hK)
  clear hB hK
  go_wp2
  go_end0
  refine ⟨rfl, HB2.out.eq ?_, HK.out⟩
  simp [lineRow]

set_option maxRecDepth 100000 in
set_option maxHeartbeats 1000000 in
theorem writeLine_2c (base b : Nat) (l : List UInt8) (d : Nat) (wd : List UInt8) (w : World) (h : HasB w base b l) (hd : d ≤ 15) (hw : wd.length ≤ 40) (hlen : l.length ≤ 1099511627776) :
    Calls Try.prog 21 #[.pointer (some ⟨b, 0, none⟩), .agg #[.int .i64 d, .string (sB wd), .int .i64 2], .bool false] w (WroteB base b w (l ++ lineRow ⟨d, wd, 2⟩ false)) := by
  have hq := (W.quote_len wd).2
  have hbl := S.blanks_len d
  have hlt := h.lt
  have HB := Lib.hid (h.keep ((Below.refl w.heap.size w).alloc (Nat.le_refl _) (lnO ⟨d, wd, 2⟩)))
  have HL := Lib.hid (LineAt.new w ⟨d, wd, 2⟩)
  have hb0 : KeepB base b w (w.alloc (lnO ⟨d, wd, 2⟩)) := KeepB.of ((Below.refl _ _).alloc (Nat.le_refl _) _) (by have := h.base_le; omega)
  have HK := Lib.hid hb0
  have hlb : w.heap.size ≠ b := by omega
  clear hb0 h
  simp only [lnO] at HB HL HK
  obtain ⟨c0, c1, c2⟩ := HL.out.cells
  simp only [] at c0 c1 c2
  go_enter Try.func21, Try.ntmps21
  go_wp2_with fail
  refine (indent_any base b _ d _ HB.out (by omega) hlen).mono ?_
  rintro e w1 ⟨rfl, hB, hK⟩
  replace HB := Lib.hid hB
  replace HL := Lib.hid (HL.out.keep hK hlb)
  replace HK := Lib.hid (HK.out.trans hK)
  clear hB hK c0 c1 c2
  obtain ⟨c0, c1, c2⟩ := HL.out.cells
  simp only [] at c0 c1 c2
  have hlen2 : (l ++ S.blanksL d).length + (⟨#[112, 114, 111, 116, 101, 99, 116, 58, 32]⟩ : ByteArray).size ≤ 140737488355328 := by
    have hs : (⟨#[112, 114, 111, 116, 101, 99, 116, 58, 32]⟩ : ByteArray).size = 9 := rfl
    simp only [List.length_append, hbl, hs]; omega
  go_wp2_with fail
  refine (write_any base b _ _ _ HB.out hlen2).mono ?_
  rintro e w2 ⟨rfl, hB, hK⟩
  replace HB := Lib.hid hB
  replace HL := Lib.hid (HL.out.keep hK hlb)
  replace HK := Lib.hid (HK.out.trans hK)
  clear hB hK c0 c1 c2
  obtain ⟨c0, c1, c2⟩ := HL.out.cells
  simp only [] at c0 c1 c2
  go_wp2_with fail
  refine (quote_is wd _ hw).mono ?_
  rintro e w3 ⟨rfl, hQ⟩
  replace HK := Lib.hid (HK.out.trans (KeepB.of hQ (Nat.le_of_lt (Nat.lt_of_le_of_lt HB.out.base_le HB.out.lt))))
  replace HB := Lib.hid (HB.out.keep hQ)
  clear hQ c0 c1 c2
  have hlen4 : (l ++ S.blanksL d ++ S.markT 2).length + (⟨(W.quoteL wd).toArray⟩ : ByteArray).size ≤ 140737488355328 := by
    have hs : (⟨(W.quoteL wd).toArray⟩ : ByteArray).size = (W.quoteL wd).length := sB_size _
    have hm : (S.markT 2).length ≤ 19 := by decide
    simp only [List.length_append, hbl, hs]; omega
  replace HB := Lib.hid (HB.out.eq (show _ = l ++ S.blanksL d ++ S.markT 2 from congrArg (l ++ S.blanksL d ++ ·) (by decide)))
  go_wp2_with fail
  refine (write_any base b _ _ _ HB.out hlen4).mono ?_
  rintro e w4 ⟨rfl, hB, hK⟩
  replace HB := Lib.hid (hB.eq (show _ = l ++ S.blanksL d ++ S.markT 2 ++ W.quoteL wd by simp))
  replace HK := Lib.hid (HK.out.trans hK)
  clear hB hK
  have hlen5 : (l ++ S.blanksL d ++ S.markT 2 ++ W.quoteL wd).length + (⟨#[59, 10]⟩ : ByteArray).size ≤ 140737488355328 := by
    have hm : (S.markT 2).length ≤ 19 := by decide
    have hs : (⟨#[59, 10]⟩ : ByteArray).size = 2 := rfl
    simp only [List.length_append, hbl, hs]; omega
  go_wp2_with fail
  refine (write_any base b _ _ _ HB.out hlen5).mono ?_
  rintro e w5 ⟨rfl, hB, hK⟩
  have HB2 := Lib.hid hB
  replace HK := Lib.hid (HK.out.trans hK)
  clear hB hK
  go_wp2
  go_end0
  refine ⟨rfl, HB2.out.eq ?_, HK.out⟩
  simp [lineRow]

set_option maxRecDepth 100000 in
set_option maxHeartbeats 1000000 in
theorem writeLine_3o (base b : Nat) (l : List UInt8) (d : Nat) (wd : List UInt8) (w : World) (h : HasB w base b l) (hd : d ≤ 15) (hw : wd.length ≤ 40) (hlen : l.length ≤ 1099511627776) :
    Calls Try.prog 21 #[.pointer (some ⟨b, 0, none⟩), .agg #[.int .i64 d, .string (sB wd), .int .i64 3], .bool true] w (WroteB base b w (l ++ lineRow ⟨d, wd, 3⟩ true)) := by
  have hq := (W.quote_len wd).2
  have hbl := S.blanks_len d
  have hlt := h.lt
  have HB := Lib.hid (h.keep ((Below.refl w.heap.size w).alloc (Nat.le_refl _) (lnO ⟨d, wd, 3⟩)))
  have HL := Lib.hid (LineAt.new w ⟨d, wd, 3⟩)
  have hb0 : KeepB base b w (w.alloc (lnO ⟨d, wd, 3⟩)) := KeepB.of ((Below.refl _ _).alloc (Nat.le_refl _) _) (by have := h.base_le; omega)
  have HK := Lib.hid hb0
  have hlb : w.heap.size ≠ b := by omega
  clear hb0 h
  simp only [lnO] at HB HL HK
  obtain ⟨c0, c1, c2⟩ := HL.out.cells
  simp only [] at c0 c1 c2
  go_enter Try.func21, Try.ntmps21
  go_wp2_with fail
  refine (indent_any base b _ d _ HB.out (by omega) hlen).mono ?_
  rintro e w1 ⟨rfl, hB, hK⟩
  replace HB := Lib.hid hB
  replace HL := Lib.hid (HL.out.keep hK hlb)
  replace HK := Lib.hid (HK.out.trans hK)
  clear hB hK c0 c1 c2
  obtain ⟨c0, c1, c2⟩ := HL.out.cells
  simp only [] at c0 c1 c2
  have hlen2 : (l ++ S.blanksL d).length + (⟨#[105, 110, 97, 99, 116, 105, 118, 101, 58, 32]⟩ : ByteArray).size ≤ 140737488355328 := by
    have hs : (⟨#[105, 110, 97, 99, 116, 105, 118, 101, 58, 32]⟩ : ByteArray).size = 10 := rfl
    simp only [List.length_append, hbl, hs]; omega
  go_wp2_with fail
  refine (write_any base b _ _ _ HB.out hlen2).mono ?_
  rintro e w2 ⟨rfl, hB, hK⟩
  replace HB := Lib.hid hB
  replace HL := Lib.hid (HL.out.keep hK hlb)
  replace HK := Lib.hid (HK.out.trans hK)
  clear hB hK c0 c1 c2
  obtain ⟨c0, c1, c2⟩ := HL.out.cells
  simp only [] at c0 c1 c2
  have hlen3 : (l ++ S.blanksL d ++ (⟨#[105, 110, 97, 99, 116, 105, 118, 101, 58, 32]⟩ : ByteArray).data.toList).length + (⟨#[112, 114, 111, 116, 101, 99, 116, 58, 32]⟩ : ByteArray).size ≤ 140737488355328 := by
    have hs : (⟨#[112, 114, 111, 116, 101, 99, 116, 58, 32]⟩ : ByteArray).size = 9 := rfl
    simp only [List.length_append, hbl, hs, show (⟨#[105, 110, 97, 99, 116, 105, 118, 101, 58, 32]⟩ : ByteArray).data.toList.length = 10 from rfl]; omega
  go_wp2_with fail
  refine (write_any base b _ _ _ HB.out hlen3).mono ?_
  rintro e w3 ⟨rfl, hB, hK⟩
  replace HB := Lib.hid hB
  replace HL := Lib.hid (HL.out.keep hK hlb)
  replace HK := Lib.hid (HK.out.trans hK)
  clear hB hK c0 c1 c2
  obtain ⟨c0, c1, c2⟩ := HL.out.cells
  simp only [] at c0 c1 c2
  go_wp2_with fail
  refine (quote_is wd _ hw).mono ?_
  rintro e w4 ⟨rfl, hQ⟩
  replace HK := Lib.hid (HK.out.trans (KeepB.of hQ (Nat.le_of_lt (Nat.lt_of_le_of_lt HB.out.base_le HB.out.lt))))
  replace HB := Lib.hid (HB.out.keep hQ)
  clear hQ c0 c1 c2
  have hlen5 : (l ++ S.blanksL d ++ S.markT 3).length + (⟨(W.quoteL wd).toArray⟩ : ByteArray).size ≤ 140737488355328 := by
    have hs : (⟨(W.quoteL wd).toArray⟩ : ByteArray).size = (W.quoteL wd).length := sB_size _
    have hm : (S.markT 3).length ≤ 19 := by decide
    simp only [List.length_append, hbl, hs]; omega
  replace HB := Lib.hid (HB.out.eq (show _ = l ++ S.blanksL d ++ S.markT 3 from (List.append_assoc _ _ _).trans (congrArg (l ++ S.blanksL d ++ ·) (by decide))))
  go_wp2_with fail
  refine (write_any base b _ _ _ HB.out hlen5).mono ?_
  rintro e w5 ⟨rfl, hB, hK⟩
  replace HB := Lib.hid (hB.eq (show _ = l ++ S.blanksL d ++ S.markT 3 ++ W.quoteL wd by simp))
  replace HK := Lib.hid (HK.out.trans hK)
  clear hB hK
  have hlen6 : (l ++ S.blanksL d ++ S.markT 3 ++ W.quoteL wd).length + (⟨#[32, 123, 10]⟩ : ByteArray).size ≤ 140737488355328 := by
    have hm : (S.markT 3).length ≤ 19 := by decide
    have hs : (⟨#[32, 123, 10]⟩ : ByteArray).size = 3 := rfl
    simp only [List.length_append, hbl, hs]; omega
  go_wp2_with fail
  refine (write_any base b _ _ _ HB.out hlen6).mono ?_
  rintro e w6 ⟨rfl, hB, hK⟩
  have HB2 := Lib.hid hB
  replace HK := Lib.hid (HK.out.trans hK)
  clear hB hK
  go_wp2
  go_end0
  refine ⟨rfl, HB2.out.eq ?_, HK.out⟩
  simp [lineRow]

set_option maxRecDepth 100000 in
set_option maxHeartbeats 1000000 in
theorem writeLine_3c (base b : Nat) (l : List UInt8) (d : Nat) (wd : List UInt8) (w : World) (h : HasB w base b l) (hd : d ≤ 15) (hw : wd.length ≤ 40) (hlen : l.length ≤ 1099511627776) :
    Calls Try.prog 21 #[.pointer (some ⟨b, 0, none⟩), .agg #[.int .i64 d, .string (sB wd), .int .i64 3], .bool false] w (WroteB base b w (l ++ lineRow ⟨d, wd, 3⟩ false)) := by
  have hq := (W.quote_len wd).2
  have hbl := S.blanks_len d
  have hlt := h.lt
  have HB := Lib.hid (h.keep ((Below.refl w.heap.size w).alloc (Nat.le_refl _) (lnO ⟨d, wd, 3⟩)))
  have HL := Lib.hid (LineAt.new w ⟨d, wd, 3⟩)
  have hb0 : KeepB base b w (w.alloc (lnO ⟨d, wd, 3⟩)) := KeepB.of ((Below.refl _ _).alloc (Nat.le_refl _) _) (by have := h.base_le; omega)
  have HK := Lib.hid hb0
  have hlb : w.heap.size ≠ b := by omega
  clear hb0 h
  simp only [lnO] at HB HL HK
  obtain ⟨c0, c1, c2⟩ := HL.out.cells
  simp only [] at c0 c1 c2
  go_enter Try.func21, Try.ntmps21
  go_wp2_with fail
  refine (indent_any base b _ d _ HB.out (by omega) hlen).mono ?_
  rintro e w1 ⟨rfl, hB, hK⟩
  replace HB := Lib.hid hB
  replace HL := Lib.hid (HL.out.keep hK hlb)
  replace HK := Lib.hid (HK.out.trans hK)
  clear hB hK c0 c1 c2
  obtain ⟨c0, c1, c2⟩ := HL.out.cells
  simp only [] at c0 c1 c2
  have hlen2 : (l ++ S.blanksL d).length + (⟨#[105, 110, 97, 99, 116, 105, 118, 101, 58, 32]⟩ : ByteArray).size ≤ 140737488355328 := by
    have hs : (⟨#[105, 110, 97, 99, 116, 105, 118, 101, 58, 32]⟩ : ByteArray).size = 10 := rfl
    simp only [List.length_append, hbl, hs]; omega
  go_wp2_with fail
  refine (write_any base b _ _ _ HB.out hlen2).mono ?_
  rintro e w2 ⟨rfl, hB, hK⟩
  replace HB := Lib.hid hB
  replace HL := Lib.hid (HL.out.keep hK hlb)
  replace HK := Lib.hid (HK.out.trans hK)
  clear hB hK c0 c1 c2
  obtain ⟨c0, c1, c2⟩ := HL.out.cells
  simp only [] at c0 c1 c2
  have hlen3 : (l ++ S.blanksL d ++ (⟨#[105, 110, 97, 99, 116, 105, 118, 101, 58, 32]⟩ : ByteArray).data.toList).length + (⟨#[112, 114, 111, 116, 101, 99, 116, 58, 32]⟩ : ByteArray).size ≤ 140737488355328 := by
    have hs : (⟨#[112, 114, 111, 116, 101, 99, 116, 58, 32]⟩ : ByteArray).size = 9 := rfl
    simp only [List.length_append, hbl, hs, show (⟨#[105, 110, 97, 99, 116, 105, 118, 101, 58, 32]⟩ : ByteArray).data.toList.length = 10 from rfl]; omega
  go_wp2_with fail
  refine (write_any base b _ _ _ HB.out hlen3).mono ?_
  rintro e w3 ⟨rfl, hB, hK⟩
  replace HB := Lib.hid hB
  replace HL := Lib.hid (HL.out.keep hK hlb)
  replace HK := Lib.hid (HK.out.trans hK)
  clear hB hK c0 c1 c2
  obtain ⟨c0, c1, c2⟩ := HL.out.cells
  simp only [] at c0 c1 c2
  go_wp2_with fail
  refine (quote_is wd _ hw).mono ?_
  rintro e w4 ⟨rfl, hQ⟩
  replace HK := Lib.hid (HK.out.trans (KeepB.of hQ (Nat.le_of_lt (Nat.lt_of_le_of_lt HB.out.base_le HB.out.lt))))
  replace HB := Lib.hid (HB.out.keep hQ)
  clear hQ c0 c1 c2
  have hlen5 : (l ++ S.blanksL d ++ S.markT 3).length + (⟨(W.quoteL wd).toArray⟩ : ByteArray).size ≤ 140737488355328 := by
    have hs : (⟨(W.quoteL wd).toArray⟩ : ByteArray).size = (W.quoteL wd).length := sB_size _
    have hm : (S.markT 3).length ≤ 19 := by decide
    simp only [List.length_append, hbl, hs]; omega
  replace HB := Lib.hid (HB.out.eq (show _ = l ++ S.blanksL d ++ S.markT 3 from (List.append_assoc _ _ _).trans (congrArg (l ++ S.blanksL d ++ ·) (by decide))))
  go_wp2_with fail
  refine (write_any base b _ _ _ HB.out hlen5).mono ?_
  rintro e w5 ⟨rfl, hB, hK⟩
  replace HB := Lib.hid (hB.eq (show _ = l ++ S.blanksL d ++ S.markT 3 ++ W.quoteL wd by simp))
  replace HK := Lib.hid (HK.out.trans hK)
  clear hB hK
  have hlen6 : (l ++ S.blanksL d ++ S.markT 3 ++ W.quoteL wd).length + (⟨#[59, 10]⟩ : ByteArray).size ≤ 140737488355328 := by
    have hm : (S.markT 3).length ≤ 19 := by decide
    have hs : (⟨#[59, 10]⟩ : ByteArray).size = 2 := rfl
    simp only [List.length_append, hbl, hs]; omega
  go_wp2_with fail
  refine (write_any base b _ _ _ HB.out hlen6).mono ?_
  rintro e w6 ⟨rfl, hB, hK⟩
  have HB2 := Lib.hid hB
  replace HK := Lib.hid (HK.out.trans hK)
  clear hB hK
  go_wp2
  go_end0
  refine ⟨rfl, HB2.out.eq ?_, HK.out⟩
  simp [lineRow]

theorem writeLine_any (base b : Nat) (l : List UInt8) (x : T.Ln) (o : Bool) (w : World) (h : HasB w base b l) (hd : 0 ≤ x.depth ∧ x.depth ≤ 15) (hw : x.word.length ≤ 40) (hm : 0 ≤ x.mark ∧ x.mark ≤ 3) (hlen : l.length ≤ 1099511627776) :
    Calls Try.prog 21 #[.pointer (some ⟨b, 0, none⟩), .agg #[.int .i64 x.depth, .string (sB x.word), .int .i64 x.mark], .bool o] w (WroteB base b w (l ++ lineRow x o)) := by
  obtain ⟨d, wd, m⟩ := x
  obtain ⟨n, rfl⟩ := Int.eq_ofNat_of_zero_le hd.1
  simp only at hd hw hm ⊢
  have hm2 : m = 0 ∨ m = 1 ∨ m = 2 ∨ m = 3 := by omega
  cases o <;> rcases hm2 with rfl | rfl | rfl | rfl
  · exact writeLine_0c base b l n wd w h (by omega) hw hlen
  · exact writeLine_1c base b l n wd w h (by omega) hw hlen
  · exact writeLine_2c base b l n wd w h (by omega) hw hlen
  · exact writeLine_3c base b l n wd w h (by omega) hw hlen
  · exact writeLine_0o base b l n wd w h (by omega) hw hlen
  · exact writeLine_1o base b l n wd w h (by omega) hw hlen
  · exact writeLine_2o base b l n wd w h (by omega) hw hlen
  · exact writeLine_3o base b l n wd w h (by omega) hw hlen
end Go.Proofs.Ytokhflpeeibeeaa
