/-
  Part 15 of what the proofs of this claim stand on. No conditions but those that each theorem states.
-/
import Derived.Test.YtfcikfohmehmkaaGreatDoorTabs14
import Derived.Laws.Rows
import Derived.ChangeKeysEq
import Derived.StillTailTactics
import Derived.Deep.QuietTactic
import Derived.BigQuiet
import Derived.Deep.RegionHeld3

namespace Go.Proofs.YtfcikfohmehmkaaGreatDoor
namespace C
def rowOf : Option Rw → Wd × Wd × Bool × Bool × Bool
 | none => ([], [], false, false, false)
 | some r => (r.1, r.2.1, r.2.2.1, r.2.2.2, true)
theorem rows_len : rowsL.length = 17 := rfl
theorem rows_short : ∀ r ∈ rowsL, r.1.length ≤ 100 ∧ r.2.1.length ≤ 100 := by decide +kernel
theorem find_next {p : T.Pth} {k : Nat} {r : Rw} (hr : rowsL[k]? = some r) (h : (rowsL.take k).find? (fun r => meetsB p r.1) = none) (hm : meetsB p r.1 = false) : (rowsL.take (k + 1)).find? (fun r => meetsB p r.1) = none := by
 obtain ⟨h5, h6⟩ := List.getElem?_eq_some_iff.1 hr
 rw [List.take_succ_eq_append_getElem h5, h6, List.find?_append, h, List.find?_cons, hm]; rfl
theorem find_hit {p : T.Pth} {k : Nat} {r : Rw} (hr : rowsL[k]? = some r) (h : (rowsL.take k).find? (fun r => meetsB p r.1) = none) (hm : meetsB p r.1 = true) : firstR p = some r := by
 obtain ⟨h5, h6⟩ := List.getElem?_eq_some_iff.1 hr
 unfold firstR
 rw [← List.take_append_drop k rowsL, List.find?_append, h, List.drop_eq_getElem_cons h5, h6, List.find?_cons, hm]; rfl
end C
open Go.RowKit
open F
open T (Pth)
set_option linter.unusedVariables false
def rowsC : Array Value := (rowsL.flatMap rowV).toArray
theorem rows_heap {w : World} (h : RowsOk w) : ∃ t fr, w.heap[1]? = some (.cells rowsC t fr) := by
 unfold RowsOk World.var? at h
 rw [show Tryz.prog.globalNamed "ferryslip/schema.rows" = some 1 by kernel_rfl] at h
 simp only [Option.bind_some] at h
 split at h
 ·rename_i cs t fr e
  injection h with h
  rw [e, h]; exact ⟨t, fr, rfl⟩
 ·cases h
theorem rows_info : (Tryz.prog.info? 161).map (·.size) = some rowsC.size := by kernel_rfl
def RowB (w : World) (g : Nat) (s1 s2 : C.Wd) (b1 b2 : Bool) : Prop := w.heap[g]? = some (.cells #[.string (sB s1), .string (sB s2), .bool b1, .bool b2] 126 (0, 0))
theorem RowB.cells {w : World} {g : Nat} {s1 s2 : C.Wd} {b1 b2 : Bool} (h : RowB w g s1 s2 b1 b2) : w.cell? ⟨g, 0, none⟩ = some (.string (sB s1)) ∧ w.cell? ⟨g, 1, none⟩ = some (.string (sB s2)) ∧ w.cell? ⟨g, 2, none⟩ = some (.bool b1) ∧ w.cell? ⟨g, 3, none⟩ = some (.bool b2) :=
 ⟨cell_of_row w g 0 _ _ _ h, cell_of_row w g 1 _ _ _ h, cell_of_row w g 2 _ _ _ h, cell_of_row w g 3 _ _ _ h⟩
theorem RowB.fzn {w : World} {g : Nat} {s1 s2 : C.Wd} {b1 b2 : Bool} (h : RowB w g s1 s2 b1 b2) (j : Nat) : w.frozen? ⟨g, j, none⟩ = false := frozen_of_row w g j _ _ h
theorem RowB.keep {w w1 : World} {B g : Nat} {s1 s2 : C.Wd} {b1 b2 : Bool} (h : RowB w g s1 s2 b1 b2) (hb : Below B w w1) (hg : g < B) : RowB w1 g s1 s2 b1 b2 := (hb.block g hg).trans h
theorem RowB.lt {w : World} {g : Nat} {s1 s2 : C.Wd} {b1 b2 : Bool} (h : RowB w g s1 s2 b1 b2) : g < w.heap.size := (Array.getElem?_eq_some_iff.1 h).1
theorem RowB.new (w : World) (s1 s2 : C.Wd) (b1 b2 : Bool) : RowB (w.alloc (.cells #[.string (sB s1), .string (sB s2), .bool b1, .bool b2] 126)) w.heap.size s1 s2 b1 b2 := heap_alloc_new w _
theorem RowB.set {w : World} {g : Nat} {s1 s2 : C.Wd} {b1 b2 : Bool} (h : RowB w g s1 s2 b1 b2) (u1 u2 : C.Wd) (c1 c2 : Bool) : RowB ((((w.setCell ⟨g, 0, none⟩ (.string (sB u1))).setCell ⟨g, 1, none⟩ (.string (sB u2))).setCell ⟨g, 2, none⟩ (.bool c1)).setCell ⟨g, 3, none⟩ (.bool c2)) g u1 u2 c1 c2 :=
 Joins.block_setCell (i := 3) (Joins.block_setCell (i := 2) (Joins.block_setCell (i := 1) (Joins.block_setCell (i := 0) h _) _) _) _
theorem RowB.bare {w : World} {g : Nat} {s1 s2 : C.Wd} {b1 b2 : Bool} (h : RowB w g s1 s2 b1 b2) : ((((w.setCell ⟨g, 0, none⟩ (.string ⟨#[]⟩)).setCell ⟨g, 1, none⟩ (.string ⟨#[]⟩)).setCell ⟨g, 2, none⟩ (.bool false)).setCell ⟨g, 3, none⟩ (.bool false)).cell? ⟨g, 0, none⟩ = some (.string ⟨#[]⟩) ∧ ((((w.setCell ⟨g, 0, none⟩ (.string ⟨#[]⟩)).setCell ⟨g, 1, none⟩ (.string ⟨#[]⟩)).setCell ⟨g, 2, none⟩ (.bool false)).setCell ⟨g, 3, none⟩ (.bool false)).cell? ⟨g, 1, none⟩ = some (.string ⟨#[]⟩) ∧ ((((w.setCell ⟨g, 0, none⟩ (.string ⟨#[]⟩)).setCell ⟨g, 1, none⟩ (.string ⟨#[]⟩)).setCell ⟨g, 2, none⟩ (.bool false)).setCell ⟨g, 3, none⟩ (.bool false)).cell? ⟨g, 2, none⟩ = some (.bool false) ∧ ((((w.setCell ⟨g, 0, none⟩ (.string ⟨#[]⟩)).setCell ⟨g, 1, none⟩ (.string ⟨#[]⟩)).setCell ⟨g, 2, none⟩ (.bool false)).setCell ⟨g, 3, none⟩ (.bool false)).cell? ⟨g, 3, none⟩ = some (.bool false) := (h.set [] [] false false).cells
theorem below_set4 {B g : Nat} {w0 w : World} (h : Below B w0 w) (hg : B ≤ g) (v0 v1 v2 v3 : Value) : Below B w0 ((((w.setCell ⟨g, 0, none⟩ v0).setCell ⟨g, 1, none⟩ v1).setCell ⟨g, 2, none⟩ v2).setCell ⟨g, 3, none⟩ v3) :=
 (((h.setCell hg v0).setCell hg v1).setCell hg v2).setCell hg v3
set_option maxRecDepth 100000 in
theorem rowsCut (k : Nat) (hk : k < 17) : rowsC.extract (k * 4) (k * 4 + 4) = (rowV (rowsL.getD k ([], [], false, false))).toArray := by
 have hs : k = 0 ∨ k = 1 ∨ k = 2 ∨ k = 3 ∨ k = 4 ∨ k = 5 ∨ k = 6 ∨ k = 7 ∨ k = 8 ∨ k = 9 ∨ k = 10 ∨ k = 11 ∨ k = 12 ∨ k = 13 ∨ k = 14 ∨ k = 15 ∨ k = 16 := by omega
 clear hk
 rcases hs with rfl | rfl | rfl | rfl | rfl | rfl | rfl | rfl | rfl | rfl | rfl | rfl | rfl | rfl | rfl | rfl | rfl <;> rfl
theorem rowAt_all (k : Nat) (hk : k < 17) (w : World) : (Instr.index 161 (.agg rowsC) (.int .i64 (k : Int))).run Tryz.prog w = .ok (.agg (rowV (rowsL.getD k ([], [], false, false))).toArray) w := by
 have hn : 0 ≤ (k : Int) ∧ (k : Int) < 17 := by omega
 rw [← rowsCut k hk]
 simp [Instr.index, run_underlying Tryz.underlying161, asIntOf, hn, hk, part, Sem.run_bind]
theorem row_at {k : Nat} {s1 s2 : C.Wd} {b1 b2 : Bool} (hr : rowsL[k]? = some (s1, s2, b1, b2)) (w : World) : (Instr.index 161 (.agg rowsC) (.int .i64 (k : Int))).run Tryz.prog w = .ok (.agg #[.string (sB s1), .string (sB s2), .bool b1, .bool b2]) w := by
 have hk : k < 17 := (List.getElem?_eq_some_iff.1 hr).1
 rw [rowAt_all k hk w, List.getD_eq_getElem?_getD, hr]; rfl
theorem wpList_index_row {ops : Array Oper} {rest : List Oper} {o : Oper} {a : Act} {w : World} {Q : Exit → Act → World → Prop} (hgd : o.guard = none) (x i : Operand) (ho : o.op = .index 161 x i)
  (cs : Array Value) (hcs : rowsC = cs) (k : Nat) {s1 s2 : C.Wd} {b1 b2 : Bool} (hr : rowsL[k]? = some (s1, s2, b1, b2)) (hx : a.eval x = .agg cs) (hi : a.eval i = .int .i64 (k : Int))
  (h : wpList Tryz.prog ops Q rest (a.put o.dst (.agg #[.string (sB s1), .string (sB s2), .bool b1, .bool b2])) w) : wpList Tryz.prog ops Q (o :: rest) a w :=
 wpList_plain hgd fun _ hK => by
  subst hcs
  unfold Oper.wp execOp
  simp only [ho, hx, hi, Sem.run_bind, Sem.run_pure, Result.andThen_ok, row_at hr]
  exact hK _ _ h
set_option maxRecDepth 100000 in
set_option maxHeartbeats 8000000 in
theorem firstC (A : Option Addr) (c n : Nat) (p : Pth) (k1 k2 : C.Wd) (b1 b2 ok : Bool) (w : World) (hn : p.length = n) (hA : Seen eS w A p) (hsw : ShortW p) (hl : n ≤ 1073741824) (HT : RowsOk w) (hr : C.rowOf (C.firstR p) = (k1, k2, b1, b2, ok)) :
  Calls Tryz.prog 85 #[.slice A n c] w (fun e w' => e = .returned (.tuple #[.agg #[.string (sB k1), .string (sB k2), .bool b1, .bool b2], .bool ok]) ∧ Below w.heap.size w w') := by
 have HN := Lib.hid hn
 have HA := Lib.hid hA
 have HSW := Lib.hid hsw
 have HR := Lib.hid hr
 have hb0 := up w (.cells #[.string ⟨#[]⟩, .string ⟨#[]⟩, .bool false, .bool false] 126)
 obtain ⟨tt, fr, hg1⟩ := rows_heap (HT.below hb0)
 obtain ⟨cs, hcs⟩ : ∃ cs, rowsC = cs := ⟨_, rfl⟩
 have hin := rows_info
 rw [hcs] at hg1 hin
 have HCS := Lib.hid hcs
 have HZ := Lib.hid (show RowB (w.alloc (.cells #[.string ⟨#[]⟩, .string ⟨#[]⟩, .bool false, .bool false] 126)) w.heap.size [] [] false false from RowB.new w [] [] false false)
 clear hn hA hsw hr hcs HT
 go_enter Tryz.func85, Tryz.ntmps85
 go_wp2_with (refine wpList_load_row rfl 161 _ rfl 1 rfl tt _ fr _ hg1 Tryz.underlying161 rfl hin ?_)
 go_loopg [7] 17 (fun gk vi wr => ∃ k : Nat, Hid (k + gk = 17) ∧ k ≤ 17 ∧ vi = .int .i64 (k : Int) ∧ Hid ((rowsL.take k).find? (fun r => C.meetsB p r.1) = none) ∧ Hid (RowB wr w.heap.size [] [] false false) ∧ Below w.heap.size w wr)
 case atStart => exact ⟨0, Nat.zero_add _, Nat.zero_le _, rfl, rfl, HZ.out, hb0⟩
 case round =>
  obtain ⟨k, HG, hk, rfl, HF, HB, hb⟩ := hrel
  have hgk := HG.out
  by_cases hlt : k < 17
  ·have blt : decide ((k : Int) < 17) = true := decide_eq_true (by omega)
   have blt2 : decide (k < 17) = true := decide_eq_true hlt
   obtain ⟨⟨s1, s2, d1, d2⟩, hrk⟩ : ∃ r, rowsL[k]? = some r := ⟨_, List.getElem?_eq_getElem (by rw [C.rows_len]; exact hlt)⟩
   have HRK := Lib.hid hrk
   have HSH := Lib.hid (C.rows_short _ (List.mem_of_getElem? hrk))
   obtain ⟨mb, hmb⟩ : ∃ mb, C.meetsB p s1 = mb := ⟨_, rfl⟩
   have HMB := Lib.hid hmb
   have hbr := bthen hb (up wr (.cells #[.string (sB s1), .string (sB s2), .bool d1, .bool d2] 126))
   have HB1 := Lib.hid (HB.out.keep (up wr (.cells #[.string (sB s1), .string (sB s2), .bool d1, .bool d2] 126)) HB.out.lt)
   clear hrk hmb
   go_wp2_with (refine wpList_index_row rfl _ _ rfl cs HCS.out k HRK.out rfl rfl ?_)
   refine (meetsC A c n p s1 mb _ HN.out (HA.out.below hbr) HSW.out hl HSH.out.1 HMB.out).mono ?_
   rintro e w2 ⟨rfl, hx⟩
   have HB2 := Lib.hid (HB1.out.keep hx HB1.out.lt)
   have HRB := Lib.hid ((RowB.new wr s1 s2 d1 d2).keep hx (RowB.new wr s1 s2 d1 d2).lt)
   have hb2 := bthen hbr hx
   clear hx hbr
   cases mb with
   | true =>
    have HE := Lib.hid (show (k1, k2, b1, b2, ok) = (s1, s2, d1, d2, true) by rw [← HR.out, C.find_hit HRK.out HF.out HMB.out]; rfl)
    obtain ⟨c0, c1, c2, c3⟩ := HRB.out.cells
    obtain ⟨z0, z1, z2, z3⟩ := HB2.out.cells
    have f0 := HB2.out.fzn 0
    have f1 := HB2.out.fzn 1
    have f2 := HB2.out.fzn 2
    have f3 := HB2.out.fzn 3
    go_wp2
    have HW := HB2.out.set s1 s2 d1 d2
    obtain ⟨y0, y1, y2, y3⟩ := HW.cells
    refine bodyPost_ret (v := .tuple #[.agg #[.string (sB s1), .string (sB s2), .bool d1, .bool d2], .bool true]) (by simp [results, Tryz.results85, go_sem, y0, y1, y2, y3]) rfl ⟨?_, below_set4 hb2 (Nat.le_refl _) _ _ _ _⟩
    have := HE.out
    simp only [Prod.mk.injEq] at this
    obtain ⟨rfl, rfl, rfl, rfl, rfl⟩ := this
    rfl
   | false =>
    have HF2 := Lib.hid (C.find_next HRK.out HF.out HMB.out)
    go_wp2
    go_roundg (17 - (k + 1))
    case rel => exact ⟨k + 1, (by show _ = _; omega), by omega, by go_num, HF2.out, HB2.out, hb2⟩
    case measure => omega
  ·have blt : decide ((k : Int) < 17) = false := decide_eq_false (by omega)
   have blt2 : decide (k < 17) = false := decide_eq_false hlt
   obtain rfl : k = 17 := by omega
   have HE := Lib.hid (show (k1, k2, b1, b2, ok) = ([], [], false, false, false) by
    have := HF.out
    rw [List.take_of_length_le (by rw [C.rows_len]; exact Nat.le_refl _)] at this
    rw [← HR.out, show C.firstR p = none from this]; rfl)
   obtain ⟨z0, z1, z2, z3⟩ := HB.out.cells
   have f0 := HB.out.fzn 0
   have f1 := HB.out.fzn 1
   have f2 := HB.out.fzn 2
   have f3 := HB.out.fzn 3
   go_wp2
   obtain ⟨y0, y1, y2, y3⟩ := HB.out.bare
   refine bodyPost_ret (v := .tuple #[.agg #[.string ⟨#[]⟩, .string ⟨#[]⟩, .bool false, .bool false], .bool false]) (by simp [results, Tryz.results85, go_sem, y0, y1, y2, y3]) rfl ⟨?_, below_set4 hb (Nat.le_refl _) _ _ _ _⟩
   have := HE.out
   simp only [Prod.mk.injEq] at this
   obtain ⟨rfl, rfl, rfl, rfl, rfl⟩ := this
   rfl
end Go.Proofs.YtfcikfohmehmkaaGreatDoor
namespace Go.Proofs.YtfcikfohmehmkaaGreatDoor
namespace C
open T (Pth)
def secondB (p : Pth) : Wd := match firstR p.dropLast with
 | some r => if typeB r.2.1 (p.getLastD []) = true then r.1 else []
 | none => []
def unsaidB (p : Pth) : Int := if (firstR p).isSome then 0 else match firstR p.dropLast with
 | none => 3
 | some r => if typeB r.2.1 (p.getLastD []) = true then 0 else 2
def heldB (p : Pth) (k : Nat) : Int := match firstR p with
 | some r => if r.2.2.1 = true then (if k = 0 then 1 else if k = 1 then 0 else 4) else 0
 | none => 0
theorem second_of {p : Pth} {k1 k2 : Wd} {b1 b2 ok : Bool} (h : rowOf (firstR p.dropLast) = (k1, k2, b1, b2, ok)) : secondB p = if ok = true then (if typeB k2 (p.getLastD []) = true then k1 else []) else [] := by
 unfold secondB
 cases hf : firstR p.dropLast with
 | none => rw [hf] at h; cases h; rfl
 | some r => rw [hf] at h; cases h; rfl
theorem unsaid_of {p : Pth} {k1 k2 : Wd} {b1 b2 ok ok1 : Bool} (h1 : (firstR p).isSome = ok1) (h : rowOf (firstR p.dropLast) = (k1, k2, b1, b2, ok)) : unsaidB p = if ok1 = true then 0 else if ok = true then (if typeB k2 (p.getLastD []) = true then 0 else 2) else 3 := by
 unfold unsaidB
 rw [h1]
 cases hf : firstR p.dropLast with
 | none => rw [hf] at h; cases h; cases ok1 <;> rfl
 | some r => rw [hf] at h; cases h; cases ok1 <;> rfl
theorem held_of {p : Pth} {k1 k2 : Wd} {b1 b2 ok : Bool} (h : rowOf (firstR p) = (k1, k2, b1, b2, ok)) (k : Nat) : heldB p k = if ok = true then (if b1 = true then (if k = 0 then 1 else if k = 1 then 0 else 4) else 0) else 0 := by
 unfold heldB
 cases hf : firstR p with
 | none => rw [hf] at h; cases h; rfl
 | some r => rw [hf] at h; cases h; rfl
theorem row_ex (o : Option Rw) : ∃ k1 k2 b1 b2 ok, rowOf o = (k1, k2, b1, b2, ok) := ⟨_, _, _, _, _, rfl⟩
theorem row_some {o : Option Rw} {k1 k2 : Wd} {b1 b2 ok : Bool} (h : rowOf o = (k1, k2, b1, b2, ok)) : o.isSome = ok := by
 cases o with
 | none => cases h; rfl
 | some r => cases h; rfl
theorem last_get {p : Pth} {m : Nat} {x : Wd} (hn : p.length = m + 1) (hx : p[m]? = some x) : p.getLastD [] = x := by
 rw [List.getLastD_eq_getLast?, List.getLast?_eq_getElem?, hn, Nat.add_sub_cancel, hx]; rfl
theorem drop_take {p : Pth} {m : Nat} (hn : p.length = m + 1) : p.dropLast = p.take m := by rw [List.dropLast_eq_take, hn, Nat.add_sub_cancel]
end C
open Go.RowKit
open F
open T (Pth)
set_option linter.unusedVariables false
theorem seen_take13 {w : World} {b o q : Nat} {P : Pth} (h : Seen eS w (some ⟨b, o, none⟩) P) : Seen eS w (some ⟨b, o, none⟩) (P.take q) := by
 intro h0
 have hP : 0 < P.length := by rw [List.length_take] at h0; omega
 obtain ⟨b2, o2, e, hb, hH⟩ := h hP
 refine ⟨b2, o2, e, hb, fun d hd j u hu => ?_⟩
 rw [List.getElem_take] at hu
 exact hH d (by rw [List.length_take] at hd; omega) j u hu
theorem short_take {p : Pth} (h : ShortW p) (q : Nat) : ShortW (p.take q) := fun x hx => h x (List.mem_of_mem_take hx)
set_option maxRecDepth 100000 in
set_option maxHeartbeats 4000000 in
theorem secondC (A : Option Addr) (c n : Nat) (p : Pth) (s : C.Wd) (w : World) (hn : p.length = n) (hnc : n ≤ c) (hA : Seen eS w A p) (hsw : ShortW p) (h0 : 0 < n) (hl : n ≤ 1073741824) (HT : RowsOk w) (hr : C.secondB p = s) :
  Calls Tryz.prog 128 #[.slice A n c] w (fun e w' => e = .returned (.string (sB s)) ∧ Below w.heap.size w w') := by
 obtain ⟨m, rfl⟩ : ∃ m, n = m + 1 := ⟨n - 1, by omega⟩
 have j1 : ((m + 1 : Nat) : Int) - 1 = (m : Int) := by omega
 have j2 : IntKind.i64.wrap (m : Int) = (m : Int) := by rw [IntKind.wrap_i64]; omega
 have jd : (m : Int) ≤ (c : Int) := by omega
 have j0 : (0 : Int) ≤ (m : Int) := by omega
 have jm : (m : Int) < ((m + 1 : Nat) : Int) := by omega
 have jm2 : (m : Int) < (m : Int) + 1 := by omega
 obtain ⟨x, hx⟩ : ∃ x, p[m]? = some x := ⟨_, List.getElem?_eq_getElem (by omega)⟩
 obtain ⟨b, o, rfl, hbw, hL⟩ := hA (by omega)
 obtain ⟨k1, k2, b1, b2, ok, hrow⟩ := C.row_ex (C.firstR p.dropLast)
 have HR := Lib.hid (show (if ok = true then (if C.typeB k2 x = true then k1 else []) else []) = s by rw [← hr, C.second_of hrow, C.last_get hn hx])
 have HROW := Lib.hid (show C.rowOf (C.firstR (p.take m)) = (k1, k2, b1, b2, ok) by rw [← C.drop_take hn]; exact hrow)
 have HTK := Lib.hid (show (p.take m).length = m by rw [List.length_take, hn]; omega)
 have HA := Lib.hid (seen_take13 (q := m) hA)
 have HSW := Lib.hid (short_take hsw m)
 have HX := Lib.hid (show x.length ≤ 100 from hsw x (List.mem_of_getElem? hx))
 have HL := Lib.hid hL
 have HP := Lib.hid hx
 have HT := Lib.hid HT
 clear hn hA hsw hL hr hrow hx
 go_enter Tryz.func128, Tryz.ntmps128
 go_wp2_with fail
 refine (firstC (some ⟨b, o, none⟩) c m (p.take m) k1 k2 b1 b2 ok _ HTK.out HA.out HSW.out (by omega) HT.out HROW.out).mono ?_
 rintro e w1 ⟨rfl, hx⟩
 have hb1 := bthen hx (up w1 (.cells #[.string (sB k1), .string (sB k2), .bool b1, .bool b2] 126))
 obtain ⟨c0, c1, c2, c3⟩ := (RowB.new w1 k1 k2 b1 b2).cells
 have cp : (w1.alloc (.cells #[.string (sB k1), .string (sB k2), .bool b1, .bool b2] 126)).cell? ⟨b, o + m, none⟩ = some (.string (sB x)) := cellS (HL.out.below hb1 hbw) HP.out
 obtain ⟨W1, hW1⟩ : ∃ W, w1.alloc (.cells #[.string (sB k1), .string (sB k2), .bool b1, .bool b2] 126) = W := ⟨_, rfl⟩
 rw [hW1] at hb1 c0 c1 c2 c3 cp
 have HW1 := Lib.hid hW1
 have HLT := Lib.hid (show w1.heap.size < W1.heap.size by rw [← hW1]; simp)
 clear hx hW1
 cases ok with
 | false =>
  have HE := Lib.hid (show s = [] by rw [← HR.out]; rfl)
  go_wp2
  rw [HW1.out]
  go_quiet (fail)
  go_wp2
  go_ret
  exact ⟨by rw [HE.out]; rfl, below_drawn10 hb1 _⟩
 | true =>
  obtain ⟨tb, htb⟩ : ∃ tb, C.typeB k2 x = tb := ⟨_, rfl⟩
  have HTB := Lib.hid htb
  go_wp2
  rw [HW1.out]
  clear htb
  go_still_tail 8, (by kernel_rfl)
  change wpList _ _ _ _ _ W1.drew
  go_wp2_with fail
  refine (typeC k2 x tb _ HX.out HTB.out).mono ?_
  rintro e w2 ⟨rfl, hx⟩
  have c0' : w2.cell? ⟨w1.heap.size, 0, none⟩ = some (.string (sB k1)) := ((below_drawn13 (Below.refl _ W1) 1).trans hx).cell (p := ⟨w1.heap.size, 0, none⟩) (HLT.out) |>.trans c0
  have hb2 := hb1.drew.trans (hx.mono hb1.size)
  cases tb with
  | false =>
   have HE := Lib.hid (show s = [] by rw [← HR.out, HTB.out]; rfl)
   go_wp2
   go_ret
   exact ⟨by rw [HE.out]; rfl, hb2⟩
  | true =>
   have HE := Lib.hid (show s = k1 by rw [← HR.out, HTB.out]; rfl)
   go_wp2
   go_ret
   exact ⟨by rw [HE.out]; rfl, hb2⟩
set_option maxRecDepth 100000 in
set_option maxHeartbeats 4000000 in
theorem unsaidC (A : Option Addr) (c n : Nat) (p : Pth) (z : Int) (w : World) (hn : p.length = n) (hnc : n ≤ c) (hA : Seen eS w A p) (hsw : ShortW p) (h0 : 0 < n) (hl : n ≤ 1073741824) (HT : RowsOk w) (hr : C.unsaidB p = z) :
  Calls Tryz.prog 54 #[.slice A n c] w (IntS w z) := by
 obtain ⟨m, rfl⟩ : ∃ m, n = m + 1 := ⟨n - 1, by omega⟩
 have j1 : ((m + 1 : Nat) : Int) - 1 = (m : Int) := by omega
 have j2 : IntKind.i64.wrap (m : Int) = (m : Int) := by rw [IntKind.wrap_i64]; omega
 have jd : (m : Int) ≤ (c : Int) := by omega
 have j0 : (0 : Int) ≤ (m : Int) := by omega
 have jm : (m : Int) < ((m + 1 : Nat) : Int) := by omega
 have jm2 : (m : Int) < (m : Int) + 1 := by omega
 obtain ⟨x, hx⟩ : ∃ x, p[m]? = some x := ⟨_, List.getElem?_eq_getElem (by omega)⟩
 obtain ⟨b, o, rfl, hbw, hL⟩ := hA (by omega)
 obtain ⟨h1, h2, e1, e2, ok1, hrow1⟩ := C.row_ex (C.firstR p)
 obtain ⟨k1, k2, b1, b2, ok, hrow⟩ := C.row_ex (C.firstR p.dropLast)
 have HR := Lib.hid (show (if ok1 = true then 0 else if ok = true then (if C.typeB k2 x = true then 0 else 2) else 3) = z by rw [← hr, C.unsaid_of (C.row_some hrow1) hrow, C.last_get hn hx])
 have HROW1 := Lib.hid hrow1
 have HROW := Lib.hid (show C.rowOf (C.firstR (p.take m)) = (k1, k2, b1, b2, ok) by rw [← C.drop_take hn]; exact hrow)
 have HN := Lib.hid hn
 have HTK := Lib.hid (show (p.take m).length = m by rw [List.length_take, hn]; omega)
 have HA0 := Lib.hid hA
 have HA := Lib.hid (seen_take13 (q := m) hA)
 have HSW0 := Lib.hid hsw
 have HSW := Lib.hid (short_take hsw m)
 have HX := Lib.hid (show x.length ≤ 100 from hsw x (List.mem_of_getElem? hx))
 have HL := Lib.hid hL
 have HP := Lib.hid hx
 have HT := Lib.hid HT
 clear hn hA hsw hL hr hrow hrow1 hx
 go_enter Tryz.func54, Tryz.ntmps54
 go_wp2_with fail
 refine (firstC (some ⟨b, o, none⟩) c (m + 1) p h1 h2 e1 e2 ok1 _ HN.out HA0.out HSW0.out (by omega) HT.out HROW1.out).mono ?_
 rintro e w0 ⟨rfl, hx⟩
 have hb0 := bthen hx (up w0 (.cells #[.string (sB h1), .string (sB h2), .bool e1, .bool e2] 126))
 clear hx
 cases ok1 with
 | true =>
  have HE := Lib.hid (show z = 0 by rw [← HR.out]; rfl)
  go_wp2
  go_ret
  exact ⟨by rw [HE.out]; rfl, hb0⟩
 | false =>
 go_wp2_with fail
 refine (firstC (some ⟨b, o, none⟩) c m (p.take m) k1 k2 b1 b2 ok _ HTK.out (HA.out.below hb0) HSW.out (by omega) (HT.out.below hb0) HROW.out).mono ?_
 rintro e w1 ⟨rfl, hx⟩
 have hb1 := bthen (bthen hb0 hx) (up w1 (.cells #[.string (sB k1), .string (sB k2), .bool b1, .bool b2] 126))
 obtain ⟨c0, c1, c2, c3⟩ := (RowB.new w1 k1 k2 b1 b2).cells
 have cp : (w1.alloc (.cells #[.string (sB k1), .string (sB k2), .bool b1, .bool b2] 126)).cell? ⟨b, o + m, none⟩ = some (.string (sB x)) := cellS (HL.out.below hb1 hbw) HP.out
 obtain ⟨W1, hW1⟩ : ∃ W, w1.alloc (.cells #[.string (sB k1), .string (sB k2), .bool b1, .bool b2] 126) = W := ⟨_, rfl⟩
 rw [hW1] at hb1 c0 c1 c2 c3 cp
 have HW1 := Lib.hid hW1
 clear hx hW1 hb0
 cases ok with
 | false =>
  have HE := Lib.hid (show z = 3 by rw [← HR.out]; rfl)
  go_wp2
  rw [HW1.out]
  go_ret
  exact ⟨by rw [HE.out]; rfl, hb1⟩
 | true =>
  obtain ⟨tb, htb⟩ : ∃ tb, C.typeB k2 x = tb := ⟨_, rfl⟩
  have HTB := Lib.hid htb
  go_wp2
  rw [HW1.out]
  clear htb
  go_still_tail 6, (by kernel_rfl)
  change wpList _ _ _ _ _ W1.drew
  go_wp2_with fail
  refine (typeC k2 x tb _ HX.out HTB.out).mono ?_
  rintro e w2 ⟨rfl, hx⟩
  have hb2 := hb1.drew.trans (hx.mono hb1.size)
  cases tb with
  | false =>
   have HE := Lib.hid (show z = 2 by rw [← HR.out, HTB.out]; rfl)
   go_wp2
   go_ret
   exact ⟨by rw [HE.out]; rfl, hb2⟩
  | true =>
   have HE := Lib.hid (show z = 0 by rw [← HR.out, HTB.out]; rfl)
   go_wp2
   go_ret
   exact ⟨by rw [HE.out]; rfl, hb2⟩
theorem kidsC13 (A : Option Addr) (c n m : Nat) (t : List T.Ln) (i : Int) (K : List Nat) (w : World) (hn : t.length = n) (hm : K.length = m) (hA : Seen eL w A t) (hl : n ≤ 1073741824) (hi : -1 ≤ i) (hil : i < n) (hR : T.RightT t) (h : T.kidsL t i = K) :
  Calls Tryz.prog 76 #[.slice A n c, .int .i64 i] w (fun e w' => ∃ B d, e = .returned (.slice B m d) ∧ m ≤ d ∧ Seen eI w' B K ∧ Below w.heap.size w w') := by
 subst hn; subst hm; exact kids_is A c t i K w hA hl hi hil hR h
set_option maxRecDepth 100000 in
set_option maxHeartbeats 4000000 in
theorem heldC (A B : Option Addr) (c d n i np k : Nat) (t : List T.Ln) (p : Pth) (z : Int) (w : World) (hn : t.length = n) (hA : Seen eL w A t) (hl : n ≤ 200) (hR : T.RightT t) (hi : i < n) (hnp : p.length = np) (hB : Seen eS w B p) (hsw : ShortW p) (hl2 : np ≤ 1073741824) (HT : RowsOk w) (hk : (T.kidsL t (i : Int)).length = k) (hr : C.heldB p k = z) :
  Calls Tryz.prog 88 #[.slice A n c, .int .i64 (i : Int), .slice B np d] w (IntS w z) := by
 obtain ⟨k1, k2, b1, b2, ok, hrow⟩ := C.row_ex (C.firstR p)
 obtain ⟨K, hK⟩ : ∃ K, T.kidsL t (i : Int) = K := ⟨_, rfl⟩
 have hk2 : k ≤ n := by rw [← hk, ← hn]; exact T.filter_len t.length _
 have HR := Lib.hid (show (if ok = true then (if b1 = true then (if k = 0 then 1 else if k = 1 then 0 else 4) else 0) else 0) = z by rw [← hr, C.held_of hrow])
 have HROW := Lib.hid hrow
 have HN := Lib.hid hn
 have HA := Lib.hid hA
 have HRT := Lib.hid hR
 have HNP := Lib.hid hnp
 have HB := Lib.hid hB
 have HSW := Lib.hid hsw
 have HT := Lib.hid HT
 have HK := Lib.hid hK
 have HKL := Lib.hid (show K.length = k by rw [← hK]; exact hk)
 clear hrow hn hA hR hnp hB hsw hr hK hk
 go_enter Tryz.func88, Tryz.ntmps88
 go_wp2_with fail
 refine (firstC B d np p k1 k2 b1 b2 ok _ HNP.out HB.out HSW.out hl2 HT.out HROW.out).mono ?_
 rintro e w1 ⟨rfl, hx⟩
 have hb1 := bthen hx (up w1 (.cells #[.string (sB k1), .string (sB k2), .bool b1, .bool b2] 126))
 obtain ⟨c0, c1, c2, c3⟩ := (RowB.new w1 k1 k2 b1 b2).cells
 clear hx
 cases ok with
 | false =>
  have HE := Lib.hid (show z = 0 by rw [← HR.out]; rfl)
  go_wp2
  go_ret
  exact ⟨by rw [HE.out]; rfl, hb1⟩
 | true =>
  cases b1 with
  | false =>
   have HE := Lib.hid (show z = 0 by rw [← HR.out]; rfl)
   go_wp2
   go_ret
   exact ⟨by rw [HE.out]; rfl, hb1⟩
  | true =>
   go_wp2_with fail
   refine (kidsC13 A c n k t (i : Int) K _ HN.out HKL.out (HA.out.below hb1) (by omega) (by omega) (by omega) HRT.out HK.out).mono ?_
   rintro e w2 ⟨B2, d2, rfl, hd2, hs2, hx⟩
   have hb2 := bthen hb1 hx
   clear hx hs2 hd2
   by_cases g0 : k = 0
   ·have d0 : ((k : Int) == 0) = true := beq_iff_eq.2 (by omega)
    have d0b : (k == 0) = true := beq_iff_eq.2 g0
    have HE := Lib.hid (show z = 1 by rw [← HR.out]; simp [g0])
    clear g0
    go_wp2
    go_ret
    exact ⟨by rw [HE.out]; rfl, hb2⟩
   ·have d0 : ((k : Int) == 0) = false := beq_eq_false_iff_ne.2 (by omega)
    have d0b : (k == 0) = false := beq_eq_false_iff_ne.2 g0
    have d0c : ¬ k = 0 := g0
    by_cases g1 : k = 1
    ·have d1 : ((k : Int) == 1) = true := beq_iff_eq.2 (by omega)
     have d1b : (k == 1) = true := beq_iff_eq.2 g1
     have HE := Lib.hid (show z = 0 by rw [← HR.out]; simp [g1])
     clear g0 g1
     go_wp2
     go_ret
     exact ⟨by rw [HE.out]; rfl, hb2⟩
    ·have d1 : ((k : Int) == 1) = false := beq_eq_false_iff_ne.2 (by omega)
     have d1b : (k == 1) = false := beq_eq_false_iff_ne.2 g1
     have d1c : ¬ k = 1 := g1
     have HE := Lib.hid (show z = 4 by rw [← HR.out]; simp [g0, g1])
     clear g0 g1
     go_wp2
     go_ret
     exact ⟨by rw [HE.out]; rfl, hb2⟩
end Go.Proofs.YtfcikfohmehmkaaGreatDoor
namespace Go.Proofs.YtfcikfohmehmkaaGreatDoor
namespace C
open T (Pth)
def cutR (r : Rw) : Nat := (lastI 32 r.1).toNat
def needOf (p : Pth) (r : Rw) : List Wd := if (r.2.2.2 && meetsB p (r.1.take (cutR r))) = true then [r.1.drop (cutR r + 1)] else []
def needTo (p : Pth) (k : Nat) : List Wd := (rowsL.take k).flatMap (needOf p)
theorem cut_rows : ∀ r ∈ rowsL, r.2.2.2 = true → 0 ≤ lastI 32 r.1 ∧ lastI 32 r.1 + 1 ≤ (r.1.length : Int) := by decide +kernel
theorem need_next (p : Pth) {k : Nat} {r : Rw} (hr : rowsL[k]? = some r) : needTo p (k + 1) = needTo p k ++ needOf p r := by
 unfold needTo
 obtain ⟨h5, h6⟩ := List.getElem?_eq_some_iff.1 hr
 rw [List.take_succ_eq_append_getElem h5, h6, List.flatMap_append]
 simp
theorem need_few (p : Pth) : ∀ k, (needTo p k).length ≤ k
 | 0 => by simp [needTo]
 | k + 1 => by
  by_cases h : k < rowsL.length
  ·rw [need_next p (List.getElem?_eq_getElem h), List.length_append]
   have h1 := need_few p k
   have h2 : (needOf p rowsL[k]).length ≤ 1 := by unfold needOf; split <;> simp
   omega
  ·have e : needTo p (k + 1) = needTo p k := by unfold needTo; rw [List.take_of_length_le (by omega), List.take_of_length_le (by omega)]
   rw [e]; exact Nat.le_succ_of_le (need_few p k)
def needS : List (List Wd × Wd) := [([wHosts, kName], wIp), ([wVnis, kVni], wSubnet), ([wBindings, kIp], wHost), ([wBindings, kIp], wMac), ([wBindings, kIp], wVni), ([wRoutes, kPrefix], wVia), ([wPolicy, kNum], wAction)]
theorem need_rows : (rowsL.filter fun r => r.2.2.2).map (fun r => (N.splitL 32 (r.1.take (cutR r)), r.1.drop (cutR r + 1))) = needS := by decide +kernel
theorem flat_filter {α β : Type} (f : α → Bool) (g : α → List β) : ∀ l : List α, (∀ x ∈ l, f x = false → g x = []) → l.flatMap g = (l.filter f).flatMap g
 | [], _ => rfl
 | x :: l, h => by
  rw [List.flatMap_cons, flat_filter f g l (fun y hy => h y (List.mem_cons_of_mem _ hy)), List.filter_cons]
  cases hx : f x with
  | false => rw [h x List.mem_cons_self hx]; rfl
  | true => rw [if_pos rfl, List.flatMap_cons]
theorem flat_both {α β γ : Type} (f : α → β) (g : β → List γ) (h : α → List γ) (l : List α) (he : ∀ x ∈ l, h x = g (f x)) : l.flatMap h = (l.map f).flatMap g := by
 rw [List.flatMap_map]
 exact flat_same he
theorem need_words (p : Pth) : needTo p 17 = needS.flatMap fun x => if matchB p x.1 = true then [x.2] else [] := by
 unfold needTo
 rw [show rowsL.take 17 = rowsL from rfl, flat_filter (fun r : Rw => r.2.2.2) (needOf p) rowsL (fun r hr h => by unfold needOf; rw [h]; rfl), ← need_rows]
 refine flat_both _ _ _ _ fun r hr => ?_
 have h := (List.mem_filter.1 hr).2
 unfold needOf meetsB
 rw [show r.2.2.2 = true from h, Bool.true_and]
theorem mB22 (a b s1 s2 : Wd) : matchB [a, b] [s1, s2] = (standsB a s1 && standsB b s2) := by show (standsB a s1 && (standsB b s2 && true)) = _; rw [Bool.and_true]
theorem mB12 (a s1 s2 : Wd) : matchB [a] [s1, s2] = false := by show (standsB a s1 && false) = _; rw [Bool.and_false]
theorem mB32 (a b c : Wd) (r : Pth) (s1 s2 : Wd) : matchB (a :: b :: c :: r) [s1, s2] = false := by show (standsB a s1 && (standsB b s2 && false)) = _; rw [Bool.and_false, Bool.and_false]
theorem need_all (p : Pth) : needTo p 17 = needsL p := by
 rw [need_words]
 match p with
 | [] => rfl
 | [a] => simp only [needS, List.flatMap_cons, List.flatMap_nil, mB12]; rfl
 | a :: b :: c :: r => simp only [needS, List.flatMap_cons, List.flatMap_nil, mB32]; rfl
 | [a, b] =>
  simp only [needS, List.flatMap_cons, List.flatMap_nil, mB22]
  show _ = if secondW a ≠ [] ∧ knownP [a, b] = 0 then needsW a else []
  have hk : knownP [a, b] = if typeB (secondW a) b = true then 0 else 2 := rfl
  rw [hk]
  by_cases h1 : a = wHosts
  ·subst h1
   rw [show secondW wHosts = kName from rfl]
   simp only [st_hosts, st_vnis, st_bindings, st_routes, st_policy, sk_name, show decide (wHosts = wVnis) = false from rfl, show decide (wHosts = wBindings) = false from rfl, show decide (wHosts = wRoutes) = false from rfl, show decide (wHosts = wPolicy) = false from rfl, Bool.false_and]
   cases typeB kName b <;> decide +kernel
  by_cases h2 : a = wVnis
  ·subst h2
   rw [show secondW wVnis = kVni from rfl]
   simp only [st_hosts, st_vnis, st_bindings, st_routes, st_policy, sk_vni, show decide (wVnis = wHosts) = false from rfl, show decide (wVnis = wBindings) = false from rfl, show decide (wVnis = wRoutes) = false from rfl, show decide (wVnis = wPolicy) = false from rfl, Bool.false_and]
   cases typeB kVni b <;> decide +kernel
  by_cases h3 : a = wBindings
  ·subst h3
   rw [show secondW wBindings = kIp from rfl]
   simp only [st_hosts, st_vnis, st_bindings, st_routes, st_policy, sk_ip, show decide (wBindings = wHosts) = false from rfl, show decide (wBindings = wVnis) = false from rfl, show decide (wBindings = wRoutes) = false from rfl, show decide (wBindings = wPolicy) = false from rfl, Bool.false_and]
   cases typeB kIp b <;> decide +kernel
  by_cases h4 : a = wRoutes
  ·subst h4
   rw [show secondW wRoutes = kPrefix from rfl]
   simp only [st_hosts, st_vnis, st_bindings, st_routes, st_policy, sk_prefix, show decide (wRoutes = wHosts) = false from rfl, show decide (wRoutes = wVnis) = false from rfl, show decide (wRoutes = wBindings) = false from rfl, show decide (wRoutes = wPolicy) = false from rfl, Bool.false_and]
   cases typeB kPrefix b <;> decide +kernel
  by_cases h5 : a = wPolicy
  ·subst h5
   rw [show secondW wPolicy = kNum from rfl]
   simp only [st_hosts, st_vnis, st_bindings, st_routes, st_policy, sk_num, show decide (wPolicy = wHosts) = false from rfl, show decide (wPolicy = wVnis) = false from rfl, show decide (wPolicy = wBindings) = false from rfl, show decide (wPolicy = wRoutes) = false from rfl, Bool.false_and]
   cases typeB kNum b <;> decide +kernel
  have e0 : secondW a = [] := by unfold secondW; rw [if_neg h1, if_neg h2, if_neg h3, if_neg h4, if_neg h5]
  simp only [e0, ne_eq, not_true_eq_false, false_and, st_hosts, st_vnis, st_bindings, st_routes, st_policy, decide_eq_false h1, decide_eq_false h2, decide_eq_false h3, decide_eq_false h4, decide_eq_false h5, Bool.false_and]
  rfl
end C
open Go.RowKit
open F
open T (Pth)
set_option linter.unusedVariables false
theorem lastQ (x : List UInt8) (z : Int) (w : World) (hs : x.length ≤ 100) (hz : C.lastI 32 x = z) : Calls Tryz.prog 127 #[.string (sB x), .string ⟨#[32]⟩] w (fun e w' => e = .returned (.int .i64 z) ∧ w = w') := lastIndex_any (sB x) 32 z w (by rw [sB_size]; omega) (by rw [sB_data]; exact hz)
theorem meetsQ (A : Option Addr) (c n : Nat) (p : Pth) (q : ByteArray) (s : List UInt8) (r : Bool) (w : World) (hq : q = sB s) (hn : p.length = n) (hA : Seen eS w A p) (hsw : ShortW p) (hl : n ≤ 1073741824) (hs : s.length ≤ 100) (hr : C.meetsB p s = r) :
  Calls Tryz.prog 120 #[.slice A n c, .string q] w (BoolS w r) := by subst hq; exact meetsC A c n p s r w hn hA hsw hl hs hr
theorem cut_head13 (s : List UInt8) (z : Nat) : (sB s).extract 0 z = sB (s.take z) := by
 rw [(cut_extract (sB s) z).1, sB_data]
theorem cut_tail13 (s : List UInt8) (z : Nat) : (sB s).extract (z + 1) (sB s).size = sB (s.drop (z + 1)) := by
 rw [(cut_extract (sB s) z).2, sB_data]
set_option maxRecDepth 100000 in
set_option maxHeartbeats 8000000 in
theorem needsC (A : Option Addr) (c n : Nat) (p : Pth) (w : World) (hn : p.length = n) (hA : Seen eS w A p) (hsw : ShortW p) (hl : n ≤ 1073741824) (HT : RowsOk w) :
  Calls Tryz.prog 90 #[.slice A n c] w (fun e w' => ∃ v, e = .returned v ∧ Own eS w' w.heap.size v (needsL p) ∧ Below w.heap.size w w') := by
 have HN := Lib.hid hn
 have HA := Lib.hid hA
 have HSW := Lib.hid hsw
 obtain ⟨tt, fr, hg1⟩ := rows_heap HT
 obtain ⟨cs, hcs⟩ : ∃ cs, rowsC = cs := ⟨_, rfl⟩
 have hin := rows_info
 rw [hcs] at hg1 hin
 have HCS := Lib.hid hcs
 clear hn hA hsw hcs HT
 go_enter Tryz.func90, Tryz.ntmps90
 go_wp2_with (refine wpList_load_row rfl 161 _ rfl 1 rfl tt _ fr _ hg1 Tryz.underlying161 rfl hin ?_)
 go_loopg [3, 8] 17 (fun gk vo vi wr => ∃ k : Nat, Hid (k + gk = 17) ∧ k ≤ 17 ∧ vi = .int .i64 (k : Int) ∧ Hid (Own eS wr w.heap.size vo (C.needTo p k)) ∧ Below w.heap.size w wr)
 case atStart => exact ⟨0, Nat.zero_add _, Nat.zero_le _, rfl, Own.nil _ _, Below.refl _ _⟩
 case round =>
  obtain ⟨k, HG, hk, rfl, HO, hb⟩ := hrel
  have hgk := HG.out
  by_cases hlt : k < 17
  ·have blt : decide ((k : Int) < 17) = true := decide_eq_true (by omega)
   have blt2 : decide (k < 17) = true := decide_eq_true hlt
   obtain ⟨⟨s1, s2, d1, d2⟩, hrk⟩ : ∃ r, rowsL[k]? = some r := ⟨_, List.getElem?_eq_getElem (by rw [C.rows_len]; exact hlt)⟩
   have HRK := Lib.hid hrk
   have HSH := Lib.hid (C.rows_short _ (List.mem_of_getElem? hrk))
   obtain ⟨z, hz⟩ : ∃ z, C.lastI 32 s1 = z := ⟨_, rfl⟩
   have HZ := Lib.hid hz
   have HNX := Lib.hid (C.need_next p hrk)
   have hbr := bthen hb (up wr (.cells #[.string (sB s1), .string (sB s2), .bool d1, .bool d2] 126))
   have HO1 := Lib.hid (HO.out.keep (up wr (.cells #[.string (sB s1), .string (sB s2), .bool d1, .bool d2] 126)))
   have HCR := Lib.hid (show d2 = true → 0 ≤ z ∧ z + 1 ≤ (s1.length : Int) by intro h; rw [← hz]; exact C.cut_rows _ (List.mem_of_getElem? hrk) h)
   clear hrk hz
   cases d2 with
   | false =>
    have HE := Lib.hid (show C.needTo p (k + 1) = C.needTo p k by rw [HNX.out]; show _ ++ (if (false && _) = true then _ else []) = _; rw [Bool.false_and, if_neg (by decide), List.append_nil])
    go_wp2_with (refine wpList_index_row rfl _ _ rfl cs HCS.out k HRK.out rfl rfl ?_)
    refine (lastQ s1 z _ HSH.out.1 HZ.out).mono ?_
    rintro e w2 ⟨rfl, rfl⟩
    go_wp2
    go_roundg (17 - (k + 1))
    case rel => exact ⟨k + 1, (by show _ = _; omega), by omega, by go_num, (by rw [HE.out]; exact HO1.out), hbr⟩
    case measure => omega
   | true =>
    obtain ⟨h0, h1⟩ := HCR.out rfl
    obtain ⟨y, rfl⟩ := Int.eq_ofNat_of_zero_le h0
    have hys : y + 1 ≤ s1.length := by omega
    have hsz : (sB s1).size = s1.length := sB_size s1
    obtain ⟨ln, hln⟩ : ∃ ln, s1.length = ln := ⟨_, rfl⟩
    have hl100 : ln ≤ 100 := by rw [← hln]; exact HSH.out.1
    rw [hln] at hys hsz
    have i1 : (0 : Int) ≤ (y : Int) := by omega
    have i2 : (y : Int) ≤ (ln : Int) := by omega
    have i3 : (y : Int) + 1 ≤ (ln : Int) := by omega
    have i4 : (0 : Int) ≤ (y : Int) + 1 := by omega
    have i5 : IntKind.i64.wrap ((y : Int) + 1) = (y : Int) + 1 := by rw [IntKind.wrap_i64]; omega
    obtain ⟨mb, hmb⟩ : ∃ mb, C.meetsB p (s1.take y) = mb := ⟨_, rfl⟩
    have HMB := Lib.hid hmb
    have HCT := Lib.hid (show C.cutR (s1, s2, d1, true) = y by unfold C.cutR; rw [HZ.out]; rfl)
    have HE := Lib.hid (show C.needTo p (k + 1) = C.needTo p k ++ if mb = true then [s1.drop (y + 1)] else [] by
     rw [HNX.out]
     show _ ++ (if (true && C.meetsB p (s1.take (C.cutR (s1, s2, d1, true)))) = true then [s1.drop (C.cutR (s1, s2, d1, true) + 1)] else []) = _
     rw [HCT.out, hmb, Bool.true_and])
    have HTL := Lib.hid (show (s1.take y).length ≤ 100 by rw [List.length_take]; omega)
    clear hmb h0 h1 hln
    go_wp2_with (refine wpList_index_row rfl _ _ rfl cs HCS.out k HRK.out rfl rfl ?_)
    refine (lastQ s1 (y : Int) _ HSH.out.1 HZ.out).mono ?_
    rintro e w2 ⟨rfl, rfl⟩
    go_wp2_with fail
    refine (meetsQ A c n p _ (s1.take y) mb _ (cut_head13 s1 y) HN.out (HA.out.below hbr) HSW.out hl HTL.out HMB.out).mono ?_
    rintro e w2 ⟨rfl, hx⟩
    have HO2 := Lib.hid (HO1.out.keep hx)
    have HRB := Lib.hid ((RowB.new wr s1 s2 d1 true).keep hx (RowB.new wr s1 s2 d1 true).lt)
    have hb2 := bthen hbr hx
    clear hx hbr
    cases mb with
    | false =>
     have HE2 := Lib.hid (show C.needTo p (k + 1) = C.needTo p k by rw [HE.out, if_neg (by decide), List.append_nil])
     go_wp2
     go_roundg (17 - (k + 1))
     case rel => exact ⟨k + 1, (by show _ = _; omega), by omega, by go_num, (by rw [HE2.out]; exact HO2.out), hb2⟩
     case measure => omega
    | true =>
     have HE2 := Lib.hid (show C.needTo p (k + 1) = C.needTo p k ++ [s1.drop (y + 1)] by rw [HE.out, if_pos rfl])
     have HLN := Lib.hid (show (C.needTo p k).length + 1 ≤ 1099511627776 by have := C.need_few p k; omega)
     obtain ⟨c0, c1, c2, c3⟩ := HRB.out.cells
     have HCUT := Lib.hid (cut_tail13 s1 y)
     have HCUT2 := Lib.hid (show (sB s1).extract (y + 1) ln = sB (s1.drop (y + 1)) by rw [← hsz]; exact HCUT.out)
     have hsz2 := hb2.size
     go_wp2_with (at_builtin; refine wpList_appG eS w2 rfl (.tmp 24) (.tmp 30) rfl w.heap.size u3 (C.needTo p k) rfl HO2.out (s1.drop (y + 1)) 1 _ (by first | (rw [HCUT2.out]; rfl) | (rw [HCUT.out]; rfl)) w2.heap.size rfl rfl HLN.out hsz2 ?_; intro v3 w3 hown3 hb3)
     go_roundg (17 - (k + 1))
     case rel => exact ⟨k + 1, (by show _ = _; omega), by omega, by go_num, (by rw [HE2.out]; exact hown3), hb2.trans hb3⟩
     case measure => omega
  ·have blt : decide ((k : Int) < 17) = false := decide_eq_false (by omega)
   have blt2 : decide (k < 17) = false := decide_eq_false hlt
   obtain rfl : k = 17 := by omega
   have HE := Lib.hid (C.need_all p)
   go_wp2
   go_ret
   exact ⟨_, rfl, (by rw [← HE.out]; exact HO.out), hb⟩
end Go.Proofs.YtfcikfohmehmkaaGreatDoor
namespace Go.Proofs.YtfcikfohmehmkaaGreatDoor.C
set_option linter.unusedVariables false
open T (Pth pless RightN RightT pathL kidsL underL wd Ln isIn)
theorem live_at {p : Pth} (h : liveP p = true) {k : Nat} (h0 : 0 < k) (hk : k < p.length) : knownP (p.take k) = 0 := by
 unfold liveP at h
 have := List.all_eq_true.1 h k (List.mem_range.2 hk)
 rcases Bool.or_eq_true_iff.1 this with e | e
 ·have := of_decide_eq_true e; omega
 ·exact of_decide_eq_true e
theorem known_two {a b : Wd} (h : knownP [a, b] = 0) : typeB (secondW a) b = true := by
 have e : knownP [a, b] = if typeB (secondW a) b = true then 0 else 2 := rfl
 rw [e] at h
 by_cases hb : typeB (secondW a) b = true
 ·exact hb
 ·rw [if_neg hb] at h; cases h
theorem second_ne {a b : Wd} (h : typeB (secondW a) b = true) : secondW a ≠ [] := fun e => by rw [e, type_none] at h; cases h
theorem known_three {a b c : Wd} (h : knownP [a, b, c] = 0) : (thirdK (key a c)).1 ≠ [] := by
 have e : knownP [a, b, c] = if (thirdK (key a c)).1 = [] then 3 else 0 := rfl
 rw [e] at h
 intro hh
 rw [if_pos hh] at h; cases h
theorem known_four {a b c d : Wd} (h : knownP [a, b, c, d] = 0) : typeB (thirdK (key a c)).1 d = true := by
 have e : knownP [a, b, c, d] = if typeB (thirdK (key a c)).1 d = true then 0 else 2 := rfl
 rw [e] at h
 by_cases hb : typeB (thirdK (key a c)).1 d = true
 ·exact hb
 ·rw [if_neg hb] at h; cases h
theorem row_yes {a b c : Wd} (h1 : typeB (secondW a) b = true) (h2 : (thirdK (key a c)).1 ≠ []) : firstR [a, b, c] = some (said3 a c, thirdK (key a c)) := by
 rw [first_three]; unfold row3; rw [if_pos h1, if_neg h2]
def unsaidV (x : Wd) : Option Rw → Option Rw → Int
 | some _, _ => 0
 | none, none => 3
 | none, some r => if typeB r.2.1 x = true then 0 else 2
def secondV (x : Wd) : Option Rw → Wd
 | some r => if typeB r.2.1 x = true then r.1 else []
 | none => []
theorem unsaid_is {p : Pth} {o1 o2 : Option Rw} {x : Wd} (h1 : firstR p = o1) (h2 : firstR p.dropLast = o2) (hx : p.getLastD [] = x) : unsaidB p = unsaidV x o1 o2 := by
 unfold unsaidB
 rw [h1, h2, hx]
 cases o1 <;> cases o2 <;> rfl
theorem second_is {p : Pth} {o : Option Rw} {x : Wd} (h : firstR p.dropLast = o) (hx : p.getLastD [] = x) : secondB p = secondV x o := by
 unfold secondB
 rw [h, hx]
 cases o <;> rfl
theorem unsaid_known {p : Pth} (hp : p ≠ []) (h : liveP p = true) : unsaidB p = knownP p := by
 match p, hp with
 | [a], _ =>
  rw [unsaid_is (first_one a) (show firstR ([a] : Pth).dropLast = none from first_nil) rfl]
  by_cases hs : secondW a = []
  ·rw [if_pos hs, show knownP [a] = if secondW a = [] then 3 else 0 from rfl, if_pos hs]; rfl
  ·rw [if_neg hs, show knownP [a] = if secondW a = [] then 3 else 0 from rfl, if_neg hs]; rfl
 | [a, b], _ =>
  have h1 : knownP [a] = 0 := live_at (k := 1) h (by omega) (by simp)
  have hs : secondW a ≠ [] := by
   intro e
   rw [show knownP [a] = if secondW a = [] then 3 else 0 from rfl, if_pos e] at h1; cases h1
  rw [unsaid_is (first_two a b) (show firstR ([a, b] : Pth).dropLast = _ from first_one a) (x := b) rfl, if_neg hs]
  rfl
 | [a, b, c], _ =>
  have h2 : knownP [a, b] = 0 := live_at (k := 2) h (by omega) (by simp)
  have hb := known_two h2
  rw [unsaid_is (first_three a b c) (show firstR ([a, b, c] : Pth).dropLast = none from first_two a b) rfl]
  unfold row3
  rw [if_pos hb]
  by_cases hs : (thirdK (key a c)).1 = []
  ·rw [if_pos hs, show knownP [a, b, c] = if (thirdK (key a c)).1 = [] then 3 else 0 from rfl, if_pos hs]; rfl
  ·rw [if_neg hs, show knownP [a, b, c] = if (thirdK (key a c)).1 = [] then 3 else 0 from rfl, if_neg hs]; rfl
 | [a, b, c, d], _ =>
  have h2 : knownP [a, b] = 0 := live_at (k := 2) h (by omega) (by simp)
  have h3 : knownP [a, b, c] = 0 := live_at (k := 3) h (by omega) (by simp)
  rw [unsaid_is (first_many a b c d []) (show firstR ([a, b, c, d] : Pth).dropLast = _ from row_yes (known_two h2) (known_three h3)) (x := d) rfl]
  rfl
 | a :: b :: c :: d :: e :: r, _ =>
  rw [unsaid_is (first_many a b c d (e :: r)) (show firstR (a :: b :: c :: d :: e :: r : Pth).dropLast = none from first_many a b c d ((e :: r).dropLast)) rfl]
  rfl
theorem blank_inj {a b x y : Wd} (ha : (32 : UInt8) ∉ a) (hb : (32 : UInt8) ∉ b) (h : a ++ 32 :: x = b ++ 32 :: y) : a = b ∧ x = y := by
 have h1 := N.split_at ha x
 rw [h, N.split_at hb y] at h1
 injection h1 with h1 _
 subst h1
 have := List.append_cancel_left h
 injection this with _ h2
 exact ⟨rfl, h2⟩
theorem second_blank {a : Wd} (h : secondW a ≠ []) : (32 : UInt8) ∉ a := by
 by_cases h1 : a = wHosts
 ·subst h1; decide
 by_cases h2 : a = wVnis
 ·subst h2; decide
 by_cases h3 : a = wBindings
 ·subst h3; decide
 by_cases h4 : a = wRoutes
 ·subst h4; decide
 by_cases h5 : a = wPolicy
 ·subst h5; decide
 ·exact absurd (by unfold secondW; rw [if_neg h1, if_neg h2, if_neg h3, if_neg h4, if_neg h5]) h
theorem said_iff {a c A C : Wd} (ha : (32 : UInt8) ∉ a) (hA : (32 : UInt8) ∉ A) : said3 a c = said3 A C ↔ a = A ∧ c = C := by
 constructor
 ·intro h
  unfold said3 at h
  obtain ⟨rfl, h2⟩ := blank_inj ha hA h
  have := List.append_cancel_left h2
  injection this with _ h3
  exact ⟨rfl, h3⟩
 ·rintro ⟨rfl, rfl⟩; rfl
theorem key_iff {a c A C : Wd} (ha : (32 : UInt8) ∉ a) (hA : (32 : UInt8) ∉ A) : key a c = key A C ↔ a = A ∧ c = C := by
 constructor
 ·intro h; exact blank_inj ha hA h
 ·rintro ⟨rfl, rfl⟩; rfl
def clashB (P : List Pth) (p : Pth) : Bool :=
 if secondB p = said3 wHosts wIp then twiceP P p (p.getLastD [])
 else if secondB p = said3 wBindings wHost ∨ secondB p = said3 wRoutes wVia then !decide ([wHosts, p.getLastD []] ∈ P)
 else if secondB p = said3 wHosts wVnis then !decide ([wVnis, p.getLastD []] ∈ P)
 else if secondB p = said3 wBindings wVni then (!decide ([wVnis, p.getLastD []] ∈ P)) || outP P (p.getD 1 []) (p.getLastD []) else false
theorem clash_off {P : List Pth} {p : Pth} (h : secondW (secondB p) ≠ [] ∨ secondB p = []) : clashB P p = false := by
 have q : ∀ z : Wd, secondW z = [] → z ≠ [] → secondB p ≠ z := by
  intro z hz hn e
  rcases h with h | h
  ·exact h (by rw [e]; exact hz)
  ·exact hn (e.symm.trans h)
 unfold clashB
 rw [if_neg (q _ (by decide +kernel) (by decide +kernel)), if_neg (by rintro (e | e); exact q _ (by decide +kernel) (by decide +kernel) e; exact q _ (by decide +kernel) (by decide +kernel) e), if_neg (q _ (by decide +kernel) (by decide +kernel)), if_neg (q _ (by decide +kernel) (by decide +kernel))]
theorem second_one (a : Wd) : secondB [a] = [] := second_is (show firstR ([a] : Pth).dropLast = none from first_nil) rfl
theorem second_two (a b : Wd) : secondB [a, b] = if typeB (secondW a) b = true then a else [] := by
 rw [second_is (show firstR ([a, b] : Pth).dropLast = _ from first_one a) (x := b) rfl]
 by_cases hs : secondW a = []
 ·rw [if_pos hs, hs, type_none, if_neg (by decide)]; rfl
 ·rw [if_neg hs]; rfl
theorem second_three (a b c : Wd) : secondB [a, b, c] = [] := second_is (show firstR ([a, b, c] : Pth).dropLast = none from first_two a b) rfl
theorem second_four (a b c d : Wd) : secondB [a, b, c, d] = if typeB (secondW a) b = true then (if (thirdK (key a c)).1 = [] then [] else if typeB (thirdK (key a c)).1 d = true then said3 a c else []) else [] := by
 rw [second_is (show firstR ([a, b, c, d] : Pth).dropLast = _ from first_three a b c) (x := d) rfl]
 unfold row3
 by_cases hb : typeB (secondW a) b = true
 ·rw [if_pos hb, if_pos hb]
  by_cases hs : (thirdK (key a c)).1 = []
  ·rw [if_pos hs, if_pos hs]; rfl
  ·rw [if_neg hs, if_neg hs]; rfl
 ·rw [if_neg hb, if_neg hb]; rfl
theorem second_five (a b c d e : Wd) (r : Pth) : secondB (a :: b :: c :: d :: e :: r) = [] := second_is (show firstR (a :: b :: c :: d :: e :: r : Pth).dropLast = none from first_many a b c d ((e :: r).dropLast)) rfl
theorem clash_four (P : List Pth) {a b c d : Wd} (h1 : typeB (secondW a) b = true) (h2 : (thirdK (key a c)).1 ≠ []) (h3 : typeB (thirdK (key a c)).1 d = true) : clashB P [a, b, c, d] = meantP P [a, b, c, d] := by
 have ha := second_blank (second_ne h1)
 have e : secondB [a, b, c, d] = said3 a c := by rw [second_four, if_pos h1, if_neg h2, if_pos h3]
 unfold clashB
 rw [e]
 simp only [said_iff ha (show (32 : UInt8) ∉ wHosts by decide), said_iff ha (show (32 : UInt8) ∉ wBindings by decide), said_iff ha (show (32 : UInt8) ∉ wRoutes by decide)]
 show _ = if key a c = key wHosts wIp then twiceP P [a, b, c, d] d else if key a c = key wBindings wHost ∨ key a c = key wRoutes wVia then !decide ([wHosts, d] ∈ P) else if key a c = key wHosts wVnis then !decide ([wVnis, d] ∈ P) else if key a c = key wBindings wVni then (!decide ([wVnis, d] ∈ P)) || outP P b d else false
 simp only [key_iff ha (show (32 : UInt8) ∉ wHosts by decide), key_iff ha (show (32 : UInt8) ∉ wBindings by decide), key_iff ha (show (32 : UInt8) ∉ wRoutes by decide)]
 rfl
theorem held_none {p : Pth} (h : firstR p = none) (k : Nat) : heldB p k = 0 := by unfold heldB; rw [h]
theorem faults_code (P : List Pth) {p : Pth} (hp : p ≠ []) (hl : liveP p = true) (hk : knownP p = 0) :
  faultsP P p = (if heldB p (kidsP P p).length ≠ 0 then [(p, heldB p (kidsP P p).length)] else []) ++ (((needsL p).filter fun w => !decide (p ++ [w] ∈ P)).map fun w => (p ++ [w], 1)) ++ (if clashB P p = true then [(p, 7)] else []) := by
 have hf : ∀ q, faultsP P q = if knownP q ≠ 0 then [(q, knownP q)] else match q with
  | [a, b] => ((needsW a).filter fun w => !hasP P [a, b] w).map fun w => ([a, b] ++ [w], 1)
  | [a, b, c] => if (thirdK (key a c)).2.1 = true then (if (kidsP P [a, b, c]).length = 0 then [([a, b, c], 1)] else if 1 < (kidsP P [a, b, c]).length then [([a, b, c], 4)] else []) else []
  | [a, b, c, d] => if meantP P [a, b, c, d] = true then [([a, b, c, d], 7)] else []
  | _ => [] := fun q => rfl
 match p, hp with
 | [a], _ =>
  rw [hf, if_neg (fun h => h hk), clash_off (.inr (second_one a))]
  have e : heldB [a] (kidsP P [a]).length = 0 := by
   unfold heldB
   rw [first_one]
   by_cases hs : secondW a = []
   ·rw [if_pos hs]
   ·rw [if_neg hs]; rfl
  rw [e]; rfl
 | [a, b], _ =>
  have hb := known_two hk
  have hs := second_ne hb
  have e2 : secondB [a, b] = a := by rw [second_two, if_pos hb]
  rw [hf, if_neg (fun h => h hk), clash_off (.inl (by rw [e2]; exact hs)), held_none (first_two a b)]
  show _ = [] ++ _ ++ []
  rw [List.nil_append, List.append_nil]
  have e3 : needsL [a, b] = needsW a := by show (if secondW a ≠ [] ∧ knownP [a, b] = 0 then needsW a else []) = _; rw [if_pos ⟨hs, hk⟩]
  rw [e3]
  have ef : (fun w => !hasP P [a, b] w) = (fun w => !decide ([a, b] ++ [w] ∈ P)) := by
   funext w
   congr 1
   unfold hasP kidsP
   rw [Bool.eq_iff_iff, decide_eq_true_eq, decide_eq_true_eq, List.mem_filter]
   constructor
   ·exact fun h => h.1
   ·intro h
    refine ⟨h, ?_⟩
    unfold isKid
    exact decide_eq_true ⟨by simp, by simp⟩
  show List.map (fun w => ([a, b] ++ [w], (1 : Int))) (List.filter (fun w => !hasP P [a, b] w) (needsW a)) = _
  rw [ef]
 | [a, b, c], _ =>
  have h2 : knownP [a, b] = 0 := live_at (k := 2) hl (by omega) (by simp)
  have hb := known_two h2
  have hc := known_three hk
  rw [hf, if_neg (fun h => h hk), clash_off (.inr (second_three a b c))]
  show _ = _ ++ [] ++ []
  rw [List.append_nil, List.append_nil]
  have e : ∀ k, heldB [a, b, c] k = if (thirdK (key a c)).2.1 = true then (if k = 0 then 1 else if k = 1 then 0 else 4) else 0 := by
   intro k; unfold heldB; rw [row_yes hb hc]
  rw [e]
  show (if (thirdK (key a c)).2.1 = true then (if (kidsP P [a, b, c]).length = 0 then [([a, b, c], (1 : Int))] else if 1 < (kidsP P [a, b, c]).length then [([a, b, c], 4)] else []) else []) = _
  generalize (kidsP P [a, b, c]).length = k
  by_cases h1 : (thirdK (key a c)).2.1 = true
  ·rw [if_pos h1, if_pos h1]
   by_cases g0 : k = 0
   ·rw [if_pos g0, if_pos g0]; rfl
   ·rw [if_neg g0, if_neg g0]
    by_cases g1 : k = 1
    ·rw [if_pos g1, if_neg (by omega)]; rfl
    ·rw [if_neg g1, if_pos (by omega)]; rfl
  ·rw [if_neg h1, if_neg h1]; rfl
 | [a, b, c, d], _ =>
  have h2 : knownP [a, b] = 0 := live_at (k := 2) hl (by omega) (by simp)
  have h3 : knownP [a, b, c] = 0 := live_at (k := 3) hl (by omega) (by simp)
  rw [hf, if_neg (fun h => h hk), clash_four P (known_two h2) (known_three h3) (known_four hk), held_none (first_many a b c d [])]
  rfl
 | a :: b :: c :: d :: e :: r, _ => exact absurd (show (3 : Int) = 0 from hk) (by decide)
theorem second_host (q : Pth) : secondB q = said3 wHosts wIp ↔ ∃ b e, q = [wHosts, b, wIp, e] ∧ nameB b = true ∧ typeB kIp e = true := by
 have hne : said3 wHosts wIp ≠ [] := by decide +kernel
 have hs0 : secondW (said3 wHosts wIp) = [] := by decide +kernel
 constructor
 ·intro h
  match q with
  | [] => exact absurd (show secondB [] = [] from by unfold secondB; rw [show ([] : Pth).dropLast = [] from rfl, first_nil]) (fun e => hne (h.symm.trans e))
  | [a] => rw [second_one] at h; exact absurd h.symm hne
  | [a, b] =>
   rw [second_two] at h
   by_cases hb : typeB (secondW a) b = true
   ·rw [if_pos hb] at h; subst h; exact absurd hs0 (second_ne hb)
   ·rw [if_neg hb] at h; exact absurd h.symm hne
  | [a, b, c] => rw [second_three] at h; exact absurd h.symm hne
  | [a, b, c, d] =>
   rw [second_four] at h
   by_cases hb : typeB (secondW a) b = true
   ·rw [if_pos hb] at h
    by_cases hs : (thirdK (key a c)).1 = []
    ·rw [if_pos hs] at h; exact absurd h.symm hne
    ·rw [if_neg hs] at h
     by_cases hd : typeB (thirdK (key a c)).1 d = true
     ·rw [if_pos hd] at h
      obtain ⟨rfl, rfl⟩ := (said_iff (second_blank (second_ne hb)) (show (32 : UInt8) ∉ wHosts by decide)).1 h
      exact ⟨b, d, rfl, hb, hd⟩
     ·rw [if_neg hd] at h; exact absurd h.symm hne
   ·rw [if_neg hb] at h; exact absurd h.symm hne
  | a :: b :: c :: d :: e :: r => rw [second_five] at h; exact absurd h.symm hne
 ·rintro ⟨b, e, rfl, hb, he⟩
  rw [second_four, if_pos (show typeB (secondW wHosts) b = true from hb), if_neg (by decide +kernel), if_pos (show typeB (thirdK (key wHosts wIp)).1 e = true from he)]
theorem taken_at {t : List Ln} {j : Nat} {d : Wd} (hd : typeB kIp d = true) : sameAd d (pathL t j) = (decide (wd t j = d) && decide (secondB (pathL t j) = said3 wHosts wIp)) := by
 have hlast : (pathL t j).getLastD [] = wd t j := by rw [T.path_under]; simp
 rw [Bool.eq_iff_iff, Bool.and_eq_true_iff, decide_eq_true_eq, decide_eq_true_eq, second_host]
 constructor
 ·intro h
  match hq : pathL t j with
  | [a, b, c, e] =>
   rw [hq] at h hlast
   have h : (decide (a = wHosts) && nameB b && decide (c = wIp) && decide (e = d)) = true := h
   simp only [Bool.and_eq_true_iff, decide_eq_true_eq] at h
   obtain ⟨⟨⟨rfl, h2⟩, rfl⟩, rfl⟩ := h
   exact ⟨hlast.symm, b, e, rfl, h2, hd⟩
  | [] => rw [hq] at h; cases h
  | [_] => rw [hq] at h; cases h
  | [_, _] => rw [hq] at h; cases h
  | [_, _, _] => rw [hq] at h; cases h
  | _ :: _ :: _ :: _ :: _ :: _ => rw [hq] at h; cases h
 ·rintro ⟨h1, b, e, hq, h2, h3⟩
  rw [hq] at hlast ⊢
  have he : e = d := by rw [← h1]; exact hlast
  subst he
  show (decide (wHosts = wHosts) && nameB b && decide (wIp = wIp) && decide (e = e)) = true
  rw [h2]; simp
end Go.Proofs.YtfcikfohmehmkaaGreatDoor.C
namespace Go.Proofs.YtfcikfohmehmkaaGreatDoor
open Go.RowKit
open F
open T (Pth)
set_option linter.unusedVariables false
theorem findC13 (A B : Option Addr) (c d n m : Nat) (t : List T.Ln) (p : Pth) (w : World) (hn : t.length = n) (hm : p.length = m) (hA : Seen eL w A t) (hB : Seen eS w B p) (hl : n ≤ 1073741824) (hl2 : m ≤ 1073741824) (hR : T.RightT t) :
  Calls Tryz.prog 75 #[.slice A n c, .slice B m d] w (FindS w t p) := by subst hn; subst hm; exact find_any A B c d t p w hA hB hl hl2 hR
theorem pathC13 (A : Option Addr) (c n m i : Nat) (t : List T.Ln) (p : Pth) (w : World) (hn : t.length = n) (hm : p.length = m) (hA : Seen eL w A t) (hl : n ≤ 1073741824) (hi : i < n) (hR : T.RightT t) (h : T.pathL t i = p) :
  Calls Tryz.prog 53 #[.slice A n c, .int .i64 (i : Int)] w (fun e w' => ∃ B d, e = .returned (.tuple #[.slice B m d, .int .i64 0]) ∧ PtK w' w.heap.size ⟨B, m, d⟩ p ∧ Below w.heap.size w w') := by
 subst hn; subst hm
 refine (Path_new A c t i w hA hl hi hR).mono ?_
 rintro e w' ⟨B, d, rfl, hd, hs, hf, hb⟩
 rw [h] at hd hs ⊢
 exact ⟨B, d, rfl, ⟨⟨rfl, hd, hs⟩, hf⟩, hb⟩
set_option maxRecDepth 100000 in
theorem thereC (A B : Option Addr) (c d n m : Nat) (t : List T.Ln) (p : Pth) (r : Bool) (w : World) (hn : t.length = n) (hm : p.length = m) (hA : Seen eL w A t) (hB : Seen eS w B p) (hl : n ≤ 1073741824) (hl2 : m ≤ 1073741824) (hR : T.RightT t) (hr : decide (p ∈ C.pths t) = r) :
  Calls Tryz.prog 91 #[.slice A n c, .slice B m d] w (BoolS w r) := by
 have HA := Lib.hid hA
 have HB := Lib.hid hB
 have HN := Lib.hid hn
 have HM := Lib.hid hm
 have HR := Lib.hid hR
 have HV := Lib.hid hr
 clear hA hB hn hm hR hr
 go_enter Tryz.func91, Tryz.ntmps91
 go_wp2_with fail
 refine (findC13 A B c d n m t p _ HN.out HM.out HA.out HB.out hl hl2 HR.out).mono ?_
 rintro e w1 ⟨⟨i0, hi0, hp0, rfl⟩ | ⟨hno, rfl⟩, hb1⟩
 ·have HE := Lib.hid (show r = true by rw [← HV.out]; exact decide_eq_true (C.mem_pths.2 ⟨i0, hi0, hp0⟩))
  clear hp0 hi0
  go_wp2
  go_ret
  exact ⟨by rw [HE.out]; rfl, hb1⟩
 ·have HE := Lib.hid (show r = false by rw [← HV.out]; exact decide_eq_false (fun h => by obtain ⟨i, h1, h2⟩ := C.mem_pths.1 h; exact hno i h1 h2))
  clear hno
  go_wp2
  go_ret
  exact ⟨by rw [HE.out]; rfl, hb1⟩
set_option maxRecDepth 100000 in
set_option maxHeartbeats 4000000 in
theorem takenC (A : Option Addr) (c n i : Nat) (t : List T.Ln) (x : List UInt8) (r : Bool) (w : World) (hn : t.length = n) (hA : Seen eL w A t) (hl : n ≤ 200) (hR : T.RightT t) (hi : i < n) (hx : T.wd t i = x) (hx2 : C.typeB C.kIp x = true) (HT : RowsOk w) (hr : ((List.range i).any fun j => C.sameAd x (T.pathL t j)) = r) :
  Calls Tryz.prog 129 #[.slice A n c, .int .i64 (i : Int)] w (BoolS w r) := by
 have HA := Lib.hid hA
 have HN := Lib.hid hn
 have HRT := Lib.hid hR
 have HR := Lib.hid hr
 have HX := Lib.hid hx2
 have HW := Lib.hid hx
 have HT := Lib.hid HT
 obtain ⟨b, o, rfl, hbw, hL⟩ := hA.lines (by rw [hn]; omega)
 have HL := Lib.hid hL
 have hii : (i : Int) < (n : Int) := by omega
 clear hA hn hR hr hx hx2 hL
 go_enter Tryz.func129, Tryz.ntmps129
 go_wp2
 go_loopg [9] i (fun g vi wr => ∃ k : Nat, Hid (k + g = i) ∧ k ≤ i ∧ vi = .int .i64 (k : Int) ∧ Hid (((List.range k).any fun j => C.sameAd x (T.pathL t j)) = false) ∧ Below w.heap.size w wr)
 case atStart => exact ⟨0, Nat.zero_add _, Nat.zero_le _, rfl, rfl, Below.refl _ _⟩
 case round =>
  obtain ⟨k, HG, hk, rfl, HF, hb⟩ := hrel
  have hgk := HG.out
  by_cases hlt : k < i
  ·have blt : decide ((k : Int) < (i : Int)) = true := decide_eq_true (by omega)
   have blt2 : decide (k < i) = true := decide_eq_true hlt
   have hkn : (k : Int) < (n : Int) := by omega
   have hkt : k < t.length := by rw [HN.out]; omega
   have hit : i < t.length := by rw [HN.out]; exact hi
   obtain ⟨_, ck, _⟩ := (HL.out.below hb hbw).line hkt
   obtain ⟨_, ci, _⟩ := (HL.out.below hb hbw).line hit
   rw [HW.out] at ci
   obtain ⟨y, hy⟩ : ∃ y, T.wd t k = y := ⟨_, rfl⟩
   rw [hy] at ck
   have HNX := Lib.hid (show ((List.range (k + 1)).any fun j => C.sameAd x (T.pathL t j)) = (decide (y = x) && decide (C.secondB (T.pathL t k) = C.said3 C.wHosts C.wIp)) by rw [C.any_next, HF.out, Bool.false_or, C.taken_at HX.out, hy])
   have HTR := Lib.hid (show C.sameAd x (T.pathL t k) = true → r = true by
    intro h
    rw [← HR.out, List.any_eq_true]
    exact ⟨k, List.mem_range.2 hlt, h⟩)
   have HSA := Lib.hid (show C.sameAd x (T.pathL t k) = (decide (y = x) && decide (C.secondB (T.pathL t k) = C.said3 C.wHosts C.wIp)) by rw [C.taken_at HX.out, hy])
   clear hkt hit hy
   by_cases he : y = x
   ·have e1 : ((sB y).toList == (sB x).toList) = true := sB_eq he
    obtain ⟨p, hp⟩ : ∃ p, T.pathL t k = p := ⟨_, rfl⟩
    obtain ⟨m, hm⟩ : ∃ m, p.length = m := ⟨_, rfl⟩
    have hkt : k < t.length := by rw [HN.out]; omega
    have hm16 : m ≤ 16 := by
     have h1 := HRT.out.path_len k k (Nat.le_refl _) hkt
     have h2 := HRT.out.deep k hkt
     rw [hp, hm] at h1; omega
    have hm0 : 0 < m := by rw [← hm, ← hp]; exact List.length_pos_iff.2 T.path_ne
    have HP := Lib.hid hp
    have HM := Lib.hid hm
    have HSW := Lib.hid (show ShortW p by rw [← hp]; exact short_path HRT.out hkt)
    obtain ⟨s, hs⟩ : ∃ s, C.secondB p = s := ⟨_, rfl⟩
    have HS := Lib.hid hs
    have HED := Lib.hid (decide_eq_true he)
    clear hp hm he hs hkt
    go_wp2
    go_quiet (fail)
    go_wp2_with fail
    refine (pathC13 (some ⟨b, o, none⟩) c n m k t p _ HN.out HM.out (HA.out.below (below_drawn13 hb _)) (by omega) (by omega) HRT.out HP.out).mono ?_
    rintro e w2 ⟨B2, d2, rfl, hpt, hx⟩
    replace hb := bthen (below_drawn13 hb _) hx
    clear hx
    go_wp2_with fail
    refine (secondC B2 d2 m p s _ HM.out hpt.pt.cap hpt.pt.seen HSW.out hm0 (by omega) (HT.out.below hb) HS.out).mono ?_
    rintro e w3 ⟨rfl, hx⟩
    replace hb := bthen hb hx
    clear hx hpt
    by_cases hh : s = C.said3 C.wHosts C.wIp
    ·have q0 : ((sB s).toList == [104, 111, 115, 116, 115, 32, 36, 110, 97, 109, 101, 32, 105, 112]) = true := by rw [sB_toList, beq_iff_eq]; exact hh
     have HE := Lib.hid (HTR.out (by rw [HSA.out, HED.out, HP.out, HS.out, decide_eq_true hh]; rfl))
     clear hh
     go_wp2
     go_ret
     exact ⟨by rw [HE.out]; rfl, hb⟩
    ·have q0 : ((sB s).toList == [104, 111, 115, 116, 115, 32, 36, 110, 97, 109, 101, 32, 105, 112]) = false := by rw [sB_toList, beq_eq_false_iff_ne]; exact hh
     have HF2 := Lib.hid (show ((List.range (k + 1)).any fun j => C.sameAd x (T.pathL t j)) = false by rw [HNX.out, HP.out, HS.out, decide_eq_false hh, Bool.and_false])
     clear hh
     go_wp2
     go_roundg (i - (k + 1))
     case rel => exact ⟨k + 1, (by show _ = _; omega), by omega, by go_num, HF2.out, hb⟩
     case measure => omega
   ·have e1 : ((sB y).toList == (sB x).toList) = false := sB_ne he
    have HF2 := Lib.hid (show ((List.range (k + 1)).any fun j => C.sameAd x (T.pathL t j)) = false by rw [HNX.out, decide_eq_false he, Bool.false_and])
    clear he
    go_wp2
    go_quiet (fail)
    go_wp2
    go_roundg (i - (k + 1))
    case rel => exact ⟨k + 1, (by show _ = _; omega), by omega, by go_num, HF2.out, below_drawn13 hb _⟩
    case measure => omega
  ·have blt : decide ((k : Int) < (i : Int)) = false := decide_eq_false (by omega)
   have blt2 : decide (k < i) = false := decide_eq_false hlt
   obtain rfl : k = i := by omega
   have HE := Lib.hid (show r = false by rw [← HR.out]; exact HF.out)
   go_wp2
   go_ret
   exact ⟨by rw [HE.out]; rfl, hb⟩
theorem ip_i64 (l : List UInt8) : I64 (okA (N.ipL l)).1 := by
 unfold okA I64
 rcases N.ip_cases l with h | ⟨n, h, h2, _⟩
 ·rw [h]; split <;> simp
 ·rw [h, if_pos (by omega)]; constructor <;> simp <;> omega
theorem pref_i64 (l : List UInt8) : I64 (prefA l).1 ∧ I64 (prefA l).2.1 := by
 unfold prefA I64
 rcases N.pref_cases l with h | ⟨n, b, h, _, h2, h3, _⟩
 ·rw [h]; split <;> simp
 ·rw [h, if_pos (by simp)]
  refine ⟨⟨?_, ?_⟩, ⟨?_, ?_⟩⟩ <;> simp <;> omega
set_option maxRecDepth 100000 in
set_option maxHeartbeats 4000000 in
theorem outsideC (A : Option Addr) (c n : Nat) (t : List T.Ln) (x y : List UInt8) (r : Bool) (w : World) (hn : t.length = n) (hA : Seen eL w A t) (hl : n ≤ 200) (hR : T.RightT t) (hx : x.length ≤ 100) (hx0 : 0 ≤ N.ipL x) (hr : C.outP (C.pths t) x y = r) :
  Calls Tryz.prog 130 #[.slice A n c, .string (sB y), .string (sB x)] w (BoolS w r) := by
 have HA := Lib.hid hA
 have HN := Lib.hid hn
 have HRT := Lib.hid hR
 have HV := Lib.hid hr
 have HXL := Lib.hid (show (sB x).size ≤ 100 by rw [sB_size]; exact hx)
 have HX0 := Lib.hid hx0
 clear hA hn hR hr hx hx0
 go_enter Tryz.func130, Tryz.ntmps130
 go_wp2_with fail
 refine (findC13 A _ c _ n 3 t [C.wVnis, y, C.wSubnet] _ HN.out rfl (HA.out.below (up w _)) (lit_seen eS w [C.wVnis, y, C.wSubnet] _ rfl (by simp)) (by omega) (by omega) HRT.out).mono ?_
 rintro e w1 ⟨hf, hb1⟩
 replace hb1 := (up w (.cells #[.string (sB C.wVnis), .string (sB y), .string (sB C.wSubnet)] 9)).trans (hb1.mono (up w _).size)
 rcases hf with ⟨i0, hi0, hp0, rfl⟩ | ⟨hno, rfl⟩
 ·obtain ⟨K, hK⟩ : ∃ K, T.kidsL t (i0 : Int) = K := ⟨_, rfl⟩
  obtain ⟨nk, hnk⟩ : ∃ nk, K.length = nk := ⟨_, rfl⟩
  have HK := Lib.hid hK
  have HNK := Lib.hid hnk
  have HP := Lib.hid hp0
  have HI0 := Lib.hid hi0
  have hin : i0 < n := by rw [← HN.out]; exact hi0
  clear hp0 hK hi0 hnk
  go_wp2_with fail
  refine (kidsC13 A c n nk t (i0 : Int) K _ HN.out HNK.out (HA.out.below hb1) (by omega) (by omega) (by omega) HRT.out HK.out).mono ?_
  rintro e w2 ⟨A2, c2, rfl, hc2, hs2, hb2⟩
  replace hb2 := bthen hb1 hb2
  clear hb1
  cases K with
  | nil =>
   obtain rfl : 0 = nk := HNK.out
   have HE := Lib.hid (show r = false by rw [← HV.out]; exact C.out_bare HRT.out HI0.out HP.out HK.out)
   clear hc2 hs2
   go_wp2
   go_ret
   exact ⟨by rw [HE.out]; rfl, hb2⟩
  | cons q rest =>
   have hnk1 : 1 ≤ nk := by rw [← HNK.out, List.length_cons]; omega
   have d2 : ((nk : Int) == 0) = false := beq_eq_false_iff_ne.2 (by omega)
   have d2b : (nk == 0) = false := beq_eq_false_iff_ne.2 (by omega)
   have d2c : ¬ nk = 0 := by omega
   have hnki : (0 : Int) < (nk : Int) := by omega
   have hqt : q < t.length := ((T.mem_kids t (i0 : Int) q).1 (by rw [HK.out]; exact List.mem_cons_self)).1
   have hqn : q < n := by rw [← HN.out]; exact hqt
   have hqi : (q : Int) < (n : Int) := by omega
   obtain ⟨b3, o3, rfl, hw3, hL3⟩ := hs2 (by rw [List.length_cons]; omega)
   have c3 : w2.cell? ⟨b3, o3, none⟩ = some (.int .i64 ((q : Nat) : Int)) := hL3.num (i := 0) (by simp)
   obtain ⟨b4, o4, hA4, hw4, hL4⟩ := HA.out.lines (by rw [HN.out]; omega)
   subst hA4
   obtain ⟨_, c4, _⟩ := (hL4.below hb2 hw4).line hqt
   obtain ⟨u, hu⟩ : ∃ u, T.wd t q = u := ⟨_, rfl⟩
   rw [hu] at c4
   obtain ⟨z, zb, ok, hz⟩ : ∃ z zb ok, prefA (sB u).data.toList = (z, zb, ok) := ⟨_, _, _, rfl⟩
   obtain ⟨zi, oki, hzi⟩ : ∃ zi oki, okA (N.ipL (sB x).data.toList) = (zi, oki) := ⟨_, _, rfl⟩
   have HZ := Lib.hid hz
   have HZI := Lib.hid hzi
   have HBD := Lib.hid (show I64 z ∧ I64 zb ∧ I64 zi from ⟨by have := (pref_i64 (sB u).data.toList).1; rwa [hz] at this, by have := (pref_i64 (sB u).data.toList).2; rwa [hz] at this, by have := ip_i64 (sB x).data.toList; rwa [hzi] at this⟩)
   have HUL := Lib.hid (show (sB u).size ≤ 100 by rw [sB_size, ← hu]; exact Nat.le_trans (HRT.out.long q hqt) (by omega))
   have HO := Lib.hid (show r = (decide (0 ≤ (N.prefL u).1) && !N.inB (N.prefL u).1 (N.prefL u).2 (N.ipL x)) by rw [← HV.out, ← hu]; exact C.out_kid HRT.out HI0.out HP.out HK.out)
   have HZX := Lib.hid (show N.ipL x = zi by
    have h := hzi
    rw [sB_data] at h
    unfold okA at h
    rw [if_pos HX0.out] at h
    exact congrArg Prod.fst h)
   have HOK := Lib.hid (show ok = decide (0 ≤ (N.prefL u).1) ∧ (ok = true → (N.prefL u).1 = z ∧ (N.prefL u).2 = zb) by
    have h := hz
    rw [sB_data] at h
    refine ⟨by rw [← prefA_ok, h], fun hk => ?_⟩
    have h2 := prefA_ok u
    rw [h] at h2
    have h3 : 0 ≤ (N.prefL u).1 := of_decide_eq_true (h2.symm.trans hk)
    unfold prefA at h
    rw [if_pos h3] at h
    exact ⟨congrArg Prod.fst h, congrArg (fun q => q.2.1) h⟩)
   clear hL3 hL4 hz hzi hc2 hqt hu
   go_wp2_with fail
   refine (pref_any10 (sB u) z zb ok _ HUL.out HZ.out).mono ?_
   rintro e w3 ⟨rfl, hb3⟩
   replace hb3 := bthen hb2 hb3
   cases ok with
   | false =>
    have HE := Lib.hid (show r = false by rw [HO.out, ← HOK.out.1, Bool.false_and])
    go_wp2
    go_ret
    exact ⟨by rw [HE.out]; rfl, hb3⟩
   | true =>
    obtain ⟨ib, hib⟩ : ∃ ib, N.inB z zb zi = ib := ⟨_, rfl⟩
    have HIB := Lib.hid hib
    have HE := Lib.hid (show r = !ib by rw [HO.out, ← HOK.out.1, (HOK.out.2 rfl).1, (HOK.out.2 rfl).2, HZX.out, hib, Bool.true_and])
    clear hib
    go_wp2_with fail
    refine (ip_any10 (sB x) zi oki _ HXL.out HZI.out).mono ?_
    rintro e w4 ⟨rfl, hb4⟩
    replace hb4 := bthen hb3 hb4
    go_wp2_with fail
    refine (in_any10 z zb zi ib _ HBD.out.1 HBD.out.2.1 HBD.out.2.2 HIB.out).mono ?_
    rintro e w5 ⟨rfl, hb5⟩
    replace hb5 := bthen hb4 hb5
    go_wp2
    go_ret
    exact ⟨by rw [HE.out]; rfl, hb5⟩
 ·have HE := Lib.hid (show r = false by rw [← HV.out]; exact C.out_off HRT.out (fun ⟨i, h1, h2⟩ => hno i h1 h2))
  clear hno
  go_wp2
  go_ret
  exact ⟨by rw [HE.out]; rfl, hb1⟩
end Go.Proofs.YtfcikfohmehmkaaGreatDoor
namespace Go.Proofs.YtfcikfohmehmkaaGreatDoor
namespace C
open T (Pth)
theorem second_at {p : Pth} {A D : Wd} (hA : (32 : UInt8) ∉ A) (hs0 : secondW (said3 A D) = []) (hne : said3 A D ≠ []) (h : secondB p = said3 A D) : ∃ b d, p = [A, b, D, d] ∧ typeB (secondW A) b = true ∧ typeB (thirdK (key A D)).1 d = true := by
 match p with
 | [] => exact absurd (show secondB [] = [] from by unfold secondB; rw [show ([] : Pth).dropLast = [] from rfl, first_nil]) (fun e => hne (h.symm.trans e))
 | [a] => rw [second_one] at h; exact absurd h.symm hne
 | [a, b] =>
  rw [second_two] at h
  by_cases hb : typeB (secondW a) b = true
  ·rw [if_pos hb] at h; subst h; exact absurd hs0 (second_ne hb)
  ·rw [if_neg hb] at h; exact absurd h.symm hne
 | [a, b, c] => rw [second_three] at h; exact absurd h.symm hne
 | [a, b, c, d] =>
  rw [second_four] at h
  by_cases hb : typeB (secondW a) b = true
  ·rw [if_pos hb] at h
   by_cases hs : (thirdK (key a c)).1 = []
   ·rw [if_pos hs] at h; exact absurd h.symm hne
   ·rw [if_neg hs] at h
    by_cases hd : typeB (thirdK (key a c)).1 d = true
    ·rw [if_pos hd] at h
     obtain ⟨rfl, rfl⟩ := (said_iff (second_blank (second_ne hb)) hA).1 h
     exact ⟨b, d, rfl, hb, hd⟩
    ·rw [if_neg hd] at h; exact absurd h.symm hne
  ·rw [if_neg hb] at h; exact absurd h.symm hne
 | a :: b :: c :: d :: e :: r => rw [second_five] at h; exact absurd h.symm hne
end C
open Go.RowKit
open F
open T (Pth)
set_option linter.unusedVariables false
set_option linter.unusedSimpArgs false
theorem anyH_abs13 {P : Program} {md : Region.Mode} {ops : Array Oper} {Q : Exit → Act → World → Prop} {S : World → Prop} {fuel : Nat} {listed : Array Bool} {a : Act} {w : World} {G : World → Prop} (hG : G w) (h : ∀ z, G z → wpAnyH P md ops Q S fuel listed a z) : wpAnyH P md ops Q S fuel listed a w := h w hG
def KeepX (w w1 : World) (b4 o4 b o : Nat) (x y : List UInt8) : Prop := Below w.heap.size w w1 ∧ w1.cell? ⟨b4, o4, none⟩ = some (.string (sB x)) ∧ w1.cell? ⟨b, o, none⟩ = some (.string (sB y))
theorem KeepX.on {w w1 w2 : World} {b4 o4 b o : Nat} {x y : List UInt8} (h : KeepX w w1 b4 o4 b o x y) (hx : Below w1.heap.size w1 w2) (h4 : b4 < w.heap.size) (h5 : b < w.heap.size) : KeepX w w2 b4 o4 b o x y :=
 ⟨bthen h.1 hx, (hx.cell (p := ⟨b4, o4, none⟩) (Nat.lt_of_lt_of_le h4 h.1.size)).trans h.2.1, (hx.cell (p := ⟨b, o, none⟩) (Nat.lt_of_lt_of_le h5 h.1.size)).trans h.2.2⟩
theorem thereQ13 (A B : Option Addr) (c d n : Nat) (t : List T.Ln) (a x : List UInt8) (r : Bool) (w : World) (hn : t.length = n) (hA : Seen eL w A t) (hB : Seen eS w B [a, x]) (hl : n ≤ 200) (hR : T.RightT t) (hr : decide ([a, x] ∈ C.pths t) = r) :
  Calls Tryz.prog 91 #[.slice A n c, .slice B 2 d] w (BoolS w r) := thereC A B c d n 2 t [a, x] r w hn rfl hA hB (by omega) (by omega) hR hr
set_option maxRecDepth 100000 in
set_option maxHeartbeats 16000000 in
theorem clashesC (A B : Option Addr) (c d n m i : Nat) (t : List T.Ln) (p : Pth) (r : Bool) (w : World) (hn : t.length = n) (hA : Seen eL w A t) (hl : n ≤ 200) (hR : T.RightT t) (hi : i < n) (hp : T.pathL t i = p) (hm : p.length = m) (hmd : m ≤ d) (hB : Seen eS w B p) (HT : RowsOk w) (hr : C.clashB (C.pths t) p = r) :
  Calls Tryz.prog 92 #[.slice A n c, .int .i64 (i : Int), .slice B m d] w (BoolS w r) := by
 have hit : i < t.length := by rw [hn]; exact hi
 have hm16 : m ≤ 16 := by
  have h1 := hR.path_len i i (Nat.le_refl _) hit
  have h2 := hR.deep i hit
  rw [hp, hm] at h1; omega
 have hm0 : 0 < m := by rw [← hm, ← hp]; exact List.length_pos_iff.2 T.path_ne
 have hsw : ShortW p := by rw [← hp]; exact short_path hR hit
 obtain ⟨x, hx⟩ : ∃ x, T.wd t i = x := ⟨_, rfl⟩
 have hlast : p.getLastD [] = x := by rw [← hp, ← hx, T.path_under]; simp
 have hii : (i : Int) < (n : Int) := by omega
 obtain ⟨b4, o4, rfl, hw4, hL4⟩ := hA.lines (by omega)
 obtain ⟨b, o, rfl, hbw, hLp⟩ := hB (by omega)
 obtain ⟨s, hs⟩ : ∃ s, C.secondB p = s := ⟨_, rfl⟩
 have HC := Lib.hid (show r = if s = C.said3 C.wHosts C.wIp then C.twiceP (C.pths t) p x
   else if s = C.said3 C.wBindings C.wHost ∨ s = C.said3 C.wRoutes C.wVia then !decide ([C.wHosts, x] ∈ C.pths t)
   else if s = C.said3 C.wHosts C.wVnis then !decide ([C.wVnis, x] ∈ C.pths t)
   else if s = C.said3 C.wBindings C.wVni then (!decide ([C.wVnis, x] ∈ C.pths t)) || C.outP (C.pths t) (p.getD 1 []) x else false by rw [← hr]; unfold C.clashB; rw [hs, hlast])
 have HTW := Lib.hid (show C.twiceP (C.pths t) p x = (List.range i).any fun j => C.sameAd x (T.pathL t j) by rw [← hp]; exact C.twice_is hR hit x)
 have HS := Lib.hid hs
 have HA := Lib.hid hA
 have HN := Lib.hid hn
 have HRT := Lib.hid hR
 have HP := Lib.hid hp
 have HM := Lib.hid hm
 have HB := Lib.hid hB
 have HSW := Lib.hid hsw
 have HX := Lib.hid hx
 have HLA := Lib.hid hlast
 have HT := Lib.hid HT
 have HL4 := Lib.hid hL4
 have HLP := Lib.hid hLp
 clear hn hA hR hp hm hB hr hsw hx hlast hs hL4 hLp
 by_cases h0 : s = C.said3 C.wHosts C.wIp
 ·have q0 : ((sB s).toList == [104, 111, 115, 116, 115, 32, 36, 110, 97, 109, 101, 32, 105, 112]) = true := by rw [sB_toList, beq_iff_eq]; exact h0
  obtain ⟨_, e, hq, _, hty⟩ := (C.second_host p).1 (by rw [HS.out]; exact h0)
  have HTY := Lib.hid (show C.typeB C.kIp x = true by rw [← HLA.out, hq]; exact hty)
  have HE := Lib.hid (show ((List.range i).any fun j => C.sameAd x (T.pathL t j)) = r by rw [HC.out, if_pos h0]; exact HTW.out.symm)
  clear h0 hq hty
  go_enter Tryz.func92, Tryz.ntmps92
  go_wp2_with fail
  refine (secondC (some ⟨b, o, none⟩) d m p s _ HM.out hmd HB.out HSW.out hm0 (by omega) HT.out HS.out).mono ?_
  rintro e w1 ⟨rfl, hb1⟩
  go_wp2_with fail
  refine (takenC (some ⟨b4, o4, none⟩) c n i t x r _ HN.out (HA.out.below hb1) hl HRT.out hi HX.out HTY.out (HT.out.below hb1) HE.out).mono ?_
  rintro e w2 ⟨rfl, hx⟩
  go_wp2
  go_ret
  exact ⟨rfl, bthen hb1 hx⟩
 have q0 : ((sB s).toList == [104, 111, 115, 116, 115, 32, 36, 110, 97, 109, 101, 32, 105, 112]) = false := by rw [sB_toList, beq_eq_false_iff_ne]; exact h0
 by_cases h1 : s = C.said3 C.wBindings C.wHost
 ·have q1 : ((sB s).toList == [98, 105, 110, 100, 105, 110, 103, 115, 32, 36, 105, 112, 32, 104, 111, 115, 116]) = true := by rw [sB_toList, beq_iff_eq]; exact h1
  obtain ⟨th, hth⟩ : ∃ th, decide ([C.wHosts, x] ∈ C.pths t) = th := ⟨_, rfl⟩
  have HTH := Lib.hid hth
  have HE := Lib.hid (show r = !th by rw [HC.out, if_neg h0, if_pos (.inl h1)]; rw [hth])
  clear h0 h1 hth
  go_enter Tryz.func92, Tryz.ntmps92
  go_wp2_with fail
  refine (secondC (some ⟨b, o, none⟩) d m p s _ HM.out hmd HB.out HSW.out hm0 (by omega) HT.out HS.out).mono ?_
  rintro e w1 ⟨rfl, hb1⟩
  have hit : i < t.length := by rw [HN.out]; exact hi
  obtain ⟨_, c4, _⟩ := (HL4.out.below hb1 hw4).line hit
  rw [HX.out] at c4
  clear hit
  go_wp2_with fail
  have hu := up w1 (.cells #[.string (sB C.wHosts), .string (sB x)] 9)
  refine (thereQ13 (some ⟨b4, o4, none⟩) _ c _ n t C.wHosts x th _ HN.out (HA.out.below (bthen hb1 hu)) (lit_seen eS w1 [C.wHosts, x] _ rfl (by simp)) hl HRT.out HTH.out).mono ?_
  rintro e w2 ⟨rfl, hx⟩
  go_wp2
  go_ret
  exact ⟨by rw [HE.out]; rfl, bthen hb1 (bthen hu hx)⟩
 have q1 : ((sB s).toList == [98, 105, 110, 100, 105, 110, 103, 115, 32, 36, 105, 112, 32, 104, 111, 115, 116]) = false := by rw [sB_toList, beq_eq_false_iff_ne]; exact h1
 by_cases h2 : s = C.said3 C.wRoutes C.wVia
 ·have q2 : ((sB s).toList == [114, 111, 117, 116, 101, 115, 32, 36, 112, 114, 101, 102, 105, 120, 32, 118, 105, 97]) = true := by rw [sB_toList, beq_iff_eq]; exact h2
  obtain ⟨th, hth⟩ : ∃ th, decide ([C.wHosts, x] ∈ C.pths t) = th := ⟨_, rfl⟩
  have HTH := Lib.hid hth
  have HE := Lib.hid (show r = !th by rw [HC.out, if_neg h0, if_pos (.inr h2)]; rw [hth])
  clear h0 h1 h2 hth
  go_enter Tryz.func92, Tryz.ntmps92
  go_wp2_with fail
  refine (secondC (some ⟨b, o, none⟩) d m p s _ HM.out hmd HB.out HSW.out hm0 (by omega) HT.out HS.out).mono ?_
  rintro e w1 ⟨rfl, hb1⟩
  have hit : i < t.length := by rw [HN.out]; exact hi
  obtain ⟨_, c4, _⟩ := (HL4.out.below hb1 hw4).line hit
  rw [HX.out] at c4
  clear hit
  go_wp2_with fail
  have hu := up w1 (.cells #[.string (sB C.wHosts), .string (sB x)] 9)
  refine (thereQ13 (some ⟨b4, o4, none⟩) _ c _ n t C.wHosts x th _ HN.out (HA.out.below (bthen hb1 hu)) (lit_seen eS w1 [C.wHosts, x] _ rfl (by simp)) hl HRT.out HTH.out).mono ?_
  rintro e w2 ⟨rfl, hx⟩
  go_wp2
  go_ret
  exact ⟨by rw [HE.out]; rfl, bthen hb1 (bthen hu hx)⟩
 have q2 : ((sB s).toList == [114, 111, 117, 116, 101, 115, 32, 36, 112, 114, 101, 102, 105, 120, 32, 118, 105, 97]) = false := by rw [sB_toList, beq_eq_false_iff_ne]; exact h2
 by_cases h3 : s = C.said3 C.wHosts C.wVnis
 ·have q3 : ((sB s).toList == [104, 111, 115, 116, 115, 32, 36, 110, 97, 109, 101, 32, 118, 110, 105, 115]) = true := by rw [sB_toList, beq_iff_eq]; exact h3
  obtain ⟨th, hth⟩ : ∃ th, decide ([C.wVnis, x] ∈ C.pths t) = th := ⟨_, rfl⟩
  have HTH := Lib.hid hth
  have HE := Lib.hid (show r = !th by rw [HC.out, if_neg h0, if_neg (fun h => h.elim h1 h2), if_pos h3]; rw [hth])
  clear h0 h1 h2 h3 hth
  go_enter Tryz.func92, Tryz.ntmps92
  go_wp2_with fail
  refine (secondC (some ⟨b, o, none⟩) d m p s _ HM.out hmd HB.out HSW.out hm0 (by omega) HT.out HS.out).mono ?_
  rintro e w1 ⟨rfl, hb1⟩
  have hit : i < t.length := by rw [HN.out]; exact hi
  obtain ⟨_, c4, _⟩ := (HL4.out.below hb1 hw4).line hit
  rw [HX.out] at c4
  clear hit
  go_wp2_with fail
  have hu := up w1 (.cells #[.string (sB C.wVnis), .string (sB x)] 9)
  refine (thereQ13 (some ⟨b4, o4, none⟩) _ c _ n t C.wVnis x th _ HN.out (HA.out.below (bthen hb1 hu)) (lit_seen eS w1 [C.wVnis, x] _ rfl (by simp)) hl HRT.out HTH.out).mono ?_
  rintro e w2 ⟨rfl, hx⟩
  go_wp2
  go_ret
  exact ⟨by rw [HE.out]; rfl, bthen hb1 (bthen hu hx)⟩
 have q3 : ((sB s).toList == [104, 111, 115, 116, 115, 32, 36, 110, 97, 109, 101, 32, 118, 110, 105, 115]) = false := by rw [sB_toList, beq_eq_false_iff_ne]; exact h3
 by_cases h4 : s = C.said3 C.wBindings C.wVni
 ·have q4 : ((sB s).toList == [98, 105, 110, 100, 105, 110, 103, 115, 32, 36, 105, 112, 32, 118, 110, 105]) = true := by rw [sB_toList, beq_iff_eq]; exact h4
  obtain ⟨y, e, hq, hty, _⟩ := C.second_at (A := C.wBindings) (D := C.wVni) (p := p) (by decide) (by decide +kernel) (by decide +kernel) (by rw [HS.out]; exact h4)
  obtain rfl : 4 = m := by rw [← HM.out, hq]; rfl
  have HY := Lib.hid (show y.length ≤ 100 from HSW.out y (by rw [hq]; simp))
  have HY0 := Lib.hid (show 0 ≤ N.ipL y from of_decide_eq_true (show decide (0 ≤ N.ipL y) = true from hty))
  have HPY := Lib.hid (show p[1]? = some y by rw [hq]; rfl)
  have hd2 : (1 : Int) < (4 : Int) := by omega
  obtain ⟨th, hth⟩ : ∃ th, decide ([C.wVnis, x] ∈ C.pths t) = th := ⟨_, rfl⟩
  have HTH := Lib.hid hth
  obtain ⟨ou, hou⟩ : ∃ ou, C.outP (C.pths t) y x = ou := ⟨_, rfl⟩
  have HOU := Lib.hid hou
  have HE := Lib.hid (show r = ((!th) || ou) by rw [HC.out, if_neg h0, if_neg (fun h => h.elim h1 h2), if_neg h3, if_pos h4]; rw [hth, show p.getD 1 [] = y by rw [hq]; rfl, hou])
  clear h0 h1 h2 h3 h4 hth hou hq hty
  cases th with
  | true =>
   go_enter Tryz.func92, Tryz.ntmps92
   go_wp2_with fail
   refine (secondC (some ⟨b, o, none⟩) d 4 p s _ HM.out hmd HB.out HSW.out hm0 (by omega) HT.out HS.out).mono ?_
   rintro e w1 ⟨rfl, hb1⟩
   have hit : i < t.length := by rw [HN.out]; exact hi
   obtain ⟨_, c4, _⟩ := (HL4.out.below hb1 hw4).line hit
   rw [HX.out] at c4
   clear hit
   have cy : w1.cell? ⟨b, o + 1, none⟩ = some (.string (sB y)) := cellS (HLP.out.below hb1 hbw) HPY.out
   go_wp2
   refine wp_region_held_drew (S := fun w' => KeepX w w' b4 (o4 + i * 3 + 1) b (o + 1) x y) (by kernel_rfl) ⟨hb1.drew, c4, cy⟩ (fun hHeld => ?_)
   refine takeZ (i := 0) (v := ?vt0) (d := some 39) ?hyt0 ?restt0
   case hyt0 => intro w hSw; obtain ⟨_, hs1, hs2⟩ := hSw; go_simp; try (with_reducible rfl)
   try simp only [pq13]
   refine takeZ (i := 1) (v := ?vt1) (d := some 40) ?hyt1 ?restt1
   case hyt1 => intro w hSw; obtain ⟨_, hs1, hs2⟩ := hSw; go_simp; try (with_reducible rfl)
   try simp only [pq13]
   refine takeZ (i := 2) (v := ?vt2) (d := some 41) ?hyt2 ?restt2
   case hyt2 => intro w hSw; obtain ⟨_, hs1, hs2⟩ := hSw; go_simp; try (with_reducible rfl)
   try simp only [pq13]
   refine takeZ (i := 3) (v := ?vt3) (d := some 42) ?hyt3 ?restt3
   case hyt3 => intro w hSw; obtain ⟨_, hs1, hs2⟩ := hSw; go_simp; try (with_reducible rfl)
   try simp only [pq13]
   refine takeZ (i := 4) (v := ?vt4) (d := some 43) ?hyt4 ?restt4
   case hyt4 => intro w hSw; obtain ⟨_, hs1, hs2⟩ := hSw; go_simp; try (with_reducible rfl)
   try simp only [pq13]
   refine takeZ (i := 5) (v := ?vt5) (d := some 44) ?hyt5 ?restt5
   case hyt5 => intro w hSw; obtain ⟨_, hs1, hs2⟩ := hSw; go_simp; try (with_reducible rfl)
   try simp only [pq13]
   refine anyH_abs13 (G := fun z => KeepX w z b4 (o4 + i * 3 + 1) b (o + 1) x y) ⟨hb1.drew, c4, cy⟩ (fun z0 hz => ?_)
   refine wpAnyH_ready (rs := [6]) (by kernel_rfl) (by simp) ?_
   refine AllReadyH.cons rfl (fun K hK => ?_) AllReadyH.nil
   obtain ⟨g1, hg1⟩ : ∃ g, z0.heap.size = g := ⟨_, rfl⟩
   go_simp
   try rw [hg1]
   have hu := up z0 (.cells #[.string (sB C.wVnis), .string (sB x)] 9)
   have hk1 := hz.on hu hw4 hbw
   refine hK.out _ _ hk1 (fun hHeld => ?_)
   clear hK K
   try simp only [pq13]
   refine anyH_abs13 (G := fun z => KeepX w z b4 (o4 + i * 3 + 1) b (o + 1) x y ∧ Seen eS z (some ⟨g1, 0, none⟩) [C.wVnis, x]) ⟨hk1, by rw [← hg1]; exact lit_seen eS z0 [C.wVnis, x] _ rfl (by simp)⟩ (fun z1 hz => ?_)
   obtain ⟨hk2, hl1⟩ := hz
   clear hHeld
   have hHeld := hk2
   clear hu hk1
   refine wpAnyH_ready (rs := [7]) (by kernel_rfl) (by simp) ?_
   refine AllReadyH.cons rfl (fun K hK => ?_) AllReadyH.nil
   go_simp
   go_at_call 91
   refine (thereQ13 (some ⟨b4, o4, none⟩) _ c _ n t C.wVnis x true _ HN.out (HA.out.below hHeld.1) hl1 hl HRT.out HTH.out).mono ?_
   rintro e wq7 ⟨rfl, hx⟩
   have hbx7 : KeepX w wq7 b4 (o4 + i * 3 + 1) b (o + 1) x y := hHeld.on hx hw4 hbw
   clear hHeld hx
   refine hK.out _ _ hbx7 (fun hHeld => ?_)
   clear hK K
   try simp only [pq13]
   refine takeZ (i := 8) (v := ?vt8) (d := some 47) ?hyt8 ?restt8
   case hyt8 => intro w hSw; obtain ⟨_, hs1, hs2⟩ := hSw; go_simp; try (with_reducible rfl)
   try simp only [pq13]
   refine takeZ (i := 9) (v := ?vt9) (d := some 48) ?hyt9 ?restt9
   case hyt9 => intro w hSw; obtain ⟨_, hs1, hs2⟩ := hSw; go_simp; try (with_reducible rfl)
   try simp only [pq13]
   refine takeZ (i := 10) (v := ?vt10) (d := some 49) ?hyt10 ?restt10
   case hyt10 => intro w hSw; obtain ⟨_, hs1, hs2⟩ := hSw; go_simp; try (with_reducible rfl)
   try simp only [pq13]
   refine takeZ (i := 11) (v := ?vt11) (d := some 50) ?hyt11 ?restt11
   case hyt11 => intro w hSw; obtain ⟨_, hs1, hs2⟩ := hSw; go_simp; try (with_reducible rfl)
   try simp only [pq13]
   refine takeZ (i := 12) (v := ?vt12) (d := some 51) ?hyt12 ?restt12
   case hyt12 => intro w hSw; obtain ⟨_, hs1, hs2⟩ := hSw; go_simp; try (with_reducible rfl)
   try simp only [pq13]
   refine takeZ (i := 13) (v := ?vt13) (d := some 52) ?hyt13 ?restt13
   case hyt13 => intro w hSw; obtain ⟨_, hs1, hs2⟩ := hSw; go_simp; try (with_reducible rfl)
   try simp only [pq13]
   refine takeZ (i := 14) (v := ?vt14) (d := some 53) ?hyt14 ?restt14
   case hyt14 => intro w hSw; obtain ⟨_, hs1, hs2⟩ := hSw; go_simp; try (with_reducible rfl)
   try simp only [pq13]
   refine takeZ (i := 15) (v := ?vt15) (d := some 54) ?hyt15 ?restt15
   case hyt15 => intro w hSw; obtain ⟨_, hs1, hs2⟩ := hSw; go_simp; try (with_reducible rfl)
   try simp only [pq13]
   refine takeZ (i := 16) (v := ?vt16) (d := some 55) ?hyt16 ?restt16
   case hyt16 => intro w hSw; obtain ⟨_, hs1, hs2⟩ := hSw; go_simp; try (with_reducible rfl)
   try simp only [pq13]
   refine takeZ (i := 17) (v := ?vt17) (d := some 56) ?hyt17 ?restt17
   case hyt17 => intro w hSw; obtain ⟨_, hs1, hs2⟩ := hSw; go_simp; try (with_reducible rfl)
   try simp only [pq13]
   refine takeZ (i := 18) (v := ?vt18) (d := some 57) ?hyt18 ?restt18
   case hyt18 => intro w hSw; obtain ⟨_, hs1, hs2⟩ := hSw; go_simp; try (with_reducible rfl)
   try simp only [pq13]
   refine wpAnyH_ready (rs := [19]) (by kernel_rfl) (by simp) ?_
   refine AllReadyH.cons rfl (fun K hK => ?_) AllReadyH.nil
   go_simp
   go_at_call 130
   refine (outsideC (some ⟨b4, o4, none⟩) c n t y x ou _ HN.out (HA.out.below hHeld.1) hl HRT.out HY.out HY0.out HOU.out).mono ?_
   rintro e wq19 ⟨rfl, hx⟩
   have hbx19 : KeepX w wq19 b4 (o4 + i * 3 + 1) b (o + 1) x y := hHeld.on hx hw4 hbw
   clear hHeld hx
   refine hK.out _ _ hbx19 (fun hHeld => ?_)
   clear hK K
   try simp only [pq13]
   refine takeZ (i := 20) (v := ?vt20) (d := some 59) ?hyt20 ?restt20
   case hyt20 => intro w hSw; obtain ⟨_, hs1, hs2⟩ := hSw; go_simp; try (with_reducible rfl)
   try simp only [pq13]
   refine takeZ (i := 21) (v := ?vt21) (d := some 6) ?hyt21 ?restt21
   case hyt21 => intro w hSw; obtain ⟨_, hs1, hs2⟩ := hSw; go_simp; try (with_reducible rfl)
   try simp only [pq13]
   refine wpAnyH_done (by kernel_rfl) ?_ _
   go_wp2
   go_ret
   exact ⟨by rw [HE.out]; rfl, hbx19.1⟩
  | false =>
   go_enter Tryz.func92, Tryz.ntmps92
   go_wp2_with fail
   refine (secondC (some ⟨b, o, none⟩) d 4 p s _ HM.out hmd HB.out HSW.out hm0 (by omega) HT.out HS.out).mono ?_
   rintro e w1 ⟨rfl, hb1⟩
   have hit : i < t.length := by rw [HN.out]; exact hi
   obtain ⟨_, c4, _⟩ := (HL4.out.below hb1 hw4).line hit
   rw [HX.out] at c4
   clear hit
   have cy : w1.cell? ⟨b, o + 1, none⟩ = some (.string (sB y)) := cellS (HLP.out.below hb1 hbw) HPY.out
   go_wp2
   refine wp_region_held_drew (S := fun w' => KeepX w w' b4 (o4 + i * 3 + 1) b (o + 1) x y) (by kernel_rfl) ⟨hb1.drew, c4, cy⟩ (fun hHeld => ?_)
   refine takeZ (i := 0) (v := ?vf0) (d := some 39) ?hyf0 ?restf0
   case hyf0 => intro w hSw; obtain ⟨_, hs1, hs2⟩ := hSw; go_simp; try (with_reducible rfl)
   try simp only [pq13]
   refine takeZ (i := 1) (v := ?vf1) (d := some 40) ?hyf1 ?restf1
   case hyf1 => intro w hSw; obtain ⟨_, hs1, hs2⟩ := hSw; go_simp; try (with_reducible rfl)
   try simp only [pq13]
   refine takeZ (i := 2) (v := ?vf2) (d := some 41) ?hyf2 ?restf2
   case hyf2 => intro w hSw; obtain ⟨_, hs1, hs2⟩ := hSw; go_simp; try (with_reducible rfl)
   try simp only [pq13]
   refine takeZ (i := 3) (v := ?vf3) (d := some 42) ?hyf3 ?restf3
   case hyf3 => intro w hSw; obtain ⟨_, hs1, hs2⟩ := hSw; go_simp; try (with_reducible rfl)
   try simp only [pq13]
   refine takeZ (i := 4) (v := ?vf4) (d := some 43) ?hyf4 ?restf4
   case hyf4 => intro w hSw; obtain ⟨_, hs1, hs2⟩ := hSw; go_simp; try (with_reducible rfl)
   try simp only [pq13]
   refine takeZ (i := 5) (v := ?vf5) (d := some 44) ?hyf5 ?restf5
   case hyf5 => intro w hSw; obtain ⟨_, hs1, hs2⟩ := hSw; go_simp; try (with_reducible rfl)
   try simp only [pq13]
   refine anyH_abs13 (G := fun z => KeepX w z b4 (o4 + i * 3 + 1) b (o + 1) x y) ⟨hb1.drew, c4, cy⟩ (fun z0 hz => ?_)
   refine wpAnyH_ready (rs := [6]) (by kernel_rfl) (by simp) ?_
   refine AllReadyH.cons rfl (fun K hK => ?_) AllReadyH.nil
   obtain ⟨g1, hg1⟩ : ∃ g, z0.heap.size = g := ⟨_, rfl⟩
   go_simp
   try rw [hg1]
   have hu := up z0 (.cells #[.string (sB C.wVnis), .string (sB x)] 9)
   have hk1 := hz.on hu hw4 hbw
   refine hK.out _ _ hk1 (fun hHeld => ?_)
   clear hK K
   try simp only [pq13]
   refine anyH_abs13 (G := fun z => KeepX w z b4 (o4 + i * 3 + 1) b (o + 1) x y ∧ Seen eS z (some ⟨g1, 0, none⟩) [C.wVnis, x]) ⟨hk1, by rw [← hg1]; exact lit_seen eS z0 [C.wVnis, x] _ rfl (by simp)⟩ (fun z1 hz => ?_)
   obtain ⟨hk2, hl1⟩ := hz
   clear hHeld
   have hHeld := hk2
   clear hu hk1
   refine wpAnyH_ready (rs := [7]) (by kernel_rfl) (by simp) ?_
   refine AllReadyH.cons rfl (fun K hK => ?_) AllReadyH.nil
   go_simp
   go_at_call 91
   refine (thereQ13 (some ⟨b4, o4, none⟩) _ c _ n t C.wVnis x false _ HN.out (HA.out.below hHeld.1) hl1 hl HRT.out HTH.out).mono ?_
   rintro e wq7 ⟨rfl, hx⟩
   have hbx7 : KeepX w wq7 b4 (o4 + i * 3 + 1) b (o + 1) x y := hHeld.on hx hw4 hbw
   clear hHeld hx
   refine hK.out _ _ hbx7 (fun hHeld => ?_)
   clear hK K
   try simp only [pq13]
   refine takeZ (i := 8) (v := ?vf8) (d := some 47) ?hyf8 ?restf8
   case hyf8 => intro w hSw; obtain ⟨_, hs1, hs2⟩ := hSw; go_simp; try (with_reducible rfl)
   try simp only [pq13]
   refine takeZ (i := 9) (v := ?vf9) (d := some 48) ?hyf9 ?restf9
   case hyf9 => intro w hSw; obtain ⟨_, hs1, hs2⟩ := hSw; go_simp; try (with_reducible rfl)
   try simp only [pq13]
   refine takeD13 (i := 10) (v := undef) (d := some 49) rfl rfl (by kernel_rfl) (by kernel_rfl) (by kernel_rfl) (fun _ _ _ h => h) (Or.inr ⟨by rfl, rfl⟩) (by assumption) ?_
   try simp only [pq13]
   refine takeD13 (i := 11) (v := undef) (d := some 50) rfl rfl (by kernel_rfl) (by kernel_rfl) (by kernel_rfl) (fun _ _ _ h => h) (Or.inr ⟨by rfl, rfl⟩) (by assumption) ?_
   try simp only [pq13]
   refine takeD13 (i := 12) (v := undef) (d := some 51) rfl rfl (by kernel_rfl) (by kernel_rfl) (by kernel_rfl) (fun _ _ _ h => h) (Or.inr ⟨by rfl, rfl⟩) (by assumption) ?_
   try simp only [pq13]
   refine takeD13 (i := 13) (v := undef) (d := some 52) rfl rfl (by kernel_rfl) (by kernel_rfl) (by kernel_rfl) (fun _ _ _ h => h) (Or.inr ⟨by rfl, rfl⟩) (by assumption) ?_
   try simp only [pq13]
   refine takeD13 (i := 14) (v := undef) (d := some 53) rfl rfl (by kernel_rfl) (by kernel_rfl) (by kernel_rfl) (fun _ _ _ h => h) (Or.inr ⟨by rfl, rfl⟩) (by assumption) ?_
   try simp only [pq13]
   refine takeD13 (i := 15) (v := undef) (d := some 54) rfl rfl (by kernel_rfl) (by kernel_rfl) (by kernel_rfl) (fun _ _ _ h => h) (Or.inr ⟨by rfl, rfl⟩) (by assumption) ?_
   try simp only [pq13]
   refine takeD13 (i := 16) (v := undef) (d := some 55) rfl rfl (by kernel_rfl) (by kernel_rfl) (by kernel_rfl) (fun _ _ _ h => h) (Or.inr ⟨by rfl, rfl⟩) (by assumption) ?_
   try simp only [pq13]
   refine takeD13 (i := 17) (v := undef) (d := some 56) rfl rfl (by kernel_rfl) (by kernel_rfl) (by kernel_rfl) (fun _ _ _ h => h) (Or.inr ⟨by rfl, rfl⟩) (by assumption) ?_
   try simp only [pq13]
   refine takeD13 (i := 18) (v := undef) (d := some 57) rfl rfl (by kernel_rfl) (by kernel_rfl) (by kernel_rfl) (fun _ _ _ h => h) (Or.inr ⟨by rfl, rfl⟩) (by assumption) ?_
   try simp only [pq13]
   refine takeD13 (i := 19) (v := undef) (d := some 58) rfl rfl (by kernel_rfl) (by kernel_rfl) (by kernel_rfl) (fun _ _ _ h => h) (Or.inr ⟨by rfl, rfl⟩) (by assumption) ?_
   try simp only [pq13]
   refine takeZ (i := 20) (v := ?vf20) (d := some 59) ?hyf20 ?restf20
   case hyf20 => intro w hSw; obtain ⟨_, hs1, hs2⟩ := hSw; go_simp; try (with_reducible rfl)
   try simp only [pq13]
   refine takeZ (i := 21) (v := ?vf21) (d := some 6) ?hyf21 ?restf21
   case hyf21 => intro w hSw; obtain ⟨_, hs1, hs2⟩ := hSw; go_simp; try (with_reducible rfl)
   try simp only [pq13]
   refine wpAnyH_done (by kernel_rfl) ?_ _
   go_wp2
   go_ret
   exact ⟨by rw [HE.out]; rfl, hbx7.1⟩
 have q4 : ((sB s).toList == [98, 105, 110, 100, 105, 110, 103, 115, 32, 36, 105, 112, 32, 118, 110, 105]) = false := by rw [sB_toList, beq_eq_false_iff_ne]; exact h4
 have HE := Lib.hid (show r = false by rw [HC.out, if_neg h0, if_neg (fun h => h.elim h1 h2), if_neg h3, if_neg h4])
 clear h0 h1 h2 h3 h4
 go_enter Tryz.func92, Tryz.ntmps92
 go_wp2_with fail
 refine (secondC (some ⟨b, o, none⟩) d m p s _ HM.out hmd HB.out HSW.out hm0 (by omega) HT.out HS.out).mono ?_
 rintro e w1 ⟨rfl, hb1⟩
 go_wp2
 go_ret
 exact ⟨by rw [HE.out]; rfl, hb1⟩
end Go.Proofs.YtfcikfohmehmkaaGreatDoor
