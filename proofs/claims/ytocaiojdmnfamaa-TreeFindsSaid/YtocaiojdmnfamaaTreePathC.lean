/-
  Contract of layer 3's Path: the path of a line, or ErrArg; below the heap's size at the call the world is as it was. Condition: at most 2^30 lines.
-/
import Derived.Test.YtocaiojdmnfamaaTreeHas
import Derived.Test.YtocaiojdmnfamaaTreePure6
namespace Go.Proofs.Ytocaiojdmnfamaa
open Go.RowKit

/-- What Path leaves. -/
def PathS (w : World) (l : List (List UInt8)) (er : Int) (e : Ending) (w' : World) : Prop := ∃ A cap, e = .returned (.tuple #[.slice A l.length cap, .int .i64 er]) ∧ l.length ≤ cap ∧ Seen eS w' A l ∧ Below w.heap.size w w'
theorem Path_no (A : Option Addr) (c : Nat) (t : List T.Ln) (i : Int) (w : World) (hA : Seen eL w A t) (hl : t.length ≤ 1073741824) (h : i < 0 ∨ (t.length : Int) ≤ i ∨ ¬ T.RightT t) :
    Calls Try.prog 13 #[.slice A t.length c, .int .i64 i] w (PathS w [] 1) := by
  have HR := Lib.hid h
  have HA := Lib.hid hA
  clear h hA
  go_enter Try.func13, Try.ntmps13
  go_wp2_with fail
  refine (has_no A c t i _ HA.out hl HR.out).mono ?_
  rintro e w1 ⟨rfl, hb1⟩
  go_wp2
  go_ret2
  exact ⟨none, 0, rfl, Nat.le_refl _, Seen.nil, hb1⟩

theorem str_info : (Try.prog.info? 9).map (fun i => (i.zero, i.size, i.bytes)) = some (some (.string ⟨#[]⟩), 1, 16) := by kernel_rfl
/-- A row of strings is seen. -/
theorem row_seen {w : World} {g : Nat} {l : List (List UInt8)} {F : Nat → List UInt8} (h : w.rowIs g 9 l.length (fun d => .string (sB (F d)))) (hF : ∀ d, d < l.length → F d = l.getD d []) : Seen eS w (some ⟨g, 0, none⟩) l := by
  intro _
  refine ⟨g, 0, rfl, h.lt, fun i hi j u hu => ?_⟩
  match j, hu with
  | 0, hu =>
    simp only [eS, List.getElem?_cons_zero, Option.some.injEq] at hu ⊢
    rw [← hu, Nat.zero_add, Nat.mul_one, Nat.add_zero, h.cell hi, hF i hi]
    unfold List.getD
    rw [List.getElem?_eq_getElem hi]; rfl
  | j + 1, hu => simp [eS] at hu
theorem row_path {w : World} {g n d : Nat} {F : Nat → List UInt8} (h : w.rowIs g 9 n (fun d => .string (sB (F d)))) (s : List UInt8) :
    (w.setCell ⟨g, d, none⟩ (.string (sB s))).rowIs g 9 n (fun x => .string (sB (if x = d then s else F x))) := by
  refine (h.set d (.string (sB s))).congr fun i _ => ?_
  by_cases hi : i = d
  · simp [hi]
  · simp [hi]

def RelPa (w : World) (t : List T.Ln) (p : List (List UInt8)) (g n : Nat) (x : Value) (wr : World) : Prop :=
  ∃ (j : Int) (F : Nat → List UInt8), x = .int .i64 j ∧ j < n ∧ T.Laid t p j F ∧ wr.rowIs g 9 p.length (fun d => .string (sB (F d))) ∧ w.heap.size ≤ g ∧ Below w.heap.size w wr

set_option maxRecDepth 100000 in
set_option maxHeartbeats 1000000 in
theorem Path_yes (A : Option Addr) (c : Nat) (t : List T.Ln) (i : Nat) (w : World) (hA : Seen eL w A t) (hl : t.length ≤ 1073741824) (hi : i < t.length) (hR : T.RightT t) :
    Calls Try.prog 13 #[.slice A t.length c, .int .i64 i] w (PathS w (T.pathL t i) 0) := by
  obtain ⟨p, hp⟩ : ∃ p, T.pathL t i = p := ⟨_, rfl⟩
  have hlen := hR.path_len i i (Nat.le_refl _) hi
  have hdp := hR.deep i hi
  rw [hp] at hlen
  obtain ⟨b, o, rfl, hbw, hL⟩ := hA.lines (by omega)
  obtain ⟨e, he⟩ := Int.eq_ofNat_of_zero_le hdp.1
  have hpl : p.length = e + 1 := by omega
  have he15 : e ≤ 15 := by omega
  have HPL := Lib.hid hpl
  have HP := Lib.hid hp
  have HR := Lib.hid hR
  have HA := Lib.hid hA
  have HL := Lib.hid hL
  have HE := Lib.hid he
  have hmk := run_make_row' (P := Try.prog) 25 9 (.string ⟨#[]⟩) 16 Try.underlying25 str_info rfl .i64 .i64 (e + 1) (by omega) (by omega)
  have ec : ((e + 1 : Nat) : Int) = (e : Int) + 1 := by omega
  rw [ec] at hmk
  clear ec hp hR hA hL he hdp hlen hpl
  rw [HP.out]
  go_enter Try.func13, Try.ntmps13
  go_wp2_with fail
  refine (has_yes _ c t i _ HA.out hl hi HR.out).mono ?_
  rintro x w1 ⟨rfl, hb1⟩
  have hbw1 : b < w1.heap.size := Nat.lt_of_lt_of_le hbw hb1.size
  obtain ⟨c0, _, _⟩ := (HL.out.below hb1 hbw).line hi
  rw [HE.out] at c0
  go_wp2
  go_loopg [1] (i + 1) (fun g x wr => RelPa w t p w1.heap.size g x wr)
  case atStart => exact ⟨i, fun _ => [], rfl, by omega, by rw [← HP.out]; exact T.Laid.start t i hi _, by rw [HPL.out]; exact World.rowIs_made w1 (.string ⟨#[]⟩) (e + 1) 9, hb1.size, hb1.alloc hb1.size _⟩
  case round =>
    obtain ⟨j, F, rfl, hjg, hLd, hrow, hgw, hb⟩ := hrel
    have hgr := hrow.lt
    by_cases hj : 0 ≤ j
    · obtain ⟨k, rfl⟩ := Int.eq_ofNat_of_zero_le hj
      have hkl : k < t.length := by have := hLd.2.1; omega
      have hdk := HR.out.deep k hkl
      obtain ⟨d, hd⟩ := Int.eq_ofNat_of_zero_le hdk.1
      obtain ⟨hdl, hLn⟩ := HR.out.laid hLd hd
      have hde : d < e + 1 := by have := HPL.out; omega
      obtain ⟨q0, q1, _⟩ := (HL.out.below hb hbw).line hkl
      rw [hd] at q0
      have qc : wr.cell? ⟨w1.heap.size, d, none⟩ = some (.string (sB (F d))) := hrow.cell hdl
      have qf : wr.frozen? ⟨w1.heap.size, d, none⟩ = false := hrow.frozen d
      have HLn := Lib.hid hLn
      have HW := Lib.hid (row_path (d := d) hrow (T.wd t k))
      clear hLd hrow hd hdk hLn
      go_wp2
      go_region
      go_wp2_with fail
      refine (under_any _ c t k _ (HA.out.below (((hb.setCell hgw _)).drew)) hkl hl).mono ?_
      rintro x w2 ⟨rfl, hb2⟩
      go_wp2
      have hun := T.under_lt t k
      go_roundg k
      case rel => exact ⟨T.underL t k, _, rfl, by omega, HLn.out, HW.out.of_block (hb2.block _ (by simp; omega)), hgw, (hb.setCell hgw _).drew.trans (hb2.mono (by simp; omega))⟩
      case measure => omega
    · have hj1 : j = -1 := by have := hLd.1; omega
      subst hj1
      have HN := Lib.hid hLd.done
      have HW := Lib.hid hrow
      clear hLd hrow
      go_wp2
      go_ret2
      refine ⟨_, e + 1, ?_, by rw [HPL.out]; exact Nat.le_refl _, row_seen HW.out HN.out, hb⟩
      rw [HPL.out]; rfl
end Go.Proofs.Ytocaiojdmnfamaa
