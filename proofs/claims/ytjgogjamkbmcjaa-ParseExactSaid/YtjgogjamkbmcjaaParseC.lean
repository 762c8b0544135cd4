/-
  Contracts of the leaves of layer 5: cmp.Compare and slices.Compare of words, slices.Equal and slices.Clone of paths. Condition: paths of at most 2^30 words.
  What a reader of layer 5 holds in memory: its block, the statements that it has found, the paths of each; slices.Clone of a path. Condition: paths of at most 2^30 words.
  Contracts of layer 5's begins, goesOn and has: what each says of a reader; below the heap's size at the call the world is as it was. No conditions but tokens as layer 2 has them.
  Contracts of layer 5's name and take: a step of the reader is what the plain definition says, and what it leaves as it was. No conditions but tokens as layer 2 has them.
-/
import Derived.Test.YtjgogjamkbmcjaaTreeE
import Derived.Test.YtjgogjamkbmcjaaOwnMany
import Derived.Test.YtjgogjamkbmcjaaPureP
import Derived.Deep.LoopGhost
import Derived.WalkMore
import Derived.Test.YtjgogjamkbmcjaaLexAwake
import Derived.RegionTactic

namespace Go.Proofs.Ytjgogjamkbmcjaa
open Go.RowKit

def cmpW (a b : List UInt8) : Int := if Op.bytesLess a b = true then -1 else if Op.bytesLess b a = true then 1 else 0
def cmpP : T.Pth → T.Pth → Int
  | [], [] => 0
  | [], _ :: _ => -1
  | _ :: _, [] => 1
  | a :: p, b :: q => if cmpW a b = 0 then cmpP p q else cmpW a b
theorem cmpW_self (a : List UInt8) : cmpW a a = 0 := by unfold cmpW; rw [T.less_irr]; rfl
theorem cmpW_zero {a b : List UInt8} : cmpW a b = 0 ↔ a = b := by
  constructor
  · intro h
    unfold cmpW at h
    split at h
    · cases h
    · rename_i h1
      split at h
      · cases h
      · rename_i h2
        rcases T.less_tri a b with h3 | h3 | h3
        · exact absurd h3 h1
        · exact h3
        · exact absurd h3 h2
  · rintro rfl; exact cmpW_self a
theorem cmpW_neg {a b : List UInt8} : cmpW a b < 0 ↔ Op.bytesLess a b = true := by
  unfold cmpW
  by_cases h : Op.bytesLess a b = true
  · rw [if_pos h]; simp [h]
  · rw [if_neg h]
    by_cases h2 : Op.bytesLess b a = true
    · rw [if_pos h2]; simp [h]
    · rw [if_neg h2]; simp [h]
theorem cmpP_neg : ∀ p q : T.Pth, cmpP p q < 0 ↔ T.pless p q = true
  | [], [] => by simp [cmpP, T.pless]
  | [], _ :: _ => by simp [cmpP, T.pless]
  | _ :: _, [] => by simp [cmpP, T.pless]
  | a :: p, b :: q => by
    rw [T.pless_cons]
    simp only [cmpP]
    by_cases h : cmpW a b = 0
    · rw [if_pos h, cmpP_neg p q]
      have e := cmpW_zero.1 h
      subst e
      simp [T.less_irr]
    · rw [if_neg h, cmpW_neg]
      have e : a ≠ b := fun e => h (cmpW_zero.2 e)
      simp [e]
theorem cmpP_drop {p q : T.Pth} {k : Nat} (h : k < p.length) (h2 : k < q.length) : cmpP (p.drop k) (q.drop k) = if cmpW p[k] q[k] = 0 then cmpP (p.drop (k + 1)) (q.drop (k + 1)) else cmpW p[k] q[k] := by
  rw [List.drop_eq_getElem_cons h, List.drop_eq_getElem_cons h2]; rfl
theorem cmpP_more {p q : T.Pth} {k : Nat} (h : k < p.length) (h2 : q.length ≤ k) : cmpP (p.drop k) (q.drop k) = 1 := by
  rw [List.drop_eq_getElem_cons h, List.drop_eq_nil_of_le h2]; rfl
theorem cmpP_less {p q : T.Pth} {k : Nat} (h : p.length ≤ k) (h2 : k < q.length) : cmpP (p.drop k) (q.drop k) = -1 := by
  rw [List.drop_eq_getElem_cons h2, List.drop_eq_nil_of_le h]; rfl
theorem cmpP_end {p q : T.Pth} {k : Nat} (h : p.length ≤ k) (h2 : q.length ≤ k) : cmpP (p.drop k) (q.drop k) = 0 := by
  rw [List.drop_eq_nil_of_le h, List.drop_eq_nil_of_le h2]; rfl

theorem isNaN_any (s : ByteArray) (w : World) : Calls Try.prog 87 #[.string s] w (fun e w' => e = .returned (.bool false) ∧ w = w') := by
  go_enter Try.func87, Try.ntmps87
  go_wp2
  go_ret
  exact ⟨rfl, rfl⟩
theorem cmpStr_any (a b : List UInt8) (w : World) : Calls Try.prog 66 #[.string (sB a), .string (sB b)] w (fun e w' => e = .returned (.int .i64 (cmpW a b)) ∧ w = w') := by
  by_cases h1 : Op.bytesLess a b = true
  · have e : cmpW a b = -1 := if_pos h1
    have b1 : Op.bytesLess (sB a).toList (sB b).toList = true := by rw [sB_toList, sB_toList]; exact h1
    rw [e]
    clear h1 e
    go_enter Try.func66, Try.ntmps66
    go_wp2_with (refine (isNaN_any _ _).mono ?_; rintro e w' ⟨rfl, rfl⟩)
    go_ret
    exact ⟨rfl, rfl⟩
  · by_cases h2 : Op.bytesLess b a = true
    · have e : cmpW a b = 1 := by unfold cmpW; rw [if_neg h1, if_pos h2]
      have b1 : Op.bytesLess (sB a).toList (sB b).toList = false := by rw [sB_toList, sB_toList]; exact Bool.eq_false_iff.2 h1
      have b2 : Op.bytesLess (sB b).toList (sB a).toList = true := by rw [sB_toList, sB_toList]; exact h2
      have b3 : ((sB a).toList == (sB b).toList) = false := sB_ne (fun e => by rw [e, T.less_irr] at h2; cases h2)
      rw [e]
      clear h1 h2 e
      go_enter Try.func66, Try.ntmps66
      go_wp2_with (refine (isNaN_any _ _).mono ?_; rintro e w' ⟨rfl, rfl⟩)
      go_ret
      exact ⟨rfl, rfl⟩
    · have e : cmpW a b = 0 := by unfold cmpW; rw [if_neg h1, if_neg h2]
      have b3 := sB_eq (cmpW_zero.1 e)
      have b1 : Op.bytesLess (sB a).toList (sB b).toList = false := by rw [sB_toList, sB_toList]; exact Bool.eq_false_iff.2 h1
      have b2 : Op.bytesLess (sB b).toList (sB a).toList = false := by rw [sB_toList, sB_toList]; exact Bool.eq_false_iff.2 h2
      rw [e]
      clear h1 h2 e
      go_enter Try.func66, Try.ntmps66
      go_wp2_with (refine (isNaN_any _ _).mono ?_; rintro e w' ⟨rfl, rfl⟩)
      go_ret
      exact ⟨rfl, rfl⟩

set_option maxRecDepth 100000 in
theorem compare_any (A B : Option Addr) (c d : Nat) (p q : T.Pth) (w : World) (hA : Seen eS w A p) (hB : Seen eS w B q) (hp : p.length ≤ 1073741824) (hq : q.length ≤ 1073741824) :
    Calls Try.prog 46 #[.slice A p.length c, .slice B q.length d] w (fun e w' => e = .returned (.int .i64 (cmpP p q)) ∧ w = w') := by
  have HA := Lib.hid hA
  have HB := Lib.hid hB
  clear hA hB
  go_enter Try.func46, Try.ntmps46
  go_wp2
  go_loopg [11] p.length (fun g i wr => ∃ k : Nat, Hid (k + g = p.length) ∧ k ≤ p.length ∧ i = .int .i64 k ∧ Hid (cmpP p q = cmpP (p.drop k) (q.drop k)) ∧ w = wr)
  case atStart => exact ⟨0, Nat.zero_add _, Nat.zero_le _, rfl, rfl, rfl⟩
  case round =>
    obtain ⟨k, HG, hk, rfl, HI, rfl⟩ := hrel
    by_cases hlt : k < p.length
    · obtain ⟨b1, o1, rfl, hw1, hL1⟩ := HA.out (by omega)
      have c1 := hL1.str hlt
      have blt : decide ((k : Int) < (p.length : Int)) = true := decide_eq_true (by omega)
      by_cases hq2 : k < q.length
      · obtain ⟨b2, o2, rfl, hw2, hL2⟩ := HB.out (by omega)
        have c2 := hL2.str hq2
        have bge : decide ((q.length : Int) ≤ (k : Int)) = false := decide_eq_false (by omega)
        have HE := Lib.hid (HI.out.trans (cmpP_drop hlt hq2))
        clear hL1 hL2
        obtain ⟨a1, ha1⟩ : ∃ x, p[k] = x := ⟨_, rfl⟩
        obtain ⟨a2, ha2⟩ : ∃ x, q[k] = x := ⟨_, rfl⟩
        rw [ha1] at c1
        rw [ha2] at c2
        by_cases hz : cmpW a1 a2 = 0
        · have HN := Lib.hid (show cmpP p q = cmpP (p.drop (k + 1)) (q.drop (k + 1)) by rw [HE.out, ha1, ha2, if_pos hz])
          have hc := cmpStr_any a1 a2
          rw [hz] at hc
          clear HE ha1 ha2 hz
          go_wp2_with (refine (hc _).mono ?_; rintro e w' ⟨rfl, rfl⟩)
          go_roundg (p.length - (k + 1))
          case rel => exact ⟨k + 1, (by show _ = _; omega), by omega, by go_num, HN, rfl⟩
          case measure => have := HG.out; omega
        · have HN := Lib.hid (show cmpP p q = cmpW a1 a2 by rw [HE.out, ha1, ha2, if_neg hz])
          have bz : (cmpW a1 a2 != 0) = true := by simp [hz]
          have hc := cmpStr_any a1 a2
          clear HE ha1 ha2 hz
          go_wp2_with (refine (hc _).mono ?_; rintro e w' ⟨rfl, rfl⟩)
          go_ret
          exact ⟨by rw [HN.out]; rfl, rfl⟩
      · have bge : decide ((q.length : Int) ≤ (k : Int)) = true := decide_eq_true (by omega)
        have HE := Lib.hid (HI.out.trans (cmpP_more hlt (by omega)))
        clear hL1
        go_wp2
        go_ret
        exact ⟨by rw [HE.out]; rfl, rfl⟩
    · have blt : decide ((k : Int) < (p.length : Int)) = false := decide_eq_false (by omega)
      by_cases hq2 : k < q.length
      · have b2 : decide ((p.length : Int) < (q.length : Int)) = true := decide_eq_true (by omega)
        have HE := Lib.hid (HI.out.trans (cmpP_less (by omega) hq2))
        go_wp2
        go_ret
        exact ⟨by rw [HE.out]; rfl, rfl⟩
      · have b2 : decide ((p.length : Int) < (q.length : Int)) = false := decide_eq_false (by omega)
        have HE := Lib.hid (HI.out.trans (cmpP_end (by omega) (by omega)))
        go_wp2
        go_ret
        exact ⟨by rw [HE.out]; rfl, rfl⟩

theorem sEqual_short (A B : Option Addr) (c d n m : Nat) (w : World) (h : n ≠ m) :
    Calls Try.prog 76 #[.slice A n c, .slice B m d] w (BoolS w false) := by
  have b : ((n : Int) != (m : Int)) = true := by simp; omega
  go_enter Try.func76, Try.ntmps76
  go_wp2
  go_ret
  exact ⟨rfl, Below.refl _ _⟩
theorem sEqual_long (A B : Option Addr) (c d : Nat) (l1 l2 : List (List UInt8)) (n : Nat) (w : World) (hl : n ≤ 1073741824) (hA : Seen eS w A l1) (hB : Seen eS w B l2) (h1 : l1.length = n) (h2 : l2.length = n) :
    Calls Try.prog 76 #[.slice A n c, .slice B n d] w (BoolS w (decide (l1 = l2))) := by
  have HA := Lib.hid hA
  have HB := Lib.hid hB
  have H1 := Lib.hid h1
  have H2 := Lib.hid h2
  clear hA hB h1 h2
  go_enter Try.func76, Try.ntmps76
  go_wp2
  go_loopg [13] n (fun g i wr => ∃ k : Nat, Hid (k + g = n) ∧ k ≤ n ∧ i = .int .i64 k ∧ Hid (l1.take k = l2.take k) ∧ Below w.heap.size w wr)
  case atStart => exact ⟨0, Nat.zero_add _, Nat.zero_le _, rfl, rfl, Below.refl _ _⟩
  case round =>
    obtain ⟨k, HG, hk, rfl, HI, hb⟩ := hrel
    by_cases hlt : k < n
    · have hk1 : k < l1.length := by have := H1.out; omega
      have hk2 : k < l2.length := by have := H2.out; omega
      obtain ⟨b1, o1, rfl, hw1, hL1⟩ := HA.out (by omega)
      obtain ⟨b2, o2, rfl, hw2, hL2⟩ := HB.out (by omega)
      have c1 := (hL1.below hb hw1).str hk1
      have c2 := (hL2.below hb hw2).str hk2
      by_cases he : l1[k] = l2[k]
      · have HN := Lib.hid (take_next HI.out hk1 hk2 he)
        rw [← he] at c2
        clear he
        go_wp2
        go_region
        go_wp2
        go_roundg (n - (k + 1))
        case rel => exact ⟨k + 1, (by show _ = _; omega), by omega, by go_num, HN, hb.drew⟩
        case measure => have := HG.out; omega
      · have hne := sB_ne he
        have HN := Lib.hid (show l1 ≠ l2 from fun e => he (by subst e; rfl))
        clear he
        go_wp2
        go_region
        go_wp2
        go_ret
        exact ⟨by rw [decide_eq_false HN.out]; rfl, hb.drew⟩
    · obtain rfl : k = n := by omega
      have HN := Lib.hid (show l1 = l2 by have h := HI.out; rwa [List.take_of_length_le (by rw [H1.out]; omega), List.take_of_length_le (by rw [H2.out]; omega)] at h)
      go_wp2
      go_ret
      exact ⟨by rw [decide_eq_true HN.out]; rfl, hb⟩
theorem sEqual_any (A B : Option Addr) (c d : Nat) (l1 l2 : List (List UInt8)) (w : World) (hl : l1.length ≤ 1073741824) (hA : Seen eS w A l1) (hB : Seen eS w B l2) :
    Calls Try.prog 76 #[.slice A l1.length c, .slice B l2.length d] w (BoolS w (decide (l1 = l2))) := by
  by_cases h : l1.length = l2.length
  · rw [h]; exact sEqual_long A B c d l1 l2 l2.length w (by omega) hA hB h rfl
  · rw [decide_eq_false (fun e => h (by rw [e]))]; exact sEqual_short A B c d _ _ w h
end Go.Proofs.Ytjgogjamkbmcjaa

namespace Go.Proofs.Ytjgogjamkbmcjaa
open Go.RowKit

set_option maxRecDepth 100000 in
theorem clone_nil (w : World) : Calls Try.prog 62 #[.slice none 0 0] w (fun e w' => e = .returned (.slice none 0 0) ∧ w = w') := by
  have q := fun (w : World) (a : Option Addr) (n c : Nat) => Lib.run_eql_slice_nil (P := Try.prog) w 49 _ a n c 0 0 Try.underlying49
  go_enter Try.func62, Try.ntmps62
  go_wp2
  go_ret
  exact ⟨rfl, rfl⟩
theorem Own.empty {α : Type} (E : Elem α) (w : World) : Own E (w.alloc (.cells #[] E.T)) w.heap.size (.slice (some ⟨w.heap.size, 0, none⟩) 0 0) [] :=
  ⟨by simp [cellsG], .inr ⟨w.heap.size, 0, #[], rfl, Nat.le_refl _, heap_alloc_new w _, Nat.le_refl _, by decide, by simp, by simp [cellsG]⟩⟩
set_option maxRecDepth 100000 in
theorem clone_some (b cap : Nat) (p : T.Pth) (w : World) (hb : b < w.heap.size) (hp : p.length ≤ 1073741824) (h : Holds eS w b 0 p) :
    Calls Try.prog 62 #[.slice (some ⟨b, 0, none⟩) p.length cap] w (fun e w' => ∃ v, e = .returned v ∧ Own eS w' w.heap.size v p ∧ Below w.heap.size w w') := by
  have HH := Lib.hid (h.below ((Below.refl _ _).alloc (Nat.le_refl _) (.cells #[] eS.T)) hb)
  have HO := Lib.hid (Own.empty eS w)
  clear h
  have q := fun (w : World) (a : Option Addr) (n c : Nat) => Lib.run_eql_slice_nil (P := Try.prog) w 49 _ a n c 0 0 Try.underlying49
  go_enter Try.func62, Try.ntmps62
  go_wp2_with (first | (at_builtin; refine wpList_appSrc eS (w.alloc (.cells #[] eS.T)) rfl (.tmp 5) (.tmp 6) rfl w.heap.size _ [] rfl HO.out b 0 p p.length cap rfl rfl HH.out (by simp; omega) (by simp) ?_; intro v3 w3 hown3 hb3))
  go_ret
  exact ⟨v3, rfl, hown3, ((Below.refl _ _).alloc (Nat.le_refl _) _).trans hb3⟩

/-- A statement, in its two cells: a path in a block of its own, and marks. -/
structure Stm where
  b : Nat
  n : Nat
  cap : Nat
  mark : Int
def eM : Elem Stm where
  st := 48
  T := 84
  sz := 2
  zero := .agg #[.slice none 0 0, .int .i64 0]
  by_ := 32
  C := fun s => [.slice (some ⟨s.b, 0, none⟩) s.n s.cap, .int .i64 s.mark]
  hst := Try.underlying48
  hin := by kernel_rfl
  hzs := rfl
  hsz := by decide
  hby := by decide
  len := fun _ => rfl
  one := fun x u hu => by simp at hu; rcases hu with rfl | rfl <;> rfl
theorem Holds.stm {w : World} {b o : Nat} {l : List Stm} (h : Holds eM w b o l) {i : Nat} (hi : i < l.length) :
    w.cell? ⟨b, o + i * 2, none⟩ = some (.slice (some ⟨l[i].b, 0, none⟩) l[i].n l[i].cap) ∧ w.cell? ⟨b, o + i * 2 + 1, none⟩ = some (.int .i64 l[i].mark) :=
  ⟨h i hi 0 _ rfl, h i hi 1 _ rfl⟩

def rdO (vf vp : Value) (nm : Bool) (mk : Int) : Obj := .cells #[vf, vp, .bool nm, .int .i64 mk] 51
/-- The block g holds a reader. -/
def RdB (w : World) (g : Nat) (vf vp : Value) (nm : Bool) (mk : Int) : Prop := w.heap[g]? = some (rdO vf vp nm mk)
section
variable {w w1 : World} {g : Nat} {vf vp : Value} {nm : Bool} {mk : Int}
theorem RdB.lt (h : RdB w g vf vp nm mk) : g < w.heap.size := (Array.getElem?_eq_some_iff.1 h).1
theorem RdB.new (w : World) (vf vp : Value) (nm : Bool) (mk : Int) : RdB (w.alloc (rdO vf vp nm mk)) w.heap.size vf vp nm mk := by show (w.heap.push _)[w.heap.size]? = _; simp
theorem RdB.cells (h : RdB w g vf vp nm mk) : w.cell? ⟨g, 0, none⟩ = some vf ∧ w.cell? ⟨g, 1, none⟩ = some vp ∧ w.cell? ⟨g, 2, none⟩ = some (.bool nm) ∧ w.cell? ⟨g, 3, none⟩ = some (.int .i64 mk) := by
  unfold RdB rdO at h
  refine ⟨?_, ?_, ?_, ?_⟩ <;> rw [Lib.cell_of_heap h] <;> rfl
theorem RdB.free (h : RdB w g vf vp nm mk) (j : Nat) : w.frozen? ⟨g, j, none⟩ = false := by
  unfold RdB rdO at h
  exact Lib.frozen_of_heap h j
theorem RdB.below (h : RdB w g vf vp nm mk) (hb : Below w.heap.size w w1) : RdB w1 g vf vp nm mk := (hb.block g h.lt).trans h
theorem RdB.set0 (h : RdB w g vf vp nm mk) (v : Value) : RdB (w.setCell ⟨g, 0, none⟩ v) g v vp nm mk := by
  unfold RdB at h ⊢
  have hs : (w.setCell ⟨g, 0, none⟩ v).heap = w.heap.modify g (fun o => match o with | .cells c t fz => .cells (c.set! 0 v) t fz | o => o) := rfl
  rw [hs, Array.getElem?_modify, if_pos rfl, h]; rfl
theorem RdB.set1 (h : RdB w g vf vp nm mk) (v : Value) : RdB (w.setCell ⟨g, 1, none⟩ v) g vf v nm mk := by
  unfold RdB at h ⊢
  have hs : (w.setCell ⟨g, 1, none⟩ v).heap = w.heap.modify g (fun o => match o with | .cells c t fz => .cells (c.set! 1 v) t fz | o => o) := rfl
  rw [hs, Array.getElem?_modify, if_pos rfl, h]; rfl
theorem RdB.set2 (h : RdB w g vf vp nm mk) (b : Bool) : RdB (w.setCell ⟨g, 2, none⟩ (.bool b)) g vf vp b mk := by
  unfold RdB at h ⊢
  have hs : (w.setCell ⟨g, 2, none⟩ (.bool b)).heap = w.heap.modify g (fun o => match o with | .cells c t fz => .cells (c.set! 2 (.bool b)) t fz | o => o) := rfl
  rw [hs, Array.getElem?_modify, if_pos rfl, h]; rfl
theorem RdB.set3 (h : RdB w g vf vp nm mk) (m : Int) : RdB (w.setCell ⟨g, 3, none⟩ (.int .i64 m)) g vf vp nm m := by
  unfold RdB at h ⊢
  have hs : (w.setCell ⟨g, 3, none⟩ (.int .i64 m)).heap = w.heap.modify g (fun o => match o with | .cells c t fz => .cells (c.set! 3 (.int .i64 m)) t fz | o => o) := rfl
  rw [hs, Array.getElem?_modify, if_pos rfl, h]; rfl
theorem RdB.grew {α : Type} {E : Elem α} {base : Nat} {v v' : Value} {l : List α} (h : RdB w g vf vp nm mk) (hG : Grew E w w1 base v v' l) (hne : v.ownBlock ≠ some g) : RdB w1 g vf vp nm mk := hG.block h hne
end

/-- What a statement's cells say of a path and its marks. -/
structure StmAt (w : World) (g : Nat) (vf : Value) (s : Stm) (x : T.Pth × Int) : Prop where
  above : g < s.b
  lt : s.b < w.heap.size
  apart : vf.ownBlock ≠ some s.b
  len : x.1.length = s.n
  cap : s.n ≤ s.cap
  mark : s.mark = x.2
  deep : x.1.length ≤ 16
  holds : Holds eS w s.b 0 x.1
structure Found (w : World) (g : Nat) (vf : Value) (L : List Stm) (F : List (T.Pth × Int)) : Prop where
  own : Own eM w (g + 1) vf L
  len : L.length = F.length
  each : ∀ i (h : i < L.length) (h2 : i < F.length), StmAt w g vf L[i] F[i]
def PathV (w : World) (g : Nat) (vf vp : Value) (p : T.Pth) : Prop :=
  (vp = .slice none 0 0 ∧ p = []) ∨ ∃ b cap, vp = .slice (some ⟨b, 0, none⟩) p.length cap ∧ p.length ≤ cap ∧ g < b ∧ b < w.heap.size ∧ vf.ownBlock ≠ some b ∧ Holds eS w b 0 p
/-- The reader in the block g has found what c says; its statements lie in vf. -/
def RdAt (w : World) (g : Nat) (vf : Value) (c : S.CSt) : Prop :=
  ∃ vp L, RdB w g vf vp c.named c.mark ∧ Found w g vf L c.found ∧ PathV w g vf vp c.path ∧ c.path.length ≤ 16 ∧ c.found.length ≤ 200
/-- What a step of the reader leaves as it was. -/
def KeepR (g : Nat) (vf : Value) (w w1 : World) : Prop := Below g w w1 ∧ ∀ (k : Nat) (o : Obj), w.heap[k]? = some o → k ≠ g → vf.ownBlock ≠ some k → w1.heap[k]? = some o

section
variable {w w1 : World} {g : Nat} {vf vp : Value}
theorem StmAt.below {s : Stm} {x : T.Pth × Int} (h : StmAt w g vf s x) (hb : Below w.heap.size w w1) : StmAt w1 g vf s x :=
  ⟨h.above, Nat.lt_of_lt_of_le h.lt hb.size, h.apart, h.len, h.cap, h.mark, h.deep, h.holds.below hb h.lt⟩
theorem Found.below {L : List Stm} {F : List (T.Pth × Int)} (h : Found w g vf L F) (hb : Below w.heap.size w w1) : Found w1 g vf L F :=
  ⟨h.own.keep hb, h.len, fun i h1 h2 => (h.each i h1 h2).below hb⟩
theorem PathV.below {p : T.Pth} (h : PathV w g vf vp p) (hb : Below w.heap.size w w1) : PathV w1 g vf vp p := by
  rcases h with h | ⟨b, cap, h1, h2, h3, h4, h5, h6⟩
  · exact .inl h
  · exact .inr ⟨b, cap, h1, h2, h3, Nat.lt_of_lt_of_le h4 hb.size, h5, h6.below hb h4⟩
theorem RdAt.below {c : S.CSt} (h : RdAt w g vf c) (hb : Below w.heap.size w w1) : RdAt w1 g vf c := by
  obtain ⟨vp, L, h1, h2, h3, h4, h5⟩ := h
  exact ⟨vp, L, h1.below hb, h2.below hb, h3.below hb, h4, h5⟩
theorem RdAt.lt {c : S.CSt} (h : RdAt w g vf c) : g < w.heap.size := by obtain ⟨vp, L, h1, _⟩ := h; exact h1.lt
theorem KeepR.refl (g : Nat) (vf : Value) (w : World) : KeepR g vf w w := ⟨Below.refl _ _, fun _ _ h _ _ => h⟩
theorem KeepR.of (h : Below w.heap.size w w1) (hg : g ≤ w.heap.size) : KeepR g vf w w1 := ⟨h.mono hg, fun k o hk _ _ => by rw [h.block k (Array.getElem?_eq_some_iff.1 hk).1]; exact hk⟩
theorem KeepR.set (h : KeepR g vf w w1) (j : Nat) (v : Value) : KeepR g vf w (w1.setCell ⟨g, j, none⟩ v) :=
  ⟨h.1.setCell (Nat.le_refl _) _, fun k o hk hne hv => by rw [Below.heap_setCell _ _ _ _ (fun e => hne e)]; exact h.2 k o hk hne hv⟩
end
end Go.Proofs.Ytjgogjamkbmcjaa

namespace Go.Proofs.Ytjgogjamkbmcjaa
open Go.RowKit

theorem begins_any (g : Nat) (vf : Value) (c : S.CSt) (w : World) (h : RdAt w g vf c) :
    Calls Try.prog 22 #[.pointer (some ⟨g, 0, none⟩)] w (fun e w' => e = .returned (.bool (!c.named && decide (c.mark = 0))) ∧ w = w') := by
  obtain ⟨vp, L, hB, _⟩ := h
  obtain ⟨_, _, c2, c3⟩ := hB.cells
  have e : decide (c.mark = 0) = (c.mark == 0) := by rw [Bool.eq_iff_iff]; simp
  rw [e]
  clear hB e
  cases hn : c.named <;> rw [hn] at c2 <;> clear hn
  all_goals
    go_enter Try.func22, Try.ntmps22
    go_wp2
    go_ret
    exact ⟨rfl, rfl⟩

set_option maxRecDepth 100000 in
set_option maxHeartbeats 1000000 in
theorem goesOn_any (g : Nat) (vf : Value) (c : S.CSt) (k : W.Tok) (w : World) (h : RdAt w g vf c) (hk : W.GoodTok k) (hm : 0 ≤ c.mark ∧ c.mark ≤ 3) :
    Calls Try.prog 42 #[.pointer (some ⟨g, 0, none⟩), tokV k] w (BoolS w (S.goesOn c (S.strip k))) := by
  obtain ⟨kd, ps, wo, bt⟩ := k
  obtain ⟨vp, L, hB, hF, hP, hpl, hfl⟩ := h
  have hB1 := hB.below ((Below.refl _ _).alloc (Nat.le_refl _) (.cells #[.int .i64 kd, .int .i64 (ps : Int), .string ⟨wo.toArray⟩, .int .i64 bt] 52))
  obtain ⟨_, c1, c2, c3⟩ := hB1.cells
  unfold tokV
  simp only
  generalize (⟨wo.toArray⟩ : ByteArray) = q at *
  have hk2 : (kd = 1 ∧ bt = 0) ∨ ((kd = 2 ∨ kd = 3 ∨ kd = 4) ∧ bt = 0) ∨ (kd = 5 ∧ (bt = 1 ∨ bt = 2)) := by
    rcases hk with ⟨a, _, b⟩ | ⟨a, _, b⟩ | ⟨a, _, b⟩
    · exact .inl ⟨a, b⟩
    · exact .inr (.inl ⟨a, b⟩)
    · exact .inr (.inr ⟨a, b⟩)
  clear hk
  rcases hk2 with ⟨h1, rfl⟩ | ⟨h1, rfl⟩ | ⟨h1, h2⟩
  · skip
    subst h1
    rw [S.go_name rfl]
    clear hB hF hP hpl hfl hm
    cases hn : c.named <;> rw [hn] at c2 <;> clear hn
    all_goals
      go_enter Try.func42, Try.ntmps42
      go_wp2
      go_ret
      exact ⟨rfl, (Below.refl _ _).alloc (Nat.le_refl _) _⟩
  · skip
    by_cases h3 : kd = 3
    · subst h3
      rw [S.go_close rfl]
      have HR := Lib.hid (show RdAt w g vf c from ⟨vp, L, hB, hF, hP, hpl, hfl⟩)
      have hl : ∃ A cap, vp = .slice A c.path.length cap := by
        rcases hP with ⟨h, e⟩ | ⟨b, cap, h, _⟩
        · exact ⟨none, 0, by rw [h, e]; rfl⟩
        · exact ⟨_, _, h⟩
      obtain ⟨A, cap, rfl⟩ := hl
      clear hB hB1 hF hP h1
      have e2 : decide (c.path ≠ []) = decide (0 < c.path.length) := by
        rw [Bool.eq_iff_iff]; cases c.path <;> simp
      rw [e2]
      clear e2
      cases hd : (!c.named && decide (c.mark = 0))
      · go_enter Try.func42, Try.ntmps42
        go_wp2_with (refine (begins_any g vf c _ (HR.out.below ((Below.refl _ _).alloc (Nat.le_refl _) _))).mono ?_; rintro e w' ⟨he, rfl⟩; rw [hd] at he; subst he)
        go_ret
        exact ⟨rfl, (Below.refl _ _).alloc (Nat.le_refl _) _⟩
      · go_enter Try.func42, Try.ntmps42
        go_wp2_with (refine (begins_any g vf c _ (HR.out.below ((Below.refl _ _).alloc (Nat.le_refl _) _))).mono ?_; rintro e w' ⟨he, rfl⟩; rw [hd] at he; subst he)
        go_ret
        exact ⟨rfl, (Below.refl _ _).alloc (Nat.le_refl _) _⟩
    · have h24 : kd = 2 ∨ kd = 4 := by omega
      rw [S.go_other ⟨show kd ≠ 5 by omega, show kd ≠ 1 by omega, show kd ≠ 3 by omega⟩]
      clear hB hF hP hpl hfl hm h1 h3
      rcases h24 with rfl | rfl <;> (cases hn : c.named <;> rw [hn] at c2 <;> clear hn)
      all_goals
        go_enter Try.func42, Try.ntmps42
        go_wp2
        go_ret
        exact ⟨rfl, (Below.refl _ _).alloc (Nat.le_refl _) _⟩
  · skip
    subst h1
    rw [S.go_mark rfl]
    clear hB hF hP hpl hfl
    have hm4 : c.mark = 0 ∨ c.mark = 1 ∨ c.mark = 2 ∨ c.mark = 3 := by omega
    clear hm
    show Calls _ _ _ _ (BoolS w (!c.named && !S.hasBit c.mark bt))
    generalize c.mark = m at c3 hm4 ⊢
    cases hn : c.named <;> rw [hn] at c2 <;> clear hn
    · rcases hm4 with rfl | rfl | rfl | rfl <;> rcases h2 with rfl | rfl
      all_goals
        go_enter Try.func42, Try.ntmps42
        go_wp2
        go_region
        go_wp2
        go_ret
        exact ⟨rfl, ((Below.refl _ _).alloc (Nat.le_refl _) _).drew⟩
    · rcases hm4 with rfl | rfl | rfl | rfl <;> rcases h2 with rfl | rfl
      all_goals
        go_enter Try.func42, Try.ntmps42
        go_wp2
        go_region
        go_wp2
        go_ret
        exact ⟨rfl, ((Below.refl _ _).alloc (Nat.le_refl _) _).drew⟩

/-- The closure of has: is the statement's path the one that the box holds? -/
theorem hasOne_any (pb : Nat) (A : Option Addr) (c : Nat) (p q : T.Pth) (b cap : Nat) (mark : Int) (w : World) (hbox : w.cell? ⟨pb, 0, none⟩ = some (.slice A p.length c)) (hpb : pb < w.heap.size) (hA : Seen eS w A p) (hb : b < w.heap.size) (hq : Holds eS w b 0 q) (hl : q.length ≤ 1073741824) :
    Calls Try.prog 75 #[.agg #[.slice (some ⟨b, 0, none⟩) q.length cap, .int .i64 mark], .pointer (some ⟨pb, 0, none⟩)] w (BoolS w (decide (q = p))) := by
  have hb1 := (Below.refl w.heap.size w).alloc (Nat.le_refl _) (.cells #[.slice (some ⟨b, 0, none⟩) q.length cap, .int .i64 mark] 84)
  have hbox1 := (hb1.cell (p := ⟨pb, 0, none⟩) hpb).trans hbox
  have HA := Lib.hid (hA.below hb1)
  have HQ := Lib.hid ((Holds.seen hq hb).below hb1)
  clear hA hq hbox
  go_enter Try.func75, Try.ntmps75
  go_wp2_with fail
  refine (sEqual_any _ _ _ _ q p _ hl HQ.out HA.out).mono ?_
  rintro e w2 ⟨rfl, hb2⟩
  go_wp2
  go_ret
  exact ⟨rfl, bthen hb1 hb2⟩

theorem hasP_yes {F : List (T.Pth × Int)} {p : T.Pth} {i : Nat} (h : i < F.length) (e : F[i].1 = p) : S.hasP F p = true := by
  unfold S.hasP; rw [List.any_eq_true]; exact ⟨F[i], List.getElem_mem h, decide_eq_true e⟩
theorem hasP_no {F : List (T.Pth × Int)} {p : T.Pth} (h : ∀ i (hi : i < F.length), F[i].1 ≠ p) : S.hasP F p = false := by
  unfold S.hasP; rw [List.any_eq_false]
  intro x hx
  obtain ⟨i, hi, rfl⟩ := List.getElem_of_mem hx
  simpa using h i hi
def RelIx (F : List (T.Pth × Int)) (p : T.Pth) (k : Nat) : Prop := ∀ j (h : j < F.length), j < k → F[j].1 ≠ p
theorem RelIx.next {F : List (T.Pth × Int)} {p : T.Pth} {k : Nat} (h : RelIx F p k) (hk : k < F.length) (e : F[k].1 ≠ p) : RelIx F p (k + 1) := by
  intro j hj hjk
  rcases Nat.lt_or_ge j k with hlt | hge
  · exact h j hj hlt
  · obtain rfl : j = k := by omega
    exact e

set_option maxRecDepth 100000 in
set_option maxHeartbeats 1000000 in
theorem indexFunc_any (g : Nat) (vf : Value) (L : List Stm) (F : List (T.Pth × Int)) (pb : Nat) (A : Option Addr) (c : Nat) (p : T.Pth) (w : World) (hF : Found w g vf L F) (hbox : w.cell? ⟨pb, 0, none⟩ = some (.slice A p.length c)) (hpb : pb < w.heap.size) (hA : Seen eS w A p) (hf : F.length ≤ 200) :
    Calls Try.prog 94 #[vf, .func (.func 75) #[] #[.pointer (some ⟨pb, 0, none⟩)]] w (fun e w' => ∃ i : Int, e = .returned (.int .i64 i) ∧ decide (0 ≤ i) = S.hasP F p ∧ Below w.heap.size w w') := by
  obtain ⟨B, cap, rfl, hcap, hS⟩ := hF.own.seen
  have HLN := Lib.hid hF.len
  have HS := Lib.hid hS
  have HF := Lib.hid hF
  have HA := Lib.hid hA
  have HX := Lib.hid hbox
  clear hS hF hA hbox
  go_enter Try.func94, Try.ntmps94
  go_wp2
  go_loopg [8] L.length (fun gk i wr => ∃ k : Nat, Hid (k + gk = L.length) ∧ k ≤ L.length ∧ i = .int .i64 k ∧ Hid (RelIx F p k) ∧ Below w.heap.size w wr)
  case atStart => exact ⟨0, Nat.zero_add _, Nat.zero_le _, rfl, (fun j h1 h2 => absurd h2 (Nat.not_lt_zero j)), Below.refl _ _⟩
  case round =>
    obtain ⟨k, HG, hk, rfl, HI, hb⟩ := hrel
    by_cases hlt : k < L.length
    · have blt : decide ((k : Int) < (L.length : Int)) = true := decide_eq_true (by omega)
      have hkF : k < F.length := by have := HLN.out; omega
      have hst := HF.out.each k hlt hkF
      obtain ⟨b1, o1, rfl, hw1, hL1⟩ := HS.out (by omega)
      obtain ⟨c0, c1⟩ := (hL1.below hb hw1).stm hlt
      obtain ⟨x, hx⟩ : ∃ x, L[k] = x := ⟨_, rfl⟩
      obtain ⟨y, hy⟩ : ∃ y, F[k] = y := ⟨_, rfl⟩
      rw [hx] at c0 c1 hst
      rw [hy] at hst
      have hcall := hasOne_any pb A c p y.1 x.b x.cap x.mark wr ((hb.cell (p := ⟨pb, 0, none⟩) hpb).trans HX.out) (Nat.lt_of_lt_of_le hpb hb.size) (HA.out.below hb) (Nat.lt_of_lt_of_le hst.lt hb.size) (hst.holds.below hb hst.lt) (by have := hst.deep; omega)
      rw [hst.len] at hcall
      by_cases he : y.1 = p
      · have HN := Lib.hid (hasP_yes (p := p) hkF (by rw [hy]; exact he))
        rw [decide_eq_true he] at hcall
        clear hst hL1 hx hy he
        go_wp2_with fail
        refine hcall.mono ?_
        rintro e w2 ⟨rfl, hb2⟩
        go_wp2
        go_ret
        exact ⟨k, rfl, by rw [HN.out]; simp, bthen hb hb2⟩
      · have HN := Lib.hid (HI.out.next hkF (by rw [hy]; exact he))
        rw [decide_eq_false he] at hcall
        clear hst hL1 hx hy he
        go_wp2_with fail
        refine hcall.mono ?_
        rintro e w2 ⟨rfl, hb2⟩
        go_wp2
        go_roundg (L.length - (k + 1))
        case rel => exact ⟨k + 1, (by show _ = _; omega), by omega, by go_num, HN, bthen hb hb2⟩
        case measure => have := HG.out; omega
    · have blt : decide ((k : Int) < (L.length : Int)) = false := decide_eq_false (by omega)
      have HN := Lib.hid (hasP_no (F := F) (p := p) fun i hi => HI.out i hi (by have := HLN.out; omega))
      go_wp2
      go_ret
      exact ⟨-1, rfl, by rw [HN.out]; rfl, hb⟩
theorem containsFunc_any (g : Nat) (vf : Value) (L : List Stm) (F : List (T.Pth × Int)) (pb : Nat) (A : Option Addr) (c : Nat) (p : T.Pth) (w : World) (hF : Found w g vf L F) (hbox : w.cell? ⟨pb, 0, none⟩ = some (.slice A p.length c)) (hpb : pb < w.heap.size) (hA : Seen eS w A p) (hf : F.length ≤ 200) :
    Calls Try.prog 74 #[vf, .func (.func 75) #[] #[.pointer (some ⟨pb, 0, none⟩)]] w (BoolS w (S.hasP F p)) := by
  have hc := indexFunc_any g vf L F pb A c p w hF hbox hpb hA hf
  clear hF hbox hA
  go_enter Try.func74, Try.ntmps74
  go_wp2_with fail
  refine hc.mono ?_
  rintro e w2 ⟨i, rfl, hi, hb2⟩
  rw [← hi]
  go_wp2
  go_ret
  exact ⟨rfl, hb2⟩
theorem has_any (g : Nat) (vf : Value) (cs : S.CSt) (A : Option Addr) (c : Nat) (p : T.Pth) (w : World) (h : RdAt w g vf cs) (hA : Seen eS w A p) :
    Calls Try.prog 63 #[.pointer (some ⟨g, 0, none⟩), .slice A p.length c] w (BoolS w (S.hasP cs.found p)) := by
  obtain ⟨vp, L, hB, hF, hP, hpl, hfl⟩ := h
  have hb1 := (Below.refl w.heap.size w).alloc (Nat.le_refl _) (.cells #[.slice A p.length c] 49)
  obtain ⟨c0, _, _, _⟩ := (hB.below hb1).cells
  have hc := containsFunc_any g vf L cs.found w.heap.size A c p _ (hF.below hb1) (by simp) (by simp) (hA.below hb1) hfl
  clear hF hA hB hP
  go_enter Try.func63, Try.ntmps63
  go_wp2_with fail
  refine hc.mono ?_
  rintro e w2 ⟨rfl, hb2⟩
  go_wp2
  go_ret
  exact ⟨rfl, bthen hb1 hb2⟩
end Go.Proofs.Ytjgogjamkbmcjaa

namespace Go.Proofs.Ytjgogjamkbmcjaa
open Go.RowKit

theorem wp_app3 {α : Type} (E : Elem α) {o : Oper} {a : Act} {K : Act → World → Prop} {Q : Exit → Act → World → Prop} (w : World) (s x : Operand)
    (ho : o.op = .call { callee := .builtin .append, args := #[s, x], argTypes := #[E.st, E.st] })
    (base : Nat) (v : Value) (l : List α) (hs : a.eval s = v) (hown : Own E w base v l) (t : α) (cap : Nat) (cs : Array Value) (hcs : cs.toList = E.C t)
    (g : Nat) (hg : w.heap.size = g) (hx : a.eval x = .slice (some ⟨g, 0, none⟩) 1 cap) (hlen : l.length + 1 ≤ 1099511627776) (hb : base ≤ w.heap.size)
    (h : ∀ v' w', Grew E w w' base v v' (l ++ [t]) → K (a.put o.dst v') w') : o.wp Try.prog a (w.alloc (.cells cs E.T)) K Q := by
  subst hg
  obtain ⟨i0, hi0, hz0, hz1, hz2⟩ := info_parts E.hin
  have hby := E.hby
  have hmul : (l.length + 1) * E.by_ ≤ 1099511627776 * 64 := Nat.mul_le_mul hlen hby
  obtain ⟨v', w', hr, h1, h2, _, h3⟩ := run_append_own_at (P := Try.prog) (w := w.alloc (.cells cs E.T)) base E.st o.type E.T i0 _ E.sz E.by_ E.hst hi0 hz0 hz1 hz2 E.hzs E.hsz v l.length (cellsG E l) (World.ownsRow.alloc hown _) ⟨w.heap.size, 0, none⟩ 1 cap (cellsG E [t])
    (by rw [cellsG_len]; rfl) (fun j u hu => new_cellsG E.T w cs (E.C t) hcs j u (by rw [← cellsG_one]; exact hu)) (cellsG_onec E _) (by unfold maxLen; omega) (by omega) (by simp; omega)
  have hG : Grew E w w' base v v' (l ++ [t]) := by
    refine ⟨?_, ⟨h2.os, h2.tape, h2.output, Nat.le_trans (by simp) h2.size, fun k hk hne => ?_⟩, ?_⟩
    · unfold Own; rw [cellsG_append, List.length_append]; exact h1
    · rw [h2.block k (by simp; omega) hne]; exact heap_alloc_old w _ hk
    · rcases h3 with h3 | h3
      · exact .inl h3
      · exact .inr ⟨_, h3, by simp⟩
  unfold Oper.wp execOp
  simp only [ho, resolve, invoke, builtin, Sem.run_bind, Sem.run_pure, Result.andThen_ok, List.map_toArray, List.map_cons, List.map_nil, hs, hx, hr]
  exact h v' w' hG
/-- append of one, in a region that draws: what it leaves of the others. -/
theorem step_app3 {α : Type} (E : Elem α) {ops : Array Oper} {o : Oper} {a : Act} {K : Act → World → Prop} {Q : Exit → Act → World → Prop} {D : Prop} (w : World) (hgd : o.guard = none) (s x : Operand)
    (ho : o.op = .call { callee := .builtin .append, args := #[s, x], argTypes := #[E.st, E.st] })
    (base : Nat) (v : Value) (l : List α) (hs : a.eval s = v) (hown : Own E w base v l) (t : α) (cap : Nat) (cs : Array Value) (hcs : cs.toList = E.C t)
    (g : Nat) (hg : w.heap.size = g) (hx : a.eval x = .slice (some ⟨g, 0, none⟩) 1 cap) (hlen : l.length + 1 ≤ 1099511627776) (hb : base ≤ w.heap.size)
    (h : ∀ v' w', Grew E w w' base v v' (l ++ [t]) → K (a.put o.dst v') w') :
    if Region.wanted o (yielded ops a.tmps) = true then Oper.wp Try.prog o a (w.alloc (.cells cs E.T)).drew K Q else D := by
  have hw : Region.wanted o (yielded ops a.tmps) = true := by simp [Region.wanted, hgd]
  rw [if_pos hw]
  exact wp_app3 E w.drew s x ho base v l hs hown t cap cs hcs g hg hx hlen hb fun v' w' h1 => h v' w' ⟨h1.own, ⟨h1.grown.os, h1.grown.tape, h1.grown.output, h1.grown.size, h1.grown.block⟩, h1.at_⟩

theorem clone_path (g : Nat) (vf vp : Value) (p : T.Pth) (w : World) (h : PathV w g vf vp p) (hp : p.length ≤ 16) :
    Calls Try.prog 62 #[vp] w (fun e w' => ∃ v, e = .returned v ∧ Own eS w' w.heap.size v p ∧ Below w.heap.size w w') := by
  rcases h with ⟨rfl, rfl⟩ | ⟨b, cap, rfl, _, _, hb, _, hh⟩
  · exact (clone_nil w).mono fun e w' ⟨he, hw⟩ => by subst hw; exact ⟨_, he, Own.nil _ _, Below.refl _ _⟩
  · exact clone_some b cap p w hb (by omega) hh

/-- What a step of the reader leaves. -/
def StepS (w : World) (g : Nat) (vf : Value) (r : S.CSt ⊕ Int) (e : Ending) (w' : World) : Prop :=
  match r with
  | .inr er => e = .returned (.int .i64 er) ∧ KeepR g vf w w'
  | .inl c => e = .returned (.int .i64 0) ∧ (∃ vf', RdAt w' g vf' c) ∧ KeepR g vf w w'

theorem Own.block {α : Type} {E : Elem α} {w : World} {base : Nat} {A : Option Addr} {n cap : Nat} {l : List α} (h : Own E w base (.slice A n cap) l) (hl : 0 < l.length) : ∃ b, A = some ⟨b, 0, none⟩ ∧ base ≤ b ∧ b < w.heap.size ∧ Holds E w b 0 l := by
  obtain ⟨A2, cap2, e, _, hs⟩ := h.seen
  injection e with e1 e2 e3
  subst e1
  obtain ⟨b, o, e4, hb, hh⟩ := hs hl
  rcases h.2 with ⟨e5, _⟩ | ⟨g, c, cur, e5, hbg, _⟩
  · injection e5 with e5; rw [e5] at e4; cases e4
  · injection e5 with e5
    rw [e5] at e4
    injection e4 with e4
    injection e4 with e6 e7
    subst e6; subst e7
    exact ⟨g, e5, hbg, hb, hh⟩
theorem holds_of_block {α : Type} {E : Elem α} {w w1 : World} {b o : Nat} {l : List α} (h : Holds E w b o l) (e : w1.heap[b]? = w.heap[b]?) : Holds E w1 b o l := by
  intro i hi j u hu
  rw [← h i hi j u hu]
  unfold World.cell?
  simp only [e]
theorem Found.set {w : World} {g : Nat} {vf : Value} {L : List Stm} {F : List (T.Pth × Int)} (h : Found w g vf L F) (j : Nat) (v : Value) : Found (w.setCell ⟨g, j, none⟩ v) g vf L F := by
  refine ⟨h.own.stored v (fun k hk => by have := (h.own.lt k hk).1; omega), h.len, fun i h1 h2 => ?_⟩
  have hs := h.each i h1 h2
  exact ⟨hs.above, by simpa [World.setCell] using hs.lt, hs.apart, hs.len, hs.cap, hs.mark, hs.deep, holds_of_block hs.holds (Below.heap_setCell _ _ _ _ (fun e => by have := hs.above; simp only at e; omega))⟩
theorem PathV.set {w : World} {g : Nat} {vf vp : Value} {p : T.Pth} (h : PathV w g vf vp p) (j : Nat) (v : Value) : PathV (w.setCell ⟨g, j, none⟩ v) g vf vp p := by
  rcases h with h | ⟨b, cap, h1, h2, h3, h4, h5, h6⟩
  · exact .inl h
  · exact .inr ⟨b, cap, h1, h2, h3, by simpa [World.setCell] using h4, h5, holds_of_block h6 (Below.heap_setCell _ _ _ _ (fun e => by simp only at e; omega))⟩
theorem KeepR.grew {α : Type} {E : Elem α} {w w1 w2 : World} {g base : Nat} {vf vf' : Value} {l l2 : List α} (h : KeepR g vf w w1) (hG : Grew E w1 w2 base vf vf' l) (hv : Own E w1 base vf l2) (hb : base ≤ w1.heap.size) (hg : g ≤ base) : KeepR g vf w w2 :=
  ⟨h.1.trans ((hG.below hv hb).mono hg), fun k o hk hne hv2 => hG.block (h.2 k o hk hne hv2) hv2⟩
theorem KeepR.then {w w1 w2 : World} {g : Nat} {vf : Value} (h : KeepR g vf w w1) (hb : Below w1.heap.size w1 w2) (hg : g ≤ w1.heap.size) : KeepR g vf w w2 :=
  ⟨h.1.trans (hb.mono hg), fun k o hk hne hv => by
    have := h.2 k o hk hne hv
    rw [hb.block k (Array.getElem?_eq_some_iff.1 this).1]; exact this⟩

theorem KeepR.from {w w1 w2 : World} {g : Nat} {vf : Value} (h : KeepR g vf w1 w2) (hb : Below w.heap.size w w1) (hg : g ≤ w.heap.size) : KeepR g vf w w2 :=
  ⟨(hb.mono hg).trans h.1, fun k o hk hne hv => h.2 k o (by rw [hb.block k (Array.getElem?_eq_some_iff.1 hk).1]; exact hk) hne hv⟩

theorem name_mem (g : Nat) (vf vf' : Value) (L : List Stm) (F : List (T.Pth × Int)) (p : T.Pth) (mk : Int) (b cap : Nat) (w4 w5 : World) (n0 : Nat)
    (hF : Found w4 g vf L F) (hg : g < n0) (hn0 : n0 ≤ b) (hfb : ∀ k, vf.ownBlock = some k → k < n0) (hb : b < w4.heap.size) (hcap : p.length ≤ cap) (hdeep : p.length ≤ 16) (hH : Holds eS w4 b 0 p)
    (hG : Grew eM w4 w5 (g + 1) vf vf' (L ++ [⟨b, p.length, cap, mk⟩])) :
    Found w5 g vf' (L ++ [⟨b, p.length, cap, mk⟩]) (F ++ [(p, mk)]) ∧ PathV w5 g vf' (.slice (some ⟨b, 0, none⟩) p.length cap) p := by
  have keepH : ∀ (s : Nat) (q : T.Pth), s < w4.heap.size → vf.ownBlock ≠ some s → Holds eS w4 s 0 q → Holds eS w5 s 0 q := fun s q hs hne hh => holds_of_block hh (hG.grown.block s hs (fun e => hne e.symm))
  have apart : ∀ s, s < w4.heap.size → vf.ownBlock ≠ some s → vf'.ownBlock ≠ some s := by
    intro s hs hne e
    rcases hG.at_ with h3 | ⟨k, h3, h4⟩
    · exact hne (h3 ▸ e)
    · rw [h3] at e; injection e with e; omega
  have hbne : vf.ownBlock ≠ some b := fun e => by have := hfb b e; omega
  have hsz := hG.grown.size
  refine ⟨⟨hG.own, by rw [List.length_append, List.length_append, hF.len]; rfl, fun i h1 h2 => ?_⟩, .inr ⟨b, cap, rfl, hcap, by omega, by omega, apart b hb hbne, keepH b _ hb hbne hH⟩⟩
  rw [List.length_append, List.length_singleton] at h1
  have hlen := hF.len
  by_cases hi : i < L.length
  · have hi2 : i < F.length := by omega
    have hst := hF.each i hi hi2
    rw [List.getElem_append_left hi, List.getElem_append_left hi2]
    exact ⟨hst.above, by have := hst.lt; omega, apart _ hst.lt hst.apart, hst.len, hst.cap, hst.mark, hst.deep, keepH _ _ hst.lt hst.apart hst.holds⟩
  · obtain rfl : i = L.length := by omega
    have e2 : (F ++ [(p, mk)])[L.length]'h2 = (p, mk) := by
      rw [List.getElem_append_right (by omega)]; simp [hlen]
    rw [List.getElem_append_right (Nat.le_refl _), e2]
    simp only [Nat.sub_self, List.getElem_singleton]
    exact ⟨by show g < b; omega, by show b < _; omega, apart b hb hbne, rfl, hcap, rfl, hdeep, keepH b _ hb hbne hH⟩

set_option maxRecDepth 100000 in
set_option maxHeartbeats 2000000 in
theorem name_any (g : Nat) (vf : Value) (c : S.CSt) (wd : List UInt8) (w : World) (h : RdAt w g vf c) :
    Calls Try.prog 43 #[.pointer (some ⟨g, 0, none⟩), .string (sB wd)] w (StepS w g vf (S.cname c wd)) := by
  have HR := Lib.hid h
  obtain ⟨vp, L, hB, hF, hP, hpl, hfl⟩ := h
  have hgw := hB.lt
  have hfb : ∀ k, vf.ownBlock = some k → k < w.heap.size := fun k hk => (hF.own.lt k hk).2
  obtain ⟨B, capf, rfl, _, _⟩ := hF.own.seen
  obtain ⟨_, c1, _, _⟩ := hB.cells
  obtain ⟨p2, hp2⟩ : ∃ p2, c.path ++ [wd] = p2 := ⟨_, rfl⟩
  have hp2l : p2.length = c.path.length + 1 := by rw [← hp2]; simp
  have hcl := clone_path g _ vp c.path w hP hpl
  have HB := Lib.hid hB
  have HF := Lib.hid hF
  have HP2 := Lib.hid hp2
  have HL2 := Lib.hid hp2l
  clear hB hF hP hp2l
  obtain ⟨r, hr⟩ : ∃ r, S.cname c wd = r := ⟨_, rfl⟩
  have HRR := Lib.hid hr
  unfold S.cname at hr
  rw [hp2] at hr
  have HC := Lib.hid hr
  rw [HRR.out]
  clear hp2 hr
  go_enter Try.func43, Try.ntmps43
  go_wp2_with fail
  refine hcl.mono ?_
  rintro e w1 ⟨v1, rfl, hown1, hb1⟩
  have hs1 := hb1.size
  by_cases h16 : 16 < c.path.length + 1
  · have b16 : decide ((16 : Int) < (p2.length : Int)) = true := decide_eq_true (by have := HL2.out; omega)
    have HE := Lib.hid (show r = .inr 6 by rw [← HC.out, if_pos h16])
    clear h16
    go_wp2_with (first | (at_builtin; refine wpList_appG eS w1 rfl (.tmp 10) (.tmp 12) rfl w.heap.size v1 c.path rfl hown1 wd 1 #[.string (sB wd)] rfl w1.heap.size rfl rfl (by omega) hs1 ?_; intro v2 w2 hown2 hb2; rw [HP2.out] at hown2; obtain ⟨A2, cap2, rfl, hcap2, hS2⟩ := hown2.seen))
    go_ret
    rw [HE.out]
    exact ⟨rfl, KeepR.of (hb1.trans hb2) (Nat.le_of_lt hgw)⟩
  · have b16 : decide ((16 : Int) < (p2.length : Int)) = false := decide_eq_false (by have := HL2.out; omega)
    have H16 := Lib.hid h16
    clear h16
    go_wp2_with (first | (at_builtin; refine wpList_appG eS w1 rfl (.tmp 10) (.tmp 12) rfl w.heap.size v1 c.path rfl hown1 wd 1 #[.string (sB wd)] rfl w1.heap.size rfl rfl (by omega) hs1 ?_; intro v2 w2 hown2 hb2; rw [HP2.out] at hown2; obtain ⟨A2, cap2, rfl, hcap2, hS2⟩ := hown2.seen) | fail)
    have hb12 := hb1.trans hb2
    have hs2 := hb2.size
    have hc := has_any g _ c A2 cap2 p2 w2 (HR.out.below hb12) hS2
    obtain ⟨b, rfl, hbb, hbw, hH2⟩ := hown2.block (by have := HL2.out; omega)
    cases hh : S.hasP c.found p2
    · rw [hh] at hc
      by_cases h200 : 200 ≤ c.found.length
      · have HE := Lib.hid (show r = .inr 5 by rw [← HC.out, if_neg H16.out, if_neg (by rw [hh]; decide), if_pos h200])
        have b200 : decide ((200 : Int) ≤ (L.length : Int)) = true := decide_eq_true (by have := HF.out.len; omega)
        clear h200 hh hS2 hown2 hH2
        refine hc.mono ?_
        rintro e w3 ⟨rfl, hb3⟩
        obtain ⟨c0, _, _, _⟩ := (HB.out.below (hb12.trans (hb3.mono (by omega)))).cells
        go_wp2
        go_ret
        rw [HE.out]
        exact ⟨rfl, KeepR.of (hb12.trans (hb3.mono (by omega))) (Nat.le_of_lt hgw)⟩
      · have HE := Lib.hid (show r = .inl ⟨c.found ++ [(p2, c.mark)], p2, true, 0⟩ by rw [← HC.out, if_neg H16.out, if_neg (by rw [hh]; decide), if_neg h200])
        have b200 : decide ((200 : Int) ≤ (L.length : Int)) = false := decide_eq_false (by have := HF.out.len; omega)
        have H200 := Lib.hid h200
        have HLN := Lib.hid HF.out.len
        clear h200 hh hS2 hown2
        refine hc.mono ?_
        rintro e w3 ⟨rfl, hb3⟩
        have hb13 := hb12.trans (hb3.mono (by omega))
        have hs3 := hb3.size
        have HB3 := Lib.hid (HB.out.below hb13)
        have hF3 := HF.out.below hb13
        have hH3 := hH2.below hb3 hbw
        have hbw3 : b < w3.heap.size := by omega
        have hK3 := KeepR.of (vf := .slice B L.length capf) hb13 (Nat.le_of_lt hgw)
        obtain ⟨c0, _, _, c3⟩ := HB3.out.cells
        obtain ⟨a0, _, _, a3⟩ := (HB3.out.below ((Below.refl _ _).alloc (Nat.le_refl _) (.cells #[.slice (some ⟨b, 0, none⟩) p2.length cap2, .int .i64 c.mark] 84))).cells
        have hdeep : p2.length ≤ 16 := by have := H16.out; have := HL2.out; omega
        have hLl : L.length + 1 ≤ 1099511627776 := by have := HLN.out; omega
        clear hH2
        go_wp2
        go_region_law (refine step_app3 eM w3 rfl (.tmp 33) (.tmp 40) rfl (g + 1) (.slice B L.length capf) L rfl hF3.own ⟨b, p2.length, cap2, c.mark⟩ 1 _ rfl w3.heap.size rfl rfl hLl (by omega) ?_; intro v5 w5 hG; obtain ⟨A5, cap5, rfl, _, _⟩ := hG.own.seen; have HG := Lib.hid hG; have hR5 := HB3.out.grew hG (fun e => by have := (hF3.own.lt g e).1; omega); obtain ⟨d0, _, _, _⟩ := hR5.cells; have f0 := hR5.free 0)
        all_goals
          have hN := name_mem g (.slice B L.length capf) _ L c.found p2 c.mark b cap2 w3 w5 w.heap.size hF3 hgw hbb hfb hbw3 hcap2 hdeep hH3 HG.out
          rw [show (L ++ [(⟨b, p2.length, cap2, c.mark⟩ : Stm)]).length = L.length + 1 by simp] at hN
          have hR6 := hR5.set0 (.slice A5 (L.length + 1) cap5)
          have hR7 := hR6.set1 (.slice (some ⟨b, 0, none⟩) p2.length cap2)
          have hR8 := hR7.set2 true
          obtain ⟨_, e1, _, _⟩ := hR6.cells
          have f1 := hR6.free 1
          obtain ⟨_, _, e2, _⟩ := hR7.cells
          have f2 := hR7.free 2
          obtain ⟨_, _, _, e3⟩ := hR8.cells
          have f3 := hR8.free 3
          have hK5 := hK3.grew HG.out hF3.own (by omega) (by omega)
          have HN := Lib.hid hN
          have HR8 := Lib.hid hR8
          have HK5 := Lib.hid hK5
          clear hN hR5 hR6 hR7 hR8 hK5 hF3 hH3 hc
          go_wp2
          go_ret
          rw [HE.out]
          exact ⟨rfl, ⟨.slice A5 (L.length + 1) cap5, _, L ++ [⟨b, p2.length, cap2, c.mark⟩], HR8.out.set3 0, (((HN.out.1.set 0 _).set 1 _).set 2 _).set 3 _, (((HN.out.2.set 0 _).set 1 _).set 2 _).set 3 _, hdeep, by have := H200.out; simp; omega⟩, (((HK5.out.set 0 _).set 1 _).set 2 _).set 3 _⟩
    · rw [hh] at hc
      have HE := Lib.hid (show r = .inr 4 by rw [← HC.out, if_neg H16.out, if_pos hh])
      clear hh hS2 hown2 hH2
      refine hc.mono ?_
      rintro e w3 ⟨rfl, hb3⟩
      go_wp2
      go_ret
      rw [HE.out]
      exact ⟨rfl, KeepR.of (hb12.trans (hb3.mono (by omega))) (Nat.le_of_lt hgw)⟩

theorem KeepR.drew {w w1 : World} {g : Nat} {vf : Value} (h : KeepR g vf w w1) : KeepR g vf w w1.drew := ⟨h.1.drew, h.2⟩
theorem RdAt.drew {w : World} {g : Nat} {vf : Value} {c : S.CSt} (h : RdAt w g vf c) : RdAt w.drew g vf c := h.below ((Below.refl _ _).drew)
theorem rd_set3 {w : World} {g : Nat} {vf vp : Value} {L : List Stm} {cf : List (T.Pth × Int)} {cp : T.Pth} {cn : Bool} {cm m m' : Int} (hB : RdB w g vf vp cn cm) (hF : Found w g vf L cf) (hP : PathV w g vf vp cp) (hpl : cp.length ≤ 16) (hfl : cf.length ≤ 200) (e : m = m') :
    RdAt (w.setCell ⟨g, 3, none⟩ (.int .i64 m)).drew g vf ⟨cf, cp, cn, m'⟩ := by
  subst e
  exact RdAt.drew ⟨vp, L, hB.set3 _, hF.set 3 _, hP.set 3 _, hpl, hfl⟩
theorem PathV.drop {w : World} {g : Nat} {vf vp : Value} {p : T.Pth} (h : PathV w g vf vp p) (hp : p ≠ []) : ∃ b cap n, p.length = n + 1 ∧ vp = .slice (some ⟨b, 0, none⟩) (n + 1) cap ∧ n + 1 ≤ cap ∧ PathV w g vf (.slice (some ⟨b, 0, none⟩) n cap) p.dropLast := by
  rcases h with ⟨_, e⟩ | ⟨b, cap, h1, h2, h3, h4, h5, h6⟩
  · exact absurd e hp
  · obtain ⟨n, hn⟩ : ∃ n, p.length = n + 1 := ⟨p.length - 1, by have := List.length_pos_iff.2 hp; omega⟩
    have hd : p.dropLast.length = n := by rw [List.length_dropLast]; omega
    refine ⟨b, cap, n, hn, by rw [h1, hn], by omega, .inr ⟨b, cap, by rw [hd], by omega, h3, h4, h5, ?_⟩⟩
    rw [List.dropLast_eq_take]
    exact h6.take _

set_option maxRecDepth 100000 in
set_option maxHeartbeats 2000000 in
theorem take_step (g : Nat) (vf : Value) (c : S.CSt) (k : W.Tok) (w : World) (h : RdAt w g vf c) (hk : W.GoodTok k) (hm : 0 ≤ c.mark ∧ c.mark ≤ 3) (hne : c.named = true → c.path ≠ []) :
    Calls Try.prog 21 #[.pointer (some ⟨g, 0, none⟩), tokV k] w (StepS w g vf (S.cstep c (S.strip k))) := by
  have hgw := h.lt
  have hk0 := hk
  obtain ⟨kd, ps, wo, bt⟩ := k
  have hb1 : Below w.heap.size w (w.alloc (.cells #[.int .i64 kd, .int .i64 (ps : Int), .string ⟨wo.toArray⟩, .int .i64 bt] 52)) := (Below.refl _ _).alloc (Nat.le_refl _) _
  have hgo := goesOn_any g vf c ⟨kd, ps, wo, bt⟩ _ (h.below hb1) hk hm
  obtain ⟨r, hr⟩ : ∃ r, S.cstep c (S.strip ⟨kd, ps, wo, bt⟩) = r := ⟨_, rfl⟩
  rw [hr]
  have HRR := Lib.hid hr
  have H := Lib.hid h
  clear hr h
  show Calls _ _ #[.pointer (some ⟨g, 0, none⟩), .agg #[.int .i64 kd, .int .i64 (ps : Int), .string (sB wo), .int .i64 bt]] _ _
  change Calls _ _ #[.pointer (some ⟨g, 0, none⟩), .agg #[.int .i64 kd, .int .i64 (ps : Int), .string (sB wo), .int .i64 bt]] (w.alloc (.cells #[.int .i64 kd, .int .i64 (ps : Int), .string (sB wo), .int .i64 bt] 52)) _ at hgo
  change Below w.heap.size w (w.alloc (.cells #[.int .i64 kd, .int .i64 (ps : Int), .string (sB wo), .int .i64 bt] 52)) at hb1
  cases hg : S.goesOn c (S.strip ⟨kd, ps, wo, bt⟩)
  · rw [hg] at hgo
    have HE := Lib.hid (show r = .inr 2 by rw [← HRR.out, S.cstep_no hg])
    clear hg hk hk0 hne hm
    go_enter Try.func21, Try.ntmps21
    go_wp2_with fail
    refine hgo.mono ?_
    rintro e w2 ⟨rfl, hb2⟩
    go_wp2
    go_ret
    rw [HE.out]
    exact ⟨rfl, KeepR.of (bthen hb1 hb2) (Nat.le_of_lt hgw)⟩
  · rw [hg] at hgo
    have HG := Lib.hid hg
    clear hg
    have hblk : w.heap.size < (w.alloc (.cells #[.int .i64 kd, .int .i64 (ps : Int), .string (sB wo), .int .i64 bt] 52)).heap.size := by simp
    have cell : ∀ (w2 : World) (j : Nat), Below (w.alloc (.cells #[.int .i64 kd, .int .i64 (ps : Int), .string (sB wo), .int .i64 bt] 52)).heap.size (w.alloc (.cells #[.int .i64 kd, .int .i64 (ps : Int), .string (sB wo), .int .i64 bt] 52)) w2 → w2.cell? ⟨w.heap.size, j, none⟩ = #[Value.int .i64 kd, .int .i64 (ps : Int), .string (sB wo), .int .i64 bt][j]? := fun w2 j hb => blk_cell hb j
    by_cases h1 : kd = 1
    · subst h1
      have HE := Lib.hid (show r = S.cname c wo by rw [← HRR.out, S.cstep_name HG.out rfl]; rfl)
      clear hk hk0 hne hm
      go_enter Try.func21, Try.ntmps21
      go_wp2_with fail
      refine hgo.mono ?_
      rintro e w2 ⟨rfl, hb2⟩
      have hb12 := bthen hb1 hb2
      have k0 := cell w2 0 hb2
      have k2 := cell w2 2 hb2
      simp only [List.getElem?_toArray, List.getElem?_cons_zero, List.getElem?_cons_succ] at k0 k2
      have hN := name_any g vf c wo w2 (H.out.below hb12)
      clear cell
      go_wp2_with fail
      refine hN.mono ?_
      intro e w3 hS
      have HS := Lib.hid hS
      clear hS
      cases hcn : S.cname c wo with
      | inr er =>
        have h2 := HS.out
        rw [hcn] at h2
        obtain ⟨rfl, hK⟩ := h2
        go_wp2
        go_ret
        rw [HE.out, hcn]
        exact ⟨rfl, hK.from hb12 (Nat.le_of_lt hgw)⟩
      | inl c2 =>
        have h2 := HS.out
        rw [hcn] at h2
        obtain ⟨rfl, hR, hK⟩ := h2
        go_wp2
        go_ret
        rw [HE.out, hcn]
        exact ⟨rfl, hR, hK.from hb12 (Nat.le_of_lt hgw)⟩
    · have hbt : kd = 5 ∧ (bt = 1 ∨ bt = 2) ∨ ((kd = 2 ∨ kd = 3 ∨ kd = 4) ∧ bt = 0) := by
        rcases hk0 with ⟨a, _⟩ | ⟨a, _, b⟩ | ⟨a, _, b⟩
        · exact absurd a h1
        · exact .inr ⟨a, b⟩
        · exact .inl ⟨a, b⟩
      clear hk hk0
      rcases hbt with ⟨rfl, hbt⟩ | ⟨hkd, rfl⟩
      · have HE := Lib.hid (show r = .inl ⟨c.found, c.path, c.named, c.mark + bt⟩ by rw [← HRR.out, S.cstep_mark HG.out rfl]; rfl)
        have hng : S.hasBit c.mark bt = false := by
          have := HG.out
          rw [S.go_mark rfl] at this
          cases hb : S.hasBit c.mark bt
          · rfl
          · simp [S.strip, hb] at this
        have hpair : (c.mark = 0 ∧ bt = 1) ∨ (c.mark = 0 ∧ bt = 2) ∨ (c.mark = 1 ∧ bt = 2) ∨ (c.mark = 2 ∧ bt = 1) := by
          unfold S.hasBit at hng
          have := of_decide_eq_false hng
          have hm4 : c.mark = 0 ∨ c.mark = 1 ∨ c.mark = 2 ∨ c.mark = 3 := by omega
          rcases hm4 with e | e | e | e <;> rcases hbt with f | f <;> simp [e, f] at this ⊢
        clear hng hbt hm hne h1
        obtain ⟨cf, cp, cn, cm⟩ := c
        simp only at hpair HE
        rcases hpair with ⟨rfl, rfl⟩ | ⟨rfl, rfl⟩ | ⟨rfl, rfl⟩ | ⟨rfl, rfl⟩
        all_goals
          go_enter Try.func21, Try.ntmps21
          go_wp2_with fail
          refine hgo.mono ?_
          rintro e w2 ⟨rfl, hb2⟩
          have hb12 := bthen hb1 hb2
          have k0 := cell w2 0 hb2
          have k3 := cell w2 3 hb2
          simp only [List.getElem?_toArray, List.getElem?_cons_zero, List.getElem?_cons_succ] at k0 k3
          have h2 := H.out.below hb12
          obtain ⟨vp, L, hB, hF, hP, hpl, hfl⟩ := h2
          have HB := Lib.hid hB
          have HF := Lib.hid hF
          have HP := Lib.hid hP
          obtain ⟨_, _, _, c3⟩ := hB.cells
          have f3 := hB.free 3
          clear cell hB hF hP
          go_wp2
          go_region
          go_wp2
          go_ret
          rw [HE.out]
          exact ⟨rfl, ⟨vf, rd_set3 HB.out HF.out HP.out hpl hfl (by decide)⟩, ((KeepR.of hb12 (Nat.le_of_lt hgw)).set 3 _).drew⟩
      · have hopen : kd = 2 ∨ (kd ≠ 5 ∧ kd ≠ 1 ∧ kd ≠ 2) := by omega
        rcases hopen with rfl | hopen
        · have HE := Lib.hid (show r = .inl ⟨c.found, c.path, false, c.mark⟩ by rw [← HRR.out, S.cstep_open HG.out rfl])
          clear hm hne h1 hkd
          go_enter Try.func21, Try.ntmps21
          go_wp2_with fail
          refine hgo.mono ?_
          rintro e w2 ⟨rfl, hb2⟩
          have hb12 := bthen hb1 hb2
          have k0 := cell w2 0 hb2
          simp only [List.getElem?_toArray, List.getElem?_cons_zero] at k0
          have h2 := H.out.below hb12
          obtain ⟨vp, L, hB, hF, hP, hpl, hfl⟩ := h2
          have HB := Lib.hid hB
          have HF := Lib.hid hF
          have HP := Lib.hid hP
          obtain ⟨_, _, c2, _⟩ := hB.cells
          have f2 := hB.free 2
          clear cell hB hF hP
          go_wp2
          go_ret
          rw [HE.out]
          exact ⟨rfl, ⟨vf, vp, L, HB.out.set2 _, HF.out.set 2 _, HP.out.set 2 _, hpl, hfl⟩, (KeepR.of hb12 (Nat.le_of_lt hgw)).set 2 _⟩
        · have HE := Lib.hid (show r = .inl ⟨c.found, c.path.dropLast, false, c.mark⟩ by rw [← HRR.out, S.cstep_end HG.out hopen])
          have hpne : c.path ≠ [] := by
            by_cases h3 : kd = 3
            · have := HG.out
              rw [S.go_close h3] at this
              simp only [Bool.and_eq_true] at this
              exact of_decide_eq_true this.2
            · have := HG.out
              rw [S.go_other ⟨hopen.1, hopen.2.1, h3⟩] at this
              exact hne this
          have h34 : kd = 3 ∨ kd = 4 := by omega
          clear hm hne h1 hkd hopen
          rcases h34 with rfl | rfl
          all_goals
            go_enter Try.func21, Try.ntmps21
            go_wp2_with fail
            refine hgo.mono ?_
            rintro e w2 ⟨rfl, hb2⟩
            have hb12 := bthen hb1 hb2
            have k0 := cell w2 0 hb2
            simp only [List.getElem?_toArray, List.getElem?_cons_zero] at k0
            have h2 := H.out.below hb12
            obtain ⟨vp, L, hB, hF, hP, hpl, hfl⟩ := h2
            obtain ⟨b, cap, n, hn, rfl, hcap, hPd⟩ := hP.drop hpne
            have HB := Lib.hid hB
            have HF := Lib.hid hF
            have HPD := Lib.hid hPd
            have HN := Lib.hid hn
            obtain ⟨_, c1, c2, _⟩ := hB.cells
            have f2 := hB.free 2
            have hB2 := hB.set2 false
            obtain ⟨_, d1, _, _⟩ := hB2.cells
            have f1 := hB2.free 1
            have e1 : IntKind.i64.wrap (n : Int) = (n : Int) := wrapI _ (by omega)
            have e2 : (n : Int) ≤ (cap : Int) := by omega
            clear cell hB hF hP hPd hn hpne hB2
            go_wp2
            go_region
            go_wp2
            go_ret
            rw [HE.out]
            exact ⟨rfl, ⟨vf, RdAt.drew ⟨_, L, (HB.out.set2 false).set1 _, (HF.out.set 2 _).set 1 _, (HPD.out.set 2 _).set 1 _, by rw [List.length_dropLast]; show c.path.length - 1 ≤ 16; omega, hfl⟩⟩, (((KeepR.of hb12 (Nat.le_of_lt hgw)).set 2 _).set 1 _).drew⟩
end Go.Proofs.Ytjgogjamkbmcjaa
