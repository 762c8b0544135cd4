/-
  Contracts of the leaves of layer 5: cmp.Compare and slices.Compare of words, slices.Equal and slices.Clone of paths. Condition: paths of at most 2^30 words.
  What a reader of layer 5 holds in memory: its block, the statements that it has found, the paths of each; slices.Clone of a path. Condition: paths of at most 2^30 words.
  Contracts of layer 5's begins, goesOn and has: what each says of a reader; below the heap's size at the call the world is as it was. No conditions but tokens as layer 2 has them.
  Contracts of layer 5's name and take: a step of the reader is what the plain definition says, and what it leaves as it was. No conditions but tokens as layer 2 has them.
-/
import Derived.Test.YtkifapbiimlafaaTreeE
import Derived.Test.YtkifapbiimlafaaOwnMany
import Derived.Test.YtkifapbiimlafaaPureP
import Derived.Deep.LoopGhost
import Derived.WalkMore
import Derived.Test.YtkifapbiimlafaaLexAwake
import Derived.RegionTactic

namespace Go.Proofs.Ytkifapbiimlafaa
open Go.RowKit

def cmpW (a b : List UInt8) : Int := if Op.bytesLess a b = true then -1 else if Op.bytesLess b a = true then 1 else 0
def cmpP : T.Pth → T.Pth → Int
  | [], [] => 0
  | [], _ :: _ => -1
  | _ :: _, [] => 1
  | a :: p, b :: q => if cmpW a b = 0 then cmpP p q else cmpW a b
theorem cmpW_self (a : List UInt8) : cmpW a a = 0 := by unfold cmpW; rw [T.less_irr]; rfl
theorem cmpW_zero {a b : List UInt8} : cmpW a b = 0 ↔ a = b := by
  constructor
  · intro h
    unfold cmpW at h
    split at h
    · cases h
    · rename_i h1
      split at h
      · cases h
      · rename_i h2
        rcases T.less_tri a b with h3 | h3 | h3
        · exact absurd h3 h1
        · exact h3
        · exact absurd h3 h2
  · rintro rfl; exact cmpW_self a
theorem cmpW_neg {a b : List UInt8} : cmpW a b < 0 ↔ Op.bytesLess a b = true := by
  unfold cmpW
  by_cases h : Op.bytesLess a b = true
  · rw [if_pos h]; simp [h]
  · rw [if_neg h]
    by_cases h2 : Op.bytesLess b a = true
    · rw [if_pos h2]; simp [h]
    · rw [if_neg h2]; simp [h]
theorem cmpP_neg : ∀ p q : T.Pth, cmpP p q < 0 ↔ T.pless p q = true
  | [], [] => by simp [cmpP, T.pless]
  | [], _ :: _ => by simp [cmpP, T.pless]
  | _ :: _, [] => by simp [cmpP, T.pless]
  | a :: p, b :: q => by
    rw [T.pless_cons]
    simp only [cmpP]
    by_cases h : cmpW a b = 0
    · rw [if_pos h, cmpP_neg p q]
      have e := cmpW_zero.1 h
      subst e
      simp [T.less_irr]
    · rw [if_neg h, cmpW_neg]
      have e : a ≠ b := fun e => h (cmpW_zero.2 e)
      simp [e]
theorem cmpP_drop {p q : T.Pth} {k : Nat} (h : k < p.length) (h2 : k < q.length) : cmpP (p.drop k) (q.drop k) = if cmpW p[k] q[k] = 0 then cmpP (p.drop (k + 1)) (q.drop (k + 1)) else cmpW p[k] q[k] := by
  rw [List.drop_eq_getElem_cons h, List.drop_eq_getElem_cons h2]; rfl
theorem cmpP_more {p q : T.Pth} {k : Nat} (h : k < p.length) (h2 : q.length ≤ k) : cmpP (p.drop k) (q.drop k) = 1 := by
  rw [List.drop_eq_getElem_cons h, List.drop_eq_nil_of_le h2]; rfl
theorem cmpP_less {p q : T.Pth} {k : Nat} (h : p.length ≤ k) (h2 : k < q.length) : cmpP (p.drop k) (q.drop k) = -1 := by
  rw [List.drop_eq_getElem_cons h2, List.drop_eq_nil_of_le h]; rfl
theorem cmpP_end {p q : T.Pth} {k : Nat} (h : p.length ≤ k) (h2 : q.length ≤ k) : cmpP (p.drop k) (q.drop k) = 0 := by
  rw [List.drop_eq_nil_of_le h, List.drop_eq_nil_of_le h2]; rfl

end Go.Proofs.Ytkifapbiimlafaa

namespace Go.Proofs.Ytkifapbiimlafaa
open Go.RowKit

set_option maxRecDepth 100000 in
theorem clone_nil (w : World) : Calls Try.prog 65 #[.slice none 0 0] w (fun e w' => e = .returned (.slice none 0 0) ∧ w = w') := by
  have q := fun (w : World) (a : Option Addr) (n c : Nat) => Lib.run_eql_slice_nil (P := Try.prog) w 41 _ a n c 0 0 Try.underlying41
  go_enter Try.func65, Try.ntmps65
  go_wp2
  go_ret
  exact ⟨rfl, rfl⟩
theorem Own.empty {α : Type} (E : Elem α) (w : World) : Own E (w.alloc (.cells #[] E.T)) w.heap.size (.slice (some ⟨w.heap.size, 0, none⟩) 0 0) [] :=
  ⟨by simp [cellsG], .inr ⟨w.heap.size, 0, #[], rfl, Nat.le_refl _, heap_alloc_new w _, Nat.le_refl _, by decide, by simp, by simp [cellsG]⟩⟩
set_option maxRecDepth 100000 in
theorem clone_some (b cap : Nat) (p : T.Pth) (w : World) (hb : b < w.heap.size) (hp : p.length ≤ 1073741824) (h : Holds eS w b 0 p) :
    Calls Try.prog 65 #[.slice (some ⟨b, 0, none⟩) p.length cap] w (fun e w' => ∃ v, e = .returned v ∧ Own eS w' w.heap.size v p ∧ Below w.heap.size w w') := by
  have HH := Lib.hid (h.below ((Below.refl _ _).alloc (Nat.le_refl _) (.cells #[] eS.T)) hb)
  have HO := Lib.hid (Own.empty eS w)
  clear h
  have q := fun (w : World) (a : Option Addr) (n c : Nat) => Lib.run_eql_slice_nil (P := Try.prog) w 41 _ a n c 0 0 Try.underlying41
  go_enter Try.func65, Try.ntmps65
  go_wp2_with (first | (at_builtin; refine wpList_appSrc eS (w.alloc (.cells #[] eS.T)) rfl (.tmp 5) (.tmp 6) rfl w.heap.size _ [] rfl HO.out b 0 p p.length cap rfl rfl HH.out (by simp; omega) (by simp) ?_; intro v3 w3 hown3 hb3))
  go_ret
  exact ⟨v3, rfl, hown3, ((Below.refl _ _).alloc (Nat.le_refl _) _).trans hb3⟩

/-- A statement, in its two cells: a path in a block of its own, and marks. -/
structure Stm where
  b : Nat
  n : Nat
  cap : Nat
  mark : Int
section
variable {w w1 : World} {g : Nat} {vf vp : Value} {nm : Bool} {mk : Int}
end

/-- What a statement's cells say of a path and its marks. -/
structure StmAt (w : World) (g : Nat) (vf : Value) (s : Stm) (x : T.Pth × Int) : Prop where
  above : g < s.b
  lt : s.b < w.heap.size
  apart : vf.ownBlock ≠ some s.b
  len : x.1.length = s.n
  cap : s.n ≤ s.cap
  mark : s.mark = x.2
  deep : x.1.length ≤ 16
  holds : Holds eS w s.b 0 x.1
def PathV (w : World) (g : Nat) (vf vp : Value) (p : T.Pth) : Prop :=
  (vp = .slice none 0 0 ∧ p = []) ∨ ∃ b cap, vp = .slice (some ⟨b, 0, none⟩) p.length cap ∧ p.length ≤ cap ∧ g < b ∧ b < w.heap.size ∧ vf.ownBlock ≠ some b ∧ Holds eS w b 0 p
/-- What a step of the reader leaves as it was. -/
def KeepR (g : Nat) (vf : Value) (w w1 : World) : Prop := Below g w w1 ∧ ∀ (k : Nat) (o : Obj), w.heap[k]? = some o → k ≠ g → vf.ownBlock ≠ some k → w1.heap[k]? = some o

section
variable {w w1 : World} {g : Nat} {vf vp : Value}
theorem StmAt.below {s : Stm} {x : T.Pth × Int} (h : StmAt w g vf s x) (hb : Below w.heap.size w w1) : StmAt w1 g vf s x :=
  ⟨h.above, Nat.lt_of_lt_of_le h.lt hb.size, h.apart, h.len, h.cap, h.mark, h.deep, h.holds.below hb h.lt⟩
theorem PathV.below {p : T.Pth} (h : PathV w g vf vp p) (hb : Below w.heap.size w w1) : PathV w1 g vf vp p := by
  rcases h with h | ⟨b, cap, h1, h2, h3, h4, h5, h6⟩
  · exact .inl h
  · exact .inr ⟨b, cap, h1, h2, h3, Nat.lt_of_lt_of_le h4 hb.size, h5, h6.below hb h4⟩
theorem KeepR.refl (g : Nat) (vf : Value) (w : World) : KeepR g vf w w := ⟨Below.refl _ _, fun _ _ h _ _ => h⟩
theorem KeepR.of (h : Below w.heap.size w w1) (hg : g ≤ w.heap.size) : KeepR g vf w w1 := ⟨h.mono hg, fun k o hk _ _ => by rw [h.block k (Array.getElem?_eq_some_iff.1 hk).1]; exact hk⟩
theorem KeepR.set (h : KeepR g vf w w1) (j : Nat) (v : Value) : KeepR g vf w (w1.setCell ⟨g, j, none⟩ v) :=
  ⟨h.1.setCell (Nat.le_refl _) _, fun k o hk hne hv => by rw [Below.heap_setCell _ _ _ _ (fun e => hne e)]; exact h.2 k o hk hne hv⟩
end
end Go.Proofs.Ytkifapbiimlafaa

namespace Go.Proofs.Ytkifapbiimlafaa
open Go.RowKit

theorem hasP_yes {F : List (T.Pth × Int)} {p : T.Pth} {i : Nat} (h : i < F.length) (e : F[i].1 = p) : S.hasP F p = true := by
  unfold S.hasP; rw [List.any_eq_true]; exact ⟨F[i], List.getElem_mem h, decide_eq_true e⟩
theorem hasP_no {F : List (T.Pth × Int)} {p : T.Pth} (h : ∀ i (hi : i < F.length), F[i].1 ≠ p) : S.hasP F p = false := by
  unfold S.hasP; rw [List.any_eq_false]
  intro x hx
  obtain ⟨i, hi, rfl⟩ := List.getElem_of_mem hx
  simpa using h i hi
def RelIx (F : List (T.Pth × Int)) (p : T.Pth) (k : Nat) : Prop := ∀ j (h : j < F.length), j < k → F[j].1 ≠ p
theorem RelIx.next {F : List (T.Pth × Int)} {p : T.Pth} {k : Nat} (h : RelIx F p k) (hk : k < F.length) (e : F[k].1 ≠ p) : RelIx F p (k + 1) := by
  intro j hj hjk
  rcases Nat.lt_or_ge j k with hlt | hge
  · exact h j hj hlt
  · obtain rfl : j = k := by omega
    exact e

end Go.Proofs.Ytkifapbiimlafaa

namespace Go.Proofs.Ytkifapbiimlafaa
open Go.RowKit

theorem wp_app3 {α : Type} (E : Elem α) {o : Oper} {a : Act} {K : Act → World → Prop} {Q : Exit → Act → World → Prop} (w : World) (s x : Operand)
    (ho : o.op = .call { callee := .builtin .append, args := #[s, x], argTypes := #[E.st, E.st] })
    (base : Nat) (v : Value) (l : List α) (hs : a.eval s = v) (hown : Own E w base v l) (t : α) (cap : Nat) (cs : Array Value) (hcs : cs.toList = E.C t)
    (g : Nat) (hg : w.heap.size = g) (hx : a.eval x = .slice (some ⟨g, 0, none⟩) 1 cap) (hlen : l.length + 1 ≤ 1099511627776) (hb : base ≤ w.heap.size)
    (h : ∀ v' w', Grew E w w' base v v' (l ++ [t]) → K (a.put o.dst v') w') : o.wp Try.prog a (w.alloc (.cells cs E.T)) K Q := by
  subst hg
  obtain ⟨i0, hi0, hz0, hz1, hz2⟩ := info_parts E.hin
  have hby := E.hby
  have hmul : (l.length + 1) * E.by_ ≤ 1099511627776 * 64 := Nat.mul_le_mul hlen hby
  obtain ⟨v', w', hr, h1, h2, _, h3⟩ := run_append_own_at (P := Try.prog) (w := w.alloc (.cells cs E.T)) base E.st o.type E.T i0 _ E.sz E.by_ E.hst hi0 hz0 hz1 hz2 E.hzs E.hsz v l.length (cellsG E l) (World.ownsRow.alloc hown _) ⟨w.heap.size, 0, none⟩ 1 cap (cellsG E [t])
    (by rw [cellsG_len]; rfl) (fun j u hu => new_cellsG E.T w cs (E.C t) hcs j u (by rw [← cellsG_one]; exact hu)) (cellsG_onec E _) (by unfold maxLen; omega) (by omega) (by simp; omega)
  have hG : Grew E w w' base v v' (l ++ [t]) := by
    refine ⟨?_, ⟨h2.os, h2.tape, h2.output, Nat.le_trans (by simp) h2.size, fun k hk hne => ?_⟩, ?_⟩
    · unfold Own; rw [cellsG_append, List.length_append]; exact h1
    · rw [h2.block k (by simp; omega) hne]; exact heap_alloc_old w _ hk
    · rcases h3 with h3 | h3
      · exact .inl h3
      · exact .inr ⟨_, h3, by simp⟩
  unfold Oper.wp execOp
  simp only [ho, resolve, invoke, builtin, Sem.run_bind, Sem.run_pure, Result.andThen_ok, List.map_toArray, List.map_cons, List.map_nil, hs, hx, hr]
  exact h v' w' hG
/-- append of one, in a region that draws: what it leaves of the others. -/
theorem step_app3 {α : Type} (E : Elem α) {ops : Array Oper} {o : Oper} {a : Act} {K : Act → World → Prop} {Q : Exit → Act → World → Prop} {D : Prop} (w : World) (hgd : o.guard = none) (s x : Operand)
    (ho : o.op = .call { callee := .builtin .append, args := #[s, x], argTypes := #[E.st, E.st] })
    (base : Nat) (v : Value) (l : List α) (hs : a.eval s = v) (hown : Own E w base v l) (t : α) (cap : Nat) (cs : Array Value) (hcs : cs.toList = E.C t)
    (g : Nat) (hg : w.heap.size = g) (hx : a.eval x = .slice (some ⟨g, 0, none⟩) 1 cap) (hlen : l.length + 1 ≤ 1099511627776) (hb : base ≤ w.heap.size)
    (h : ∀ v' w', Grew E w w' base v v' (l ++ [t]) → K (a.put o.dst v') w') :
    if Region.wanted o (yielded ops a.tmps) = true then Oper.wp Try.prog o a (w.alloc (.cells cs E.T)).drew K Q else D := by
  have hw : Region.wanted o (yielded ops a.tmps) = true := by simp [Region.wanted, hgd]
  rw [if_pos hw]
  exact wp_app3 E w.drew s x ho base v l hs hown t cap cs hcs g hg hx hlen hb fun v' w' h1 => h v' w' ⟨h1.own, ⟨h1.grown.os, h1.grown.tape, h1.grown.output, h1.grown.size, h1.grown.block⟩, h1.at_⟩

theorem clone_path (g : Nat) (vf vp : Value) (p : T.Pth) (w : World) (h : PathV w g vf vp p) (hp : p.length ≤ 16) :
    Calls Try.prog 65 #[vp] w (fun e w' => ∃ v, e = .returned v ∧ Own eS w' w.heap.size v p ∧ Below w.heap.size w w') := by
  rcases h with ⟨rfl, rfl⟩ | ⟨b, cap, rfl, _, _, hb, _, hh⟩
  · exact (clone_nil w).mono fun e w' ⟨he, hw⟩ => by subst hw; exact ⟨_, he, Own.nil _ _, Below.refl _ _⟩
  · exact clone_some b cap p w hb (by omega) hh

theorem Own.block {α : Type} {E : Elem α} {w : World} {base : Nat} {A : Option Addr} {n cap : Nat} {l : List α} (h : Own E w base (.slice A n cap) l) (hl : 0 < l.length) : ∃ b, A = some ⟨b, 0, none⟩ ∧ base ≤ b ∧ b < w.heap.size ∧ Holds E w b 0 l := by
  obtain ⟨A2, cap2, e, _, hs⟩ := h.seen
  injection e with e1 e2 e3
  subst e1
  obtain ⟨b, o, e4, hb, hh⟩ := hs hl
  rcases h.2 with ⟨e5, _⟩ | ⟨g, c, cur, e5, hbg, _⟩
  · injection e5 with e5; rw [e5] at e4; cases e4
  · injection e5 with e5
    rw [e5] at e4
    injection e4 with e4
    injection e4 with e6 e7
    subst e6; subst e7
    exact ⟨g, e5, hbg, hb, hh⟩
theorem holds_of_block {α : Type} {E : Elem α} {w w1 : World} {b o : Nat} {l : List α} (h : Holds E w b o l) (e : w1.heap[b]? = w.heap[b]?) : Holds E w1 b o l := by
  intro i hi j u hu
  rw [← h i hi j u hu]
  unfold World.cell?
  simp only [e]
theorem PathV.set {w : World} {g : Nat} {vf vp : Value} {p : T.Pth} (h : PathV w g vf vp p) (j : Nat) (v : Value) : PathV (w.setCell ⟨g, j, none⟩ v) g vf vp p := by
  rcases h with h | ⟨b, cap, h1, h2, h3, h4, h5, h6⟩
  · exact .inl h
  · exact .inr ⟨b, cap, h1, h2, h3, by simpa [World.setCell] using h4, h5, holds_of_block h6 (Below.heap_setCell _ _ _ _ (fun e => by simp only at e; omega))⟩
theorem KeepR.then {w w1 w2 : World} {g : Nat} {vf : Value} (h : KeepR g vf w w1) (hb : Below w1.heap.size w1 w2) (hg : g ≤ w1.heap.size) : KeepR g vf w w2 :=
  ⟨h.1.trans (hb.mono hg), fun k o hk hne hv => by
    have := h.2 k o hk hne hv
    rw [hb.block k (Array.getElem?_eq_some_iff.1 this).1]; exact this⟩

theorem KeepR.from {w w1 w2 : World} {g : Nat} {vf : Value} (h : KeepR g vf w1 w2) (hb : Below w.heap.size w w1) (hg : g ≤ w.heap.size) : KeepR g vf w w2 :=
  ⟨(hb.mono hg).trans h.1, fun k o hk hne hv => h.2 k o (by rw [hb.block k (Array.getElem?_eq_some_iff.1 hk).1]; exact hk) hne hv⟩

theorem KeepR.drew {w w1 : World} {g : Nat} {vf : Value} (h : KeepR g vf w w1) : KeepR g vf w w1.drew := ⟨h.1.drew, h.2⟩
theorem PathV.drop {w : World} {g : Nat} {vf vp : Value} {p : T.Pth} (h : PathV w g vf vp p) (hp : p ≠ []) : ∃ b cap n, p.length = n + 1 ∧ vp = .slice (some ⟨b, 0, none⟩) (n + 1) cap ∧ n + 1 ≤ cap ∧ PathV w g vf (.slice (some ⟨b, 0, none⟩) n cap) p.dropLast := by
  rcases h with ⟨_, e⟩ | ⟨b, cap, h1, h2, h3, h4, h5, h6⟩
  · exact absurd e hp
  · obtain ⟨n, hn⟩ : ∃ n, p.length = n + 1 := ⟨p.length - 1, by have := List.length_pos_iff.2 hp; omega⟩
    have hd : p.dropLast.length = n := by rw [List.length_dropLast]; omega
    refine ⟨b, cap, n, hn, by rw [h1, hn], by omega, .inr ⟨b, cap, by rw [hd], by omega, h3, h4, h5, ?_⟩⟩
    rw [List.dropLast_eq_take]
    exact h6.take _

end Go.Proofs.Ytkifapbiimlafaa
