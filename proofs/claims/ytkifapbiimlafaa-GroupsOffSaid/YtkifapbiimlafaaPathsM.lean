/-
  Paths in memory: what a slice of them holds, one of the call's own, and what append does to it. Condition: at most 2^40 elements.
-/
import Derived.Test.YtkifapbiimlafaaOwnMany
import Derived.Test.YtkifapbiimlafaaParsePut
import Derived.Test.YtkifapbiimlafaaLinesP
namespace Go.Proofs.Ytkifapbiimlafaa
open Go.RowKit
set_option linter.unusedVariables false

/-- A path, as its cell has it. -/
structure PtM where
  A : Option Addr
  n : Nat
  c : Nat
def ptC (x : PtM) : List Value := [.slice x.A x.n x.c]
def eQ : Elem PtM where
  st := 30
  T := 41
  sz := 1
  zero := .slice none 0 0
  by_ := 24
  C := ptC
  hst := Try.underlying30
  hin := by kernel_rfl
  hzs := rfl
  hsz := by decide
  hby := by decide
  len := fun _ => rfl
  one := fun x u hu => by simp [ptC] at hu; subst hu; rfl
theorem Holds.ptQ {w : World} {b o : Nat} {l : List PtM} (h : Holds eQ w b o l) {i : Nat} (hi : i < l.length) : w.cell? ⟨b, o + i, none⟩ = some (.slice l[i].A l[i].n l[i].c) := by
  have := h i hi 0 _ rfl
  rw [show (eQ.sz : Nat) = 1 from rfl, Nat.mul_one] at this
  exact this
/-- A path's cell says it. -/
structure PtS (w : World) (m : PtM) (x : T.Pth) : Prop where
  len : x.length = m.n
  cap : m.n ≤ m.c
  seen : Seen eS w m.A x
theorem PtS.below {w w1 : World} {m : PtM} {x : T.Pth} (h : PtS w m x) (hb : Below w.heap.size w w1) : PtS w1 m x := ⟨h.len, h.cap, h.seen.below hb⟩
/-- A slice of this address reads as these paths. -/
def SeenQ (E : Elem PtM) (w : World) (A : Option Addr) (L : List T.Pth) : Prop := ∃ M : List PtM, M.length = L.length ∧ Seen E w A M ∧ ∀ i (h1 : i < M.length) (h2 : i < L.length), PtS w M[i] L[i]
theorem SeenQ.below {E : Elem PtM} {w w1 : World} {A : Option Addr} {L : List T.Pth} (h : SeenQ E w A L) (hb : Below w.heap.size w w1) : SeenQ E w1 A L := by
  obtain ⟨M, h1, h2, h3⟩ := h
  exact ⟨M, h1, h2.below hb, fun i h4 h5 => (h3 i h4 h5).below hb⟩
theorem SeenQ.nil {E : Elem PtM} {w : World} {A : Option Addr} : SeenQ E w A [] := ⟨[], rfl, Seen.nil, fun i h => absurd h (Nat.not_lt_zero i)⟩
/-- What comes out of a call, as such. -/
theorem SeenQ.seenP {w : World} {A : Option Addr} {L : List T.Pth} (h : SeenQ eQ w A L) : SeenP w A L := by
  obtain ⟨M, h1, h2, h3⟩ := h
  intro hl
  obtain ⟨b, o, rfl, hb, hH⟩ := h2 (by omega)
  refine ⟨b, o, rfl, hb, fun i hi => ?_⟩
  have hc := h3 i (by omega) hi
  have h4 := hH.ptQ (i := i) (by omega)
  rw [hc.len]
  exact ⟨_, _, h4, hc.cap, hc.seen⟩
/-- A path lies outside a slice's own row. -/
def FreeQ (v : Value) (m : PtM) (x : T.Pth) : Prop := 0 < x.length → ∀ a, m.A = some a → v.ownBlock ≠ some a.block
/-- A slice value owns these paths; their words lie elsewhere. -/
def OwnQ (E : Elem PtM) (w : World) (base : Nat) (v : Value) (L : List T.Pth) : Prop := ∃ M : List PtM, M.length = L.length ∧ Own E w base v M ∧ ∀ i (h1 : i < M.length) (h2 : i < L.length), PtS w M[i] L[i] ∧ FreeQ v M[i] L[i]
theorem OwnQ.nil (E : Elem PtM) (w : World) (base : Nat) : OwnQ E w base (.slice none 0 0) [] := ⟨[], rfl, Own.nil _ _, fun i h => absurd h (Nat.not_lt_zero i)⟩
theorem OwnQ.keep {E : Elem PtM} {w w1 : World} {base : Nat} {v : Value} {L : List T.Pth} (h : OwnQ E w base v L) (hb : Below w.heap.size w w1) : OwnQ E w1 base v L := by
  obtain ⟨M, h1, h2, h3⟩ := h
  exact ⟨M, h1, h2.keep hb, fun i h4 h5 => ⟨(h3 i h4 h5).1.below hb, (h3 i h4 h5).2⟩⟩
theorem OwnQ.base {E : Elem PtM} {w : World} {b1 b2 : Nat} {v : Value} {L : List T.Pth} (h : OwnQ E w b1 v L) (hb : b2 ≤ b1) : OwnQ E w b2 v L := by
  obtain ⟨M, h1, h2, h3⟩ := h
  exact ⟨M, h1, h2.base hb, h3⟩
theorem OwnQ.seen {E : Elem PtM} {w : World} {base : Nat} {v : Value} {L : List T.Pth} (h : OwnQ E w base v L) : ∃ A cap, v = .slice A L.length cap ∧ L.length ≤ cap ∧ SeenQ E w A L := by
  obtain ⟨M, h1, h2, h3⟩ := h
  obtain ⟨A, cap, e, h4, h5⟩ := h2.seen
  rw [h1] at e h4
  exact ⟨A, cap, e, h4, M, h1, h5, fun i h6 h7 => (h3 i h6 h7).1⟩
/-- One more. -/
theorem OwnQ.snoc {E : Elem PtM} {w w' : World} {base : Nat} {v v' : Value} {M : List PtM} {L : List T.Pth} {m : PtM} {x : T.Pth} (hl : M.length = L.length) (he : ∀ i (h1 : i < M.length) (h2 : i < L.length), PtS w M[i] L[i] ∧ FreeQ v M[i] L[i])
    (hx : PtS w m x) (hf : FreeQ v m x) (hg : Grew E w w' base v v' (M ++ [m])) : OwnQ E w' base v' (L ++ [x]) := by
  have step : ∀ (m : PtM) (x : T.Pth), PtS w m x → FreeQ v m x → PtS w' m x ∧ FreeQ v' m x := by
    intro m x hx hf
    refine ⟨⟨hx.len, hx.cap, fun hp => ?_⟩, fun hp a ha e => ?_⟩
    · obtain ⟨b, o, e, hb, hH⟩ := hx.seen hp
      have hne := hf hp _ e
      exact ⟨b, o, e, Nat.lt_of_lt_of_le hb hg.grown.size, holds_of_block hH (hg.grown.block b hb (fun e => hne e.symm))⟩
    · obtain ⟨b, o, e2, hb, _⟩ := hx.seen hp
      have hne := hf hp a ha
      have eb : a.block = b := by rw [e2] at ha; injection ha with ha; rw [← ha]
      rcases hg.at_ with h | ⟨g, h, h4⟩
      · rw [h] at e; exact hne e
      · rw [h] at e; injection e with e; omega
  refine ⟨M ++ [m], by rw [List.length_append, List.length_append, hl]; rfl, hg.own, fun i h1 h2 => ?_⟩
  rw [List.length_append, List.length_singleton] at h1
  by_cases hi : i < M.length
  · rw [List.getElem_append_left hi, List.getElem_append_left (by omega)]
    exact step _ _ (he i hi (by omega)).1 (he i hi (by omega)).2
  · obtain rfl : i = M.length := by omega
    have e1 : (M ++ [m])[M.length]'(by simp) = m := by simp
    have e2 : (L ++ [x])[M.length]'(by rw [List.length_append, hl]; simp) = x := by simp [hl]
    rw [e1, e2]
    exact step _ _ hx hf
/-- append of one path. -/
theorem wpList_appQ (E : Elem PtM) {ops : Array Oper} {rest : List Oper} {o : Oper} {a : Act} {Q : Exit → Act → World → Prop} (w : World) (hgd : o.guard = none) (s x : Operand)
    (ho : o.op = .call { callee := .builtin .append, args := #[s, x], argTypes := #[E.st, E.st] })
    (base : Nat) (v : Value) (L : List T.Pth) (hs : a.eval s = v) (hown : OwnQ E w base v L) (y : T.Pth) (m : PtM) (hy : PtS w m y) (hf : FreeQ v m y) (cap : Nat) (cs : Array Value) (hcs : cs.toList = E.C m)
    (g : Nat) (hg : w.heap.size = g) (hx : a.eval x = .slice (some ⟨g, 0, none⟩) 1 cap) (hlen : L.length + 1 ≤ 1099511627776) (hb : base ≤ w.heap.size)
    (h : ∀ v' w', OwnQ E w' base v' (L ++ [y]) → Below base w w' → wpList Try.prog ops Q rest (a.put o.dst v') w') : wpList Try.prog ops Q (o :: rest) a (w.alloc (.cells cs E.T)) := by
  obtain ⟨M, h1, h2, h3⟩ := hown
  exact wpList_app3 E w hgd s x ho base v M hs h2 m cap cs hcs g hg hx (by omega) hb fun v' w' hG => h v' w' (OwnQ.snoc h1 h3 hy hf hG) (hG.below h2 hb)
/-- What lies in newer memory lies outside an elder slice's row. -/
theorem FreeQ.born {E : Elem PtM} {w : World} {base k : Nat} {v : Value} {L : List T.Pth} {m : PtM} {x : T.Pth} (h : OwnQ E w base v L) (hk : w.heap.size ≤ k) (hm : ∀ a, m.A = some a → k ≤ a.block) : FreeQ v m x := by
  intro _ a ha e
  obtain ⟨M, _, h2, _⟩ := h
  have := (h2.lt _ e).2
  have := hm a ha
  omega
theorem cells_from {α : Type} {E : Elem α} {w : World} {b q : Nat} {l2 : List α} (hc : Holds E w b q l2) : ∀ j u, (cellsG E l2)[j]? = some u → w.cell? ((⟨b, q, none⟩ : Addr).add j) = some u := by
  intro j u hu
  have hj : j < l2.length * E.sz := by rw [← cellsG_len]; exact (List.getElem?_eq_some_iff.1 hu).1
  have hsz := E.hsz
  have hi : j / E.sz < l2.length := Nat.div_lt_of_lt_mul (by rw [Nat.mul_comm]; exact hj)
  have hr : j % E.sz < E.sz := Nat.mod_lt _ hsz
  have e : j / E.sz * E.sz + j % E.sz = j := by rw [Nat.mul_comm]; exact Nat.div_add_mod j E.sz
  rw [← e, cellsG_at E l2 _ _ hi hr] at hu
  have := hc _ hi _ u hu
  rw [show q + j / E.sz * E.sz + j % E.sz = q + j by omega] at this
  rw [add_off]; exact this
/-- append of many, wherever they lie, saying what it leaves. -/
theorem wpList_appSrc3 {α : Type} (E : Elem α) {ops : Array Oper} {rest : List Oper} {o : Oper} {a : Act} {Q : Exit → Act → World → Prop} (w : World) (hgd : o.guard = none) (s x : Operand)
    (ho : o.op = .call { callee := .builtin .append, args := #[s, x], argTypes := #[E.st, E.st] })
    (base : Nat) (v : Value) (l : List α) (hs : a.eval s = v) (hown : Own E w base v l) (b q : Nat) (l2 : List α) (m cap : Nat) (hm : l2.length = m)
    (hx : a.eval x = .slice (some ⟨b, q, none⟩) m cap) (hc : Holds E w b q l2) (hlen : l.length + m ≤ 1099511627776) (hb : base ≤ w.heap.size)
    (h : ∀ v' w', Grew E w w' base v v' (l ++ l2) → wpList Try.prog ops Q rest (a.put o.dst v') w') : wpList Try.prog ops Q (o :: rest) a w := by
  obtain ⟨i0, hi0, hz0, hz1, hz2⟩ := info_parts E.hin
  subst hm
  have hby := E.hby
  have hmul : (l.length + l2.length) * E.by_ ≤ 1099511627776 * 64 := Nat.mul_le_mul hlen hby
  refine Go.wpList_append_own_at (w := w) hgd s x E.st ho base E.T i0 _ E.sz E.by_ E.hst hi0 hz0 hz1 hz2 E.hzs E.hsz v l.length (cellsG E l) hs hown ⟨b, q, none⟩ l2.length cap (cellsG E l2) hx
    (cellsG_len E l2) (fun j u hu => cells_from hc j u hu) (cellsG_onec E _) (by unfold maxLen; omega) (by omega) hb ?_
  intro v' w' h1 h2 _ h3
  refine h v' w' ⟨?_, ⟨h2.os, h2.tape, h2.output, h2.size, fun k hk hne => h2.block k hk hne⟩, ?_⟩
  · unfold Own; rw [cellsG_append, List.length_append]; exact h1
  · rcases h3 with h3 | h3
    · exact .inl h3
    · exact .inr ⟨_, h3, Nat.le_refl _⟩
/-- A path's value, at an address from block k on. -/
structure PtK (w : World) (k : Nat) (m : PtM) (x : T.Pth) : Prop where
  pt : PtS w m x
  from_ : ∀ a, m.A = some a → k ≤ a.block
theorem PtK.below {w w1 : World} {k : Nat} {m : PtM} {x : T.Pth} (h : PtK w k m x) (hb : Below w.heap.size w w1) : PtK w1 k m x := ⟨h.pt.below hb, h.from_⟩
theorem PtK.less {w : World} {k j : Nat} {m : PtM} {x : T.Pth} (h : PtK w k m x) (hj : j ≤ k) : PtK w j m x := ⟨h.pt, fun a ha => Nat.le_trans hj (h.from_ a ha)⟩
/-- A slice value that reads as these paths, each at an address from block k on. -/
def ManyQ (w : World) (k : Nat) (v : Value) (L : List T.Pth) : Prop := ∃ M : List PtM, M.length = L.length ∧ VecAt eQ w v M ∧ ∀ i (h1 : i < M.length) (h2 : i < L.length), PtK w k M[i] L[i]
theorem ManyQ.below {w w1 : World} {k : Nat} {v : Value} {L : List T.Pth} (h : ManyQ w k v L) (hb : Below w.heap.size w w1) : ManyQ w1 k v L := by
  obtain ⟨M, h1, h2, h3⟩ := h
  exact ⟨M, h1, h2.below hb, fun i h4 h5 => (h3 i h4 h5).below hb⟩
theorem ManyQ.less {w : World} {k j : Nat} {v : Value} {L : List T.Pth} (h : ManyQ w k v L) (hj : j ≤ k) : ManyQ w j v L := by
  obtain ⟨M, h1, h2, h3⟩ := h
  exact ⟨M, h1, h2, fun i h4 h5 => (h3 i h4 h5).less hj⟩
theorem ManyQ.nil (w : World) (k : Nat) : ManyQ w k (.slice none 0 0) [] := ⟨[], rfl, VecAt.nil _ _, fun i h => absurd h (Nat.not_lt_zero i)⟩
theorem ManyQ.seen {w : World} {k : Nat} {v : Value} {L : List T.Pth} (h : ManyQ w k v L) : ∃ A c, v = .slice A L.length c ∧ L.length ≤ c ∧ SeenQ eQ w A L := by
  obtain ⟨M, h1, h2, h3⟩ := h
  obtain ⟨A, c, e, h4, h5⟩ := h2.seen
  rw [h1] at e h4
  exact ⟨A, c, e, h4, M, h1, h5, fun i h6 h7 => (h3 i h6 h7).pt⟩
/-- A slice value owns these paths; their words lie elsewhere, from block k on. -/
def OwnK (w : World) (base k : Nat) (v : Value) (L : List T.Pth) : Prop := ∃ M : List PtM, M.length = L.length ∧ Own eQ w base v M ∧ ∀ i (h1 : i < M.length) (h2 : i < L.length), PtK w k M[i] L[i] ∧ FreeQ v M[i] L[i]
theorem OwnK.nil (w : World) (base k : Nat) : OwnK w base k (.slice none 0 0) [] := ⟨[], rfl, Own.nil _ _, fun i h => absurd h (Nat.not_lt_zero i)⟩
theorem OwnK.keep {w w1 : World} {base k : Nat} {v : Value} {L : List T.Pth} (h : OwnK w base k v L) (hb : Below w.heap.size w w1) : OwnK w1 base k v L := by
  obtain ⟨M, h1, h2, h3⟩ := h
  exact ⟨M, h1, h2.keep hb, fun i h4 h5 => ⟨(h3 i h4 h5).1.below hb, (h3 i h4 h5).2⟩⟩
theorem OwnK.many {w : World} {base k : Nat} {v : Value} {L : List T.Pth} (h : OwnK w base k v L) : ManyQ w k v L := by
  obtain ⟨M, h1, h2, h3⟩ := h
  exact ⟨M, h1, VecAt.own h2, fun i h4 h5 => (h3 i h4 h5).1⟩
theorem OwnK.rowAt {w : World} {base k : Nat} {v : Value} {L : List T.Pth} (h : OwnK w base k v L) : ∀ b, v.ownBlock = some b → base ≤ b ∧ b < w.heap.size := by
  obtain ⟨M, _, h2, _⟩ := h
  exact h2.lt
/-- append of many paths, whose words lie in newer memory. -/
theorem wpList_appManyQ {ops : Array Oper} {rest : List Oper} {o : Oper} {a : Act} {Q : Exit → Act → World → Prop} (w : World) (hgd : o.guard = none) (s x : Operand)
    (ho : o.op = .call { callee := .builtin .append, args := #[s, x], argTypes := #[30, 30] })
    (base k : Nat) (v : Value) (L : List T.Pth) (hs : a.eval s = v) (w0 : World) (hown0 : OwnK w0 base k v L) (hb0 : Below w0.heap.size w0 w) (j : Nat) (hj : w0.heap.size ≤ j) (hkj : k ≤ j) (v2 : Value) (L2 : List T.Pth) (hx : a.eval x = v2) (h2 : ManyQ w j v2 L2) (hlen : L.length + L2.length ≤ 1099511627776) (hb : base ≤ w.heap.size)
    (h : ∀ v' w', OwnK w' base k v' (L ++ L2) → Below base w w' → wpList Try.prog ops Q rest (a.put o.dst v') w') : wpList Try.prog ops Q (o :: rest) a w := by
  have hbl := hown0.rowAt
  obtain ⟨M, h1, h3, h4⟩ := hown0.keep hb0
  obtain ⟨M2, g1, g2, g3⟩ := h2
  rcases g2 with ⟨rfl, rfl⟩ | ⟨b, q, c, rfl, hc, hbw, hH⟩
  · obtain rfl : L2 = [] := List.eq_nil_of_length_eq_zero g1.symm
    refine wpList_appNone eQ w hgd s x ho base v M hs h3 hx ?_
    exact h v w (by rw [List.append_nil]; exact ⟨M, h1, h3, h4⟩) (Below.refl _ _)
  · refine wpList_appSrc3 eQ w hgd s x ho base v M hs h3 b q M2 M2.length c rfl hx hH (by rw [h1, g1]; exact hlen) hb ?_
    intro v' w' hG
    have step : ∀ (m : PtM) (y : T.Pth), PtS w m y → FreeQ v m y → PtS w' m y ∧ FreeQ v' m y := by
      intro m y hy hf
      refine ⟨⟨hy.len, hy.cap, fun hp => ?_⟩, fun hp a ha e => ?_⟩
      · obtain ⟨b, o, e, hb, hH⟩ := hy.seen hp
        have hne := hf hp _ e
        exact ⟨b, o, e, Nat.lt_of_lt_of_le hb hG.grown.size, holds_of_block hH (hG.grown.block b hb (fun e => hne e.symm))⟩
      · obtain ⟨b, o, e2, hb, _⟩ := hy.seen hp
        have hne := hf hp a ha
        have eb : a.block = b := by rw [e2] at ha; injection ha with ha; rw [← ha]
        rcases hG.at_ with h | ⟨g, h, h4⟩
        · rw [h] at e; exact hne e
        · rw [h] at e; injection e with e; omega
    have free2 : ∀ (m : PtM) (y : T.Pth), PtK w j m y → FreeQ v m y := by
      intro m y hy hp a ha e
      have h5 := hy.from_ a ha
      have h6 := (hbl _ e).2
      omega
    refine h v' w' ⟨M ++ M2, by rw [List.length_append, List.length_append, h1, g1], hG.own, fun i h5 h6 => ?_⟩ (hG.below h3 hb)
    rw [List.length_append] at h5
    by_cases hi : i < M.length
    · rw [List.getElem_append_left hi, List.getElem_append_left (by omega)]
      have h7 := h4 i hi (by omega)
      have h8 := step _ _ h7.1.pt h7.2
      exact ⟨⟨h8.1, h7.1.from_⟩, h8.2⟩
    · rw [List.getElem_append_right (by omega), List.getElem_append_right (by omega)]
      have h7 := g3 (i - M.length) (by omega) (by omega)
      have h8 := step _ _ h7.pt (free2 _ _ h7)
      simp only [h1] at h7 h8 ⊢
      exact ⟨⟨h8.1, fun a ha => Nat.le_trans hkj (h7.from_ a ha)⟩, h8.2⟩
/-- A literal slice of one path. -/
theorem ManyQ.one {w : World} {k : Nat} {m : PtM} {x : T.Pth} (h : PtK w k m x) (cs : Array Value) (hcs : cs.toList = ptC m) (hk : k ≤ w.heap.size) : ManyQ (w.alloc (.cells cs 41)) k (.slice (some ⟨w.heap.size, 0, none⟩) 1 1) [x] := by
  have hb : Below w.heap.size w (w.alloc (.cells cs 41)) := (Below.refl _ _).alloc (Nat.le_refl _) _
  refine ⟨[m], rfl, .inr ⟨w.heap.size, 0, 1, rfl, Nat.le_refl _, by simp, ?_⟩, fun i h1 h2 => ?_⟩
  · intro i hi j u hu
    obtain rfl : i = 0 := by simpa using hi
    have h3 := new_cellsG 41 w cs (ptC m) hcs j u hu
    rw [add_off] at h3
    exact (congrArg (fun z => World.cell? _ ⟨w.heap.size, z, none⟩) (show 0 + 0 * eQ.sz + j = 0 + j by omega)).trans h3
  · obtain rfl : i = 0 := by simpa using h1
    exact h.below hb
/-- A path's memory, cut. -/
theorem PtK.cut {w : World} {k b o n c : Nat} {x : T.Pth} (h : PtK w k ⟨some ⟨b, o, none⟩, n, c⟩ x) (i : Nat) (hi : i ≤ n) : PtK w k ⟨some ⟨b, o + i, none⟩, n - i, c - i⟩ (x.drop i) := by
  refine ⟨⟨by rw [List.length_drop, h.pt.len], by have := h.pt.cap; simp only at this ⊢; omega, fun hp => ?_⟩, fun a ha => ?_⟩
  · rw [List.length_drop] at hp
    obtain ⟨b2, o2, e, hb, hH⟩ := h.pt.seen (by omega)
    injection e with e
    injection e with e1 e2
    subst e1; subst e2
    refine ⟨b, o + i, rfl, hb, fun d hd j u hu => ?_⟩
    rw [List.length_drop] at hd
    rw [List.getElem_drop] at hu
    have := hH (i + d) (by omega) j u hu
    rw [show o + i + d * eS.sz + j = o + (i + d) * eS.sz + j by rw [show (eS.sz : Nat) = 1 from rfl]; omega]
    exact this
  · injection ha with ha
    have := h.from_ ⟨b, o, none⟩ rfl
    rw [← ha]
    exact this
theorem PtK.take {w : World} {k n c : Nat} {A : Option Addr} {x : T.Pth} (h : PtK w k ⟨A, n, c⟩ x) (i : Nat) (hi : i ≤ n) : PtK w k ⟨A, i, c⟩ (x.take i) := by
  refine ⟨⟨by rw [List.length_take, h.pt.len]; exact Nat.min_eq_left hi, by have := h.pt.cap; simp only at this ⊢; omega, fun hp => ?_⟩, fun a ha => h.from_ a ha⟩
  rw [List.length_take] at hp
  obtain ⟨b2, o2, e, hb, hH⟩ := h.pt.seen (by omega)
  refine ⟨b2, o2, e, hb, fun d hd j u hu => ?_⟩
  rw [List.length_take] at hd
  rw [List.getElem_take] at hu
  exact hH d (by omega) j u hu
/-- A path with one word more: new memory, of the call's own. -/
theorem with_own (v : Value) (p : T.Pth) (wd : List UInt8) (w : World) (h : VecAt eS w v p) (hp : p.length ≤ 1073741824) :
    Calls Try.prog 60 #[v, .string (sB wd)] w (fun e w' => ∃ v2, e = .returned v2 ∧ Own eS w' w.heap.size v2 (p ++ [wd]) ∧ Below w.heap.size w w') := by
  rcases h with ⟨rfl, rfl⟩ | ⟨b, o, c, rfl, hc, hb, hH⟩
  · go_enter Try.func60, Try.ntmps60
    go_wp2_with (first | (at_builtin; refine wpList_appNone eS w rfl (.tmp 6) (.tmp 7) rfl w.heap.size (.slice none 0 0) [] rfl (Own.nil _ _) rfl ?_) | (at_builtin; refine wpList_appG eS w rfl (.tmp 9) (.tmp 11) rfl w.heap.size (.slice none 0 0) [] rfl (Own.nil _ _) wd 1 #[.string (sB wd)] rfl w.heap.size rfl rfl (by simp) (Nat.le_refl _) ?_; intro v2 w2 hown2 hb2))
    go_ret
    exact ⟨v2, rfl, hown2, hb2⟩
  · go_enter Try.func60, Try.ntmps60
    go_wp2_with (first | (at_builtin; refine wpList_appSrc eS w rfl (.tmp 6) (.tmp 7) rfl w.heap.size (.slice none 0 0) [] rfl (Own.nil _ _) b o p p.length c rfl rfl hH (by simp; omega) (Nat.le_refl _) ?_; intro v1 w1 hown1 hb1; have hs1 := hb1.size) | (at_builtin; refine wpList_appG eS w1 rfl (.tmp 9) (.tmp 11) rfl w.heap.size v1 ([] ++ p) rfl hown1 wd 1 #[.string (sB wd)] rfl w1.heap.size rfl rfl (by simp; omega) hs1 ?_; intro v2 w2 hown2 hb2))
    go_ret
    exact ⟨v2, rfl, by rw [List.nil_append] at hown2; exact hown2, hb1.trans hb2⟩
/-- A path of a value, as a slice that may be cut. -/
theorem PtK.vec {w : World} {k n c : Nat} {A : Option Addr} {x : T.Pth} (h : PtK w k ⟨A, n, c⟩ x) (h0 : 0 < x.length) : VecAt eS w (.slice A n c) x := by
  obtain ⟨b, o, e, hb, hH⟩ := h.pt.seen h0
  have e : A = some ⟨b, o, none⟩ := e
  subst e
  have hl : x.length = n := h.pt.len
  subst hl
  exact .inr ⟨b, o, c, rfl, h.pt.cap, hb, hH⟩
theorem with_cut {w : World} {k n c i : Nat} {ad : Addr} {x : T.Pth} (h : PtK w k ⟨some ad, n, c⟩ x) (h0 : 0 < x.length) (hi : i ≤ n) : VecAt eS w (.slice (some ad) i c) (x.take i) := by
  obtain ⟨b, o, e, hb, hH⟩ := h.pt.seen h0
  injection e with e
  subst e
  have hl : x.length = n := h.pt.len
  have hc : n ≤ c := h.pt.cap
  have hlt : (x.take i).length = i := by rw [List.length_take]; omega
  refine .inr ⟨b, o, c, by rw [hlt], by omega, hb, fun d hd j u hu => ?_⟩
  rw [List.getElem_take] at hu
  exact hH d (by omega) j u hu
theorem withN12 (ad : Addr) (c n i k : Nat) (x : T.Pth) (wd : List UInt8) (w : World) (h : PtK w k ⟨some ad, n, c⟩ x) (h0 : 0 < x.length) (hi : i ≤ n) (hn : n ≤ 1073741824) :
    Calls Try.prog 60 #[.slice (some ad) i c, .string (sB wd)] w (fun e w' => ∃ v2, e = .returned v2 ∧ Own eS w' w.heap.size v2 (x.take i ++ [wd]) ∧ Below w.heap.size w w') :=
  with_own _ _ _ _ (with_cut h h0 hi) (by rw [List.length_take]; omega)
theorem own_pt {w : World} {k : Nat} {v : Value} {x : T.Pth} (h : Own eS w k v x) : ∃ A c, v = .slice A x.length c ∧ PtK w k ⟨A, x.length, c⟩ x := by
  obtain ⟨A, c, rfl, hc, hs⟩ := h.seen
  refine ⟨A, c, rfl, ⟨rfl, hc, hs⟩, fun a ha => ?_⟩
  have ha : A = some a := ha
  subst ha
  rcases h.2 with ⟨e, _⟩ | ⟨g, cap, cur, e, hb, _⟩
  · injection e with e; cases e
  · injection e with e _ _
    injection e with e
    rw [e]
    exact hb
end Go.Proofs.Ytkifapbiimlafaa
