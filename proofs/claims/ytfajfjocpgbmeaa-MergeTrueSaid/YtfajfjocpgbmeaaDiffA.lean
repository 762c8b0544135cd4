/-
  Changes in memory (layer 8): what a slice of them holds, one of the call's own, and what append does to it. Condition: at most 2^40 elements.
-/
import Derived.Test.YtfajfjocpgbmeaaOwnMany
import Derived.Test.YtfajfjocpgbmeaaTreeE
import Derived.Test.YtfajfjocpgbmeaaPureQ
import Derived.Test.YtfajfjocpgbmeaaParseC
import Derived.Test.YtfajfjocpgbmeaaLinesC
namespace Go.Proofs.Ytfajfjocpgbmeaa
open Go.RowKit
set_option linter.unusedVariables false

theorem below_draws {B : Nat} {a w : World} (h : Below B a w) (q : Nat) : Below B a (w.drewN q) := ⟨h.os, h.tape, h.output, h.size, h.block⟩
/-- A change, as its cells have it. -/
structure ChM where
  kind : Int
  A : Option Addr
  n : Nat
  c : Nat
  mark : Int
def chC (x : ChM) : List Value := [.int .i64 x.kind, .slice x.A x.n x.c, .int .i64 x.mark]
def zeroCh : Value := .agg #[.int .i64 0, .slice none 0 0, .int .i64 0]
def eD : Elem ChM where
  st := 41
  T := 45
  sz := 3
  zero := zeroCh
  by_ := 40
  C := chC
  hst := Try.underlying41
  hin := by kernel_rfl
  hzs := rfl
  hsz := by decide
  hby := by decide
  len := fun _ => rfl
  one := fun x u hu => by simp [chC] at hu; rcases hu with rfl | rfl | rfl <;> rfl
theorem Holds.chD {w : World} {b o : Nat} {l : List ChM} (h : Holds eD w b o l) {i : Nat} (hi : i < l.length) : w.cell? ⟨b, o + i * 3, none⟩ = some (.int .i64 l[i].kind) ∧ w.cell? ⟨b, o + i * 3 + 1, none⟩ = some (.slice l[i].A l[i].n l[i].c) ∧ w.cell? ⟨b, o + i * 3 + 2, none⟩ = some (.int .i64 l[i].mark) :=
  ⟨h i hi 0 _ rfl, h i hi 1 _ rfl, h i hi 2 _ rfl⟩
/-- A change's cells say it. -/
structure ChS (w : World) (m : ChM) (x : T.Chg) : Prop where
  kind : m.kind = x.kind
  mark : m.mark = x.mark
  len : x.path.length = m.n
  cap : m.n ≤ m.c
  seen : Seen eS w m.A x.path
theorem ChS.below {w w1 : World} {m : ChM} {x : T.Chg} (h : ChS w m x) (hb : Below w.heap.size w w1) : ChS w1 m x := ⟨h.kind, h.mark, h.len, h.cap, h.seen.below hb⟩
/-- A slice of this address reads as these changes. -/
def SeenC (E : Elem ChM) (w : World) (A : Option Addr) (L : List T.Chg) : Prop := ∃ M : List ChM, M.length = L.length ∧ Seen E w A M ∧ ∀ i (h1 : i < M.length) (h2 : i < L.length), ChS w M[i] L[i]
theorem SeenC.below {E : Elem ChM} {w w1 : World} {A : Option Addr} {L : List T.Chg} (h : SeenC E w A L) (hb : Below w.heap.size w w1) : SeenC E w1 A L := by
  obtain ⟨M, h1, h2, h3⟩ := h
  exact ⟨M, h1, h2.below hb, fun i h4 h5 => (h3 i h4 h5).below hb⟩
theorem SeenC.nil {E : Elem ChM} {w : World} {A : Option Addr} : SeenC E w A [] := ⟨[], rfl, Seen.nil, fun i h => absurd h (Nat.not_lt_zero i)⟩
/-- The cells of one of them, in the world at hand and in those behind it. -/
theorem SeenC.atD {w : World} {A : Option Addr} {L : List T.Chg} (h : SeenC eD w A L) {i : Nat} (hi : i < L.length) : ∃ b o B c n, A = some ⟨b, o, none⟩ ∧ (L[i]).path.length = n ∧ n ≤ c ∧ ∀ w', Below w.heap.size w w' → w'.cell? ⟨b, o + i * 3, none⟩ = some (.int .i64 (L[i]).kind) ∧ w'.cell? ⟨b, o + i * 3 + 1, none⟩ = some (.slice B n c) ∧ w'.cell? ⟨b, o + i * 3 + 2, none⟩ = some (.int .i64 (L[i]).mark) ∧ Seen eS w' B (L[i]).path := by
  obtain ⟨M, h1, h2, h3⟩ := h
  obtain ⟨b, o, rfl, hb, hH⟩ := h2 (by omega)
  have hc := h3 i (by omega) hi
  refine ⟨b, o, (M[i]'(by omega)).A, (M[i]'(by omega)).c, (M[i]'(by omega)).n, rfl, hc.len, hc.cap, fun w' hw => ?_⟩
  obtain ⟨c0, c1, c2⟩ := (hH.below hw hb).chD (i := i) (by omega)
  rw [hc.kind] at c0
  rw [hc.mark] at c2
  exact ⟨c0, c1, c2, hc.seen.below hw⟩
/-- A change's path lies outside a slice's own row. -/
def Free (v : Value) (m : ChM) (x : T.Chg) : Prop := 0 < x.path.length → ∀ a, m.A = some a → v.ownBlock ≠ some a.block
/-- A slice value owns these changes; their paths lie elsewhere. -/
def OwnC (E : Elem ChM) (w : World) (base : Nat) (v : Value) (L : List T.Chg) : Prop := ∃ M : List ChM, M.length = L.length ∧ Own E w base v M ∧ ∀ i (h1 : i < M.length) (h2 : i < L.length), ChS w M[i] L[i] ∧ Free v M[i] L[i]
theorem OwnC.nil (E : Elem ChM) (w : World) (base : Nat) : OwnC E w base (.slice none 0 0) [] := ⟨[], rfl, Own.nil _ _, fun i h => absurd h (Nat.not_lt_zero i)⟩
theorem OwnC.keep {E : Elem ChM} {w w1 : World} {base : Nat} {v : Value} {L : List T.Chg} (h : OwnC E w base v L) (hb : Below w.heap.size w w1) : OwnC E w1 base v L := by
  obtain ⟨M, h1, h2, h3⟩ := h
  exact ⟨M, h1, h2.keep hb, fun i h4 h5 => ⟨(h3 i h4 h5).1.below hb, (h3 i h4 h5).2⟩⟩
theorem OwnC.base {E : Elem ChM} {w : World} {b1 b2 : Nat} {v : Value} {L : List T.Chg} (h : OwnC E w b1 v L) (hb : b2 ≤ b1) : OwnC E w b2 v L := by
  obtain ⟨M, h1, h2, h3⟩ := h
  exact ⟨M, h1, h2.base hb, h3⟩
theorem OwnC.seen {E : Elem ChM} {w : World} {base : Nat} {v : Value} {L : List T.Chg} (h : OwnC E w base v L) : ∃ A cap, v = .slice A L.length cap ∧ L.length ≤ cap ∧ SeenC E w A L := by
  obtain ⟨M, h1, h2, h3⟩ := h
  obtain ⟨A, cap, e, h4, h5⟩ := h2.seen
  rw [h1] at e h4
  exact ⟨A, cap, e, h4, M, h1, h5, fun i h6 h7 => (h3 i h6 h7).1⟩
/-- One more. -/
theorem OwnC.snoc {E : Elem ChM} {w w' : World} {base : Nat} {v v' : Value} {M : List ChM} {L : List T.Chg} {m : ChM} {x : T.Chg} (hl : M.length = L.length) (he : ∀ i (h1 : i < M.length) (h2 : i < L.length), ChS w M[i] L[i] ∧ Free v M[i] L[i])
    (hx : ChS w m x) (hf : Free v m x) (hg : Grew E w w' base v v' (M ++ [m])) : OwnC E w' base v' (L ++ [x]) := by
  have step : ∀ (m : ChM) (x : T.Chg), ChS w m x → Free v m x → ChS w' m x ∧ Free v' m x := by
    intro m x hx hf
    refine ⟨⟨hx.kind, hx.mark, hx.len, hx.cap, fun hp => ?_⟩, fun hp a ha e => ?_⟩
    · obtain ⟨b, o, e, hb, hH⟩ := hx.seen hp
      have hne := hf hp _ e
      exact ⟨b, o, e, Nat.lt_of_lt_of_le hb hg.grown.size, holds_of_block hH (hg.grown.block b hb (fun e => hne e.symm))⟩
    · obtain ⟨b, o, e2, hb, _⟩ := hx.seen hp
      have hne := hf hp a ha
      have eb : a.block = b := by rw [e2] at ha; injection ha with ha; rw [← ha]
      rcases hg.at_ with h | ⟨g, h, h4⟩
      · rw [h] at e; exact hne e
      · rw [h] at e; injection e with e; omega
  refine ⟨M ++ [m], by rw [List.length_append, List.length_append, hl]; rfl, hg.own, fun i h1 h2 => ?_⟩
  rw [List.length_append, List.length_singleton] at h1
  by_cases hi : i < M.length
  · rw [List.getElem_append_left hi, List.getElem_append_left (by omega)]
    exact step _ _ (he i hi (by omega)).1 (he i hi (by omega)).2
  · obtain rfl : i = M.length := by omega
    have e1 : (M ++ [m])[M.length]'(by simp) = m := by simp
    have e2 : (L ++ [x])[M.length]'(by rw [List.length_append, hl]; simp) = x := by simp [hl]
    rw [e1, e2]
    exact step _ _ hx hf
/-- append of one change. -/
theorem wpList_appC (E : Elem ChM) {ops : Array Oper} {rest : List Oper} {o : Oper} {a : Act} {Q : Exit → Act → World → Prop} (w : World) (hgd : o.guard = none) (s x : Operand)
    (ho : o.op = .call { callee := .builtin .append, args := #[s, x], argTypes := #[E.st, E.st] })
    (base : Nat) (v : Value) (L : List T.Chg) (hs : a.eval s = v) (hown : OwnC E w base v L) (y : T.Chg) (m : ChM) (hy : ChS w m y) (hf : Free v m y) (cap : Nat) (cs : Array Value) (hcs : cs.toList = E.C m)
    (g : Nat) (hg : w.heap.size = g) (hx : a.eval x = .slice (some ⟨g, 0, none⟩) 1 cap) (hlen : L.length + 1 ≤ 1099511627776) (hb : base ≤ w.heap.size)
    (h : ∀ v' w', OwnC E w' base v' (L ++ [y]) → Below base w w' → wpList Try.prog ops Q rest (a.put o.dst v') w') : wpList Try.prog ops Q (o :: rest) a (w.alloc (.cells cs E.T)) := by
  obtain ⟨M, h1, h2, h3⟩ := hown
  exact wpList_app3 E w hgd s x ho base v M hs h2 m cap cs hcs g hg hx (by omega) hb fun v' w' hG => h v' w' (OwnC.snoc h1 h3 hy hf hG) (hG.below h2 hb)
/-- What lies in newer memory lies outside an elder slice's row. -/
theorem Free.born {E : Elem ChM} {w : World} {base k : Nat} {v : Value} {L : List T.Chg} {m : ChM} {x : T.Chg} (h : OwnC E w base v L) (hk : w.heap.size ≤ k) (hm : ∀ a, m.A = some a → k ≤ a.block) : Free v m x := by
  intro _ a ha e
  obtain ⟨M, _, h2, _⟩ := h
  have := (h2.lt _ e).2
  have := hm a ha
  omega
end Go.Proofs.Ytfajfjocpgbmeaa
