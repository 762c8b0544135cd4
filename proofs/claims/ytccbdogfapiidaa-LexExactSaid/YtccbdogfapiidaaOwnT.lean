/-
  A slice of tokens of the call's own: what append does to it; the cells of a token. Condition: at most 2^40 tokens.
-/
import Derived.Test.YtccbdogfapiidaaRows
import Derived.Test.YtccbdogfapiidaaLexPure
import Derived.WalkKit
import Derived.WalkSpells
import Derived.WalkLawsBesides
import Derived.Lib.Hide
import Derived.Laws.OwnMore
namespace Go.Proofs.Ytccbdogfapiidaa
open Go.RowKit

/-- The four cells of a token. -/
def tokC (t : W.Tok) : List Value := [.int .i64 t.kind, .int .i64 (t.pos : Int), .string ⟨t.word.toArray⟩, .int .i64 t.bit]
def tokCells (l : List W.Tok) : List Value := l.flatMap tokC
def tokV (t : W.Tok) : Value := .agg #[.int .i64 t.kind, .int .i64 (t.pos : Int), .string ⟨t.word.toArray⟩, .int .i64 t.bit]
theorem tokCells_append (a b : List W.Tok) : tokCells (a ++ b) = tokCells a ++ tokCells b := by simp [tokCells]
theorem tokCells_len (l : List W.Tok) : (tokCells l).length = l.length * 4 := by
  induction l with
  | nil => rfl
  | cons t l ih => simp only [tokCells, List.flatMap_cons, List.length_append, List.length_cons] at ih ⊢; rw [ih]; simp [tokC]; omega
theorem tokCells_one (l : List W.Tok) : ∀ u ∈ tokCells l, u.oneCell' = true := by
  intro u hu; simp [tokCells, tokC] at hu; obtain ⟨t, _, h⟩ := hu
  rcases h with rfl | rfl | rfl | rfl <;> rfl
theorem tokCells_at (l : List W.Tok) (i j : Nat) (hi : i < l.length) (hj : j < 4) : (tokCells l)[i * 4 + j]? = (tokC l[i])[j]? := by
  induction l generalizing i with
  | nil => simp at hi
  | cons t l ih =>
    have e : tokCells (t :: l) = tokC t ++ tokCells l := by simp [tokCells]
    rw [e]
    match i with
    | 0 => rw [List.getElem?_append_left (by simp [tokC]; omega)]; simp
    | i + 1 =>
      rw [List.getElem?_append_right (by simp [tokC]; omega)]
      have : (i + 1) * 4 + j - (tokC t).length = i * 4 + j := by simp [tokC]; omega
      rw [this, ih i (by simpa using hi)]; rfl

/-- The slice value v owns the tokens l, in blocks of the type T from base on. -/
def OwnT (T : TypeId) (w : World) (base : Nat) (v : Value) (l : List W.Tok) : Prop := w.ownsRow base T 4 v l.length (tokCells l)
theorem OwnT.nil (T : TypeId) (w : World) (base : Nat) : OwnT T w base (.slice none 0 0) [] := ⟨by simp [tokCells], .inl ⟨rfl, rfl⟩⟩
theorem OwnT.alloc {T : TypeId} {w : World} {base : Nat} {v : Value} {l : List W.Tok} (h : OwnT T w base v l) (o : Obj) : OwnT T (w.alloc o) base v l := World.ownsRow.alloc h o
theorem OwnT.drew {T : TypeId} {w : World} {base : Nat} {v : Value} {l : List W.Tok} (h : OwnT T w base v l) : OwnT T w.drew base v l := h

def zeroTok : Value := .agg #[.int .i64 0, .int .i64 0, .string ⟨#[]⟩, .int .i64 0]
theorem tok_info : (Try.prog.info? 38).map (fun i => (i.zero, i.size, i.bytes)) = some (some zeroTok, 4, 40) := by kernel_rfl

theorem new_toks (T : TypeId) (w : World) (cs : Array Value) (news : List Value) (hcs : cs.toList = news) : ∀ j u, news[j]? = some u → (w.alloc (.cells cs T)).cell? ((⟨w.heap.size, 0, none⟩ : Addr).add j) = some u := by
  intro j u hj
  have e : cs[j]? = some u := by rw [← hj, ← hcs]; simp
  rw [← e]
  have := World.cell?_alloc_mark w cs T (0, 0) j
  unfold Addr.add
  by_cases h : j = 0
  · subst h; exact this
  · rw [if_neg h, Nat.zero_add]; exact this

theorem wp_appT (st T : TypeId) (hst : Try.prog.underlying st = some (.slice T)) (hin : (Try.prog.info? T).map (fun i => (i.zero, i.size, i.bytes)) = some (some zeroTok, 4, 40)) {o : Oper} {a : Act} {K : Act → World → Prop} {Q : Exit → Act → World → Prop} (w : World) (s x : Operand)
    (ho : o.op = .call { callee := .builtin .append, args := #[s, x], argTypes := #[st, st] })
    (base : Nat) (v : Value) (l : List W.Tok) (hs : a.eval s = v) (hown : OwnT T w base v l) (ad : Addr) (t : W.Tok) (cap : Nat)
    (hx : a.eval x = .slice (some ad) 1 cap) (hc : ∀ j u, (tokC t)[j]? = some u → w.cell? (ad.add j) = some u) (hlen : l.length + 1 ≤ 1099511627776) (hb : base ≤ w.heap.size)
    (h : ∀ v' w', OwnT T w' base v' (l ++ [t]) → Below base w w' → K (a.put o.dst v') w') : o.wp Try.prog a w K Q := by
  obtain ⟨i0, hi0, hz0, hz1, hz2⟩ := info_parts hin
  have e1 : tokCells [t] = tokC t := by simp [tokCells]
  refine wp_append_own w s x st ho base T i0 _ 4 40 hst hi0 hz0 hz1 hz2 rfl (by decide) v l.length (tokCells l) hs hown ad 1 cap (tokC t) hx
    rfl hc (by rw [← e1]; exact tokCells_one _) (by unfold maxLen; omega) (by omega) hb ?_
  intro v' w' h1 h2 _
  refine h v' w' ?_ ?_
  · unfold OwnT; rw [tokCells_append, List.length_append, e1]; exact h1
  · exact Below.grown (Below.refl _ _) h2 hb (fun k hk => (World.ownsRow.lt hown k hk).1)

theorem wpList_appT (st T : TypeId) (hst : Try.prog.underlying st = some (.slice T)) (hin : (Try.prog.info? T).map (fun i => (i.zero, i.size, i.bytes)) = some (some zeroTok, 4, 40)) {ops : Array Oper} {rest : List Oper} {o : Oper} {a : Act} {Q : Exit → Act → World → Prop} (w : World) (hgd : o.guard = none) (s x : Operand)
    (ho : o.op = .call { callee := .builtin .append, args := #[s, x], argTypes := #[st, st] })
    (base : Nat) (v : Value) (l : List W.Tok) (hs : a.eval s = v) (hown : OwnT T w base v l) (t : W.Tok) (cap : Nat) (cs : Array Value) (hcs : cs.toList = tokC t)
    (g : Nat) (hg : w.heap.size = g) (hx : a.eval x = .slice (some ⟨g, 0, none⟩) 1 cap) (hlen : l.length + 1 ≤ 1099511627776) (hb : base ≤ w.heap.size)
    (h : ∀ v' w', OwnT T w' base v' (l ++ [t]) → Below base w w' → wpList Try.prog ops Q rest (a.put o.dst v') w') : wpList Try.prog ops Q (o :: rest) a (w.alloc (.cells cs T)) := by
  subst hg
  exact wpList_plain hgd fun _ hK => wp_appT st T hst hin _ s x ho base v l hs (World.ownsRow.alloc hown _) ⟨w.heap.size, 0, none⟩ t cap hx (new_toks T w cs (tokC t) hcs) hlen (by simp; omega) fun v' w' h1 h2 => hK _ _ (h v' w' h1 (((Below.refl _ _).alloc hb _).trans h2))

/-- The row from block g on holds the tokens l. -/
def HoldsT (w : World) (g : Nat) (l : List W.Tok) : Prop :=
  g < w.heap.size ∧ ∀ i (h : i < l.length), w.cell? ⟨g, i * 4, none⟩ = some (.int .i64 l[i].kind) ∧ w.cell? ⟨g, i * 4 + 1, none⟩ = some (.int .i64 (l[i].pos : Int)) ∧ w.cell? ⟨g, i * 4 + 2, none⟩ = some (.string ⟨l[i].word.toArray⟩) ∧ w.cell? ⟨g, i * 4 + 3, none⟩ = some (.int .i64 l[i].bit)
theorem HoldsT.below {w w1 : World} {g : Nat} {l : List W.Tok} (h : HoldsT w g l) (hb : Below w.heap.size w w1) : HoldsT w1 g l := by
  refine ⟨Nat.lt_of_lt_of_le h.1 hb.size, fun i hi => ?_⟩
  obtain ⟨h0, h1, h2, h3⟩ := h.2 i hi
  have hc : ∀ o, w1.cell? ⟨g, o, none⟩ = w.cell? ⟨g, o, none⟩ := fun o => hb.cell (p := ⟨g, o, none⟩) h.1
  rw [hc, hc, hc, hc]
  exact ⟨h0, h1, h2, h3⟩
theorem HoldsT.cells {w : World} {g : Nat} {l : List W.Tok} (h : HoldsT w g l) {i : Nat} (hi : i < l.length) {kd : Int} {pos : Nat} {wd : List UInt8} {b : Int} (ht : l[i] = ⟨kd, pos, wd, b⟩) :
    w.cell? ⟨g, i * 4, none⟩ = some (.int .i64 kd) ∧ w.cell? ⟨g, i * 4 + 1, none⟩ = some (.int .i64 (pos : Int)) ∧ w.cell? ⟨g, i * 4 + 2, none⟩ = some (.string ⟨wd.toArray⟩) ∧ w.cell? ⟨g, i * 4 + 3, none⟩ = some (.int .i64 b) := by
  have := h.2 i hi
  rw [ht] at this
  exact this
theorem HoldsT.drew {w : World} {g : Nat} {l : List W.Tok} (h : HoldsT w g l) : HoldsT w.drew g l := h
/-- The slice value v reads as the tokens l. -/
def SeenT (w : World) (v : Value) (l : List W.Tok) : Prop := ∃ A cap, v = .slice A l.length cap ∧ (0 < l.length → ∃ g, A = some ⟨g, 0, none⟩ ∧ HoldsT w g l)
theorem SeenT.below {w w1 : World} {v : Value} {l : List W.Tok} (h : SeenT w v l) (hb : Below w.heap.size w w1) : SeenT w1 v l := by
  obtain ⟨A, cap, rfl, h⟩ := h
  exact ⟨A, cap, rfl, fun hl => by obtain ⟨g, rfl, hg⟩ := h hl; exact ⟨g, rfl, hg.below hb⟩⟩
theorem OwnT.seen {T : TypeId} {w : World} {base : Nat} {v : Value} {l : List W.Tok} (h : OwnT T w base v l) : SeenT w v l := by
  rcases h.2 with ⟨rfl, hn⟩ | ⟨g, cap, cur, rfl, hbg, hgg, hnc, hcm, hcs, htk⟩
  · exact ⟨none, 0, by rw [hn], fun hl => by omega⟩
  · refine ⟨_, cap, rfl, fun hl => ⟨g, rfl, (Array.getElem?_eq_some_iff.1 hgg).1, fun i hi => ?_⟩⟩
    have key : ∀ j, j < 4 → w.cell? ⟨g, i * 4 + j, none⟩ = (tokC l[i])[j]? := by
      intro j hj
      rw [World.ownsRow.cellAt h (i * 4 + j) (by omega), tokCells_at l i j hi hj]
    exact ⟨key 0 (by omega), key 1 (by omega), key 2 (by omega), key 3 (by omega)⟩
end Go.Proofs.Ytccbdogfapiidaa
