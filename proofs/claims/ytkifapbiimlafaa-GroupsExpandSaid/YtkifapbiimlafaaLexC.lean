/-
  A slice of tokens of the call's own: what append does to it; the cells of a token. Condition: at most 2^40 tokens.
  Contracts of lex's blank, sign and markBit (layer 2): they return what the plain definitions say, and leave the world as it was. No conditions.
  Contract of lex's take (layer 2): the token at a byte, and its end, or the error, is what the plain definitions say; below the heap's size at the call the world is as it was. Condition: strings of at most 2^40 bytes.
  Contract of layer 2's All: the tokens of a text, or the first error, are what the plain definitions say; below the heap's size at the call the world is as it was. Condition: strings of at most 2^30 bytes.
  Contracts of layer 2's Place and of the document's: the line and the byte of a place are what the plain definitions say; the world is as it was. Condition: strings of at most 2^30 bytes.
-/
import Derived.Test.YtkifapbiimlafaaRows
import Derived.Test.YtkifapbiimlafaaPureW
import Derived.WalkKit
import Derived.WalkSpells
import Derived.WalkLawsBesides
import Derived.Lib.Hide
import Derived.Laws.OwnMore
import Derived.Test.YtkifapbiimlafaaWordC
import Derived.Deep.LoopGhost
import Derived.WalkMore

namespace Go.Proofs.Ytkifapbiimlafaa
open Go.RowKit

/-- The four cells of a token. -/
def tokC (t : W.Tok) : List Value := [.int .i64 t.kind, .int .i64 (t.pos : Int), .string ⟨t.word.toArray⟩, .int .i64 t.bit]
def tokCells (l : List W.Tok) : List Value := l.flatMap tokC
def tokV (t : W.Tok) : Value := .agg #[.int .i64 t.kind, .int .i64 (t.pos : Int), .string ⟨t.word.toArray⟩, .int .i64 t.bit]
theorem tokCells_append (a b : List W.Tok) : tokCells (a ++ b) = tokCells a ++ tokCells b := by simp [tokCells]
theorem tokCells_len (l : List W.Tok) : (tokCells l).length = l.length * 4 := by
  induction l with
  | nil => rfl
  | cons t l ih => simp only [tokCells, List.flatMap_cons, List.length_append, List.length_cons] at ih ⊢; rw [ih]; simp [tokC]; omega
theorem tokCells_one (l : List W.Tok) : ∀ u ∈ tokCells l, u.oneCell' = true := by
  intro u hu; simp [tokCells, tokC] at hu; obtain ⟨t, _, h⟩ := hu
  rcases h with rfl | rfl | rfl | rfl <;> rfl
theorem tokCells_at (l : List W.Tok) (i j : Nat) (hi : i < l.length) (hj : j < 4) : (tokCells l)[i * 4 + j]? = (tokC l[i])[j]? := by
  induction l generalizing i with
  | nil => simp at hi
  | cons t l ih =>
    have e : tokCells (t :: l) = tokC t ++ tokCells l := by simp [tokCells]
    rw [e]
    match i with
    | 0 => rw [List.getElem?_append_left (by simp [tokC]; omega)]; simp
    | i + 1 =>
      rw [List.getElem?_append_right (by simp [tokC]; omega)]
      have : (i + 1) * 4 + j - (tokC t).length = i * 4 + j := by simp [tokC]; omega
      rw [this, ih i (by simpa using hi)]; rfl

/-- The slice value v owns the tokens l, in blocks of the type T from base on. -/
def OwnT (T : TypeId) (w : World) (base : Nat) (v : Value) (l : List W.Tok) : Prop := w.ownsRow base T 4 v l.length (tokCells l)
theorem OwnT.nil (T : TypeId) (w : World) (base : Nat) : OwnT T w base (.slice none 0 0) [] := ⟨by simp [tokCells], .inl ⟨rfl, rfl⟩⟩
theorem OwnT.alloc {T : TypeId} {w : World} {base : Nat} {v : Value} {l : List W.Tok} (h : OwnT T w base v l) (o : Obj) : OwnT T (w.alloc o) base v l := World.ownsRow.alloc h o
theorem OwnT.drew {T : TypeId} {w : World} {base : Nat} {v : Value} {l : List W.Tok} (h : OwnT T w base v l) : OwnT T w.drew base v l := h

def zeroTok : Value := .agg #[.int .i64 0, .int .i64 0, .string ⟨#[]⟩, .int .i64 0]
theorem new_toks (T : TypeId) (w : World) (cs : Array Value) (news : List Value) (hcs : cs.toList = news) : ∀ j u, news[j]? = some u → (w.alloc (.cells cs T)).cell? ((⟨w.heap.size, 0, none⟩ : Addr).add j) = some u := by
  intro j u hj
  have e : cs[j]? = some u := by rw [← hj, ← hcs]; simp
  rw [← e]
  have := World.cell?_alloc_mark w cs T (0, 0) j
  unfold Addr.add
  by_cases h : j = 0
  · subst h; exact this
  · rw [if_neg h, Nat.zero_add]; exact this

theorem wp_appT (st T : TypeId) (hst : Try.prog.underlying st = some (.slice T)) (hin : (Try.prog.info? T).map (fun i => (i.zero, i.size, i.bytes)) = some (some zeroTok, 4, 40)) {o : Oper} {a : Act} {K : Act → World → Prop} {Q : Exit → Act → World → Prop} (w : World) (s x : Operand)
    (ho : o.op = .call { callee := .builtin .append, args := #[s, x], argTypes := #[st, st] })
    (base : Nat) (v : Value) (l : List W.Tok) (hs : a.eval s = v) (hown : OwnT T w base v l) (ad : Addr) (t : W.Tok) (cap : Nat)
    (hx : a.eval x = .slice (some ad) 1 cap) (hc : ∀ j u, (tokC t)[j]? = some u → w.cell? (ad.add j) = some u) (hlen : l.length + 1 ≤ 1099511627776) (hb : base ≤ w.heap.size)
    (h : ∀ v' w', OwnT T w' base v' (l ++ [t]) → Below base w w' → K (a.put o.dst v') w') : o.wp Try.prog a w K Q := by
  obtain ⟨i0, hi0, hz0, hz1, hz2⟩ := info_parts hin
  have e1 : tokCells [t] = tokC t := by simp [tokCells]
  refine wp_append_own w s x st ho base T i0 _ 4 40 hst hi0 hz0 hz1 hz2 rfl (by decide) v l.length (tokCells l) hs hown ad 1 cap (tokC t) hx
    rfl hc (by rw [← e1]; exact tokCells_one _) (by unfold maxLen; omega) (by omega) hb ?_
  intro v' w' h1 h2 _
  refine h v' w' ?_ ?_
  · unfold OwnT; rw [tokCells_append, List.length_append, e1]; exact h1
  · exact Below.grown (Below.refl _ _) h2 hb (fun k hk => (World.ownsRow.lt hown k hk).1)

theorem wpList_appT (st T : TypeId) (hst : Try.prog.underlying st = some (.slice T)) (hin : (Try.prog.info? T).map (fun i => (i.zero, i.size, i.bytes)) = some (some zeroTok, 4, 40)) {ops : Array Oper} {rest : List Oper} {o : Oper} {a : Act} {Q : Exit → Act → World → Prop} (w : World) (hgd : o.guard = none) (s x : Operand)
    (ho : o.op = .call { callee := .builtin .append, args := #[s, x], argTypes := #[st, st] })
    (base : Nat) (v : Value) (l : List W.Tok) (hs : a.eval s = v) (hown : OwnT T w base v l) (t : W.Tok) (cap : Nat) (cs : Array Value) (hcs : cs.toList = tokC t)
    (g : Nat) (hg : w.heap.size = g) (hx : a.eval x = .slice (some ⟨g, 0, none⟩) 1 cap) (hlen : l.length + 1 ≤ 1099511627776) (hb : base ≤ w.heap.size)
    (h : ∀ v' w', OwnT T w' base v' (l ++ [t]) → Below base w w' → wpList Try.prog ops Q rest (a.put o.dst v') w') : wpList Try.prog ops Q (o :: rest) a (w.alloc (.cells cs T)) := by
  subst hg
  exact wpList_plain hgd fun _ hK => wp_appT st T hst hin _ s x ho base v l hs (World.ownsRow.alloc hown _) ⟨w.heap.size, 0, none⟩ t cap hx (new_toks T w cs (tokC t) hcs) hlen (by simp; omega) fun v' w' h1 h2 => hK _ _ (h v' w' h1 (((Below.refl _ _).alloc hb _).trans h2))

/-- The row from block g on holds the tokens l. -/
def HoldsT (w : World) (g : Nat) (l : List W.Tok) : Prop :=
  g < w.heap.size ∧ ∀ i (h : i < l.length), w.cell? ⟨g, i * 4, none⟩ = some (.int .i64 l[i].kind) ∧ w.cell? ⟨g, i * 4 + 1, none⟩ = some (.int .i64 (l[i].pos : Int)) ∧ w.cell? ⟨g, i * 4 + 2, none⟩ = some (.string ⟨l[i].word.toArray⟩) ∧ w.cell? ⟨g, i * 4 + 3, none⟩ = some (.int .i64 l[i].bit)
theorem HoldsT.below {w w1 : World} {g : Nat} {l : List W.Tok} (h : HoldsT w g l) (hb : Below w.heap.size w w1) : HoldsT w1 g l := by
  refine ⟨Nat.lt_of_lt_of_le h.1 hb.size, fun i hi => ?_⟩
  obtain ⟨h0, h1, h2, h3⟩ := h.2 i hi
  have hc : ∀ o, w1.cell? ⟨g, o, none⟩ = w.cell? ⟨g, o, none⟩ := fun o => hb.cell (p := ⟨g, o, none⟩) h.1
  rw [hc, hc, hc, hc]
  exact ⟨h0, h1, h2, h3⟩
theorem HoldsT.cells {w : World} {g : Nat} {l : List W.Tok} (h : HoldsT w g l) {i : Nat} (hi : i < l.length) {kd : Int} {pos : Nat} {wd : List UInt8} {b : Int} (ht : l[i] = ⟨kd, pos, wd, b⟩) :
    w.cell? ⟨g, i * 4, none⟩ = some (.int .i64 kd) ∧ w.cell? ⟨g, i * 4 + 1, none⟩ = some (.int .i64 (pos : Int)) ∧ w.cell? ⟨g, i * 4 + 2, none⟩ = some (.string ⟨wd.toArray⟩) ∧ w.cell? ⟨g, i * 4 + 3, none⟩ = some (.int .i64 b) := by
  have := h.2 i hi
  rw [ht] at this
  exact this
theorem HoldsT.drew {w : World} {g : Nat} {l : List W.Tok} (h : HoldsT w g l) : HoldsT w.drew g l := h
/-- The slice value v reads as the tokens l. -/
def SeenT (w : World) (v : Value) (l : List W.Tok) : Prop := ∃ A cap, v = .slice A l.length cap ∧ (0 < l.length → ∃ g, A = some ⟨g, 0, none⟩ ∧ HoldsT w g l)
theorem SeenT.below {w w1 : World} {v : Value} {l : List W.Tok} (h : SeenT w v l) (hb : Below w.heap.size w w1) : SeenT w1 v l := by
  obtain ⟨A, cap, rfl, h⟩ := h
  exact ⟨A, cap, rfl, fun hl => by obtain ⟨g, rfl, hg⟩ := h hl; exact ⟨g, rfl, hg.below hb⟩⟩
theorem OwnT.seen {T : TypeId} {w : World} {base : Nat} {v : Value} {l : List W.Tok} (h : OwnT T w base v l) : SeenT w v l := by
  rcases h.2 with ⟨rfl, hn⟩ | ⟨g, cap, cur, rfl, hbg, hgg, hnc, hcm, hcs, htk⟩
  · exact ⟨none, 0, by rw [hn], fun hl => by omega⟩
  · refine ⟨_, cap, rfl, fun hl => ⟨g, rfl, (Array.getElem?_eq_some_iff.1 hgg).1, fun i hi => ?_⟩⟩
    have key : ∀ j, j < 4 → w.cell? ⟨g, i * 4 + j, none⟩ = (tokC l[i])[j]? := by
      intro j hj
      rw [World.ownsRow.cellAt h (i * 4 + j) (by omega), tokCells_at l i j hi hj]
    exact ⟨key 0 (by omega), key 1 (by omega), key 2 (by omega), key 3 (by omega)⟩
end Go.Proofs.Ytkifapbiimlafaa

namespace Go.Proofs.Ytkifapbiimlafaa
open Go.RowKit

theorem retI {a b : Int} (h : a = b) : Ending.returned (.int .i64 a) = .returned (.int .i64 b) := by rw [h]
theorem mark_a (s : ByteArray) (h : (s.toList == [105, 110, 97, 99, 116, 105, 118, 101, 58]) = true) : W.markK s.data.toList = 1 := by
  rw [Lib.toList_data] at h; simp only [W.markK, W.inactiveL, h, if_true]
theorem mark_b (s : ByteArray) (h1 : (s.toList == [105, 110, 97, 99, 116, 105, 118, 101, 58]) = false) (h : (s.toList == [112, 114, 111, 116, 101, 99, 116, 58]) = true) : W.markK s.data.toList = 2 := by
  rw [Lib.toList_data] at h h1; unfold W.markK W.inactiveL W.protectL; rw [if_neg (by rw [h1]; simp), if_pos h]
theorem mark_c (s : ByteArray) (h1 : (s.toList == [105, 110, 97, 99, 116, 105, 118, 101, 58]) = false) (h : (s.toList == [112, 114, 111, 116, 101, 99, 116, 58]) = false) : W.markK s.data.toList = 0 := by
  rw [Lib.toList_data] at h h1; unfold W.markK W.inactiveL W.protectL; rw [if_neg (by rw [h1]; simp), if_neg (by rw [h]; simp)]
end Go.Proofs.Ytkifapbiimlafaa

namespace Go.Proofs.Ytkifapbiimlafaa
open Go.RowKit

def TookT (w : World) (k : Nat) (st : W.Step) (e : Ending) (w' : World) : Prop :=
  match st with
  | .tok kd wd b n => e = .returned (.tuple #[tokV ⟨kd, k, wd, b⟩, .int .i64 ((k + n : Nat) : Int), .int .i64 0]) ∧ Below w.heap.size w w'
  | .bad er => e = .returned (.tuple #[zeroTok, .int .i64 0, .int .i64 er]) ∧ Below w.heap.size w w'
  | .skip _ => False

theorem head_drop (s : ByteArray) (k : Nat) (h : k < s.size) : (s.data.toList.drop k).headD 0 = s[k] := by rw [W.drop_at s k h]; rfl
theorem take_ext (s : ByteArray) (k n : Nat) : (s.data.toList.drop k).take n = (s.extract k (k + n)).data.toList := by
  rw [Lib.extract_data]; congr 1; omega
theorem takeD_sign (s : ByteArray) (k : Nat) (h : k < s.size) (hs : W.signK s[k] ≠ 0) : W.takeD (s.data.toList.drop k) = .tok (W.signK s[k]) [] 0 1 := by
  unfold W.takeD; rw [head_drop s k h, if_pos hs]
theorem takeD_none (s : ByteArray) (k : Nat) (h : k < s.size) (hs : W.signK s[k] = 0) (hn : W.scanD (s.data.toList.drop k) = none) : W.takeD (s.data.toList.drop k) = .bad 2 := by
  unfold W.takeD; rw [head_drop s k h, if_neg (by simp [hs]), hn]
theorem takeD_mark (s : ByteArray) (k n : Nat) (h : k < s.size) (hs : W.signK s[k] = 0) (hn : W.scanD (s.data.toList.drop k) = some n) {m : Int} (hm : W.markK (s.extract k (k + n)).data.toList = m) (hm0 : m ≠ 0) : W.takeD (s.data.toList.drop k) = .tok 5 [] m n := by
  rw [← take_ext] at hm
  unfold W.takeD; rw [head_drop s k h, if_neg (fun h => h hs), hn]; simp only; rw [hm, if_pos hm0]
theorem takeD_err (s : ByteArray) (k n : Nat) (h : k < s.size) (hs : W.signK s[k] = 0) (hn : W.scanD (s.data.toList.drop k) = some n) (hm : W.markK (s.extract k (k + n)).data.toList = 0) {x : List UInt8} {e : Int} (hu : W.unqL (s.extract k (k + n)).data.toList = (x, e)) (he : e ≠ 0) : W.takeD (s.data.toList.drop k) = .bad e := by
  rw [← take_ext] at hm hu
  unfold W.takeD; rw [head_drop s k h, if_neg (fun h => h hs), hn]; simp only; rw [hm, hu, if_neg (fun h => h rfl), if_pos he]
theorem takeD_name (s : ByteArray) (k n : Nat) (h : k < s.size) (hs : W.signK s[k] = 0) (hn : W.scanD (s.data.toList.drop k) = some n) (hm : W.markK (s.extract k (k + n)).data.toList = 0) {x : List UInt8} (hu : W.unqL (s.extract k (k + n)).data.toList = (x, 0)) : W.takeD (s.data.toList.drop k) = .tok 1 x 0 n := by
  rw [← take_ext] at hm hu
  unfold W.takeD; rw [head_drop s k h, if_neg (fun h => h hs), hn]; simp only; rw [hm, hu, if_neg (fun h => h rfl), if_neg (fun h => h rfl)]
theorem scanL_D (s : ByteArray) (k : Nat) : W.scanL s.data.toList k = (W.scanD (s.data.toList.drop k)).map (· + k) := by
  have h0 : ¬ ((k : Int) < 0) := by omega
  simp only [W.scanL, h0, if_false, Int.toNat_natCast]

theorem blk_cell {w w1 : World} {cs : Array Value} {T : TypeId} (hb : Below (w.alloc (.cells cs T)).heap.size (w.alloc (.cells cs T)) w1) (j : Nat) : w1.cell? ⟨w.heap.size, j, none⟩ = cs[j]? :=
  (hb.cell (p := ⟨w.heap.size, j, none⟩) (by simp)).trans (World.cell?_alloc_mark w cs T (0, 0) j)
theorem blk_free {w w1 : World} {cs : Array Value} {T : TypeId} (hb : Below (w.alloc (.cells cs T)).heap.size (w.alloc (.cells cs T)) w1) (j : Nat) : w1.frozen? ⟨w.heap.size, j, none⟩ = false := by
  rw [hb.frozen (p := ⟨w.heap.size, j, none⟩) (by simp)]
  have : (w.alloc (.cells cs T)).heap[w.heap.size]? = some (.cells cs T (0, 0)) := heap_alloc_new w _
  unfold World.frozen?; simp only [this]; simp

theorem below4 {w w1 : World} {o : Obj} (hb : Below (w.alloc o).heap.size (w.alloc o) w1) (a b c d : Value) : Below w.heap.size w ((((w1.setCell ⟨w.heap.size, 0, none⟩ a).setCell ⟨w.heap.size, 1, none⟩ b).setCell ⟨w.heap.size, 2, none⟩ c).setCell ⟨w.heap.size, 3, none⟩ d) :=
  (((((((Below.refl _ _).alloc (Nat.le_refl _) _).trans (hb.mono (by simp))).setCell (Nat.le_refl _) _).setCell (Nat.le_refl _) _).setCell (Nat.le_refl _) _).setCell (Nat.le_refl _) _)

end Go.Proofs.Ytkifapbiimlafaa

namespace Go.Proofs.Ytkifapbiimlafaa
open Go.RowKit

theorem from_ext (s : ByteArray) (k : Nat) : (s.extract k s.size).data.toList = s.data.toList.drop k := by
  rw [Lib.extract_data]; apply List.take_of_length_le; rw [List.length_drop, ← Lib.size_eq]; omega
/-- What All leaves: the tokens in memory of the call's own, the place, the error. -/
def AllS (T : TypeId) (w : World) (r : W.Res) (e : Ending) (w' : World) : Prop :=
  ∃ v, e = .returned (.tuple #[v, .int .i64 (r.place : Int), .int .i64 r.err]) ∧ OwnT T w' w.heap.size v r.toks ∧ Below w.heap.size w w'

theorem line_gt {s : ByteArray} {k j : Nat} {hk : k < s.size} {hj : j < s.size} (h : s[k].toNat = 35) (h2 : s[j].toNat = 10) (h3 : k ≤ j) : k < j := by
  rcases Nat.lt_or_ge k j with hlt | hge
  · exact hlt
  · obtain rfl : k = j := by omega
    omega
theorem own_keep {T : TypeId} {w w1 : World} {base : Nat} {v : Value} {l : List W.Tok} (h : OwnT T w base v l) (hb : Below w.heap.size w w1) : OwnT T w1 base v l := by
  refine ⟨h.1, ?_⟩
  rcases h.2 with hn | ⟨g, cap, cur, rfl, hbg, hgg, rest⟩
  · exact .inl hn
  · refine .inr ⟨g, cap, cur, rfl, hbg, ?_, rest⟩
    rw [hb.block g (Array.getElem?_eq_some_iff.1 hgg).1]
    exact hgg

end Go.Proofs.Ytkifapbiimlafaa

namespace Go.Proofs.Ytkifapbiimlafaa.W

def rowL (l : List UInt8) : Nat := Lib.countByte l 10 + 1
def colF (c : Nat) (b : UInt8) : Nat := if b.toNat = 10 then 1 else c + 1
def colL (l : List UInt8) : Nat := l.foldl colF 1
theorem colL_snoc (l : List UInt8) (b : UInt8) : colL (l ++ [b]) = if b.toNat = 10 then 1 else colL l + 1 := by
  unfold colL; rw [List.foldl_append]; rfl
theorem rowL_snoc (l : List UInt8) (b : UInt8) : rowL (l ++ [b]) = if b.toNat = 10 then rowL l + 1 else rowL l := by
  unfold rowL Lib.countByte
  rw [List.count_append]
  by_cases h : b.toNat = 10
  · obtain rfl : b = 10 := UInt8.toNat_inj.1 h
    simp
  · have hb : ¬ b = 10 := fun e => h (by rw [e]; rfl)
    rw [if_neg h]
    simp [hb]
theorem col_le (s : ByteArray) (k : Nat) : 1 ≤ colL (s.data.toList.take k) ∧ (k ≤ s.size → colL (s.data.toList.take k) ≤ k + 1) := by
  induction k with
  | zero => simp [colL]
  | succ k ih =>
    by_cases h : k < s.size
    · rw [take_snoc s k h, colL_snoc]
      split
      · omega
      · refine ⟨by omega, fun _ => ?_⟩
        have := ih.2 (by omega)
        omega
    · have e : s.data.toList.take (k + 1) = s.data.toList.take k := by
        rw [List.take_of_length_le (by rw [← Lib.size_eq]; omega), List.take_of_length_le (by rw [← Lib.size_eq]; omega)]
      rw [e]
      exact ⟨ih.1, fun hk => by omega⟩
theorem row_le (s : ByteArray) (k : Nat) : 1 ≤ rowL (s.data.toList.take k) ∧ (k ≤ s.size → rowL (s.data.toList.take k) ≤ k + 1) := by
  unfold rowL Lib.countByte
  refine ⟨by omega, fun _ => ?_⟩
  have h1 : (s.data.toList.take k).count 10 ≤ (s.data.toList.take k).length := List.count_le_length
  have h2 : (s.data.toList.take k).length ≤ k := List.length_take_le _ _
  omega
/-- From j on no byte 10 is. -/
def Behind (s : ByteArray) (j : Nat) : Prop := j ≤ s.size ∧ colL s.data.toList = colL (s.data.toList.take j) + (s.size - j)
theorem Behind.start (s : ByteArray) : Behind s s.size := ⟨Nat.le_refl _, by rw [List.take_of_length_le (by rw [← Lib.size_eq]; omega)]; omega⟩
theorem Behind.next {s : ByteArray} {j : Nat} (h : Behind s (j + 1)) (hj : j < s.size) (hp : s[j].toNat ≠ 10) : Behind s j :=
  ⟨by omega, by rw [h.2, take_snoc s j hj, colL_snoc, if_neg hp]; omega⟩
theorem Behind.hit {s : ByteArray} {j : Nat} (h : Behind s (j + 1)) (hj : j < s.size) (hp : s[j].toNat = 10) : (j : Int) = (s.size : Int) - colL s.data.toList := by
  rw [h.2, take_snoc s j hj, colL_snoc, if_pos hp]; omega
theorem Behind.none {s : ByteArray} (h : Behind s 0) : (-1 : Int) = (s.size : Int) - colL s.data.toList := by
  have : colL (s.data.toList.take 0) = 1 := by simp [colL]
  rw [h.2, this]; omega
end Go.Proofs.Ytkifapbiimlafaa.W
namespace Go.Proofs.Ytkifapbiimlafaa
open Go.RowKit

theorem retP {a b c d : Int} (h : a = b) (h2 : c = d) : Ending.returned (.tuple #[.int .i64 a, .int .i64 c]) = .returned (.tuple #[.int .i64 b, .int .i64 d]) := by rw [h, h2]
theorem retN {a b : Int} (h : a = b) : Ending.returned (.int .i64 a) = .returned (.int .i64 b) := by rw [h]

/-- The place that is meant. -/
def cutP (s : ByteArray) (a : Int) : Nat := min a.toNat s.size
theorem ext_full (s : ByteArray) (m : Nat) (h : m ≤ s.size) : (s.extract 0 m).size = m ∧ (s.extract 0 m).data.toList = s.data.toList.take m :=
  ⟨by rw [W.rest_size _ _ _ h]; omega, by rw [Lib.extract_data]; simp⟩
theorem cut_cases (s : ByteArray) (a : Int) : ∃ m : Nat, m ≤ s.size ∧ ((a < 0 ∧ m = 0) ∨ (a = m) ∨ ((s.size : Int) < a ∧ m = s.size)) := by
  by_cases h0 : a < 0
  · exact ⟨0, Nat.zero_le _, .inl ⟨h0, rfl⟩⟩
  · obtain ⟨k, rfl⟩ := Int.eq_ofNat_of_zero_le (show 0 ≤ a by omega)
    by_cases hk : k ≤ s.size
    · exact ⟨k, hk, .inr (.inl rfl)⟩
    · exact ⟨s.size, Nat.le_refl _, .inr (.inr ⟨by omega, rfl⟩)⟩

end Go.Proofs.Ytkifapbiimlafaa
