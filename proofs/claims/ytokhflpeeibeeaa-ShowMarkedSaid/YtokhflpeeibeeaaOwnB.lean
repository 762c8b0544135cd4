/-
  A slice of bytes of the call's own: what append does to it, its string, a literal one. Condition: at most 2^42 bytes.
-/
import Derived.Test.YtokhflpeeibeeaaRows
import Derived.WalkKit
import Derived.WalkSpells
import Derived.WalkLawsBesides
import Derived.Lib.Bytealg
import Derived.Lib.Hide
import Derived.Deep.RegionLaw
import Derived.Laws.IdiomStrings
import Derived.Laws.BytesArg
namespace Go.Proofs.Ytokhflpeeibeeaa
open Go.RowKit

/-- The cells of bytes. -/
def byteCells (l : List UInt8) : List Value := l.map fun b => .int .u8 (b.toNat : Int)
theorem byteCells_append (a b : List UInt8) : byteCells (a ++ b) = byteCells a ++ byteCells b := by simp [byteCells]
theorem byteCells_one (l : List UInt8) : ∀ u ∈ byteCells l, u.oneCell' = true := by
  intro u hu; simp [byteCells] at hu; obtain ⟨b, _, rfl⟩ := hu; rfl
/-- The slice value v owns the bytes l, in blocks from base on. -/
def OwnB (w : World) (base : Nat) (v : Value) (l : List UInt8) : Prop := w.ownsRow base 5 1 v l.length (byteCells l)
theorem u8_info : (Try.prog.info? 5).map (fun i => (i.zero, i.size, i.bytes)) = some (some (.int .u8 0), 1, 1) := by kernel_rfl

def GrewB (base : Nat) (w : World) (l : List UInt8) (e : Ending) (w' : World) : Prop := ∃ v, e = .returned v ∧ OwnB w' base v l ∧ Below base w w'

theorem new_cells (w : World) (cs : Array Value) (news : List UInt8) (hcs : cs.toList = byteCells news) : ∀ j u, (byteCells news)[j]? = some u → (w.alloc (.cells cs 5)).cell? ((⟨w.heap.size, 0, none⟩ : Addr).add j) = some u := by
  intro j u hj
  have e : cs[j]? = some u := by rw [← hj, ← hcs]; simp
  rw [← e]
  have := World.cell?_alloc_mark w cs 5 (0, 0) j
  unfold Addr.add
  by_cases h : j = 0
  · subst h; exact this
  · rw [if_neg h, Nat.zero_add]; exact this

theorem wp_appB {o : Oper} {a : Act} {K : Act → World → Prop} {Q : Exit → Act → World → Prop} (w : World) (s x : Operand)
    (ho : o.op = .call { callee := .builtin .append, args := #[s, x], argTypes := #[40, 40] })
    (base : Nat) (v : Value) (l : List UInt8) (hs : a.eval s = v) (hown : OwnB w base v l) (ad : Addr) (news : List UInt8) (m cap : Nat) (hm : news.length = m)
    (hx : a.eval x = .slice (some ad) m cap) (hc : ∀ j u, (byteCells news)[j]? = some u → w.cell? (ad.add j) = some u) (hlen : l.length + m ≤ 4398046511104) (hb : base ≤ w.heap.size)
    (h : ∀ v' w', OwnB w' base v' (l ++ news) → Below base w w' → K (a.put o.dst v') w') : o.wp Try.prog a w K Q := by
  obtain ⟨i0, hi0, hz0, hz1, hz2⟩ := info_parts u8_info
  refine wp_append_own w s x 40 ho base 5 i0 _ 1 1 Try.underlying40 hi0 hz0 hz1 hz2 rfl (by decide) v l.length (byteCells l) hs hown ad m cap (byteCells news) hx
    (by simp [byteCells, hm]) hc (byteCells_one _) (by unfold maxLen; omega) (by omega) hb ?_
  intro v' w' h1 h2 _
  refine h v' w' ?_ ?_
  · unfold OwnB; rw [byteCells_append, List.length_append, hm]; exact h1
  · exact Below.grown (Below.refl _ _) h2 hb (fun k hk => (World.ownsRow.lt hown k hk).1)

theorem wpList_appB {ops : Array Oper} {rest : List Oper} {o : Oper} {a : Act} {Q : Exit → Act → World → Prop} (w : World) (hgd : o.guard = none) (s x : Operand)
    (ho : o.op = .call { callee := .builtin .append, args := #[s, x], argTypes := #[40, 40] })
    (base : Nat) (v : Value) (l : List UInt8) (hs : a.eval s = v) (hown : OwnB w base v l) (news : List UInt8) (m cap : Nat) (cs : Array Value) (hcs : cs.toList = byteCells news) (hm : news.length = m)
    (hx : a.eval x = .slice (some ⟨w.heap.size, 0, none⟩) m cap) (hlen : l.length + m ≤ 4398046511104) (hb : base ≤ w.heap.size)
    (h : ∀ v' w', OwnB w' base v' (l ++ news) → Below base w w' → wpList Try.prog ops Q rest (a.put o.dst v') w') : wpList Try.prog ops Q (o :: rest) a (w.alloc (.cells cs 5)) :=
  wpList_plain hgd fun _ hK => wp_appB _ s x ho base v l hs (World.ownsRow.alloc hown _) ⟨w.heap.size, 0, none⟩ news m cap hm hx (new_cells w cs news hcs) hlen (by simp; omega) fun v' w' h1 h2 => hK _ _ (h v' w' h1 (((Below.refl _ _).alloc hb _).trans h2))

theorem step_appB {ops : Array Oper} {o : Oper} {a : Act} {K : Act → World → Prop} {Q : Exit → Act → World → Prop} {E : Prop} (w : World) (hgd : o.guard = none) (s x : Operand)
    (ho : o.op = .call { callee := .builtin .append, args := #[s, x], argTypes := #[40, 40] })
    (base : Nat) (v : Value) (l : List UInt8) (hs : a.eval s = v) (hown : OwnB w base v l) (news : List UInt8) (m cap : Nat) (cs : Array Value) (hcs : cs.toList = byteCells news) (hm : news.length = m)
    (hx : a.eval x = .slice (some ⟨w.heap.size, 0, none⟩) m cap) (hlen : l.length + m ≤ 4398046511104) (hb : base ≤ w.heap.size)
    (h : ∀ v' w', OwnB w' base v' (l ++ news) → Below base w w' → K (a.put o.dst v') w') :
    if Region.wanted o (yielded ops a.tmps) = true then Oper.wp Try.prog o a (w.alloc (.cells cs 5)).drew K Q else E := by
  have hw : Region.wanted o (yielded ops a.tmps) = true := by simp [Region.wanted, hgd]
  rw [if_pos hw]
  exact wp_appB (w.alloc (.cells cs 5)).drew s x ho base v l hs (World.ownsRow.alloc hown _) ⟨w.heap.size, 0, none⟩ news m cap hm hx (new_cells w cs news hcs) hlen (by simp; omega) fun v' w' h1 h2 => h v' w' h1 ((((Below.refl _ _).alloc hb _).drew).trans h2)

theorem conv_own {w : World} {base : Nat} {v : Value} {l : List UInt8} (h : OwnB w base v l) : (convert 40 9 v).run Try.prog w = .ok (.string ⟨l.toArray⟩) w := by
  rcases h.2 with ⟨rfl, hn⟩ | ⟨g, cap, cur, rfl, _, hh, hnc, _, hsz, htk⟩
  · have : l = [] := List.eq_nil_of_length_eq_zero hn
    subst this
    exact run_convert_bytes_nil w 40 5 Try.underlying40 Try.underlying5 0 0 9 Try.underlying9
  · refine run_convert_bytes_back w _ _ _ ⟨g, 0, none⟩ cap l Try.underlying40 Try.underlying5 Try.underlying9 ?_
    intro j hj
    have hc := World.ownsRow.cellAt h j (by omega)
    have e : (⟨g, 0, none⟩ : Addr).add j = ⟨g, j, none⟩ := by
      unfold Addr.add; by_cases h0 : j = 0
      · subst h0; rfl
      · rw [if_neg h0, Nat.zero_add]
    rw [e, hc]
    simp [byteCells, List.getElem?_eq_getElem hj]

theorem own_lit (w : World) (base : Nat) (hb : base ≤ w.heap.size) (l : List UInt8) (cs : Array Value) (hcs : cs.toList = byteCells l) (n : Nat) (hn : l.length = n) (hm : n ≤ 1099511627776) :
    OwnB (w.alloc (.cells cs 5)) base (.slice (some ⟨w.heap.size, 0, none⟩) n n) l := by
  subst hn
  have h1 : cs.size = l.length * 1 := by rw [← Array.length_toList, hcs]; simp [byteCells]
  have := World.ownsRow_lit (base := base) (e := 5) (size := 1) w cs l.length hb (by unfold maxLen; omega) h1
  unfold OwnB
  rw [hcs] at this
  exact this

def WroteS (B : Nat) (w : World) (l : List UInt8) (k : Int) (e : Ending) (w' : World) : Prop := e = .returned (.tuple #[.string ⟨l.toArray⟩, .int .i64 k]) ∧ Below B w w'

end Go.Proofs.Ytokhflpeeibeeaa
