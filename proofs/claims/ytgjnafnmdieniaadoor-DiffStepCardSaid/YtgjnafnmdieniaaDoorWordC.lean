/-
  Contracts of the smallest functions under layer 1 (word): shown, plainByte, strings.IndexByte, strings.HasPrefix, reserved, allPlain return what the plain definitions say, and leave the world as it was. Condition: strings of at most 2^40 bytes.
  Contracts of layer 1's Scan, and of quotedEnd, one and coded beneath Unquote: they return what the plain definitions say, and leave the world as it was. Condition: strings of at most 2^40 bytes.
  Contracts of one and coded (layer 1, beneath Unquote): they return what the plain definitions say, and leave the world as it was. Condition: strings of at most 2^40 bytes.
  A slice of bytes of the call's own: what append does to it, its string, a literal one. Condition: at most 2^42 bytes.
  Contracts of layer 1's inner, meant and Unquote: the word of a text is what the plain definitions say; below the heap's size at the call the world is as it was. Condition: strings of at most 2^40 bytes.
  Contracts of layer 1's Scan and Unquote, with what they answer as a variable. Condition: strings of at most 2^40 bytes.
  Contracts of layer 1's appendQuoted and Quote: what is written is what the plain definitions say; below the heap's size at the call the world is as it was. Condition: strings of at most 2^40 bytes.
-/
import Derived.Test.YtgjnafnmdieniaaDoorRows
import Derived.Test.YtgjnafnmdieniaaDoorPureW
import Derived.WalkKit
import Derived.WalkSpells
import Derived.WalkLawsBesides
import Derived.Lib.Bytealg
import Derived.Lib.Hide
import Derived.Deep.RegionLaw
import Derived.Laws.IdiomStrings
import Derived.Laws.BytesArg

namespace Go.Proofs.YtgjnafnmdieniaaDoor
open Go.RowKit

theorem ret_bool {a b : Bool} (h : a = b) : Ending.returned (.bool a) = .returned (.bool b) := by rw [h]

theorem shown_any (c : UInt8) (w : World) :
    Calls Tryd.prog 66 #[.int .u8 c.toNat] w fun e w' => e = .returned (.bool (W.shownB c)) ∧ w = w' := by
  go_enter Tryd.func66, Tryd.ntmps66
  go_wp2
  · go_ret
    exact ⟨ret_bool (W.shown_yes ‹_›).symm, rfl⟩
  · go_ret
    exact ⟨ret_bool (W.shown_no ‹_›).symm, rfl⟩

set_option maxRecDepth 100000 in
theorem sliteIndex_any (s : ByteArray) (c : UInt8) (w : World) :
    Calls Tryd.prog 92 #[.string s, .int .u8 c.toNat] w fun e w' => e = .returned (.int .i64 (Lib.indexByte s.data.toList c)) ∧ w = w' := by
  go_enter Tryd.func92, Tryd.ntmps92
  go_wp2
  rw [run_callFunc_extern Tryd.func96 (by kernel_rfl) (by kernel_rfl) (by kernel_rfl) (e := Extern.BytealgIndexByte.indexByte) (by kernel_rfl), Lib.run_indexByteString]
  simp only [Result.andThen]
  rw [Oper.upon_value]
  go_wp2
  go_ret
  exact ⟨by simp, rfl⟩

theorem index_any (s : ByteArray) (c : UInt8) (w : World) :
    Calls Tryd.prog 82 #[.string s, .int .u8 c.toNat] w fun e w' => e = .returned (.int .i64 (Lib.indexByte s.data.toList c)) ∧ w = w' := by
  go_enter Tryd.func82, Tryd.ntmps82
  go_wp2_with (go_at_call 92; refine (sliteIndex_any _ _ _).mono ?_; rintro e w' ⟨rfl, rfl⟩)
  go_ret
  exact ⟨rfl, rfl⟩

theorem plainByte_any (c : UInt8) (w : World) :
    Calls Tryd.prog 73 #[.int .u8 c.toNat] w fun e w' => e = .returned (.bool (W.plainB c)) ∧ w = w' := by
  go_enter Tryd.func73, Tryd.ntmps73
  go_wp2_with (go_at_call 82; refine (index_any _ _ _).mono ?_; rintro e w' ⟨rfl, rfl⟩)
  all_goals
    go_ret
    refine ⟨ret_bool (Eq.symm ?_), rfl⟩
    first
      | exact W.plainB_of (by omega)
      | exact W.plainB_idx c (by omega) (by omega) (by omega)

theorem litePrefix_any (s p : ByteArray) (w : World) :
    Calls Tryd.prog 83 #[.string s, .string p] w fun e w' => e = .returned (.bool (Lib.hasPrefix s.data.toList p.data.toList)) ∧ w = w' := by
  go_enter Tryd.func83, Tryd.ntmps83
  go_wp2
  · go_ret
    exact ⟨ret_bool (W.prefix_yes s p ‹_›), rfl⟩
  · go_ret
    exact ⟨ret_bool (W.prefix_no s p ‹_›), rfl⟩
theorem prefix_any (s p : ByteArray) (w : World) :
    Calls Tryd.prog 74 #[.string s, .string p] w fun e w' => e = .returned (.bool (Lib.hasPrefix s.data.toList p.data.toList)) ∧ w = w' := by
  go_enter Tryd.func74, Tryd.ntmps74
  go_wp2_with (go_at_call 83; refine (litePrefix_any _ _ _).mono ?_; rintro e w' ⟨rfl, rfl⟩)
  go_ret
  exact ⟨rfl, rfl⟩
theorem reserved_any (s : ByteArray) (w : World) :
    Calls Tryd.prog 65 #[.string s] w fun e w' => e = .returned (.bool (W.reservedL s.data.toList)) ∧ w = w' := by
  go_enter Tryd.func65, Tryd.ntmps65
  go_wp2_with (go_at_call 74; refine (prefix_any _ _ _).mono ?_; rintro e w' ⟨rfl, rfl⟩)
  · go_ret
    exact ⟨ret_bool (W.reserved_a s ‹_›).symm, rfl⟩
  · go_ret
    exact ⟨ret_bool (W.reserved_b s ‹_›).symm, rfl⟩
  · go_ret
    refine ⟨ret_bool ?_, rfl⟩
    rw [W.reserved_c s ‹_› ‹_›]
    simp [*]

theorem allPlain_any (s : ByteArray) (w : World) (hs : s.size ≤ 1099511627776) :
    Calls Tryd.prog 64 #[.string s] w fun e w' => e = .returned (.bool (W.allPlainL s.data.toList)) ∧ w = w' := by
  go_enter Tryd.func64, Tryd.ntmps64
  go_wp2
  go_loop [3] (fun i => ∃ k : Nat, k ≤ s.size ∧ i = .int .i64 k ∧ Hid ((s.data.toList.take k).all W.plainB = true)) (fun i => s.size - (intOf i).toNat)
  case atStart => exact ⟨0, Nat.zero_le _, rfl, by simp [Hid]⟩
  case round =>
    obtain ⟨k, hk, rfl, H⟩ := hrel
    by_cases hlt : k < s.size
    · cases hp : W.plainB s[k]
      · go_wp2_with (go_at_call 73; refine (plainByte_any _ _).mono ?_; rintro e w' ⟨rfl, rfl⟩)
        go_ret
        exact ⟨ret_bool (W.allPlain_miss s k hlt hp).symm, rfl⟩
      · go_wp2_with (go_at_call 73; refine (plainByte_any _ _).mono ?_; rintro e w' ⟨rfl, rfl⟩)
        go_round
        case rel => exact ⟨k + 1, by omega, by go_num, W.all_snoc s k hlt H.out hp⟩
        case measure => simp [intOf]; omega
    · go_wp2
      go_ret
      exact ⟨ret_bool (by rw [W.allPlain_all s k (by omega) H.out]), rfl⟩

end Go.Proofs.YtgjnafnmdieniaaDoor

namespace Go.Proofs.YtgjnafnmdieniaaDoor
open Go.RowKit

theorem ret_int_bool {a b : Int} {c d : Bool} (h : a = b) (h2 : c = d) : Ending.returned (.tuple #[.int .i64 a, .bool c]) = .returned (.tuple #[.int .i64 b, .bool d]) := by rw [h, h2]
theorem ret_byte_int {a b c d : Int} (h : a = b) (h2 : c = d) : Ending.returned (.tuple #[.int .u8 a, .int .i64 c]) = .returned (.tuple #[.int .u8 b, .int .i64 d]) := by rw [h, h2]

end Go.Proofs.YtgjnafnmdieniaaDoor

namespace Go.Proofs.YtgjnafnmdieniaaDoor
open Go.RowKit

theorem hexIdx_any (c : UInt8) (w : World) :
    Calls Tryd.prog 82 #[.string ⟨#[48, 49, 50, 51, 52, 53, 54, 55, 56, 57, 97, 98, 99, 100, 101, 102]⟩, .int .u8 c.toNat] w fun e w' => e = .returned (.int .i64 (W.hexV c)) ∧ w = w' := index_any _ c w

end Go.Proofs.YtgjnafnmdieniaaDoor

namespace Go.Proofs.YtgjnafnmdieniaaDoor
open Go.RowKit

/-- The cells of bytes. -/
def byteCells (l : List UInt8) : List Value := l.map fun b => .int .u8 (b.toNat : Int)
theorem byteCells_append (a b : List UInt8) : byteCells (a ++ b) = byteCells a ++ byteCells b := by simp [byteCells]
theorem byteCells_one (l : List UInt8) : ∀ u ∈ byteCells l, u.oneCell' = true := by
  intro u hu; simp [byteCells] at hu; obtain ⟨b, _, rfl⟩ := hu; rfl
/-- The slice value v owns the bytes l, in blocks from base on. -/
def OwnB (w : World) (base : Nat) (v : Value) (l : List UInt8) : Prop := w.ownsRow base 5 1 v l.length (byteCells l)
theorem u8_info : (Tryd.prog.info? 5).map (fun i => (i.zero, i.size, i.bytes)) = some (some (.int .u8 0), 1, 1) := by kernel_rfl

def GrewB (base : Nat) (w : World) (l : List UInt8) (e : Ending) (w' : World) : Prop := ∃ v, e = .returned v ∧ OwnB w' base v l ∧ Below base w w'

theorem new_cells (w : World) (cs : Array Value) (news : List UInt8) (hcs : cs.toList = byteCells news) : ∀ j u, (byteCells news)[j]? = some u → (w.alloc (.cells cs 5)).cell? ((⟨w.heap.size, 0, none⟩ : Addr).add j) = some u := by
  intro j u hj
  have e : cs[j]? = some u := by rw [← hj, ← hcs]; simp
  rw [← e]
  have := World.cell?_alloc_mark w cs 5 (0, 0) j
  unfold Addr.add
  by_cases h : j = 0
  · subst h; exact this
  · rw [if_neg h, Nat.zero_add]; exact this

theorem wp_appB {o : Oper} {a : Act} {K : Act → World → Prop} {Q : Exit → Act → World → Prop} (w : World) (s x : Operand)
    (ho : o.op = .call { callee := .builtin .append, args := #[s, x], argTypes := #[56, 56] })
    (base : Nat) (v : Value) (l : List UInt8) (hs : a.eval s = v) (hown : OwnB w base v l) (ad : Addr) (news : List UInt8) (m cap : Nat) (hm : news.length = m)
    (hx : a.eval x = .slice (some ad) m cap) (hc : ∀ j u, (byteCells news)[j]? = some u → w.cell? (ad.add j) = some u) (hlen : l.length + m ≤ 4398046511104) (hb : base ≤ w.heap.size)
    (h : ∀ v' w', OwnB w' base v' (l ++ news) → Below base w w' → K (a.put o.dst v') w') : o.wp Tryd.prog a w K Q := by
  obtain ⟨i0, hi0, hz0, hz1, hz2⟩ := info_parts u8_info
  refine wp_append_own w s x 56 ho base 5 i0 _ 1 1 Tryd.underlying56 hi0 hz0 hz1 hz2 rfl (by decide) v l.length (byteCells l) hs hown ad m cap (byteCells news) hx
    (by simp [byteCells, hm]) hc (byteCells_one _) (by unfold maxLen; omega) (by omega) hb ?_
  intro v' w' h1 h2 _
  refine h v' w' ?_ ?_
  · unfold OwnB; rw [byteCells_append, List.length_append, hm]; exact h1
  · exact Below.grown (Below.refl _ _) h2 hb (fun k hk => (World.ownsRow.lt hown k hk).1)

theorem wpList_appB {ops : Array Oper} {rest : List Oper} {o : Oper} {a : Act} {Q : Exit → Act → World → Prop} (w : World) (hgd : o.guard = none) (s x : Operand)
    (ho : o.op = .call { callee := .builtin .append, args := #[s, x], argTypes := #[56, 56] })
    (base : Nat) (v : Value) (l : List UInt8) (hs : a.eval s = v) (hown : OwnB w base v l) (news : List UInt8) (m cap : Nat) (cs : Array Value) (hcs : cs.toList = byteCells news) (hm : news.length = m)
    (hx : a.eval x = .slice (some ⟨w.heap.size, 0, none⟩) m cap) (hlen : l.length + m ≤ 4398046511104) (hb : base ≤ w.heap.size)
    (h : ∀ v' w', OwnB w' base v' (l ++ news) → Below base w w' → wpList Tryd.prog ops Q rest (a.put o.dst v') w') : wpList Tryd.prog ops Q (o :: rest) a (w.alloc (.cells cs 5)) :=
  wpList_plain hgd fun _ hK => wp_appB _ s x ho base v l hs (World.ownsRow.alloc hown _) ⟨w.heap.size, 0, none⟩ news m cap hm hx (new_cells w cs news hcs) hlen (by simp; omega) fun v' w' h1 h2 => hK _ _ (h v' w' h1 (((Below.refl _ _).alloc hb _).trans h2))

theorem step_appB {ops : Array Oper} {o : Oper} {a : Act} {K : Act → World → Prop} {Q : Exit → Act → World → Prop} {E : Prop} (w : World) (hgd : o.guard = none) (s x : Operand)
    (ho : o.op = .call { callee := .builtin .append, args := #[s, x], argTypes := #[56, 56] })
    (base : Nat) (v : Value) (l : List UInt8) (hs : a.eval s = v) (hown : OwnB w base v l) (news : List UInt8) (m cap : Nat) (cs : Array Value) (hcs : cs.toList = byteCells news) (hm : news.length = m)
    (hx : a.eval x = .slice (some ⟨w.heap.size, 0, none⟩) m cap) (hlen : l.length + m ≤ 4398046511104) (hb : base ≤ w.heap.size)
    (h : ∀ v' w', OwnB w' base v' (l ++ news) → Below base w w' → K (a.put o.dst v') w') :
    if Region.wanted o (yielded ops a.tmps) = true then Oper.wp Tryd.prog o a (w.alloc (.cells cs 5)).drew K Q else E := by
  have hw : Region.wanted o (yielded ops a.tmps) = true := by simp [Region.wanted, hgd]
  rw [if_pos hw]
  exact wp_appB (w.alloc (.cells cs 5)).drew s x ho base v l hs (World.ownsRow.alloc hown _) ⟨w.heap.size, 0, none⟩ news m cap hm hx (new_cells w cs news hcs) hlen (by simp; omega) fun v' w' h1 h2 => h v' w' h1 ((((Below.refl _ _).alloc hb _).drew).trans h2)

theorem conv_own {w : World} {base : Nat} {v : Value} {l : List UInt8} (h : OwnB w base v l) : (convert 56 9 v).run Tryd.prog w = .ok (.string ⟨l.toArray⟩) w := by
  rcases h.2 with ⟨rfl, hn⟩ | ⟨g, cap, cur, rfl, _, hh, hnc, _, hsz, htk⟩
  · have : l = [] := List.eq_nil_of_length_eq_zero hn
    subst this
    exact run_convert_bytes_nil w 56 5 Tryd.underlying56 Tryd.underlying5 0 0 9 Tryd.underlying9
  · refine run_convert_bytes_back w _ _ _ ⟨g, 0, none⟩ cap l Tryd.underlying56 Tryd.underlying5 Tryd.underlying9 ?_
    intro j hj
    have hc := World.ownsRow.cellAt h j (by omega)
    have e : (⟨g, 0, none⟩ : Addr).add j = ⟨g, j, none⟩ := by
      unfold Addr.add; by_cases h0 : j = 0
      · subst h0; rfl
      · rw [if_neg h0, Nat.zero_add]
    rw [e, hc]
    simp [byteCells, List.getElem?_eq_getElem hj]

theorem own_lit (w : World) (base : Nat) (hb : base ≤ w.heap.size) (l : List UInt8) (cs : Array Value) (hcs : cs.toList = byteCells l) (n : Nat) (hn : l.length = n) (hm : n ≤ 1099511627776) :
    OwnB (w.alloc (.cells cs 5)) base (.slice (some ⟨w.heap.size, 0, none⟩) n n) l := by
  subst hn
  have h1 : cs.size = l.length * 1 := by rw [← Array.length_toList, hcs]; simp [byteCells]
  have := World.ownsRow_lit (base := base) (e := 5) (size := 1) w cs l.length hb (by unfold maxLen; omega) h1
  unfold OwnB
  rw [hcs] at this
  exact this

def WroteS (B : Nat) (w : World) (l : List UInt8) (k : Int) (e : Ending) (w' : World) : Prop := e = .returned (.tuple #[.string ⟨l.toArray⟩, .int .i64 k]) ∧ Below B w w'

end Go.Proofs.YtgjnafnmdieniaaDoor

namespace Go.Proofs.YtgjnafnmdieniaaDoor
open Go.RowKit

def InnerS (w : World) (o : Option (List UInt8)) (e : Ending) (w' : World) : Prop :=
  e = .returned (.tuple #[.string ⟨(o.getD []).toArray⟩, .bool o.isSome]) ∧ Below w.heap.size w w'

def MeantS (w : World) (o : Option (List UInt8)) (e : Ending) (w' : World) : Prop :=
  ∃ x : List UInt8, e = .returned (.tuple #[.string ⟨x.toArray⟩, .bool o.isSome]) ∧ (∀ y, o = some y → x = y) ∧ Below w.heap.size w w'

end Go.Proofs.YtgjnafnmdieniaaDoor

namespace Go.Proofs.YtgjnafnmdieniaaDoor
open Go.RowKit

end Go.Proofs.YtgjnafnmdieniaaDoor

namespace Go.Proofs.YtgjnafnmdieniaaDoor
open Go.RowKit

theorem plain_any (s : ByteArray) (w : World) (hs : s.size ≤ 1099511627776) :
    Calls Tryd.prog 50 #[.string s] w fun e w' => e = .returned (.bool (W.plainL s.data.toList)) ∧ w = w' := by
  go_enter Tryd.func50, Tryd.ntmps50
  go_wp2_with (first | (go_at_call 64; refine (allPlain_any _ _ hs).mono ?_; rintro e w' ⟨rfl, rfl⟩) | (go_at_call 65; refine (reserved_any _ _).mono ?_; rintro e w' ⟨rfl, rfl⟩))
  · go_ret
    exact ⟨ret_bool (W.plain_a s (by omega) ‹_›), rfl⟩
  · go_ret
    exact ⟨ret_bool (W.plain_b s ‹_›), rfl⟩
  · go_ret
    exact ⟨ret_bool (W.plain_c s (by omega)), rfl⟩
theorem and15 (c : UInt8) : bits BinOp.and IntKind.u8 (c.toNat : Int) 15 = (c.toNat : Int) % 16 := by
  have := W.byte_all (fun c => decide (bits BinOp.and IntKind.u8 (c.toNat : Int) 15 = (c.toNat : Int) % 16)) (by decide +kernel) c
  exact of_decide_eq_true this

set_option maxHeartbeats 400000 in
theorem appendQuoted_any (v : Value) (l : List UInt8) (c : UInt8) (w : World) (base : Nat) (hb : base ≤ w.heap.size) (hl : l.length ≤ 1099511627776) (hown : OwnB w base v l) :
    Calls Tryd.prog 51 #[v, .int .u8 c.toNat] w (GrewB base w (l ++ W.encB c)) := by
  by_cases hq : c.toNat = 34 ∨ c.toNat = 92
  · have HE : Hid (W.encB c = [92, c]) := W.enc_esc hq
    by_cases h34 : c.toNat = 34
    · have b34 : ((c.toNat : Int) == 34) = true := by simp; omega
      clear hq h34
      go_enter Tryd.func51, Tryd.ntmps51
      go_wp2_with (at_builtin; refine wpList_appB w rfl (.tmp 11) (.tmp 13) rfl base v l rfl hown [92, c] 2 2 _ rfl rfl rfl (by omega) hb ?_; intro v1 w1 hown1 hb1)
      go_ret
      exact ⟨v1, rfl, by rw [HE.out]; exact hown1, hb1⟩
    · have b34 : ((c.toNat : Int) == 34) = false := by simp; omega
      have b92 : ((c.toNat : Int) == 92) = true := by simp; omega
      clear hq h34
      go_enter Tryd.func51, Tryd.ntmps51
      go_wp2_with (at_builtin; refine wpList_appB w rfl (.tmp 11) (.tmp 13) rfl base v l rfl hown [92, c] 2 2 _ rfl rfl rfl (by omega) hb ?_; intro v1 w1 hown1 hb1)
      go_ret
      exact ⟨v1, rfl, by rw [HE.out]; exact hown1, hb1⟩
  have b34 : ((c.toNat : Int) == 34) = false := by simp; omega
  have b92 : ((c.toNat : Int) == 92) = false := by simp; omega
  cases hsh : W.shownB c with
  | true =>
    have HE : Hid (W.encB c = [c]) := W.enc_self hq hsh
    go_enter Tryd.func51, Tryd.ntmps51
    go_wp2_with (first | (go_at_call 66; refine (shown_any _ _).mono ?_; rintro e w' ⟨rfl, rfl⟩) | (at_builtin; refine wpList_appB w rfl (.tmp 17) (.tmp 19) rfl base v l rfl hown [c] 1 1 _ rfl rfl rfl (by omega) hb ?_; intro v1 w1 hown1 hb1))
    go_ret
    exact ⟨v1, rfl, by rw [HE.out]; exact hown1, hb1⟩
  | false =>
    have HE : Hid (W.encB c = [92, 120, W.hexD (c.toNat / 16), W.hexD (c.toNat % 16)]) := W.enc_hex hq hsh
    have hand := and15 c
    have d0 : (0 : Int) ≤ (c.toNat : Int) / 16 := by omega
    have d1 : (c.toNat : Int) / 16 < 16 := by have := c.toNat_lt; omega
    have m0 : (0 : Int) ≤ (c.toNat : Int) % 16 := by omega
    have m1 : (c.toNat : Int) % 16 < 16 := by omega
    go_enter Tryd.func51, Tryd.ntmps51
    go_wp2_with (go_at_call 66; refine (shown_any _ _).mono ?_; rintro e w' ⟨rfl, rfl⟩)
    go_region_law (refine step_appB w rfl (.tmp 21) (.tmp 28) rfl base v l rfl hown [92, 120, _, _] 4 4 _ rfl rfl rfl (by omega) hb ?_; intro v1 w1 hown1 hb1)
    all_goals
      go_wp2
      go_ret
      refine ⟨v1, rfl, ?_, hb1⟩
      rw [HE.out, ← W.hex_list c (by omega) (by omega)]
      exact hown1

set_option maxHeartbeats 800000 in
theorem quote_any (s : ByteArray) (w : World) :
    Calls Tryd.prog 32 #[.string s] w (WroteS w.heap.size w (if s.size ≤ 40 then W.quoteL s.data.toList else []) (if s.size ≤ 40 then 0 else 5)) := by
  by_cases h40 : s.size ≤ 40
  · rw [if_pos h40, if_pos h40]
    cases hp : W.plainL s.data.toList with
    | true =>
      have HQ : Hid (W.quoteL s.data.toList = s.data.toList) := W.quote_plain hp
      go_enter Tryd.func32, Tryd.ntmps32
      go_wp2_with (go_at_call 50; refine (plain_any _ _ (by omega)).mono ?_; rintro e w' ⟨rfl, rfl⟩)
      go_ret2
      exact ⟨by rw [HQ.out, Lib.mk_data]; rfl, Below.refl _ _⟩
    | false =>
      have HQ : Hid (W.quoteL s.data.toList = W.quotedL s.data.toList) := W.quote_quoted s h40 hp
      go_enter Tryd.func32, Tryd.ntmps32
      go_wp2_with (go_at_call 50; refine (plain_any _ _ (by omega)).mono ?_; rintro e w' ⟨rfl, rfl⟩)
      go_loopw [4, 5] (fun b i wr => ∃ k : Nat, k ≤ s.size ∧ i = .int .i64 k ∧ OwnB wr w.heap.size b (34 :: W.encL (s.data.toList.take k)) ∧ Below w.heap.size w wr) (fun _ i _ => s.size - (intOf i).toNat)
      case atStart => exact ⟨0, Nat.zero_le _, rfl, own_lit w _ (Nat.le_refl _) [34] _ rfl 1 rfl (by omega), (Below.refl _ _).alloc (Nat.le_refl _) _⟩
      case round =>
        obtain ⟨k, hk, rfl, hown, hb⟩ := hrel
        have hsz := hb.size
        have hen := W.encL_len (s.data.toList.take k)
        have htl : (s.data.toList.take k).length ≤ k := List.length_take_le _ _
        by_cases hlt : k < s.size
        · go_wp2_with (go_at_call 51; refine (appendQuoted_any _ (34 :: W.encL (s.data.toList.take k)) _ _ w.heap.size hsz (by simp only [List.length_cons]; omega) hown).mono ?_; rintro e w1 ⟨v1, rfl, hown1, hb1⟩)
          go_roundw
          case rel => exact ⟨k + 1, by omega, by go_num, by rw [W.take_snoc s k hlt, W.encL_snoc]; exact hown1, hb.trans hb1⟩
          case measure => simp [intOf]; omega
        · go_wp2_with (at_builtin; refine wpList_appB _ rfl (.tmp 24) (.tmp 25) rfl w.heap.size _ (34 :: W.encL (s.data.toList.take k)) rfl hown [34] 1 1 _ rfl rfl rfl (by simp only [List.length_cons]; omega) hsz ?_; intro v1 w1 hown1 hb1; have hcv := conv_own hown1)
          go_ret2
          refine ⟨?_, hb.trans hb1⟩
          rw [HQ.out, List.take_of_length_le (by rw [← Lib.size_eq]; omega)]
          rfl
  · rw [if_neg h40, if_neg h40]
    go_enter Tryd.func32, Tryd.ntmps32
    go_wp2
    go_ret2
    exact ⟨rfl, Below.refl _ _⟩
end Go.Proofs.YtgjnafnmdieniaaDoor
