/-
  Part 5 of what the proofs of this claim stand on. No conditions but those that each theorem states.
-/
import Derived.Test.YtfcikfohmehmkaaGreatDoorTabs4
import Derived.Test.YtfcikfohmehmkaaGreatDoorRows
import Derived.WalkKit
import Derived.WalkSpells
import Derived.WalkLawsBesides
import Derived.Lib.Hide
import Derived.Laws.OwnMore
import Derived.Deep.LoopGhost
import Derived.WalkMore
import Derived.RegionTactic

namespace Go.Proofs.YtfcikfohmehmkaaGreatDoor
open Go.RowKit
def tokC (t : W.Tok) : List Value := [.int .i64 t.kind, .int .i64 (t.pos : Int), .string ⟨t.word.toArray⟩, .int .i64 t.bit]
def tokCells (l : List W.Tok) : List Value := l.flatMap tokC
def tokV (t : W.Tok) : Value := .agg #[.int .i64 t.kind, .int .i64 (t.pos : Int), .string ⟨t.word.toArray⟩, .int .i64 t.bit]
theorem tokCells_append (a b : List W.Tok) : tokCells (a ++ b) = tokCells a ++ tokCells b := by simp [tokCells]
theorem tokCells_one (l : List W.Tok) : ∀ u ∈ tokCells l, u.oneCell' = true := by
 intro u hu; simp [tokCells, tokC] at hu; obtain ⟨t, _, h⟩ := hu
 rcases h with rfl | rfl | rfl | rfl <;> rfl
def OwnT (T : TypeId) (w : World) (base : Nat) (v : Value) (l : List W.Tok) : Prop := w.ownsRow base T 4 v l.length (tokCells l)
theorem OwnT.nil (T : TypeId) (w : World) (base : Nat) : OwnT T w base (.slice none 0 0) [] := ⟨by simp [tokCells], .inl ⟨rfl, rfl⟩⟩
theorem OwnT.alloc {T : TypeId} {w : World} {base : Nat} {v : Value} {l : List W.Tok} (h : OwnT T w base v l) (o : Obj) : OwnT T (w.alloc o) base v l := World.ownsRow.alloc h o
def zeroTok : Value := .agg #[.int .i64 0, .int .i64 0, .string ⟨#[]⟩, .int .i64 0]
theorem tok_info : (Tryz.prog.info? 86).map (fun i => (i.zero, i.size, i.bytes)) = some (some zeroTok, 4, 40) := by kernel_rfl
theorem new_toks (T : TypeId) (w : World) (cs : Array Value) (news : List Value) (hcs : cs.toList = news) : ∀ j u, news[j]? = some u → (w.alloc (.cells cs T)).cell? ((⟨w.heap.size, 0, none⟩ : Addr).add j) = some u := by
 intro j u hj
 have e : cs[j]? = some u := by rw [← hj, ← hcs]; simp
 rw [← e]
 have := World.cell?_alloc_mark w cs T (0, 0) j
 unfold Addr.add
 by_cases h : j = 0
 ·subst h; exact this
 ·rw [if_neg h, Nat.zero_add]; exact this
theorem wp_appT (st T : TypeId) (hst : Tryz.prog.underlying st = some (.slice T)) (hin : (Tryz.prog.info? T).map (fun i => (i.zero, i.size, i.bytes)) = some (some zeroTok, 4, 40)) {o : Oper} {a : Act} {K : Act → World → Prop} {Q : Exit → Act → World → Prop} (w : World) (s x : Operand)
  (ho : o.op = .call { callee := .builtin .append, args := #[s, x], argTypes := #[st, st] })
  (base : Nat) (v : Value) (l : List W.Tok) (hs : a.eval s = v) (hown : OwnT T w base v l) (ad : Addr) (t : W.Tok) (cap : Nat)
  (hx : a.eval x = .slice (some ad) 1 cap) (hc : ∀ j u, (tokC t)[j]? = some u → w.cell? (ad.add j) = some u) (hlen : l.length + 1 ≤ 1099511627776) (hb : base ≤ w.heap.size)
  (h : ∀ v' w', OwnT T w' base v' (l ++ [t]) → Below base w w' → K (a.put o.dst v') w') : o.wp Tryz.prog a w K Q := by
 obtain ⟨i0, hi0, hz0, hz1, hz2⟩ := info_parts hin
 have e1 : tokCells [t] = tokC t := by simp [tokCells]
 refine wp_append_own w s x st ho base T i0 _ 4 40 hst hi0 hz0 hz1 hz2 rfl (by decide) v l.length (tokCells l) hs hown ad 1 cap (tokC t) hx
  rfl hc (by rw [← e1]; exact tokCells_one _) (by unfold maxLen; omega) (by omega) hb ?_
 intro v' w' h1 h2 _
 refine h v' w' ?_ ?_
 ·unfold OwnT; rw [tokCells_append, List.length_append, e1]; exact h1
 ·exact Below.grown (Below.refl _ _) h2 hb (fun k hk => (World.ownsRow.lt hown k hk).1)
theorem wpList_appT (st T : TypeId) (hst : Tryz.prog.underlying st = some (.slice T)) (hin : (Tryz.prog.info? T).map (fun i => (i.zero, i.size, i.bytes)) = some (some zeroTok, 4, 40)) {ops : Array Oper} {rest : List Oper} {o : Oper} {a : Act} {Q : Exit → Act → World → Prop} (w : World) (hgd : o.guard = none) (s x : Operand)
  (ho : o.op = .call { callee := .builtin .append, args := #[s, x], argTypes := #[st, st] })
  (base : Nat) (v : Value) (l : List W.Tok) (hs : a.eval s = v) (hown : OwnT T w base v l) (t : W.Tok) (cap : Nat) (cs : Array Value) (hcs : cs.toList = tokC t)
  (g : Nat) (hg : w.heap.size = g) (hx : a.eval x = .slice (some ⟨g, 0, none⟩) 1 cap) (hlen : l.length + 1 ≤ 1099511627776) (hb : base ≤ w.heap.size)
  (h : ∀ v' w', OwnT T w' base v' (l ++ [t]) → Below base w w' → wpList Tryz.prog ops Q rest (a.put o.dst v') w') : wpList Tryz.prog ops Q (o :: rest) a (w.alloc (.cells cs T)) := by
 subst hg
 exact wpList_plain hgd fun _ hK => wp_appT st T hst hin _ s x ho base v l hs (World.ownsRow.alloc hown _) ⟨w.heap.size, 0, none⟩ t cap hx (new_toks T w cs (tokC t) hcs) hlen (by simp; omega) fun v' w' h1 h2 => hK _ _ (h v' w' h1 (((Below.refl _ _).alloc hb _).trans h2))
theorem retI {a b : Int} (h : a = b) : Ending.returned (.int .i64 a) = .returned (.int .i64 b) := by rw [h]
theorem blank_any (c : UInt8) (w : World) :
  Calls Tryz.prog 77 #[.int .u8 c.toNat] w fun e w' => e = .returned (.bool (W.blankB c)) ∧ w = w' := by
 go_enter Tryz.func77, Tryz.ntmps77
 go_wp2
 all_goals go_ret
 all_goals refine ⟨ret_bool (Eq.symm ?_), rfl⟩
 all_goals (unfold W.blankB; rw [Bool.eq_iff_iff]; simp; omega)
theorem sign_any (c : UInt8) (w : World) :
  Calls Tryz.prog 116 #[.int .u8 c.toNat] w fun e w' => e = .returned (.int .i64 (W.signK c)) ∧ w = w' := by
 go_enter Tryz.func116, Tryz.ntmps116
 go_wp2
 all_goals go_ret
 all_goals refine ⟨retI (Eq.symm ?_), rfl⟩
 all_goals simp_all [W.signK]
 all_goals omega
theorem mark_a (s : ByteArray) (h : (s.toList == [105, 110, 97, 99, 116, 105, 118, 101, 58]) = true) : W.markK s.data.toList = 1 := by
 rw [Lib.toList_data] at h; simp only [W.markK, W.inactiveL, h, if_true]
theorem mark_b (s : ByteArray) (h1 : (s.toList == [105, 110, 97, 99, 116, 105, 118, 101, 58]) = false) (h : (s.toList == [112, 114, 111, 116, 101, 99, 116, 58]) = true) : W.markK s.data.toList = 2 := by
 rw [Lib.toList_data] at h h1; unfold W.markK W.inactiveL W.protectL; rw [if_neg (by rw [h1]; simp), if_pos h]
theorem mark_c (s : ByteArray) (h1 : (s.toList == [105, 110, 97, 99, 116, 105, 118, 101, 58]) = false) (h : (s.toList == [112, 114, 111, 116, 101, 99, 116, 58]) = false) : W.markK s.data.toList = 0 := by
 rw [Lib.toList_data] at h h1; unfold W.markK W.inactiveL W.protectL; rw [if_neg (by rw [h1]; simp), if_neg (by rw [h]; simp)]
theorem markBit_any (s : ByteArray) (w : World) :
  Calls Tryz.prog 118 #[.string s] w fun e w' => e = .returned (.int .i64 (W.markK s.data.toList)) ∧ w = w' := by
 go_enter Tryz.func118, Tryz.ntmps118
 go_wp2
 all_goals go_ret
 all_goals refine ⟨retI (Eq.symm ?_), rfl⟩
 all_goals first
  | exact mark_a s (by assumption)
  | exact mark_b s (by assumption) (by assumption)
  | exact mark_c s (by assumption) (by assumption)
theorem mark_is (s : ByteArray) (m : Int) (w : World) (h : W.markK s.data.toList = m) : Calls Tryz.prog 118 #[.string s] w fun e w' => e = .returned (.int .i64 m) ∧ w = w' := by
 rw [← h]; exact markBit_any s w
def TookT (w : World) (k : Nat) (st : W.Step) (e : Ending) (w' : World) : Prop :=
 match st with
 | .tok kd wd b n => e = .returned (.tuple #[tokV ⟨kd, k, wd, b⟩, .int .i64 ((k + n : Nat) : Int), .int .i64 0]) ∧ Below w.heap.size w w'
 | .bad er => e = .returned (.tuple #[zeroTok, .int .i64 0, .int .i64 er]) ∧ Below w.heap.size w w'
 | .skip _ => False
theorem head_drop (s : ByteArray) (k : Nat) (h : k < s.size) : (s.data.toList.drop k).headD 0 = s[k] := by rw [W.drop_at s k h]; rfl
theorem take_ext (s : ByteArray) (k n : Nat) : (s.data.toList.drop k).take n = (s.extract k (k + n)).data.toList := by
 rw [Lib.extract_data]; congr 1; omega
theorem takeD_sign (s : ByteArray) (k : Nat) (h : k < s.size) (hs : W.signK s[k] ≠ 0) : W.takeD (s.data.toList.drop k) = .tok (W.signK s[k]) [] 0 1 := by
 unfold W.takeD; rw [head_drop s k h, if_pos hs]
theorem takeD_none (s : ByteArray) (k : Nat) (h : k < s.size) (hs : W.signK s[k] = 0) (hn : W.scanD (s.data.toList.drop k) = none) : W.takeD (s.data.toList.drop k) = .bad 2 := by
 unfold W.takeD; rw [head_drop s k h, if_neg (by simp [hs]), hn]
theorem takeD_mark (s : ByteArray) (k n : Nat) (h : k < s.size) (hs : W.signK s[k] = 0) (hn : W.scanD (s.data.toList.drop k) = some n) {m : Int} (hm : W.markK (s.extract k (k + n)).data.toList = m) (hm0 : m ≠ 0) : W.takeD (s.data.toList.drop k) = .tok 5 [] m n := by
 rw [← take_ext] at hm
 unfold W.takeD; rw [head_drop s k h, if_neg (fun h => h hs), hn]; simp only; rw [hm, if_pos hm0]
theorem takeD_err (s : ByteArray) (k n : Nat) (h : k < s.size) (hs : W.signK s[k] = 0) (hn : W.scanD (s.data.toList.drop k) = some n) (hm : W.markK (s.extract k (k + n)).data.toList = 0) {x : List UInt8} {e : Int} (hu : W.unqL (s.extract k (k + n)).data.toList = (x, e)) (he : e ≠ 0) : W.takeD (s.data.toList.drop k) = .bad e := by
 rw [← take_ext] at hm hu
 unfold W.takeD; rw [head_drop s k h, if_neg (fun h => h hs), hn]; simp only; rw [hm, hu, if_neg (fun h => h rfl), if_pos he]
theorem takeD_name (s : ByteArray) (k n : Nat) (h : k < s.size) (hs : W.signK s[k] = 0) (hn : W.scanD (s.data.toList.drop k) = some n) (hm : W.markK (s.extract k (k + n)).data.toList = 0) {x : List UInt8} (hu : W.unqL (s.extract k (k + n)).data.toList = (x, 0)) : W.takeD (s.data.toList.drop k) = .tok 1 x 0 n := by
 rw [← take_ext] at hm hu
 unfold W.takeD; rw [head_drop s k h, if_neg (fun h => h hs), hn]; simp only; rw [hm, hu, if_neg (fun h => h rfl), if_neg (fun h => h rfl)]
theorem scanL_D (s : ByteArray) (k : Nat) : W.scanL s.data.toList k = (W.scanD (s.data.toList.drop k)).map (· + k) := by
 have h0 : ¬ ((k : Int) < 0) := by omega
 simp only [W.scanL, h0, if_false, Int.toNat_natCast]
theorem blk_cell {w w1 : World} {cs : Array Value} {T : TypeId} (hb : Below (w.alloc (.cells cs T)).heap.size (w.alloc (.cells cs T)) w1) (j : Nat) : w1.cell? ⟨w.heap.size, j, none⟩ = cs[j]? :=
 (hb.cell (p := ⟨w.heap.size, j, none⟩) (by simp)).trans (World.cell?_alloc_mark w cs T (0, 0) j)
theorem blk_free {w w1 : World} {cs : Array Value} {T : TypeId} (hb : Below (w.alloc (.cells cs T)).heap.size (w.alloc (.cells cs T)) w1) (j : Nat) : w1.frozen? ⟨w.heap.size, j, none⟩ = false := by
 rw [hb.frozen (p := ⟨w.heap.size, j, none⟩) (by simp)]
 have : (w.alloc (.cells cs T)).heap[w.heap.size]? = some (.cells cs T (0, 0)) := heap_alloc_new w _
 unfold World.frozen?; simp only [this]; simp
theorem below4 {w w1 : World} {o : Obj} (hb : Below (w.alloc o).heap.size (w.alloc o) w1) (a b c d : Value) : Below w.heap.size w ((((w1.setCell ⟨w.heap.size, 0, none⟩ a).setCell ⟨w.heap.size, 1, none⟩ b).setCell ⟨w.heap.size, 2, none⟩ c).setCell ⟨w.heap.size, 3, none⟩ d) :=
 (((((((Below.refl _ _).alloc (Nat.le_refl _) _).trans (hb.mono (by simp))).setCell (Nat.le_refl _) _).setCell (Nat.le_refl _) _).setCell (Nat.le_refl _) _).setCell (Nat.le_refl _) _)
set_option maxHeartbeats 1000000 in
theorem take_any (s : ByteArray) (k : Nat) (w : World) (hs : s.size ≤ 1099511627776) (hk : k < s.size) :
  Calls Tryz.prog 79 #[.string s, .int .i64 k] w (TookT w k (W.takeD (s.data.toList.drop k))) := by
 by_cases hsg : W.signK s[k] ≠ 0
 ·have b1 : (W.signK s[k] != 0) = true := by simp [hsg]
  have HT := Lib.hid (takeD_sign s k hk hsg)
  clear hsg
  go_enter Tryz.func79, Tryz.ntmps79
  go_wp2_with fail
  refine (sign_any _ _).mono ?_
  rintro e w' ⟨rfl, rfl⟩
  go_wp2
  rw [HT.out]
  exact bodyPost_ret (v := .tuple #[tokV ⟨W.signK s[k], k, [], 0⟩, .int .i64 ((k + 1 : Nat) : Int), .int .i64 0]) (by simp [results, Tryz.results79, go_sem, tokV]) rfl ⟨rfl, (Below.refl _ _).alloc (Nat.le_refl _) _⟩
 have hsg0 : W.signK s[k] = 0 := by omega
 have b1 : (W.signK s[k] != 0) = false := by simp [hsg0]
 have HS := Lib.hid hsg0
 clear hsg hsg0
 cases hsc : W.scanD (s.data.toList.drop k) with
 | none =>
  have HT := Lib.hid (takeD_none s k hk HS.out hsc)
  have HL := Lib.hid (show W.scanL s.data.toList k = none by rw [scanL_D, hsc]; rfl)
  clear hsc
  go_enter Tryz.func79, Tryz.ntmps79
  go_wp2_with fail
  refine (sign_any _ _).mono ?_
  rintro e w' ⟨rfl, rfl⟩
  go_wp2_with fail
  refine (scan2_is s k none _ hs HL.out).mono ?_
  rintro e w' ⟨rfl, rfl⟩
  simp only [W.optN, Option.isSome]
  go_wp2
  rw [HT.out]
  exact bodyPost_ret (v := .tuple #[zeroTok, .int .i64 0, .int .i64 2]) (by simp [results, Tryz.results79, go_sem, zeroTok]) rfl ⟨rfl, (Below.refl _ _).alloc (Nat.le_refl _) _⟩
 | some n =>
  have hn := W.scanD_le _ _ hsc
  rw [List.length_drop, ← Lib.size_eq] at hn
  obtain ⟨hn1, hn2⟩ := hn
  have HL := Lib.hid (show W.scanL s.data.toList k = some (k + n) by rw [scanL_D, hsc]; simp; omega)
  have HSC := Lib.hid hsc
  have hes : (s.extract k (k + n)).size ≤ 1099511627776 := by rw [W.rest_size _ _ _ (by omega)]; omega
  clear hsc
  obtain ⟨m, hm⟩ : ∃ m, W.markK (s.extract k (k + n)).data.toList = m := ⟨_, rfl⟩
  have HM := Lib.hid hm
  clear hm
  by_cases hm : m ≠ 0
  ·have HT := Lib.hid (takeD_mark s k n hk HS.out HSC.out HM.out hm)
   have b2 : (m != 0) = true := bne_iff_ne.2 hm
   clear hm
   go_enter Tryz.func79, Tryz.ntmps79
   go_wp2_with fail
   refine (sign_any _ _).mono ?_
   rintro e w' ⟨rfl, rfl⟩
   go_wp2_with fail
   refine (scan2_is s k (some (k + n)) _ hs HL.out).mono ?_
   rintro e w' ⟨rfl, rfl⟩
   simp only [W.optN, Option.isSome]
   go_wp2_with fail
   refine (mark_is (s.extract k (k + n)) m _ HM.out).mono ?_
   rintro e w' ⟨rfl, rfl⟩
   go_wp2
   rw [HT.out]
   exact bodyPost_ret (v := .tuple #[tokV ⟨5, k, [], m⟩, .int .i64 ((k + n : Nat) : Int), .int .i64 0]) (by simp [results, Tryz.results79, go_sem, tokV]) rfl ⟨rfl, (Below.refl _ _).alloc (Nat.le_refl _) _⟩
  ·obtain rfl : m = 0 := by omega
   obtain ⟨x, er, hu⟩ : ∃ x er, W.unqL (s.extract k (k + n)).data.toList = (x, er) := ⟨_, _, rfl⟩
   clear hm
   by_cases her : er ≠ 0
   ·have HT := Lib.hid (takeD_err s k n hk HS.out HSC.out HM.out hu her)
    have b3 : (er != 0) = true := bne_iff_ne.2 her
    have HU := Lib.hid hu
    clear hu her
    go_enter Tryz.func79, Tryz.ntmps79
    go_wp2_with fail
    refine (sign_any _ _).mono ?_
    rintro e w' ⟨rfl, rfl⟩
    go_wp2_with fail
    refine (scan2_is s k (some (k + n)) _ hs HL.out).mono ?_
    rintro e w' ⟨rfl, rfl⟩
    simp only [W.optN, Option.isSome]
    go_wp2_with fail
    refine (mark_is (s.extract k (k + n)) 0 _ HM.out).mono ?_
    rintro e w' ⟨rfl, rfl⟩
    go_wp2_with fail
    refine (unq_is (s.extract k (k + n)) x er _ hes HU.out).mono ?_
    rintro e w1 ⟨rfl, hb1⟩
    have c0 := blk_cell hb1 0
    have c1 := blk_cell hb1 1
    have c2 := blk_cell hb1 2
    have c3 := blk_cell hb1 3
    have f0 := blk_free hb1 0
    have f1 := blk_free hb1 1
    have f2 := blk_free hb1 2
    have f3 := blk_free hb1 3
    simp only [List.getElem?_toArray, List.getElem?_cons_zero, List.getElem?_cons_succ] at c0 c1 c2 c3
    go_wp2
    rw [HT.out]
    exact bodyPost_ret (v := .tuple #[zeroTok, .int .i64 0, .int .i64 er]) (by simp [results, Tryz.results79, go_sem, zeroTok, c0, c1, c2, c3]) rfl ⟨rfl, below4 hb1 _ _ _ _⟩
   ·obtain rfl : er = 0 := by omega
    have HT := Lib.hid (takeD_name s k n hk HS.out HSC.out HM.out hu)
    have HU := Lib.hid hu
    clear hu her
    go_enter Tryz.func79, Tryz.ntmps79
    go_wp2_with fail
    refine (sign_any _ _).mono ?_
    rintro e w' ⟨rfl, rfl⟩
    go_wp2_with fail
    refine (scan2_is s k (some (k + n)) _ hs HL.out).mono ?_
    rintro e w' ⟨rfl, rfl⟩
    simp only [W.optN, Option.isSome]
    go_wp2_with fail
    refine (mark_is (s.extract k (k + n)) 0 _ HM.out).mono ?_
    rintro e w' ⟨rfl, rfl⟩
    go_wp2_with fail
    refine (unq_is (s.extract k (k + n)) x 0 _ hes HU.out).mono ?_
    rintro e w1 ⟨rfl, hb1⟩
    have c0 := blk_cell hb1 0
    have c1 := blk_cell hb1 1
    have c2 := blk_cell hb1 2
    have c3 := blk_cell hb1 3
    have f0 := blk_free hb1 0
    have f1 := blk_free hb1 1
    have f2 := blk_free hb1 2
    have f3 := blk_free hb1 3
    simp only [List.getElem?_toArray, List.getElem?_cons_zero, List.getElem?_cons_succ] at c0 c1 c2 c3
    go_wp2
    rw [HT.out]
    exact bodyPost_ret (v := .tuple #[tokV ⟨1, k, x, 0⟩, .int .i64 ((k + n : Nat) : Int), .int .i64 0]) (by simp [results, Tryz.results79, go_sem, tokV, c0, c1, c2, c3]) rfl ⟨rfl, below4 hb1 _ _ _ _⟩
theorem prefix_is (s p : ByteArray) (b : Bool) (w : World) (h : Lib.hasPrefix s.data.toList p.data.toList = b) :
  Calls Tryz.prog 78 #[.string s, .string p] w fun e w' => e = .returned (.bool b) ∧ w = w' := by
 rw [← h]; exact prefix_any s p w
theorem blank_is (c : UInt8) (b : Bool) (w : World) (h : W.blankB c = b) :
  Calls Tryz.prog 77 #[.int .u8 c.toNat] w fun e w' => e = .returned (.bool b) ∧ w = w' := by
 rw [← h]; exact blank_any c w
theorem from_ext (s : ByteArray) (k : Nat) : (s.extract k s.size).data.toList = s.data.toList.drop k := by
 rw [Lib.extract_data]; apply List.take_of_length_le; rw [List.length_drop, ← Lib.size_eq]; omega
theorem take_tok (s : ByteArray) (k : Nat) (w : World) (hs : s.size ≤ 1099511627776) (hk : k < s.size) {kd : Int} {wd : List UInt8} {b : Int} {n : Nat} (h : W.takeD (s.data.toList.drop k) = .tok kd wd b n) :
  Calls Tryz.prog 79 #[.string s, .int .i64 k] w fun e w' => e = .returned (.tuple #[tokV ⟨kd, k, wd, b⟩, .int .i64 ((k + n : Nat) : Int), .int .i64 0]) ∧ Below w.heap.size w w' := by
 have := take_any s k w hs hk
 rw [h] at this
 exact this
theorem take_bad (s : ByteArray) (k : Nat) (w : World) (hs : s.size ≤ 1099511627776) (hk : k < s.size) {er : Int} (h : W.takeD (s.data.toList.drop k) = .bad er) :
  Calls Tryz.prog 79 #[.string s, .int .i64 k] w fun e w' => e = .returned (.tuple #[zeroTok, .int .i64 0, .int .i64 er]) ∧ Below w.heap.size w w' := by
 have := take_any s k w hs hk
 rw [h] at this
 exact this
def AllS (T : TypeId) (w : World) (r : W.Res) (e : Ending) (w' : World) : Prop :=
 ∃ v, e = .returned (.tuple #[v, .int .i64 (r.place : Int), .int .i64 r.err]) ∧ OwnT T w' w.heap.size v r.toks ∧ Below w.heap.size w w'
theorem line_gt {s : ByteArray} {k j : Nat} {hk : k < s.size} {hj : j < s.size} (h : s[k].toNat = 35) (h2 : s[j].toNat = 10) (h3 : k ≤ j) : k < j := by
 rcases Nat.lt_or_ge k j with hlt | hge
 ·exact hlt
 ·obtain rfl : k = j := by omega
  omega
theorem own_keep {T : TypeId} {w w1 : World} {base : Nat} {v : Value} {l : List W.Tok} (h : OwnT T w base v l) (hb : Below w.heap.size w w1) : OwnT T w1 base v l := by
 refine ⟨h.1, ?_⟩
 rcases h.2 with hn | ⟨g, cap, cur, rfl, hbg, hgg, rest⟩
 ·exact .inl hn
 ·refine .inr ⟨g, cap, cur, rfl, hbg, ?_, rest⟩
  rw [hb.block g (Array.getElem?_eq_some_iff.1 hgg).1]
  exact hgg
def RelA (s : ByteArray) (w : World) (g : Nat) (v i : Value) (wr : World) : Prop :=
 ∃ (k : Nat) (acc : List W.Tok), i = .int .i64 k ∧ OwnT 86 wr w.heap.size v acc ∧ Below w.heap.size w wr ∧ W.Reading s k acc ∧ k + g = s.size
set_option maxRecDepth 100000 in
set_option maxHeartbeats 2000000 in
theorem all_any (s : ByteArray) (w : World) (hs : s.size ≤ 1073741824) :
  Calls Tryz.prog 49 #[.string s] w (AllS 86 w (W.lexL 0 s.data.toList)) := by
 go_enter Tryz.func49, Tryz.ntmps49
 go_wp2
 go_step3
 go_wp2
 go_step3
 go_wp2
 go_loopg [5, 6] s.size (fun g v i wr => RelA s w g v i wr)
 case atStart => exact ⟨0, [], rfl, OwnT.nil _ _ _, Below.refl _ _, W.Reading.start s, Nat.zero_add _⟩
 case round =>
  obtain ⟨k, acc, rfl, hown, hb, hR, hg⟩ := hrel
  obtain ⟨go, rfl⟩ : ∃ go : Nat, go = gk := ⟨_, rfl⟩
  obtain ⟨wo, rfl⟩ : ∃ wo : World, wo = wr := ⟨_, rfl⟩
  have hks := hR.1
  have hac := hR.2.1
  have HR := Lib.hid hR
  have HG := Lib.hid hg
  clear hR hg
  have hsz := hb.size
  by_cases hlt : k < s.size
  ·cases hbl : W.blankB s[k] with
   | true =>
    have HN := Lib.hid (HR.out.skip (n := 0) hlt (W.gap_blank s k hlt hbl))
    have HB := Lib.hid hbl
    clear hbl
    go_wp2_with fail
    refine (blank_is _ true _ HB.out).mono ?_
    rintro e w' ⟨rfl, rfl⟩
    go_wp2
    go_roundg (s.size - (k + 1))
    case rel => exact ⟨k + 1, acc, by go_num, hown, hb, HN.out, by omega⟩
    case measure => have := HG.out; omega
   | false =>
    have HB := Lib.hid hbl
    clear hbl
    by_cases h35 : s[k].toNat = 35
    ·have b35 : ((s[k].toNat : Int) == 35) = true := by simp; omega
     have H35 := Lib.hid h35
     clear h35
     go_wp2_with fail
     refine (blank_is _ false _ HB.out).mono ?_
     rintro e w' ⟨rfl, rfl⟩
     go_wp2
     go_loopg [7] (s.size - k) (fun g i wx => ∃ j : Nat, i = .int .i64 j ∧ k ≤ j ∧ j ≤ s.size ∧ Hid (W.Lined s k j) ∧ Hid (j + g = s.size) ∧ wo = wx)
     case atStart => exact ⟨k, rfl, Nat.le_refl _, hks, W.Lined.start s k hks, (by show _ = _; omega), rfl⟩
     case round =>
      obtain ⟨j, rfl, hkj, hjs, HL, HJ, rfl⟩ := hrel
      by_cases hjl : j < s.size
      ·by_cases h10 : s[j].toNat = 10
       ·have b10 : ((s[j].toNat : Int) == 10) = true := by simp; omega
        have HK := Lib.hid (line_gt H35.out h10 hkj)
        have HN := Lib.hid (HR.out.line hlt HB.out H35.out hkj (HL.out.stop hjl h10))
        clear h10
        go_wp2
        go_roundg (s.size - j)
        case rel => exact ⟨j, acc, rfl, hown, hb, HN.out, by omega⟩
        case measure => have := HG.out; have := HK.out; omega
       ·have b10 : ((s[j].toNat : Int) == 10) = false := by simp; omega
        have HN := Lib.hid (HL.out.next hjl h10)
        clear h10
        go_wp2
        go_roundg (s.size - (j + 1))
        case rel => exact ⟨j + 1, by go_num, by omega, by omega, HN, (by show _ = _; omega), rfl⟩
        case measure => have := HJ.out; omega
      ·have HD := Lib.hid ((HR.out.line hlt HB.out H35.out hkj (HL.out.over (by omega))).done (by omega))
       go_wp2
       rw [Exit.noGoto_ret]
       go_ret3
       rw [HD.out]
       exact ⟨_, rfl, hown, hb⟩
    ·have b35 : ((s[k].toNat : Int) == 35) = false := by simp; omega
     have H35 := Lib.hid h35
     clear h35
     cases hp : Lib.hasPrefix (s.data.toList.drop k) [47, 42] with
     | true =>
      have hk2 := W.pre2_size s k 47 42 hp
      have HP := Lib.hid hp
      clear hp
      go_wp2_with fail
      refine (blank_is _ false _ HB.out).mono ?_
      rintro e w' ⟨rfl, rfl⟩
      go_wp2_with fail
      refine (prefix_is (s.extract k s.size) ⟨#[47, 42]⟩ true _ (by rw [from_ext]; exact HP.out)).mono ?_
      rintro e w' ⟨rfl, rfl⟩
      go_wp2
      go_loopg [6, 8] (s.size - (k + 2)) (fun g a i wx => ∃ j : Nat, a = .int .i64 k ∧ i = .int .i64 j ∧ k + 2 ≤ j ∧ j ≤ s.size ∧ Hid (W.Starred s (k + 2) j) ∧ Hid (j + g = s.size) ∧ wo = wx)
      case atStart => exact ⟨k + 2, rfl, by go_num, Nat.le_refl _, hk2, W.Starred.start s (k + 2) hk2, (by show _ = _; omega), rfl⟩
      case round =>
       obtain ⟨j, rfl, rfl, hkj, hjs, HL, HJ, rfl⟩ := hrel
       by_cases hjl : j < s.size
       ·cases hq : Lib.hasPrefix (s.data.toList.drop j) [42, 47] with
        | true =>
         have hj2 := W.pre2_size s j 42 47 hq
         have HN := Lib.hid (HR.out.star hlt HB.out H35.out HP.out hkj (HL.out.stop hq))
         have HQ := Lib.hid hq
         clear hq
         go_wp2_with fail
         refine (prefix_is (s.extract j s.size) ⟨#[42, 47]⟩ true _ (by rw [from_ext]; exact HQ.out)).mono ?_
         rintro e w' ⟨rfl, rfl⟩
         go_wp2
         go_roundg (s.size - (j + 2))
         case rel => exact ⟨j + 2, acc, by go_num, hown, hb, HN.out, by omega⟩
         case measure => have := HG.out; omega
        | false =>
         have HN := Lib.hid (HL.out.next hjl hq)
         have HQ := Lib.hid hq
         clear hq
         go_wp2_with fail
         refine (prefix_is (s.extract j s.size) ⟨#[42, 47]⟩ false _ (by rw [from_ext]; exact HQ.out)).mono ?_
         rintro e w' ⟨rfl, rfl⟩
         go_wp2
         go_roundg (s.size - (j + 1))
         case rel => exact ⟨j + 1, rfl, by go_num, by omega, by omega, HN, (by show _ = _; omega), rfl⟩
         case measure => have := HJ.out; omega
       ·have HD := Lib.hid (HR.out.unstar hlt HB.out H35.out HP.out (HL.out.over (by omega)))
        go_wp2
        rw [Exit.noGoto_ret]
        go_ret3
        rw [HD.out]
        exact ⟨_, rfl, OwnT.nil _ _ _, hb⟩
     | false =>
      have HO := Lib.hid (W.gap_no s k hlt HB.out H35.out hp)
      have HP := Lib.hid hp
      clear hp
      cases ht : W.takeD (s.data.toList.drop k) with
      | skip n => exact absurd ht W.takeD_noskip
      | bad er =>
       have her := W.takeD_bad ht
       have ber : (er != 0) = true := bne_iff_ne.2 her
       have HD := Lib.hid (HR.out.bad hlt HO.out ht)
       have HT := Lib.hid ht
       clear ht her
       go_wp2_with fail
       refine (blank_is _ false _ HB.out).mono ?_
       rintro e w' ⟨rfl, rfl⟩
       go_wp2_with fail
       refine (prefix_is (s.extract k s.size) ⟨#[47, 42]⟩ false _ (by rw [from_ext]; exact HP.out)).mono ?_
       rintro e w' ⟨rfl, rfl⟩
       go_wp2_with fail
       refine (take_bad s k _ (by omega) hlt HT.out).mono ?_
       rintro e w1 ⟨rfl, hb1⟩
       simp only [zeroTok]
       go_wp2
       rw [Exit.noGoto_ret]
       go_ret3
       rw [HD.out]
       exact ⟨_, rfl, OwnT.nil _ _ _, (hb.trans (hb1.mono hsz)).alloc (Nat.le_trans hsz hb1.size) _⟩
      | tok kd wd b n =>
       have hn := W.takeD_tok (W.ne_drop s k hlt) ht
       rw [List.length_drop, ← Lib.size_eq] at hn
       obtain ⟨hn1, hn2⟩ := hn
       have HN := Lib.hid (HR.out.tok hlt HO.out ht)
       have HT := Lib.hid ht
       clear ht
       go_wp2_with fail
       refine (blank_is _ false _ HB.out).mono ?_
       rintro e w' ⟨rfl, rfl⟩
       go_wp2_with fail
       refine (prefix_is (s.extract k s.size) ⟨#[47, 42]⟩ false _ (by rw [from_ext]; exact HP.out)).mono ?_
       rintro e w' ⟨rfl, rfl⟩
       go_wp2_with fail
       refine (take_tok s k _ (by omega) hlt HT.out).mono ?_
       rintro e w1 ⟨rfl, hb1⟩
       simp only [tokV]
       have hs1 := hb1.size
       have hown1 := own_keep hown hb1
       go_wp2_with (at_builtin; refine wpList_appT 79 86 Tryz.underlying79 tok_info _ rfl (.tmp 71) (.tmp 73) rfl w.heap.size u5 acc rfl (OwnT.alloc hown1 _) ⟨kd, k, wd, b⟩ 1 _ rfl (w1.heap.size + 1) (by simp) rfl (by omega) (by simp; omega) ?_; intro v2 w2 hown2 hb2)
       go_roundg (s.size - (k + n))
       case rel => exact ⟨k + n, acc ++ [⟨kd, k, wd, b⟩], by go_num, hown2, ((hb.trans (hb1.mono hsz)).alloc (Nat.le_trans hsz hs1) _).trans hb2, HN.out, by omega⟩
       case measure => have := HG.out; omega
  ·have HD := Lib.hid (HR.out.done (by omega))
   go_wp2
   rw [Exit.noGoto_ret]
   go_ret3
   rw [HD.out]
   exact ⟨_, rfl, hown, hb⟩
end Go.Proofs.YtfcikfohmehmkaaGreatDoor
namespace Go.Proofs.YtfcikfohmehmkaaGreatDoor.W
end Go.Proofs.YtfcikfohmehmkaaGreatDoor.W
namespace Go.Proofs.YtfcikfohmehmkaaGreatDoor
open Go.RowKit
def cmpW (a b : List UInt8) : Int := if Op.bytesLess a b = true then -1 else if Op.bytesLess b a = true then 1 else 0
theorem cmpW_self (a : List UInt8) : cmpW a a = 0 := by unfold cmpW; rw [T.less_irr]; rfl
theorem cmpW_zero {a b : List UInt8} : cmpW a b = 0 ↔ a = b := by
 constructor
 ·intro h
  unfold cmpW at h
  split at h
  ·cases h
  ·rename_i h1
   split at h
   ·cases h
   ·rename_i h2
    rcases T.less_tri a b with h3 | h3 | h3
    ·exact absurd h3 h1
    ·exact h3
    ·exact absurd h3 h2
 ·rintro rfl; exact cmpW_self a
theorem Own.empty {α : Type} (E : Elem α) (w : World) : Own E (w.alloc (.cells #[] E.T)) w.heap.size (.slice (some ⟨w.heap.size, 0, none⟩) 0 0) [] :=
 ⟨by simp [cellsG], .inr ⟨w.heap.size, 0, #[], rfl, Nat.le_refl _, heap_alloc_new w _, Nat.le_refl _, by decide, by simp, by simp [cellsG]⟩⟩
section
variable {w w1 : World} {g : Nat} {vf vp : Value} {nm : Bool} {mk : Int}
end
section
variable {w w1 : World} {g : Nat} {vf vp : Value}
end
end Go.Proofs.YtfcikfohmehmkaaGreatDoor
namespace Go.Proofs.YtfcikfohmehmkaaGreatDoor
open Go.RowKit
theorem wp_app3 {α : Type} (E : Elem α) {o : Oper} {a : Act} {K : Act → World → Prop} {Q : Exit → Act → World → Prop} (w : World) (s x : Operand)
  (ho : o.op = .call { callee := .builtin .append, args := #[s, x], argTypes := #[E.st, E.st] })
  (base : Nat) (v : Value) (l : List α) (hs : a.eval s = v) (hown : Own E w base v l) (t : α) (cap : Nat) (cs : Array Value) (hcs : cs.toList = E.C t)
  (g : Nat) (hg : w.heap.size = g) (hx : a.eval x = .slice (some ⟨g, 0, none⟩) 1 cap) (hlen : l.length + 1 ≤ 1099511627776) (hb : base ≤ w.heap.size)
  (h : ∀ v' w', Grew E w w' base v v' (l ++ [t]) → K (a.put o.dst v') w') : o.wp Tryz.prog a (w.alloc (.cells cs E.T)) K Q := by
 subst hg
 obtain ⟨i0, hi0, hz0, hz1, hz2⟩ := info_parts E.hin
 have hby := E.hby
 have hmul : (l.length + 1) * E.by_ ≤ 1099511627776 * 64 := Nat.mul_le_mul hlen hby
 obtain ⟨v', w', hr, h1, h2, _, h3⟩ := run_append_own_at (P := Tryz.prog) (w := w.alloc (.cells cs E.T)) base E.st o.type E.T i0 _ E.sz E.by_ E.hst hi0 hz0 hz1 hz2 E.hzs E.hsz v l.length (cellsG E l) (World.ownsRow.alloc hown _) ⟨w.heap.size, 0, none⟩ 1 cap (cellsG E [t])
  (by rw [cellsG_len]; rfl) (fun j u hu => new_cellsG E.T w cs (E.C t) hcs j u (by rw [← cellsG_one]; exact hu)) (cellsG_onec E _) (by unfold maxLen; omega) (by omega) (by simp; omega)
 have hG : Grew E w w' base v v' (l ++ [t]) := by
  refine ⟨?_, ⟨h2.os, h2.tape, h2.output, Nat.le_trans (by simp) h2.size, fun k hk hne => ?_⟩, ?_⟩
  ·unfold Own; rw [cellsG_append, List.length_append]; exact h1
  ·rw [h2.block k (by simp; omega) hne]; exact heap_alloc_old w _ hk
  ·rcases h3 with h3 | h3
   ·exact .inl h3
   ·exact .inr ⟨_, h3, by simp⟩
 unfold Oper.wp execOp
 simp only [ho, resolve, invoke, builtin, Sem.run_bind, Sem.run_pure, Result.andThen_ok, List.map_toArray, List.map_cons, List.map_nil, hs, hx, hr]
 exact h v' w' hG
theorem Own.block {α : Type} {E : Elem α} {w : World} {base : Nat} {A : Option Addr} {n cap : Nat} {l : List α} (h : Own E w base (.slice A n cap) l) (hl : 0 < l.length) : ∃ b, A = some ⟨b, 0, none⟩ ∧ base ≤ b ∧ b < w.heap.size ∧ Holds E w b 0 l := by
 obtain ⟨A2, cap2, e, _, hs⟩ := h.seen
 injection e with e1 e2 e3
 subst e1
 obtain ⟨b, o, e4, hb, hh⟩ := hs hl
 rcases h.2 with ⟨e5, _⟩ | ⟨g, c, cur, e5, hbg, _⟩
 ·injection e5 with e5; rw [e5] at e4; cases e4
 ·injection e5 with e5
  rw [e5] at e4
  injection e4 with e4
  injection e4 with e6 e7
  subst e6; subst e7
  exact ⟨g, e5, hbg, hb, hh⟩
theorem holds_of_block {α : Type} {E : Elem α} {w w1 : World} {b o : Nat} {l : List α} (h : Holds E w b o l) (e : w1.heap[b]? = w.heap[b]?) : Holds E w1 b o l := by
 intro i hi j u hu
 rw [← h i hi j u hu]
 unfold World.cell?
 simp only [e]
def VecAt {α : Type} (E : Elem α) (w : World) (v : Value) (l : List α) : Prop :=
 (v = .slice none 0 0 ∧ l = []) ∨ ∃ b o c, v = .slice (some ⟨b, o, none⟩) l.length c ∧ l.length ≤ c ∧ b < w.heap.size ∧ Holds E w b o l
section
variable {α : Type} {E : Elem α} {w w1 : World} {v : Value} {l : List α}
theorem VecAt.nil (E : Elem α) (w : World) : VecAt E w (.slice none 0 0) [] := .inl ⟨rfl, rfl⟩
theorem VecAt.seen (h : VecAt E w v l) : ∃ A c, v = .slice A l.length c ∧ l.length ≤ c ∧ Seen E w A l := by
 rcases h with ⟨h1, h2⟩ | ⟨b, o, c, h1, h2, h3, h4⟩
 ·subst h2; exact ⟨none, 0, h1, Nat.le_refl _, Seen.nil⟩
 ·exact ⟨_, c, h1, h2, fun _ => ⟨b, o, rfl, h3, h4⟩⟩
theorem VecAt.own {base : Nat} (h : Own E w base v l) : VecAt E w v l := by
 rcases h.2 with ⟨h1, h2⟩ | ⟨g, cap, cur, rfl, hbg, hgg, hnc, hcm, hcs, htk⟩
 ·exact .inl ⟨h1, List.eq_nil_of_length_eq_zero h2⟩
 ·refine .inr ⟨g, 0, cap, rfl, hnc, (Array.getElem?_eq_some_iff.1 hgg).1, fun i hi j u hu => ?_⟩
  obtain ⟨A, c, e, _, hs⟩ := h.seen
  injection e with e1 e2 e3
  subst e1
  obtain ⟨b2, o2, e4, _, hh⟩ := hs (by omega)
  injection e4 with e4
  injection e4 with e5 e6
  subst e5; subst e6
  exact hh i hi j u hu
end
end Go.Proofs.YtfcikfohmehmkaaGreatDoor
namespace Go.Proofs.YtfcikfohmehmkaaGreatDoor
open Go.RowKit
end Go.Proofs.YtfcikfohmehmkaaGreatDoor
namespace Go.Proofs.YtfcikfohmehmkaaGreatDoor
open Go.ChangeShapes Go.WideShapes Go.ChangeAt Go.RowKit
theorem wp_appSeen {α : Type} (E : Elem α) {o : Oper} {a : Act} {K : Act → World → Prop} {Q : Exit → Act → World → Prop} (w : World) (s x : Operand)
  (ho : o.op = .call { callee := .builtin .append, args := #[s, x], argTypes := #[E.st, E.st] })
  (base : Nat) (v : Value) (l : List α) (hs : a.eval s = v) (hown : Own E w base v l) (ad : Addr) (l2 : List α) (m cap : Nat) (hm : l2.length = m)
  (hx : a.eval x = .slice (some ad) m cap) (hc : Seen E w (some ad) l2) (hlen : l.length + m ≤ 1099511627776) (hb : base ≤ w.heap.size)
  (h : ∀ v' w', Own E w' base v' (l ++ l2) → Below base w w' → K (a.put o.dst v') w') : o.wp Tryz.prog a w K Q := by
 by_cases hl : 0 < l2.length
 ·obtain ⟨b, q, e, _, hh⟩ := hc hl
  injection e with e
  subst e
  exact wp_appSrc E w s x ho base v l hs hown b q l2 m cap hm hx hh hlen hb h
 ·obtain rfl : l2 = [] := List.eq_nil_of_length_eq_zero (by omega)
  subst hm
  obtain ⟨i0, hi0, hz0, hz1, hz2⟩ := info_parts E.hin
  have hby := E.hby
  have hmul : l.length * E.by_ ≤ 1099511627776 * 64 := Nat.mul_le_mul (by omega) hby
  refine wp_append_own w s x E.st ho base E.T i0 _ E.sz E.by_ E.hst hi0 hz0 hz1 hz2 E.hzs E.hsz v l.length (cellsG E l) hs hown ad 0 cap [] hx (by simp) (fun j u hu => by simp at hu) (fun u hu => by cases hu) (by unfold maxLen; simp at hlen; omega) (by simp at hmul ⊢; omega) hb ?_
  intro v' w' h1 h2 _
  refine h v' w' ?_ ?_
  ·unfold Own; rw [List.append_nil]; rw [List.append_nil] at h1; exact h1
  ·exact Below.grown (Below.refl _ _) h2 hb (fun k hk => (World.ownsRow.lt hown k hk).1)
theorem wpList_appSeen {α : Type} (E : Elem α) {ops : Array Oper} {rest : List Oper} {o : Oper} {a : Act} {Q : Exit → Act → World → Prop} (w : World) (hgd : o.guard = none) (s x : Operand)
  (ho : o.op = .call { callee := .builtin .append, args := #[s, x], argTypes := #[E.st, E.st] })
  (base : Nat) (v : Value) (l : List α) (hs : a.eval s = v) (hown : Own E w base v l) (ad : Addr) (l2 : List α) (m cap : Nat) (hm : l2.length = m)
  (hx : a.eval x = .slice (some ad) m cap) (hc : Seen E w (some ad) l2) (hlen : l.length + m ≤ 1099511627776) (hb : base ≤ w.heap.size)
  (h : ∀ v' w', Own E w' base v' (l ++ l2) → Below base w w' → wpList Tryz.prog ops Q rest (a.put o.dst v') w') : wpList Tryz.prog ops Q (o :: rest) a w :=
 wpList_plain hgd fun _ hK => wp_appSeen E w s x ho base v l hs hown ad l2 m cap hm hx hc hlen hb fun v' w' h1 h2 => hK _ _ (h v' w' h1 h2)
def OwnS {α : Type} (E : Elem α) (w : World) (l : List α) (e : Ending) (w' : World) : Prop := ∃ v, e = .returned v ∧ Own E w' w.heap.size v l ∧ Below w.heap.size w w'
def NilOk (A : Option Addr) (c : Nat) : Prop := A = none → c = 0
set_option maxRecDepth 100000 in
theorem cloneLn_nil (w : World) : Calls Tryz.prog 44 #[.slice none 0 0] w (OwnS eL w []) := by
 have q := fun (w : World) (a : Option Addr) (n c : Nat) => Lib.run_eql_slice_nil (P := Tryz.prog) w 22 _ a n c 0 0 Tryz.underlying22
 go_enter Tryz.func44, Tryz.ntmps44
 go_wp2
 go_ret
 exact ⟨_, rfl, Own.nil _ _, Below.refl _ _⟩
set_option maxRecDepth 100000 in
theorem cloneLn_some (ad : Addr) (cap n : Nat) (t : List T.Ln) (w : World) (hn : t.length = n) (hp : n ≤ 1073741824) (h : Seen eL w (some ad) t) :
  Calls Tryz.prog 44 #[.slice (some ad) n cap] w (OwnS eL w t) := by
 have HH := Lib.hid (h.below ((Below.refl _ _).alloc (Nat.le_refl _) (.cells #[] eL.T)))
 have HO := Lib.hid (Own.empty eL w)
 clear h
 have q := fun (w : World) (a : Option Addr) (n c : Nat) => Lib.run_eql_slice_nil (P := Tryz.prog) w 22 _ a n c 0 0 Tryz.underlying22
 have HN := Lib.hid hn
 clear hn
 go_enter Tryz.func44, Tryz.ntmps44
 go_wp2_with (first | (at_builtin; refine wpList_appSeen eL (w.alloc (.cells #[] eL.T)) rfl (.tmp 5) (.tmp 6) rfl w.heap.size _ [] rfl HO.out ad t n cap HN.out rfl HH.out (by simp; omega) (by simp) ?_; intro v3 w3 hown3 hb3))
 go_ret
 exact ⟨v3, rfl, hown3, ((Below.refl _ _).alloc (Nat.le_refl _) _).trans hb3⟩
theorem cloneLn_any (A : Option Addr) (cap n : Nat) (t : List T.Ln) (w : World) (hn : t.length = n) (hp : n ≤ 1073741824) (h : Seen eL w A t) (hA : NilOk A cap) :
  Calls Tryz.prog 44 #[.slice A n cap] w (OwnS eL w t) := by
 cases A with
 | some ad => exact cloneLn_some ad cap n t w hn hp h
 | none =>
  obtain rfl := hA rfl
  have hl : t = [] := by
   cases t with
   | nil => rfl
   | cons x t => obtain ⟨b, o, e, _⟩ := h (by simp); cases e
  subst hl
  subst hn
  exact cloneLn_nil w
theorem tooLong_any (x : List UInt8) (w : World) : Calls Tryz.prog 73 #[.string (sB x)] w (fun e w' => e = .returned (.bool (decide (40 < x.length))) ∧ w = w') := by
 have hs := sB_size x
 by_cases h : 40 < x.length
 ·have b : decide ((40 : Int) < ((sB x).size : Int)) = true := decide_eq_true (by rw [hs]; omega)
  rw [decide_eq_true h]
  clear hs h
  go_enter Tryz.func73, Tryz.ntmps73
  go_wp2
  go_ret
  exact ⟨rfl, rfl⟩
 ·have b : decide ((40 : Int) < ((sB x).size : Int)) = false := decide_eq_false (by rw [hs]; omega)
  rw [decide_eq_false h]
  clear hs h
  go_enter Tryz.func73, Tryz.ntmps73
  go_wp2
  go_ret
  exact ⟨rfl, rfl⟩
def longB (p : T.Pth) : Bool := p.any fun x => decide (40 < x.length)
theorem longB_yes {p : T.Pth} {k : Nat} (h : k < p.length) (e : decide (40 < p[k].length) = true) : longB p = true := by
 unfold longB; rw [List.any_eq_true]; exact ⟨p[k], List.getElem_mem h, e⟩
theorem longB_no {p : T.Pth} (h : ∀ j (hj : j < p.length), decide (40 < p[j].length) = false) : longB p = false := by
 unfold longB; rw [List.any_eq_false]
 intro x hx
 obtain ⟨i, hi, rfl⟩ := List.getElem_of_mem hx
 rw [h i hi]; decide
theorem longB_all {p : T.Pth} (h : longB p = false) : ∀ x ∈ p, x.length ≤ 40 := by
 intro x hx
 unfold longB at h
 rw [List.any_eq_false] at h
 have := h x hx
 simp only [decide_eq_true_eq] at this
 omega
set_option maxRecDepth 100000 in
set_option maxHeartbeats 1000000 in
theorem indexLong_any (A : Option Addr) (c : Nat) (p : T.Pth) (w : World) (hA : Seen eS w A p) (hp : p.length ≤ 1073741824) :
  Calls Tryz.prog 113 #[.slice A p.length c, .func (.func 73) #[] #[]] w (fun e w' => ∃ i : Int, e = .returned (.int .i64 i) ∧ decide (0 ≤ i) = longB p ∧ w = w') := by
 have HA := Lib.hid hA
 clear hA
 go_enter Tryz.func113, Tryz.ntmps113
 go_wp2
 go_loopg [8] p.length (fun gk i wr => ∃ k : Nat, Hid (k + gk = p.length) ∧ k ≤ p.length ∧ i = .int .i64 k ∧ Hid (∀ j (hj : j < p.length), j < k → decide (40 < p[j].length) = false) ∧ w = wr)
 case atStart => exact ⟨0, Nat.zero_add _, Nat.zero_le _, rfl, (fun j h1 h2 => absurd h2 (Nat.not_lt_zero j)), rfl⟩
 case round =>
  obtain ⟨k, HG, hk, rfl, HI, rfl⟩ := hrel
  by_cases hlt : k < p.length
  ·have blt : decide ((k : Int) < (p.length : Int)) = true := decide_eq_true (by omega)
   obtain ⟨b1, o1, rfl, hw1, hL1⟩ := HA.out (by omega)
   have c1 := hL1.str hlt
   clear hL1
   obtain ⟨x, hx⟩ : ∃ x, p[k] = x := ⟨_, rfl⟩
   have hcall := tooLong_any x w
   rw [hx] at c1
   cases he : decide (40 < x.length) with
   | true =>
    have HN := Lib.hid (longB_yes hlt (by rw [hx]; exact he))
    rw [he] at hcall
    clear hx he
    go_wp2_with (refine hcall.mono ?_; rintro e w' ⟨rfl, rfl⟩)
    go_ret
    exact ⟨k, rfl, by rw [HN.out]; simp, rfl⟩
   | false =>
    have HN := Lib.hid (show ∀ j (hj : j < p.length), j < k + 1 → decide (40 < p[j].length) = false from fun j hj hjk => by
     rcases Nat.lt_or_ge j k with h1 | h1
     ·exact HI.out j hj h1
     ·obtain rfl : j = k := by omega
      rw [hx]; exact he)
    rw [he] at hcall
    clear hx he
    go_wp2_with (refine hcall.mono ?_; rintro e w' ⟨rfl, rfl⟩)
    go_roundg (p.length - (k + 1))
    case rel => exact ⟨k + 1, (by show _ = _; omega), by omega, by go_num, HN, rfl⟩
    case measure => have := HG.out; omega
  ·have blt : decide ((k : Int) < (p.length : Int)) = false := decide_eq_false (by omega)
   have HN := Lib.hid (longB_no (p := p) fun j hj => HI.out j hj (by omega))
   go_wp2
   go_ret
   exact ⟨-1, rfl, by rw [HN.out]; rfl, rfl⟩
theorem containsLong_any (A : Option Addr) (c : Nat) (p : T.Pth) (w : World) (hA : Seen eS w A p) (hp : p.length ≤ 1073741824) :
  Calls Tryz.prog 74 #[.slice A p.length c, .func (.func 73) #[] #[]] w (fun e w' => e = .returned (.bool (longB p)) ∧ w = w') := by
 have hc := indexLong_any A c p w hA hp
 clear hA
 go_enter Tryz.func74, Tryz.ntmps74
 go_wp2_with fail
 refine hc.mono ?_
 rintro e w' ⟨i, rfl, hi, rfl⟩
 have HI := Lib.hid hi
 clear hi hc
 go_wp2
 go_ret
 exact ⟨by rw [← HI.out]; rfl, rfl⟩
theorem wrong_1 (A B : Option Addr) (c d : Nat) (t : List T.Ln) (p : T.Pth) (w : World) (hA : Seen eL w A t) (hB : Seen eS w B p) (hl : t.length ≤ 1073741824) (hp : p.length ≤ 1073741824) (h : p = [] ∨ longB p = true ∨ ¬ T.RightT t) :
  Calls Tryz.prog 43 #[.slice A t.length c, .slice B p.length d] w (IntS w 1) := by
 by_cases h0 : p.length = 0
 ·have b0 : ((p.length : Int) == 0) = true := by simpa using h0
  have b1 : (p.length == 0) = true := by simpa using h0
  clear h
  go_enter Tryz.func43, Tryz.ntmps43
  go_wp2
  go_ret
  exact ⟨rfl, Below.refl _ _⟩
 ·have b0 : ((p.length : Int) == 0) = false := by simpa using h0
  have b1 : (p.length == 0) = false := by simpa using h0
  have hcon := containsLong_any B d p w hB hp
  cases hlong : longB p with
  | true =>
   rw [hlong] at hcon
   clear h hlong h0 hA hB
   go_enter Tryz.func43, Tryz.ntmps43
   go_wp2_with (refine hcon.mono ?_; rintro e w' ⟨rfl, rfl⟩)
   go_ret
   exact ⟨rfl, Below.refl _ _⟩
  | false =>
   rw [hlong] at hcon
   have hR : ¬ T.RightT t := by
    rcases h with h | h | h
    ·subst h; exact absurd rfl h0
    ·rw [hlong] at h; cases h
    ·exact h
   have hright := right_is A c t false w hA hl (no_iff hR)
   clear h hlong h0 hA hB hR
   go_enter Tryz.func43, Tryz.ntmps43
   go_wp2_with (first | (refine hcon.mono ?_; rintro e w' ⟨rfl, rfl⟩) | (refine hright.mono ?_; rintro e w1 ⟨rfl, hb1⟩))
   go_ret
   exact ⟨rfl, hb1⟩
theorem wrong_0 (A B : Option Addr) (c d : Nat) (t : List T.Ln) (p : T.Pth) (w : World) (hA : Seen eL w A t) (hB : Seen eS w B p) (hl : t.length ≤ 1073741824) (hp : p.length ≤ 1073741824) (h0 : 0 < p.length) (h1 : longB p = false) (hR : T.RightT t) :
  Calls Tryz.prog 43 #[.slice A t.length c, .slice B p.length d] w (IntS w (if 16 < p.length then 6 else 0)) := by
 have b0 : ((p.length : Int) == 0) = false := beq_eq_false_iff_ne.2 (by omega)
 have b1 : (p.length == 0) = false := beq_eq_false_iff_ne.2 (by omega)
 have hcon := containsLong_any B d p w hB hp
 rw [h1] at hcon
 have hright := right_is A c t true w hA hl (yes_iff hR)
 by_cases h16 : 16 < p.length
 ·rw [if_pos h16]
  have b2 : decide ((16 : Int) < (p.length : Int)) = true := decide_eq_true (by omega)
  have b3 : decide (16 < p.length) = true := decide_eq_true h16
  clear h0 h1 hA hB hR h16
  go_enter Tryz.func43, Tryz.ntmps43
  go_wp2_with (first | (refine hcon.mono ?_; rintro e w' ⟨rfl, rfl⟩) | (refine hright.mono ?_; rintro e w1 ⟨rfl, hb1⟩))
  go_ret
  exact ⟨rfl, hb1⟩
 ·rw [if_neg h16]
  have b2 : decide ((16 : Int) < (p.length : Int)) = false := decide_eq_false (by omega)
  have b3 : decide (16 < p.length) = false := decide_eq_false h16
  clear h0 h1 hA hB hR h16
  go_enter Tryz.func43, Tryz.ntmps43
  go_wp2_with (first | (refine hcon.mono ?_; rintro e w' ⟨rfl, rfl⟩) | (refine hright.mono ?_; rintro e w1 ⟨rfl, hb1⟩))
  go_ret
  exact ⟨rfl, hb1⟩
theorem slice_ok {P : Program} {w : World} {r : Reach} {base : Nat} {t e : TypeId} {A : Option Addr} {n c : Nat} (ht : P.underlying t = some (.slice e)) (h : Value.okWide P w r base t (.slice A n c)) : (A = none → n = 0 ∧ c = 0) ∧ n ≤ c := by
 simp only [Value.okWide, ht, Cell.okWide] at h
 cases A with
 | some a => simp only [Cell.ok, ht] at h; exact ⟨(fun e => by cases e), h.1⟩
 | none =>
  cases n with
  | zero =>
   cases c with
   | zero => exact ⟨fun _ => ⟨rfl, rfl⟩, Nat.le_refl _⟩
   | succ c => simp [Cell.ok, ht] at h
  | succ n => simp [Cell.ok, ht] at h
end Go.Proofs.YtfcikfohmehmkaaGreatDoor
namespace Go.Proofs.YtfcikfohmehmkaaGreatDoor
open Go.RowKit
theorem findN_any (A B : Option Addr) (c cd n : Nat) (t : List T.Ln) (q : T.Pth) (w : World) (hn : q.length = n) (hA : Seen eL w A t) (hB : Seen eS w B q) (hl : t.length ≤ 1073741824) (hp : n ≤ 1073741824) (hR : T.RightT t) :
  Calls Tryz.prog 75 #[.slice A t.length c, .slice B n cd] w (FindS w t q) := by
 subst hn; exact find_any A B c cd t q w hA hB hl hp hR
def KnownS (w : World) (t : List T.Ln) (p : T.Pth) (e : Ending) (w' : World) : Prop := ∃ n : Nat, T.knownN t p p.length = n ∧ e = .returned (.tuple #[.int .i64 (T.findI t (p.take n)), .int .i64 (n : Int)]) ∧ Below w.heap.size w w'
set_option maxRecDepth 100000 in
set_option maxHeartbeats 1000000 in
theorem known_any (A B : Option Addr) (c d : Nat) (t : List T.Ln) (p : T.Pth) (w : World) (hA : Seen eL w A t) (hB : Seen eS w B p) (hl : t.length ≤ 1073741824) (hp : p.length ≤ 1073741824) (hd : p.length ≤ d) (hR : T.RightT t) :
  Calls Tryz.prog 45 #[.slice A t.length c, .slice B p.length d] w (KnownS w t p) := by
 have HA := Lib.hid hA
 have HB := Lib.hid hB
 have HR := Lib.hid hR
 clear hA hB hR
 go_enter Tryz.func45, Tryz.ntmps45
 go_wp2
 go_loopg [6] p.length (fun g x wr => ∃ n : Nat, Hid (n = g) ∧ n ≤ p.length ∧ x = .int .i64 n ∧ Hid (T.knownN t p p.length = T.knownN t p n) ∧ Below w.heap.size w wr)
 case atStart => exact ⟨p.length, rfl, Nat.le_refl _, rfl, rfl, Below.refl _ _⟩
 case round =>
  obtain ⟨n, HG, hn, rfl, HK, hb⟩ := hrel
  by_cases h0 : n = 0
  ·subst h0
   have HN := Lib.hid (show T.findI t (p.take 0) = -1 from T.findI_nil t)
   go_wp2
   go_ret2
   exact ⟨0, HK.out, by rw [HN.out]; rfl, hb⟩
  ·obtain ⟨b, o, rfl, hbw, hL⟩ := HB.out (by omega)
   have HJ := Lib.hid (show ∃ j, n = j + 1 from ⟨n - 1, by omega⟩)
   have b0 : decide ((0 : Int) < (n : Int)) = true := decide_eq_true (by omega)
   have b1 : decide (0 < n) = true := decide_eq_true (by omega)
   have hni : (n : Int) ≤ (d : Int) := by omega
   have HQ := Lib.hid (show (p.take n).length = n by rw [List.length_take]; omega)
   have HS := Lib.hid (((hL.take n).seen hbw).below hb)
   clear hL
   go_wp2_with fail
   refine (findN_any A _ c d n t (p.take n) _ HQ.out (HA.out.below hb) HS.out hl (by omega) HR.out).mono ?_
   rintro e w1 ⟨hcase, hx⟩
   replace hb := bthen hb hx
   clear hx
   rcases hcase with ⟨i, hi, hpi, rfl⟩ | ⟨hno, rfl⟩
   ·have HF := Lib.hid (T.findI_some HR.out hi hpi)
    have HN := Lib.hid (show T.knownN t p n = n by
     obtain ⟨j, hj⟩ := HJ.out
     have hf := HF.out
     rw [hj] at hf ⊢
     unfold T.knownN
     rw [if_neg (by omega)])
    clear hpi
    go_wp2
    go_ret2
    exact ⟨n, HK.out.trans HN.out, by rw [HF.out]; rfl, hb⟩
   ·have HF := Lib.hid (T.findI_none hno)
    clear hno
    go_wp2
    have hgk := HG.out
    go_roundg (n - 1)
    case rel =>
     obtain ⟨j, hj⟩ := HJ.out
     refine ⟨j, (by show _ = _; omega), by omega, by go_num, ?_, hb⟩
     have hf := HF.out
     have hk := HK.out
     rw [hj] at hf hk
     show _ = _
     rw [hk]
     conv => lhs; unfold T.knownN
     rw [if_pos (by omega)]
    case measure => omega
set_option maxRecDepth 100000 in
set_option maxHeartbeats 1000000 in
theorem behind_any (A : Option Addr) (c : Nat) (t : List T.Ln) (up : Int) (wd : List UInt8) (w : World) (hA : Seen eL w A t) (hl : t.length ≤ 1073741824) (hu : -1 ≤ up) (hul : up < t.length) (hR : T.RightT t) :
  Calls Tryz.prog 46 #[.slice A t.length c, .int .i64 up, .string (sB wd)] w (IntS w (T.placeTo t wd (up + 1).toNat (T.kidsL t up) : Nat)) := by
 obtain ⟨K, hK⟩ : ∃ K, T.kidsL t up = K := ⟨_, rfl⟩
 obtain ⟨z, hz⟩ := Int.eq_ofNat_of_zero_le (show 0 ≤ up + 1 by omega)
 have hz2 : (up + 1).toNat = z := by omega
 have hkids := kids_is A c t up K w hA hl hu hul hR hK
 have hkl : K.length ≤ 1073741824 := by rw [← hK]; have := T.filter_len t.length (fun m => T.underL t m == up); exact Nat.le_trans this hl
 have HKM := Lib.hid (show ∀ k ∈ K, k < t.length from fun k hk => by rw [← hK] at hk; exact ((T.mem_kids t _ k).1 hk).1)
 have HZ := Lib.hid hz
 have HA := Lib.hid hA
 have HR := Lib.hid hR
 rw [hK, hz2]
 clear hA hR hK hz2
 go_enter Tryz.func46, Tryz.ntmps46
 go_wp2_with fail
 refine hkids.mono ?_
 rintro e wk ⟨Ak, ck, rfl, _, hsK, hbk⟩
 have HKS := Lib.hid hsK
 clear hsK hkids
 go_wp2
 go_loopg [7, 16] K.length (fun gk va vi wr => ∃ k P : Nat, Hid (k + gk = K.length) ∧ k ≤ K.length ∧ va = .int .i64 (P : Int) ∧ Hid (T.placeTo t wd z (K.take k) = P) ∧ vi = .int .i64 k ∧ Below w.heap.size w wr ∧ Below wk.heap.size wk wr)
 case atStart => exact ⟨0, z, Nat.zero_add _, Nat.zero_le _, by go_num, rfl, rfl, hbk, Below.refl _ _⟩
 case round =>
  obtain ⟨k, P, HG, hk, rfl, HP, rfl, hb, hbk2⟩ := hrel
  by_cases hlt : k < K.length
  ·have blt : decide ((k : Int) < (K.length : Int)) = true := decide_eq_true (by omega)
   obtain ⟨bk, ok, rfl, hbk1, hHK⟩ := HKS.out (by omega)
   have k0 := (hHK.below hbk2 hbk1).num hlt
   have hkt := HKM.out K[k] (List.getElem_mem hlt)
   obtain ⟨j, hj⟩ : ∃ j, K[k] = j := ⟨_, rfl⟩
   have HN := Lib.hid (T.place_next t wd z K k hlt)
   rw [hj] at k0 hkt
   have HJ := Lib.hid hj
   clear hHK hj
   have hkti : (j : Int) < (t.length : Int) := by omega
   obtain ⟨b, o, rfl, hbw, hL⟩ := HA.out.lines (by omega)
   obtain ⟨_, c1, _⟩ := (hL.below hb hbw).line hkt
   clear hL
   cases hw : Op.bytesLess (T.wd t j) wd with
   | true =>
    have l1 : Op.bytesLess (sB (T.wd t j)).toList (sB wd).toList = true := by rw [sB_toList, sB_toList]; exact hw
    have HE := Lib.hid (show T.placeTo t wd z (K.take (k + 1)) = T.endL t j by rw [HN.out, HJ.out, if_pos hw])
    clear hw
    go_wp2_with fail
    refine (End_is _ c t j _ _ (HA.out.below hb) hl hkt HR.out rfl).mono ?_
    rintro e w2 ⟨rfl, hx⟩
    have hbn := bthen hb hx
    have hbkn := bthen hbk2 hx
    go_wp2
    have hgk := HG.out
    go_roundg (K.length - (k + 1))
    case rel => exact ⟨k + 1, _, (by show _ = _; omega), by omega, rfl, HE, by go_num, hbn, hbkn⟩
    case measure => omega
   | false =>
    have l1 : Op.bytesLess (sB (T.wd t j)).toList (sB wd).toList = false := by rw [sB_toList, sB_toList]; exact hw
    have HE := Lib.hid (show T.placeTo t wd z (K.take (k + 1)) = P by rw [HN.out, HJ.out, if_neg (by rw [hw]; decide)]; exact HP.out)
    clear hw
    go_wp2
    have hgk := HG.out
    go_roundg (K.length - (k + 1))
    case rel => exact ⟨k + 1, P, (by show _ = _; omega), by omega, rfl, HE, by go_num, hb, hbk2⟩
    case measure => omega
  ·obtain rfl : k = K.length := by omega
   have HE := Lib.hid (show T.placeTo t wd z K = P by have := HP.out; rwa [List.take_length] at this)
   go_wp2
   go_ret
   exact ⟨by rw [HE.out]; rfl, hb⟩
set_option linter.unusedVariables false
def AddS (w : World) (u : List T.Ln) (er : Int) (e : Ending) (w' : World) : Prop := ∃ v, e = .returned (.tuple #[v, .int .i64 er]) ∧ Own eL w' w.heap.size v u ∧ Below w.heap.size w w'
set_option maxRecDepth 100000 in
theorem addErr_any (A B : Option Addr) (c n m d : Nat) (t : List T.Ln) (er : Int) (w : World) (hn : t.length = n) (hA : Seen eL w A t) (hl : n ≤ 1073741824) (hc : NilOk A c) (h0 : er ≠ 0)
  (hw : Calls Tryz.prog 43 #[.slice A n c, .slice B m d] w (IntS w er)) :
  Calls Tryz.prog 21 #[.slice A n c, .slice B m d] w (AddS w t er) := by
 have b0 : (er != 0) = true := bne_iff_ne.2 h0
 have HA := Lib.hid hA
 clear hA h0
 go_enter Tryz.func21, Tryz.ntmps21
 go_wp2_with fail
 refine hw.mono ?_
 rintro e w1 ⟨rfl, hb1⟩
 clear hw
 go_wp2_with fail
 refine (cloneLn_any A c n t _ hn hl (HA.out.below hb1) hc).mono ?_
 rintro e w2 ⟨v, rfl, hown, hb2⟩
 go_wp2
 go_ret2
 exact ⟨v, rfl, hown.base hb1.size, bthen hb1 hb2⟩
section
variable (b o d : Nat) (t : List T.Ln) (p : T.Pth) (w : World)
set_option maxRecDepth 100000 in
set_option maxHeartbeats 2000000 in
theorem add_all1 (A : Option Addr) (c n : Nat) (hA : Seen eL w A t) (hc : NilOk A c) (hb : b < w.heap.size) (hB : Holds eS w b o p) (hp0 : 0 < p.length) (hp : p.length ≤ 16) (hde : n < d) (hw : longB p = false) (hR : T.RightT t) (hk : T.knownN t p p.length = n) (hnp : p.length = n) :
  Calls Tryz.prog 21 #[.slice A t.length c, .slice (some ⟨b, o, none⟩) p.length d] w (AddS w t 0) := by
 have hl : t.length ≤ 200 := hR.len
 have hd : p.length ≤ d := by omega
 have hS := Holds.seen hB hb
 have hwr := wrong_0 A (some ⟨b, o, none⟩) c d t p w hA hS (by omega) (by omega) hp0 hw hR
 rw [if_neg (by omega)] at hwr
 have HA := Lib.hid hA
 have HS := Lib.hid hS
 have HR := Lib.hid hR
 have HK := Lib.hid hk
 have hni : (n : Int) ≤ (d : Int) := by omega
 have hni2 : (n : Int) ≤ (p.length : Int) := by omega
 obtain ⟨m, hm⟩ : ∃ m, p.length - n = m := ⟨_, rfl⟩
 have hm0 : m = 0 := by omega
 have b2 : decide ((200 : Int) < (t.length : Int) + (m : Int)) = false := decide_eq_false (by omega)
 have b3 : decide (200 < t.length + m) = false := decide_eq_false (by omega)
 have b4 : ((m : Int) == 0) = true := beq_iff_eq.2 (by omega)
 have b5 : (m == 0) = true := beq_iff_eq.2 (by omega)
 have hlong : t.length + m ≤ 200 := by omega
 have HM := Lib.hid hm
 clear hA hS hR hB hw hk hnp hm0 hm
 go_enter Tryz.func21, Tryz.ntmps21
 go_wp2_with fail
 refine hwr.mono ?_
 rintro e w1 ⟨rfl, hb1⟩
 go_wp2_with fail
 refine (known_any A _ c d t p _ (HA.out.below hb1) (HS.out.below hb1) (by omega) (by omega) hd HR.out).mono ?_
 rintro e w2 ⟨n2, hn, rfl, hb2⟩
 obtain rfl : n = n2 := HK.out.symm.trans hn
 replace hb1 := bthen hb1 hb2
 clear hb2 hn hwr
 have hm := HM.out
 go_wp2_with fail
 refine (cloneLn_any A c t.length t _ rfl (by omega) (HA.out.below hb1) hc).mono ?_
 rintro e w2 ⟨v, rfl, hown, hb2⟩
 go_wp2
 go_ret2
 exact ⟨v, rfl, hown.base hb1.size, bthen hb1 hb2⟩
set_option maxRecDepth 100000 in
set_option maxHeartbeats 2000000 in
theorem add_all2 (A : Option Addr) (c n : Nat) (hA : Seen eL w A t) (hc : NilOk A c) (hb : b < w.heap.size) (hB : Holds eS w b o p) (hp0 : 0 < p.length) (hp : p.length ≤ 16) (hde : d = n) (hw : longB p = false) (hR : T.RightT t) (hk : T.knownN t p p.length = n) (hnp : p.length = n) :
  Calls Tryz.prog 21 #[.slice A t.length c, .slice (some ⟨b, o, none⟩) p.length d] w (AddS w t 0) := by
 have hl : t.length ≤ 200 := hR.len
 have hd : p.length ≤ d := by omega
 have hS := Holds.seen hB hb
 have hwr := wrong_0 A (some ⟨b, o, none⟩) c d t p w hA hS (by omega) (by omega) hp0 hw hR
 rw [if_neg (by omega)] at hwr
 have HA := Lib.hid hA
 have HS := Lib.hid hS
 have HR := Lib.hid hR
 have HK := Lib.hid hk
 have hni : (n : Int) ≤ (d : Int) := by omega
 have hni2 : (n : Int) ≤ (p.length : Int) := by omega
 obtain ⟨m, hm⟩ : ∃ m, p.length - n = m := ⟨_, rfl⟩
 have hm0 : m = 0 := by omega
 have b2 : decide ((200 : Int) < (t.length : Int) + (m : Int)) = false := decide_eq_false (by omega)
 have b3 : decide (200 < t.length + m) = false := decide_eq_false (by omega)
 have b4 : ((m : Int) == 0) = true := beq_iff_eq.2 (by omega)
 have b5 : (m == 0) = true := beq_iff_eq.2 (by omega)
 have hlong : t.length + m ≤ 200 := by omega
 have HM := Lib.hid hm
 clear hA hS hR hB hw hk hnp hm0 hm
 subst hde
 go_enter Tryz.func21, Tryz.ntmps21
 go_wp2_with fail
 refine hwr.mono ?_
 rintro e w1 ⟨rfl, hb1⟩
 go_wp2_with fail
 refine (known_any A _ c d t p _ (HA.out.below hb1) (HS.out.below hb1) (by omega) (by omega) hd HR.out).mono ?_
 rintro e w2 ⟨n2, hn, rfl, hb2⟩
 obtain rfl : d = n2 := HK.out.symm.trans hn
 replace hb1 := bthen hb1 hb2
 clear hb2 hn hwr
 have hm := HM.out
 go_wp2_with fail
 refine (cloneLn_any A c t.length t _ rfl (by omega) (HA.out.below hb1) hc).mono ?_
 rintro e w2 ⟨v, rfl, hown, hb2⟩
 go_wp2
 go_ret2
 exact ⟨v, rfl, hown.base hb1.size, bthen hb1 hb2⟩
set_option maxRecDepth 100000 in
set_option maxHeartbeats 2000000 in
theorem add_long (A : Option Addr) (c n : Nat) (hA : Seen eL w A t) (hc : NilOk A c) (hb : b < w.heap.size) (hB : Holds eS w b o p) (hp0 : 0 < p.length) (hp : p.length ≤ 16) (hd : p.length ≤ d) (hw : longB p = false) (hR : T.RightT t) (hk : T.knownN t p p.length = n) (hlt : n < p.length) (hlong : 200 < t.length + (p.length - n)) :
  Calls Tryz.prog 21 #[.slice A t.length c, .slice (some ⟨b, o, none⟩) p.length d] w (AddS w t 5) := by
 have hl : t.length ≤ 200 := hR.len
 have hS := Holds.seen hB hb
 have hwr := wrong_0 A (some ⟨b, o, none⟩) c d t p w hA hS (by omega) (by omega) hp0 hw hR
 rw [if_neg (by omega)] at hwr
 have HA := Lib.hid hA
 have HS := Lib.hid hS
 have HR := Lib.hid hR
 have HK := Lib.hid hk
 clear hA hS hR hB hw hk
 have hni : (n : Int) ≤ (d : Int) := by omega
 have hni2 : (n : Int) ≤ (p.length : Int) := by omega
 have hnd : n < d := by omega
 have hf : ((p.length - n : Nat) : Int) = (p.length : Int) - (n : Int) := by omega
 obtain ⟨m, hm⟩ : ∃ m, p.length - n = m := ⟨_, rfl⟩
 have hmi : (p.length : Int) - (n : Int) = (m : Int) := by omega
 have b2 : decide ((200 : Int) < (t.length : Int) + (m : Int)) = true := decide_eq_true (by omega)
 have b3 : decide (200 < t.length + m) = true := decide_eq_true (by omega)
 rw [hm] at hlong hf
 have HM := Lib.hid hm
 have HMI := Lib.hid hmi
 clear hm hmi hf
 go_enter Tryz.func21, Tryz.ntmps21
 go_wp2_with fail
 refine hwr.mono ?_
 rintro e w1 ⟨rfl, hb1⟩
 go_wp2_with fail
 refine (known_any A _ c d t p _ (HA.out.below hb1) (HS.out.below hb1) (by omega) (by omega) hd HR.out).mono ?_
 rintro e w2 ⟨n2, hn, rfl, hb2⟩
 obtain rfl : n = n2 := HK.out.symm.trans hn
 replace hb1 := bthen hb1 hb2
 clear hb2 hn hwr
 have hm := HM.out
 go_wp2_with fail
 refine (cloneLn_any A c t.length t _ rfl (by omega) (HA.out.below hb1) hc).mono ?_
 rintro e w2 ⟨v, rfl, hown, hb2⟩
 go_wp2
 go_ret2
 exact ⟨v, rfl, hown.base hb1.size, bthen hb1 hb2⟩
set_option maxRecDepth 100000 in
set_option maxHeartbeats 2000000 in
theorem add_new1 (bt ot c n P : Nat) (hbt : bt < w.heap.size) (hA : Holds eL w bt ot t) (ht : 0 < t.length) (htc : t.length ≤ c) (hbB : b < w.heap.size) (hB : Holds eS w b o p) (hp : p.length ≤ 16) (hd : p.length ≤ d) (hw : longB p = false) (hR : T.RightT t) (hk : T.knownN t p p.length = n) (hlt : n < p.length)
  (hP : T.placeTo t (p.getD n []) (T.findI t (p.take n) + 1).toNat (T.kidsL t (T.findI t (p.take n))) = P) (hPl : P ≤ t.length) (hsplit : t.take P ++ T.freshL p n (p.length - n) ++ t.drop P = T.addL t p) (hlong : t.length + (p.length - n) ≤ 200) (hPc : P < c) :
  Calls Tryz.prog 21 #[.slice (some ⟨bt, ot, none⟩) t.length c, .slice (some ⟨b, o, none⟩) p.length d] w (AddS w (T.addL t p) 0) := by
 have hl : t.length ≤ 200 := hR.len
 have hS := Holds.seen hB hbB
 have hAS := Holds.seen hA hbt
 have hwr := wrong_0 (some ⟨bt, ot, none⟩) (some ⟨b, o, none⟩) c d t p w hAS hS (by omega) (by omega) (by omega) hw hR
 rw [if_neg (by omega)] at hwr
 have hu := ((T.known_open t p p.length).up hR).1
 rw [hk] at hu
 obtain ⟨up, hup⟩ : ∃ u, T.findI t (p.take n) = u := ⟨_, rfl⟩
 rw [hup] at hu hP
 have HUP := Lib.hid hup
 have HAS := Lib.hid hAS
 have HA := Lib.hid hA
 have HS := Lib.hid hS
 have HB := Lib.hid hB
 have HR := Lib.hid hR
 have HK := Lib.hid hk
 have HSP := Lib.hid hsplit
 have hni : (n : Int) ≤ (d : Int) := by omega
 have hni2 : (n : Int) ≤ (p.length : Int) := by omega
 have hnd : n < d := by omega
 obtain ⟨m, hm⟩ : ∃ m, p.length - n = m := ⟨_, rfl⟩
 have hm0 : 0 < m := by omega
 have hmp : n + m ≤ 16 := by omega
 have b2 : decide ((200 : Int) < (t.length : Int) + (m : Int)) = false := decide_eq_false (by omega)
 have b3 : decide (200 < t.length + m) = false := decide_eq_false (by omega)
 have b4 : ((m : Int) == 0) = false := beq_eq_false_iff_ne.2 (by omega)
 have b5 : (m == 0) = false := beq_eq_false_iff_ne.2 (by omega)
 have hPi : (P : Int) ≤ (c : Int) := by omega
 have hPi2 : (P : Int) ≤ (t.length : Int) := by omega
 have HTK := Lib.hid (show (t.take P).length = P by rw [List.length_take]; omega)
 have HDR := Lib.hid (show (t.drop P).length = t.length - P by rw [List.length_drop])
 obtain ⟨x0, hx0⟩ : ∃ x, p.getD n [] = x := ⟨_, rfl⟩
 have hc0 := hB.str hlt
 have hx1 : p[n] = x0 := by rw [← hx0]; unfold List.getD; rw [List.getElem?_eq_getElem hlt]; rfl
 rw [hx1] at hc0
 rw [hx0] at hP
 have HP := Lib.hid hP
 have HL := Lib.hid hlt
 rw [hm] at hlong
 have HM := Lib.hid hm
 have hwsz : w.heap.size ≤ w.heap.size := Nat.le_refl _
 clear hA hAS hS hR hB hw hk hm hP hx0 hx1 hup hsplit hlt
 go_enter Tryz.func21, Tryz.ntmps21
 go_wp2_with fail
 refine hwr.mono ?_
 rintro e w1 ⟨rfl, hb1⟩
 go_wp2_with fail
 refine (known_any _ _ _ d t p _ (HAS.out.below hb1) (HS.out.below hb1) (by omega) (by omega) hd HR.out).mono ?_
 rintro e w2 ⟨n2, hn, rfl, hb2⟩
 obtain rfl : n = n2 := HK.out.symm.trans hn
 rw [HUP.out]
 replace hb1 := bthen hb1 hb2
 clear hb2 hn hwr
 have hm := HM.out
 replace hc0 := (hb1.cell (p := ⟨b, o + n, none⟩) hbB).trans hc0
 go_wp2_with fail
 refine (behind_any _ _ t up x0 _ (HAS.out.below hb1) (by omega) hu.1 hu.2 HR.out).mono ?_
 rintro e w3 ⟨rfl, hb2⟩
 rw [HP.out]
 replace hb1 := bthen hb1 hb2
 clear hb2 hc0
 go_wp2_with fail
 refine (cloneLn_some ⟨bt, ot, none⟩ _ P (t.take P) _ HTK.out (by omega) (((HA.out.take P).seen hbt).below hb1)).mono ?_
 rintro e w4 ⟨v2, rfl, hown2, hb2⟩
 have HO := Lib.hid (hown2.base hb1.size)
 replace hb1 := bthen hb1 hb2
 clear hb2 hown2
 go_wp2
 go_loopg [11, 56] m (fun g vo vi wr => ∃ k : Nat, Hid (k + g = m) ∧ k ≤ m ∧ Own eL wr w.heap.size vo (t.take P ++ T.freshL p n k) ∧ vi = .int .i64 k ∧ Below w.heap.size w wr)
 case atStart => exact ⟨0, Nat.zero_add _, Nat.zero_le _, (List.append_nil (t.take P)).symm ▸ HO.out, rfl, hb1⟩
 case round =>
  obtain ⟨k, HG, hk, hown, rfl, hb⟩ := hrel
  have HW := Lib.hid hown
  have hsz := hb.size
  clear hown
  have HLN := Lib.hid (show (t.take P ++ T.freshL p n k).length = P + k by rw [List.length_append, HTK.out, T.freshL_len])
  by_cases hkm : k < m
  ·have bkm : decide ((k : Int) < (m : Int)) = true := decide_eq_true (by omega)
   have hnk : n + k < p.length := by omega
   have c1 := (HB.out.belowN hb hbB).str hnk
   obtain ⟨x, hx⟩ : ∃ x, p[n + k] = x := ⟨_, rfl⟩
   rw [hx, ← Nat.add_assoc] at c1
   have HN := Lib.hid (show t.take P ++ T.freshL p n k ++ [⟨(n : Int) + (k : Int), x, 0⟩] = t.take P ++ T.freshL p n (k + 1) by
    rw [T.freshL_next, List.append_assoc]
    congr 2
    rw [← hx]
    unfold List.getD
    rw [List.getElem?_eq_getElem hnk]; rfl)
   clear hx
   have hown := HW.out
   go_wp2_with (at_builtin; refine wpList_appG eL _ rfl (.tmp 61) (.tmp 67) rfl w.heap.size _ (t.take P ++ T.freshL p n k) rfl hown ⟨(n : Int) + (k : Int), x, 0⟩ 1 _ rfl wr.heap.size rfl rfl (by rw [HLN.out]; omega) hsz ?_; intro v3 w3 hown3 hb3)
   have hgk := HG.out
   go_roundg (m - (k + 1))
   case rel => exact ⟨k + 1, (by show _ = _; omega), by omega, HN.out ▸ hown3, by go_num, hb.trans hb3⟩
   case measure => omega
  ·obtain rfl : k = m := by omega
   have bkm : decide ((k : Int) < (k : Int)) = false := decide_eq_false (by omega)
   have hown := HW.out
   have hHt := HA.out.belowN hb hbt
   go_wp2_with (at_builtin; refine wpList_appSrc eL wr rfl (.tmp 70) (.tmp 73) rfl w.heap.size _ _ rfl hown bt (ot + P * 3) (t.drop P) (t.length - P) (c - P) HDR.out rfl (hHt.drop P) (by rw [HLN.out]; omega) hsz ?_; intro v5 w5 hown5 hx5)
   go_ret2
   refine ⟨v5, rfl, ?_, hb.trans hx5⟩
   have hsp := HSP.out
   rw [hm] at hsp
   rw [hsp] at hown5
   exact hown5
end
end Go.Proofs.YtfcikfohmehmkaaGreatDoor
namespace Go.Proofs.YtfcikfohmehmkaaGreatDoor
open Go.RowKit
set_option linter.unusedVariables false
section
variable (b o d : Nat) (t : List T.Ln) (p : T.Pth) (w : World)
set_option maxRecDepth 100000 in
set_option maxHeartbeats 2000000 in
theorem add_new2 (bt ot n : Nat) (hbt : bt < w.heap.size) (hA : Holds eL w bt ot t) (ht : 0 < t.length) (hbB : b < w.heap.size) (hB : Holds eS w b o p) (hp : p.length ≤ 16) (hd : p.length ≤ d) (hw : longB p = false) (hR : T.RightT t) (hk : T.knownN t p p.length = n) (hlt : n < p.length)
  (hP : T.placeTo t (p.getD n []) (T.findI t (p.take n) + 1).toNat (T.kidsL t (T.findI t (p.take n))) = t.length) (hsplit : t.take t.length ++ T.freshL p n (p.length - n) ++ t.drop t.length = T.addL t p) (hlong : t.length + (p.length - n) ≤ 200) :
  Calls Tryz.prog 21 #[.slice (some ⟨bt, ot, none⟩) t.length t.length, .slice (some ⟨b, o, none⟩) p.length d] w (AddS w (T.addL t p) 0) := by
 have hl : t.length ≤ 200 := hR.len
 have hS := Holds.seen hB hbB
 have hAS := Holds.seen hA hbt
 have hwr := wrong_0 (some ⟨bt, ot, none⟩) (some ⟨b, o, none⟩) t.length d t p w hAS hS (by omega) (by omega) (by omega) hw hR
 rw [if_neg (by omega)] at hwr
 have hu := ((T.known_open t p p.length).up hR).1
 rw [hk] at hu
 obtain ⟨up, hup⟩ : ∃ u, T.findI t (p.take n) = u := ⟨_, rfl⟩
 rw [hup] at hu hP
 have HUP := Lib.hid hup
 have HAS := Lib.hid hAS
 have HA := Lib.hid hA
 have HS := Lib.hid hS
 have HB := Lib.hid hB
 have HR := Lib.hid hR
 have HK := Lib.hid hk
 have HSP := Lib.hid hsplit
 have hni : (n : Int) ≤ (d : Int) := by omega
 have hni2 : (n : Int) ≤ (p.length : Int) := by omega
 have hnd : n < d := by omega
 obtain ⟨m, hm⟩ : ∃ m, p.length - n = m := ⟨_, rfl⟩
 have hm0 : 0 < m := by omega
 have hmp : n + m ≤ 16 := by omega
 have b2 : decide ((200 : Int) < (t.length : Int) + (m : Int)) = false := decide_eq_false (by omega)
 have b3 : decide (200 < t.length + m) = false := decide_eq_false (by omega)
 have b4 : ((m : Int) == 0) = false := beq_eq_false_iff_ne.2 (by omega)
 have b5 : (m == 0) = false := beq_eq_false_iff_ne.2 (by omega)
 have hPi : (t.length : Int) ≤ (t.length : Int) := by omega
 have hPi2 : (t.length : Int) ≤ (t.length : Int) := by omega
 have HTK := Lib.hid (show (t.take t.length).length = t.length by rw [List.length_take]; omega)
 have HDR := Lib.hid (show (t.drop t.length).length = t.length - t.length by rw [List.length_drop])
 obtain ⟨x0, hx0⟩ : ∃ x, p.getD n [] = x := ⟨_, rfl⟩
 have hc0 := hB.str hlt
 have hx1 : p[n] = x0 := by rw [← hx0]; unfold List.getD; rw [List.getElem?_eq_getElem hlt]; rfl
 rw [hx1] at hc0
 rw [hx0] at hP
 have HP := Lib.hid hP
 have HL := Lib.hid hlt
 rw [hm] at hlong
 have HM := Lib.hid hm
 have hwsz : w.heap.size ≤ w.heap.size := Nat.le_refl _
 clear hA hAS hS hR hB hw hk hm hP hx0 hx1 hup hsplit hlt
 go_enter Tryz.func21, Tryz.ntmps21
 go_wp2_with fail
 refine hwr.mono ?_
 rintro e w1 ⟨rfl, hb1⟩
 go_wp2_with fail
 refine (known_any _ _ _ d t p _ (HAS.out.below hb1) (HS.out.below hb1) (by omega) (by omega) hd HR.out).mono ?_
 rintro e w2 ⟨n2, hn, rfl, hb2⟩
 obtain rfl : n = n2 := HK.out.symm.trans hn
 rw [HUP.out]
 replace hb1 := bthen hb1 hb2
 clear hb2 hn hwr
 have hm := HM.out
 replace hc0 := (hb1.cell (p := ⟨b, o + n, none⟩) hbB).trans hc0
 go_wp2_with fail
 refine (behind_any _ _ t up x0 _ (HAS.out.below hb1) (by omega) hu.1 hu.2 HR.out).mono ?_
 rintro e w3 ⟨rfl, hb2⟩
 rw [HP.out]
 replace hb1 := bthen hb1 hb2
 clear hb2 hc0
 go_wp2_with fail
 refine (cloneLn_some ⟨bt, ot, none⟩ _ t.length (t.take t.length) _ HTK.out (by omega) (((HA.out.take t.length).seen hbt).below hb1)).mono ?_
 rintro e w4 ⟨v2, rfl, hown2, hb2⟩
 have HO := Lib.hid (hown2.base hb1.size)
 replace hb1 := bthen hb1 hb2
 clear hb2 hown2
 go_wp2
 go_loopg [11, 56] m (fun g vo vi wr => ∃ k : Nat, Hid (k + g = m) ∧ k ≤ m ∧ Own eL wr w.heap.size vo (t.take t.length ++ T.freshL p n k) ∧ vi = .int .i64 k ∧ Below w.heap.size w wr)
 case atStart => exact ⟨0, Nat.zero_add _, Nat.zero_le _, (List.append_nil (t.take t.length)).symm ▸ HO.out, rfl, hb1⟩
 case round =>
  obtain ⟨k, HG, hk, hown, rfl, hb⟩ := hrel
  have HW := Lib.hid hown
  have hsz := hb.size
  clear hown
  have HLN := Lib.hid (show (t.take t.length ++ T.freshL p n k).length = t.length + k by rw [List.length_append, HTK.out, T.freshL_len])
  by_cases hkm : k < m
  ·have bkm : decide ((k : Int) < (m : Int)) = true := decide_eq_true (by omega)
   have hnk : n + k < p.length := by omega
   have c1 := (HB.out.belowN hb hbB).str hnk
   obtain ⟨x, hx⟩ : ∃ x, p[n + k] = x := ⟨_, rfl⟩
   rw [hx, ← Nat.add_assoc] at c1
   have HN := Lib.hid (show t.take t.length ++ T.freshL p n k ++ [⟨(n : Int) + (k : Int), x, 0⟩] = t.take t.length ++ T.freshL p n (k + 1) by
    rw [T.freshL_next, List.append_assoc]
    congr 2
    rw [← hx]
    unfold List.getD
    rw [List.getElem?_eq_getElem hnk]; rfl)
   clear hx
   have hown := HW.out
   go_wp2_with (at_builtin; refine wpList_appG eL _ rfl (.tmp 61) (.tmp 67) rfl w.heap.size _ (t.take t.length ++ T.freshL p n k) rfl hown ⟨(n : Int) + (k : Int), x, 0⟩ 1 _ rfl wr.heap.size rfl rfl (by rw [HLN.out]; omega) hsz ?_; intro v3 w3 hown3 hb3)
   have hgk := HG.out
   go_roundg (m - (k + 1))
   case rel => exact ⟨k + 1, (by show _ = _; omega), by omega, HN.out ▸ hown3, by go_num, hb.trans hb3⟩
   case measure => omega
  ·obtain rfl : k = m := by omega
   have bkm : decide ((k : Int) < (k : Int)) = false := decide_eq_false (by omega)
   have hown := HW.out
   have hHt := HA.out.belowN hb hbt
   go_wp2_with (at_builtin; refine wpList_appSeen eL wr rfl (.tmp 70) (.tmp 73) rfl w.heap.size _ _ rfl hown _ (t.drop t.length) 0 0 (by rw [List.length_drop]; omega) rfl (by rw [List.drop_of_length_le (by omega)]; exact Seen.nil) (by rw [HLN.out]; omega) hsz ?_; intro v5 w5 hown5 hx5)
   go_ret2
   refine ⟨v5, rfl, ?_, hb.trans hx5⟩
   have hsp := HSP.out
   rw [hm] at hsp
   rw [hsp] at hown5
   exact hown5
end
end Go.Proofs.YtfcikfohmehmkaaGreatDoor
namespace Go.Proofs.YtfcikfohmehmkaaGreatDoor
open Go.RowKit
set_option linter.unusedVariables false
section
variable (b o d : Nat) (p : T.Pth) (w : World)
set_option maxRecDepth 100000 in
set_option maxHeartbeats 2000000 in
theorem add_emptyN  (hbB : b < w.heap.size) (hB : Holds eS w b o p) (hp0 : 0 < p.length) (hp : p.length ≤ 16) (hd : p.length ≤ d) (hw : longB p = false) (hsplit : T.freshL p 0 p.length = T.addL [] p) :
  Calls Tryz.prog 21 #[.slice none 0 0, .slice (some ⟨b, o, none⟩) p.length d] w (AddS w (T.addL [] p) 0) := by
 have hS := Holds.seen hB hbB
 have hwr : Calls Tryz.prog 43 #[.slice none 0 0, .slice (some ⟨b, o, none⟩) p.length d] w (IntS w _) := wrong_0 none (some ⟨b, o, none⟩) 0 d [] p w Seen.nil hS (by decide) (by omega) hp0 hw S.right_nil
 rw [if_neg (by omega)] at hwr
 have hkn : ∀ n, T.knownN [] p n = 0 := by
  intro n
  induction n with
  | zero => rfl
  | succ n ih => unfold T.knownN; rw [T.findI_none (fun i hi => by simp at hi), if_pos (by omega)]; exact ih
 have HKN := Lib.hid (hkn p.length)
 have HS := Lib.hid hS
 have HB := Lib.hid hB
 have HSP := Lib.hid hsplit
 have hfn : T.findI [] (p.take 0) = -1 := T.findI_none (fun i hi => by simp at hi)
 have HFN := Lib.hid hfn
 obtain ⟨m, hm⟩ : ∃ m, p.length = m := ⟨_, rfl⟩
 have hm0 : 0 < m := by omega
 have hmp : m ≤ 16 := by omega
 have hmd : m ≤ d := by omega
 have b2 : decide ((200 : Int) < (m : Int)) = false := decide_eq_false (by omega)
 have b3 : decide (200 < m) = false := decide_eq_false (by omega)
 have b4 : ((m : Int) == 0) = false := beq_eq_false_iff_ne.2 (by omega)
 have b5 : (m == 0) = false := beq_eq_false_iff_ne.2 (by omega)
 have hmi : (m : Int) ≤ (d : Int) := by omega
 have hdi : (0 : Int) < (d : Int) := by omega
 have hd0 : 0 < d := by omega
 obtain ⟨x0, hx0⟩ : ∃ x, p[0] = x := ⟨_, rfl⟩
 have hc0 : w.cell? ⟨b, o, none⟩ = _ := hB.str hp0
 rw [hx0] at hc0
 have HM := Lib.hid hm
 have hkno : ∀ w1, Below w.heap.size w w1 → Calls Tryz.prog 45 #[.slice none 0 0, .slice (some ⟨b, o, none⟩) m d] w1 (KnownS w1 [] p) := fun w1 hx => by
  have := known_any none (some ⟨b, o, none⟩) 0 d [] p w1 Seen.nil (HS.out.below hx) (by decide) (by omega) (by omega) S.right_nil
  rw [HM.out] at this
  exact this
 have hbe : ∀ w1, Calls Tryz.prog 46 #[.slice none 0 0, .int .i64 (-1), .string (sB x0)] w1 (IntS w1 0) := fun w1 => behind_any none 0 [] (-1) x0 w1 Seen.nil (by decide) (by decide) (by decide) S.right_nil
 rw [hm] at hwr ⊢
 clear hS hB hw hkn hx0 hsplit hfn hm hp hp0 hd
 go_enter Tryz.func21, Tryz.ntmps21
 go_wp2_with fail
 refine hwr.mono ?_
 rintro e w1 ⟨rfl, hb1⟩
 go_wp2_with fail
 refine (hkno _ hb1).mono ?_
 rintro e w2 ⟨n2, hn, rfl, hb2⟩
 obtain rfl : 0 = n2 := HKN.out.symm.trans hn
 rw [HFN.out]
 replace hb1 := bthen hb1 hb2
 clear hb2 hn hwr hkno
 replace hc0 := (hb1.cell (p := ⟨b, o, none⟩) hbB).trans hc0
 go_wp2_with fail
 refine (hbe _).mono ?_
 rintro e w3 ⟨rfl, hb2⟩
 replace hb1 := bthen hb1 hb2
 clear hb2 hc0 hbe
 go_wp2_with fail
 refine (cloneLn_nil _).mono ?_
 rintro e w4 ⟨v2, rfl, hown2, hb2⟩
 have HO := Lib.hid (hown2.base hb1.size)
 replace hb1 := bthen hb1 hb2
 clear hb2 hown2
 go_wp2
 go_loopg [11, 56] m (fun g vo vi wr => ∃ k : Nat, Hid (k + g = m) ∧ k ≤ m ∧ Own eL wr w.heap.size vo (T.freshL p 0 k) ∧ vi = .int .i64 k ∧ Below w.heap.size w wr)
 case atStart => exact ⟨0, Nat.zero_add _, Nat.zero_le _, HO.out, rfl, hb1⟩
 case round =>
  obtain ⟨k, HG, hk, hown, rfl, hb⟩ := hrel
  have HW := Lib.hid hown
  have hsz := hb.size
  clear hown
  have HLN := Lib.hid (show (T.freshL p 0 k).length = k by rw [T.freshL_len])
  by_cases hkm : k < m
  ·have bkm : decide ((k : Int) < (m : Int)) = true := decide_eq_true (by omega)
   have hnk : k < p.length := by have := HM.out; omega
   have c1 := (HB.out.belowN hb hbB).str hnk
   obtain ⟨x, hx⟩ : ∃ x, p[k] = x := ⟨_, rfl⟩
   rw [hx] at c1
   have HN := Lib.hid (show T.freshL p 0 k ++ [⟨(k : Int), x, 0⟩] = T.freshL p 0 (k + 1) by
    rw [T.freshL_next]
    congr 1
    rw [← hx]
    unfold List.getD
    rw [Nat.zero_add, List.getElem?_eq_getElem hnk]; rfl)
   clear hx hnk
   have hown := HW.out
   go_wp2_with (at_builtin; refine wpList_appG eL _ rfl (.tmp 61) (.tmp 67) rfl w.heap.size _ (T.freshL p 0 k) rfl hown ⟨(k : Int), x, 0⟩ 1 _ rfl wr.heap.size rfl rfl (by rw [HLN.out]; omega) hsz ?_; intro v3 w3 hown3 hb3)
   have hgk := HG.out
   go_roundg (m - (k + 1))
   case rel => exact ⟨k + 1, (by show _ = _; omega), by omega, HN.out ▸ hown3, by go_num, hb.trans hb3⟩
   case measure => omega
  ·obtain rfl : k = m := by omega
   have bkm : decide ((k : Int) < (k : Int)) = false := decide_eq_false (by omega)
   have hown := HW.out
   go_wp2_with (at_builtin; refine wpList_appNone eL wr rfl (.tmp 70) (.tmp 73) rfl w.heap.size _ _ rfl hown rfl ?_)
   go_ret2
   refine ⟨_, rfl, ?_, hb⟩
   have hsp := HSP.out
   rw [HM.out] at hsp
   rw [← hsp]
   exact hown
set_option maxRecDepth 100000 in
set_option maxHeartbeats 2000000 in
theorem add_emptyZ (ad : Addr) (hbB : b < w.heap.size) (hB : Holds eS w b o p) (hp0 : 0 < p.length) (hp : p.length ≤ 16) (hd : p.length ≤ d) (hw : longB p = false) (hsplit : T.freshL p 0 p.length = T.addL [] p) :
  Calls Tryz.prog 21 #[.slice (some ad) 0 0, .slice (some ⟨b, o, none⟩) p.length d] w (AddS w (T.addL [] p) 0) := by
 have hS := Holds.seen hB hbB
 have hwr : Calls Tryz.prog 43 #[.slice (some ad) 0 0, .slice (some ⟨b, o, none⟩) p.length d] w (IntS w _) := wrong_0 (some ad) (some ⟨b, o, none⟩) 0 d [] p w Seen.nil hS (by decide) (by omega) hp0 hw S.right_nil
 rw [if_neg (by omega)] at hwr
 have hkn : ∀ n, T.knownN [] p n = 0 := by
  intro n
  induction n with
  | zero => rfl
  | succ n ih => unfold T.knownN; rw [T.findI_none (fun i hi => by simp at hi), if_pos (by omega)]; exact ih
 have HKN := Lib.hid (hkn p.length)
 have HS := Lib.hid hS
 have HB := Lib.hid hB
 have HSP := Lib.hid hsplit
 have hfn : T.findI [] (p.take 0) = -1 := T.findI_none (fun i hi => by simp at hi)
 have HFN := Lib.hid hfn
 obtain ⟨m, hm⟩ : ∃ m, p.length = m := ⟨_, rfl⟩
 have hm0 : 0 < m := by omega
 have hmp : m ≤ 16 := by omega
 have hmd : m ≤ d := by omega
 have b2 : decide ((200 : Int) < (m : Int)) = false := decide_eq_false (by omega)
 have b3 : decide (200 < m) = false := decide_eq_false (by omega)
 have b4 : ((m : Int) == 0) = false := beq_eq_false_iff_ne.2 (by omega)
 have b5 : (m == 0) = false := beq_eq_false_iff_ne.2 (by omega)
 have hmi : (m : Int) ≤ (d : Int) := by omega
 have hdi : (0 : Int) < (d : Int) := by omega
 have hd0 : 0 < d := by omega
 obtain ⟨x0, hx0⟩ : ∃ x, p[0] = x := ⟨_, rfl⟩
 have hc0 : w.cell? ⟨b, o, none⟩ = _ := hB.str hp0
 rw [hx0] at hc0
 have HM := Lib.hid hm
 have hkno : ∀ w1, Below w.heap.size w w1 → Calls Tryz.prog 45 #[.slice (some ad) 0 0, .slice (some ⟨b, o, none⟩) m d] w1 (KnownS w1 [] p) := fun w1 hx => by
  have := known_any (some ad) (some ⟨b, o, none⟩) 0 d [] p w1 Seen.nil (HS.out.below hx) (by decide) (by omega) (by omega) S.right_nil
  rw [HM.out] at this
  exact this
 have hbe : ∀ w1, Calls Tryz.prog 46 #[.slice (some ad) 0 0, .int .i64 (-1), .string (sB x0)] w1 (IntS w1 0) := fun w1 => behind_any (some ad) 0 [] (-1) x0 w1 Seen.nil (by decide) (by decide) (by decide) S.right_nil
 rw [hm] at hwr ⊢
 clear hS hB hw hkn hx0 hsplit hfn hm hp hp0 hd
 go_enter Tryz.func21, Tryz.ntmps21
 go_wp2_with fail
 refine hwr.mono ?_
 rintro e w1 ⟨rfl, hb1⟩
 go_wp2_with fail
 refine (hkno _ hb1).mono ?_
 rintro e w2 ⟨n2, hn, rfl, hb2⟩
 obtain rfl : 0 = n2 := HKN.out.symm.trans hn
 rw [HFN.out]
 replace hb1 := bthen hb1 hb2
 clear hb2 hn hwr hkno
 replace hc0 := (hb1.cell (p := ⟨b, o, none⟩) hbB).trans hc0
 go_wp2_with fail
 refine (hbe _).mono ?_
 rintro e w3 ⟨rfl, hb2⟩
 replace hb1 := bthen hb1 hb2
 clear hb2 hc0 hbe
 go_wp2_with fail
 refine (cloneLn_some ad _ 0 [] _ rfl (by omega) Seen.nil).mono ?_
 rintro e w4 ⟨v2, rfl, hown2, hb2⟩
 have HO := Lib.hid (hown2.base hb1.size)
 replace hb1 := bthen hb1 hb2
 clear hb2 hown2
 go_wp2
 go_loopg [11, 56] m (fun g vo vi wr => ∃ k : Nat, Hid (k + g = m) ∧ k ≤ m ∧ Own eL wr w.heap.size vo (T.freshL p 0 k) ∧ vi = .int .i64 k ∧ Below w.heap.size w wr)
 case atStart => exact ⟨0, Nat.zero_add _, Nat.zero_le _, HO.out, rfl, hb1⟩
 case round =>
  obtain ⟨k, HG, hk, hown, rfl, hb⟩ := hrel
  have HW := Lib.hid hown
  have hsz := hb.size
  clear hown
  have HLN := Lib.hid (show (T.freshL p 0 k).length = k by rw [T.freshL_len])
  by_cases hkm : k < m
  ·have bkm : decide ((k : Int) < (m : Int)) = true := decide_eq_true (by omega)
   have hnk : k < p.length := by have := HM.out; omega
   have c1 := (HB.out.belowN hb hbB).str hnk
   obtain ⟨x, hx⟩ : ∃ x, p[k] = x := ⟨_, rfl⟩
   rw [hx] at c1
   have HN := Lib.hid (show T.freshL p 0 k ++ [⟨(k : Int), x, 0⟩] = T.freshL p 0 (k + 1) by
    rw [T.freshL_next]
    congr 1
    rw [← hx]
    unfold List.getD
    rw [Nat.zero_add, List.getElem?_eq_getElem hnk]; rfl)
   clear hx hnk
   have hown := HW.out
   go_wp2_with (at_builtin; refine wpList_appG eL _ rfl (.tmp 61) (.tmp 67) rfl w.heap.size _ (T.freshL p 0 k) rfl hown ⟨(k : Int), x, 0⟩ 1 _ rfl wr.heap.size rfl rfl (by rw [HLN.out]; omega) hsz ?_; intro v3 w3 hown3 hb3)
   have hgk := HG.out
   go_roundg (m - (k + 1))
   case rel => exact ⟨k + 1, (by show _ = _; omega), by omega, HN.out ▸ hown3, by go_num, hb.trans hb3⟩
   case measure => omega
  ·obtain rfl : k = m := by omega
   have bkm : decide ((k : Int) < (k : Int)) = false := decide_eq_false (by omega)
   have hown := HW.out
   go_wp2_with (at_builtin; refine wpList_appSeen eL wr rfl (.tmp 70) (.tmp 73) rfl w.heap.size _ _ rfl hown _ [] 0 _ rfl rfl Seen.nil (by rw [HLN.out]; omega) hsz ?_; intro v5 w5 hown5 hx5)
   go_ret2
   refine ⟨_, rfl, ?_, hb.trans hx5⟩
   have hsp := HSP.out
   rw [HM.out] at hsp
   rw [← hsp]
   exact (List.append_nil (T.freshL p 0 k)) ▸ hown5
set_option maxRecDepth 100000 in
set_option maxHeartbeats 2000000 in
theorem add_emptyS (ad : Addr) (c : Nat) (hc0 : 0 < c) (hbB : b < w.heap.size) (hB : Holds eS w b o p) (hp0 : 0 < p.length) (hp : p.length ≤ 16) (hd : p.length ≤ d) (hw : longB p = false) (hsplit : T.freshL p 0 p.length = T.addL [] p) :
  Calls Tryz.prog 21 #[.slice (some ad) 0 c, .slice (some ⟨b, o, none⟩) p.length d] w (AddS w (T.addL [] p) 0) := by
 have hS := Holds.seen hB hbB
 have hwr : Calls Tryz.prog 43 #[.slice (some ad) 0 c, .slice (some ⟨b, o, none⟩) p.length d] w (IntS w _) := wrong_0 (some ad) (some ⟨b, o, none⟩) c d [] p w Seen.nil hS (by decide) (by omega) hp0 hw S.right_nil
 rw [if_neg (by omega)] at hwr
 have hkn : ∀ n, T.knownN [] p n = 0 := by
  intro n
  induction n with
  | zero => rfl
  | succ n ih => unfold T.knownN; rw [T.findI_none (fun i hi => by simp at hi), if_pos (by omega)]; exact ih
 have HKN := Lib.hid (hkn p.length)
 have HS := Lib.hid hS
 have HB := Lib.hid hB
 have HSP := Lib.hid hsplit
 have hfn : T.findI [] (p.take 0) = -1 := T.findI_none (fun i hi => by simp at hi)
 have HFN := Lib.hid hfn
 obtain ⟨m, hm⟩ : ∃ m, p.length = m := ⟨_, rfl⟩
 have hm0 : 0 < m := by omega
 have hmp : m ≤ 16 := by omega
 have hmd : m ≤ d := by omega
 have b2 : decide ((200 : Int) < (m : Int)) = false := decide_eq_false (by omega)
 have b3 : decide (200 < m) = false := decide_eq_false (by omega)
 have b4 : ((m : Int) == 0) = false := beq_eq_false_iff_ne.2 (by omega)
 have b5 : (m == 0) = false := beq_eq_false_iff_ne.2 (by omega)
 have hmi : (m : Int) ≤ (d : Int) := by omega
 have hdi : (0 : Int) < (d : Int) := by omega
 have hd0 : 0 < d := by omega
 obtain ⟨x0, hx0⟩ : ∃ x, p[0] = x := ⟨_, rfl⟩
 have hc0 : w.cell? ⟨b, o, none⟩ = _ := hB.str hp0
 rw [hx0] at hc0
 have HM := Lib.hid hm
 have hkno : ∀ w1, Below w.heap.size w w1 → Calls Tryz.prog 45 #[.slice (some ad) 0 c, .slice (some ⟨b, o, none⟩) m d] w1 (KnownS w1 [] p) := fun w1 hx => by
  have := known_any (some ad) (some ⟨b, o, none⟩) c d [] p w1 Seen.nil (HS.out.below hx) (by decide) (by omega) (by omega) S.right_nil
  rw [HM.out] at this
  exact this
 have hbe : ∀ w1, Calls Tryz.prog 46 #[.slice (some ad) 0 c, .int .i64 (-1), .string (sB x0)] w1 (IntS w1 0) := fun w1 => behind_any (some ad) c [] (-1) x0 w1 Seen.nil (by decide) (by decide) (by decide) S.right_nil
 rw [hm] at hwr ⊢
 clear hS hB hw hkn hx0 hsplit hfn hm hp hp0 hd
 go_enter Tryz.func21, Tryz.ntmps21
 go_wp2_with fail
 refine hwr.mono ?_
 rintro e w1 ⟨rfl, hb1⟩
 go_wp2_with fail
 refine (hkno _ hb1).mono ?_
 rintro e w2 ⟨n2, hn, rfl, hb2⟩
 obtain rfl : 0 = n2 := HKN.out.symm.trans hn
 rw [HFN.out]
 replace hb1 := bthen hb1 hb2
 clear hb2 hn hwr hkno
 replace hc0 := (hb1.cell (p := ⟨b, o, none⟩) hbB).trans hc0
 go_wp2_with fail
 refine (hbe _).mono ?_
 rintro e w3 ⟨rfl, hb2⟩
 replace hb1 := bthen hb1 hb2
 clear hb2 hc0 hbe
 go_wp2_with fail
 refine (cloneLn_some ad _ 0 [] _ rfl (by omega) Seen.nil).mono ?_
 rintro e w4 ⟨v2, rfl, hown2, hb2⟩
 have HO := Lib.hid (hown2.base hb1.size)
 replace hb1 := bthen hb1 hb2
 clear hb2 hown2
 go_wp2
 go_loopg [11, 56] m (fun g vo vi wr => ∃ k : Nat, Hid (k + g = m) ∧ k ≤ m ∧ Own eL wr w.heap.size vo (T.freshL p 0 k) ∧ vi = .int .i64 k ∧ Below w.heap.size w wr)
 case atStart => exact ⟨0, Nat.zero_add _, Nat.zero_le _, HO.out, rfl, hb1⟩
 case round =>
  obtain ⟨k, HG, hk, hown, rfl, hb⟩ := hrel
  have HW := Lib.hid hown
  have hsz := hb.size
  clear hown
  have HLN := Lib.hid (show (T.freshL p 0 k).length = k by rw [T.freshL_len])
  by_cases hkm : k < m
  ·have bkm : decide ((k : Int) < (m : Int)) = true := decide_eq_true (by omega)
   have hnk : k < p.length := by have := HM.out; omega
   have c1 := (HB.out.belowN hb hbB).str hnk
   obtain ⟨x, hx⟩ : ∃ x, p[k] = x := ⟨_, rfl⟩
   rw [hx] at c1
   have HN := Lib.hid (show T.freshL p 0 k ++ [⟨(k : Int), x, 0⟩] = T.freshL p 0 (k + 1) by
    rw [T.freshL_next]
    congr 1
    rw [← hx]
    unfold List.getD
    rw [Nat.zero_add, List.getElem?_eq_getElem hnk]; rfl)
   clear hx hnk
   have hown := HW.out
   go_wp2_with (at_builtin; refine wpList_appG eL _ rfl (.tmp 61) (.tmp 67) rfl w.heap.size _ (T.freshL p 0 k) rfl hown ⟨(k : Int), x, 0⟩ 1 _ rfl wr.heap.size rfl rfl (by rw [HLN.out]; omega) hsz ?_; intro v3 w3 hown3 hb3)
   have hgk := HG.out
   go_roundg (m - (k + 1))
   case rel => exact ⟨k + 1, (by show _ = _; omega), by omega, HN.out ▸ hown3, by go_num, hb.trans hb3⟩
   case measure => omega
  ·obtain rfl : k = m := by omega
   have bkm : decide ((k : Int) < (k : Int)) = false := decide_eq_false (by omega)
   have hown := HW.out
   go_wp2_with (at_builtin; refine wpList_appSeen eL wr rfl (.tmp 70) (.tmp 73) rfl w.heap.size _ _ rfl hown _ [] 0 _ rfl rfl Seen.nil (by rw [HLN.out]; omega) hsz ?_; intro v5 w5 hown5 hx5)
   go_ret2
   refine ⟨_, rfl, ?_, hb.trans hx5⟩
   have hsp := HSP.out
   rw [HM.out] at hsp
   rw [← hsp]
   exact (List.append_nil (T.freshL p 0 k)) ▸ hown5
end
end Go.Proofs.YtfcikfohmehmkaaGreatDoor
namespace Go.Proofs.YtfcikfohmehmkaaGreatDoor
open Go.RowKit
def AddIs (t : List T.Ln) (p : T.Pth) (u : List T.Ln) (er : Int) : Prop :=
 (u = t ∧ er = 1 ∧ (p = [] ∨ longB p = true ∨ ¬ T.RightT t)) ∨
 ((0 < p.length ∧ longB p = false ∧ T.RightT t) ∧ ((u = t ∧ er = 6 ∧ 16 < p.length) ∨ (p.length ≤ 16 ∧ ((200 < (T.addL t p).length ∧ u = t ∧ er = 5) ∨ ((T.addL t p).length ≤ 200 ∧ u = T.addL t p ∧ er = 0)))))
theorem add_is (t : List T.Ln) (p : T.Pth) : ∃ u er, AddIs t p u er := by
 by_cases h : p = [] ∨ longB p = true ∨ ¬ T.RightT t
 ·exact ⟨t, 1, .inl ⟨rfl, rfl, h⟩⟩
 ·have h1 : 0 < p.length ∧ longB p = false ∧ T.RightT t := by
   refine ⟨List.length_pos_iff.2 fun e => h (.inl e), ?_, Classical.byContradiction fun e => h (.inr (.inr e))⟩
   cases e : longB p with
   | false => rfl
   | true => exact absurd (.inr (.inl e)) h
  by_cases h2 : 16 < p.length
  ·exact ⟨t, 6, .inr ⟨h1, .inl ⟨rfl, rfl, h2⟩⟩⟩
  ·by_cases h3 : (T.addL t p).length ≤ 200
   ·exact ⟨_, 0, .inr ⟨h1, .inr ⟨by omega, .inr ⟨h3, rfl, rfl⟩⟩⟩⟩
   ·exact ⟨t, 5, .inr ⟨h1, .inr ⟨by omega, .inl ⟨by omega, rfl, rfl⟩⟩⟩⟩
theorem longB_of {p : T.Pth} (h : ∀ w ∈ p, w.length ≤ 40) : longB p = false := longB_no fun j hj => decide_eq_false (by have := h _ (List.getElem_mem hj); omega)
theorem AddIs.ok {t : List T.Ln} {p : T.Pth} (h1 : 0 < p.length) (h2 : ∀ w ∈ p, w.length ≤ 40) (h3 : T.RightT t) (h4 : p.length ≤ 16) (h5 : (T.addL t p).length ≤ 200) : AddIs t p (T.addL t p) 0 :=
 .inr ⟨⟨h1, longB_of h2, h3⟩, .inr ⟨h4, .inr ⟨h5, rfl, rfl⟩⟩⟩
theorem lines_add (A B : Option Addr) (c d n m : Nat) (t u : List T.Ln) (p : T.Pth) (er : Int) (w : World) (hn : t.length = n) (hm : p.length = m) (hA : Seen eL w A t) (hB : Seen eS w B p) (hc : NilOk A c) (htc : n ≤ c) (hd : m ≤ d) (hl : n ≤ 1073741824) (hp : m ≤ 1073741824) (h : AddIs t p u er) :
  Calls Tryz.prog 21 #[.slice A n c, .slice B m d] w (AddS w u er) := by
 subst hn; subst hm
 rcases h with ⟨rfl, rfl, hbad⟩ | ⟨⟨h0, hlo, hR⟩, ⟨rfl, rfl, h16⟩ | ⟨h16, hcase⟩⟩
 ·exact addErr_any A B c _ _ d u 1 w rfl hA hl hc (by decide) (wrong_1 A B c d u p w hA hB hl hp hbad)
 ·have hw := wrong_0 A B c d u p w hA hB hl hp h0 hlo hR
  rw [if_pos h16] at hw
  exact addErr_any A B c _ _ d u 6 w rfl hA hl hc (by decide) hw
 ·obtain ⟨b, o, rfl, hb, hH⟩ := hB h0
  have hlong := longB_all hlo
  have hlen := T.add_len hR h16 hlong
  have hle := T.known_le t p p.length
  obtain ⟨n, hn⟩ : ∃ n, T.knownN t p p.length = n := ⟨_, rfl⟩
  rw [hn] at hlen hle
  rcases Nat.eq_or_lt_of_le hle with heq | hlt
  ·have he : T.addL t p = t := T.add_known hR h16 hlong (hn.trans heq)
   have hl2 := hR.len
   rcases hcase with ⟨h5, _, _⟩ | ⟨_, rfl, rfl⟩
   ·rw [he] at h5; omega
   ·rw [he]
    rcases Nat.lt_or_ge n d with hnd | hnd
    ·exact add_all1 b o d t p w A c n hA hc hb hH h0 h16 hnd hlo hR hn heq.symm
    ·exact add_all2 b o d t p w A c n hA hc hb hH h0 h16 (by omega) hlo hR hn heq.symm
  ·rcases hcase with ⟨h5, rfl, rfl⟩ | ⟨h5, rfl, rfl⟩
   ·exact add_long b o d u p w A c n hA hc hb hH h0 h16 hd hlo hR hn hlt (by omega)
   ·obtain ⟨P, hP⟩ : ∃ P, T.placeTo t (p.getD n []) (T.findI t (p.take n) + 1).toNat (T.kidsL t (T.findI t (p.take n))) = P := ⟨_, rfl⟩
    obtain ⟨hPl, hsp⟩ := T.add_placed hR h16 hlong hn hlt hP
    by_cases ht : 0 < t.length
    ·obtain ⟨bt, ot, rfl, hbt, hT⟩ := hA ht
     rcases Nat.lt_or_ge P c with hPc | hPc
     ·exact add_new1 b o d t p w bt ot c n P hbt hT ht htc hb hH h16 hd hlo hR hn hlt hP hPl hsp (by omega) hPc
     ·have e1 : P = t.length := by omega
      have e2 : c = t.length := by omega
      subst e1
      rw [e2]
      exact add_new2 b o d t p w bt ot n hbt hT ht hb hH h16 hd hlo hR hn hlt hP hsp (by omega)
    ·obtain rfl : t = [] := List.eq_nil_of_length_eq_zero (by omega)
     have hkn : ∀ k, T.knownN [] p k = 0 := by
      intro k
      induction k with
      | zero => rfl
      | succ k ih => unfold T.knownN; rw [T.findI_none (fun i hi => by simp at hi), if_pos (by omega)]; exact ih
     have hn0 : n = 0 := by rw [← hn, hkn]
     subst hn0
     have hsp2 : T.freshL p 0 p.length = T.addL [] p := by rw [← hsp, List.take_nil, List.drop_nil]; simp
     cases A with
     | none =>
      obtain rfl := hc rfl
      exact add_emptyN b o d p w hb hH h0 h16 hd hlo hsp2
     | some ad =>
      rcases Nat.eq_zero_or_pos c with rfl | hc0
      ·exact add_emptyZ b o d p w ad hb hH h0 h16 hd hlo hsp2
      ·exact add_emptyS b o d p w ad c hc0 hb hH h0 h16 hd hlo hsp2
set_option linter.unusedVariables false
theorem Own.nilOk {α : Type} {E : Elem α} {w : World} {base n c : Nat} {A : Option Addr} {l : List α} (h : Own E w base (.slice A n c) l) : NilOk A c := by
 rintro rfl
 rcases h.2 with ⟨e, _⟩ | ⟨g, cap, cur, e, _⟩
 ·injection e
 ·injection e with e1; cases e1
theorem cells_mark (t : List T.Ln) : ∀ (i : Nat) (m : Int), i < t.length → (cellsG eL t).set (i * 3 + 2) (.int .i64 m) = cellsG eL (S.setM t i m) := by
 induction t with
 | nil => intro i m h; simp at h
 | cons x t ih =>
  intro i m h
  cases i with
  | zero => rfl
  | succ i =>
   have e1 : cellsG eL (x :: t) = .int .i64 x.depth :: .string (sB x.word) :: .int .i64 x.mark :: cellsG eL t := rfl
   have e2 : S.setM (x :: t) (i + 1) m = x :: S.setM t i m := rfl
   have e3 : cellsG eL (x :: S.setM t i m) = .int .i64 x.depth :: .string (sB x.word) :: .int .i64 x.mark :: cellsG eL (S.setM t i m) := rfl
   rw [e2, e3, ← ih i m (by simpa using h), e1, show (i + 1) * 3 + 2 = (i * 3 + 2) + 1 + 1 + 1 by omega]
   rfl
theorem Own.mark {w : World} {base g n cap : Nat} {t : List T.Ln} (h : Own eL w base (.slice (some ⟨g, 0, none⟩) n cap) t) {i : Nat} (hi : i < t.length) (m : Int) : Own eL (w.setCell ⟨g, i * 3 + 2, none⟩ (.int .i64 m)) base (.slice (some ⟨g, 0, none⟩) n cap) (S.setM t i m) := by
 have hl := S.setM_len t i m
 have hcl := cellsG_len eL t
 have hcl2 := cellsG_len eL (S.setM t i m)
 rcases h.2 with ⟨e, _⟩ | ⟨g2, cap2, cur, e, hbg, hgg, hnc, hcm, hcs, htk⟩
 ·cases e
 ·injection e with e1 e2 e3
  injection e1 with e1
  injection e1 with e1
  subst e1; subst e2; subst e3
  refine ⟨hcl2, .inr ⟨g, cap, cur.setIfInBounds (i * 3 + 2) (.int .i64 m), by rw [hl], hbg, ?_, by rw [hl]; exact hnc, hcm, by rw [Array.size_setIfInBounds]; exact hcs, ?_⟩⟩
  ·simp [World.setCell, Array.getElem?_modify, hgg]
  ·rw [hl, ← cells_mark t i m hi, ← htk, Array.toList_setIfInBounds, List.take_set]
theorem Own.unfrozen {w : World} {base g n cap : Nat} {t : List T.Ln} (h : Own eL w base (.slice (some ⟨g, 0, none⟩) n cap) t) (j : Nat) : w.frozen? ⟨g, j, none⟩ = false ∧ base ≤ g ∧ g < w.heap.size := by
 rcases h.2 with ⟨e, _⟩ | ⟨g2, cap2, cur, e, hbg, hgg, _⟩
 ·cases e
 ·injection e with e1 e2 e3
  injection e1 with e1
  injection e1 with e1
  subst e1
  exact ⟨Lib.frozen_of_heap hgg j, hbg, (Array.getElem?_eq_some_iff.1 hgg).1⟩
structure PtM where
 A : Option Addr
 n : Nat
 c : Nat
structure PtS (w : World) (m : PtM) (x : T.Pth) : Prop where
 len : x.length = m.n
 cap : m.n ≤ m.c
 seen : Seen eS w m.A x
theorem PtS.below {w w1 : World} {m : PtM} {x : T.Pth} (h : PtS w m x) (hb : Below w.heap.size w w1) : PtS w1 m x := ⟨h.len, h.cap, h.seen.below hb⟩
def FreeQ (v : Value) (m : PtM) (x : T.Pth) : Prop := 0 < x.length → ∀ a, m.A = some a → v.ownBlock ≠ some a.block
theorem cells_from {α : Type} {E : Elem α} {w : World} {b q : Nat} {l2 : List α} (hc : Holds E w b q l2) : ∀ j u, (cellsG E l2)[j]? = some u → w.cell? ((⟨b, q, none⟩ : Addr).add j) = some u := by
 intro j u hu
 have hj : j < l2.length * E.sz := by rw [← cellsG_len]; exact (List.getElem?_eq_some_iff.1 hu).1
 have hsz := E.hsz
 have hi : j / E.sz < l2.length := Nat.div_lt_of_lt_mul (by rw [Nat.mul_comm]; exact hj)
 have hr : j % E.sz < E.sz := Nat.mod_lt _ hsz
 have e : j / E.sz * E.sz + j % E.sz = j := by rw [Nat.mul_comm]; exact Nat.div_add_mod j E.sz
 rw [← e, cellsG_at E l2 _ _ hi hr] at hu
 have := hc _ hi _ u hu
 rw [show q + j / E.sz * E.sz + j % E.sz = q + j by omega] at this
 rw [add_off]; exact this
theorem wpList_appSrc3 {α : Type} (E : Elem α) {ops : Array Oper} {rest : List Oper} {o : Oper} {a : Act} {Q : Exit → Act → World → Prop} (w : World) (hgd : o.guard = none) (s x : Operand)
  (ho : o.op = .call { callee := .builtin .append, args := #[s, x], argTypes := #[E.st, E.st] })
  (base : Nat) (v : Value) (l : List α) (hs : a.eval s = v) (hown : Own E w base v l) (b q : Nat) (l2 : List α) (m cap : Nat) (hm : l2.length = m)
  (hx : a.eval x = .slice (some ⟨b, q, none⟩) m cap) (hc : Holds E w b q l2) (hlen : l.length + m ≤ 1099511627776) (hb : base ≤ w.heap.size)
  (h : ∀ v' w', Grew E w w' base v v' (l ++ l2) → wpList Tryz.prog ops Q rest (a.put o.dst v') w') : wpList Tryz.prog ops Q (o :: rest) a w := by
 obtain ⟨i0, hi0, hz0, hz1, hz2⟩ := info_parts E.hin
 subst hm
 have hby := E.hby
 have hmul : (l.length + l2.length) * E.by_ ≤ 1099511627776 * 64 := Nat.mul_le_mul hlen hby
 refine Go.wpList_append_own_at (w := w) hgd s x E.st ho base E.T i0 _ E.sz E.by_ E.hst hi0 hz0 hz1 hz2 E.hzs E.hsz v l.length (cellsG E l) hs hown ⟨b, q, none⟩ l2.length cap (cellsG E l2) hx
  (cellsG_len E l2) (fun j u hu => cells_from hc j u hu) (cellsG_onec E _) (by unfold maxLen; omega) (by omega) hb ?_
 intro v' w' h1 h2 _ h3
 refine h v' w' ⟨?_, ⟨h2.os, h2.tape, h2.output, h2.size, fun k hk hne => h2.block k hk hne⟩, ?_⟩
 ·unfold Own; rw [cellsG_append, List.length_append]; exact h1
 ·rcases h3 with h3 | h3
  ·exact .inl h3
  ·exact .inr ⟨_, h3, Nat.le_refl _⟩
structure PtK (w : World) (k : Nat) (m : PtM) (x : T.Pth) : Prop where
 pt : PtS w m x
 from_ : ∀ a, m.A = some a → k ≤ a.block
theorem PtK.below {w w1 : World} {k : Nat} {m : PtM} {x : T.Pth} (h : PtK w k m x) (hb : Below w.heap.size w w1) : PtK w1 k m x := ⟨h.pt.below hb, h.from_⟩
theorem PtK.less {w : World} {k j : Nat} {m : PtM} {x : T.Pth} (h : PtK w k m x) (hj : j ≤ k) : PtK w j m x := ⟨h.pt, fun a ha => Nat.le_trans hj (h.from_ a ha)⟩
theorem with_own (v : Value) (p : T.Pth) (wd : List UInt8) (w : World) (h : VecAt eS w v p) (hp : p.length ≤ 1073741824) :
  Calls Tryz.prog 66 #[v, .string (sB wd)] w (fun e w' => ∃ v2, e = .returned v2 ∧ Own eS w' w.heap.size v2 (p ++ [wd]) ∧ Below w.heap.size w w') := by
 rcases h with ⟨rfl, rfl⟩ | ⟨b, o, c, rfl, hc, hb, hH⟩
 ·go_enter Tryz.func66, Tryz.ntmps66
  go_wp2_with (first | (at_builtin; refine wpList_appNone eS w rfl (.tmp 6) (.tmp 7) rfl w.heap.size (.slice none 0 0) [] rfl (Own.nil _ _) rfl ?_) | (at_builtin; refine wpList_appG eS w rfl (.tmp 9) (.tmp 11) rfl w.heap.size (.slice none 0 0) [] rfl (Own.nil _ _) wd 1 #[.string (sB wd)] rfl w.heap.size rfl rfl (by simp) (Nat.le_refl _) ?_; intro v2 w2 hown2 hb2))
  go_ret
  exact ⟨v2, rfl, hown2, hb2⟩
 ·go_enter Tryz.func66, Tryz.ntmps66
  go_wp2_with (first | (at_builtin; refine wpList_appSrc eS w rfl (.tmp 6) (.tmp 7) rfl w.heap.size (.slice none 0 0) [] rfl (Own.nil _ _) b o p p.length c rfl rfl hH (by simp; omega) (Nat.le_refl _) ?_; intro v1 w1 hown1 hb1; have hs1 := hb1.size) | (at_builtin; refine wpList_appG eS w1 rfl (.tmp 9) (.tmp 11) rfl w.heap.size v1 ([] ++ p) rfl hown1 wd 1 #[.string (sB wd)] rfl w1.heap.size rfl rfl (by simp; omega) hs1 ?_; intro v2 w2 hown2 hb2))
  go_ret
  exact ⟨v2, rfl, by rw [List.nil_append] at hown2; exact hown2, hb1.trans hb2⟩
theorem own_pt {w : World} {k : Nat} {v : Value} {x : T.Pth} (h : Own eS w k v x) : ∃ A c, v = .slice A x.length c ∧ PtK w k ⟨A, x.length, c⟩ x := by
 obtain ⟨A, c, rfl, hc, hs⟩ := h.seen
 refine ⟨A, c, rfl, ⟨rfl, hc, hs⟩, fun a ha => ?_⟩
 have ha : A = some a := ha
 subst ha
 rcases h.2 with ⟨e, _⟩ | ⟨g, cap, cur, e, hb, _⟩
 ·injection e with e; cases e
 ·injection e with e _ _
  injection e with e
  rw [e]
  exact hb
def G12 (w w' : World) (v v' : Value) : Prop := w.heap.size ≤ w'.heap.size ∧ (∀ b, b < w.heap.size → v.ownBlock ≠ some b → w'.heap[b]? = w.heap[b]?) ∧ ∀ b, v'.ownBlock = some b → v.ownBlock = some b ∨ w.heap.size ≤ b
structure Side12 (k : Nat) (w w1 : World) (v : Value) : Prop where
 wide : w.heap.size ≤ w1.heap.size
 same : ∀ b, k ≤ b → b < w.heap.size → w1.heap[b]? = w.heap[b]?
 away : ∀ b, v.ownBlock = some b → b < k ∨ w.heap.size ≤ b
theorem side_grow {k : Nat} {w w1 w2 : World} {v : Value} (h : Side12 k w w1 v) (hb : Below w1.heap.size w1 w2) : Side12 k w w2 v :=
 ⟨Nat.le_trans h.wide hb.size, fun b h1 h2 => (hb.block b (Nat.lt_of_lt_of_le h2 h.wide)).trans (h.same b h1 h2), h.away⟩
theorem side_app {k : Nat} {w w1 w2 : World} {v v2 : Value} (h : Side12 k w w1 v) (hg : G12 w1 w2 v v2) : Side12 k w w2 v2 := by
 obtain ⟨g1, g2, g3⟩ := hg
 refine ⟨Nat.le_trans h.wide g1, fun b h1 h2 => (g2 b (Nat.lt_of_lt_of_le h2 h.wide) (fun e => ?_)).trans (h.same b h1 h2), fun b e => ?_⟩
 ·rcases h.away b e with h3 | h3 <;> omega
 ·rcases g3 b e with h3 | h3
  ·exact h.away b h3
  ·have := h.wide; right; omega
theorem side_seen {α : Type} {E : Elem α} {k : Nat} {w w1 : World} {v : Value} {A : Option Addr} {l : List α} (h : Side12 k w w1 v) (hs : Seen E w A l) (hA : ∀ a, A = some a → k ≤ a.block) : Seen E w1 A l := by
 intro hl
 obtain ⟨b, o, e, hb, hH⟩ := hs hl
 exact ⟨b, o, e, Nat.lt_of_lt_of_le hb h.wide, holds_of_block hH (h.same b (hA _ e) hb)⟩
theorem wpList_appS {α : Type} (E : Elem α) {ops : Array Oper} {rest : List Oper} {o : Oper} {a : Act} {Q : Exit → Act → World → Prop} (w : World) (hgd : o.guard = none) (s x : Operand)
  (ho : o.op = .call { callee := .builtin .append, args := #[s, x], argTypes := #[E.st, E.st] })
  (base : Nat) (v : Value) (l : List α) (hs : a.eval s = v) (hown : Own E w base v l) (t : α) (cap : Nat) (cs : Array Value) (hcs : cs.toList = E.C t)
  (g : Nat) (hg : w.heap.size = g) (hx : a.eval x = .slice (some ⟨g, 0, none⟩) 1 cap) (hlen : l.length + 1 ≤ 1099511627776) (hb : base ≤ w.heap.size)
  (h : ∀ v' w', Own E w' base v' (l ++ [t]) → Below base w w' → G12 w w' v v' → wpList Tryz.prog ops Q rest (a.put o.dst v') w') : wpList Tryz.prog ops Q (o :: rest) a (w.alloc (.cells cs E.T)) := by
 refine wpList_app3 E w hgd s x ho base v l hs hown t cap cs hcs g hg hx hlen hb fun v' w' hG => h v' w' hG.own (hG.below hown hb) ⟨hG.grown.size, fun b hb hne => hG.grown.block b hb (fun e => hne e.symm), fun b e => ?_⟩
 rcases hG.at_ with h | ⟨g, h, h4⟩
 ·left; rw [← h]; exact e
 ·right; rw [h] at e; injection e with e; omega
theorem wpList_appM {α : Type} (E : Elem α) {ops : Array Oper} {rest : List Oper} {o : Oper} {a : Act} {Q : Exit → Act → World → Prop} (w : World) (hgd : o.guard = none) (s x : Operand)
  (ho : o.op = .call { callee := .builtin .append, args := #[s, x], argTypes := #[E.st, E.st] })
  (base : Nat) (v : Value) (l : List α) (hs : a.eval s = v) (hown : Own E w base v l) (v2 : Value) (l2 : List α) (hx : a.eval x = v2) (h2 : VecAt E w v2 l2) (hlen : l.length + l2.length ≤ 1099511627776) (hb : base ≤ w.heap.size)
  (h : ∀ v' w', Own E w' base v' (l ++ l2) → Below base w w' → G12 w w' v v' → wpList Tryz.prog ops Q rest (a.put o.dst v') w') : wpList Tryz.prog ops Q (o :: rest) a w := by
 rcases h2 with ⟨rfl, rfl⟩ | ⟨b, q, c, rfl, hc, hbw, hH⟩
 ·refine wpList_appNone E w hgd s x ho base v l hs hown hx ?_
  exact h v w (by rw [List.append_nil]; exact hown) (Below.refl _ _) ⟨Nat.le_refl _, fun _ _ _ => rfl, fun b e => .inl e⟩
 ·refine wpList_appSrc3 E w hgd s x ho base v l hs hown b q l2 l2.length c rfl hx hH hlen hb fun v' w' hG => h v' w' hG.own (hG.below hown hb) ⟨hG.grown.size, fun b hb hne => hG.grown.block b hb (fun e => hne e.symm), fun b e => ?_⟩
  rcases hG.at_ with h | ⟨g, h, h4⟩
  ·left; rw [← h]; exact e
  ·right; rw [h] at e; injection e with e; omega
theorem side_start {α : Type} {E : Elem α} {k base : Nat} {w0 w : World} {v : Value} {l : List α} (h : Own E w0 base v l) (hk : w0.heap.size ≤ k) : Side12 k w w v := ⟨Nat.le_refl _, fun _ _ _ => rfl, fun b e => .inl (Nat.lt_of_lt_of_le (h.lt b e).2 hk)⟩
def enC (x : H.En) : List Value := [.string (sB x.host), .int .i64 x.kind, .string (sB x.key), .string (sB x.val)]
def enV (x : H.En) : Value := .agg #[.string (sB x.host), .int .i64 x.kind, .string (sB x.key), .string (sB x.val)]
def zeroEn : Value := .agg #[.string ⟨#[]⟩, .int .i64 0, .string ⟨#[]⟩, .string ⟨#[]⟩]
theorem enC_one (x : H.En) (u : Value) (hu : u ∈ enC x) : u.oneCell' = true := by
 simp [enC] at hu
 rcases hu with rfl | rfl | rfl | rfl <;> rfl
def eEd : Elem H.En where
 st := 29
 T := 36
 sz := 4
 zero := zeroEn
 by_ := 56
 C := enC
 hst := Tryz.underlying29
 hin := by kernel_rfl
 hzs := rfl
 hsz := by decide
 hby := by decide
 len := fun _ => rfl
 one := enC_one
def eEc : Elem H.En where
 st := 25
 T := 35
 sz := 4
 zero := zeroEn
 by_ := 56
 C := enC
 hst := Tryz.underlying25
 hin := by kernel_rfl
 hzs := rfl
 hsz := by decide
 hby := by decide
 len := fun _ => rfl
 one := enC_one
theorem Holds.entry {E : Elem H.En} (hz : E.sz = 4) (hC : E.C = enC) {w : World} {b o : Nat} {l : List H.En} (h : Holds E w b o l) {i : Nat} (hi : i < l.length) :
  w.cell? ⟨b, o + i * 4, none⟩ = some (.string (sB l[i].host)) ∧ w.cell? ⟨b, o + i * 4 + 1, none⟩ = some (.int .i64 l[i].kind) ∧ w.cell? ⟨b, o + i * 4 + 2, none⟩ = some (.string (sB l[i].key)) ∧ w.cell? ⟨b, o + i * 4 + 3, none⟩ = some (.string (sB l[i].val)) := by
 have e : ∀ j u, (enC l[i])[j]? = some u → w.cell? ⟨b, o + i * 4 + j, none⟩ = some u := fun j u hu => by
  have := h i hi j u (by rw [hC]; exact hu)
  rw [hz] at this
  exact this
 exact ⟨e 0 _ rfl, e 1 _ rfl, e 2 _ rfl, e 3 _ rfl⟩
end Go.Proofs.YtfcikfohmehmkaaGreatDoor
namespace Go.Proofs.YtfcikfohmehmkaaGreatDoor
open Go.ChangeShapes Go.WideShapes Go.ChangeAt Go.RowKit
set_option linter.unusedVariables false
structure EntAt (w : World) (g : Nat) (a : List UInt8) (k : Int) (b d : List UInt8) : Prop where
 host0 : w.cell? ⟨g, 0, none⟩ = some (.string (sB a))
 kind0 : w.cell? ⟨g, 1, none⟩ = some (.int .i64 k)
 key0 : w.cell? ⟨g, 2, none⟩ = some (.string (sB b))
 val0 : w.cell? ⟨g, 3, none⟩ = some (.string (sB d))
 low0 : g < w.heap.size
theorem ent_laid (w : World) (a : List UInt8) (k : Int) (b d : List UInt8) : EntAt (w.alloc (.cells #[.string (sB a), .int .i64 k, .string (sB b), .string (sB d)] 35)) w.heap.size a k b d :=
 ⟨World.cell?_alloc_mark w _ _ (0, 0) 0, World.cell?_alloc_mark w _ _ (0, 0) 1, World.cell?_alloc_mark w _ _ (0, 0) 2, World.cell?_alloc_mark w _ _ (0, 0) 3, by simp⟩
theorem ent_below {w w1 : World} {g : Nat} {a : List UInt8} {k : Int} {b d : List UInt8} (h : EntAt w g a k b d) (hb : Below w.heap.size w w1) : EntAt w1 g a k b d :=
 ⟨(hb.cell (p := ⟨g, 0, none⟩) h.low0).trans h.host0, (hb.cell (p := ⟨g, 1, none⟩) h.low0).trans h.kind0, (hb.cell (p := ⟨g, 2, none⟩) h.low0).trans h.key0, (hb.cell (p := ⟨g, 3, none⟩) h.low0).trans h.val0, Nat.lt_of_lt_of_le h.low0 hb.size⟩
theorem drew_below (w : World) (q : Nat) : Below w.heap.size w (w.drewN q) := by
 have h := Below.refl w.heap.size w
 exact ⟨h.os, h.tape, h.output, h.size, h.block⟩
theorem lit_at14 (w : World) (l : List (List UInt8)) (cs : Array Value) (g : Nat) (hg : w.heap.size = g) (h : cs.toList = cellsG eS l) (hl : l.length ≤ 1000) : Seen eS (w.alloc (.cells cs eS.T)) (some ⟨g, 0, none⟩) l := by
 subst hg; exact lit_seen eS w l cs h hl
theorem EntAt.cells {w : World} {g : Nat} {a : List UInt8} {k : Int} {b d : List UInt8} (h : EntAt w g a k b d) : w.cell? ⟨g, 0, none⟩ = some (.string (sB a)) ∧ w.cell? ⟨g, 1, none⟩ = some (.int .i64 k) ∧ w.cell? ⟨g, 2, none⟩ = some (.string (sB b)) ∧ w.cell? ⟨g, 3, none⟩ = some (.string (sB d)) := ⟨h.host0, h.kind0, h.key0, h.val0⟩
theorem wpList_appL15 {ops : Array Oper} {rest : List Oper} {o : Oper} {a : Act} {Q : Exit → Act → World → Prop} (w : World) (hgd : o.guard = none) (s x : Operand)
  (ho : o.op = .call { callee := .builtin .append, args := #[s, x], argTypes := #[eEc.st, eEc.st] })
  (base : Nat) (v : Value) (l0 : List H.En) (hs : a.eval s = v) (hown : Own eEc w base v l0) (A : Option Addr) (n c : Nat) (l : List H.En) (hn : l.length = n) (hN : NilOk A c) (hA : Seen eEc w A l) (hx : a.eval x = .slice A n c) (hlen : l0.length + n ≤ 1099511627776) (hb : base ≤ w.heap.size)
  (h : ∀ v' w', Own eEc w' base v' (l0 ++ l) → Below base w w' → wpList Tryz.prog ops Q rest (a.put o.dst v') w') : wpList Tryz.prog ops Q (o :: rest) a w := by
 cases A with
 | none =>
  have h0 : l = [] := by
   cases l with
   | nil => rfl
   | cons y r => obtain ⟨b, o, e, _⟩ := hA (by simp); cases e
  subst h0
  obtain rfl : n = 0 := hn.symm
  obtain rfl := hN rfl
  refine wpList_appNone eEc w hgd s x ho base v l0 hs hown hx ?_
  exact h v w (by rw [List.append_nil]; exact hown) (Below.refl _ _)
 | some ad => exact wpList_appSeen eEc w hgd s x ho base v l0 hs hown ad l n c hn hx hA hlen hb h
end Go.Proofs.YtfcikfohmehmkaaGreatDoor
