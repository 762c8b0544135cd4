/-
  Faults in memory (a path and a number): what a slice of them holds, one of the call's own, and what append does to it. Condition: at most 2^40 elements.
  Layer 13: what schema does, as one premise (SchemaOk). Condition: at most 200 lines; words of at most 100 bytes; paths of at most 40 words; the code's table of statements holds what it was laid with (RowsOk).
  Contracts of layer 6's begins, bit and size (lines): how many tokens a command takes, or where it cannot go on. Condition: at most 2^30 tokens. Contract of layer 6's do (lines): a command, done: the tree, or the error; what lies below a number is as it was. Condition: a tree, a command's words. Contract of layer 6's Read (lines): what the commands of any text say. Condition: at most 2^30 bytes.
  The fixed answer 'awake' of layer 6's statements: it returns true; below the heap's size at the call the world is as it was. No conditions.
  Layer 14: what host does, as one premise (HostOk); 'awake'. Conditions: at most 200 lines, 60 entries of words of at most 100 bytes.
  slices.SortFunc at entries, by any function that compares them as the document does: the entries in order. Condition: at most 2^30 entries.
  What the library proves once of strings.Compare, at this program's numbers. No conditions.
  Contract of the code's Compare: which of two entries stands ahead. No conditions.
  Contracts of slices.Clone and slices.Compact at entries of the call's own, and of the code's Set. Condition: at most 2^30 entries.
-/
import Derived.Test.YtfcikfohmehmkaaGreatDoorBase8
import Derived.Lib.SmallJoins
import Derived.StillTailTactics
import Derived.RegionTactic
import Derived.WalkMore
import Derived.Deep.LoopGhost
import Derived.Shelf.SlSortCmp.NoneTotal
import Derived.Shelf.Small.Strs
import Derived.Laws.IdiomCopy

namespace Go.Proofs.YtfcikfohmehmkaaGreatDoor
open Go.RowKit
set_option linter.unusedVariables false

/-- A fault, as its cells have it. -/
abbrev FlM := PtM × Int
abbrev Fl := T.Pth × Int
def flC (x : FlM) : List Value := [.slice x.1.A x.1.n x.1.c, .int .i64 x.2]
theorem flC_one (x : FlM) (u : Value) (hu : u ∈ flC x) : u.oneCell' = true := by
  simp [flC] at hu
  rcases hu with rfl | rfl <;> rfl
/-- The document's. -/
def eFd : Elem FlM where
  st := 62
  T := 102
  sz := 2
  zero := .agg #[.slice none 0 0, .int .i64 0]
  by_ := 32
  C := flC
  hst := Tryz.underlying62
  hin := by kernel_rfl
  hzs := rfl
  hsz := by decide
  hby := by decide
  len := fun _ => rfl
  one := flC_one
/-- The code's. -/
def eFc : Elem FlM where
  st := 55
  T := 91
  sz := 2
  zero := .agg #[.slice none 0 0, .int .i64 0]
  by_ := 32
  C := flC
  hst := Tryz.underlying55
  hin := by kernel_rfl
  hzs := rfl
  hsz := by decide
  hby := by decide
  len := fun _ => rfl
  one := flC_one
structure FlK (w : World) (k : Nat) (m : FlM) (x : Fl) : Prop where
  pt : PtK w k m.1 x.1
  num : m.2 = x.2
theorem FlK.below {w w1 : World} {k : Nat} {m : FlM} {x : Fl} (h : FlK w k m x) (hb : Below w.heap.size w w1) : FlK w1 k m x := ⟨h.pt.below hb, h.num⟩
theorem FlK.less {w : World} {k j : Nat} {m : FlM} {x : Fl} (h : FlK w k m x) (hj : j ≤ k) : FlK w j m x := ⟨h.pt.less hj, h.num⟩
/-- A slice value that reads as these faults, each path at an address from block k on. -/
def ManyF (E : Elem FlM) (w : World) (k : Nat) (v : Value) (L : List Fl) : Prop := ∃ M : List FlM, M.length = L.length ∧ VecAt E w v M ∧ ∀ i (h1 : i < M.length) (h2 : i < L.length), FlK w k M[i] L[i]
theorem ManyF.nil (E : Elem FlM) (w : World) (k : Nat) : ManyF E w k (.slice none 0 0) [] := ⟨[], rfl, VecAt.nil _ _, fun i h => absurd h (Nat.not_lt_zero i)⟩
/-- A slice value owns these faults; their paths lie elsewhere, from block k on. -/
def OwnF (E : Elem FlM) (w : World) (base k : Nat) (v : Value) (L : List Fl) : Prop := ∃ M : List FlM, M.length = L.length ∧ Own E w base v M ∧ ∀ i (h1 : i < M.length) (h2 : i < L.length), FlK w k M[i] L[i] ∧ FreeQ v M[i].1 L[i].1
theorem OwnF.nil (E : Elem FlM) (w : World) (base k : Nat) : OwnF E w base k (.slice none 0 0) [] := ⟨[], rfl, Own.nil _ _, fun i h => absurd h (Nat.not_lt_zero i)⟩
theorem OwnF.keep {E : Elem FlM} {w w1 : World} {base k : Nat} {v : Value} {L : List Fl} (h : OwnF E w base k v L) (hb : Below w.heap.size w w1) : OwnF E w1 base k v L := by
  obtain ⟨M, h1, h2, h3⟩ := h
  exact ⟨M, h1, h2.keep hb, fun i h4 h5 => ⟨(h3 i h4 h5).1.below hb, (h3 i h4 h5).2⟩⟩
theorem OwnF.flMany {E : Elem FlM} {w : World} {base k : Nat} {v : Value} {L : List Fl} (h : OwnF E w base k v L) : ManyF E w k v L := by
  obtain ⟨M, h1, h2, h3⟩ := h
  exact ⟨M, h1, VecAt.own h2, fun i h4 h5 => (h3 i h4 h5).1⟩
theorem OwnF.flBlock {E : Elem FlM} {w : World} {base k : Nat} {v : Value} {L : List Fl} (h : OwnF E w base k v L) : ∀ b, v.ownBlock = some b → base ≤ b ∧ b < w.heap.size := by
  obtain ⟨M, _, h2, _⟩ := h
  exact h2.lt
theorem OwnF.snoc {E : Elem FlM} {w w' : World} {base k : Nat} {v v' : Value} {M : List FlM} {L : List Fl} {m : FlM} {x : Fl} (hl : M.length = L.length) (he : ∀ i (h1 : i < M.length) (h2 : i < L.length), FlK w k M[i] L[i] ∧ FreeQ v M[i].1 L[i].1)
    (hx : FlK w k m x) (hf : FreeQ v m.1 x.1) (hg : Grew E w w' base v v' (M ++ [m])) : OwnF E w' base k v' (L ++ [x]) := by
  have step : ∀ (m : FlM) (x : Fl), FlK w k m x → FreeQ v m.1 x.1 → FlK w' k m x ∧ FreeQ v' m.1 x.1 := by
    intro m x hx hf
    refine ⟨⟨⟨⟨hx.pt.pt.len, hx.pt.pt.cap, fun hp => ?_⟩, hx.pt.from_⟩, hx.num⟩, fun hp a ha e => ?_⟩
    · obtain ⟨b, o, e, hb, hH⟩ := hx.pt.pt.seen hp
      have hne := hf hp _ e
      exact ⟨b, o, e, Nat.lt_of_lt_of_le hb hg.grown.size, holds_of_block hH (hg.grown.block b hb (fun e => hne e.symm))⟩
    · obtain ⟨b, o, e2, hb, _⟩ := hx.pt.pt.seen hp
      have hne := hf hp a ha
      have eb : a.block = b := by rw [e2] at ha; injection ha with ha; rw [← ha]
      rcases hg.at_ with h | ⟨g, h, h4⟩
      · rw [h] at e; exact hne e
      · rw [h] at e; injection e with e; omega
  refine ⟨M ++ [m], by rw [List.length_append, List.length_append, hl]; rfl, hg.own, fun i h1 h2 => ?_⟩
  rw [List.length_append, List.length_singleton] at h1
  by_cases hi : i < M.length
  · rw [List.getElem_append_left hi, List.getElem_append_left (by omega)]
    exact step _ _ (he i hi (by omega)).1 (he i hi (by omega)).2
  · obtain rfl : i = M.length := by omega
    have e1 : (M ++ [m])[M.length]'(by simp) = m := by simp
    have e2 : (L ++ [x])[M.length]'(by rw [List.length_append, hl]; simp) = x := by simp [hl]
    rw [e1, e2]
    exact step _ _ hx hf
/-- append of one fault. -/
theorem wpList_appF (E : Elem FlM) {ops : Array Oper} {rest : List Oper} {o : Oper} {a : Act} {Q : Exit → Act → World → Prop} (w : World) (hgd : o.guard = none) (s x : Operand)
    (ho : o.op = .call { callee := .builtin .append, args := #[s, x], argTypes := #[E.st, E.st] })
    (base k : Nat) (v : Value) (L : List Fl) (hs : a.eval s = v) (hown : OwnF E w base k v L) (y : Fl) (m : FlM) (hy : FlK w k m y) (hf : FreeQ v m.1 y.1) (cap : Nat) (cs : Array Value) (hcs : cs.toList = E.C m)
    (g : Nat) (hg : w.heap.size = g) (hx : a.eval x = .slice (some ⟨g, 0, none⟩) 1 cap) (hlen : L.length + 1 ≤ 1099511627776) (hb : base ≤ w.heap.size)
    (h : ∀ v' w', OwnF E w' base k v' (L ++ [y]) → Below base w w' → wpList Tryz.prog ops Q rest (a.put o.dst v') w') : wpList Tryz.prog ops Q (o :: rest) a (w.alloc (.cells cs E.T)) := by
  obtain ⟨M, h1, h2, h3⟩ := hown
  exact wpList_app3 E w hgd s x ho base v M hs h2 m cap cs hcs g hg hx (by omega) hb fun v' w' hG => h v' w' (OwnF.snoc h1 h3 hy hf hG) (hG.below h2 hb)
end Go.Proofs.YtfcikfohmehmkaaGreatDoor

namespace Go.Proofs.YtfcikfohmehmkaaGreatDoor
open Go.RowKit
set_option linter.unusedVariables false

/-- Lines that are handed over. -/
structure LArgS (w : World) (A : Option Addr) (c n : Nat) (t : List T.Ln) : Prop where
  len : t.length = n
  most : n ≤ 200
  cap : n ≤ c
  nil : NilOk A c
  seen : Seen eL w A t
theorem LArgS.below {w w1 : World} {A : Option Addr} {c n : Nat} {t : List T.Ln} (h : LArgS w A c n t) (hb : Below w.heap.size w w1) : LArgS w1 A c n t := ⟨h.len, h.most, h.cap, h.nil, h.seen.below hb⟩
theorem LArgS.small {w : World} {A : Option Addr} {c n : Nat} {t : List T.Ln} (h : LArgS w A c n t) : n ≤ 1073741824 := by have := h.most; omega
def CheckIs (t : List T.Ln) (L : List Fl) (er : Int) : Prop := (T.RightT t ∧ L = C.checkP (C.pths t) ∧ er = 0) ∨ (¬ T.RightT t ∧ L = [] ∧ er = 1)
/-- What a line of a path needs. -/
def needsL (p : T.Pth) : List C.Wd := match p with
  | [a, b] => if C.secondW a ≠ [] ∧ C.knownP [a, b] = 0 then C.needsW a else []
  | _ => []
/-- The code's table of statements: a row's first path, the type behind it, whether it holds one, whether it is needed. -/
def rowsL : List (C.Wd × C.Wd × Bool × Bool) := [([104, 111, 115, 116, 115], C.kName, false, false), ([104, 111, 115, 116, 115, 32, 36, 110, 97, 109, 101, 32, 105, 112], C.kIp, true, true), ([104, 111, 115, 116, 115, 32, 36, 110, 97, 109, 101, 32, 109, 97, 99], C.kMac, true, false), ([104, 111, 115, 116, 115, 32, 36, 110, 97, 109, 101, 32, 118, 110, 105, 115], C.kVni, false, false), ([118, 110, 105, 115], C.kVni, false, false), ([118, 110, 105, 115, 32, 36, 118, 110, 105, 32, 115, 117, 98, 110, 101, 116], C.kPrefix, true, true), ([98, 105, 110, 100, 105, 110, 103, 115], C.kIp, false, false), ([98, 105, 110, 100, 105, 110, 103, 115, 32, 36, 105, 112, 32, 104, 111, 115, 116], C.kName, true, true), ([98, 105, 110, 100, 105, 110, 103, 115, 32, 36, 105, 112, 32, 109, 97, 99], C.kMac, true, true), ([98, 105, 110, 100, 105, 110, 103, 115, 32, 36, 105, 112, 32, 118, 110, 105], C.kVni, true, true), ([114, 111, 117, 116, 101, 115], C.kPrefix, false, false), ([114, 111, 117, 116, 101, 115, 32, 36, 112, 114, 101, 102, 105, 120, 32, 118, 105, 97], C.kName, true, true), ([114, 111, 117, 116, 101, 115, 32, 36, 112, 114, 101, 102, 105, 120, 32, 109, 101, 116, 114, 105, 99], C.kMetric, true, false), ([112, 111, 108, 105, 99, 121], C.kNum, false, false), ([112, 111, 108, 105, 99, 121, 32, 36, 110, 117, 109, 32, 97, 99, 116, 105, 111, 110], C.kAction, true, true), ([112, 111, 108, 105, 99, 121, 32, 36, 110, 117, 109, 32, 102, 114, 111, 109], C.kPrefix, true, false), ([112, 111, 108, 105, 99, 121, 32, 36, 110, 117, 109, 32, 116, 111], C.kPrefix, true, false)]
def rowV (r : C.Wd × C.Wd × Bool × Bool) : List Value := [.string (sB r.1), .string (sB r.2.1), .bool r.2.2.1, .bool r.2.2.2]
/-- The code's table holds what it was laid with. -/
def RowsOk (w : World) : Prop := w.var? Tryz.prog "ferryslip/schema.rows" = some (rowsL.flatMap rowV).toArray
theorem RowsOk.below {w w1 : World} (h : RowsOk w) (hb : Below w.heap.size w w1) : RowsOk w1 := Go.Joins.var_stays (g := 1) (by kernel_rfl) h hb (Nat.le_refl _)
theorem rowsAt {w w1 : World} (h : Hid (RowsOk w)) (hb : Below w.heap.size w w1) : RowsOk w1 := h.out.below hb
theorem below_drawn13 {B : Nat} {a w : World} (h : Below B a w) (q : Nat) : Below B a (w.drewN q) := ⟨h.os, h.tape, h.output, h.size, h.block⟩
end Go.Proofs.YtfcikfohmehmkaaGreatDoor

namespace Go.Proofs.YtfcikfohmehmkaaGreatDoor
open Go.RowKit
set_option linter.unusedVariables false

def eT : Elem W.Tok where
  st := 79
  T := 86
  sz := 4
  zero := zeroTok
  by_ := 40
  C := tokC
  hst := Tryz.underlying79
  hin := by kernel_rfl
  hzs := rfl
  hsz := by decide
  hby := by decide
  len := fun _ => rfl
  one := fun x u hu => by simp [tokC] at hu; rcases hu with rfl | rfl | rfl | rfl <;> rfl
theorem Holds.tok {w : World} {b o : Nat} {l : List W.Tok} (h : Holds eT w b o l) {i : Nat} (hi : i < l.length) {kd : Int} {pos : Nat} {wd : List UInt8} {bt : Int} (ht : l[i] = ⟨kd, pos, wd, bt⟩) :
    w.cell? ⟨b, o + i * 4, none⟩ = some (.int .i64 kd) ∧ w.cell? ⟨b, o + i * 4 + 1, none⟩ = some (.int .i64 (pos : Int)) ∧ w.cell? ⟨b, o + i * 4 + 2, none⟩ = some (.string (sB wd)) ∧ w.cell? ⟨b, o + i * 4 + 3, none⟩ = some (.int .i64 bt) := by
  refine ⟨h i hi 0 _ ?_, h i hi 1 _ ?_, h i hi 2 _ ?_, h i hi 3 _ ?_⟩ <;> rw [ht] <;> rfl
theorem OwnT.elem {w : World} {base : Nat} {v : Value} {l : List W.Tok} (h : OwnT 86 w base v l) : Own eT w base v l := h

theorem verbQ (x v : List UInt8) (y : Bool) (h : decide (x = v) = y) : ((sB x).toList == v) = y := by
  rw [sB_toList, ← h, Bool.eq_iff_iff]; simp
theorem begins_any' (x : List UInt8) (w : World) : Calls Tryz.prog 80 #[.string (sB x)] w (fun e w' => e = .returned (.bool (S.beginsB x)) ∧ w = w') := by
  cases h1 : decide (x = S.setW) with
  | true =>
    have q1 : ((sB x).toList == [115, 101, 116]) = true := verbQ x S.setW true h1
    have e : S.beginsB x = true := decide_eq_true (.inl (of_decide_eq_true h1))
    rw [e]
    clear h1 e
    go_enter Tryz.func80, Tryz.ntmps80
    go_wp2
    go_ret
    exact ⟨rfl, rfl⟩
  | false =>
    have q1 : ((sB x).toList == [115, 101, 116]) = false := verbQ x S.setW false h1
    cases h2 : decide (x = S.deW) with
    | true =>
      have q2 : ((sB x).toList == [100, 101, 97, 99, 116, 105, 118, 97, 116, 101]) = true := verbQ x S.deW true h2
      have e : S.beginsB x = true := decide_eq_true (.inr (.inl (of_decide_eq_true h2)))
      rw [e]
      clear h1 h2 e
      go_enter Tryz.func80, Tryz.ntmps80
      go_wp2
      go_ret
      exact ⟨rfl, rfl⟩
    | false =>
      have q2 : ((sB x).toList == [100, 101, 97, 99, 116, 105, 118, 97, 116, 101]) = false := verbQ x S.deW false h2
      cases h3 : decide (x = S.prW) with
      | true =>
        have q3 : ((sB x).toList == [112, 114, 111, 116, 101, 99, 116]) = true := verbQ x S.prW true h3
        have e : S.beginsB x = true := decide_eq_true (.inr (.inr (of_decide_eq_true h3)))
        rw [e]
        clear h1 h2 h3 e
        go_enter Tryz.func80, Tryz.ntmps80
        go_wp2
        go_ret
        exact ⟨rfl, rfl⟩
      | false =>
        have q3 : ((sB x).toList == [112, 114, 111, 116, 101, 99, 116]) = false := verbQ x S.prW false h3
        have e : S.beginsB x = false := decide_eq_false fun h => h.elim (of_decide_eq_false h1) fun h => h.elim (of_decide_eq_false h2) (of_decide_eq_false h3)
        rw [e]
        clear h1 h2 h3 e
        go_enter Tryz.func80, Tryz.ntmps80
        go_wp2
        go_ret
        exact ⟨rfl, rfl⟩
theorem bit_any (x : List UInt8) (w : World) : Calls Tryz.prog 81 #[.string (sB x)] w (fun e w' => e = .returned (.int .i64 (S.bitOf x)) ∧ w' = w) := by
  cases h2 : decide (x = S.deW) with
  | true =>
    have q2 : ((sB x).toList == [100, 101, 97, 99, 116, 105, 118, 97, 116, 101]) = true := verbQ x S.deW true h2
    have e : S.bitOf x = 1 := if_pos (of_decide_eq_true h2)
    rw [e]
    clear h2 e
    go_enter Tryz.func81, Tryz.ntmps81
    go_wp2
    go_ret
    exact ⟨rfl, rfl⟩
  | false =>
    have q2 : ((sB x).toList == [100, 101, 97, 99, 116, 105, 118, 97, 116, 101]) = false := verbQ x S.deW false h2
    have e : S.bitOf x = 2 := if_neg (of_decide_eq_false h2)
    rw [e]
    clear h2 e
    go_enter Tryz.func81, Tryz.ntmps81
    go_wp2
    go_ret
    exact ⟨rfl, rfl⟩

/-- What size leaves. -/
def SizeS (w : World) (r : Nat ⊕ (Nat × Int)) (e : Ending) (w' : World) : Prop :=
  (match r with | .inl m => e = .returned (.tuple #[.int .i64 (m : Int), .int .i64 0, .int .i64 0]) | .inr x => e = .returned (.tuple #[.int .i64 0, .int .i64 (x.1 : Int), .int .i64 x.2])) ∧ Below w.heap.size w w'
theorem size_at (n k : Nat) (l : List W.Tok) (hk : k < l.length) {kd : Int} {ps : Nat} {wo : List UInt8} {bt : Int} (ht : l[k] = ⟨kd, ps, wo, bt⟩) : S.sizeT n k (l.drop k) = if kd = 4 ∧ 1 < k then .inl (k + 1) else if kd ≠ 1 ∨ (k = 0 ∧ S.beginsB wo = false) then .inr (ps, 2) else if 16 < k then .inr (ps, 6) else S.sizeT n (k + 1) (l.drop (k + 1)) := by
  rw [List.drop_eq_getElem_cons hk, ht]; rfl
set_option maxRecDepth 100000 in
set_option maxHeartbeats 4000000 in
theorem size_any (A : Option Addr) (cap : Nat) (l : List W.Tok) (n : Nat) (r : Nat ⊕ (Nat × Int)) (w : World) (hA : Seen eT w A l) (hl : l.length ≤ 1073741824) (hr : S.sizeT n 0 l = r) :
    Calls Tryz.prog 50 #[.slice A l.length cap, .int .i64 (n : Int)] w (SizeS w r) := by
  have HA := Lib.hid hA
  have HR := Lib.hid hr
  clear hA hr
  go_enter Tryz.func50, Tryz.ntmps50
  go_wp2
  go_loopg [11] l.length (fun gk x wr => ∃ k : Nat, Hid (k + gk = l.length) ∧ k ≤ l.length ∧ x = .int .i64 k ∧ Hid (S.sizeT n k (l.drop k) = r) ∧ Below w.heap.size w wr)
  case atStart => exact ⟨0, Nat.zero_add _, Nat.zero_le _, rfl, HR, Below.refl _ _⟩
  case round =>
    obtain ⟨k, HG, hk, rfl, HI, hb⟩ := hrel
    by_cases hlt : k < l.length
    · have blt : decide ((k : Int) < (l.length : Int)) = true := decide_eq_true (by omega)
      obtain ⟨g, o, rfl, hgw, hL⟩ := HA.out (by omega)
      obtain ⟨⟨kd, ps, wo, bt⟩, ht⟩ : ∃ x, l[k] = x := ⟨_, rfl⟩
      obtain ⟨d0, d1, d2, d3⟩ := (hL.below hb hgw).tok hlt ht
      have hn := HI.out
      rw [size_at n k l hlt ht] at hn
      have hbz := hb.alloc hb.size (.cells #[.int .i64 kd, .int .i64 (ps : Int), .string (sB wo), .int .i64 bt] 86)
      have HBZ := Lib.hid hbz
      clear hL ht hbz
      by_cases h4 : kd = 4
      · subst h4
        by_cases h1 : 1 < k
        · have c1 : decide ((1 : Int) < (k : Int)) = true := decide_eq_true (by omega)
          have c2 : decide (1 < k) = true := decide_eq_true h1
          rw [if_pos ⟨rfl, h1⟩] at hn
          have HN := Lib.hid hn.symm
          clear hn h1
          go_wp2
          go_ret3
          rw [HN.out]
          exact ⟨rfl, HBZ.out⟩
        · have c1 : decide ((1 : Int) < (k : Int)) = false := decide_eq_false (by omega)
          have c2 : decide (1 < k) = false := decide_eq_false h1
          rw [if_neg (fun h => h1 h.2), if_pos (.inl (by decide))] at hn
          have HN := Lib.hid hn.symm
          clear hn h1
          go_wp2
          go_region
          go_wp2
          go_ret3
          rw [HN.out]
          exact ⟨rfl, HBZ.out.drew⟩
      · have e4 : (kd == 4) = false := beq_eq_false_iff_ne.2 h4
        rw [if_neg (fun h => h4 h.1)] at hn
        by_cases h1 : kd = 1
        · subst h1
          by_cases h0 : k = 0
          · have c0 : ((k : Int) == 0) = true := beq_iff_eq.2 (by omega)
            have c00 : (k == 0) = true := beq_iff_eq.2 h0
            have c16 : decide ((16 : Int) < (k : Int)) = false := decide_eq_false (by omega)
            have c17 : decide (16 < k) = false := decide_eq_false (by omega)
            have hbg := begins_any' wo
            cases hbe : S.beginsB wo with
            | false =>
              rw [hbe] at hn hbg
              rw [if_pos (.inr ⟨h0, rfl⟩)] at hn
              have HN := Lib.hid hn.symm
              clear hn hbe h4 h0
              go_wp2_with (refine (hbg _).mono ?_; rintro e w' ⟨rfl, rfl⟩)
              go_region
              go_wp2
              go_ret3
              rw [HN.out]
              exact ⟨rfl, HBZ.out.drew⟩
            | true =>
              rw [hbe] at hn hbg
              rw [if_neg (by simp), if_neg (by omega)] at hn
              have HN := Lib.hid hn
              clear hn hbe h4 h0
              go_wp2_with (refine (hbg _).mono ?_; rintro e w' ⟨rfl, rfl⟩)
              have hgk := HG.out
              go_roundg (l.length - (k + 1))
              case rel => exact ⟨k + 1, (by show _ = _; omega), by omega, by go_num, HN, HBZ.out⟩
              case measure => omega
          · have c0 : ((k : Int) == 0) = false := beq_eq_false_iff_ne.2 (by omega)
            have c00 : (k == 0) = false := beq_eq_false_iff_ne.2 h0
            rw [if_neg (by rintro (h | ⟨h, _⟩) <;> omega)] at hn
            by_cases h16 : 16 < k
            · have c1 : decide ((16 : Int) < (k : Int)) = true := decide_eq_true (by omega)
              have c2 : decide (16 < k) = true := decide_eq_true h16
              rw [if_pos h16] at hn
              have HN := Lib.hid hn.symm
              clear hn h4 h0 h16
              go_wp2
              go_region
              go_wp2
              go_ret3
              rw [HN.out]
              exact ⟨rfl, HBZ.out.drew⟩
            · have c1 : decide ((16 : Int) < (k : Int)) = false := decide_eq_false (by omega)
              have c2 : decide (16 < k) = false := decide_eq_false h16
              rw [if_neg h16] at hn
              have HN := Lib.hid hn
              clear hn h4 h0 h16
              go_wp2
              have hgk := HG.out
              go_roundg (l.length - (k + 1))
              case rel => exact ⟨k + 1, (by show _ = _; omega), by omega, by go_num, HN, HBZ.out⟩
              case measure => omega
        · have e1 : (kd == 1) = false := beq_eq_false_iff_ne.2 h1
          have e2 : (kd != 1) = true := bne_iff_ne.2 h1
          rw [if_pos (.inl h1)] at hn
          have HN := Lib.hid hn.symm
          clear hn h4 h1
          go_wp2
          go_region
          go_wp2
          go_ret3
          rw [HN.out]
          exact ⟨rfl, HBZ.out.drew⟩
    · have hn := HI.out
      rw [List.drop_eq_nil_of_le (by omega)] at hn
      have HN := Lib.hid (show r = .inr (n, 2) from hn.symm)
      clear hn
      go_wp2
      go_ret3
      rw [HN.out]
      exact ⟨rfl, hb⟩
end Go.Proofs.YtfcikfohmehmkaaGreatDoor

namespace Go.Proofs.YtfcikfohmehmkaaGreatDoor
open Go.RowKit
set_option linter.unusedVariables false

/-- What do leaves. -/
def DoS (base : Nat) (w : World) (r : List T.Ln ⊕ Int) (e : Ending) (w' : World) : Prop :=
  (match r with | .inr er => ∃ v, e = .returned (.tuple #[v, .int .i64 er]) | .inl u => ∃ v, e = .returned (.tuple #[v, .int .i64 0]) ∧ Own eL w' base v u) ∧ Below base w w'
theorem or_mark {m b : Int} (hm : m = 0 ∨ m = 1 ∨ m = 2 ∨ m = 3) (hb : b = 1 ∨ b = 2) : bits BinOp.or IntKind.i64 m b = S.orM m b := by
  rcases hm with rfl | rfl | rfl | rfl <;> rcases hb with rfl | rfl <;> decide +kernel

set_option maxRecDepth 100000 in
set_option maxHeartbeats 4000000 in
theorem do_any (base g o cap n : Nat) (v : Value) (t : List T.Ln) (k : W.Tok) (rest : List W.Tok) (r : List T.Ln ⊕ Int) (w : World) (hown : Own eL w base v t) (hbase : base ≤ w.heap.size) (hg : g < base) (hW : Holds eT w g o (k :: rest)) (hn : rest.length + 1 = n) (hcap : n ≤ cap)
    (hgood : S.GoodC (k.word, rest.map W.Tok.word)) (hR : T.RightT t) (hr : S.doT t k.word (rest.map W.Tok.word) = r) :
    Calls Tryz.prog 51 #[v, .slice (some ⟨g, o, none⟩) n cap] w (DoS base w r) := by
  obtain ⟨kd0, ps0, verb, bt0⟩ := k
  obtain ⟨p, hp⟩ : ∃ p, rest.map W.Tok.word = p := ⟨_, rfl⟩
  simp only at hgood hr
  rw [hp] at hgood hr
  have hpl : p.length = rest.length := by rw [← hp, List.length_map]
  have hp0 : 0 < p.length := List.length_pos_iff.2 hgood.ne
  have hp16 : p.length ≤ 16 := hgood.deep
  have hp40 : ∀ x ∈ p, x.length ≤ 40 := hgood.long
  obtain ⟨q, hq⟩ : ∃ q, rest.length = q := ⟨_, rfl⟩
  have hnq : n - 1 = q := by omega
  have hn1 : 1 ≤ n := by omega
  have hn2 : 1 < n := by omega
  have hc1 : 1 < cap := by omega
  have hn1i : (1 : Int) ≤ (n : Int) := by omega
  have hc1i : (1 : Int) ≤ (cap : Int) := by omega
  have hgw : g < w.heap.size := by omega
  have HW2 : Hid (Holds eT w g (o + 4) rest) := Lib.hid (hW.drop 1)
  have c2 : w.cell? ⟨g, o + 2, none⟩ = some (.string (sB verb)) := by
    have := (hW.tok (i := 0) (by simp) rfl).2.2.1
    rw [Nat.zero_mul, Nat.add_zero] at this
    exact this
  have HC2 := Lib.hid c2
  have HPQ := Lib.hid (show p.length = q by omega)
  have HQ := Lib.hid hq
  have HPE := Lib.hid hp
  have HOWN := Lib.hid hown
  obtain ⟨At, ct, e, htc, hsA⟩ := hown.seen
  subst e
  have HA := Lib.hid hsA
  have HR := Lib.hid hR
  have HP40 := Lib.hid hp40
  have hl200 : t.length ≤ 200 := hR.len
  have hq16 : q ≤ 16 := by omega
  have hq0 : 0 < q := by omega
  have HRR := Lib.hid hr
  have HVB := Lib.hid (S.verb_cases hgood.verb)
  have hqi : ((n - 1 : Nat) : Int) = (q : Int) := by omega
  clear hown hW hgood hR hr hp hpl hp0 hp16 hp40 hq hsA c2 hn
  go_enter Tryz.func51, Tryz.ntmps51
  go_wp2
  go_loopg [6, 14] q (fun gk vp vi wr => ∃ j : Nat, Hid (j + gk = q) ∧ j ≤ q ∧ Hid (Own eS wr w.heap.size vp (p.take j)) ∧ vi = .int .i64 j ∧ Below w.heap.size w wr)
  case atStart => exact ⟨0, Nat.zero_add _, Nat.zero_le _, Own.nil _ _, rfl, Below.refl _ _⟩
  case round =>
    obtain ⟨j, HG, hj, HOj, rfl, hb⟩ := hrel
    by_cases hlt : j < q
    · have blt : decide ((j : Int) < (q : Int)) = true := decide_eq_true (by omega)
      have hjr : j < rest.length := by have := HQ.out; omega
      obtain ⟨⟨kd, ps, wo, bt⟩, ht⟩ : ∃ x, rest[j] = x := ⟨_, rfl⟩
      obtain ⟨d0, d1, d2, d3⟩ := (HW2.out.belowN hb hgw).tok hjr ht
      have hjp : j < p.length := by have := HPQ.out; omega
      have HN := Lib.hid (show p.take (j + 1) = p.take j ++ [wo] by
        have h1 : p[j] = wo := by
          have h2 : p[j]? = some wo := by rw [← HPE.out, List.getElem?_map, List.getElem?_eq_getElem hjr, ht]; rfl
          rw [List.getElem?_eq_getElem hjp] at h2
          exact Option.some.inj h2
        rw [List.take_succ_eq_append_getElem hjp, h1])
      have HLN := Lib.hid (show (p.take j).length = j by rw [List.length_take]; omega)
      have hsz := hb.size
      have hownj := HOj.out.alloc (.cells #[.int .i64 kd, .int .i64 (ps : Int), .string (sB wo), .int .i64 bt] 86)
      have HOW := Lib.hid hownj
      have HBA := Lib.hid (hb.alloc hb.size (.cells #[.int .i64 kd, .int .i64 (ps : Int), .string (sB wo), .int .i64 bt] 86))
      clear ht hjr hjp hownj
      go_wp2_with (at_builtin; refine wpList_appG eS (wr.alloc (.cells #[.int .i64 kd, .int .i64 (ps : Int), .string (sB wo), .int .i64 bt] 86)) rfl (.tmp 18) (.tmp 21) rfl w.heap.size u6 (p.take j) rfl HOW.out wo 1 _ rfl (wr.heap.size + 1) (by simp) rfl (by rw [HLN.out]; omega) (by simp; omega) ?_; intro v3 w3 hown3 hb3)
      have hgk := HG.out
      have HB4 := Lib.hid (HBA.out.trans hb3)
      go_roundg (q - (j + 1))
      case rel => exact ⟨j + 1, (by show _ = _; omega), by omega, (by show Own _ _ _ _ _; rw [HN.out]; exact hown3), by go_num, HB4.out⟩
      case measure => omega
    · have blt : decide ((j : Int) < (q : Int)) = false := decide_eq_false (by omega)
      have hjo : j = q := by omega
      have HO5 := Lib.hid (show Own eS wr w.heap.size u6 p by have := HOj.out; rwa [List.take_of_length_le (by have := HPQ.out; omega)] at this)
      obtain ⟨Bp, cp, e, hcp, hsB⟩ := HO5.out.seen
      have HSB := Lib.hid hsB
      have HOW := Lib.hid (HOWN.out.keep hb)
      have HA5 := Lib.hid (HA.out.below hb)
      have c2 := (hb.cell (p := ⟨g, o + 2, none⟩) hgw).trans HC2.out
      have hplq := HPQ.out
      rw [hplq] at e hcp
      subst e
      have HBB := Lib.hid hb
      clear hsB HOj HG hjo hb
      cases hset : decide (verb = S.setW) with
      | true =>
        have q1 : ((sB verb).toList == [115, 101, 116]) = true := verbQ verb S.setW true hset
        have hr := HRR.out
        unfold S.doT at hr
        rw [if_pos (of_decide_eq_true hset)] at hr
        clear hset
        by_cases h200 : (T.addL t p).length ≤ 200
        · rw [if_pos h200] at hr
          have HN := Lib.hid hr.symm
          have HAI := Lib.hid (AddIs.ok (by omega) HP40.out HR.out (by omega) h200)
          clear hr h200 hplq
          go_wp2_with fail
          refine (lines_add At Bp ct cp t.length q t _ p 0 _ rfl HPQ.out HA5.out HSB.out HOW.out.nilOk htc hcp (by omega) (by omega) HAI.out).mono ?_
          rintro e w5 ⟨v5, rfl, hown5, hb5⟩
          have HO5 := Lib.hid (hown5.base (Nat.le_trans hbase HBB.out.size))
          have HB5 := Lib.hid ((bthen HBB.out hb5).mono hbase)
          clear hown5 hb5
          go_wp2
          go_ret2
          rw [HN.out]
          exact ⟨⟨v5, rfl, HO5.out⟩, HB5.out⟩
        · rw [if_neg h200] at hr
          have HN := Lib.hid hr.symm
          have HAI := Lib.hid (show AddIs t p t 5 from .inr ⟨⟨by omega, longB_of HP40.out, HR.out⟩, .inr ⟨by omega, .inl ⟨by omega, rfl, rfl⟩⟩⟩)
          clear hr h200 hplq
          go_wp2_with fail
          refine (lines_add At Bp ct cp t.length q t _ p 5 _ rfl HPQ.out HA5.out HSB.out HOW.out.nilOk htc hcp (by omega) (by omega) HAI.out).mono ?_
          rintro e w5 ⟨v5, rfl, hown5, hb5⟩
          have HB5 := Lib.hid ((bthen HBB.out hb5).mono hbase)
          clear hown5 hb5
          go_wp2
          go_ret2
          rw [HN.out]
          exact ⟨⟨v5, rfl⟩, HB5.out⟩
      | false =>
        have q1 : ((sB verb).toList == [115, 101, 116]) = false := verbQ verb S.setW false hset
        have hr := HRR.out
        unfold S.doT at hr
        rw [if_neg (of_decide_eq_false hset)] at hr
        have HRN := Lib.hid hr
        clear hset hr hplq
        go_wp2_with fail
        refine (findN_any At Bp ct cp q t p _ HPQ.out HA5.out HSB.out (by omega) (by omega) HR.out).mono ?_
        rintro e w5 ⟨hcase, hb5⟩
        have HB5 := Lib.hid (bthen HBB.out hb5)
        have HO6 := Lib.hid (HOW.out.keep hb5)
        replace c2 := (hb5.cell (p := ⟨g, o + 2, none⟩) (show g < wr.heap.size by have := HBB.out.size; omega)).trans c2
        clear hb5 HBB HOW
        rcases hcase with ⟨i, hi, hpi, rfl⟩ | ⟨hno, rfl⟩
        · have hr := HRN.out
          rw [T.findI_some HR.out hi hpi, if_neg (by simp), Int.toNat_natCast] at hr
          obtain ⟨m, hm⟩ : ∃ m, (T.at_ t i).mark = m := ⟨_, rfl⟩
          rw [hm] at hr
          have hm03 := HR.out.mark i hi
          rw [hm] at hm03
          have HN := Lib.hid hr.symm
          have hit : (i : Int) < (t.length : Int) := by omega
          obtain ⟨tg, e, hbt, htg, hhT⟩ := HO6.out.block (by omega)
          subst e
          obtain ⟨_, _, e2⟩ := hhT.line hi
          rw [hm, Nat.zero_add] at e2
          obtain ⟨hfz, _, _⟩ := HO6.out.unfrozen (i * 3 + 2)
          have HM4 := Lib.hid (show m = 0 ∨ m = 1 ∨ m = 2 ∨ m = 3 by omega)
          have hor := or_mark HM4.out (S.bit_two verb)
          have HOR := Lib.hid (or_mark HM4.out (S.bit_two verb))
          have HBT := Lib.hid hbt
          clear hr hm hm03 hhT hpi hbt
          go_wp2
          have hn0 : 0 < n := by omega
          have hn0i : (0 : Int) < (n : Int) := by omega
          go_still_tail 13, (by kernel_rfl)
          still_call (bit_any verb _)
          repeat still_step
          refine wpStill_nil ?_
          change wpList _ _ _ _ _ w5.drew
          go_wp2
          go_ret2
          rw [HN.out]
          have hsm := HO6.out.drew.mark hi (S.orM m (S.bitOf verb))
          exact ⟨⟨_, rfl, hsm⟩, (HB5.out.mono hbase).drew.setCell HBT.out _⟩
        · have hr := HRN.out
          rw [T.findI_none hno, if_pos (by omega)] at hr
          have HN := Lib.hid hr.symm
          clear hr hno
          go_wp2
          go_ret2
          rw [HN.out]
          exact ⟨⟨_, rfl⟩, HB5.out.mono hbase⟩
end Go.Proofs.YtfcikfohmehmkaaGreatDoor

namespace Go.Proofs.YtfcikfohmehmkaaGreatDoor
open Go.RowKit
set_option linter.unusedVariables false

/-- What Read leaves. -/
def ReadS (w : World) (r : S.RRes) (e : Ending) (w' : World) : Prop :=
  (match r with | .bad p er => e = .returned (.tuple #[.slice none 0 0, .int .i64 (p : Int), .int .i64 er]) | .ok t => ∃ v, e = .returned (.tuple #[v, .int .i64 0, .int .i64 0]) ∧ Own eL w' w.heap.size v t) ∧ Below w.heap.size w w'
theorem size_err (n : Nat) : ∀ (l : List W.Tok) (i : Nat) (x : Nat × Int), S.sizeT n i l = .inr x → x.2 ≠ 0 := by
  intro l
  induction l with
  | nil => intro i x hx; unfold S.sizeT at hx; injection hx with hx; rw [← hx]; simp
  | cons y l ih =>
    intro i x hx
    unfold S.sizeT at hx
    split at hx
    · cases hx
    · split at hx
      · injection hx with hx; rw [← hx]; simp
      · split at hx
        · injection hx with hx; rw [← hx]; simp
        · exact ih _ _ hx
theorem do_err {t : List T.Ln} {v : List UInt8} {p : T.Pth} {e : Int} (h : S.doT t v p = .inr e) : e ≠ 0 := by
  unfold S.doT at h
  split at h
  · split at h
    · cases h
    · injection h with h; omega
  · split at h
    · injection h with h; omega
    · cases h
theorem readF_nil (n f : Nat) (t : List T.Ln) : S.readF n f t [] = .ok t := by cases f <;> rfl
theorem sizeN_any (A : Option Addr) (cap : Nat) (l : List W.Tok) (n m : Nat) (r : Nat ⊕ (Nat × Int)) (w : World) (hm : l.length = m) (hA : Seen eT w A l) (hl : m ≤ 1073741824) (hr : S.sizeT n 0 l = r) :
    Calls Tryz.prog 50 #[.slice A m cap, .int .i64 (n : Int)] w (SizeS w r) := by subst hm; exact size_any A cap l n r w hA hl hr

set_option maxRecDepth 100000 in
set_option maxHeartbeats 4000000 in
theorem read_any (s : ByteArray) (w : World) (r : S.RRes) (hs : s.size ≤ 1073741824) (hr : S.readL s.data.toList = r) :
    Calls Tryz.prog 25 #[.string s] w (ReadS w r) := by
  have hall := all_any s w hs
  have hsl : s.data.toList.length = s.size := by simp
  unfold S.readL at hr
  rw [hsl] at hr
  cases hlx : W.lexL 0 s.data.toList with
  | bad p er =>
    rw [hlx] at hr hall
    have hne := (W.bad_lt s.data.toList 0 p er hlx).2.2
    have b0 : (er != 0) = true := bne_iff_ne.2 hne
    have HN := Lib.hid hr.symm
    clear hr hlx hne hsl
    go_enter Tryz.func25, Tryz.ntmps25
    go_wp2_with fail
    refine hall.mono ?_
    rintro e w1 ⟨v, rfl, _, hb1⟩
    simp only [W.Res.place, W.Res.err]
    clear hall
    go_wp2
    go_ret3
    rw [HN.out]
    exact ⟨rfl, hb1⟩
  | ok a =>
    rw [hlx] at hr hall
    have HGA := Lib.hid (W.lexL_good s.data.toList 0 a hlx)
    have hal : a.length ≤ s.size := by have := W.lexL_len s.data.toList 0 a hlx; omega
    have HR := Lib.hid hr
    clear hr hlx hsl
    go_enter Tryz.func25, Tryz.ntmps25
    go_wp2_with fail
    refine hall.mono ?_
    rintro e w1 ⟨v, rfl, hot, hb1⟩
    simp only [W.Res.place, W.Res.err, W.Res.toks] at hot ⊢
    obtain ⟨B0, c0, e, hc0, hs0⟩ := (OwnT.elem hot).seen
    subst e
    have HS0 := Lib.hid hs0
    have HB1 := Lib.hid hb1
    clear hall hot hs0 hb1
    go_wp2
    go_loopg [5, 8] a.length (fun gk vl vt wr => ∃ (l : List W.Tok) (B : Option Addr) (c : Nat) (t : List T.Ln) (f : Nat), vl = .slice B gk c ∧ Hid (l.length = gk) ∧ gk ≤ c ∧ gk ≤ a.length ∧ Hid (Seen eT w1 B l) ∧ Hid (∀ x ∈ l, W.GoodTok x) ∧ Hid (Own eL wr w1.heap.size vt t) ∧ Hid (T.RightT t) ∧ Hid (S.readF s.size f t l = r) ∧ gk ≤ f ∧ Below w1.heap.size w1 wr)
    case atStart => exact ⟨a, B0, c0, [], a.length, rfl, rfl, hc0, Nat.le_refl _, HS0, HGA, Own.nil _ _, S.right_nil, HR, Nat.le_refl _, Below.refl _ _⟩
    case round =>
      obtain ⟨l, B, c, t, f, rfl, HLN, hgc, hga, HS, HG, HO, HRT, HRF, hgf, hb⟩ := hrel
      by_cases h0 : gk = 0
      · have hl0 : l = [] := List.eq_nil_of_length_eq_zero (by rw [HLN.out]; exact h0)
        have HN := Lib.hid (show r = .ok t by have := HRF.out; rw [hl0, readF_nil] at this; exact this.symm)
        have hgg : decide ((0 : Int) < (gk : Int)) = false := decide_eq_false (by omega)
        have hgg2 : decide (0 < gk) = false := decide_eq_false (by omega)
        clear hl0
        go_wp2
        go_ret3
        rw [HN.out]
        exact ⟨⟨u8, rfl, HO.out.base HB1.out.size⟩, HB1.out.trans (hb.mono HB1.out.size)⟩
      · have hgg : decide ((0 : Int) < (gk : Int)) = true := decide_eq_true (by omega)
        have hgg2 : decide (0 < gk) = true := decide_eq_true (by omega)
        obtain ⟨g, o, rfl, hgw, hH⟩ := HS.out (by rw [HLN.out]; omega)
        have HH := Lib.hid hH
        obtain ⟨k, l', hl⟩ : ∃ k l', l = k :: l' := by
          cases l with
          | nil => have := HLN.out; simp at this; omega
          | cons k l' => exact ⟨k, l', rfl⟩
        obtain ⟨f', hf⟩ : ∃ f', f = f' + 1 := ⟨f - 1, by omega⟩
        subst hl
        subst hf
        have hrf := HRF.out
        unfold S.readF at hrf
        have hSr := HS.out.below hb
        obtain ⟨sz, hsz⟩ : ∃ sz, S.sizeT s.size 0 (k :: l') = sz := ⟨_, rfl⟩
        rw [hsz] at hrf
        have hcall := sizeN_any (some ⟨g, o, none⟩) c (k :: l') s.size gk sz wr HLN.out hSr (by omega) hsz
        cases sz with
        | inr x =>
          have b1 : (x.2 != 0) = true := bne_iff_ne.2 (size_err _ _ _ _ hsz)
          have HN := Lib.hid (show r = .bad x.1 x.2 from hrf.symm)
          clear hrf hsz hSr hH
          go_wp2_with fail
          refine hcall.mono ?_
          rintro e w2 ⟨rfl, hx⟩
          have HX := Lib.hid (hb.trans (hx.mono hb.size))
          clear hcall hx
          go_wp2
          go_ret3
          rw [HN.out]
          exact ⟨rfl, HB1.out.trans (HX.out.mono HB1.out.size)⟩
        | inl m =>
          obtain ⟨p, rr, e1, hgc2, e3⟩ := S.size_cmd_back s.size HG.out hsz
          obtain ⟨_, hpo, _⟩ := S.size_cmd s.size (k.word, p) (k :: l') rr hgc2 e1
          have hlen : (k :: l').length = p.length + 2 + rr.length := by
            have := congrArg List.length e1
            simp only [List.length_map, List.length_append, S.cmdK, List.length_cons, List.length_nil] at this ⊢
            omega
          subst e3
          have hpo2 : S.pathOf (k :: l') (p.length + 2) = p := hpo
          obtain ⟨q, hq⟩ : ∃ q, p.length = q := ⟨_, rfl⟩
          rw [hq] at hlen hpo2 hrf hcall
          have hqg : q + 2 ≤ gk := by rw [HLN.out] at hlen; omega
          have hq16 : q ≤ 16 := by have h16 : p.length ≤ 16 := hgc2.deep; omega
          simp only at hrf
          rw [hpo2] at hrf
          have hpw : (l'.take q).map W.Tok.word = p := by rw [← hpo2]; rfl
          have HGC := Lib.hid (show S.GoodC (k.word, (l'.take q).map W.Tok.word) by rw [hpw]; exact hgc2)
          have HPW := Lib.hid hpw
          have HW2 := Lib.hid (show Holds eT w1 g o (k :: l'.take q) from hH.take (q + 1))
          have HQL := Lib.hid (show (l'.take q).length + 1 = q + 1 by rw [List.length_take]; have := HLN.out; rw [List.length_cons] at this; omega)
          obtain ⟨dr, hdr⟩ : ∃ dr, S.doT t k.word p = dr := ⟨_, rfl⟩
          rw [hdr] at hrf
          have HDR := Lib.hid (show S.doT t k.word ((l'.take q).map W.Tok.word) = dr by rw [hpw]; exact hdr)
          have HDE := Lib.hid hdr
          have HRR := Lib.hid hrf
          have hq1c : q + 1 ≤ c := by omega
          have hq1ci : (q : Int) + 1 ≤ (c : Int) := by omega
          have hq2ci : (q : Int) + 2 ≤ (gk : Int) := by omega
          have hq2c : q + 2 ≤ c := by omega
          clear hrf hsz hSr hH e1 hgc2 hpo hpo2 hlen hpw hdr hq
          go_wp2_with fail
          refine hcall.mono ?_
          rintro e w2 ⟨rfl, hx⟩
          have HX := Lib.hid (hb.trans (hx.mono hb.size))
          have HO2 := Lib.hid (HO.out.keep hx)
          clear hcall hx
          go_wp2_with fail
          refine (do_any w1.heap.size g o c (q + 1) _ t k (l'.take q) dr _ HO2.out HX.out.size hgw (HW2.out.belowN HX.out hgw) HQL.out hq1c HGC.out HRT.out HDR.out).mono ?_
          rintro e w3 ⟨hd, hx3⟩
          have HX3 := Lib.hid (HX.out.trans hx3)
          clear hx3
          cases dr with
          | inr er =>
            obtain ⟨v3, rfl⟩ := hd
            have b2 : (er != 0) = true := bne_iff_ne.2 (do_err HDE.out)
            obtain ⟨kd, ps, wo, bt⟩ := k
            have HN := Lib.hid (show r = .bad ps er from HRR.out.symm)
            obtain ⟨d0, d1, d2, d3⟩ := (HH.out.belowN HX3.out hgw).tok (i := 0) (by simp) rfl
            rw [Nat.zero_mul, Nat.add_zero] at d0 d1 d2 d3
            have hgk0 : 0 < gk := by omega
            have hgk0i : (0 : Int) < (gk : Int) := by omega
            go_wp2
            go_region
            go_wp2
            go_ret3
            rw [HN.out]
            exact ⟨rfl, (HB1.out.trans (HX3.out.mono HB1.out.size)).drew⟩
          | inl u =>
            obtain ⟨v3, rfl, hown3⟩ := hd
            have HO3 := Lib.hid hown3
            have HRU := Lib.hid (show T.RightT u from S.do_right HRT.out HGC.out HDR.out)
            have HDL := Lib.hid (show ((k :: l').drop (q + 2)).length = gk - (q + 2) by rw [List.length_drop, HLN.out])
            have HGD := Lib.hid (show ∀ x ∈ (k :: l').drop (q + 2), W.GoodTok x from fun x hx => HG.out x (List.mem_of_mem_drop hx))
            have HSD := Lib.hid (show Seen eT w1 (some ⟨g, o + (q + 2) * 4, none⟩) ((k :: l').drop (q + 2)) from (HH.out.drop (q + 2)).seen hgw)
            have HSE := Lib.hid (show q + 2 = c → Seen eT w1 (some ⟨g, o, none⟩) ((k :: l').drop (q + 2)) from fun e => by
              rw [List.drop_eq_nil_of_le (by rw [HLN.out]; omega)]; exact Seen.nil)
            clear hown3
            rcases Nat.lt_or_ge (q + 2) c with hqc | hqc
            · go_wp2
              go_roundg (gk - (q + 2))
              case rel => exact ⟨_, _, _, u, f', by first | rfl | (congr 1; omega), HDL, by omega, by omega, HSD, HGD, HO3, HRU, HRR, by omega, HX3.out⟩
              case measure => omega
            · have hce : q + 2 = c := by omega
              have HSE2 := Lib.hid (HSE.out hce)
              have hgk : gk = q + 2 := by omega
              subst hce
              clear HSE
              go_wp2
              go_roundg (gk - (q + 2))
              case rel => exact ⟨_, _, _, u, f', by first | rfl | (congr 1; omega), HDL, by omega, by omega, HSE2, HGD, HO3, HRU, HRR, by omega, HX3.out⟩
              case measure => omega
end Go.Proofs.YtfcikfohmehmkaaGreatDoor

namespace Go.Proofs.YtfcikfohmehmkaaGreatDoor
open Go.RowKit
set_option linter.unusedVariables false

theorem lread_ok (s : ByteArray) (t : List T.Ln) (n : Nat) (w : World) (hs : s.size ≤ 1073741824) (h : S.readL s.data.toList = .ok t) (hn : t.length = n) :
    Calls Tryz.prog 25 #[.string s] w (fun e w' => ∃ A cap, e = .returned (.tuple #[.slice A n cap, .int .i64 0, .int .i64 0]) ∧ n ≤ cap ∧ Own eL w' w.heap.size (.slice A n cap) t ∧ Below w.heap.size w w') :=
  (read_any s w _ hs h).mono fun e w' ⟨⟨v, he, ho⟩, hb⟩ => by
    subst hn
    obtain ⟨A, cap, rfl, hc, _⟩ := ho.seen
    exact ⟨A, cap, he, hc, ho, hb⟩
theorem Own.view {α : Type} {E : Elem α} {w : World} {base n cap : Nat} {A : Option Addr} {l : List α} (h : Own E w base (.slice A n cap) l) : Seen E w A l := by
  obtain ⟨A2, cap2, e, _, hs⟩ := h.seen
  injection e with e1
  subst e1
  exact hs

end Go.Proofs.YtfcikfohmehmkaaGreatDoor

namespace Go.Proofs.YtfcikfohmehmkaaGreatDoor
open Go.RowKit
open F
set_option linter.unusedVariables false
set_option linter.unusedSimpArgs false

/-- An entry of words of at most 100 bytes. -/
def FitE (x : H.En) : Prop := x.host.length ≤ 100 ∧ x.key.length ≤ 100 ∧ x.val.length ≤ 100
instance (x : H.En) : Decidable (FitE x) := by unfold FitE; infer_instance
def H.cmpE (x y : H.En) : Int := if H.aheadE x y = true then -1 else if H.aheadE y x = true then 1 else 0
def CompIs (t : List T.Ln) (L : List H.En) (er : Int) : Prop := (T.RightT t ∧ C.checkP (C.pths t) = [] ∧ L = H.tablesL t ∧ er = 0) ∨ (T.RightT t ∧ C.checkP (C.pths t) ≠ [] ∧ L = [] ∧ er = 7) ∨ (¬ T.RightT t ∧ L = [] ∧ er = 1)
theorem comp_ex (t : List T.Ln) : ∃ L er, CompIs t L er := by
  by_cases h : T.RightT t
  · by_cases h2 : C.checkP (C.pths t) = []
    · exact ⟨_, _, .inl ⟨h, h2, rfl, rfl⟩⟩
    · exact ⟨_, _, .inr (.inl ⟨h, h2, rfl, rfl⟩)⟩
  · exact ⟨_, _, .inr (.inr ⟨h, rfl, rfl⟩)⟩
/-- What host does. -/
structure HostOk : Prop where
  compareOf : ∀ (x y : H.En) (r : Int) (w : World), FitE x → FitE y → H.cmpE x y = r → Calls Tryz.prog 19 #[enV x, enV y] w (fun e w' => e = .returned (.int .i64 r) ∧ Below w.heap.size w w')
  setOf : ∀ (A : Option Addr) (c n m : Nat) (l : List H.En) (w : World), l.length = n → n ≤ 60 → n ≤ c → (∀ x ∈ l, FitE x) → Seen eEc w A l → (H.setE l).length = m → Calls Tryz.prog 17 #[.slice A n c] w (fun e w' => ∃ B d, e = .returned (.slice B m d) ∧ m ≤ d ∧ Seen eEc w' B (H.setE l) ∧ Below w.heap.size w w')
  compileOf : ∀ (A : Option Addr) (c n m : Nat) (t : List T.Ln) (L : List H.En) (er : Int) (w : World), LArgS w A c n t → CompIs t L er → L.length = m → RowsOk w → Calls Tryz.prog 11 #[.slice A n c] w (fun e w' => ∃ B d, e = .returned (.tuple #[.slice B m d, .int .i64 er]) ∧ m ≤ d ∧ Seen eEc w' B L ∧ Below w.heap.size w w')
theorem comp_few {t : List T.Ln} {L : List H.En} {er : Int} (h : CompIs t L er) (hl : t.length ≤ 200) : L.length ≤ 32040000 := by
  rcases h with ⟨hR, _, rfl, _⟩ | ⟨_, _, rfl, _⟩ | ⟨_, rfl, _⟩
  · exact Nat.le_trans (H.set_len _) (H.all_few hR hl)
  · exact Nat.zero_le _
  · exact Nat.zero_le _

def aw14T : List T.Ln := [⟨0, [104, 111, 115, 116, 115], 0⟩, ⟨1, [97], 0⟩, ⟨2, [105, 112], 0⟩, ⟨3, [49, 48, 46, 48, 46, 48, 46, 49], 0⟩, ⟨2, [118, 110, 105, 115], 0⟩, ⟨3, [53], 0⟩, ⟨1, [98], 0⟩, ⟨2, [105, 112], 0⟩, ⟨3, [49, 48, 46, 48, 46, 48, 46, 50], 0⟩, ⟨2, [118, 110, 105, 115], 0⟩, ⟨3, [53], 0⟩, ⟨0, [112, 111, 108, 105, 99, 121], 0⟩, ⟨1, [55], 0⟩, ⟨2, [97, 99, 116, 105, 111, 110], 0⟩, ⟨3, [100, 101, 110, 121], 0⟩, ⟨0, [118, 110, 105, 115], 0⟩, ⟨1, [53], 0⟩, ⟨2, [115, 117, 98, 110, 101, 116], 0⟩, ⟨3, [49, 48, 46, 49, 46, 48, 46, 48, 47, 49, 54], 0⟩]
def aw14E : List H.En := [⟨[97], 1, [53], [49, 48, 46, 48, 46, 48, 46, 50]⟩, ⟨[97], 5, [55], [100, 101, 110, 121, 32, 97, 110, 121, 32, 97, 110, 121]⟩, ⟨[98], 1, [53], [49, 48, 46, 48, 46, 48, 46, 49]⟩, ⟨[98], 5, [55], [100, 101, 110, 121, 32, 97, 110, 121, 32, 97, 110, 121]⟩]
def aw14X : List T.Ln := [⟨0, [120], 0⟩]
theorem aw14_check : C.checkP (C.pths aw14T) = [] := by decide +kernel
theorem aw14_tables : H.tablesL aw14T = aw14E := by decide +kernel
theorem aw14_right : T.RightT aw14X := by
  refine ⟨by decide, fun i hi => ?_, fun i hi => ?_, fun i hi => ?_, fun _ => by decide, fun i hi => ?_, fun i k h1 h2 => ?_⟩
  · obtain rfl : i = 0 := by have : i < 1 := hi; omega
    decide
  · obtain rfl : i = 0 := by have : i < 1 := hi; omega
    decide
  · obtain rfl : i = 0 := by have : i < 1 := hi; omega
    decide
  · have : i + 1 < 1 := hi; omega
  · have : k < 1 := h2; omega
theorem aw14_bad : C.checkP (C.pths aw14X) ≠ [] := by decide +kernel

set_option maxRecDepth 100000 in
set_option maxHeartbeats 8000000 in
theorem awake14 (E : HostOk) (w : World) (HTAB : RowsOk w) : Calls Tryz.prog 10 #[] w (TrueS w) := by
  have TAB := Lib.hid HTAB
  clear HTAB
  go_enter Tryz.func10, Tryz.ntmps10
  go_wp2_with fail
  refine (lread_ok _ aw14T 19 _ (by decide) (by kernel_rfl) rfl).mono ?_
  rintro e w1 ⟨A, cap, rfl, hcap, hown, hb1⟩
  have HRT : T.RightT aw14T := by
    refine S.readL_right (s := [115, 101, 116, 32, 104, 111, 115, 116, 115, 32, 97, 32, 105, 112, 32, 49, 48, 46, 48, 46, 48, 46, 49, 59, 32, 115, 101, 116, 32, 104, 111, 115, 116, 115, 32, 97, 32, 118, 110, 105, 115, 32, 53, 59, 32, 115, 101, 116, 32, 104, 111, 115, 116, 115, 32, 98, 32, 105, 112, 32, 49, 48, 46, 48, 46, 48, 46, 50, 59, 32, 115, 101, 116, 32, 104, 111, 115, 116, 115, 32, 98, 32, 118, 110, 105, 115, 32, 53, 59, 32, 115, 101, 116, 32, 118, 110, 105, 115, 32, 53, 32, 115, 117, 98, 110, 101, 116, 32, 49, 48, 46, 49, 46, 48, 46, 48, 47, 49, 54, 59, 32, 115, 101, 116, 32, 112, 111, 108, 105, 99, 121, 32, 55, 32, 97, 99, 116, 105, 111, 110, 32, 100, 101, 110, 121, 59]) ?_
    kernel_rfl
  have HRT := Lib.hid HRT
  have HO := Lib.hid hown
  clear hown
  go_wp2_with fail
  refine (E.compileOf A cap 19 4 aw14T aw14E 0 _ ⟨rfl, by omega, hcap, HO.out.nilOk, HO.out.view⟩ (.inl ⟨HRT.out, aw14_check, aw14_tables.symm, rfl⟩) rfl (rowsAt TAB hb1)).mono ?_
  rintro e w2 ⟨B, d, rfl, hd, hs, hx⟩
  have hb2 := bthen hb1 hx
  have HS := Lib.hid hs
  clear hx hs hb1
  go_wp2_with fail
  refine (E.compileOf _ 1 1 0 aw14X [] 7 _ ⟨rfl, by omega, by omega, (by intro h; cases h), lit_seen eL w2 aw14X _ rfl (by decide)⟩ (.inr (.inl ⟨aw14_right, aw14_bad, rfl, rfl⟩)) rfl (rowsAt TAB (hb2.trans ((up w2 _).mono hb2.size)))).mono ?_
  rintro e w3 ⟨B3, d3, rfl, hd3, _, hx⟩
  have hx3 := (up w2 (.cells #[.int .i64 0, .string (sB [120]), .int .i64 0] 52)).trans (hx.mono (up w2 _).size)
  have hb3 := bthen hb2 hx3
  obtain ⟨b, o, rfl, hwb, hL⟩ := HS.out (by decide)
  obtain ⟨y0, y1, y2, y3⟩ := hL.entry rfl rfl (i := 0) (by decide)
  obtain ⟨z0, z1, z2, z3⟩ := hL.entry rfl rfl (i := 3) (by decide)
  have HBW : b < w3.heap.size := Nat.lt_of_lt_of_le hwb hx3.size
  have HKP := Lib.hid (fun w' (h : Below w3.heap.size w3 w') => show Below w3.heap.size w3 w' ∧ w'.cell? ⟨b, o, none⟩ = some (.string ⟨#[97]⟩) ∧ w'.cell? ⟨b, o + 1, none⟩ = some (.int .i64 1) ∧ w'.cell? ⟨b, o + 2, none⟩ = some (.string ⟨#[53]⟩) ∧ w'.cell? ⟨b, o + 3, none⟩ = some (.string ⟨#[49, 48, 46, 48, 46, 48, 46, 50]⟩) ∧ w'.cell? ⟨b, o + 12, none⟩ = some (.string ⟨#[98]⟩) ∧ w'.cell? ⟨b, o + 12 + 1, none⟩ = some (.int .i64 5) ∧ w'.cell? ⟨b, o + 12 + 2, none⟩ = some (.string ⟨#[55]⟩) ∧ w'.cell? ⟨b, o + 12 + 3, none⟩ = some (.string ⟨#[100, 101, 110, 121, 32, 97, 110, 121, 32, 97, 110, 121]⟩) from
    ⟨h, ((h.cell (p := ⟨b, o, none⟩) HBW).trans ((hx3.cell (p := ⟨b, o, none⟩) hwb).trans y0)), ((h.cell (p := ⟨b, o + 1, none⟩) HBW).trans ((hx3.cell (p := ⟨b, o + 1, none⟩) hwb).trans y1)), ((h.cell (p := ⟨b, o + 2, none⟩) HBW).trans ((hx3.cell (p := ⟨b, o + 2, none⟩) hwb).trans y2)), ((h.cell (p := ⟨b, o + 3, none⟩) HBW).trans ((hx3.cell (p := ⟨b, o + 3, none⟩) hwb).trans y3)), ((h.cell (p := ⟨b, o + 12, none⟩) HBW).trans ((hx3.cell (p := ⟨b, o + 12, none⟩) hwb).trans z0)), ((h.cell (p := ⟨b, o + 12 + 1, none⟩) HBW).trans ((hx3.cell (p := ⟨b, o + 12 + 1, none⟩) hwb).trans z1)), ((h.cell (p := ⟨b, o + 12 + 2, none⟩) HBW).trans ((hx3.cell (p := ⟨b, o + 12 + 2, none⟩) hwb).trans z2)), ((h.cell (p := ⟨b, o + 12 + 3, none⟩) HBW).trans ((hx3.cell (p := ⟨b, o + 12 + 3, none⟩) hwb).trans z3))⟩)
  clear y0 y1 y2 y3 z0 z1 z2 z3 hx hL
  go_wp2
  refine wp_region_held_drew (S := fun w' => Below w3.heap.size w3 w' ∧ w'.cell? ⟨b, o, none⟩ = some (.string ⟨#[97]⟩) ∧ w'.cell? ⟨b, o + 1, none⟩ = some (.int .i64 1) ∧ w'.cell? ⟨b, o + 2, none⟩ = some (.string ⟨#[53]⟩) ∧ w'.cell? ⟨b, o + 3, none⟩ = some (.string ⟨#[49, 48, 46, 48, 46, 48, 46, 50]⟩) ∧ w'.cell? ⟨b, o + 12, none⟩ = some (.string ⟨#[98]⟩) ∧ w'.cell? ⟨b, o + 12 + 1, none⟩ = some (.int .i64 5) ∧ w'.cell? ⟨b, o + 12 + 2, none⟩ = some (.string ⟨#[55]⟩) ∧ w'.cell? ⟨b, o + 12 + 3, none⟩ = some (.string ⟨#[100, 101, 110, 121, 32, 97, 110, 121, 32, 97, 110, 121]⟩)) (by kernel_rfl) (HKP.out _ (Below.refl _ _).drew) (fun hHeld => ?_)
  refine takeD13 (i := 0) (v := ?v0) (d := some 24) rfl rfl (by kernel_rfl) (by kernel_rfl) (by kernel_rfl) (fun _ _ _ h => h) (Or.inl ⟨by rfl, ?h0⟩) (by assumption) ?r0
  case h0 => intro w hSw; obtain ⟨_, p0, p1, p2, p3, q0, q1, q2, q3⟩ := hSw; go_simp; try (with_reducible rfl)
  try simp only [Act.put, List.setIfInBounds_toArray, List.set_cons_zero, List.set_cons_succ]
  refine takeD13 (i := 1) (v := ?v1) (d := some 25) rfl rfl (by kernel_rfl) (by kernel_rfl) (by kernel_rfl) (fun _ _ _ h => h) (Or.inl ⟨by rfl, ?h1⟩) (by assumption) ?r1
  case h1 => intro w hSw; obtain ⟨_, p0, p1, p2, p3, q0, q1, q2, q3⟩ := hSw; go_simp; try (with_reducible rfl)
  try simp only [Act.put, List.setIfInBounds_toArray, List.set_cons_zero, List.set_cons_succ]
  refine takeD13 (i := 2) (v := ?v2) (d := some 26) rfl rfl (by kernel_rfl) (by kernel_rfl) (by kernel_rfl) (fun _ _ _ h => h) (Or.inl ⟨by rfl, ?h2⟩) (by assumption) ?r2
  case h2 => intro w hSw; obtain ⟨_, p0, p1, p2, p3, q0, q1, q2, q3⟩ := hSw; go_simp; try (with_reducible rfl)
  try simp only [Act.put, List.setIfInBounds_toArray, List.set_cons_zero, List.set_cons_succ]
  refine takeD13 (i := 3) (v := ?v3) (d := some 27) rfl rfl (by kernel_rfl) (by kernel_rfl) (by kernel_rfl) (fun _ _ _ h => h) (Or.inl ⟨by rfl, ?h3⟩) (by assumption) ?r3
  case h3 => intro w hSw; obtain ⟨_, p0, p1, p2, p3, q0, q1, q2, q3⟩ := hSw; go_simp; try (with_reducible rfl)
  try simp only [Act.put, List.setIfInBounds_toArray, List.set_cons_zero, List.set_cons_succ]
  refine takeD13 (i := 4) (v := ?v4) (d := some 28) rfl rfl (by kernel_rfl) (by kernel_rfl) (by kernel_rfl) (fun _ _ _ h => h) (Or.inl ⟨by rfl, ?h4⟩) (by assumption) ?r4
  case h4 => intro w hSw; obtain ⟨_, p0, p1, p2, p3, q0, q1, q2, q3⟩ := hSw; go_simp; try (with_reducible rfl)
  try simp only [Act.put, List.setIfInBounds_toArray, List.set_cons_zero, List.set_cons_succ]
  refine takeD13 (i := 5) (v := ?v5) (d := some 29) rfl rfl (by kernel_rfl) (by kernel_rfl) (by kernel_rfl) (fun _ _ _ h => h) (Or.inl ⟨by rfl, ?h5⟩) (by assumption) ?r5
  case h5 => intro w hSw; obtain ⟨_, p0, p1, p2, p3, q0, q1, q2, q3⟩ := hSw; go_simp; try (with_reducible rfl)
  try simp only [Act.put, List.setIfInBounds_toArray, List.set_cons_zero, List.set_cons_succ]
  refine takeD13 (i := 6) (v := ?v6) (d := some 30) rfl rfl (by kernel_rfl) (by kernel_rfl) (by kernel_rfl) (fun _ _ _ h => h) (Or.inl ⟨by rfl, ?h6⟩) (by assumption) ?r6
  case h6 => intro w hSw; obtain ⟨_, p0, p1, p2, p3, q0, q1, q2, q3⟩ := hSw; go_simp; try (with_reducible rfl)
  try simp only [Act.put, List.setIfInBounds_toArray, List.set_cons_zero, List.set_cons_succ]
  refine takeD13 (i := 7) (v := ?v7) (d := some 31) rfl rfl (by kernel_rfl) (by kernel_rfl) (by kernel_rfl) (fun _ _ _ h => h) (Or.inl ⟨by rfl, ?h7⟩) (by assumption) ?r7
  case h7 => intro w hSw; obtain ⟨_, p0, p1, p2, p3, q0, q1, q2, q3⟩ := hSw; go_simp; try (with_reducible rfl)
  try simp only [Act.put, List.setIfInBounds_toArray, List.set_cons_zero, List.set_cons_succ]
  refine takeD13 (i := 8) (v := ?v8) (d := some 32) rfl rfl (by kernel_rfl) (by kernel_rfl) (by kernel_rfl) (fun _ _ _ h => h) (Or.inl ⟨by rfl, ?h8⟩) (by assumption) ?r8
  case h8 => intro w hSw; obtain ⟨_, p0, p1, p2, p3, q0, q1, q2, q3⟩ := hSw; go_simp; try (with_reducible rfl)
  try simp only [Act.put, List.setIfInBounds_toArray, List.set_cons_zero, List.set_cons_succ]
  refine takeD13 (i := 9) (v := ?v9) (d := some 33) rfl rfl (by kernel_rfl) (by kernel_rfl) (by kernel_rfl) (fun _ _ _ h => h) (Or.inl ⟨by rfl, ?h9⟩) (by assumption) ?r9
  case h9 => intro w hSw; obtain ⟨_, p0, p1, p2, p3, q0, q1, q2, q3⟩ := hSw; go_simp; try (with_reducible rfl)
  try simp only [Act.put, List.setIfInBounds_toArray, List.set_cons_zero, List.set_cons_succ]
  refine takeD13 (i := 10) (v := ?v10) (d := some 34) rfl rfl (by kernel_rfl) (by kernel_rfl) (by kernel_rfl) (fun _ _ _ h => h) (Or.inl ⟨by rfl, ?h10⟩) (by assumption) ?r10
  case h10 => intro w hSw; obtain ⟨_, p0, p1, p2, p3, q0, q1, q2, q3⟩ := hSw; go_simp; try (with_reducible rfl)
  try simp only [Act.put, List.setIfInBounds_toArray, List.set_cons_zero, List.set_cons_succ]
  refine takeD13 (i := 11) (v := ?v11) (d := some 35) rfl rfl (by kernel_rfl) (by kernel_rfl) (by kernel_rfl) (fun _ _ _ h => h) (Or.inl ⟨by rfl, ?h11⟩) (by assumption) ?r11
  case h11 => intro w hSw; obtain ⟨_, p0, p1, p2, p3, q0, q1, q2, q3⟩ := hSw; go_simp; try (with_reducible rfl)
  try simp only [Act.put, List.setIfInBounds_toArray, List.set_cons_zero, List.set_cons_succ]
  refine takeD13 (i := 12) (v := ?v12) (d := some 36) rfl rfl (by kernel_rfl) (by kernel_rfl) (by kernel_rfl) (fun _ _ _ h => h) (Or.inl ⟨by rfl, ?h12⟩) (by assumption) ?r12
  case h12 => intro w hSw; obtain ⟨_, p0, p1, p2, p3, q0, q1, q2, q3⟩ := hSw; go_simp; try (with_reducible rfl)
  try simp only [Act.put, List.setIfInBounds_toArray, List.set_cons_zero, List.set_cons_succ]
  refine takeD13 (i := 13) (v := ?v13) (d := some 37) rfl rfl (by kernel_rfl) (by kernel_rfl) (by kernel_rfl) (fun _ _ _ h => h) (Or.inl ⟨by rfl, ?h13⟩) (by assumption) ?r13
  case h13 => intro w hSw; obtain ⟨_, p0, p1, p2, p3, q0, q1, q2, q3⟩ := hSw; go_simp; try (with_reducible rfl)
  try simp only [Act.put, List.setIfInBounds_toArray, List.set_cons_zero, List.set_cons_succ]
  refine takeD13 (i := 14) (v := ?v14) (d := some 38) rfl rfl (by kernel_rfl) (by kernel_rfl) (by kernel_rfl) (fun _ _ _ h => h) (Or.inl ⟨by rfl, ?h14⟩) (by assumption) ?r14
  case h14 => intro w hSw; obtain ⟨_, p0, p1, p2, p3, q0, q1, q2, q3⟩ := hSw; go_simp; try (with_reducible rfl)
  try simp only [Act.put, List.setIfInBounds_toArray, List.set_cons_zero, List.set_cons_succ]
  refine takeD13 (i := 15) (v := ?v15) (d := some 39) rfl rfl (by kernel_rfl) (by kernel_rfl) (by kernel_rfl) (fun _ _ _ h => h) (Or.inl ⟨by rfl, ?h15⟩) (by assumption) ?r15
  case h15 => intro w hSw; obtain ⟨_, p0, p1, p2, p3, q0, q1, q2, q3⟩ := hSw; go_simp; try (with_reducible rfl)
  try simp only [Act.put, List.setIfInBounds_toArray, List.set_cons_zero, List.set_cons_succ]
  refine takeD13 (i := 16) (v := ?v16) (d := some 40) rfl rfl (by kernel_rfl) (by kernel_rfl) (by kernel_rfl) (fun _ _ _ h => h) (Or.inl ⟨by rfl, ?h16⟩) (by assumption) ?r16
  case h16 => intro w hSw; obtain ⟨_, p0, p1, p2, p3, q0, q1, q2, q3⟩ := hSw; go_simp; try (with_reducible rfl)
  try simp only [Act.put, List.setIfInBounds_toArray, List.set_cons_zero, List.set_cons_succ]
  refine takeD13 (i := 17) (v := ?v17) (d := some 41) rfl rfl (by kernel_rfl) (by kernel_rfl) (by kernel_rfl) (fun _ _ _ h => h) (Or.inl ⟨by rfl, ?h17⟩) (by assumption) ?r17
  case h17 => intro w hSw; obtain ⟨_, p0, p1, p2, p3, q0, q1, q2, q3⟩ := hSw; go_simp; try (with_reducible rfl)
  try simp only [Act.put, List.setIfInBounds_toArray, List.set_cons_zero, List.set_cons_succ]
  refine takeD13 (i := 18) (v := ?v18) (d := some 42) rfl rfl (by kernel_rfl) (by kernel_rfl) (by kernel_rfl) (fun _ _ _ h => h) (Or.inl ⟨by rfl, ?h18⟩) (by assumption) ?r18
  case h18 => intro w hSw; obtain ⟨_, p0, p1, p2, p3, q0, q1, q2, q3⟩ := hSw; go_simp; try (with_reducible rfl)
  try simp only [Act.put, List.setIfInBounds_toArray, List.set_cons_zero, List.set_cons_succ]
  refine takeD13 (i := 19) (v := ?v19) (d := some 43) rfl rfl (by kernel_rfl) (by kernel_rfl) (by kernel_rfl) (fun _ _ _ h => h) (Or.inl ⟨by rfl, ?h19⟩) (by assumption) ?r19
  case h19 => intro w hSw; obtain ⟨_, p0, p1, p2, p3, q0, q1, q2, q3⟩ := hSw; go_simp; try (with_reducible rfl)
  try simp only [Act.put, List.setIfInBounds_toArray, List.set_cons_zero, List.set_cons_succ]
  refine takeD13 (i := 20) (v := ?v20) (d := some 44) rfl rfl (by kernel_rfl) (by kernel_rfl) (by kernel_rfl) (fun _ _ _ h => h) (Or.inl ⟨by rfl, ?h20⟩) (by assumption) ?r20
  case h20 => intro w hSw; obtain ⟨_, p0, p1, p2, p3, q0, q1, q2, q3⟩ := hSw; go_simp; try (with_reducible rfl)
  try simp only [Act.put, List.setIfInBounds_toArray, List.set_cons_zero, List.set_cons_succ]
  refine takeD13 (i := 21) (v := ?v21) (d := some 45) rfl rfl (by kernel_rfl) (by kernel_rfl) (by kernel_rfl) (fun _ _ _ h => h) (Or.inl ⟨by rfl, ?h21⟩) (by assumption) ?r21
  case h21 => intro w hSw; obtain ⟨_, p0, p1, p2, p3, q0, q1, q2, q3⟩ := hSw; go_simp; try (with_reducible rfl)
  try simp only [Act.put, List.setIfInBounds_toArray, List.set_cons_zero, List.set_cons_succ]
  refine takeD13 (i := 22) (v := ?v22) (d := some 46) rfl rfl (by kernel_rfl) (by kernel_rfl) (by kernel_rfl) (fun _ _ _ h => h) (Or.inl ⟨by rfl, ?h22⟩) (by assumption) ?r22
  case h22 => intro w hSw; obtain ⟨_, p0, p1, p2, p3, q0, q1, q2, q3⟩ := hSw; go_simp; try (with_reducible rfl)
  try simp only [Act.put, List.setIfInBounds_toArray, List.set_cons_zero, List.set_cons_succ]
  refine takeD13 (i := 23) (v := ?v23) (d := some 47) rfl rfl (by kernel_rfl) (by kernel_rfl) (by kernel_rfl) (fun _ _ _ h => h) (Or.inl ⟨by rfl, ?h23⟩) (by assumption) ?r23
  case h23 => intro w hSw; obtain ⟨_, p0, p1, p2, p3, q0, q1, q2, q3⟩ := hSw; go_simp; try (with_reducible rfl)
  try simp only [Act.put, List.setIfInBounds_toArray, List.set_cons_zero, List.set_cons_succ]
  refine takeD13 (i := 24) (v := ?v24) (d := some 48) rfl rfl (by kernel_rfl) (by kernel_rfl) (by kernel_rfl) (fun _ _ _ h => h) (Or.inl ⟨by rfl, ?h24⟩) (by assumption) ?r24
  case h24 => intro w hSw; obtain ⟨_, p0, p1, p2, p3, q0, q1, q2, q3⟩ := hSw; go_simp; try (with_reducible rfl)
  try simp only [Act.put, List.setIfInBounds_toArray, List.set_cons_zero, List.set_cons_succ]
  refine takeD13 (i := 25) (v := ?v25) (d := some 49) rfl rfl (by kernel_rfl) (by kernel_rfl) (by kernel_rfl) (fun _ _ _ h => h) (Or.inl ⟨by rfl, ?h25⟩) (by assumption) ?r25
  case h25 => intro w hSw; obtain ⟨_, p0, p1, p2, p3, q0, q1, q2, q3⟩ := hSw; go_simp; try (with_reducible rfl)
  try simp only [Act.put, List.setIfInBounds_toArray, List.set_cons_zero, List.set_cons_succ]
  refine takeD13 (i := 26) (v := ?v26) (d := some 50) rfl rfl (by kernel_rfl) (by kernel_rfl) (by kernel_rfl) (fun _ _ _ h => h) (Or.inl ⟨by rfl, ?h26⟩) (by assumption) ?r26
  case h26 => intro w hSw; obtain ⟨_, p0, p1, p2, p3, q0, q1, q2, q3⟩ := hSw; go_simp; try (with_reducible rfl)
  try simp only [Act.put, List.setIfInBounds_toArray, List.set_cons_zero, List.set_cons_succ]
  refine takeD13 (i := 27) (v := ?v27) (d := some 51) rfl rfl (by kernel_rfl) (by kernel_rfl) (by kernel_rfl) (fun _ _ _ h => h) (Or.inl ⟨by rfl, ?h27⟩) (by assumption) ?r27
  case h27 => intro w hSw; obtain ⟨_, p0, p1, p2, p3, q0, q1, q2, q3⟩ := hSw; go_simp; try (with_reducible rfl)
  try simp only [Act.put, List.setIfInBounds_toArray, List.set_cons_zero, List.set_cons_succ]
  refine takeD13 (i := 28) (v := ?v28) (d := some 52) rfl rfl (by kernel_rfl) (by kernel_rfl) (by kernel_rfl) (fun _ _ _ h => h) (Or.inl ⟨by rfl, ?h28⟩) (by assumption) ?r28
  case h28 => intro w hSw; obtain ⟨_, p0, p1, p2, p3, q0, q1, q2, q3⟩ := hSw; go_simp; try (with_reducible rfl)
  try simp only [Act.put, List.setIfInBounds_toArray, List.set_cons_zero, List.set_cons_succ]
  refine takeD13 (i := 29) (v := ?v29) (d := some 53) rfl rfl (by kernel_rfl) (by kernel_rfl) (by kernel_rfl) (fun _ _ _ h => h) (Or.inl ⟨by rfl, ?h29⟩) (by assumption) ?r29
  case h29 => intro w hSw; obtain ⟨_, p0, p1, p2, p3, q0, q1, q2, q3⟩ := hSw; go_simp; try (with_reducible rfl)
  try simp only [Act.put, List.setIfInBounds_toArray, List.set_cons_zero, List.set_cons_succ]
  refine takeD13 (i := 30) (v := ?v30) (d := some 54) rfl rfl (by kernel_rfl) (by kernel_rfl) (by kernel_rfl) (fun _ _ _ h => h) (Or.inl ⟨by rfl, ?h30⟩) (by assumption) ?r30
  case h30 => intro w hSw; obtain ⟨_, p0, p1, p2, p3, q0, q1, q2, q3⟩ := hSw; go_simp; try (with_reducible rfl)
  try simp only [Act.put, List.setIfInBounds_toArray, List.set_cons_zero, List.set_cons_succ]
  refine takeD13 (i := 31) (v := ?v31) (d := some 55) rfl rfl (by kernel_rfl) (by kernel_rfl) (by kernel_rfl) (fun _ _ _ h => h) (Or.inl ⟨by rfl, ?h31⟩) (by assumption) ?r31
  case h31 => intro w hSw; obtain ⟨_, p0, p1, p2, p3, q0, q1, q2, q3⟩ := hSw; go_simp; try (with_reducible rfl)
  try simp only [Act.put, List.setIfInBounds_toArray, List.set_cons_zero, List.set_cons_succ]
  refine takeD13 (i := 32) (v := ?v32) (d := some 56) rfl rfl (by kernel_rfl) (by kernel_rfl) (by kernel_rfl) (fun _ _ _ h => h) (Or.inl ⟨by rfl, ?h32⟩) (by assumption) ?r32
  case h32 => intro w hSw; obtain ⟨_, p0, p1, p2, p3, q0, q1, q2, q3⟩ := hSw; go_simp; try (with_reducible rfl)
  try simp only [Act.put, List.setIfInBounds_toArray, List.set_cons_zero, List.set_cons_succ]
  refine takeD13 (i := 33) (v := ?v33) (d := some 57) rfl rfl (by kernel_rfl) (by kernel_rfl) (by kernel_rfl) (fun _ _ _ h => h) (Or.inl ⟨by rfl, ?h33⟩) (by assumption) ?r33
  case h33 => intro w hSw; obtain ⟨_, p0, p1, p2, p3, q0, q1, q2, q3⟩ := hSw; go_simp; try (with_reducible rfl)
  try simp only [Act.put, List.setIfInBounds_toArray, List.set_cons_zero, List.set_cons_succ]
  refine takeD13 (i := 34) (v := ?v34) (d := some 58) rfl rfl (by kernel_rfl) (by kernel_rfl) (by kernel_rfl) (fun _ _ _ h => h) (Or.inl ⟨by rfl, ?h34⟩) (by assumption) ?r34
  case h34 => intro w hSw; obtain ⟨_, p0, p1, p2, p3, q0, q1, q2, q3⟩ := hSw; go_simp; try (with_reducible rfl)
  try simp only [Act.put, List.setIfInBounds_toArray, List.set_cons_zero, List.set_cons_succ]
  refine takeD13 (i := 35) (v := ?v35) (d := some 59) rfl rfl (by kernel_rfl) (by kernel_rfl) (by kernel_rfl) (fun _ _ _ h => h) (Or.inl ⟨by rfl, ?h35⟩) (by assumption) ?r35
  case h35 => intro w hSw; obtain ⟨_, p0, p1, p2, p3, q0, q1, q2, q3⟩ := hSw; go_simp; try (with_reducible rfl)
  try simp only [Act.put, List.setIfInBounds_toArray, List.set_cons_zero, List.set_cons_succ]
  refine wpAnyH_ready (rs := [36]) (by kernel_rfl) (by simp) ?_
  refine AllReadyH.cons rfl (fun K hK => ?_) AllReadyH.nil
  go_simp
  go_at_call 19
  refine (E.compareOf ⟨[97], 1, [53], [49, 48, 46, 48, 46, 48, 46, 50]⟩ ⟨[98], 5, [55], [100, 101, 110, 121, 32, 97, 110, 121, 32, 97, 110, 121]⟩ (-1) _ (by decide) (by decide) (by decide +kernel)).mono ?_
  rintro e wq ⟨rfl, hx⟩
  have hHq := HKP.out _ (bthen hHeld.1 hx)
  clear hHeld hx
  refine hK.out _ _ hHq (fun hHeld => ?_)
  clear hK K
  try simp only [Act.put, List.setIfInBounds_toArray, List.set_cons_zero, List.set_cons_succ]
  refine takeD13 (i := 37) (v := ?v37) (d := some 61) rfl rfl (by kernel_rfl) (by kernel_rfl) (by kernel_rfl) (fun _ _ _ h => h) (Or.inl ⟨by rfl, ?h37⟩) (by assumption) ?r37
  case h37 => intro w hSw; obtain ⟨_, p0, p1, p2, p3, q0, q1, q2, q3⟩ := hSw; go_simp; try (with_reducible rfl)
  try simp only [Act.put, List.setIfInBounds_toArray, List.set_cons_zero, List.set_cons_succ]
  refine takeD13 (i := 38) (v := ?v38) (d := some 62) rfl rfl (by kernel_rfl) (by kernel_rfl) (by kernel_rfl) (fun _ _ _ h => h) (Or.inl ⟨by rfl, ?h38⟩) (by assumption) ?r38
  case h38 => intro w hSw; obtain ⟨_, p0, p1, p2, p3, q0, q1, q2, q3⟩ := hSw; go_simp; try (with_reducible rfl)
  try simp only [Act.put, List.setIfInBounds_toArray, List.set_cons_zero, List.set_cons_succ]
  refine takeD13 (i := 39) (v := ?v39) (d := some 0) rfl rfl (by kernel_rfl) (by kernel_rfl) (by kernel_rfl) (fun _ _ _ h => h) (Or.inl ⟨by rfl, ?h39⟩) (by assumption) ?r39
  case h39 => intro w hSw; obtain ⟨_, p0, p1, p2, p3, q0, q1, q2, q3⟩ := hSw; go_simp; try (with_reducible rfl)
  try simp only [Act.put, List.setIfInBounds_toArray, List.set_cons_zero, List.set_cons_succ]
  refine wpAnyH_done (by kernel_rfl) ?_ _
  go_wp2
  go_ret
  exact ⟨rfl, bthen hb3 hHq.1⟩
end Go.Proofs.YtfcikfohmehmkaaGreatDoor

namespace Go.Proofs.YtfcikfohmehmkaaGreatDoor
open Go.Shelf Go.RowKit
set_option linter.unusedVariables false

def renSortE : Go.Shelf.Ren := ⟨fun | 6 => 36 | 14 => 69 | 15 => 70 | 20 => 102 | 21 => 103 | 22 => 104 | 23 => 105 | 24 => 106 | 25 => 107 | 26 => 108 | 27 => 109 | 28 => 110 | 29 => 111 | 46 => 141 | 47 => 142 | 48 => 143 | 49 => 144 | 50 => 145 | 57 => 169 | n => n, fun | 0 => 0 | 3 => 3 | 4 => 4 | 5 => 5 | 9 => 9 | 22 => 25 | 24 => 35 | 25 => 40 | 39 => 112 | 45 => 145 | 46 => 146 | 50 => 115 | 53 => 152 | 55 => 154 | 66 => 174 | 70 => 178 | 76 => 195 | 77 => 75 | n => n, fun n => n⟩
theorem laysSortE : Go.Proofs.SlLaysF0.n6 Tryz.prog renSortE := {
  mixed := by kernel_rfl
  f6 := ⟨Tryz.f36.name, by decide, Tryz.func36.trans (congrArg some (by kernel_rfl))⟩
  f14 := ⟨Tryz.f69.name, by decide, Tryz.func69.trans (congrArg some (by kernel_rfl))⟩
  f15 := Tryz.func70.trans (congrArg some (by kernel_rfl))
  f20 := ⟨Tryz.f102.name, by decide, Tryz.func102.trans (congrArg some (by kernel_rfl))⟩
  f21 := ⟨Tryz.f103.name, by decide, Tryz.func103.trans (congrArg some (by kernel_rfl))⟩
  f22 := ⟨Tryz.f104.name, by decide, Tryz.func104.trans (congrArg some (by kernel_rfl))⟩
  f23 := ⟨Tryz.f105.name, by decide, Tryz.func105.trans (congrArg some (by kernel_rfl))⟩
  f24 := ⟨Tryz.f106.name, by decide, Tryz.func106.trans (congrArg some (by kernel_rfl))⟩
  f25 := ⟨Tryz.f107.name, by decide, Tryz.func107.trans (congrArg some (by kernel_rfl))⟩
  f26 := ⟨Tryz.f108.name, by decide, Tryz.func108.trans (congrArg some (by kernel_rfl))⟩
  f27 := ⟨Tryz.f109.name, by decide, Tryz.func109.trans (congrArg some (by kernel_rfl))⟩
  f28 := Tryz.func110.trans (congrArg some (by kernel_rfl))
  f29 := Tryz.func111.trans (congrArg some (by kernel_rfl))
  f46 := ⟨Tryz.f141.name, by decide, Tryz.func141.trans (congrArg some (by kernel_rfl))⟩
  f47 := Tryz.func142.trans (congrArg some (by kernel_rfl))
  f48 := Tryz.func143.trans (congrArg some (by kernel_rfl))
  f49 := ⟨Tryz.f144.name, by decide, Tryz.func144.trans (congrArg some (by kernel_rfl))⟩
  f50 := ⟨Tryz.f145.name, by decide, Tryz.func145.trans (congrArg some (by kernel_rfl))⟩
  f57 := ⟨Tryz.f169.name, by decide, Tryz.func169.trans (congrArg some (by kernel_rfl))⟩
  t0 := Tryz.underlying0
  a0 := Tryz.isAgg0
  z0 := Tryz.sizeOf0
  v0 := Tryz.zeroValue0
  t3 := Tryz.underlying3
  a3 := Tryz.isAgg3
  z3 := Tryz.sizeOf3
  v3 := Tryz.zeroValue3
  t4 := Tryz.underlying4
  a4 := Tryz.isAgg4
  z4 := Tryz.sizeOf4
  v4 := Tryz.zeroValue4
  t5 := Tryz.underlying5
  a5 := Tryz.isAgg5
  z5 := Tryz.sizeOf5
  v5 := Tryz.zeroValue5
  t9 := Tryz.underlying9
  a9 := Tryz.isAgg9
  z9 := Tryz.sizeOf9
  v9 := Tryz.zeroValue9
  t22 := Tryz.underlying25
  a22 := Tryz.isAgg25
  z22 := Tryz.sizeOf25
  v22 := Tryz.zeroValue25
  t25 := Tryz.underlying40
  a25 := Tryz.isAgg40
  z25 := Tryz.sizeOf40
  v25 := Tryz.zeroValue40
  t39 := Tryz.underlying112
  a39 := Tryz.isAgg112
  z39 := Tryz.sizeOf112
  v39 := Tryz.zeroValue112
  t45 := Tryz.underlying145
  a45 := Tryz.isAgg145
  z45 := Tryz.sizeOf145
  v45 := Tryz.zeroValue145
  t46 := Tryz.underlying146
  a46 := Tryz.isAgg146
  z46 := Tryz.sizeOf146
  v46 := Tryz.zeroValue146
  t50 := Tryz.underlying115
  a50 := Tryz.isAgg115
  z50 := Tryz.sizeOf115
  v50 := Tryz.zeroValue115
  t53 := Tryz.underlying152
  a53 := Tryz.isAgg152
  z53 := Tryz.sizeOf152
  v53 := Tryz.zeroValue152
  t55 := Tryz.underlying154
  a55 := Tryz.isAgg154
  z55 := Tryz.sizeOf154
  v55 := Tryz.zeroValue154
  t66 := Tryz.underlying174
  a66 := Tryz.isAgg174
  z66 := Tryz.sizeOf174
  v66 := Tryz.zeroValue174
  t70 := Tryz.underlying178
  a70 := Tryz.isAgg178
  z70 := Tryz.sizeOf178
  v70 := Tryz.zeroValue178
  t76 := Tryz.underlying195
  a76 := Tryz.isAgg195
  z76 := Tryz.sizeOf195
  v76 := Tryz.zeroValue195
  t77 := Tryz.underlying75
  a77 := Tryz.isAgg75
  z77 := Tryz.sizeOf75
  v77 := Tryz.zeroValue75 }
end Go.Proofs.YtfcikfohmehmkaaGreatDoor

namespace Go.Proofs.YtfcikfohmehmkaaGreatDoor
open Go.RowKit
theorem ltH (x y : H.En) : ltOf H.cmpE x y = H.aheadE x y := by
  unfold ltOf H.cmpE
  cases h : H.aheadE x y with
  | true => simp
  | false =>
    cases k : H.aheadE y x with
    | true => simp
    | false => simp
theorem swoH : Go.Sort.SWO (ltOf H.cmpE) where
  irrefl x := by rw [ltH]; exact H.ahead_irr _
  trans x y z h1 h2 := by rw [ltH] at *; exact H.ahead_trans h1 h2
  ntrans x y z h1 h2 := by
    rw [ltH] at *
    cases h : H.aheadE x z with
    | false => rfl
    | true =>
      rcases H.ahead_tri x y with h3 | h3 | h3
      · rw [h1] at h3; cases h3
      · rw [← h3, h] at h2; cases h2
      · rcases H.ahead_tri y z with h4 | h4 | h4
        · rw [h2] at h4; cases h4
        · rw [h4] at h3; rw [H.ahead_asymm h3] at h; cases h
        · have := H.ahead_trans h4 h3; rw [H.ahead_asymm this] at h; cases h
/-- Nothing below is turned, and no draw is taken back. -/
def GrewD (w w' : World) : Prop := Below w.heap.size w w' ∧ w.drawn ≤ w'.drawn
theorem GrewD.grow {w w' : World} (h : GrewD w w') : ∃ n os, w' = Go.Sort.grow (w.drewN n) os := by
  obtain ⟨⟨h1, h2, h3, h4, h5⟩, h6⟩ := h
  refine ⟨w'.drawn - w.drawn, w'.heap.extract w.heap.size w'.heap.size, ?_⟩
  obtain ⟨hp, tp, dr, os, ot⟩ := w'
  obtain ⟨hp0, tp0, dr0, os0, ot0⟩ := w
  simp only at h1 h2 h3 h4 h5 h6
  subst h1; subst h2; subst h3
  unfold Go.Sort.grow World.drewN
  simp only [World.mk.injEq, true_and, and_true]
  refine ⟨?_, by omega⟩
  apply Array.ext_getElem?
  intro i
  by_cases hi : i < hp0.size
  · rw [Array.getElem?_append_left hi, h5 i hi]
  · rw [Array.getElem?_append_right (by omega), Array.getElem?_extract]
    by_cases hk : i < hp.size
    · rw [if_pos (by omega)]; congr 1; omega
    · rw [if_neg (by omega), Array.getElem?_eq_none (by omega)]
section
variable {α : Type} [Inhabited α]
theorem sortE_below (enc : α → List Value) (k : Nat) (w : World) (blk off m : Nat) (dk : Array α) (os : Array Obj) (g : Nat) (hg : g ≤ blk) (hb : blk < w.heap.size) : Below g w (sortWorldK enc k w blk off m dk os) := by
  refine ⟨rfl, rfl, rfl, size_sortWorldK_c enc k w blk off m dk os, fun c hc => ?_⟩
  unfold sortWorldK
  rw [Go.Sort.heap_grow_old _ _ (by rw [Go.Sort.size_putRowK]; show c < w.heap.size; omega)]
  show (w.heap.modify blk _)[c]? = _
  rw [Array.getElem?_modify, if_neg (by omega)]
end
/-- The entries l lie in the block g, and may be written over. -/
structure RowE (w : World) (g : Nat) (l : List H.En) : Prop where
  lt : g < w.heap.size
  cells : Holds eEc w g 0 l
  thaw : ∀ j, w.frozen? ⟨g, j, none⟩ = false
theorem RowE.keep {w w1 : World} {B g : Nat} {l : List H.En} (h : RowE w g l) (hb : Below B w w1) (hg : g < B) : RowE w1 g l :=
  ⟨Nat.lt_of_lt_of_le h.lt hb.size, fun i hi j u hu => (hb.cell (p := ⟨g, 0 + i * eEc.sz + j, none⟩) hg).trans (h.cells i hi j u hu), fun j => by
    have := h.thaw j
    unfold World.frozen? at this ⊢
    rw [show w1.heap[(⟨g, j, none⟩ : Addr).block]? = w.heap[(⟨g, j, none⟩ : Addr).block]? from hb.block g hg]
    exact this⟩
theorem RowE.own {w : World} {base g n cap : Nat} {l : List H.En} (h : Own eEc w base (.slice (some ⟨g, 0, none⟩) n cap) l) (hl : 0 < l.length) : RowE w g l := by
  obtain ⟨b, e, h1, h2, h3⟩ := h.block hl
  injection e with e
  injection e with e
  subst e
  exact ⟨h2, h3, fun j => (h.frozenNo j).1⟩
theorem RowE.seen {w : World} {g : Nat} {l : List H.En} (h : RowE w g l) : Seen eEc w (some ⟨g, 0, none⟩) l := fun _ => ⟨g, 0, rfl, h.lt, h.cells⟩
/-- The entries in a block, in order. -/
theorem sortE_any (f : Nat) (hf : ∀ args w, (callFunc f args).run Tryz.prog w = .ok (.enter f args) w) (HC : ∀ (x y : H.En) (w : World), Calls Tryz.prog f #[enV x, enV y] w (fun e w' => e = .returned (.int .i64 (H.cmpE x y)) ∧ GrewD w w'))
    (g n cap : Nat) (l : List H.En) (w : World) (hn : l.length = n) (h0 : 0 < n) (hO : RowE w g l) (hl : n ≤ 1073741824) :
    Calls Tryz.prog 36 #[.slice (some ⟨g, 0, none⟩) n cap, .func (.func f) #[] #[]] w (fun e w' => e = .returned (.tuple #[]) ∧ ∃ s, s.Perm l ∧ s.Pairwise H.Low ∧ RowE w' g s ∧ Below g w w') := by
  haveI : Inhabited H.En := ⟨⟨[], 0, [], []⟩⟩
  obtain ⟨d, hd⟩ : ∃ d : Array H.En, d = l.toArray := ⟨_, rfl⟩
  have hsz : d.size = n := by rw [hd]; exact hn
  have hgetb : ∀ i (h : i < l.length), d[i]! = l[i] := fun i h => by rw [getElem!_pos d i (by omega)]; subst hd; simp
  have hHK : Go.Sort.HoldsK enC 4 w g 0 d := by
    intro j hj
    rw [Go.Sort.size_flatK, hsz] at hj
    refine ⟨?_, by rw [Nat.zero_add]; exact hO.thaw j⟩
    rw [Go.Sort.get_flatK _ _ _ _ (by rw [hsz]; exact hj)]
    have hi : j / 4 < l.length := by omega
    have hj2 : j % 4 < 4 := Nat.mod_lt _ (by decide)
    have := hO.cells (j / 4) hi (j % 4) ((enC l[j / 4])[j % 4]'(by show j % 4 < 4; exact hj2)) (List.getElem?_eq_getElem _)
    rw [show 0 + j / 4 * eEc.sz + j % 4 = 0 + j by show 0 + j / 4 * 4 + j % 4 = 0 + j; omega] at this
    rw [this, hgetb _ hi, getElem!_pos _ _ (by show j % 4 < 4; exact hj2)]
    rfl
  have hcmp : CmpLays Tryz.prog f #[] enC 4 H.cmpE g 0 d.size w := by
    intro m os dk _ x y
    exact (HC x y _).mono fun e w' ⟨he, hg⟩ => ⟨he, hg.grow⟩
  have hcon := AnyQ.slices_SortFunc (P := Tryz.prog) (ρ := renSortE) laysSortE 4 Tryz.isAgg35 Tryz.sizeOf35 enC (fun x => rfl) enC_one H.cmpE swoH f #[] g 0 cap d w hf hcmp hHK hO.lt (by omega)
  rw [hsz] at hcon
  refine hcon.mono ?_
  rintro e w' ⟨he, d', m, os, hp, hs, rfl⟩
  have hsz' : d'.size = n := by rw [hp.1, hsz]
  have ext : ∀ (x : Array H.En), x.size = n → (x.extract 0 n).toList = x.toList := fun x hx => by rw [← hx]; simp
  have hperm : d'.toList.Perm d.toList := by
    have := hp.2.2
    rwa [ext d' hsz', ext d hsz] at this
  have hHK' := holdsK_sortWorldK_c enC 4 w g 0 d d' m os hHK hO.lt (by omega)
  have hws := size_sortWorldK_c enC 4 w g 0 m d' os
  have hl' : d'.toList.length = n := (Array.length_toList (xs := d')).trans hsz'
  refine ⟨he, d'.toList, by rw [hd] at hperm; exact hperm, ?_, ⟨by have := hO.lt; omega, fun i hi j u hu => ?_, fun j => ?_⟩, sortE_below _ _ _ _ _ _ _ _ g (Nat.le_refl _) hO.lt⟩
  · rw [List.pairwise_iff_getElem]
    intro i j hi hj hij
    rw [Array.length_toList] at hi hj
    have := hs i j (Nat.zero_le _) hij (by omega)
    rw [ltH, getElem!_pos d' i hi, getElem!_pos d' j hj] at this
    exact this
  · have hi2 : i < d'.size := by simpa using hi
    have hj : j < 4 := (List.getElem?_eq_some_iff.1 hu).1
    show (sortWorldK enC 4 w g 0 m d' os).cell? ⟨g, 0 + i * 4 + j, none⟩ = some u
    rw [(Go.Sort.HoldsK.cell hHK' hi2 hj).1, getElem!_pos d' i hi2]
    have hu : (enC d'[i])[j]? = some u := hu
    rw [List.getElem?_eq_getElem (by show j < 4; exact hj)] at hu
    rw [getElem!_pos _ _ (by show j < 4; exact hj)]
    exact hu
  · show (Go.Sort.grow (Go.Sort.putRowK enC 4 (Go.Sort.ahead w m) g 0 d') os).frozen? ⟨g, j, none⟩ = false
    rw [Go.Sort.frozen?_grow _ _ _ (by rw [Go.Sort.size_putRowK]; exact hO.lt)]
    unfold Go.Sort.putRowK
    rw [Go.Sort.frozen?_putRow]
    exact hO.thaw j
end Go.Proofs.YtfcikfohmehmkaaGreatDoor

namespace Go.Proofs.YtfcikfohmehmkaaGreatDoor
open Go.Shelf Go.RowKit
set_option linter.unusedVariables false

def ren106 : Go.Shelf.Ren := ⟨fun | 106 => 40 | 213 => 71 | 265 => 112 | n => n, fun | 3 => 3 | 9 => 9 | n => n, fun  n => n⟩
set_option maxRecDepth 100000 in
theorem lays106 : Go.Proofs.Lays.n106 Tryz.prog ren106 := {
  mixed := by kernel_rfl
  f106 := Tryz.func40.trans (congrArg some (by kernel_rfl))
  f213 := Tryz.func71.trans (congrArg some (by kernel_rfl))
  f265 := Tryz.func112.trans (congrArg some (by kernel_rfl))
  t3 := Tryz.underlying3
  a3 := Tryz.isAgg3
  z3 := Tryz.sizeOf3
  v3 := Tryz.zeroValue3
  t9 := Tryz.underlying9
  a9 := Tryz.isAgg9
  z9 := Tryz.sizeOf9
  v9 := Tryz.zeroValue9 }
theorem cmpW_is : ∀ a b : List UInt8, Lib.compareBytes a b = cmpW a b
  | [], [] => rfl
  | [], _ :: _ => rfl
  | _ :: _, [] => rfl
  | x :: a, y :: b => by
    have ih := cmpW_is a b
    unfold Lib.compareBytes
    unfold cmpW at ih ⊢
    unfold Op.bytesLess
    by_cases h1 : x < y
    · simp [h1]
    · by_cases h2 : y < x
      · have hne : ¬ x = y := fun e => by subst e; exact h1 h2
        simp [h1, h2, hne]
      · have e : x = y := UInt8.le_antisymm (UInt8.not_lt.1 h2) (UInt8.not_lt.1 h1)
        subst e
        simp only [h1, if_false, ih]
        simp
theorem strCmp (a b : List UInt8) (r : Int) (w : World) (h : cmpW a b = r) : Calls Tryz.prog 40 #[.string (sB a), .string (sB b)] w (fun e w' => e = .returned (.int .i64 r) ∧ w' = w) := by
  subst h
  rw [← cmpW_is]
  exact Any.strings_Compare (P := Tryz.prog) (ρ := ren106) lays106 (sB a) (sB b) w
end Go.Proofs.YtfcikfohmehmkaaGreatDoor

namespace Go.Proofs.YtfcikfohmehmkaaGreatDoor.H
def cmpI (a b : Int) : Int := if a < b then -1 else if b < a then 1 else 0
theorem cmpI_zero {a b : Int} : cmpI a b = 0 ↔ a = b := by
  unfold cmpI
  constructor
  · intro h
    by_cases h1 : a < b
    · rw [if_pos h1] at h; omega
    · by_cases h2 : b < a
      · rw [if_neg h1, if_pos h2] at h; omega
      · omega
  · rintro rfl
    rw [if_neg (by omega), if_neg (by omega)]
/-- The first one that is not 0. -/
def orZ : List Int → Int
  | [] => 0
  | x :: l => if x = 0 then orZ l else x
theorem orZ_at {l : List Int} {k : Nat} (h : k < l.length) : orZ (l.drop k) = if l[k] = 0 then orZ (l.drop (k + 1)) else l[k] := by
  rw [List.drop_eq_getElem_cons h, orZ]
theorem cmp_or (x y : En) : orZ [cmpW x.host y.host, cmpI x.kind y.kind, cmpW x.key y.key, cmpW x.val y.val] = cmpE x y := by
  by_cases h1 : x.host = y.host
  · by_cases h2 : x.kind = y.kind
    · by_cases h3 : x.key = y.key
      · have a1 : aheadE x y = Op.bytesLess x.val y.val := by unfold aheadE; rw [if_neg (fun h => h h1), if_neg (fun h => h h2), if_neg (fun h => h h3)]
        have a2 : aheadE y x = Op.bytesLess y.val x.val := by unfold aheadE; rw [if_neg (fun h => h h1.symm), if_neg (fun h => h h2.symm), if_neg (fun h => h h3.symm)]
        unfold cmpE
        rw [a1, a2, orZ, if_pos (cmpW_zero.2 h1), orZ, if_pos (cmpI_zero.2 h2), orZ, if_pos (cmpW_zero.2 h3), orZ, orZ]
        by_cases h4 : cmpW x.val y.val = 0
        · rw [if_pos h4]; exact h4.symm
        · rw [if_neg h4]; rfl
      · have a1 : aheadE x y = Op.bytesLess x.key y.key := by unfold aheadE; rw [if_neg (fun h => h h1), if_neg (fun h => h h2), if_pos h3]
        have a2 : aheadE y x = Op.bytesLess y.key x.key := by unfold aheadE; rw [if_neg (fun h => h h1.symm), if_neg (fun h => h h2.symm), if_pos (fun h => h3 h.symm)]
        unfold cmpE
        rw [a1, a2, orZ, if_pos (cmpW_zero.2 h1), orZ, if_pos (cmpI_zero.2 h2), orZ, if_neg (fun h => h3 (cmpW_zero.1 h))]
        rfl
    · have a1 : aheadE x y = decide (x.kind < y.kind) := by unfold aheadE; rw [if_neg (fun h => h h1), if_pos h2]
      have a2 : aheadE y x = decide (y.kind < x.kind) := by unfold aheadE; rw [if_neg (fun h => h h1.symm), if_pos (fun h => h2 h.symm)]
      unfold cmpE
      rw [a1, a2, orZ, if_pos (cmpW_zero.2 h1), orZ, if_neg (fun h => h2 (cmpI_zero.1 h))]
      unfold cmpI
      simp only [decide_eq_true_eq]
  · have a1 : aheadE x y = Op.bytesLess x.host y.host := by unfold aheadE; rw [if_pos h1]
    have a2 : aheadE y x = Op.bytesLess y.host x.host := by unfold aheadE; rw [if_pos (fun h => h1 h.symm)]
    unfold cmpE
    rw [a1, a2, orZ, if_neg (fun h => h1 (cmpW_zero.1 h))]
    rfl
end Go.Proofs.YtfcikfohmehmkaaGreatDoor.H

namespace Go.Proofs.YtfcikfohmehmkaaGreatDoor
open Go.RowKit
set_option linter.unusedVariables false

theorem nanI (k : Int) (w : World) : Calls Tryz.prog 72 #[.int .i64 k] w (fun e w' => e = .returned (.bool false) ∧ w = w') := by
  go_enter Tryz.func72, Tryz.ntmps72
  go_wp2
  go_ret
  exact ⟨rfl, rfl⟩
theorem cmpInt (a b r : Int) (w : World) (h : H.cmpI a b = r) : Calls Tryz.prog 41 #[.int .i64 a, .int .i64 b] w (fun e w' => e = .returned (.int .i64 r) ∧ w' = w) := by
  by_cases h1 : a < b
  · have e : -1 = r := by rw [← h]; exact (if_pos h1).symm
    have b1 : decide (a < b) = true := decide_eq_true h1
    subst e
    clear h1 h
    go_enter Tryz.func41, Tryz.ntmps41
    go_wp2_with fail
    refine (nanI _ _).mono ?_
    rintro e w1 ⟨rfl, rfl⟩
    go_wp2_with fail
    refine (nanI _ _).mono ?_
    rintro e w1 ⟨rfl, rfl⟩
    go_wp2
    go_ret
    exact ⟨rfl, rfl⟩
  · have b1 : decide (a < b) = false := decide_eq_false h1
    by_cases h2 : b < a
    · have e : 1 = r := by rw [← h]; unfold H.cmpI; rw [if_neg h1, if_pos h2]
      have b2 : decide (b < a) = true := decide_eq_true h2
      subst e
      clear h1 h2 h
      go_enter Tryz.func41, Tryz.ntmps41
      go_wp2_with fail
      refine (nanI _ _).mono ?_
      rintro e w1 ⟨rfl, rfl⟩
      go_wp2_with fail
      refine (nanI _ _).mono ?_
      rintro e w1 ⟨rfl, rfl⟩
      go_wp2
      go_ret
      exact ⟨rfl, rfl⟩
    · have e : 0 = r := by rw [← h]; unfold H.cmpI; rw [if_neg h1, if_neg h2]
      have b2 : decide (b < a) = false := decide_eq_false h2
      subst e
      clear h1 h2 h
      go_enter Tryz.func41, Tryz.ntmps41
      go_wp2_with fail
      refine (nanI _ _).mono ?_
      rintro e w1 ⟨rfl, rfl⟩
      go_wp2_with fail
      refine (nanI _ _).mono ?_
      rintro e w1 ⟨rfl, rfl⟩
      go_wp2
      go_ret
      exact ⟨rfl, rfl⟩
set_option maxHeartbeats 4000000 in
theorem orC (g n c : Nat) (l : List Int) (r : Int) (w : World) (hn : l.length = n) (hA : ∀ i (h : i < l.length), w.cell? ⟨g, i, none⟩ = some (.int .i64 l[i])) (hl : n ≤ 1073741824) (hr : H.orZ l = r) :
    Calls Tryz.prog 39 #[.slice (some ⟨g, 0, none⟩) n c] w (fun e w' => e = .returned (.int .i64 r) ∧ w' = w) := by
  have HN := Lib.hid hn
  have HA := Lib.hid hA
  have HR := Lib.hid (show H.orZ (l.drop 0) = r from hr)
  clear hn hA hr
  go_enter Tryz.func39, Tryz.ntmps39
  go_wp2
  go_loopg [5, 8] n (fun gk vx vi wr => ∃ k : Nat, Hid (k + gk = n) ∧ k ≤ n ∧ vi = .int .i64 (k : Int) ∧ Hid (H.orZ (l.drop k) = r) ∧ wr = w)
  case atStart => exact ⟨0, Nat.zero_add _, Nat.zero_le _, rfl, HR.out, rfl⟩
  case round =>
    obtain ⟨k, HG, hk, rfl, HF, rfl⟩ := hrel
    have hgk := HG.out
    by_cases hlt : k < n
    · have blt : decide ((k : Int) < (n : Int)) = true := decide_eq_true (by omega)
      have blt2 : decide (k < n) = true := decide_eq_true hlt
      have hki : (k : Int) < (n : Int) := by omega
      have hkl : k < l.length := by have := HN.out; omega
      have c0 := HA.out k hkl
      have HX := Lib.hid (H.orZ_at hkl)
      generalize l[k] = y at c0 HX
      by_cases he : y = 0
      · subst he
        have HNX := Lib.hid (show H.orZ (l.drop (k + 1)) = r by rw [← HF.out, HX.out, if_pos rfl])
        go_wp2
        go_roundg (n - (k + 1))
        case rel => exact ⟨k + 1, (by show _ = _; omega), by omega, by go_num, HNX, rfl⟩
        case measure => omega
      · have n0 : (y != 0) = true := bne_iff_ne.2 he
        have n1 : (y == 0) = false := beq_eq_false_iff_ne.2 he
        have HE := Lib.hid (show y = r by rw [← HF.out, HX.out, if_neg he])
        clear he
        go_wp2
        go_ret
        exact ⟨by rw [HE.out]; rfl, rfl⟩
    · have blt : decide ((k : Int) < (n : Int)) = false := decide_eq_false (by omega)
      have blt2 : decide (k < n) = false := decide_eq_false hlt
      have HE := Lib.hid (show (0 : Int) = r by
        rw [← HF.out, List.drop_of_length_le (by have := HN.out; omega)]; rfl)
      go_wp2
      go_ret
      exact ⟨by rw [HE.out]; rfl, rfl⟩
set_option maxRecDepth 100000 in
set_option maxHeartbeats 4000000 in
theorem compareC (x y : H.En) (w : World) : Calls Tryz.prog 19 #[enV x, enV y] w (fun e w' => e = .returned (.int .i64 (H.cmpE x y)) ∧ GrewD w w') := by
  obtain ⟨r1, h1⟩ : ∃ r, cmpW x.host y.host = r := ⟨_, rfl⟩
  obtain ⟨r2, h2⟩ : ∃ r, H.cmpI x.kind y.kind = r := ⟨_, rfl⟩
  obtain ⟨r3, h3⟩ : ∃ r, cmpW x.key y.key = r := ⟨_, rfl⟩
  obtain ⟨r4, h4⟩ : ∃ r, cmpW x.val y.val = r := ⟨_, rfl⟩
  have HE := Lib.hid (show H.orZ [r1, r2, r3, r4] = H.cmpE x y by rw [← h1, ← h2, ← h3, ← h4]; exact H.cmp_or x y)
  obtain ⟨W1, hW1⟩ : ∃ W1, (w.alloc (.cells #[.string (sB x.host), .int .i64 x.kind, .string (sB x.key), .string (sB x.val)] 35)).alloc (.cells #[.string (sB y.host), .int .i64 y.kind, .string (sB y.key), .string (sB y.val)] 35) = W1 := ⟨_, rfl⟩
  have hb : Below w.heap.size w W1 := by rw [← hW1]; exact (up w _).alloc (by simp) _
  have hd : W1.drawn = w.drawn := by rw [← hW1]; rfl
  obtain ⟨x0, x1, x2, x3⟩ : W1.cell? ⟨w.heap.size, 0, none⟩ = some (.string (sB x.host)) ∧ W1.cell? ⟨w.heap.size, 1, none⟩ = some (.int .i64 x.kind) ∧ W1.cell? ⟨w.heap.size, 2, none⟩ = some (.string (sB x.key)) ∧ W1.cell? ⟨w.heap.size, 3, none⟩ = some (.string (sB x.val)) := by
    rw [← hW1]; exact (ent_below (ent_laid w x.host x.kind x.key x.val) (up _ _)).cells
  obtain ⟨y0, y1, y2, y3⟩ : W1.cell? ⟨w.heap.size + 1, 0, none⟩ = some (.string (sB y.host)) ∧ W1.cell? ⟨w.heap.size + 1, 1, none⟩ = some (.int .i64 y.kind) ∧ W1.cell? ⟨w.heap.size + 1, 2, none⟩ = some (.string (sB y.key)) ∧ W1.cell? ⟨w.heap.size + 1, 3, none⟩ = some (.string (sB y.val)) := by
    have h := (ent_laid (w.alloc (.cells #[.string (sB x.host), .int .i64 x.kind, .string (sB x.key), .string (sB x.val)] 35)) y.host y.kind y.key y.val).cells
    rw [hW1] at h
    simpa using h
  have HW1 := Lib.hid hW1
  have HB := Lib.hid hb
  have HD := Lib.hid hd
  have H1 := Lib.hid h1
  have H2 := Lib.hid h2
  have H3 := Lib.hid h3
  have H4 := Lib.hid h4
  clear hW1 hb hd h1 h2 h3 h4
  unfold enV
  go_enter Tryz.func19, Tryz.ntmps19
  go_wp2
  rw [HW1.out]
  go_still_tail 20, (by kernel_rfl)
  still_call (strCmp _ _ _ _ H1.out)
  repeat still_step
  still_call (cmpInt _ _ _ _ H2.out)
  repeat still_step
  still_call (strCmp _ _ _ _ H3.out)
  repeat still_step
  still_call (strCmp _ _ _ _ H4.out)
  repeat still_step
  refine wpStill_nil ?_
  change wpList _ _ _ _ _ W1.drew
  go_wp2_with fail
  refine (orC W1.heap.size 4 4 [r1, r2, r3, r4] _ _ rfl (fun i hi => ?_) (by omega) HE.out).mono ?_
  · match i, hi with
    | 0, _ => exact World.cell?_alloc_mark W1.drew _ _ (0, 0) 0
    | 1, _ => exact World.cell?_alloc_mark W1.drew _ _ (0, 0) 1
    | 2, _ => exact World.cell?_alloc_mark W1.drew _ _ (0, 0) 2
    | 3, _ => exact World.cell?_alloc_mark W1.drew _ _ (0, 0) 3
  rintro e w2 ⟨rfl, rfl⟩
  go_wp2
  go_ret
  exact ⟨rfl, HB.out.drew.alloc HB.out.size _, by show w.drawn ≤ W1.drawn + 1; rw [HD.out]; omega⟩
end Go.Proofs.YtfcikfohmehmkaaGreatDoor

namespace Go.Proofs.YtfcikfohmehmkaaGreatDoor.H
theorem sqE_short {l : List En} (h : l.length < 2) : sqE l = l := by
  match l, h with
  | [], _ => rfl
  | [x], _ => rfl
  | x :: y :: r, h => simp at h; omega
theorem ent_apart {a b : En} (h : a ≠ b) : a.host ≠ b.host ∨ (a.host = b.host ∧ a.kind ≠ b.kind) ∨ (a.host = b.host ∧ a.kind = b.kind ∧ a.key ≠ b.key) ∨ (a.host = b.host ∧ a.kind = b.kind ∧ a.key = b.key ∧ a.val ≠ b.val) := by
  obtain ⟨a1, a2, a3, a4⟩ := a
  obtain ⟨b1, b2, b3, b4⟩ := b
  simp only
  by_cases h1 : a1 = b1
  · by_cases h2 : a2 = b2
    · by_cases h3 : a3 = b3
      · exact .inr (.inr (.inr ⟨h1, h2, h3, fun h4 => h (by rw [h1, h2, h3, h4])⟩))
      · exact .inr (.inr (.inl ⟨h1, h2, h3⟩))
    · exact .inr (.inl ⟨h1, h2⟩)
  · exact .inl h1
end Go.Proofs.YtfcikfohmehmkaaGreatDoor.H

namespace Go.Proofs.YtfcikfohmehmkaaGreatDoor
open Go.RowKit
set_option linter.unusedVariables false

theorem wrapE (x : Int) (h : -9223372036854775808 ≤ x ∧ x ≤ 9223372036854775807) : IntKind.i64.wrap x = x := by rw [IntKind.wrap_i64]; omega
theorem RowE.at_ {w : World} {g : Nat} {l : List H.En} (h : RowE w g l) {i o : Nat} {x : H.En} (hx : l[i]? = some x) (ho : o = i * 4) : w.cell? ⟨g, o, none⟩ = some (.string (sB x.host)) ∧ w.cell? ⟨g, o + 1, none⟩ = some (.int .i64 x.kind) ∧ w.cell? ⟨g, o + 2, none⟩ = some (.string (sB x.key)) ∧ w.cell? ⟨g, o + 3, none⟩ = some (.string (sB x.val)) := by
  subst ho
  obtain ⟨h1, rfl⟩ := List.getElem?_eq_some_iff.1 hx
  have := h.cells.entry rfl rfl h1
  simpa using this
theorem RowE.first {w : World} {g : Nat} {a b : List H.En} (h : RowE w g (a ++ b)) : RowE w g a :=
  ⟨h.lt, fun i hi j u hu => h.cells i (by rw [List.length_append]; omega) j u (by rw [List.getElem_append_left hi]; exact hu), h.thaw⟩
theorem RowE.put {w : World} {g k : Nat} {l : List H.En} (h : RowE w g l) (hk : k < l.length) (x : H.En) : RowE (w.setCells g (k * 4) (enC x)) g (l.set k x) := by
  have some4 : ∀ j, j < (enC x).length → (w.cell? ⟨g, k * 4 + j, none⟩).isSome = true := fun j hj => by
    have hj : j < 4 := hj
    have := h.cells k hk j ((enC l[k])[j]'hj) (List.getElem?_eq_getElem _)
    rw [show 0 + k * eEc.sz + j = k * 4 + j by show 0 + k * 4 + j = _; omega] at this
    rw [this]; rfl
  refine ⟨Nat.lt_of_lt_of_le h.lt (below_cells g (Nat.le_refl _) (enC x) (k * 4) (Below.refl g w)).size, fun i hi j u hu => ?_, fun j => by rw [World.frozen?_setCells]; exact h.thaw j⟩
  rw [List.length_set] at hi
  have hj : j < 4 := by
    have := (List.getElem?_eq_some_iff.1 hu).1
    rw [eEc.len] at this; exact this
  show (w.setCells g (k * 4) (enC x)).cell? ⟨g, 0 + i * 4 + j, none⟩ = some u
  by_cases e : i = k
  · subst e
    rw [List.getElem_set_self] at hu
    have := World.cell?_setCells_in g (enC x) (i * 4) w some4 j hj
    rw [show 0 + i * 4 + j = i * 4 + j by omega, this, ← hu]
    exact (List.getElem?_eq_getElem _).symm
  · rw [List.getElem_set_ne (fun e2 => e e2.symm)] at hu
    rw [World.cell?_setCells_out g (enC x) (k * 4) w _ (fun _ _ => by show 0 + i * 4 + j < k * 4 ∨ k * 4 + 4 ≤ 0 + i * 4 + j; omega)]
    exact h.cells i hi j u hu
theorem RowE.behind {w : World} {g o : Nat} {l : List H.En} (h : RowE w g l) (vs : List Value) (ho : l.length * 4 ≤ o) : RowE (w.setCells g o vs) g l := by
  refine ⟨Nat.lt_of_lt_of_le h.lt (below_cells g (Nat.le_refl _) vs o (Below.refl g w)).size, fun i hi j u hu => ?_, fun j => by rw [World.frozen?_setCells]; exact h.thaw j⟩
  have hj : j < 4 := by
    have := (List.getElem?_eq_some_iff.1 hu).1
    rw [eEc.len] at this; exact this
  show (w.setCells g o vs).cell? ⟨g, 0 + i * 4 + j, none⟩ = some u
  rw [World.cell?_setCells_out g vs o w _ (fun _ _ => by show 0 + i * 4 + j < o ∨ _; omega)]
  exact h.cells i hi j u hu
/-- clear, of entries of the call's own. -/
theorem run_clear_ent (w : World) (g o n c : Nat) (hn : 0 < n) (hc : ∀ j, j < n * 4 → (w.cell? ⟨g, o + j, none⟩).isSome = true) (hf : ∀ j, j < n * 4 → w.frozen? ⟨g, o + j, none⟩ = false) :
    ∃ vs : List Value, vs.length = n * 4 ∧ ∀ ty : TypeId, (Builtin.clear_ #[25] ty #[.slice (some ⟨g, o, none⟩) n c]).run Tryz.prog w = .ok (.tuple #[]) (w.setCells g o vs) := by
  obtain ⟨i0, hi0, hz0, hz1, hz2⟩ := info_parts eEc.hin
  have hv : ∀ w, (zeroValue 35).run Tryz.prog w = .ok zeroEn w := fun w => by
    have e : Tryz.prog.info? 35 = some i0 := hi0
    have e2 : i0.zero = some zeroEn := hz0
    simp [zeroValue, typeInfo, e, e2]
  have hu : Tryz.prog.underlying 25 = some (.slice 35) := Tryz.underlying25
  obtain ⟨vs, hvs⟩ : ∃ vs, (Builtin.zeroCells zeroEn.cells n).toList = vs := ⟨_, rfl⟩
  have hl : vs.length = n * 4 := by rw [← hvs, Array.length_toList, size_zeroCells]; rfl
  have h1 : ∀ v ∈ vs, v.oneCell' = true := by
    rw [← hvs]
    refine zeroCells_one _ ?_ n
    decide +kernel
  have hst := run_storeCells_cells (P := Tryz.prog) g o vs 0 w (by rw [hl]; simpa using hc) (by rw [hl]; simpa using hf) h1
  simp only [Nat.add_zero] at hst
  obtain ⟨m, rfl⟩ : ∃ m, n = m + 1 := ⟨n - 1, by omega⟩
  refine ⟨vs, hl, fun ty => ?_⟩
  simp [Builtin.clear_, run_underlying hu, hv, hvs, hst]
/-- How far slices.Compact is: of the first q entries of X those of Y are left, in the first kk places. -/
structure InE (w : World) (g : Nat) (X Y : List H.En) (wr : World) (q kk : Nat) : Prop where
  len : Y.length = kk
  sq : Y = H.sqE (X.take q)
  row : RowE wr g (Y ++ X.drop kk)
  low : Below g w wr
theorem InE.at_ {w wr : World} {g q kk : Nat} {X Y : List H.En} (h : InE w g X Y wr q kk) {a : Nat} (ha : kk ≤ a) : (Y ++ X.drop kk)[a]? = X[a]? := by
  rw [List.getElem?_append_right (by rw [h.len]; exact ha), List.getElem?_drop, h.len, Nat.add_sub_cancel' ha]
theorem InE.full {w wr : World} {g q kk : Nat} {X Y : List H.En} (h : InE w g X Y wr q kk) (hk : kk ≤ X.length) : (Y ++ X.drop kk).length = X.length := by
  rw [List.length_append, h.len, List.length_drop]; omega
theorem InE.skip {w wr w' : World} {g q kk : Nat} {X Y : List H.En} (h : InE w g X Y wr q kk) (hb : Below wr.heap.size wr w') {q' : Nat} (hq : H.sqE (X.take q') = H.sqE (X.take q)) : InE w g X Y w' q' kk :=
  ⟨h.len, h.sq.trans hq.symm, h.row.keep hb h.row.lt, h.low.trans (hb.mono (Nat.le_of_lt h.row.lt))⟩
theorem setE_drop {α : Type} (Y X : List α) (k : Nat) (hY : Y.length = k) (hk : k < X.length) (x : α) : (Y ++ X.drop k).set k x = (Y ++ [x]) ++ X.drop (k + 1) := by
  subst hY
  obtain ⟨r, hr⟩ : ∃ r, X.drop (Y.length + 1) = r := ⟨_, rfl⟩
  obtain ⟨y, hy⟩ : ∃ y, X[Y.length] = y := ⟨_, rfl⟩
  rw [show X.drop Y.length = y :: r by rw [← hr, ← hy]; exact (List.getElem_cons_drop hk).symm, hr]
  simp
theorem InE.put {w wr w' : World} {g q kk : Nat} {X Y : List H.En} (h : InE w g X Y wr q kk) (hb : Below wr.heap.size wr w') {q' : Nat} {p : H.En} (hk : kk < X.length) (hq : H.sqE (X.take q') = H.sqE (X.take q) ++ [p]) : InE w g X (Y ++ [p]) (w'.setCells g (kk * 4) (enC p)) q' (kk + 1) := by
  have h2 := (h.row.keep hb h.row.lt).put (k := kk) (by rw [h.full (Nat.le_of_lt hk)]; exact hk) p
  rw [setE_drop _ _ _ h.len hk] at h2
  exact ⟨by rw [List.length_append, h.len]; rfl, by rw [hq, h.sq], h2, below_cells g (Nat.le_refl _) _ _ (h.low.trans (hb.mono (Nat.le_of_lt h.row.lt)))⟩
end Go.Proofs.YtfcikfohmehmkaaGreatDoor
