/-
  Contracts of the document's answer for layer 9 (ferryslipref09): ahead. Condition: at most 2^30 words.
  Paths in memory (layer 9): what a slice of them holds, one of the call's own, and what append does to it. Condition: at most 2^40 elements.
  The document's put of layer 9 (ferryslipref09): a path goes where it belongs, once. Condition: at most 100000 paths in order.
  The document's state and Decided of layer 9 (ferryslipref09). Condition: trees.
  The document's Paths of layer 9 (ferryslipref09): the paths of three trees, in order. Condition: trees.
-/
import Derived.Test.YtfajfjocpgbmeaaMergeA
import Derived.Test.YtfajfjocpgbmeaaParsePut
import Derived.Test.YtfajfjocpgbmeaaOwnMany
import Derived.Test.YtfajfjocpgbmeaaTreeE
import Derived.Test.YtfajfjocpgbmeaaPureQ
import Derived.Test.YtfajfjocpgbmeaaParseC
import Derived.Test.YtfajfjocpgbmeaaLinesC
import Derived.Test.YtfajfjocpgbmeaaLinesP
import Derived.Test.YtfajfjocpgbmeaaDiffB

namespace Go.Proofs.Ytfajfjocpgbmeaa
open Go.RowKit
set_option linter.unusedVariables false

theorem pless_at {p q : T.Pth} {k : Nat} (h : p.take k = q.take k) (h1 : k < p.length) (h2 : k < q.length) (hne : p[k] ≠ q[k]) : T.pless p q = Op.bytesLess p[k] q[k] := by
  have e1 : p = p.take k ++ (p[k] :: p.drop (k + 1)) := by rw [← List.drop_eq_getElem_cons h1, List.take_append_drop]
  have e2 : q = p.take k ++ (q[k] :: q.drop (k + 1)) := by rw [h, ← List.drop_eq_getElem_cons h2, List.take_append_drop]
  have e3 : T.pless p q = T.pless (p.take k ++ (p[k] :: p.drop (k + 1))) (p.take k ++ (q[k] :: q.drop (k + 1))) := by rw [← e1, ← e2]
  rw [e3, T.pless_app, Bool.eq_iff_iff, T.pless_cons]
  constructor
  · rintro (h | ⟨h, _⟩)
    · exact h
    · exact absurd h hne
  · exact .inl
theorem pless_end {p q : T.Pth} {k : Nat} (h : p.take k = q.take k) (hk : k = p.length ∨ k = q.length) (h1 : k ≤ p.length) (h2 : k ≤ q.length) : T.pless p q = decide (p.length < q.length) := by
  have e1 : p = p.take k ++ p.drop k := (List.take_append_drop k p).symm
  have e2 : q = p.take k ++ q.drop k := by rw [h]; exact (List.take_append_drop k q).symm
  have e3 : T.pless p q = T.pless (p.take k ++ p.drop k) (p.take k ++ q.drop k) := by rw [← e1, ← e2]
  rw [e3, T.pless_app]
  rcases hk with hk | hk
  · have hp : p.drop k = [] := List.drop_of_length_le (by omega)
    rw [hp]
    by_cases hq : q.length ≤ k
    · rw [List.drop_of_length_le hq, T.pless_irr]
      exact (decide_eq_false (by omega)).symm
    · rw [show decide (p.length < q.length) = true from decide_eq_true (by omega)]
      have := T.pless_more [] (q.drop k) (fun e => by have := congrArg List.length e; rw [List.length_drop, List.length_nil] at this; omega)
      simpa using this
  · have hq : q.drop k = [] := List.drop_of_length_le (by omega)
    rw [hq, show decide (p.length < q.length) = false from decide_eq_false (by omega)]
    cases p.drop k <;> rfl
set_option maxRecDepth 100000 in
set_option maxHeartbeats 4000000 in
theorem aheadR (A B : Option Addr) (c d n m : Nat) (p q : T.Pth) (r : Bool) (w : World) (hr : T.pless p q = r) (hn : p.length = n) (hm : q.length = m) (hl : n ≤ 1073741824) (hl2 : m ≤ 1073741824) (hA : Seen eS w A p) (hB : Seen eS w B q) :
    Calls Try.prog 60 #[.slice A n c, .slice B m d] w (BoolS w r) := by
  have HA := Lib.hid hA
  have HB := Lib.hid hB
  have H1 := Lib.hid hn
  have H2 := Lib.hid hm
  have HR := Lib.hid hr
  clear hA hB hn hm hr
  go_enter Try.func60, Try.ntmps60
  go_wp2
  go_loopg [5] n (fun g i wr => ∃ k : Nat, Hid (k + g = n) ∧ k ≤ n ∧ k ≤ m ∧ i = .int .i64 k ∧ Hid (p.take k = q.take k) ∧ Below w.heap.size w wr)
  case atStart => exact ⟨0, Nat.zero_add _, Nat.zero_le _, Nat.zero_le _, rfl, rfl, Below.refl _ _⟩
  case round =>
    obtain ⟨k, HG, hk, hkm, rfl, HI, hb⟩ := hrel
    by_cases hlt : k < n
    · have blt : decide ((k : Int) < (n : Int)) = true := decide_eq_true (by omega)
      have blt2 : decide (k < n) = true := decide_eq_true hlt
      by_cases hlt2 : k < m
      · have clt : decide ((k : Int) < (m : Int)) = true := decide_eq_true (by omega)
        have clt2 : decide (k < m) = true := decide_eq_true hlt2
        have hk1 : k < p.length := by have := H1.out; omega
        have hk2 : k < q.length := by have := H2.out; omega
        have hki : (k : Int) < (n : Int) := by omega
        have hki2 : (k : Int) < (m : Int) := by omega
        obtain ⟨b1, o1, rfl, hw1, hL1⟩ := HA.out (by omega)
        obtain ⟨b2, o2, rfl, hw2, hL2⟩ := HB.out (by omega)
        have c1 := (hL1.below hb hw1).str hk1
        have c2 := (hL2.below hb hw2).str hk2
        by_cases he : p[k] = q[k]
        · have HN := Lib.hid (take_next HI.out hk1 hk2 he)
          rw [← he] at c2
          clear he hL1 hL2
          go_wp2
          go_region
          go_wp2
          go_roundg (n - (k + 1))
          case rel => exact ⟨k + 1, (by show _ = _; omega), by omega, by omega, by go_num, HN, hb.drew⟩
          case measure => have := HG.out; omega
        · have hne := sB_ne he
          have HN := Lib.hid (show Op.bytesLess (sB p[k]).toList (sB q[k]).toList = r by rw [sB_toList, sB_toList, ← pless_at HI.out hk1 hk2 he]; exact HR.out)
          clear he hL1 hL2
          go_wp2
          go_region
          go_wp2
          go_region
          go_wp2
          go_ret
          rw [HN.out]
          exact ⟨rfl, hb.drew.drew⟩
      · have clt : decide ((k : Int) < (m : Int)) = false := decide_eq_false (by omega)
        have clt2 : decide (k < m) = false := decide_eq_false hlt2
        have HN := Lib.hid (show decide ((n : Int) < (m : Int)) = r by
          rw [← HR.out, pless_end HI.out (.inr (by have := H2.out; omega)) (by have := H1.out; omega) (by have := H2.out; omega), H1.out, H2.out]
          exact decide_eq_decide.2 (by omega))
        go_wp2
        go_ret
        have h9 := HN.out
        exact ⟨by first | (rw [h9]) | simpa using h9, hb⟩
    · have blt : decide ((k : Int) < (n : Int)) = false := decide_eq_false (by omega)
      have blt2 : decide (k < n) = false := decide_eq_false hlt
      have HN := Lib.hid (show decide ((n : Int) < (m : Int)) = r by
        rw [← HR.out, pless_end HI.out (.inl (by have := H1.out; omega)) (by have := H1.out; omega) (by have := H2.out; omega), H1.out, H2.out]
        exact decide_eq_decide.2 (by omega))
      go_wp2
      go_ret
      have h9 := HN.out
      exact ⟨by first | (rw [h9]) | simpa using h9, hb⟩
end Go.Proofs.Ytfajfjocpgbmeaa

namespace Go.Proofs.Ytfajfjocpgbmeaa
open Go.RowKit
set_option linter.unusedVariables false

/-- A change, as its cells have it. -/
structure PtM where
  A : Option Addr
  n : Nat
  c : Nat
def ptC (x : PtM) : List Value := [.slice x.A x.n x.c]
def eQ : Elem PtM where
  st := 25
  T := 36
  sz := 1
  zero := .slice none 0 0
  by_ := 24
  C := ptC
  hst := Try.underlying25
  hin := by kernel_rfl
  hzs := rfl
  hsz := by decide
  hby := by decide
  len := fun _ => rfl
  one := fun x u hu => by simp [ptC] at hu; subst hu; rfl
theorem Holds.ptQ {w : World} {b o : Nat} {l : List PtM} (h : Holds eQ w b o l) {i : Nat} (hi : i < l.length) : w.cell? ⟨b, o + i, none⟩ = some (.slice l[i].A l[i].n l[i].c) := by
  have := h i hi 0 _ rfl
  rw [show (eQ.sz : Nat) = 1 from rfl, Nat.mul_one] at this
  exact this
/-- A change's cells say it. -/
structure PtS (w : World) (m : PtM) (x : T.Pth) : Prop where
  len : x.length = m.n
  cap : m.n ≤ m.c
  seen : Seen eS w m.A x
theorem PtS.below {w w1 : World} {m : PtM} {x : T.Pth} (h : PtS w m x) (hb : Below w.heap.size w w1) : PtS w1 m x := ⟨h.len, h.cap, h.seen.below hb⟩
/-- A slice of this address reads as these changes. -/
def SeenQ (E : Elem PtM) (w : World) (A : Option Addr) (L : List T.Pth) : Prop := ∃ M : List PtM, M.length = L.length ∧ Seen E w A M ∧ ∀ i (h1 : i < M.length) (h2 : i < L.length), PtS w M[i] L[i]
theorem SeenQ.below {E : Elem PtM} {w w1 : World} {A : Option Addr} {L : List T.Pth} (h : SeenQ E w A L) (hb : Below w.heap.size w w1) : SeenQ E w1 A L := by
  obtain ⟨M, h1, h2, h3⟩ := h
  exact ⟨M, h1, h2.below hb, fun i h4 h5 => (h3 i h4 h5).below hb⟩
theorem SeenQ.nil {E : Elem PtM} {w : World} {A : Option Addr} : SeenQ E w A [] := ⟨[], rfl, Seen.nil, fun i h => absurd h (Nat.not_lt_zero i)⟩
/-- What comes out of a call, as such. -/
theorem SeenQ.seenP {w : World} {A : Option Addr} {L : List T.Pth} (h : SeenQ eQ w A L) : SeenP w A L := by
  obtain ⟨M, h1, h2, h3⟩ := h
  intro hl
  obtain ⟨b, o, rfl, hb, hH⟩ := h2 (by omega)
  refine ⟨b, o, rfl, hb, fun i hi => ?_⟩
  have hc := h3 i (by omega) hi
  have h4 := hH.ptQ (i := i) (by omega)
  rw [hc.len]
  exact ⟨_, _, h4, hc.cap, hc.seen⟩
/-- A change's path lies outside a slice's own row. -/
def FreeQ (v : Value) (m : PtM) (x : T.Pth) : Prop := 0 < x.length → ∀ a, m.A = some a → v.ownBlock ≠ some a.block
/-- A slice value owns these changes; their paths lie elsewhere. -/
def OwnQ (E : Elem PtM) (w : World) (base : Nat) (v : Value) (L : List T.Pth) : Prop := ∃ M : List PtM, M.length = L.length ∧ Own E w base v M ∧ ∀ i (h1 : i < M.length) (h2 : i < L.length), PtS w M[i] L[i] ∧ FreeQ v M[i] L[i]
theorem OwnQ.nil (E : Elem PtM) (w : World) (base : Nat) : OwnQ E w base (.slice none 0 0) [] := ⟨[], rfl, Own.nil _ _, fun i h => absurd h (Nat.not_lt_zero i)⟩
theorem OwnQ.keep {E : Elem PtM} {w w1 : World} {base : Nat} {v : Value} {L : List T.Pth} (h : OwnQ E w base v L) (hb : Below w.heap.size w w1) : OwnQ E w1 base v L := by
  obtain ⟨M, h1, h2, h3⟩ := h
  exact ⟨M, h1, h2.keep hb, fun i h4 h5 => ⟨(h3 i h4 h5).1.below hb, (h3 i h4 h5).2⟩⟩
theorem OwnQ.base {E : Elem PtM} {w : World} {b1 b2 : Nat} {v : Value} {L : List T.Pth} (h : OwnQ E w b1 v L) (hb : b2 ≤ b1) : OwnQ E w b2 v L := by
  obtain ⟨M, h1, h2, h3⟩ := h
  exact ⟨M, h1, h2.base hb, h3⟩
theorem OwnQ.seen {E : Elem PtM} {w : World} {base : Nat} {v : Value} {L : List T.Pth} (h : OwnQ E w base v L) : ∃ A cap, v = .slice A L.length cap ∧ L.length ≤ cap ∧ SeenQ E w A L := by
  obtain ⟨M, h1, h2, h3⟩ := h
  obtain ⟨A, cap, e, h4, h5⟩ := h2.seen
  rw [h1] at e h4
  exact ⟨A, cap, e, h4, M, h1, h5, fun i h6 h7 => (h3 i h6 h7).1⟩
/-- One more. -/
theorem OwnQ.snoc {E : Elem PtM} {w w' : World} {base : Nat} {v v' : Value} {M : List PtM} {L : List T.Pth} {m : PtM} {x : T.Pth} (hl : M.length = L.length) (he : ∀ i (h1 : i < M.length) (h2 : i < L.length), PtS w M[i] L[i] ∧ FreeQ v M[i] L[i])
    (hx : PtS w m x) (hf : FreeQ v m x) (hg : Grew E w w' base v v' (M ++ [m])) : OwnQ E w' base v' (L ++ [x]) := by
  have step : ∀ (m : PtM) (x : T.Pth), PtS w m x → FreeQ v m x → PtS w' m x ∧ FreeQ v' m x := by
    intro m x hx hf
    refine ⟨⟨hx.len, hx.cap, fun hp => ?_⟩, fun hp a ha e => ?_⟩
    · obtain ⟨b, o, e, hb, hH⟩ := hx.seen hp
      have hne := hf hp _ e
      exact ⟨b, o, e, Nat.lt_of_lt_of_le hb hg.grown.size, holds_of_block hH (hg.grown.block b hb (fun e => hne e.symm))⟩
    · obtain ⟨b, o, e2, hb, _⟩ := hx.seen hp
      have hne := hf hp a ha
      have eb : a.block = b := by rw [e2] at ha; injection ha with ha; rw [← ha]
      rcases hg.at_ with h | ⟨g, h, h4⟩
      · rw [h] at e; exact hne e
      · rw [h] at e; injection e with e; omega
  refine ⟨M ++ [m], by rw [List.length_append, List.length_append, hl]; rfl, hg.own, fun i h1 h2 => ?_⟩
  rw [List.length_append, List.length_singleton] at h1
  by_cases hi : i < M.length
  · rw [List.getElem_append_left hi, List.getElem_append_left (by omega)]
    exact step _ _ (he i hi (by omega)).1 (he i hi (by omega)).2
  · obtain rfl : i = M.length := by omega
    have e1 : (M ++ [m])[M.length]'(by simp) = m := by simp
    have e2 : (L ++ [x])[M.length]'(by rw [List.length_append, hl]; simp) = x := by simp [hl]
    rw [e1, e2]
    exact step _ _ hx hf
/-- append of one change. -/
theorem wpList_appQ (E : Elem PtM) {ops : Array Oper} {rest : List Oper} {o : Oper} {a : Act} {Q : Exit → Act → World → Prop} (w : World) (hgd : o.guard = none) (s x : Operand)
    (ho : o.op = .call { callee := .builtin .append, args := #[s, x], argTypes := #[E.st, E.st] })
    (base : Nat) (v : Value) (L : List T.Pth) (hs : a.eval s = v) (hown : OwnQ E w base v L) (y : T.Pth) (m : PtM) (hy : PtS w m y) (hf : FreeQ v m y) (cap : Nat) (cs : Array Value) (hcs : cs.toList = E.C m)
    (g : Nat) (hg : w.heap.size = g) (hx : a.eval x = .slice (some ⟨g, 0, none⟩) 1 cap) (hlen : L.length + 1 ≤ 1099511627776) (hb : base ≤ w.heap.size)
    (h : ∀ v' w', OwnQ E w' base v' (L ++ [y]) → Below base w w' → wpList Try.prog ops Q rest (a.put o.dst v') w') : wpList Try.prog ops Q (o :: rest) a (w.alloc (.cells cs E.T)) := by
  obtain ⟨M, h1, h2, h3⟩ := hown
  exact wpList_app3 E w hgd s x ho base v M hs h2 m cap cs hcs g hg hx (by omega) hb fun v' w' hG => h v' w' (OwnQ.snoc h1 h3 hy hf hG) (hG.below h2 hb)
/-- What lies in newer memory lies outside an elder slice's row. -/
theorem FreeQ.born {E : Elem PtM} {w : World} {base k : Nat} {v : Value} {L : List T.Pth} {m : PtM} {x : T.Pth} (h : OwnQ E w base v L) (hk : w.heap.size ≤ k) (hm : ∀ a, m.A = some a → k ≤ a.block) : FreeQ v m x := by
  intro _ a ha e
  obtain ⟨M, _, h2, _⟩ := h
  have := (h2.lt _ e).2
  have := hm a ha
  omega
end Go.Proofs.Ytfajfjocpgbmeaa

namespace Go.Proofs.Ytfajfjocpgbmeaa
open Go.RowKit
set_option linter.unusedVariables false

theorem insU_after {p x : T.Pth} : ∀ {l : List T.Pth}, p ∉ l → (∃ y ∈ l, T.pless p y = true) → T.insU p (l ++ [x]) = T.insU p l ++ [x]
  | [], _, h => by obtain ⟨y, hy, _⟩ := h; cases hy
  | r :: l, hp, h => by
    have h1 : p ≠ r := fun e => hp (by rw [e]; simp)
    have h2 : p ∉ l := fun e => hp (List.mem_cons_of_mem _ e)
    rw [List.cons_append, T.insU, T.insU, if_neg h1, if_neg h1]
    by_cases h3 : T.pless p r = true
    · rw [if_pos h3, if_pos h3]; rfl
    · rw [if_neg h3, if_neg h3, List.cons_append]
      obtain ⟨y, hy, hy2⟩ := h
      rcases List.mem_cons.1 hy with rfl | hy
      · exact absurd hy2 h3
      · rw [insU_after h2 ⟨y, hy, hy2⟩]
theorem insU_all {p : T.Pth} (r : List T.Pth) : ∀ {l : List T.Pth}, (∀ y ∈ l, T.pless y p = true) → T.insU p (l ++ r) = l ++ T.insU p r
  | [], _ => rfl
  | q :: l, h => by
    have h0 := h q (by simp)
    have h1 : p ≠ q := fun e => by rw [e, T.pless_irr] at h0; cases h0
    have h2 : ¬ T.pless p q = true := fun e => by rw [T.pless_asymm h0] at e; cases e
    rw [List.cons_append, T.insU, if_neg h1, if_neg h2, insU_all r fun y hy => h y (List.mem_cons_of_mem _ hy), List.cons_append]
theorem insU_last {p : T.Pth} {l : List T.Pth} (h : ∀ y ∈ l, T.pless y p = true) : T.insU p l = l ++ [p] := by
  have := insU_all [] h
  rw [List.append_nil] at this
  exact this
theorem insU_here {p x : T.Pth} {l : List T.Pth} (h : ∀ y ∈ l, T.pless y p = true) (hx : T.pless p x = true) : T.insU p (l ++ [x]) = l ++ [p] ++ [x] := by
  have h1 : p ≠ x := fun e => by rw [e, T.pless_irr] at hx; cases hx
  rw [insU_all [x] h, T.insU, if_neg h1, if_pos hx, List.append_assoc]; rfl
theorem insU_same {p : T.Pth} {l : List T.Pth} (ha : T.Asc l) (h : p ∈ l) : T.insU p l = l := T.Asc.ext (T.asc_insU p l ha) ha fun x => by
  rw [T.mem_insU]
  exact ⟨fun e => e.elim (fun e => e ▸ h) id, .inr⟩
theorem FreeQ.elder {w w0 : World} {base : Nat} {v : Value} {L : List T.Pth} {m : PtM} {x : T.Pth} (h : OwnQ eQ w base v L) (hx : Seen eS w0 m.A x) (hb : w0.heap.size ≤ base) : FreeQ v m x := by
  intro hp a ha e
  obtain ⟨M, _, h2, _⟩ := h
  obtain ⟨b, o, e2, hb2, _⟩ := hx hp
  rw [e2] at ha
  injection ha with ha
  have h3 := (h2.lt _ e).1
  rw [← ha] at h3
  have h4 : base ≤ b := h3
  omega
theorem equalNo (A B : Option Addr) (c d n m : Nat) (l1 l2 : List (List UInt8)) (w : World) (h : l1 ≠ l2) (hn : l1.length = n) (hm : l2.length = m) (hl : n ≤ 1073741824) (hA : Seen eS w A l1) (hB : Seen eS w B l2) :
    Calls Try.prog 22 #[.slice A n c, .slice B m d] w (BoolS w false) := by
  have := equal_any A B c d l1 l2 w (by omega) hA hB
  rw [decide_eq_false h, hn, hm] at this
  exact this
/-- A slice of paths. -/
def PutS (w : World) (L : List T.Pth) (e : Ending) (w' : World) : Prop := ∃ A c, e = .returned (.slice A L.length c) ∧ SeenQ eQ w' A L ∧ Below w.heap.size w w'
set_option maxRecDepth 100000 in
set_option maxHeartbeats 4000000 in
theorem putR (A B : Option Addr) (c d n m : Nat) (L : List T.Pth) (p : T.Pth) (w : World) (hn : L.length = n) (hm : p.length = m) (hd : m ≤ d) (hn6 : n ≤ 100000) (hm30 : m ≤ 1073741824) (hp30 : ∀ x ∈ L, x.length ≤ 1073741824) (hA : SeenQ eQ w A L) (hB : Seen eS w B p) (ha : T.Asc L) :
    Calls Try.prog 43 #[.slice A n c, .slice B m d] w (PutS w (T.insU p L)) := by
  have HA := Lib.hid hA
  have HB := Lib.hid hB
  have HN := Lib.hid hn
  have HM := Lib.hid hm
  have HP := Lib.hid hp30
  have HS := Lib.hid ha
  clear hA hB hn hm hp30 ha
  go_enter Try.func43, Try.ntmps43
  go_wp2
  go_loopg [5, 6, 7] n (fun gk v5 v6 v7 wr => ∃ (k : Nat) (dn : Bool) (O : List T.Pth), Hid (k + gk = n) ∧ k ≤ n ∧ v7 = .int .i64 (k : Int) ∧ v6 = .bool dn ∧ Hid (OwnQ eQ wr w.heap.size v5 O) ∧ Hid (O = if dn = true then T.insU p (L.take k) else L.take k) ∧ Hid (p ∉ L.take k) ∧ Hid (dn = false → ∀ x ∈ L.take k, T.pless x p = true) ∧ Hid (dn = true → ∃ y ∈ L.take k, T.pless p y = true) ∧ O.length ≤ k + 1 ∧ Below w.heap.size w wr)
  case atStart => exact ⟨0, false, [], Nat.zero_add _, Nat.zero_le _, rfl, rfl, OwnQ.nil _ _ _, rfl, (by show _ ∉ _; simp), (fun _ x hx => by simp at hx), (fun h => by cases h), by simp, Below.refl _ _⟩
  case round =>
    obtain ⟨k, dn, O, HG, hk, rfl, rfl, HO, HE, HNI, HALL, HEX, hOl, hb⟩ := hrel
    by_cases hlt : k < n
    · have blt : decide ((k : Int) < (n : Int)) = true := decide_eq_true (by omega)
      have blt2 : decide (k < n) = true := decide_eq_true hlt
      have hki : (k : Int) < (n : Int) := by omega
      have hkL : k < L.length := by have := HN.out; omega
      obtain ⟨M, hMl, hMs, hMe⟩ := HA.out
      obtain ⟨b, o, rfl, hbw, hH⟩ := hMs (by omega)
      have hpt := hMe k (by omega) hkL
      obtain ⟨mm, hmm⟩ : ∃ mm, M[k]'(by omega) = mm := ⟨_, rfl⟩
      have hcell := (hH.below hb hbw).ptQ (i := k) (by omega)
      rw [hmm] at hpt hcell
      have HT := Lib.hid (show L.take (k + 1) = L.take k ++ [L[k]] from List.take_succ_eq_append_getElem hkL)
      have HMEM := Lib.hid (show L[k] ∈ L from List.getElem_mem hkL)
      obtain ⟨x, hx⟩ : ∃ x, L[k] = x := ⟨_, rfl⟩
      rw [hx] at hpt HT HMEM
      obtain ⟨MA, mn, mc⟩ := mm
      have HPT := Lib.hid hpt
      have HXN := Lib.hid hpt.len
      have hxs := HPT.out.seen
      have hxl : mn ≤ 1073741824 := by have := HP.out x HMEM.out; have h2 := hpt.len; simp only at h2; omega
      have hgk := HG.out
      simp only at hcell hxs hxl
      have HXS := Lib.hid hxs
      clear hx hH hMe hMs hpt hmm hMl hxs
      by_cases hxp : x = p
      · subst hxp
        have HIN := Lib.hid (show T.insU x L = L from insU_same HS.out HMEM.out)
        go_wp2_with fail
        refine (equal_yes MA B mc d x x mn m _ rfl HXN.out HM.out hxl (HXS.out.below hb) (HB.out.below hb)).mono ?_
        rintro e w2 ⟨rfl, hx⟩
        go_wp2
        go_ret
        refine ⟨some ⟨b, o, none⟩, c, ?_, ?_, bthen hb hx⟩
        rotate_left
        · rw [HIN.out]; exact HA.out.below (bthen hb hx)
        · rw [HIN.out, HN.out]; rfl
      · have HXP := Lib.hid hxp
        have HNI2 := Lib.hid (show p ∉ L.take (k + 1) by rw [HT.out]; intro h; rcases List.mem_append.1 h with h | h; exact HNI.out h; exact HXP.out (List.mem_singleton.1 h).symm)
        clear hxp
        go_wp2_with fail
        refine (equalNo MA B mc d mn m x p _ HXP.out HXN.out HM.out hxl (HXS.out.below hb) (HB.out.below hb)).mono ?_
        rintro e w2 ⟨rfl, hx2⟩
        have hb2 := bthen hb hx2
        have HO2 := Lib.hid (HO.out.keep hx2)
        have hcell2 := (hx2.cell (p := ⟨b, o + k, none⟩) (Nat.lt_of_lt_of_le hbw hb.size)).trans hcell
        cases dn with
        | true =>
          have HEX1 := Lib.hid (HEX.out rfl)
          have HIU := Lib.hid (show O ++ [x] = T.insU p (L.take (k + 1)) by have := HE.out; rw [if_pos rfl] at this; rw [this, HT.out, insU_after HNI.out (HEX.out rfl)])
          go_wp2_with (at_builtin; refine wpList_appQ eQ w2 rfl (.tmp 35) (.tmp 40) rfl w.heap.size u5 O rfl HO2.out x ⟨MA, mn, mc⟩ (HPT.out.below hb2) (FreeQ.elder HO2.out HXS.out (Nat.le_refl _)) 1 _ rfl w2.heap.size rfl rfl (by omega) hb2.size ?_; intro v4 w4 hown4 hb4)
          go_roundg (n - (k + 1))
          case rel => exact ⟨k + 1, true, O ++ [x], (by show _ = _; omega), by omega, by go_num, rfl, Lib.hid hown4, Lib.hid (by show _ = _; rw [if_pos rfl]; exact HIU.out), HNI2, Lib.hid (by intro h; cases h), Lib.hid (by intro _; obtain ⟨y, h1, h2⟩ := HEX1.out; exact ⟨y, by rw [HT.out]; exact List.mem_append_left _ h1, h2⟩), (by rw [List.length_append, List.length_singleton]; omega), hb2.trans hb4⟩
          case measure => omega
        | false =>
          have HALL1 := Lib.hid (HALL.out rfl)
          cases hr : T.pless p x with
          | true =>
            have HIU := Lib.hid (show O ++ [p] ++ [x] = T.insU p (L.take (k + 1)) by have := HE.out; rw [if_neg (by simp)] at this; rw [this, HT.out, insU_here (HALL.out rfl) hr])
            have HR := Lib.hid hr
            clear hr
            go_wp2_with fail
            refine (aheadR B MA d mc m mn p x true _ HR.out HM.out HXN.out hm30 hxl (HB.out.below hb2) (HXS.out.below hb2)).mono ?_
            rintro e w3 ⟨rfl, hx3⟩
            have hb3 := bthen hb2 hx3
            have HO3 := Lib.hid (HO2.out.keep hx3)
            have hcell3 := (hx3.cell (p := ⟨b, o + k, none⟩) (Nat.lt_of_lt_of_le hbw hb2.size)).trans hcell2
            go_wp2_with (first | (at_builtin; refine wpList_appQ eQ w3 rfl (.tmp 31) (.tmp 33) rfl w.heap.size u5 O rfl HO3.out p ⟨B, m, d⟩ ⟨HM.out, hd, HB.out.below hb3⟩ (FreeQ.elder HO3.out HB.out (Nat.le_refl _)) 1 _ rfl w3.heap.size rfl rfl (by omega) hb3.size ?_; intro v5 w5 hown5 hb5; have hb5w := hb3.trans hb5; have hcell5 := (hb5.cell (p := ⟨b, o + k, none⟩) hbw).trans hcell3) | (at_builtin; refine wpList_appQ eQ w5 rfl (.tmp 35) (.tmp 40) rfl w.heap.size v5 (O ++ [p]) rfl hown5 x ⟨MA, mn, mc⟩ (HPT.out.below hb5w) (FreeQ.elder hown5 HXS.out (Nat.le_refl _)) 1 _ rfl w5.heap.size rfl rfl (by rw [List.length_append, List.length_singleton]; omega) hb5w.size ?_; intro v4 w4 hown4 hb4))
            go_roundg (n - (k + 1))
            case rel => exact ⟨k + 1, true, O ++ [p] ++ [x], (by show _ = _; omega), by omega, by go_num, rfl, Lib.hid hown4, Lib.hid (by show _ = _; rw [if_pos rfl]; exact HIU.out), HNI2, Lib.hid (by intro h; cases h), Lib.hid (by intro _; exact ⟨x, by rw [HT.out]; simp, HR.out⟩), (by rw [HIU.out]; have := T.insU_len p (L.take (k + 1)); rw [List.length_take] at this; omega), hb5w.trans hb4⟩
            case measure => omega
          | false =>
            have HXL := Lib.hid (show T.pless x p = true by rcases T.pless_tri x p with h | h | h; exact h; exact absurd h HXP.out; rw [hr] at h; cases h)
            have HIU := Lib.hid (show O ++ [x] = L.take (k + 1) by have := HE.out; rw [if_neg (by simp)] at this; rw [this, HT.out])
            have HR := Lib.hid hr
            clear hr
            go_wp2_with fail
            refine (aheadR B MA d mc m mn p x false _ HR.out HM.out HXN.out hm30 hxl (HB.out.below hb2) (HXS.out.below hb2)).mono ?_
            rintro e w3 ⟨rfl, hx3⟩
            have hb3 := bthen hb2 hx3
            have HO3 := Lib.hid (HO2.out.keep hx3)
            have hcell3 := (hx3.cell (p := ⟨b, o + k, none⟩) (Nat.lt_of_lt_of_le hbw hb2.size)).trans hcell2
            go_wp2_with (at_builtin; refine wpList_appQ eQ w3 rfl (.tmp 35) (.tmp 40) rfl w.heap.size u5 O rfl HO3.out x ⟨MA, mn, mc⟩ (HPT.out.below hb3) (FreeQ.elder HO3.out HXS.out (Nat.le_refl _)) 1 _ rfl w3.heap.size rfl rfl (by omega) hb3.size ?_; intro v4 w4 hown4 hb4)
            go_roundg (n - (k + 1))
            case rel => exact ⟨k + 1, false, O ++ [x], (by show _ = _; omega), by omega, by go_num, rfl, Lib.hid hown4, Lib.hid (by show _ = _; rw [if_neg (by simp)]; exact HIU.out), HNI2, Lib.hid (by intro _ y hy; rw [HT.out] at hy; rcases List.mem_append.1 hy with h | h; exact HALL1.out y h; rw [List.mem_singleton.1 h]; exact HXL.out), Lib.hid (by intro h; cases h), (by rw [List.length_append, List.length_singleton]; omega), hb3.trans hb4⟩
            case measure => omega
    · have blt : decide ((k : Int) < (n : Int)) = false := decide_eq_false (by omega)
      have blt2 : decide (k < n) = false := decide_eq_false hlt
      have HTK := Lib.hid (show L.take k = L from List.take_of_length_le (by have := HN.out; omega))
      cases dn with
      | true =>
        have HIU := Lib.hid (show O = T.insU p L by have := HE.out; rw [if_pos rfl, HTK.out] at this; exact this)
        obtain ⟨A1, c1, rfl, hc1, hs1⟩ := HO.out.seen
        have HS1 := Lib.hid hs1
        clear hs1
        go_wp2
        go_ret
        exact ⟨A1, c1, by rw [HIU.out]; rfl, by rw [← HIU.out]; exact HS1.out, hb⟩
      | false =>
        have HIU := Lib.hid (show O ++ [p] = T.insU p L by have := HE.out; rw [if_neg (by simp), HTK.out] at this; rw [this, insU_last (by have := HALL.out rfl; rw [HTK.out] at this; exact this)])
        go_wp2_with (at_builtin; refine wpList_appQ eQ wr rfl (.tmp 44) (.tmp 46) rfl w.heap.size u5 O rfl HO.out p ⟨B, m, d⟩ ⟨HM.out, hd, HB.out.below hb⟩ (FreeQ.elder HO.out HB.out (Nat.le_refl _)) 1 _ rfl wr.heap.size rfl rfl (by omega) hb.size ?_; intro v5 w5 hown5 hb5; obtain ⟨A1, c1, rfl, hc1, hs1⟩ := hown5.seen)
        go_ret
        exact ⟨A1, c1, by rw [← HIU.out, List.length_append]; rfl, by rw [← HIU.out]; exact hs1, hb.trans hb5⟩
end Go.Proofs.Ytfajfjocpgbmeaa

namespace Go.Proofs.Ytfajfjocpgbmeaa
open Go.RowKit
set_option linter.unusedVariables false

set_option maxRecDepth 100000 in
theorem stateR (A B : Option Addr) (c d n m : Nat) (t : List T.Ln) (p : T.Pth) (s : Int) (w : World) (hA : TArg w A c n t) (hm : p.length = m) (hp : m ≤ 1073741824) (hB : Seen eS w B p) (hR : T.RightT t) (hs : T.stO t p = s) :
    Calls Try.prog 45 #[.slice A n c, .slice B m d] w (IntS w s) := by
  have HA := Lib.hid hA
  have HB := Lib.hid hB
  have HM := Lib.hid hm
  have HR := Lib.hid hR
  have HS := Lib.hid hs
  have hnl := hA.hl
  clear hA hB hm hR hs
  rcases T.findI_cases t p with ⟨e, hno⟩ | ⟨i, hi, e, hpi⟩
  · have HE := Lib.hid e
    have HV := Lib.hid (show s = -1 by rw [← HS.out]; exact T.st_no fun ⟨j, hj, ej⟩ => hno j hj ej)
    clear e hno
    go_enter Try.func45, Try.ntmps45
    go_wp2_with fail
    refine (refFindI A B c d n m t p (-1) _ HA.out.hn HM.out HA.out.hA HB.out hnl hp HR.out HE.out).mono ?_
    rintro e w1 ⟨rfl, hx⟩
    go_wp2
    go_ret
    exact ⟨by rw [HV.out]; rfl, hx⟩
  · have HE := Lib.hid e
    have hin : i < n := by rw [← HA.out.hn]; exact hi
    have hii : (i : Int) < (n : Int) := by omega
    have b0 : decide ((i : Int) < 0) = false := decide_eq_false (by omega)
    obtain ⟨mk, hmk⟩ : ∃ mk, (T.at_ t i).mark = mk := ⟨_, rfl⟩
    have HV := Lib.hid (show s = mk by rw [← HS.out, ← hmk]; exact HR.out.st_at ((T.mem_entries t p _).2 ⟨i, hi, hpi, rfl⟩))
    have HMK := Lib.hid hmk
    clear e hpi hmk
    go_enter Try.func45, Try.ntmps45
    go_wp2_with fail
    refine (refFindI A B c d n m t p (i : Int) _ HA.out.hn HM.out HA.out.hA HB.out hnl hp HR.out HE.out).mono ?_
    rintro e w1 ⟨rfl, hx⟩
    obtain ⟨b, o, rfl, hbw, hH⟩ := (HA.out.hA.below hx).lines (by omega)
    have c2 := (hH.line hi).2.2
    rw [HMK.out] at c2
    clear hH
    go_wp2
    go_ret
    exact ⟨by rw [HV.out]; rfl, hx⟩
set_option maxRecDepth 100000 in
set_option maxHeartbeats 2000000 in
theorem decidedR (A B C D : Option Addr) (c d f g n m k q : Nat) (b s t : List T.Ln) (p : T.Pth) (r : Int) (w : World) (hA : TArg w A c n b) (hB : TArg w B d m s) (hC : TArg w C f k t) (hq : p.length = q) (hp : q ≤ 1073741824) (hD : Seen eS w D p) (h1 : T.RightT b) (h2 : T.RightT s) (h3 : T.RightT t) (hr : T.decO b s t p = r) :
    Calls Try.prog 27 #[.slice A n c, .slice B m d, .slice C k f, .slice D q g] w (IntS w r) := by
  have HA := Lib.hid hA
  have HB := Lib.hid hB
  have HC := Lib.hid hC
  have HD := Lib.hid hD
  have HQ := Lib.hid hq
  have H1 := Lib.hid h1
  have H2 := Lib.hid h2
  have H3 := Lib.hid h3
  obtain ⟨x, hx⟩ : ∃ x, T.stO b p = x := ⟨_, rfl⟩
  obtain ⟨y, hy⟩ : ∃ y, T.stO s p = y := ⟨_, rfl⟩
  obtain ⟨z, hz⟩ : ∃ z, T.stO t p = z := ⟨_, rfl⟩
  have HR := Lib.hid (show T.dec3 x y z = r by rw [← hr, ← hx, ← hy, ← hz]; rfl)
  have HX := Lib.hid hx
  have HY := Lib.hid hy
  have HZ := Lib.hid hz
  have hb : Below w.heap.size w w := Below.refl _ _
  clear hA hB hC hD hq h1 h2 h3 hr hx hy hz
  go_enter Try.func27, Try.ntmps27
  go_wp2_with fail
  refine (stateR A D c g n q b p x _ HA.out HQ.out hp HD.out H1.out HX.out).mono ?_
  rintro e w1 ⟨rfl, hx⟩
  replace HB := Lib.hid (HB.out.below hx)
  replace HC := Lib.hid (HC.out.below hx)
  replace HD := Lib.hid (HD.out.below hx)
  replace hb := bthen hb hx
  clear hx
  go_wp2_with fail
  refine (stateR B D d g m q s p y _ HB.out HQ.out hp HD.out H2.out HY.out).mono ?_
  rintro e w2 ⟨rfl, hx⟩
  replace HC := Lib.hid (HC.out.below hx)
  replace HD := Lib.hid (HD.out.below hx)
  replace hb := bthen hb hx
  clear hx
  have HV := Lib.hid (show (y = z ∧ r = y) ∨ (y ≠ z ∧ y = x ∧ r = z) ∨ (y ≠ z ∧ y ≠ x ∧ z = x ∧ r = y) ∨ (y ≠ z ∧ y ≠ x ∧ z ≠ x ∧ r = -2) by
    have h := HR.out
    unfold T.dec3 at h
    by_cases e1 : y = z
    · rw [if_pos e1] at h; exact .inl ⟨e1, h.symm⟩
    · rw [if_neg e1] at h
      by_cases e2 : y = x
      · rw [if_pos e2] at h; exact .inr (.inl ⟨e1, e2, h.symm⟩)
      · rw [if_neg e2] at h
        by_cases e3 : z = x
        · rw [if_pos e3] at h; exact .inr (.inr (.inl ⟨e1, e2, e3, h.symm⟩))
        · rw [if_neg e3] at h; exact .inr (.inr (.inr ⟨e1, e2, e3, h.symm⟩)))
  go_wp2_with fail
  refine (stateR C D f g k q t p z _ HC.out HQ.out hp HD.out H3.out HZ.out).mono ?_
  rintro e w3 ⟨rfl, hx⟩
  replace hb := bthen hb hx
  clear hx HR HX HY HZ
  rcases HV.out with ⟨e1, e4⟩ | ⟨e1, e2, e4⟩ | ⟨e1, e2, e3, e4⟩ | ⟨e1, e2, e3, e4⟩
  · have b1 : (y == z) = true := by rw [e1]; simp
    have HE := Lib.hid e4
    clear e1 e4 HV
    go_wp2
    go_ret
    exact ⟨by rw [HE.out]; rfl, hb⟩
  · have b1 : (y == z) = false := beq_eq_false_iff_ne.2 e1
    have b2 : (y == x) = true := by rw [e2]; simp
    have HE := Lib.hid e4
    clear e1 e2 e4 HV
    go_wp2
    go_ret
    exact ⟨by rw [HE.out]; rfl, hb⟩
  · have b1 : (y == z) = false := beq_eq_false_iff_ne.2 e1
    have b2 : (y == x) = false := beq_eq_false_iff_ne.2 e2
    have b3 : (z == x) = true := by rw [e3]; simp
    have HE := Lib.hid e4
    clear e1 e2 e3 e4 HV
    go_wp2
    go_ret
    exact ⟨by rw [HE.out]; rfl, hb⟩
  · have b1 : (y == z) = false := beq_eq_false_iff_ne.2 e1
    have b2 : (y == x) = false := beq_eq_false_iff_ne.2 e2
    have b3 : (z == x) = false := beq_eq_false_iff_ne.2 e3
    have HE := Lib.hid e4
    clear e1 e2 e3 e4 HV
    go_wp2
    go_ret
    exact ⟨by rw [HE.out]; rfl, hb⟩
end Go.Proofs.Ytfajfjocpgbmeaa

namespace Go.Proofs.Ytfajfjocpgbmeaa
open Go.RowKit
set_option linter.unusedVariables false

/-- Paths of trees, in order, some. -/
structure FewP (L : List T.Pth) (K : Nat) : Prop where
  asc : T.Asc L
  len : L.length ≤ K
  each : ∀ x ∈ L, x.length ≤ 16
theorem FewP.ins {L : List T.Pth} {K : Nat} (h : FewP L K) {p : T.Pth} (hp : p.length ≤ 16) : FewP (T.insU p L) (K + 1) := ⟨T.asc_insU p L h.asc, Nat.le_trans (T.insU_len p L) (Nat.succ_le_succ h.len), fun x hx => by
  rcases (T.mem_insU p x L).1 hx with rfl | hx
  · exact hp
  · exact h.each x hx⟩
theorem paths_next (t : List T.Ln) {k : Nat} (hk : k < t.length) : (T.pathsL t).take (k + 1) = (T.pathsL t).take k ++ [T.pathL t k] := by
  unfold T.pathsL
  rw [← List.map_take, ← List.map_take, entries_next t hk, List.map_append]; rfl
theorem paths_all (t : List T.Ln) {k : Nat} (hk : t.length ≤ k) : (T.pathsL t).take k = T.pathsL t := List.take_of_length_le (by rw [T.paths_len]; exact hk)
set_option maxRecDepth 100000 in
set_option maxHeartbeats 4000000 in
theorem pathsR (A B C : Option Addr) (c d f n m k : Nat) (b s t : List T.Ln) (w : World) (hA : TArg w A c n b) (hB : TArg w B d m s) (hC : TArg w C f k t) (h1 : T.RightT b) (h2 : T.RightT s) (h3 : T.RightT t) :
    Calls Try.prog 26 #[.slice A n c, .slice B m d, .slice C k f] w (PutS w (T.allP b s t)) := by
  have hn200 : n ≤ 200 := by rw [← hA.hn]; exact h1.len
  have hm200 : m ≤ 200 := by rw [← hB.hn]; exact h2.len
  have hk200 : k ≤ 200 := by rw [← hC.hn]; exact h3.len
  have HA := Lib.hid hA
  have HB := Lib.hid hB
  have HC := Lib.hid hC
  have H1 := Lib.hid h1
  have H2 := Lib.hid h2
  have H3 := Lib.hid h3
  have hb : Below w.heap.size w w := Below.refl _ _
  obtain ⟨L1, hL1⟩ : ∃ L1, T.addU [] (T.pathsL b) = L1 := ⟨_, rfl⟩
  obtain ⟨L2, hL2⟩ : ∃ L2, T.addU L1 (T.pathsL s) = L2 := ⟨_, rfl⟩
  obtain ⟨L3, hL3⟩ : ∃ L3, T.addU L2 (T.pathsL t) = L3 := ⟨_, rfl⟩
  have HALL := Lib.hid (show T.allP b s t = L3 by rw [← hL3, ← hL2, ← hL1]; rfl)
  have HL1 := Lib.hid hL1
  have HL2 := Lib.hid hL2
  have HL3 := Lib.hid hL3
  clear hA hB hC h1 h2 h3 hL1 hL2 hL3
  go_enter Try.func26, Try.ntmps26
  go_wp2
  go_loopg [7, 8] n (fun gk v7 vi wr => ∃ (i : Nat) (Ao : Option Addr) (co : Nat) (O : List T.Pth), Hid (i + gk = n) ∧ i ≤ n ∧ vi = .int .i64 (i : Int) ∧ v7 = .slice Ao O.length co ∧ Hid (SeenQ eQ wr Ao O) ∧ Hid (O = T.addU ([] : List T.Pth) ((T.pathsL b).take i)) ∧ Hid (FewP O (0 + i)) ∧ Below w.heap.size w wr)
  case atStart => exact ⟨0, none, 0, [], Nat.zero_add _, Nat.zero_le _, rfl, rfl, SeenQ.nil, rfl, ⟨List.Pairwise.nil, Nat.le_refl _, fun x hx => by cases hx⟩, Below.refl _ _⟩
  case round =>
    obtain ⟨i, Ao, co, O, HG, hi, rfl, rfl, HSQ, HE, HFW, hb⟩ := hrel
    by_cases hlt : i < n
    · have blt : decide ((i : Int) < (n : Int)) = true := decide_eq_true (by omega)
      have blt2 : decide (i < n) = true := decide_eq_true hlt
      have hii : (i : Int) < (n : Int) := by omega
      have hiL : i < b.length := by have := HA.out.hn; omega
      obtain ⟨P, hP⟩ : ∃ P, T.pathL b i = P := ⟨_, rfl⟩
      have hdeep := S.RightN.path_deep H1.out hiL
      have HN2 := Lib.hid (paths_next b hiL)
      rw [hP] at hdeep HN2
      obtain ⟨q, hq⟩ : ∃ q, P.length = q + 1 := ⟨P.length - 1, by omega⟩
      have hq16 : q + 1 ≤ 16 := by omega
      have HP := Lib.hid hP
      have HQ := Lib.hid hq
      obtain ⟨no, hno⟩ : ∃ no, O.length = no := ⟨_, rfl⟩
      have HNO := Lib.hid hno
      have hno6 : no ≤ 600 := by rw [← hno]; have := HFW.out.len; omega
      have HIU := Lib.hid (show T.insU P O = T.addU ([] : List T.Pth) ((T.pathsL b).take (i + 1)) by rw [HN2.out, T.addU_snoc, ← HE.out])
      have HF2 := Lib.hid (show FewP (T.insU P O) (0 + (i + 1)) from HFW.out.ins (p := P) (by rw [hq]; exact hq16))
      have hgk := HG.out
      rw [hno]
      clear hP hq hdeep hno
      go_wp2_with fail
      refine (refPathF A c n i q b P _ HA.out.hn (HA.out.hA.below hb) (by omega) hlt H1.out HP.out HQ.out).mono ?_
      rintro e w1 ⟨pb, po, pc, rfl, hpc, _, hpb, hH, hx⟩
      have HH := Lib.hid (hH.seen hpb)
      replace HSQ := Lib.hid (HSQ.out.below hx)
      replace hb := bthen hb hx
      clear hx hH
      go_wp2_with fail
      refine (putR Ao (some ⟨pb, po, none⟩) co pc no (q + 1) O P _ HNO.out HQ.out hpc (by omega) (by omega) (fun x hx => by have := HFW.out.each x hx; omega) HSQ.out HH.out HFW.out.asc).mono ?_
      rintro e w2 ⟨A2, c2, rfl, hs2, hx⟩
      have HS2 := Lib.hid hs2
      replace hb := bthen hb hx
      clear hx hs2
      go_wp2
      go_roundg (n - (i + 1))
      case rel => exact ⟨i + 1, A2, c2, T.insU P O, (by show _ = _; omega), by omega, by go_num, rfl, HS2, HIU, HF2, hb⟩
      case measure => omega
    · have blt : decide ((i : Int) < (n : Int)) = false := decide_eq_false (by omega)
      have blt2 : decide (i < n) = false := decide_eq_false hlt
      obtain rfl : L1 = O := by rw [HE.out, paths_all b (by have := HA.out.hn; omega)]; exact HL1.out.symm
      clear HE
      have hi200 : i ≤ 200 := by omega
      replace HFW := Lib.hid (show FewP L1 200 from ⟨HFW.out.asc, Nat.le_trans HFW.out.len (by omega), HFW.out.each⟩)
      clear hi200 hlt hi HG
      go_wp2
      go_loopg [7, 9] m (fun gk v7 vi wr => ∃ (i : Nat) (Ao : Option Addr) (co : Nat) (O : List T.Pth), Hid (i + gk = m) ∧ i ≤ m ∧ vi = .int .i64 (i : Int) ∧ v7 = .slice Ao O.length co ∧ Hid (SeenQ eQ wr Ao O) ∧ Hid (O = T.addU L1 ((T.pathsL s).take i)) ∧ Hid (FewP O (200 + i)) ∧ Below w.heap.size w wr)
      case atStart => exact ⟨0, Ao, co, L1, Nat.zero_add _, Nat.zero_le _, rfl, rfl, HSQ.out, (by show _ = _; rw [List.take_zero]; rfl), ⟨HFW.out.asc, Nat.le_trans HFW.out.len (by omega), HFW.out.each⟩, hb⟩
      case round =>
        obtain ⟨i, Ao, co, O, HG, hi, rfl, rfl, HSQ, HE, HFW, hb⟩ := hrel
        by_cases hlt : i < m
        · have blt : decide ((i : Int) < (m : Int)) = true := decide_eq_true (by omega)
          have blt2 : decide (i < m) = true := decide_eq_true hlt
          have hii : (i : Int) < (m : Int) := by omega
          have hiL : i < s.length := by have := HB.out.hn; omega
          obtain ⟨P, hP⟩ : ∃ P, T.pathL s i = P := ⟨_, rfl⟩
          have hdeep := S.RightN.path_deep H2.out hiL
          have HN2 := Lib.hid (paths_next s hiL)
          rw [hP] at hdeep HN2
          obtain ⟨q, hq⟩ : ∃ q, P.length = q + 1 := ⟨P.length - 1, by omega⟩
          have hq16 : q + 1 ≤ 16 := by omega
          have HP := Lib.hid hP
          have HQ := Lib.hid hq
          obtain ⟨no, hno⟩ : ∃ no, O.length = no := ⟨_, rfl⟩
          have HNO := Lib.hid hno
          have hno6 : no ≤ 600 := by rw [← hno]; have := HFW.out.len; omega
          have HIU := Lib.hid (show T.insU P O = T.addU L1 ((T.pathsL s).take (i + 1)) by rw [HN2.out, T.addU_snoc, ← HE.out])
          have HF2 := Lib.hid (show FewP (T.insU P O) (200 + (i + 1)) from HFW.out.ins (p := P) (by rw [hq]; exact hq16))
          have hgk := HG.out
          rw [hno]
          clear hP hq hdeep hno
          go_wp2_with fail
          refine (refPathF B d m i q s P _ HB.out.hn (HB.out.hA.below hb) (by omega) hlt H2.out HP.out HQ.out).mono ?_
          rintro e w1 ⟨pb, po, pc, rfl, hpc, _, hpb, hH, hx⟩
          have HH := Lib.hid (hH.seen hpb)
          replace HSQ := Lib.hid (HSQ.out.below hx)
          replace hb := bthen hb hx
          clear hx hH
          go_wp2_with fail
          refine (putR Ao (some ⟨pb, po, none⟩) co pc no (q + 1) O P _ HNO.out HQ.out hpc (by omega) (by omega) (fun x hx => by have := HFW.out.each x hx; omega) HSQ.out HH.out HFW.out.asc).mono ?_
          rintro e w2 ⟨A2, c2, rfl, hs2, hx⟩
          have HS2 := Lib.hid hs2
          replace hb := bthen hb hx
          clear hx hs2
          go_wp2
          go_roundg (m - (i + 1))
          case rel => exact ⟨i + 1, A2, c2, T.insU P O, (by show _ = _; omega), by omega, by go_num, rfl, HS2, HIU, HF2, hb⟩
          case measure => omega
        · have blt : decide ((i : Int) < (m : Int)) = false := decide_eq_false (by omega)
          have blt2 : decide (i < m) = false := decide_eq_false hlt
          obtain rfl : L2 = O := by rw [HE.out, paths_all s (by have := HB.out.hn; omega)]; exact HL2.out.symm
          clear HE
          have hi200 : i ≤ 200 := by omega
          replace HFW := Lib.hid (show FewP L2 400 from ⟨HFW.out.asc, Nat.le_trans HFW.out.len (by omega), HFW.out.each⟩)
          clear hi200 hlt hi HG
          go_wp2
          go_loopg [7, 10] k (fun gk v7 vi wr => ∃ (i : Nat) (Ao : Option Addr) (co : Nat) (O : List T.Pth), Hid (i + gk = k) ∧ i ≤ k ∧ vi = .int .i64 (i : Int) ∧ v7 = .slice Ao O.length co ∧ Hid (SeenQ eQ wr Ao O) ∧ Hid (O = T.addU L2 ((T.pathsL t).take i)) ∧ Hid (FewP O (400 + i)) ∧ Below w.heap.size w wr)
          case atStart => exact ⟨0, Ao, co, L2, Nat.zero_add _, Nat.zero_le _, rfl, rfl, HSQ.out, (by show _ = _; rw [List.take_zero]; rfl), ⟨HFW.out.asc, Nat.le_trans HFW.out.len (by omega), HFW.out.each⟩, hb⟩
          case round =>
            obtain ⟨i, Ao, co, O, HG, hi, rfl, rfl, HSQ, HE, HFW, hb⟩ := hrel
            by_cases hlt : i < k
            · have blt : decide ((i : Int) < (k : Int)) = true := decide_eq_true (by omega)
              have blt2 : decide (i < k) = true := decide_eq_true hlt
              have hii : (i : Int) < (k : Int) := by omega
              have hiL : i < t.length := by have := HC.out.hn; omega
              obtain ⟨P, hP⟩ : ∃ P, T.pathL t i = P := ⟨_, rfl⟩
              have hdeep := S.RightN.path_deep H3.out hiL
              have HN2 := Lib.hid (paths_next t hiL)
              rw [hP] at hdeep HN2
              obtain ⟨q, hq⟩ : ∃ q, P.length = q + 1 := ⟨P.length - 1, by omega⟩
              have hq16 : q + 1 ≤ 16 := by omega
              have HP := Lib.hid hP
              have HQ := Lib.hid hq
              obtain ⟨no, hno⟩ : ∃ no, O.length = no := ⟨_, rfl⟩
              have HNO := Lib.hid hno
              have hno6 : no ≤ 600 := by rw [← hno]; have := HFW.out.len; omega
              have HIU := Lib.hid (show T.insU P O = T.addU L2 ((T.pathsL t).take (i + 1)) by rw [HN2.out, T.addU_snoc, ← HE.out])
              have HF2 := Lib.hid (show FewP (T.insU P O) (400 + (i + 1)) from HFW.out.ins (p := P) (by rw [hq]; exact hq16))
              have hgk := HG.out
              rw [hno]
              clear hP hq hdeep hno
              go_wp2_with fail
              refine (refPathF C f k i q t P _ HC.out.hn (HC.out.hA.below hb) (by omega) hlt H3.out HP.out HQ.out).mono ?_
              rintro e w1 ⟨pb, po, pc, rfl, hpc, _, hpb, hH, hx⟩
              have HH := Lib.hid (hH.seen hpb)
              replace HSQ := Lib.hid (HSQ.out.below hx)
              replace hb := bthen hb hx
              clear hx hH
              go_wp2_with fail
              refine (putR Ao (some ⟨pb, po, none⟩) co pc no (q + 1) O P _ HNO.out HQ.out hpc (by omega) (by omega) (fun x hx => by have := HFW.out.each x hx; omega) HSQ.out HH.out HFW.out.asc).mono ?_
              rintro e w2 ⟨A2, c2, rfl, hs2, hx⟩
              have HS2 := Lib.hid hs2
              replace hb := bthen hb hx
              clear hx hs2
              go_wp2
              go_roundg (k - (i + 1))
              case rel => exact ⟨i + 1, A2, c2, T.insU P O, (by show _ = _; omega), by omega, by go_num, rfl, HS2, HIU, HF2, hb⟩
              case measure => omega
            · have blt : decide ((i : Int) < (k : Int)) = false := decide_eq_false (by omega)
              have blt2 : decide (i < k) = false := decide_eq_false hlt
              obtain rfl : L3 = O := by rw [HE.out, paths_all t (by have := HC.out.hn; omega)]; exact HL3.out.symm
              clear HE
              go_wp2
              go_ret
              exact ⟨Ao, co, by rw [HALL.out]; rfl, by rw [HALL.out]; exact HSQ.out, hb⟩
end Go.Proofs.Ytfajfjocpgbmeaa
