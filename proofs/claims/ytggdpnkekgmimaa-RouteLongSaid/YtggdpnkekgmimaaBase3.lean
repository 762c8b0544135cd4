/-
  Plain laws for layer 15: where an address goes, by entries; which rules count; whether a packet may. No conditions.
  slices.Delete and clear at lines of the call's own; elements stored over others. Condition: at most 2^30 lines.
  The document's side of layer 10 (ferryslipref10): Num, parts, IP, Power, Right, Prefix, value, MAC, Digits, IPText, hex, MACText, In. Condition: texts of at most 2^30 bytes.
  The document's side of layer 10 (ferryslipref10), further: IP, Power, Right, value, Digits, IPText, hex, MACText. Condition: texts of at most 2^30 bytes.
  The document's side of layer 10 (ferryslipref10), last: MACText, Prefix, In, MAC. Condition: texts of at most 2^30 bytes.
  Layer 10: what addr does, as one premise (AddrOk); and that 'awake' is true under it. No conditions.
  Plain laws for layer 10's code: a text cut at a byte's first place; bits of numbers; a hardware address read byte by byte. No conditions.
  Layer 10's code: isBelow, isPrefix, number, Num, In. No conditions but the texts' length.
  What the library proves once of internal/stringslite.Index at one byte, strings.CutPrefix, and strings.TrimRight of one byte, at this program's numbers; strings.Cut at one byte, walked. No conditions.
-/
import Derived.Test.YtggdpnkekgmimaaBase2
import Derived.StillTailTactics
import Derived.ArgAppend
import Derived.Lib.AppendZeros
import Derived.Lib.AppendZerosOnto
import Derived.Deep.LoopGhost
import Derived.WalkMore
import Derived.Deep.QuietTactic
import Derived.BigQuiet
import Derived.Deep.RegionHeld3
import Derived.Shelf.Strconv.Itoa3
import Derived.Lib.AppendIntMem
import Derived.Lib.IndexLaws
import Derived.Laws.Bits64b
import Derived.Laws.BitsLemmas
import Derived.IntWalk
import Derived.Shelf.Strings.Search2
import Derived.Shelf.Strings.Trim
import Derived.Shelf.Small.Wraps
import Derived.Shelf.Strconv.AppendIntPublic10
import Derived.Shelf.Small.Strs

namespace Go.Proofs.Ytggdpnkekgmimaa.O
open H (En)
set_option linter.unusedVariables false

abbrev Wd := List UInt8
-- ROUTES
def bitsE (e : En) : Int := (N.prefL e.key).2
/-- Is an entry a route of a host that takes an address? -/
def hitB (h : Wd) (ip : Int) (e : En) : Bool := decide (e.host = h) && decide (e.kind = 4) && decide (0 ≤ (N.prefL e.key).1) && N.inB (N.prefL e.key).1 (N.prefL e.key).2 ip
/-- The first one of the greatest length. -/
def bestE : List En → Option En
  | [] => none
  | e :: r => match bestE r with
    | none => some e
    | some x => if bitsE x ≤ bitsE e then some e else some x
def lookE (l : List En) (h : Wd) (ip : Int) : Option En := bestE (l.filter (hitB h ip))
def lookS (l : List En) (h : Wd) (ip : Int) : Wd := match lookE l h ip with | none => [] | some e => e.val
def lookB (l : List En) (h : Wd) (ip : Int) : Bool := (lookE l h ip).isSome
theorem best_none {l : List En} : bestE l = none ↔ l = [] := by
  cases l with
  | nil => exact ⟨fun _ => rfl, fun _ => rfl⟩
  | cons e r =>
    constructor
    · intro h
      unfold bestE at h
      cases hr : bestE r with
      | none => rw [hr] at h; cases h
      | some x =>
        rw [hr] at h
        by_cases hx : bitsE x ≤ bitsE e
        · simp only [if_pos hx] at h; cases h
        · simp only [if_neg hx] at h; cases h
    · intro h; cases h
theorem best_some : ∀ {l : List En} {x : En}, bestE l = some x → x ∈ l ∧ ∀ y ∈ l, bitsE y ≤ bitsE x
  | [], x, h => by cases h
  | e :: r, x, h => by
    unfold bestE at h
    cases hr : bestE r with
    | none =>
      rw [hr] at h
      obtain rfl : e = x := Option.some.inj h
      have hn := best_none.1 hr
      subst hn
      exact ⟨List.mem_cons_self .., fun y hy => by
        rcases List.mem_cons.1 hy with rfl | hy
        · exact Int.le_refl _
        · cases hy⟩
    | some z =>
      rw [hr] at h
      obtain ⟨h1, h2⟩ := best_some hr
      by_cases hx : bitsE z ≤ bitsE e
      · simp only [if_pos hx] at h
        obtain rfl : e = x := Option.some.inj h
        exact ⟨List.mem_cons_self .., fun y hy => by
          rcases List.mem_cons.1 hy with rfl | hy
          · exact Int.le_refl _
          · exact Int.le_trans (h2 y hy) hx⟩
      · simp only [if_neg hx] at h
        obtain rfl : z = x := Option.some.inj h
        exact ⟨List.mem_cons_of_mem _ h1, fun y hy => by
          rcases List.mem_cons.1 hy with rfl | hy
          · omega
          · exact h2 y hy⟩
theorem best_snoc (e : En) : ∀ l : List En, bestE (l ++ [e]) = match bestE l with | none => some e | some x => if bitsE x < bitsE e then some e else some x
  | [] => rfl
  | a :: r => by
    rw [List.cons_append]
    show (match bestE (r ++ [e]) with | none => some a | some x => if bitsE x ≤ bitsE a then some a else some x) = match (match bestE r with | none => some a | some x => if bitsE x ≤ bitsE a then some a else some x) with | none => some e | some x => if bitsE x < bitsE e then some e else some x
    rw [best_snoc e r]
    cases hr : bestE r with
    | none =>
      show (if bitsE e ≤ bitsE a then some a else some e) = if bitsE a < bitsE e then some e else some a
      by_cases h : bitsE a < bitsE e
      · rw [if_pos h, if_neg (by omega)]
      · rw [if_neg h, if_pos (by omega)]
    | some z =>
      simp only []
      by_cases h1 : bitsE z < bitsE e
      · simp only [if_pos h1]
        by_cases h2 : bitsE z ≤ bitsE a
        · simp only [if_pos h2]
          by_cases h : bitsE a < bitsE e
          · rw [if_pos h, if_neg (by omega)]
          · rw [if_neg h, if_pos (by omega)]
        · simp only [if_neg h2, if_pos h1]
          rw [if_neg (by omega)]
      · simp only [if_neg h1]
        by_cases h2 : bitsE z ≤ bitsE a
        · simp only [if_pos h2]
          rw [if_neg (by omega)]
        · simp only [if_neg h2, if_neg h1]
/-- What is told of the first entries, one more looked at. -/
theorem look_next {l : List En} {h : Wd} {ip : Int} {i : Nat} (hi : i < l.length) : lookE (l.take (i + 1)) h ip = if hitB h ip l[i] = true then (match lookE (l.take i) h ip with | none => some l[i] | some x => if bitsE x < bitsE l[i] then some l[i] else some x) else lookE (l.take i) h ip := by
  unfold lookE
  rw [List.take_succ_eq_append_getElem hi, List.filter_append]
  by_cases hh : hitB h ip l[i] = true
  · rw [if_pos hh, List.filter_cons_of_pos hh, List.filter_nil, best_snoc]
  · rw [if_neg hh, List.filter_cons_of_neg hh, List.filter_nil, List.append_nil]
theorem look_all (l : List En) (h : Wd) (ip : Int) : lookE (l.take l.length) h ip = lookE l h ip := by rw [List.take_length]
theorem look_yes {l : List En} {h : Wd} {ip : Int} {x : En} (e : lookE l h ip = some x) : x ∈ l ∧ hitB h ip x = true ∧ ∀ y ∈ l, hitB h ip y = true → bitsE y ≤ bitsE x := by
  obtain ⟨h1, h2⟩ := best_some e
  obtain ⟨h3, h4⟩ := List.mem_filter.1 h1
  exact ⟨h3, h4, fun y hy hh => h2 y (List.mem_filter.2 ⟨hy, hh⟩)⟩
theorem look_no {l : List En} {h : Wd} {ip : Int} : lookE l h ip = none ↔ ∀ y ∈ l, hitB h ip y = false := by
  unfold lookE
  rw [best_none, List.filter_eq_nil_iff]
  exact ⟨fun k y hy => by simpa using k y hy, fun k y hy => by rw [k y hy]; decide⟩
theorem look_ok {l : List En} {h : Wd} {ip : Int} {y : En} (hy : y ∈ l) (hh : hitB h ip y = true) : lookB l h ip = true := by
  unfold lookB
  cases e : lookE l h ip with
  | some x => rfl
  | none => rw [look_no.1 e y hy] at hh; cases hh
theorem hit_parts {h : Wd} {ip : Int} {e : En} (k : hitB h ip e = true) : e.host = h ∧ e.kind = 4 ∧ 0 ≤ (N.prefL e.key).1 ∧ N.inB (N.prefL e.key).1 (N.prefL e.key).2 ip = true := by
  unfold hitB at k
  rw [Bool.and_eq_true, Bool.and_eq_true, Bool.and_eq_true, decide_eq_true_eq, decide_eq_true_eq, decide_eq_true_eq] at k
  exact ⟨k.1.1.1, k.1.1.2, k.1.2, k.2⟩
theorem hit_of {h : Wd} {ip : Int} {e : En} (h1 : e.host = h) (h2 : e.kind = 4) (h3 : 0 ≤ (N.prefL e.key).1) (h4 : N.inB (N.prefL e.key).1 (N.prefL e.key).2 ip = true) : hitB h ip e = true := by
  unfold hitB
  rw [decide_eq_true h1, decide_eq_true h2, decide_eq_true h3, h4]; rfl
-- OWN
def ownB (h : Wd) (e : En) : Bool := decide (e.host = h) && (decide (e.kind = 4) || decide (e.kind = 5))
theorem filter_inner {α : Type} {f g : α → Bool} (hfg : ∀ x, f x = true → g x = true) (l : List α) : (l.filter g).filter f = l.filter f := by
  rw [List.filter_filter]
  refine List.filter_congr fun x _ => ?_
  cases hf : f x with
  | true => rw [hfg x hf]; rfl
  | false => rfl
theorem look_own (l : List En) (h : Wd) (ip : Int) : lookE (l.filter (ownB h)) h ip = lookE l h ip := by
  unfold lookE
  rw [filter_inner fun x k => ?_]
  obtain ⟨h1, h2, _⟩ := hit_parts k
  unfold ownB
  rw [decide_eq_true h1, decide_eq_true h2]; rfl
-- RULES
def wPermit : Wd := [112, 101, 114, 109, 105, 116]
def wDeny : Wd := [100, 101, 110, 121]
def soundB (w : Wd) : Bool := decide (w = H.wAny) || decide (0 ≤ (N.prefL w).1)
def coverB (w : Wd) (ip : Int) : Bool := decide (w = H.wAny) || (decide (0 ≤ (N.prefL w).1) && N.inB (N.prefL w).1 (N.prefL w).2 ip)
/-- The three words of a text. -/
def threeL (s : Wd) : Option (Wd × Wd × Wd) := match N.splitL 32 s with
  | [a, b, c] => some (a, b, c)
  | _ => none
/-- A rule's number; 0: it is none. -/
def numE (h : Wd) (e : En) : Int := match threeL e.val with
  | none => 0
  | some (a, b, c) => if e.host = h ∧ e.kind = 5 ∧ 1 ≤ N.numL e.key ∧ N.numL e.key ≤ 1000 ∧ (a = wPermit ∨ a = wDeny) ∧ soundB b = true ∧ soundB c = true then N.numL e.key else 0
def takesB (f t : Int) (e : En) : Bool := match threeL e.val with
  | none => false
  | some (_, b, c) => coverB b f && coverB c t
def grantB (e : En) : Bool := match threeL e.val with
  | none => false
  | some (a, _, _) => decide (a = wPermit)
theorem num_cases (h : Wd) (e : En) : numE h e = 0 ∨ (∃ a b c, threeL e.val = some (a, b, c) ∧ e.host = h ∧ e.kind = 5 ∧ 1 ≤ N.numL e.key ∧ N.numL e.key ≤ 1000 ∧ (a = wPermit ∨ a = wDeny) ∧ soundB b = true ∧ soundB c = true ∧ numE h e = N.numL e.key) := by
  unfold numE
  cases e3 : threeL e.val with
  | none => exact .inl rfl
  | some p =>
    obtain ⟨a, b, c⟩ := p
    simp only []
    by_cases k : e.host = h ∧ e.kind = 5 ∧ 1 ≤ N.numL e.key ∧ N.numL e.key ≤ 1000 ∧ (a = wPermit ∨ a = wDeny) ∧ soundB b = true ∧ soundB c = true
    · obtain ⟨k1, k2, k3, k4, k5, k6, k7⟩ := k
      exact .inr ⟨a, b, c, rfl, k1, k2, k3, k4, k5, k6, k7, if_pos ⟨k1, k2, k3, k4, k5, k6, k7⟩⟩
    · exact .inl (if_neg k)
theorem num_range (h : Wd) (e : En) : 0 ≤ numE h e ∧ numE h e ≤ 1000 := by
  rcases num_cases h e with k | ⟨a, b, c, _, _, _, k1, k2, _, _, _, k⟩
  · omega
  · omega
/-- The places of all rules, number by number. -/
def rulesL (l : List En) (h : Wd) : List Nat := (List.range 1000).flatMap fun k : Nat => (List.range l.length).filter fun i => decide (numE h (l.getD i ⟨[], 0, [], []⟩) = (k : Int) + 1)
/-- May a packet go? The first rule, number by number, that takes it decides. -/
def permB (l : List En) (h : Wd) (f t : Int) : Bool := match (List.range 1000).findSome? fun k : Nat => l.find? fun e => decide (numE h e = (k : Int) + 1) && takesB f t e with
  | none => true
  | some e => grantB e
theorem perm_own (l : List En) (h : Wd) (f t : Int) : permB (l.filter (ownB h)) h f t = permB l h f t := by
  unfold permB
  have e : (fun k : Nat => (l.filter (ownB h)).find? fun e => decide (numE h e = (k : Int) + 1) && takesB f t e) = fun k : Nat => l.find? fun e => decide (numE h e = (k : Int) + 1) && takesB f t e := by
    funext k
    rw [List.find?_filter]
    congr 1
    funext e
    cases hn : decide (numE h e = (k : Int) + 1) with
    | false => simp
    | true =>
      have hn := of_decide_eq_true hn
      rcases num_cases h e with k0 | ⟨_, _, _, _, k1, k2, _⟩
      · omega
      · unfold ownB
        rw [decide_eq_true k1, decide_eq_true k2]
        simp
  rw [e]
theorem mem_rules {l : List En} {h : Wd} {i : Nat} (hi : i < l.length) : i ∈ rulesL l h ↔ 0 < numE h l[i] := by
  unfold rulesL
  rw [List.mem_flatMap]
  have hg : l.getD i ⟨[], 0, [], []⟩ = l[i] := by rw [List.getD_eq_getElem?_getD, List.getElem?_eq_getElem hi]; rfl
  constructor
  · rintro ⟨k, _, hk⟩
    have := of_decide_eq_true (List.mem_filter.1 hk).2
    rw [hg] at this
    omega
  · intro hn
    have hr := num_range h l[i]
    refine ⟨(numE h l[i] - 1).toNat, List.mem_range.2 (by omega), List.mem_filter.2 ⟨List.mem_range.2 hi, decide_eq_true ?_⟩⟩
    rw [hg]; omega
-- ANY ORDER
/-- Entries of which each has a key of its own. -/
def Unlike (l : List En) : Prop := ∀ i j (hi : i < l.length) (hj : j < l.length), j < i → ¬ (l[i].key = l[j].key ∨ (0 ≤ (N.prefL l[i].key).1 ∧ (N.prefL l[i].key).1 = (N.prefL l[j].key).1 ∧ (N.prefL l[i].key).2 = (N.prefL l[j].key).2))
theorem unlike_same {l : List En} (h : Unlike l) {x y : En} (hx : x ∈ l) (hy : y ∈ l) (he : x.key = y.key ∨ (0 ≤ (N.prefL x.key).1 ∧ (N.prefL x.key).1 = (N.prefL y.key).1 ∧ (N.prefL x.key).2 = (N.prefL y.key).2)) : x = y := by
  obtain ⟨i, hi, rfl⟩ := List.getElem_of_mem hx
  obtain ⟨j, hj, rfl⟩ := List.getElem_of_mem hy
  rcases Nat.lt_trichotomy i j with k | k | k
  · refine absurd ?_ (h j i hj hi k)
    rcases he with he | ⟨h1, h2, h3⟩
    · exact .inl he.symm
    · exact .inr ⟨by omega, h2.symm, h3.symm⟩
  · subst k; rfl
  · exact absurd he (h i j hi hj k)
theorem in_same {n m b ip : Int} (h1 : N.inB n b ip = true) (h2 : N.inB m b ip = true) : n = m := by
  unfold N.inB at h1 h2
  rw [Bool.and_eq_true, Bool.and_eq_true, Bool.and_eq_true, decide_eq_true_eq, decide_eq_true_eq, decide_eq_true_eq] at h1 h2
  obtain ⟨⟨⟨r1, _⟩, _⟩, e1⟩ := h1
  obtain ⟨⟨⟨r2, _⟩, _⟩, e2⟩ := h2
  unfold N.rightB at r1 r2
  rw [Bool.and_eq_true, Bool.and_eq_true, Bool.and_eq_true, Bool.and_eq_true, decide_eq_true_eq, decide_eq_true_eq, decide_eq_true_eq, decide_eq_true_eq, decide_eq_true_eq] at r1 r2
  have h5 := r1.2
  have h6 := r2.2
  generalize (((2 ^ (32 - b).toNat : Nat)) : Int) = P at *
  have h3 := Int.mul_ediv_add_emod n P
  have h4 := Int.mul_ediv_add_emod m P
  rw [← h3, ← h4, h5, h6, ← e1, ← e2]
theorem look_members {l u : List En} (hU : Unlike l) (hm : ∀ e, e ∈ u ↔ e ∈ l) (h : Wd) (ip : Int) : lookE u h ip = lookE l h ip := by
  cases e1 : lookE l h ip with
  | none => exact look_no.2 fun y hy => look_no.1 e1 y ((hm y).1 hy)
  | some x =>
    obtain ⟨x1, x2, x3⟩ := look_yes e1
    cases e2 : lookE u h ip with
    | none => rw [look_no.1 e2 x ((hm x).2 x1)] at x2; cases x2
    | some y =>
      obtain ⟨y1, y2, y3⟩ := look_yes e2
      have hb : bitsE y = bitsE x := Int.le_antisymm (x3 y ((hm y).1 y1) y2) (y3 x ((hm x).2 x1) x2)
      obtain ⟨_, _, p1, p2⟩ := hit_parts x2
      obtain ⟨_, _, q1, q2⟩ := hit_parts y2
      have hb2 : (N.prefL y.key).2 = (N.prefL x.key).2 := hb
      rw [hb2] at q2
      rw [unlike_same hU ((hm y).1 y1) x1 (.inr ⟨q1, in_same q2 p2, hb2⟩)]
theorem num_key {a b : Wd} (h : 0 ≤ N.numL a) (e : N.numL a = N.numL b) : a = b := by
  rcases N.num_cases a with k | ⟨n, k1, _, k2⟩
  · omega
  · rcases N.num_cases b with k | ⟨m, m1, _, m2⟩
    · omega
    · rw [← k2, ← m2]
      rw [k1, m1] at e
      rw [show n = m by omega]
theorem find_members {l u : List En} (hm : ∀ e, e ∈ u ↔ e ∈ l) {p : En → Bool} (h1 : ∀ x ∈ l, ∀ y ∈ l, p x = true → p y = true → x = y) : u.find? p = l.find? p := by
  cases e1 : l.find? p with
  | none =>
    rw [List.find?_eq_none] at e1 ⊢
    exact fun x hx => e1 x ((hm x).1 hx)
  | some x =>
    have hx := List.mem_of_find?_eq_some e1
    have hpx := List.find?_some e1
    cases e2 : u.find? p with
    | none =>
      rw [List.find?_eq_none] at e2
      exact absurd hpx (e2 x ((hm x).2 hx))
    | some y =>
      have hy := List.mem_of_find?_eq_some e2
      have hpy := List.find?_some e2
      rw [h1 y ((hm y).1 hy) x hx hpy hpx]
theorem perm_members {l u : List En} (hU : Unlike l) (hm : ∀ e, e ∈ u ↔ e ∈ l) (h : Wd) (f t : Int) : permB u h f t = permB l h f t := by
  unfold permB
  have e : (fun k : Nat => u.find? fun e => decide (numE h e = (k : Int) + 1) && takesB f t e) = fun k : Nat => l.find? fun e => decide (numE h e = (k : Int) + 1) && takesB f t e := by
    funext k
    refine find_members hm fun x hx y hy px py => ?_
    rw [Bool.and_eq_true, decide_eq_true_eq] at px py
    rcases num_cases h x with k0 | ⟨_, _, _, _, _, _, a1, _, _, _, _, a2⟩
    · have := px.1; omega
    · rcases num_cases h y with k0 | ⟨_, _, _, _, _, _, b1, _, _, _, _, b2⟩
      · have := py.1; omega
      · refine unlike_same hU hx hy (.inl (num_key (by omega) ?_))
        have := px.1; have := py.1; omega
  rw [e]
/-- Where an entry goes, when a list is turned. -/
def turnI (n b i : Nat) : Nat := (n - i + b % n) % n
def turnL (l : List En) (b : Nat) : List En := (List.range l.length).map fun i => l.getD (turnI l.length b i) ⟨[], 0, [], []⟩
theorem turn_lt {n b i : Nat} (h : 0 < n) : turnI n b i < n := Nat.mod_lt _ h
theorem turn_back {n b j : Nat} (h : 0 < n) (hj : j < n) : turnI n b (turnI n b j) = j := by
  have hb : b % n < n := Nat.mod_lt _ h
  unfold turnI
  generalize b % n = c at hb
  by_cases h1 : n - j + c < n
  · rw [Nat.mod_eq_of_lt h1]
    have h2 : n - (n - j + c) + c = j := by omega
    rw [h2, Nat.mod_eq_of_lt hj]
  · have h2 : n - j + c = n + (c - j) := by omega
    rw [h2, Nat.add_mod_left]
    by_cases h3 : c - j < n
    · rw [Nat.mod_eq_of_lt h3]
      have h4 : n - (c - j) + c = n + j := by omega
      rw [h4, Nat.add_mod_left, Nat.mod_eq_of_lt hj]
    · omega
theorem mem_turn (l : List En) (b : Nat) (e : En) : e ∈ turnL l b ↔ e ∈ l := by
  unfold turnL
  have hg : ∀ i (hi : i < l.length), l.getD i ⟨[], 0, [], []⟩ = l[i] := fun i hi => by rw [List.getD_eq_getElem?_getD, List.getElem?_eq_getElem hi]; rfl
  constructor
  · intro h
    obtain ⟨i, hi, rfl⟩ := List.mem_map.1 h
    have hi := List.mem_range.1 hi
    have hl := turn_lt (b := b) (i := i) (show 0 < l.length by omega)
    rw [hg _ hl]
    exact List.getElem_mem hl
  · intro h
    obtain ⟨j, hj, rfl⟩ := List.getElem_of_mem h
    have h0 : 0 < l.length := by omega
    refine List.mem_map.2 ⟨turnI l.length b j, List.mem_range.2 (turn_lt h0), ?_⟩
    rw [turn_back h0 hj, hg j hj]
-- ONE MORE
theorem look_more {l : List En} {h : Wd} {ip : Int} {e : En} : lookE (l ++ [e]) h ip = if hitB h ip e = true then (match lookE l h ip with | none => some e | some x => if bitsE x < bitsE e then some e else some x) else lookE l h ip := by
  unfold lookE
  rw [List.filter_append]
  by_cases hh : hitB h ip e = true
  · rw [if_pos hh, List.filter_cons_of_pos hh, List.filter_nil, best_snoc]
  · rw [if_neg hh, List.filter_cons_of_neg hh, List.filter_nil, List.append_nil]
/-- A route to one address alone. -/
def oneE (h : Wd) (a : Nat) : En := ⟨h, 4, N.prefT a 32, [110, 101, 119]⟩
theorem one_pref {a : Nat} (ha : a < 4294967296) : N.prefL (N.prefT a 32) = ((a : Int), 32) := by
  refine N.pref_text a 32 ?_
  rw [N.right_nat a 32 (Nat.le_refl _), decide_eq_true ha]
  simp [Nat.mod_one]
theorem in_one {a : Nat} {ip : Int} (ha : a < 4294967296) : N.inB a 32 ip = true ↔ ip = a := by
  unfold N.inB N.rightB
  simp only [Bool.and_eq_true, decide_eq_true_eq]
  have e : (((2 ^ ((32 : Int) - 32).toNat : Nat)) : Int) = 1 := rfl
  rw [e]
  constructor
  · rintro ⟨⟨⟨_, h1⟩, h2⟩, h3⟩
    rw [Int.ediv_one, Int.ediv_one] at h3
    exact h3
  · rintro rfl
    refine ⟨⟨⟨⟨⟨⟨⟨by omega, by omega⟩, by omega⟩, by omega⟩, by omega⟩, by omega⟩, by omega⟩, rfl⟩
theorem look_one {l : List En} {h : Wd} {a : Nat} (ha : a < 4294967296) (hk : ∀ e ∈ l, e.key ≠ N.prefT a 32) : lookE (l ++ [oneE h a]) h a = some (oneE h a) := by
  have hp : N.prefL (oneE h a).key = ((a : Int), 32) := one_pref ha
  have hh : hitB h a (oneE h a) = true := hit_of rfl rfl (by rw [hp]; show (0 : Int) ≤ (a : Int); omega) (by rw [hp]; exact (in_one ha).2 rfl)
  rw [look_more, if_pos hh]
  cases e : lookE l h a with
  | none => rfl
  | some x =>
    obtain ⟨x1, x2, _⟩ := look_yes e
    obtain ⟨_, _, p1, p2⟩ := hit_parts x2
    have hb : bitsE (oneE h a) = 32 := by unfold bitsE; rw [hp]
    have hlt : bitsE x < 32 := by
      rcases N.pref_cases x.key with k | ⟨n, b, k1, _, _, k3, k4⟩
      · rw [k] at p1; exact absurd p1 (by decide)
      · unfold bitsE
        rw [k1]
        show (b : Int) < 32
        rcases Nat.lt_or_ge b 32 with k5 | k5
        · omega
        · exfalso
          obtain rfl : b = 32 := by omega
          rw [k1] at p2
          have hn : n < 4294967296 := by
            rcases N.pref_cases x.key with k | ⟨n2, b2, k6, _, k7, _, _⟩
            · rw [k1] at k; have := congrArg Prod.fst k; simp only at this; omega
            · rw [k1] at k6; have := congrArg Prod.fst k6; simp only at this; omega
          have := (in_one hn).1 p2
          obtain rfl : a = n := by omega
          exact hk x x1 k4.symm
    simp only [hb, if_pos hlt]
theorem look_other {l : List En} {h : Wd} {a : Nat} {ip : Int} (ha : a < 4294967296) (hne : ip ≠ a) : lookE (l ++ [oneE h a]) h ip = lookE l h ip := by
  have hp : N.prefL (oneE h a).key = ((a : Int), 32) := one_pref ha
  rw [look_more, if_neg]
  intro hh
  obtain ⟨_, _, _, p2⟩ := hit_parts hh
  rw [hp] at p2
  exact hne ((in_one ha).1 p2)
/-- A rule of the number 1 that takes all. -/
def ruleE (h : Wd) (b : Bool) : En := ⟨h, 5, [49], (if b = true then wPermit else wDeny) ++ 32 :: (H.wAny ++ 32 :: H.wAny)⟩
theorem rule_three (h : Wd) (b : Bool) : threeL (ruleE h b).val = some (if b = true then wPermit else wDeny, H.wAny, H.wAny) := by
  have h1 : threeL (wPermit ++ 32 :: (H.wAny ++ 32 :: H.wAny)) = some (wPermit, H.wAny, H.wAny) := by decide +kernel
  have h2 : threeL (wDeny ++ 32 :: (H.wAny ++ 32 :: H.wAny)) = some (wDeny, H.wAny, H.wAny) := by decide +kernel
  cases b with
  | true => exact h1
  | false => exact h2
theorem rule_num (h : Wd) (b : Bool) : numE h (ruleE h b) = 1 := by
  have hk : N.numL (ruleE h b).key = 1 := by show N.numL [49] = 1; decide +kernel
  rcases num_cases h (ruleE h b) with k | ⟨_, _, _, _, _, _, _, _, _, _, _, k⟩
  · unfold numE at k
    rw [rule_three] at k
    simp only [] at k
    rw [if_pos ⟨rfl, rfl, by omega, by omega, by cases b <;> decide, by decide, by decide⟩] at k
    omega
  · rw [k, hk]
theorem num_one {h : Wd} {e : En} (hk : e.key ≠ [49]) : numE h e ≠ 1 := by
  rcases num_cases h e with k | ⟨_, _, _, _, _, _, k1, _, _, _, _, k⟩
  · omega
  · rw [k]
    intro e1
    refine hk (num_key (by omega) ?_)
    rw [e1]; decide +kernel
theorem perm_rule {l : List En} {h : Wd} {b : Bool} {f t : Int} (hk : ∀ e ∈ l, e.key ≠ [49]) : permB (l ++ [ruleE h b]) h f t = b := by
  unfold permB
  have e0 : ((l ++ [ruleE h b]).find? fun e => decide (numE h e = ((0 : Nat) : Int) + 1) && takesB f t e) = some (ruleE h b) := by
    rw [List.find?_append]
    have e1 : (l.find? fun e => decide (numE h e = ((0 : Nat) : Int) + 1) && takesB f t e) = none := by
      rw [List.find?_eq_none]
      intro x hx
      rw [decide_eq_false (by have := num_one (h := h) (hk x hx); omega), Bool.false_and]
      decide
    rw [e1]
    have e2 : takesB f t (ruleE h b) = true := by
      unfold takesB
      rw [rule_three]
      simp [coverB]
    rw [List.find?_cons_of_pos (by rw [rule_num, e2]; rfl)]
    rfl
  have er : List.range 1000 = 0 :: (List.range 999).map (· + 1) := List.range_succ_eq_map (n := 999)
  rw [er, List.findSome?_cons, e0]
  show grantB (ruleE h b) = b
  unfold grantB
  rw [rule_three]
  cases b <;> decide
theorem filter_len_sum {p : Nat → Bool} (n : Nat) : ((List.range (n + 1)).filter p).length = ((List.range n).filter p).length + if p n = true then 1 else 0 := by
  rw [List.range_succ, List.filter_append, List.length_append]
  cases h : p n with
  | true => rw [List.filter_cons_of_pos h, if_pos rfl]; rfl
  | false => rw [List.filter_cons_of_neg (by rw [h]; decide), if_neg (by decide)]; rfl
theorem sum_more : ∀ (L : List Nat) (f g : Nat → Nat) (a : Nat), L.Nodup → (∀ k ∈ L, g k = f k + if k = a then 1 else 0) → a ∈ L → (L.map g).sum = (L.map f).sum + 1
  | [], f, g, a, _, _, h => by cases h
  | x :: r, f, g, a, hn, hg, h => by
    obtain ⟨h1, h2⟩ := List.nodup_cons.1 hn
    rw [List.map_cons, List.map_cons, List.sum_cons, List.sum_cons, hg x (List.mem_cons_self ..)]
    by_cases hx : x = a
    · subst hx
      rw [if_pos rfl]
      have e : r.map g = r.map f := List.map_congr_left fun k hk => by
        rw [hg k (List.mem_cons_of_mem _ hk), if_neg (fun e => h1 (by rw [← e]; exact hk))]; rfl
      rw [e]; omega
    · rw [if_neg hx]
      have := sum_more r f g a h2 (fun k hk => hg k (List.mem_cons_of_mem _ hk)) (by
        rcases List.mem_cons.1 h with h | h
        · exact absurd h.symm hx
        · exact h)
      omega
theorem rules_len (l : List En) (h : Wd) : (rulesL l h).length = ((List.range 1000).map fun k : Nat => ((List.range l.length).filter fun i => decide (numE h (l.getD i ⟨[], 0, [], []⟩) = (k : Int) + 1)).length).sum := by
  unfold rulesL
  rw [List.length_flatMap]
theorem rules_more {l : List En} {h : Wd} {b : Bool} : (rulesL (l ++ [ruleE h b]) h).length = (rulesL l h).length + 1 := by
  rw [rules_len, rules_len]
  refine sum_more _ _ _ 0 List.nodup_range (fun k _ => ?_) (by simp)
  rw [List.length_append, List.length_singleton, filter_len_sum]
  have e1 : (List.range l.length).filter (fun i => decide (numE h ((l ++ [ruleE h b]).getD i ⟨[], 0, [], []⟩) = (k : Int) + 1)) = (List.range l.length).filter (fun i => decide (numE h (l.getD i ⟨[], 0, [], []⟩) = (k : Int) + 1)) := by
    refine List.filter_congr fun i hi => ?_
    have hi := List.mem_range.1 hi
    rw [List.getD_eq_getElem?_getD, List.getElem?_append_left hi, ← List.getD_eq_getElem?_getD]
  have e2 : (l ++ [ruleE h b]).getD l.length ⟨[], 0, [], []⟩ = ruleE h b := by
    rw [List.getD_eq_getElem?_getD, List.getElem?_append_right (Nat.le_refl _), Nat.sub_self]; rfl
  rw [e1, e2, rule_num]
  congr 1
  by_cases hk : k = 0
  · subst hk; rfl
  · rw [if_neg hk, if_neg]
    rw [decide_eq_true_eq]
    omega
-- A ROUTE FOR EACH
theorem own_first {e : En} {h : Wd} (h1 : e.host = h) (h2 : e.kind = 4) (h3 : 0 ≤ (N.prefL e.key).1) : hitB h (N.prefL e.key).1 e = true := by
  refine hit_of h1 h2 h3 ?_
  rcases N.pref_cases e.key with k | ⟨n, b, k, hr, hn, _, _⟩
  · rw [k] at h3; exact absurd h3 (by decide)
  · rw [k]
    show N.inB n b n = true
    unfold N.inB
    rw [hr, decide_eq_true (show (0 : Int) ≤ (n : Int) by omega), decide_eq_true (show (n : Int) < 4294967296 by omega), decide_eq_true rfl]; rfl
end Go.Proofs.Ytggdpnkekgmimaa.O

namespace Go.Proofs.Ytggdpnkekgmimaa
open Go.RowKit
set_option linter.unusedVariables false

theorem Own.frozenNo {α : Type} {E : Elem α} {w : World} {base g n cap : Nat} {t : List α} (h : Own E w base (.slice (some ⟨g, 0, none⟩) n cap) t) (j : Nat) : w.frozen? ⟨g, j, none⟩ = false ∧ base ≤ g ∧ g < w.heap.size := by
  rcases h.2 with ⟨e, _⟩ | ⟨g2, cap2, cur, e, hbg, hgg, _⟩
  · cases e
  · injection e with e1 e2 e3
    injection e1 with e1
    injection e1 with e1
    subst e1
    exact ⟨Lib.frozen_of_heap hgg j, hbg, (Array.getElem?_eq_some_iff.1 hgg).1⟩
end Go.Proofs.Ytggdpnkekgmimaa

namespace Go.Proofs.Ytggdpnkekgmimaa
open Go.RowKit
set_option linter.unusedVariables false

theorem num_bad {s : List UInt8} {c : UInt8} (hc : c ∈ s) (h : N.digB c = false) : N.numL s = -1 := by
  unfold N.numL
  rw [if_pos (.inr (.inr (.inr (List.all_eq_false.2 ⟨c, hc, by rw [h]; simp⟩))))]
theorem num_all {s : List UInt8} (h0 : s ≠ []) (h1 : ¬ 10 < s.length) (h2 : ¬ (s.head? = some 48 ∧ 1 < s.length)) (h3 : s.all N.digB = true) : N.numL s = N.valL s := by
  unfold N.numL
  rw [if_neg]
  rintro (e | e | e | e)
  · exact h0 e
  · exact h1 e
  · exact h2 e
  · rw [h3] at e; cases e
theorem head_is (s : ByteArray) (h : 0 < s.size) : s.data.toList.head? = some s[0] := by
  have e : s.data.toList.take 1 = s.data.toList.take 0 ++ [s[0]] := W.take_snoc s 0 h
  cases hl : s.data.toList with
  | nil => rw [hl] at e; simp at e
  | cons x r => rw [hl] at e; simp at e; rw [e]; rfl
theorem digB_lo {c : UInt8} (h : c.toNat < 48) : N.digB c = false := by unfold N.digB; rw [decide_eq_false (by omega)]; rfl
theorem digB_hi {c : UInt8} (h : 57 < c.toNat) : N.digB c = false := by unfold N.digB; rw [decide_eq_false (show ¬ c.toNat ≤ 57 by omega), Bool.and_false]
theorem digB_in {c : UInt8} (h : 48 ≤ c.toNat) (h2 : c.toNat ≤ 57) : N.digB c = true := by unfold N.digB; rw [decide_eq_true h, decide_eq_true h2]; rfl
set_option maxRecDepth 100000 in
set_option maxHeartbeats 2000000 in
theorem numR (s : ByteArray) (w : World) (hs : s.size ≤ 1073741824) : Calls Try.prog 25 #[.string s] w (fun e w' => e = .returned (.int .i64 (N.numL s.data.toList)) ∧ w = w') := by
  have hsz : s.data.toList.length = s.size := by simp
  by_cases h0 : s.size = 0
  · have HE := Lib.hid (show N.numL s.data.toList = -1 by rw [List.eq_nil_of_length_eq_zero (hsz.trans h0)]; rfl)
    have b1 : decide ((s.size : Int) < 1) = true := decide_eq_true (by omega)
    have b1b : decide (s.size < 1) = true := decide_eq_true (by omega)
    have b1c : decide (s.size = 0) = true := decide_eq_true h0
    clear hsz h0
    go_enter Try.func25, Try.ntmps25
    go_wp2
    go_ret
    exact ⟨by rw [HE.out]; rfl, rfl⟩
  have hpos : 0 < s.size := by omega
  have b1 : decide ((s.size : Int) < 1) = false := decide_eq_false (by omega)
  have b1b : decide (s.size < 1) = false := decide_eq_false (by omega)
  have b1c : decide (s.size = 0) = false := decide_eq_false h0
  by_cases h1 : 10 < s.size
  · have HE := Lib.hid (show N.numL s.data.toList = -1 by unfold N.numL; rw [if_pos (.inr (.inl (by rw [hsz]; exact h1)))])
    have b2 : decide ((10 : Int) < (s.size : Int)) = true := decide_eq_true (by omega)
    have b2b : decide (10 < s.size) = true := decide_eq_true h1
    clear hsz h0 h1
    go_enter Try.func25, Try.ntmps25
    go_wp2
    go_ret
    exact ⟨by rw [HE.out]; rfl, rfl⟩
  have b2 : decide ((10 : Int) < (s.size : Int)) = false := decide_eq_false (by omega)
  have b2b : decide (10 < s.size) = false := decide_eq_false h1
  have hhd := head_is s hpos
  by_cases h2 : s[0].toNat = 48 ∧ 1 < s.size
  · have HE := Lib.hid (show N.numL s.data.toList = -1 by unfold N.numL; rw [if_pos (.inr (.inr (.inl ⟨by rw [hhd, show s[0] = 48 from UInt8.toNat_inj.1 h2.1], by rw [hsz]; exact h2.2⟩)))])
    have b3 : ((s[0].toNat : Int) == 48) = true := by simp; omega
    have b4 : decide ((1 : Int) < (s.size : Int)) = true := decide_eq_true (by omega)
    have b4b : decide (1 < s.size) = true := decide_eq_true h2.2
    clear hsz h0 h1 h2 hhd
    go_enter Try.func25, Try.ntmps25
    go_wp2
    go_ret
    exact ⟨by rw [HE.out]; rfl, rfl⟩
  have HSZ := Lib.hid hsz
  have HNE := Lib.hid (show s.data.toList ≠ [] from fun e => h0 (by rw [← hsz, e]; rfl))
  have HH := Lib.hid (show ¬ (s.data.toList.head? = some 48 ∧ 1 < s.data.toList.length) by
    rintro ⟨e1, e2⟩
    rw [hhd] at e1
    injection e1 with e1
    exact h2 ⟨by rw [e1]; rfl, by omega⟩)
  by_cases h3 : s[0].toNat = 48
  all_goals
    first
    | (have b3 : ((s[0].toNat : Int) == 48) = true := by (simp; omega)
       have b4 : decide ((1 : Int) < (s.size : Int)) = false := decide_eq_false (by omega)
       have b4b : decide (1 < s.size) = false := decide_eq_false (by omega))
    | (have b3 : ((s[0].toNat : Int) == 48) = false := by (simp; omega))
    clear hsz h0 h2 h3 hhd
    go_enter Try.func25, Try.ntmps25
    go_wp2
    go_loopg [3, 4] s.size (fun gk vn vi wr => ∃ k v : Nat, Hid (k + gk = s.size) ∧ k ≤ s.size ∧ vi = .int .i64 (k : Int) ∧ vn = .int .i64 (v : Int) ∧ Hid (N.valL (s.data.toList.take k) = v) ∧ Hid ((s.data.toList.take k).all N.digB = true) ∧ w = wr)
    case atStart => exact ⟨0, 0, Nat.zero_add _, Nat.zero_le _, rfl, rfl, rfl, rfl, rfl⟩
    case round =>
      obtain ⟨k, v, HG, hk, rfl, rfl, HV, HD, rfl⟩ := hrel
      by_cases hlt : k < s.size
      · have blt : decide ((k : Int) < (s.size : Int)) = true := decide_eq_true (by omega)
        have blt2 : decide (k < s.size) = true := decide_eq_true hlt
        have hki : (k : Int) < (s.size : Int) := by omega
        have hsn := W.take_snoc s k hlt
        have hmem : s[k] ∈ s.data.toList := List.mem_of_mem_take (i := k + 1) (by rw [hsn]; simp)
        have hv : v < 10000000000 := by
          rw [← HV.out]
          exact N.val_lt _ HD.out 10 (by rw [List.length_take]; omega)
        have hc := s[k].toNat_lt
        by_cases hlo : s[k].toNat < 48
        · have c1 : decide ((s[k].toNat : Int) < 48) = true := decide_eq_true (by omega)
          have HE := Lib.hid (num_bad hmem (digB_lo hlo))
          clear hsn hmem hlo
          go_wp2
          go_ret
          exact ⟨by rw [HE.out]; rfl, rfl⟩
        · have c1 : decide ((s[k].toNat : Int) < 48) = false := decide_eq_false (by omega)
          by_cases hhi : 57 < s[k].toNat
          · have c2 : decide ((57 : Int) < (s[k].toNat : Int)) = true := decide_eq_true (by omega)
            have c2b : decide (57 < s[k].toNat) = true := decide_eq_true hhi
            have HE := Lib.hid (num_bad hmem (digB_hi hhi))
            clear hsn hmem hlo hhi
            go_wp2
            go_ret
            exact ⟨by rw [HE.out]; rfl, rfl⟩
          · have c2 : decide ((57 : Int) < (s[k].toNat : Int)) = false := decide_eq_false (by omega)
            have c2b : decide (57 < s[k].toNat) = false := decide_eq_false hhi
            have HSN := Lib.hid hsn
            have HD2 := Lib.hid (show (s.data.toList.take (k + 1)).all N.digB = true by rw [hsn, List.all_append, HD.out]; show ([s[k]] : List UInt8).all N.digB = true; rw [List.all_cons, digB_in (by omega) (by omega)]; rfl)
            have HV2 := Lib.hid (show N.valL (s.data.toList.take (k + 1)) = 10 * v + (s[k].toNat - 48) by rw [hsn, N.val_snoc, HV.out])
            have hgk := HG.out
            have hu : IntKind.u8.wrap ((s[k].toNat : Int) - 48) = ((s[k].toNat - 48 : Nat) : Int) := by rw [IntKind.wrap_u8]; omega
            clear hsn hmem
            go_wp2
            go_roundg (s.size - (k + 1))
            case rel => exact ⟨k + 1, 10 * v + (s[k].toNat - 48), (by show _ = _; omega), by omega, by go_num, by go_num, HV2, HD2, rfl⟩
            case measure => omega
      · have blt : decide ((k : Int) < (s.size : Int)) = false := decide_eq_false (by omega)
        have blt2 : decide (k < s.size) = false := decide_eq_false hlt
        have htk : s.data.toList.take k = s.data.toList := List.take_of_length_le (by have := HSZ.out; omega)
        have HE := Lib.hid (show N.numL s.data.toList = v by
          have h5 := HV.out
          have h6 := HD.out
          rw [htk] at h5 h6
          rw [num_all HNE.out (by rw [HSZ.out]; exact h1) HH.out h6, h5])
        clear htk
        go_wp2
        go_ret
        exact ⟨by rw [HE.out]; rfl, rfl⟩
theorem numQ (x : List UInt8) (z : Int) (w : World) (hs : x.length ≤ 1073741824) (h : N.numL x = z) : Calls Try.prog 25 #[.string (sB x)] w (fun e w' => e = .returned (.int .i64 z) ∧ w = w') := by
  have := numR (sB x) w (by rw [sB_size]; exact hs)
  rw [sB_data, h] at this
  exact this
theorem cut_str (s : ByteArray) (a b : Nat) (hb : b ≤ s.size) : s.extract a b = sB ((s.data.toList.drop a).take (b - a)) := by
  refine ByteArray.ext (Array.ext' ?_)
  have h1 : (s.extract a b).data = s.data.extract a b := by simp [ByteArray.data_extract]
  rw [h1]
  simp [sB, Array.toList_extract, List.extract_eq_take_drop]
set_option maxRecDepth 100000 in
set_option maxHeartbeats 2000000 in
theorem partsR (s : ByteArray) (c : UInt8) (w : World) (hs : s.size ≤ 1073741824) : Calls Try.prog 23 #[.string s, .int .u8 c.toNat] w (OwnS eS w (N.splitL c s.data.toList)) := by
  have hsz : s.data.toList.length = s.size := by simp
  have HSZ := Lib.hid hsz
  clear hsz
  go_enter Try.func23, Try.ntmps23
  go_wp2
  go_loopg [5, 6, 7] (s.size + 1) (fun gk vo vf vi wr => ∃ (i f : Nat) (L : List (List UInt8)), Hid (i + gk = s.size + 1) ∧ vi = .int .i64 (i : Int) ∧ vf = .int .i64 (f : Int) ∧ Hid (Own eS wr w.heap.size vo L) ∧ Hid (L.length ≤ i ∧ f ≤ i) ∧ Hid ((i ≤ s.size ∧ N.CutAt c s.data.toList L f i) ∨ (i = s.size + 1 ∧ N.splitL c s.data.toList = L)) ∧ Below w.heap.size w wr)
  case atStart => exact ⟨0, 0, [], Nat.zero_add _, rfl, rfl, Own.nil _ _, ⟨Nat.le_refl _, Nat.le_refl _⟩, .inl ⟨Nat.zero_le _, N.cut_start c _⟩, Below.refl _ _⟩
  case round =>
    obtain ⟨i, f, L, HG, rfl, rfl, HO, HLF, HC, hbr⟩ := hrel
    have hgk := HG.out
    obtain ⟨hLi, hfi⟩ := HLF.out
    have hsz := hbr.size
    by_cases hle : i ≤ s.size
    · have blt : decide ((i : Int) ≤ (s.size : Int)) = true := decide_eq_true (by omega)
      have blt2 : decide (i ≤ s.size) = true := decide_eq_true hle
      have hcut : N.CutAt c s.data.toList L f i := by
        rcases HC.out with ⟨_, h⟩ | ⟨h, _⟩
        · exact h
        · omega
      have hx := cut_str s f i hle
      obtain ⟨x, hxd⟩ : ∃ x, (s.data.toList.drop f).take (i - f) = x := ⟨_, rfl⟩
      rw [hxd] at hx
      have HXD := Lib.hid hxd
      have HXS := Lib.hid hx
      clear hx
      by_cases heq : i = s.size
      · have be : ((i : Int) == (s.size : Int)) = true := by simp; omega
        have be2 : (i == s.size) = true := by simp; omega
        have HN := Lib.hid (N.cut_end hcut (by rw [HSZ.out]; exact heq))
        have HEQ := Lib.hid heq
        clear hcut hxd heq
        go_wp2_with (at_builtin; refine wpList_appG eS wr rfl (.tmp 25) (.tmp 30) rfl w.heap.size u5 L rfl HO.out x 1 _ (by rw [HXS.out]; rfl) wr.heap.size rfl rfl (by omega) hsz ?_; intro v3 w3 hown3 hb3)
        go_roundg (s.size + 1 - (i + 1))
        case rel => exact ⟨i + 1, i + 1, L ++ [x], (by show _ = _; omega), by go_num, by go_num, hown3, ⟨by rw [List.length_append, List.length_singleton]; omega, Nat.le_refl _⟩, .inr ⟨by have := HEQ.out; omega, by rw [HN.out, HXD.out]⟩, hbr.trans hb3⟩
        case measure => omega
      · have hlt : i < s.size := by omega
        have be : ((i : Int) == (s.size : Int)) = false := by simp; omega
        have be2 : (i == s.size) = false := by simp; omega
        have hki : (i : Int) < (s.size : Int) := by omega
        have hlt2 : i < s.data.toList.length := by rw [HSZ.out]; exact hlt
        have hget : s.data.toList[i] = s[i] := rfl
        by_cases hc : s[i] = c
        · have bc : ((s[i].toNat : Int) == (c.toNat : Int)) = true := by rw [hc]; simp
          have bc2 : (s[i].toNat == c.toNat) = true := by rw [hc]; simp
          have HN := Lib.hid (N.cut_here hcut hlt2 (hget.trans hc))
          clear hcut hxd hget hc
          go_wp2_with (at_builtin; refine wpList_appG eS wr rfl (.tmp 25) (.tmp 30) rfl w.heap.size u5 L rfl HO.out x 1 _ (by rw [HXS.out]; rfl) wr.heap.size rfl rfl (by omega) hsz ?_; intro v3 w3 hown3 hb3)
          go_roundg (s.size + 1 - (i + 1))
          case rel => exact ⟨i + 1, i + 1, L ++ [x], (by show _ = _; omega), by go_num, by go_num, hown3, ⟨by rw [List.length_append, List.length_singleton]; omega, Nat.le_refl _⟩, .inl ⟨by omega, by have := HN.out; rw [HXD.out] at this; exact this⟩, hbr.trans hb3⟩
          case measure => omega
        · have hne : s[i].toNat ≠ c.toNat := fun e => hc (UInt8.toNat_inj.1 e)
          have bc : ((s[i].toNat : Int) == (c.toNat : Int)) = false := by simp; omega
          have bc2 : (s[i].toNat == c.toNat) = false := by simp; omega
          have HN := Lib.hid (N.cut_other hcut hlt2 (fun e => hc (hget.symm.trans e)))
          clear hcut hxd hget hc hne
          go_wp2
          go_roundg (s.size + 1 - (i + 1))
          case rel => exact ⟨i + 1, f, L, (by show _ = _; omega), by go_num, rfl, HO, ⟨by omega, by omega⟩, .inl ⟨by omega, HN.out⟩, hbr⟩
          case measure => omega
    · have blt : decide ((i : Int) ≤ (s.size : Int)) = false := decide_eq_false (by omega)
      have blt2 : decide (i ≤ s.size) = false := decide_eq_false hle
      have HE := Lib.hid (show N.splitL c s.data.toList = L by
        rcases HC.out with ⟨h, _⟩ | ⟨_, h⟩
        · omega
        · exact h)
      go_wp2
      go_ret
      exact ⟨_, rfl, by rw [HE.out]; exact HO.out, hbr⟩
end Go.Proofs.Ytggdpnkekgmimaa

namespace Go.Proofs.Ytggdpnkekgmimaa
open Go.RowKit
set_option linter.unusedVariables false

theorem split_mem {c : UInt8} {s : List UInt8} {x : List UInt8} (h : x ∈ N.splitL c s) : x.length ≤ s.length := by
  induction s generalizing x with
  | nil =>
    have e : x = [] := List.mem_singleton.1 h
    subst e; exact Nat.le_refl _
  | cons y r ih =>
    rw [N.split_cons] at h
    by_cases hy : y = c
    · rw [if_pos hy] at h
      rcases List.mem_cons.1 h with rfl | h
      · exact Nat.zero_le _
      · have := ih h; rw [List.length_cons]; omega
    · rw [if_neg hy] at h
      cases e : N.splitL c r with
      | nil => exact absurd e (N.split_ne c r)
      | cons z zs =>
        rw [e] at h ih
        rcases List.mem_cons.1 h with rfl | h
        · have := ih (List.mem_cons_self ..); rw [List.length_cons, List.length_cons]; omega
        · have := ih (List.mem_cons_of_mem _ h); rw [List.length_cons]; omega
set_option maxRecDepth 100000 in
set_option maxHeartbeats 2000000 in
theorem ipR (s : ByteArray) (w : World) (hs : s.size ≤ 1073741824) : Calls Try.prog 24 #[.string s] w (fun e w' => e = .returned (.int .i64 (N.ipL s.data.toList)) ∧ Below w.heap.size w w') := by
  obtain ⟨L, hL⟩ : ∃ L, N.splitL 46 s.data.toList = L := ⟨_, rfl⟩
  obtain ⟨r, hr⟩ : ∃ r, N.ipL s.data.toList = r := ⟨_, rfl⟩
  obtain ⟨m, hm⟩ : ∃ m, L.length = m := ⟨_, rfl⟩
  have hparts := partsR s 46 w hs
  rw [hL] at hparts
  rw [hr]
  have HEA := Lib.hid (show ∀ x ∈ L, x.length ≤ 1073741824 from fun x hx => by
    have h := split_mem (c := 46) (hL ▸ hx)
    have h2 : s.data.toList.length = s.size := by simp
    omega)
  have HL := Lib.hid hL
  have HR := Lib.hid hr
  have HM := Lib.hid hm
  clear hL hr
  by_cases h4 : m = 4
  · have b4 : ((m : Int) != 4) = false := by simp; omega
    have H4 := Lib.hid h4
    clear h4 hm
    go_enter Try.func24, Try.ntmps24
    go_wp2_with fail
    refine hparts.mono ?_
    rintro e w1 ⟨v1, rfl, hown, hx⟩
    obtain ⟨A1, c1, e1, hc1, hs1⟩ := hown.seen
    rw [HM.out] at e1 hc1
    subst e1
    obtain ⟨b, o, rfl, hb, hH⟩ := hs1 (by rw [HM.out, H4.out]; omega)
    have HH := Lib.hid hH
    clear hown hs1 hH hparts
    go_wp2
    go_loopg [4, 5] 4 (fun gk vn vi wr => ∃ k v : Nat, Hid (k + gk = 4) ∧ k ≤ 4 ∧ vi = .int .i64 (k : Int) ∧ vn = .int .i64 (v : Int) ∧ Hid (N.accL N.octL (L.take k) = v) ∧ Hid (∀ x ∈ L.take k, 0 ≤ N.octL x) ∧ w1 = wr)
    case atStart => exact ⟨0, 0, Nat.zero_add _, Nat.zero_le _, rfl, rfl, rfl, (fun x hx => by simp at hx), rfl⟩
    case round =>
      obtain ⟨k, v, HG, hk, rfl, rfl, HV, HD, rfl⟩ := hrel
      by_cases hlt : k < 4
      · have blt : decide ((k : Int) < 4) = true := decide_eq_true (by omega)
        have blt2 : decide (k < 4) = true := decide_eq_true hlt
        have hkL : k < L.length := by rw [HM.out, H4.out]; exact hlt
        have hki : (k : Int) < (m : Int) := by have := H4.out; omega
        have z0 := HH.out.str hkL
        have hsn := List.take_succ_eq_append_getElem hkL
        obtain ⟨x, hx⟩ : ∃ x, L[k] = x := ⟨_, rfl⟩
        have hmem : x ∈ L := hx ▸ List.getElem_mem hkL
        rw [hx] at z0 hsn
        obtain ⟨z, hz⟩ : ∃ z, N.numL x = z := ⟨_, rfl⟩
        have hzr := N.num_ge x
        rw [hz] at hzr
        have hv : v < 4294967296 := by
          have h5 := (N.acc_range N.octL (fun x => (N.oct_range x).2) 4 (L.take k) (by rw [List.length_take]; omega) HD.out).2
          rw [HV.out] at h5
          omega
        have hgk := HG.out
        have HSN := Lib.hid hsn
        have HZ := Lib.hid hz
        have HXM := Lib.hid hmem
        clear hx hsn hz hmem
        go_wp2_with fail
        refine (numQ x z _ (HEA.out x HXM.out) HZ.out).mono ?_
        rintro e w2 ⟨rfl, rfl⟩
        by_cases hlo : z < 0
        · have c1 : decide (z < 0) = true := decide_eq_true hlo
          have HE := Lib.hid (show r = -1 by rw [← HR.out]; exact N.ip_bad HL.out HXM.out (by unfold N.octL; rw [HZ.out, if_pos (.inl hlo)]; omega))
          clear hlo
          go_wp2
          go_ret
          exact ⟨by rw [HE.out]; rfl, hx⟩
        · have c1 : decide (z < 0) = false := decide_eq_false hlo
          by_cases hhi : 255 < z
          · have c2 : decide (255 < z) = true := decide_eq_true hhi
            have HE := Lib.hid (show r = -1 by rw [← HR.out]; exact N.ip_bad HL.out HXM.out (by unfold N.octL; rw [HZ.out, if_pos (.inr hhi)]; omega))
            clear hlo hhi
            go_wp2
            go_ret
            exact ⟨by rw [HE.out]; rfl, hx⟩
          · have c2 : decide (255 < z) = false := decide_eq_false hhi
            obtain ⟨zn, rfl⟩ := Int.eq_ofNat_of_zero_le (show 0 ≤ z by omega)
            have hoct : N.octL x = (zn : Int) := by unfold N.octL; rw [HZ.out, if_neg (by omega)]
            have HV2 := Lib.hid (show N.accL N.octL (L.take (k + 1)) = ((256 * v + zn : Nat) : Int) by rw [HSN.out, N.acc_snoc, HV.out, hoct]; omega)
            have HD2 := Lib.hid (show ∀ y ∈ L.take (k + 1), 0 ≤ N.octL y from fun y hy => by
              rw [HSN.out] at hy
              rcases List.mem_append.1 hy with hy | hy
              · exact HD.out y hy
              · rw [List.mem_singleton.1 hy, hoct]; omega)
            clear hlo hhi hoct
            go_wp2
            go_roundg (4 - (k + 1))
            case rel => exact ⟨k + 1, 256 * v + zn, (by show _ = _; omega), by omega, by go_num, by go_num, HV2, HD2, rfl⟩
            case measure => omega
      · have blt : decide ((k : Int) < 4) = false := decide_eq_false (by omega)
        have blt2 : decide (k < 4) = false := decide_eq_false hlt
        have HE := Lib.hid (show r = (v : Int) by
          have htk : L.take k = L := List.take_of_length_le (by rw [HM.out, H4.out]; omega)
          have h5 := HV.out
          have h6 := HD.out
          rw [htk] at h5 h6
          rw [← HR.out, N.ip_good HL.out (HM.out.trans H4.out) h6, h5])
        go_wp2
        go_ret
        exact ⟨by rw [HE.out]; rfl, hx⟩
  · have b4 : ((m : Int) != 4) = true := by simp; omega
    have HE := Lib.hid (show r = -1 by rw [← HR.out]; exact N.ip_len HL.out (by rw [hm]; exact h4))
    clear h4 hm
    go_enter Try.func24, Try.ntmps24
    go_wp2_with fail
    refine hparts.mono ?_
    rintro e w1 ⟨v1, rfl, hown, hx⟩
    obtain ⟨A1, c1, e1, hc1, hs1⟩ := hown.seen
    rw [HM.out] at e1 hc1
    subst e1
    clear hown hs1 hparts
    go_wp2
    go_ret
    exact ⟨by rw [HE.out]; rfl, hx⟩
set_option maxRecDepth 100000 in
theorem powR (n : Nat) (w : World) (hn : n ≤ 60) : Calls Try.prog 27 #[.int .i64 (n : Int)] w (fun e w' => e = .returned (.int .i64 ((2 ^ n : Nat) : Int)) ∧ w = w') := by
  go_enter Try.func27, Try.ntmps27
  go_wp2
  go_loopg [3, 4] n (fun gk vo vi wr => ∃ k v : Nat, Hid (k + gk = n) ∧ k ≤ n ∧ vi = .int .i64 (k : Int) ∧ vo = .int .i64 (v : Int) ∧ Hid (2 ^ k = v) ∧ w = wr)
  case atStart => exact ⟨0, 1, Nat.zero_add _, Nat.zero_le _, rfl, rfl, rfl, rfl⟩
  case round =>
    obtain ⟨k, v, HG, hk, rfl, rfl, HV, rfl⟩ := hrel
    by_cases hlt : k < n
    · have blt : decide ((k : Int) < (n : Int)) = true := decide_eq_true (by omega)
      have blt2 : decide (k < n) = true := decide_eq_true hlt
      have hv : v ≤ 1152921504606846976 := by
        rw [← HV.out]
        exact Nat.le_trans (Nat.pow_le_pow_right (by omega) (show k ≤ 60 by omega)) (by decide)
      have HV2 := Lib.hid (show 2 ^ (k + 1) = 2 * v by rw [Nat.pow_succ, HV.out]; omega)
      have hgk := HG.out
      go_wp2
      go_roundg (n - (k + 1))
      case rel => exact ⟨k + 1, 2 * v, (by show _ = _; omega), by omega, by go_num, by go_num, HV2, rfl⟩
      case measure => omega
    · have blt : decide ((k : Int) < (n : Int)) = false := decide_eq_false (by omega)
      have blt2 : decide (k < n) = false := decide_eq_false hlt
      obtain rfl : n = k := by omega
      go_wp2
      go_ret
      exact ⟨by rw [HV.out]; rfl, rfl⟩
/-- Power, its answer as a variable. -/
theorem powQ (n : Int) (k p : Nat) (w : World) (hn : n = (k : Int)) (hk : k ≤ 60) (hp : 2 ^ k = p) : Calls Try.prog 27 #[.int .i64 n] w (fun e w' => e = .returned (.int .i64 (p : Int)) ∧ w = w') := by
  subst hn; subst hp; exact powR k w hk
set_option maxRecDepth 100000 in
set_option maxHeartbeats 1000000 in
theorem rightR10 (n bits : Int) (w : World) : Calls Try.prog 26 #[.int .i64 n, .int .i64 bits] w (fun e w' => e = .returned (.bool (N.rightB n bits)) ∧ w = w') := by
  by_cases h1 : 0 ≤ n
  · have b1 : decide (0 ≤ n) = true := decide_eq_true h1
    by_cases h2 : n < 4294967296
    · have b2 : decide (n < 4294967296) = true := decide_eq_true h2
      by_cases h3 : 0 ≤ bits
      · have b3 : decide (0 ≤ bits) = true := decide_eq_true h3
        by_cases h4 : bits ≤ 32
        · have b4 : decide (bits ≤ 32) = true := decide_eq_true h4
          obtain ⟨nn, rfl⟩ := Int.eq_ofNat_of_zero_le h1
          obtain ⟨k, hk⟩ : ∃ k : Nat, (32 - bits).toNat = k := ⟨_, rfl⟩
          have hk2 : 32 - bits = (k : Int) := by omega
          obtain ⟨p, hp⟩ : ∃ p, 2 ^ k = p := ⟨_, rfl⟩
          have hpp : 0 < p := by rw [← hp]; exact N.pow_pos2 k
          have hpb : p ≤ 4294967296 := by rw [← hp]; exact Nat.le_trans (Nat.pow_le_pow_right (by omega) (show k ≤ 32 by omega)) (by decide)
          obtain ⟨r, hr⟩ : ∃ r, N.rightB (nn : Int) bits = r := ⟨_, rfl⟩
          have hr2 : r = decide (nn % p = 0) := by
            rw [← hr]
            unfold N.rightB
            rw [b1, b2, b3, b4, hk, hp]
            show decide ((nn : Int) % (p : Int) = 0) = _
            exact decide_eq_decide.2 (by rw [← Int.natCast_emod]; omega)
          rw [hr]
          have hpow := powQ (32 - bits) k p w hk2 (by omega) hp
          have bp : ((p : Int) == 0) = false := beq_eq_false_iff_ne.2 (by omega)
          have bp2 : (p == 0) = false := beq_eq_false_iff_ne.2 (by omega)
          have hmod : Int.tmod (nn : Int) (p : Int) = ((nn % p : Nat) : Int) := by rw [Int.tmod_eq_emod_of_nonneg (by omega), Int.natCast_emod]
          obtain ⟨q, hq⟩ : ∃ q, nn % p = q := ⟨_, rfl⟩
          rw [hq] at hmod hr2
          have hqp : q < p := by rw [← hq]; exact Nat.mod_lt _ hpp
          have HR := Lib.hid hr2
          clear hr2 hr hk hk2 hp hq
          cases hz : (q == 0) with
          | true =>
            have hz2 : ((q : Int) == 0) = true := by simp at hz ⊢; omega
            have HE := Lib.hid (show r = true by rw [HR.out]; simpa using hz)
            clear hz
            go_enter Try.func26, Try.ntmps26
            go_wp2_with fail
            refine hpow.mono ?_
            rintro e w1 ⟨rfl, rfl⟩
            go_wp2
            go_ret
            exact ⟨by rw [HE.out]; rfl, rfl⟩
          | false =>
            have hz2 : ((q : Int) == 0) = false := by simp at hz ⊢; omega
            have HE := Lib.hid (show r = false by rw [HR.out]; simpa using hz)
            clear hz
            go_enter Try.func26, Try.ntmps26
            go_wp2_with fail
            refine hpow.mono ?_
            rintro e w1 ⟨rfl, rfl⟩
            go_wp2
            go_ret
            exact ⟨by rw [HE.out]; rfl, rfl⟩
        · have b4 : decide (bits ≤ 32) = false := decide_eq_false h4
          have HE := Lib.hid (show N.rightB n bits = false by unfold N.rightB; rw [b4, Bool.and_false, Bool.false_and])
          clear h1 h2 h3 h4
          go_enter Try.func26, Try.ntmps26
          go_wp2
          go_ret
          exact ⟨by rw [HE.out]; rfl, rfl⟩
      · have b3 : decide (0 ≤ bits) = false := decide_eq_false h3
        have HE := Lib.hid (show N.rightB n bits = false by unfold N.rightB; rw [b3, Bool.and_false, Bool.false_and, Bool.false_and])
        clear h1 h2 h3
        go_enter Try.func26, Try.ntmps26
        go_wp2
        go_ret
        exact ⟨by rw [HE.out]; rfl, rfl⟩
    · have b2 : decide (n < 4294967296) = false := decide_eq_false h2
      have HE := Lib.hid (show N.rightB n bits = false by unfold N.rightB; rw [b2, Bool.and_false, Bool.false_and, Bool.false_and, Bool.false_and])
      clear h1 h2
      go_enter Try.func26, Try.ntmps26
      go_wp2
      go_ret
      exact ⟨by rw [HE.out]; rfl, rfl⟩
  · have b1 : decide (0 ≤ n) = false := decide_eq_false h1
    have HE := Lib.hid (show N.rightB n bits = false by unfold N.rightB; rw [b1, Bool.false_and, Bool.false_and, Bool.false_and, Bool.false_and])
    clear h1
    go_enter Try.func26, Try.ntmps26
    go_wp2
    go_ret
    exact ⟨by rw [HE.out]; rfl, rfl⟩
theorem one_byte10 (w : World) (c : UInt8) (z : Int) (hz : z = (c.toNat : Int)) : (convert 72 9 (.slice (some ⟨w.heap.size, 0, none⟩) 1 1)).run Try.prog (w.alloc (.cells #[.int .u8 z] 5)) = .ok (.string (sB [c])) (w.alloc (.cells #[.int .u8 z] 5)) := by
  refine run_convert_bytes_back _ _ _ _ ⟨w.heap.size, 0, none⟩ 1 [c] Try.underlying72 Try.underlying5 Try.underlying9 ?_
  intro j hj
  obtain rfl : j = 0 := by simpa using hj
  rw [add_off, Nat.zero_add]
  refine (World.cell?_alloc_mark w #[.int .u8 z] 5 (0, 0) 0).trans ?_
  simp only [List.getElem_cons_zero, hz]
  rfl
theorem sB_add (a b : List UInt8) : sB a ++ sB b = sB (a ++ b) := ByteArray.ext (by simp [ByteArray.data_append, sB])
set_option maxRecDepth 100000 in
set_option maxHeartbeats 1000000 in
theorem digits10_small (n : Nat) (h : n < 10) (w : World) :
    Calls Try.prog 30 #[.int .i64 (n : Int)] w (fun e w' => e = .returned (.string (sB (T.decL n))) ∧ Below w.heap.size w w') := by
  have h9 : decide ((9 : Int) < (n : Int)) = false := decide_eq_false (by omega)
  have h9b : decide (9 < n) = false := decide_eq_false (by omega)
  have hm : Int.tmod (n : Int) 10 = (n : Int) := by rw [Int.tmod_eq_emod_of_nonneg (by omega)]; omega
  have hcv := one_byte10 w (UInt8.ofNat (48 + n)) (48 + (n : Int)) (by rw [N.dig_of n h]; omega)
  rw [T.decL_small h]
  obtain ⟨s, hs⟩ : ∃ s, sB [UInt8.ofNat (48 + n)] = s := ⟨_, rfl⟩
  rw [hs] at hcv ⊢
  clear hs
  go_enter Try.func30, Try.ntmps30
  go_wp2
  go_ret
  exact ⟨rfl, (Below.refl _ _).alloc (Nat.le_refl _) _⟩
set_option maxRecDepth 100000 in
set_option maxHeartbeats 1000000 in
theorem digits10_any : ∀ (k n : Nat), n < 10 ^ (k + 1) → k ≤ 9 → ∀ w : World, Calls Try.prog 30 #[.int .i64 (n : Int)] w (fun e w' => e = .returned (.string (sB (T.decL n))) ∧ Below w.heap.size w w')
  | 0, n, h, _, w => digits10_small n (by simpa using h) w
  | k + 1, n, h, hk, w => by
    by_cases h1 : n < 10
    · exact digits10_small n h1 w
    · have hlt : n / 10 < 10 ^ (k + 1) := by rw [Nat.pow_succ] at h; omega
      have ih := digits10_any k (n / 10) hlt (by omega)
      have h9 : decide ((9 : Int) < (n : Int)) = true := decide_eq_true (by omega)
      have h9b : decide (9 < n) = true := decide_eq_true (by omega)
      have hn18 : n < 100000000000 := by
        have : (10 : Nat) ^ (k + 1 + 1) ≤ 10 ^ 11 := Nat.pow_le_pow_right (by omega) (by omega)
        omega
      obtain ⟨r, hr⟩ : ∃ r, n % 10 = r := ⟨_, rfl⟩
      obtain ⟨q, hq⟩ : ∃ q, n / 10 = q := ⟨_, rfl⟩
      have hr10 : r < 10 := by omega
      have hm : Int.tmod (n : Int) 10 = (r : Int) := by rw [Int.tmod_eq_emod_of_nonneg (by omega)]; omega
      have hd : Int.tdiv (n : Int) 10 = (q : Int) := by rw [Int.tdiv_eq_ediv_of_nonneg (by omega)]; omega
      have hq11 : q < 100000000000 := by omega
      have hw : wrap64 (q : Int) = (q : Int) := by unfold wrap64; omega
      have hcv := one_byte10 w (UInt8.ofNat (48 + r)) (48 + (r : Int)) (by rw [N.dig_of r hr10]; omega)
      have hdec := T.decL_big (n := n) (by omega)
      rw [hr, hq] at hdec
      rw [hq] at ih
      rw [hdec, ← sB_add]
      obtain ⟨s, hs⟩ : ∃ s, sB [UInt8.ofNat (48 + r)] = s := ⟨_, rfl⟩
      obtain ⟨s2, hs2⟩ : ∃ s2, sB (T.decL q) = s2 := ⟨_, rfl⟩
      have hl2 : s2.size ≤ 1000 := by
        rw [← hs2, sB_size]
        have := T.decL_len k q (by rw [← hq]; exact hlt)
        omega
      have hl1 : s.size = 1 := by rw [← hs, sB_size]; rfl
      rw [hs] at hcv ⊢
      rw [hs2] at ih ⊢
      have HI := Lib.hid ih
      clear hs hs2 hr hq hdec ih h hlt
      go_enter Try.func30, Try.ntmps30
      go_wp2_with fail
      refine (HI.out _).mono ?_
      rintro e w1 ⟨rfl, hx⟩
      go_wp2
      go_ret
      exact ⟨rfl, bthen ((Below.refl _ _).alloc (Nat.le_refl _) _) hx⟩
/-- Digits, its answer as a variable. -/
theorem digQ (n : Int) (k : Nat) (q : List UInt8) (w : World) (hn : n = (k : Int)) (hk : k < 10000000000) (hq : T.decL k = q) : Calls Try.prog 30 #[.int .i64 n] w (fun e w' => e = .returned (.string (sB q)) ∧ Below w.heap.size w w') := by
  subst hn; subst hq; exact digits10_any 9 k (by omega) (by omega) w
theorem dec3_len (k : Nat) (h : k < 1000) : (T.decL k).length ≤ 3 := T.decL_len 2 k (by omega)
set_option maxRecDepth 100000 in
set_option maxHeartbeats 1000000 in
theorem ipTextR (n : Nat) (w : World) (hn : n < 4294967296) : Calls Try.prog 17 #[.int .i64 (n : Int)] w (fun e w' => e = .returned (.string (sB (N.ipT n))) ∧ Below w.heap.size w w') := by
  obtain ⟨a, ha⟩ : ∃ a, n / 16777216 = a := ⟨_, rfl⟩
  obtain ⟨b, hb⟩ : ∃ b, n / 65536 % 256 = b := ⟨_, rfl⟩
  obtain ⟨c, hc⟩ : ∃ c, n / 256 % 256 = c := ⟨_, rfl⟩
  obtain ⟨d, hd⟩ : ∃ d, n % 256 = d := ⟨_, rfl⟩
  have ha2 : a < 256 := by omega
  have hb2 : b < 256 := by omega
  have hc2 : c < 256 := by omega
  have hd2 : d < 256 := by omega
  have e1 : Int.tdiv (n : Int) 16777216 = (a : Int) := by rw [Int.tdiv_eq_ediv_of_nonneg (by omega)]; omega
  obtain ⟨x, hx⟩ : ∃ x, n / 65536 = x := ⟨_, rfl⟩
  obtain ⟨y, hy⟩ : ∃ y, n / 256 = y := ⟨_, rfl⟩
  have e2 : Int.tdiv (n : Int) 65536 = (x : Int) := by rw [Int.tdiv_eq_ediv_of_nonneg (by omega)]; omega
  have e3 : Int.tmod (x : Int) 256 = (b : Int) := by rw [Int.tmod_eq_emod_of_nonneg (by omega)]; omega
  have e4 : Int.tdiv (n : Int) 256 = (y : Int) := by rw [Int.tdiv_eq_ediv_of_nonneg (by omega)]; omega
  have e5 : Int.tmod (y : Int) 256 = (c : Int) := by rw [Int.tmod_eq_emod_of_nonneg (by omega)]; omega
  have e6 : Int.tmod (n : Int) 256 = (d : Int) := by rw [Int.tmod_eq_emod_of_nonneg (by omega)]; omega
  have hx2 : x < 65536 := by omega
  have hy2 : y < 16777216 := by omega
  obtain ⟨qa, hqa⟩ : ∃ q, T.decL a = q := ⟨_, rfl⟩
  obtain ⟨qb, hqb⟩ : ∃ q, T.decL b = q := ⟨_, rfl⟩
  obtain ⟨qc, hqc⟩ : ∃ q, T.decL c = q := ⟨_, rfl⟩
  obtain ⟨qd, hqd⟩ : ∃ q, T.decL d = q := ⟨_, rfl⟩
  have la : qa.length ≤ 3 := hqa ▸ dec3_len a (by omega)
  have lb : qb.length ≤ 3 := hqb ▸ dec3_len b (by omega)
  have lc : qc.length ≤ 3 := hqc ▸ dec3_len c (by omega)
  have ld : qd.length ≤ 3 := hqd ▸ dec3_len d (by omega)
  have HRES := Lib.hid (show N.ipT n = qa ++ 46 :: (qb ++ 46 :: (qc ++ 46 :: qd)) by unfold N.ipT; rw [ha, hb, hc, hd, hqa, hqb, hqc, hqd])
  have HQA := Lib.hid hqa
  have HQB := Lib.hid hqb
  have HQC := Lib.hid hqc
  have HQD := Lib.hid hqd
  have HB : Below w.heap.size w w := Below.refl _ _
  have sa := sB_size qa
  have sb := sB_size qb
  have sc := sB_size qc
  have sd := sB_size qd
  obtain ⟨va, hva⟩ : ∃ v, sB qa = v := ⟨_, rfl⟩
  obtain ⟨vb, hvb⟩ : ∃ v, sB qb = v := ⟨_, rfl⟩
  obtain ⟨vc, hvc⟩ : ∃ v, sB qc = v := ⟨_, rfl⟩
  obtain ⟨vd, hvd⟩ : ∃ v, sB qd = v := ⟨_, rfl⟩
  rw [hva] at sa
  rw [hvb] at sb
  rw [hvc] at sc
  rw [hvd] at sd
  have HVA := Lib.hid hva
  have HVB := Lib.hid hvb
  have HVC := Lib.hid hvc
  have HVD := Lib.hid hvd
  have za : va.size ≤ 3 := by omega
  have zb : vb.size ≤ 3 := by omega
  have zc : vc.size ≤ 3 := by omega
  have zd : vd.size ≤ 3 := by omega
  clear ha hb hc hd hx hy hqa hqb hqc hqd hva hvb hvc hvd la lb lc ld sa sb sc sd
  go_enter Try.func17, Try.ntmps17
  go_wp2_with fail
  refine (digQ _ a qa _ (by go_num) (by omega) HQA.out).mono ?_
  rintro e w1 ⟨rfl, hx⟩
  rw [HVA.out]
  replace HB := bthen HB hx
  clear hx
  go_wp2_with fail
  refine (digQ _ b qb _ (by go_num) (by omega) HQB.out).mono ?_
  rintro e w2 ⟨rfl, hx⟩
  rw [HVB.out]
  replace HB := bthen HB hx
  clear hx
  go_wp2_with fail
  refine (digQ _ c qc _ (by go_num) (by omega) HQC.out).mono ?_
  rintro e w3 ⟨rfl, hx⟩
  rw [HVC.out]
  replace HB := bthen HB hx
  clear hx
  go_wp2_with fail
  refine (digQ _ d qd _ (by go_num) (by omega) HQD.out).mono ?_
  rintro e w4 ⟨rfl, hx⟩
  rw [HVD.out]
  replace HB := bthen HB hx
  clear hx
  go_wp2
  go_ret
  exact ⟨by rw [HRES.out, ← HVA.out, ← HVB.out, ← HVC.out, ← HVD.out]; exact congrArg (fun z => Ending.returned (Value.string z)) (ByteArray.ext (by simp [ByteArray.data_append, sB])), HB⟩
end Go.Proofs.Ytggdpnkekgmimaa

namespace Go.Proofs.Ytggdpnkekgmimaa
open Go.RowKit
set_option linter.unusedVariables false

theorem calls_sym {P : Program} {f : FuncId} {args : Array Value} {w : World} {v : Value} (h : Calls P f args w fun e w' => e = .returned v ∧ w = w') : Calls P f args w fun e w' => e = .returned v ∧ w' = w := h.mono fun _ _ ⟨a, b⟩ => ⟨a, b.symm⟩
theorem below_drawn10 {B : Nat} {a w : World} (h : Below B a w) (q : Nat) : Below B a (w.drewN q) := ⟨h.os, h.tape, h.output, h.size, h.block⟩
theorem rightQ10 (n bits : Int) (r : Bool) (w : World) (h : N.rightB n bits = r) : Calls Try.prog 26 #[.int .i64 n, .int .i64 bits] w (fun e w' => e = .returned (.bool r) ∧ w = w') := by subst h; exact rightR10 n bits w
theorem right_nums {n bits : Int} (h : N.rightB n bits = true) : 0 ≤ n ∧ n < 4294967296 ∧ 0 ≤ bits ∧ bits ≤ 32 := by
  unfold N.rightB at h
  simp only [Bool.and_eq_true, decide_eq_true_eq] at h
  exact ⟨h.1.1.1.1, h.1.1.1.2, h.1.1.2, h.1.2⟩
set_option maxRecDepth 100000 in
set_option maxHeartbeats 2000000 in
theorem inR10 (n bits ip : Int) (w : World) : Calls Try.prog 14 #[.int .i64 n, .int .i64 bits, .int .i64 ip] w (fun e w' => e = .returned (.bool (N.inB n bits ip)) ∧ Below w.heap.size w w') := by
  obtain ⟨r, hr⟩ : ∃ r, N.rightB n bits = r := ⟨_, rfl⟩
  have HRI := Lib.hid hr
  cases r with
  | false =>
    have HE := Lib.hid (show N.inB n bits ip = false by unfold N.inB; rw [hr]; rfl)
    clear hr
    go_enter Try.func14, Try.ntmps14
    go_wp2
    go_quiet (first | (go_at_call 26; exact Calls.quiet_of_same (calls_sym (rightQ10 _ _ _ _ HRI.out))) | (go_at_call 27; exact Calls.quiet_of_same (calls_sym (powQ _ 0 1 _ rfl (by omega) rfl))))
    go_wp2
    go_ret
    exact ⟨by rw [HE.out]; rfl, (below_drawn10 (Below.refl _ _) _)⟩
  | true =>
    obtain ⟨g1, g2, g3, g4⟩ := right_nums hr
    by_cases h1 : 0 ≤ ip
    · have b1 : decide (0 ≤ ip) = true := decide_eq_true h1
      by_cases h2 : ip < 4294967296
      · have b2 : decide (ip < 4294967296) = true := decide_eq_true h2
        obtain ⟨nn, rfl⟩ := Int.eq_ofNat_of_zero_le g1
        obtain ⟨ii, rfl⟩ := Int.eq_ofNat_of_zero_le h1
        obtain ⟨k, hk⟩ : ∃ k : Nat, (32 - bits).toNat = k := ⟨_, rfl⟩
        have hk2 : 32 - bits = (k : Int) := by omega
        obtain ⟨p, hp⟩ : ∃ p, 2 ^ k = p := ⟨_, rfl⟩
        have hpp : 0 < p := by rw [← hp]; exact N.pow_pos2 k
        have hpb : p ≤ 4294967296 := by rw [← hp]; exact Nat.le_trans (Nat.pow_le_pow_right (by omega) (show k ≤ 32 by omega)) (by decide)
        have bp : ((p : Int) == 0) = false := beq_eq_false_iff_ne.2 (by omega)
        have bp2 : (p == 0) = false := beq_eq_false_iff_ne.2 (by omega)
        obtain ⟨qi, hqi⟩ : ∃ q, ii / p = q := ⟨_, rfl⟩
        obtain ⟨qn, hqn⟩ : ∃ q, nn / p = q := ⟨_, rfl⟩
        have d1 : Int.tdiv (ii : Int) (p : Int) = (qi : Int) := by rw [Int.tdiv_eq_ediv_of_nonneg (by omega), ← hqi, Int.natCast_ediv]
        have d2 : Int.tdiv (nn : Int) (p : Int) = (qn : Int) := by rw [Int.tdiv_eq_ediv_of_nonneg (by omega), ← hqn, Int.natCast_ediv]
        have l1 : qi < 4294967296 := by rw [← hqi]; exact Nat.lt_of_le_of_lt (Nat.div_le_self _ _) (by omega)
        have l2 : qn < 4294967296 := by rw [← hqn]; exact Nat.lt_of_le_of_lt (Nat.div_le_self _ _) (by omega)
        have hK := Lib.hid (show ∀ w, Calls Try.prog 27 #[.int .i64 (k : Int)] w (fun e w' => e = .returned (.int .i64 (p : Int)) ∧ w = w') from fun w => powQ _ k p w rfl (by omega) hp)
        obtain ⟨rr, hrr⟩ : ∃ rr, N.inB (nn : Int) bits (ii : Int) = rr := ⟨_, rfl⟩
        have hr2 : rr = (qi == qn) := by
          rw [← hrr]
          unfold N.inB
          rw [hr, b1, b2, hk, hp]
          show decide ((ii : Int) / (p : Int) = (nn : Int) / (p : Int)) = _
          rw [← Int.natCast_ediv, ← Int.natCast_ediv, hqi, hqn, Bool.eq_iff_iff, decide_eq_true_eq, beq_iff_eq]
          omega
        rw [hrr]
        have HK2 := Lib.hid hk2
        have sb : IntKind.i64.wrap (32 - bits) = (k : Int) := by rw [hk2]; rw [IntKind.wrap_i64]; omega
        clear hr hrr hqi hqn hk hp
        cases hz : (qi == qn) with
        | true =>
          have hz2 : ((qi : Int) == (qn : Int)) = true := by simp at hz ⊢; omega
          have HE := Lib.hid (show rr = true by rw [hr2, hz])
          clear hr2 hz
          go_enter Try.func14, Try.ntmps14
          go_wp2
          go_quiet (first | (go_at_call 26; exact Calls.quiet_of_same (calls_sym (rightQ10 _ _ _ _ HRI.out))) | (go_at_call 27; exact Calls.quiet_of_same (calls_sym (hK.out _))))
          go_wp2
          go_ret
          exact ⟨by rw [HE.out]; rfl, (below_drawn10 (Below.refl _ _) _)⟩
        | false =>
          have hz2 : ((qi : Int) == (qn : Int)) = false := by simp at hz ⊢; omega
          have HE := Lib.hid (show rr = false by rw [hr2, hz])
          clear hr2 hz
          go_enter Try.func14, Try.ntmps14
          go_wp2
          go_quiet (first | (go_at_call 26; exact Calls.quiet_of_same (calls_sym (rightQ10 _ _ _ _ HRI.out))) | (go_at_call 27; exact Calls.quiet_of_same (calls_sym (hK.out _))))
          go_wp2
          go_ret
          exact ⟨by rw [HE.out]; rfl, (below_drawn10 (Below.refl _ _) _)⟩
      · have b2 : decide (ip < 4294967296) = false := decide_eq_false h2
        have HE := Lib.hid (show N.inB n bits ip = false by unfold N.inB; rw [b2, Bool.and_false, Bool.false_and])
        clear hr
        go_enter Try.func14, Try.ntmps14
        go_wp2
        go_quiet (first | (go_at_call 26; exact Calls.quiet_of_same (calls_sym (rightQ10 _ _ _ _ HRI.out))) | (go_at_call 27; exact Calls.quiet_of_same (calls_sym (powQ _ 0 1 _ rfl (by omega) rfl))))
        go_wp2
        go_ret
        exact ⟨by rw [HE.out]; rfl, (below_drawn10 (Below.refl _ _) _)⟩
    · have b1 : decide (0 ≤ ip) = false := decide_eq_false h1
      have HE := Lib.hid (show N.inB n bits ip = false by unfold N.inB; rw [b1, Bool.and_false, Bool.false_and, Bool.false_and])
      clear hr
      go_enter Try.func14, Try.ntmps14
      go_wp2
      go_quiet (first | (go_at_call 26; exact Calls.quiet_of_same (calls_sym (rightQ10 _ _ _ _ HRI.out))) | (go_at_call 27; exact Calls.quiet_of_same (calls_sym (powQ _ 0 1 _ rfl (by omega) rfl))))
      go_wp2
      go_ret
      exact ⟨by rw [HE.out]; rfl, (below_drawn10 (Below.refl _ _) _)⟩
end Go.Proofs.Ytggdpnkekgmimaa

namespace Go.Proofs.Ytggdpnkekgmimaa
open Go.RowKit
set_option linter.unusedVariables false

/-- An int of Go. -/
def I64 (n : Int) : Prop := -9223372036854775808 ≤ n ∧ n ≤ 9223372036854775807
/-- A number, if there is one. -/
def okA (z : Int) : Int × Bool := if 0 ≤ z then (z, true) else (0, false)
/-- The number of a text within bounds. -/
def numA (l : List UInt8) (least most : Int) : Int × Bool := if 0 ≤ N.numL l ∧ least ≤ N.numL l ∧ N.numL l ≤ most then (N.numL l, true) else (0, false)
/-- The prefix of a text. -/
def prefA (l : List UInt8) : Int × Int × Bool := if 0 ≤ (N.prefL l).1 then ((N.prefL l).1, (N.prefL l).2, true) else (0, 0, false)
end Go.Proofs.Ytggdpnkekgmimaa

namespace Go.Proofs.Ytggdpnkekgmimaa
namespace N
open T (decL)

-- CUT AT A BYTE
theorem index_cases (l : List UInt8) (c : UInt8) : (Lib.indexByte l c = -1 ∧ c ∉ l) ∨ (∃ i : Nat, Lib.indexByte l c = i ∧ i < l.length ∧ l = l.take i ++ c :: l.drop (i + 1) ∧ c ∉ l.take i) := by
  by_cases h : Lib.indexByte l c = -1
  · left
    refine ⟨h, fun hm => ?_⟩
    obtain ⟨k, hk, e⟩ := List.getElem_of_mem hm
    exact Lib.indexByte_none h k (by rw [List.getElem?_eq_getElem hk, e])
  · right
    have hge := Lib.indexByte_ge l c
    obtain ⟨i, hi⟩ := Int.eq_ofNat_of_zero_le (show 0 ≤ Lib.indexByte l c by omega)
    obtain ⟨h1, h2⟩ := Lib.indexByte_some hi
    obtain ⟨hlt, e⟩ := List.getElem?_eq_some_iff.1 h1
    refine ⟨i, hi, hlt, ?_, ?_⟩
    · conv => lhs; rw [← List.take_append_drop i l]
      rw [List.drop_eq_getElem_cons hlt, e]
    · intro hm
      obtain ⟨k, hk, e2⟩ := List.getElem_of_mem hm
      rw [List.length_take] at hk
      refine h2 k (by omega) ?_
      rw [List.getElem_take] at e2
      rw [List.getElem?_eq_getElem (by omega), e2]
theorem split_hit {l : List UInt8} {c : UInt8} {i : Nat} (e : l = l.take i ++ c :: l.drop (i + 1)) (h : c ∉ l.take i) : splitL c l = l.take i :: splitL c (l.drop (i + 1)) := by
  conv => lhs; rw [e]
  exact split_at h _
-- BITS
theorem bits_and_i64 (a b : Nat) (ha : a < 9223372036854775808) (hb : b < 9223372036854775808) : bits .and .i64 (a : Int) (b : Int) = ((a &&& b : Nat) : Int) := by
  have hx : a &&& b < 2 ^ 63 := Nat.and_lt_two_pow _ (by omega)
  have h1 : (BitVec.ofInt 64 (a : Int)).toNat = a := by
    rw [BitVec.ofInt_natCast, BitVec.toNat_ofNat]; exact Nat.mod_eq_of_lt (by omega)
  have h2 : (BitVec.ofInt 64 (b : Int)).toNat = b := by
    rw [BitVec.ofInt_natCast, BitVec.toNat_ofNat]; exact Nat.mod_eq_of_lt (by omega)
  show IntKind.i64.wrap ((BitVec.ofInt 64 (a : Int) &&& BitVec.ofInt 64 (b : Int)).toNat : Int) = _
  rw [BitVec.toNat_and, h1, h2, IntKind.wrap_i64]
  omega
theorem bits_or_i64 (a b : Nat) (ha : a < 9223372036854775808) (hb : b < 9223372036854775808) : bits .or .i64 (a : Int) (b : Int) = ((a ||| b : Nat) : Int) := by
  have hx : a ||| b < 2 ^ 63 := Nat.or_lt_two_pow (by omega) (by omega)
  have h1 : (BitVec.ofInt 64 (a : Int)).toNat = a := by
    rw [BitVec.ofInt_natCast, BitVec.toNat_ofNat]; exact Nat.mod_eq_of_lt (by omega)
  have h2 : (BitVec.ofInt 64 (b : Int)).toNat = b := by
    rw [BitVec.ofInt_natCast, BitVec.toNat_ofNat]; exact Nat.mod_eq_of_lt (by omega)
  show IntKind.i64.wrap ((BitVec.ofInt 64 (a : Int) ||| BitVec.ofInt 64 (b : Int)).toNat : Int) = _
  rw [BitVec.toNat_or, h1, h2, IntKind.wrap_i64]
  omega
theorem and_low (a k p : Nat) (hp : 2 ^ k = p) (ha : a < 9223372036854775808) (hk : p ≤ 9223372036854775808) : bits .and .i64 (a : Int) (((p - 1 : Nat) : Int)) = ((a % p : Nat) : Int) := by
  have h0 : 0 < p := by rw [← hp]; exact pow_pos2 k
  rw [bits_and_i64 a (p - 1) ha (by omega), ← hp, Nat.and_two_pow_sub_one_eq_mod]
theorem or_low (a b k p : Nat) (hp : 2 ^ k = p) (hb : b < p) (ha : p * a + b < 9223372036854775808) : bits .or .i64 ((p * a : Nat) : Int) (b : Int) = ((p * a + b : Nat) : Int) := by
  rw [bits_or_i64 (p * a) b (by omega) (by omega), ← hp, Nat.two_pow_add_eq_or_of_lt (by rw [hp]; exact hb)]
-- A HARDWARE ADDRESS, BYTE BY BYTE
-- THE DIGITS OF BASE 16, AS A TEXT
end N
end Go.Proofs.Ytggdpnkekgmimaa

namespace Go.Proofs.Ytggdpnkekgmimaa
open Go.RowKit
set_option linter.unusedVariables false

set_option maxRecDepth 100000 in
theorem belowIP (n : Int) (r : Bool) (w : World) (h : (decide (0 ≤ n) && decide (n < 4294967296)) = r) : Calls Try.prog 35 #[.int .i64 n, .int .i64 32] w (fun e w' => e = .returned (.bool r) ∧ w = w') := by
  by_cases h0 : 0 ≤ n
  · have c0 : decide (0 ≤ n) = true := decide_eq_true h0
    rw [c0, Bool.true_and] at h
    go_enter Try.func35, Try.ntmps35
    go_wp2
    go_ret
    exact ⟨by rw [← h]; rfl, rfl⟩
  · have c0 : decide (0 ≤ n) = false := decide_eq_false h0
    rw [c0, Bool.false_and] at h
    subst h
    go_enter Try.func35, Try.ntmps35
    go_wp2
    go_ret
    exact ⟨rfl, rfl⟩
theorem and_lowC (a k p : Nat) (hp : 2 ^ k = p) (ha : (a : Int) < 4294967296) (hk : p ≤ 4294967296) : Go.bits .and .i64 (a : Int) (((p - 1 : Nat) : Int)) = ((a % p : Nat) : Int) := by
  have h1 : a < 9223372036854775808 := by omega
  have h2 : p ≤ 9223372036854775808 := by omega
  exact N.and_low a k p hp h1 h2
theorem sub1C {p q : Nat} (h : 0 < p) (hq : p - 1 = q) : (p : Int) - 1 = (q : Int) := by omega
theorem subC {p q : Nat} (h : p ≤ 4294967296) (hq : p - 1 = q) : q ≤ 4294967296 := by omega
theorem wrapC {p : Nat} (h : p ≤ 4294967296) : wrap64 (p : Int) = (p : Int) := Go.IntWalk.wrap64_in _ (by omega)
set_option maxRecDepth 100000 in
set_option maxHeartbeats 2000000 in
theorem isPref_any10 (n bits : Int) (r : Bool) (w : World) (hr : N.rightB n bits = r) : Calls Try.prog 34 #[.int .i64 n, .int .i64 bits] w (fun e w' => e = .returned (.bool r) ∧ w = w') := by
  by_cases h0 : 0 ≤ n ∧ n < 4294967296
  · have HB := Lib.hid (show (decide (0 ≤ n) && decide (n < 4294967296)) = true by rw [decide_eq_true h0.1, decide_eq_true h0.2]; rfl)
    by_cases h1 : 0 ≤ bits
    · have c1 : decide (0 ≤ bits) = true := decide_eq_true h1
      by_cases h2 : bits ≤ 32
      · have c2 : decide (bits ≤ 32) = true := decide_eq_true h2
        obtain ⟨k, hk⟩ : ∃ k : Nat, (32 - bits).toNat = k := ⟨_, rfl⟩
        have hk2 : 32 - bits = (k : Int) := by omega
        have hk3 : k ≤ 32 := by omega
        obtain ⟨nn, rfl⟩ := Int.eq_ofNat_of_zero_le h0.1
        obtain ⟨p, hp⟩ : ∃ p, 2 ^ k = p := ⟨_, rfl⟩
        have hpp : 0 < p := by rw [← hp]; exact N.pow_pos2 k
        have hpb : p ≤ 4294967296 := by rw [← hp]; exact Nat.le_trans (Nat.pow_le_pow_right (by omega) (show k ≤ 32 by omega)) (by decide)
        obtain ⟨q, hq⟩ : ∃ q, p - 1 = q := ⟨_, rfl⟩
        obtain ⟨d, hd⟩ : ∃ d, nn % p = d := ⟨_, rfl⟩
        have e1 : wrap64 (2 ^ (32 - bits).toNat) = (p : Int) := by
          rw [hk, show ((2 : Int) ^ k) = (p : Int) by rw [← hp, Int.natCast_pow]; rfl]; exact wrapC hpb
        have e0 : (p : Int) - 1 = (q : Int) := sub1C hpp hq
        have e2 : wrap64 ((p : Int) - 1) = (q : Int) := by rw [e0]; exact wrapC (subC hpb hq)
        have e3 : Go.bits .and .i64 (nn : Int) (q : Int) = (d : Int) := by rw [← hq, ← hd]; exact and_lowC nn k p hp h0.2 hpb
        have HR := Lib.hid (show (Go.bits .and .i64 (nn : Int) (wrap64 (wrap64 (2 ^ (32 - bits).toNat) - 1)) == 0) = r by
          rw [e1, e2, e3, ← hr]; unfold N.rightB
          rw [decide_eq_true (show (0 : Int) ≤ (nn : Int) by omega), decide_eq_true (show (nn : Int) < 4294967296 from h0.2), c1, c2, hk, hp]
          show _ = decide ((nn : Int) % (p : Int) = 0)
          rw [← Int.natCast_emod, hd, Bool.eq_iff_iff, decide_eq_true_eq, beq_iff_eq])
        clear hr hp hq hd h0 hk hk2 e0 e1 e2 e3 hpp hpb hk3
        go_enter Try.func34, Try.ntmps34
        go_wp2_with fail
        refine (belowIP _ true _ HB.out).mono ?_
        rintro e w1 ⟨rfl, rfl⟩
        go_wp2
        go_ret
        exact ⟨by rw [← HR.out]; rfl, rfl⟩
      · have c2 : decide (bits ≤ 32) = false := decide_eq_false h2
        have HR := Lib.hid (show false = r by rw [← hr]; unfold N.rightB; rw [c2, Bool.and_false, Bool.false_and])
        clear hr h0
        go_enter Try.func34, Try.ntmps34
        go_wp2_with fail
        refine (belowIP _ true _ HB.out).mono ?_
        rintro e w1 ⟨rfl, rfl⟩
        go_wp2
        go_ret
        exact ⟨by rw [← HR.out]; rfl, rfl⟩
    · have c1 : decide (0 ≤ bits) = false := decide_eq_false h1
      have HR := Lib.hid (show false = r by rw [← hr]; unfold N.rightB; rw [c1, Bool.and_false, Bool.false_and, Bool.false_and])
      clear hr h0
      go_enter Try.func34, Try.ntmps34
      go_wp2_with fail
      refine (belowIP _ true _ HB.out).mono ?_
      rintro e w1 ⟨rfl, rfl⟩
      go_wp2
      go_ret
      exact ⟨by rw [← HR.out]; rfl, rfl⟩
  · have hz : (decide (0 ≤ n) && decide (n < 4294967296)) = false := by
      cases hz : (decide (0 ≤ n) && decide (n < 4294967296)) with
      | false => rfl
      | true => rw [Bool.and_eq_true, decide_eq_true_eq, decide_eq_true_eq] at hz; exact absurd hz h0
    have HB := Lib.hid hz
    have HR := Lib.hid (show false = r by rw [← hr]; unfold N.rightB; rw [hz, Bool.false_and, Bool.false_and, Bool.false_and])
    clear hr h0 hz
    go_enter Try.func34, Try.ntmps34
    go_wp2_with fail
    refine (belowIP _ false _ HB.out).mono ?_
    rintro e w1 ⟨rfl, rfl⟩
    go_wp2
    go_ret
    exact ⟨by rw [← HR.out]; rfl, rfl⟩
theorem okA_nat (n : Nat) : okA (n : Int) = ((n : Int), true) := by unfold okA; rw [if_pos (by omega)]
set_option maxRecDepth 100000 in
set_option maxHeartbeats 2000000 in
theorem number_any (s : ByteArray) (w : World) (hs : s.size ≤ 1073741824) : Calls Try.prog 41 #[.string s] w (fun e w' => e = .returned (.tuple #[.int .i64 (okA (N.numL s.data.toList)).1, .bool (okA (N.numL s.data.toList)).2]) ∧ w = w') := by
  have hsz : s.data.toList.length = s.size := by simp
  by_cases h0 : s.size = 0
  · have HE := Lib.hid (show N.numL s.data.toList = -1 by rw [List.eq_nil_of_length_eq_zero (hsz.trans h0)]; rfl)
    have b1 : decide ((s.size : Int) < 1) = true := decide_eq_true (by omega)
    have b1b : decide (s.size < 1) = true := decide_eq_true (by omega)
    have b1c : decide (s.size = 0) = true := decide_eq_true h0
    have b1d : s.toList = [] := by rw [ByteArray.toList_eq, List.eq_nil_of_length_eq_zero (hsz.trans h0)]
    clear hsz h0
    go_enter Try.func41, Try.ntmps41
    go_wp2
    go_ret2
    exact ⟨by rw [HE.out]; rfl, rfl⟩
  have hpos : 0 < s.size := by omega
  have b1 : decide ((s.size : Int) < 1) = false := decide_eq_false (by omega)
  have b1b : decide (s.size < 1) = false := decide_eq_false (by omega)
  have b1c : decide (s.size = 0) = false := decide_eq_false h0
  have b1d : ¬ s.toList = [] := by rw [ByteArray.toList_eq]; exact fun e => h0 (by rw [← hsz, e]; rfl)
  have b1e : s.toList.isEmpty = false := by cases hx : s.toList with | nil => exact absurd hx b1d | cons => rfl
  by_cases h1 : 10 < s.size
  · have HE := Lib.hid (show N.numL s.data.toList = -1 by unfold N.numL; rw [if_pos (.inr (.inl (by rw [hsz]; exact h1)))])
    have b2 : decide ((10 : Int) < (s.size : Int)) = true := decide_eq_true (by omega)
    have b2b : decide (10 < s.size) = true := decide_eq_true h1
    clear hsz h0 h1
    go_enter Try.func41, Try.ntmps41
    go_wp2
    go_ret2
    exact ⟨by rw [HE.out]; rfl, rfl⟩
  have b2 : decide ((10 : Int) < (s.size : Int)) = false := decide_eq_false (by omega)
  have b2b : decide (10 < s.size) = false := decide_eq_false h1
  have hhd := head_is s hpos
  by_cases h2 : s[0].toNat = 48 ∧ 1 < s.size
  · have HE := Lib.hid (show N.numL s.data.toList = -1 by unfold N.numL; rw [if_pos (.inr (.inr (.inl ⟨by rw [hhd, show s[0] = 48 from UInt8.toNat_inj.1 h2.1], by rw [hsz]; exact h2.2⟩)))])
    have b3 : ((s[0].toNat : Int) == 48) = true := by simp; omega
    have b4 : decide ((1 : Int) < (s.size : Int)) = true := decide_eq_true (by omega)
    have b4b : decide (1 < s.size) = true := decide_eq_true h2.2
    clear hsz h0 h1 h2 hhd
    go_enter Try.func41, Try.ntmps41
    go_wp2
    go_ret2
    exact ⟨by rw [HE.out]; rfl, rfl⟩
  have HSZ := Lib.hid hsz
  have HNE := Lib.hid (show s.data.toList ≠ [] from fun e => h0 (by rw [← hsz, e]; rfl))
  have HH := Lib.hid (show ¬ (s.data.toList.head? = some 48 ∧ 1 < s.data.toList.length) by
    rintro ⟨e1, e2⟩
    rw [hhd] at e1
    injection e1 with e1
    exact h2 ⟨by rw [e1]; rfl, by omega⟩)
  by_cases h4 : 1 < s.size
  all_goals
    first
    | (have b3 : ((s[0].toNat : Int) == 48) = false := by (have : s[0].toNat ≠ 48 := fun e => h2 ⟨e, h4⟩; simp; omega)
       have b4 : decide ((1 : Int) < (s.size : Int)) = true := decide_eq_true (by omega)
       have b4b : decide (1 < s.size) = true := decide_eq_true (by omega))
    | (have b4 : decide ((1 : Int) < (s.size : Int)) = false := decide_eq_false (by omega)
       have b4b : decide (1 < s.size) = false := decide_eq_false (by omega))
    clear hsz h0 h2 h4 hhd
    go_enter Try.func41, Try.ntmps41
    go_wp2
    go_loopg [4, 5] s.size (fun gk vn vi wr => ∃ k v : Nat, Hid (k + gk = s.size) ∧ k ≤ s.size ∧ vi = .int .i64 (k : Int) ∧ vn = .int .i64 (v : Int) ∧ Hid (N.valL (s.data.toList.take k) = v) ∧ Hid ((s.data.toList.take k).all N.digB = true) ∧ w = wr)
    case atStart => exact ⟨0, 0, Nat.zero_add _, Nat.zero_le _, rfl, rfl, rfl, rfl, rfl⟩
    case round =>
      obtain ⟨k, v, HG, hk, rfl, rfl, HV, HD, rfl⟩ := hrel
      by_cases hlt : k < s.size
      · have blt : decide ((k : Int) < (s.size : Int)) = true := decide_eq_true (by omega)
        have blt2 : decide (k < s.size) = true := decide_eq_true hlt
        have hki : (k : Int) < (s.size : Int) := by omega
        have hsn := W.take_snoc s k hlt
        have hmem : s[k] ∈ s.data.toList := List.mem_of_mem_take (i := k + 1) (by rw [hsn]; simp)
        have hv : v < 10000000000 := by
          rw [← HV.out]
          exact N.val_lt _ HD.out 10 (by rw [List.length_take]; omega)
        have hc := s[k].toNat_lt
        by_cases hlo : s[k].toNat < 48
        · have c1 : decide ((s[k].toNat : Int) < 48) = true := decide_eq_true (by omega)
          have HE := Lib.hid (num_bad hmem (digB_lo hlo))
          clear hsn hmem hlo
          go_wp2
          go_ret2
          exact ⟨by rw [HE.out]; rfl, rfl⟩
        · have c1 : decide ((s[k].toNat : Int) < 48) = false := decide_eq_false (by omega)
          by_cases hhi : 57 < s[k].toNat
          · have c2 : decide ((57 : Int) < (s[k].toNat : Int)) = true := decide_eq_true (by omega)
            have c2b : decide (57 < s[k].toNat) = true := decide_eq_true hhi
            have HE := Lib.hid (num_bad hmem (digB_hi hhi))
            clear hsn hmem hlo hhi
            go_wp2
            go_ret2
            exact ⟨by rw [HE.out]; rfl, rfl⟩
          · have c2 : decide ((57 : Int) < (s[k].toNat : Int)) = false := decide_eq_false (by omega)
            have c2b : decide (57 < s[k].toNat) = false := decide_eq_false hhi
            have HSN := Lib.hid hsn
            have HD2 := Lib.hid (show (s.data.toList.take (k + 1)).all N.digB = true by rw [hsn, List.all_append, HD.out]; show ([s[k]] : List UInt8).all N.digB = true; rw [List.all_cons, digB_in (by omega) (by omega)]; rfl)
            have HV2 := Lib.hid (show N.valL (s.data.toList.take (k + 1)) = 10 * v + (s[k].toNat - 48) by rw [hsn, N.val_snoc, HV.out])
            have hgk := HG.out
            have hu : IntKind.u8.wrap ((s[k].toNat : Int) - 48) = ((s[k].toNat - 48 : Nat) : Int) := by rw [IntKind.wrap_u8]; omega
            clear hsn hmem
            go_wp2
            go_roundg (s.size - (k + 1))
            case rel => exact ⟨k + 1, 10 * v + (s[k].toNat - 48), (by show _ = _; omega), by omega, by go_num, by go_num, HV2, HD2, rfl⟩
            case measure => omega
      · have blt : decide ((k : Int) < (s.size : Int)) = false := decide_eq_false (by omega)
        have blt2 : decide (k < s.size) = false := decide_eq_false hlt
        have htk : s.data.toList.take k = s.data.toList := List.take_of_length_le (by have := HSZ.out; omega)
        have HE := Lib.hid (show N.numL s.data.toList = v by
          have h5 := HV.out
          have h6 := HD.out
          rw [htk] at h5 h6
          rw [num_all HNE.out (by rw [HSZ.out]; exact h1) HH.out h6, h5])
        clear htk
        go_wp2
        go_ret2
        exact ⟨by rw [HE.out, okA_nat]; rfl, rfl⟩
set_option maxRecDepth 100000 in
theorem num_any10 (s : ByteArray) (least most z : Int) (ok : Bool) (w : World) (hs : s.size ≤ 1073741824) (hz : numA s.data.toList least most = (z, ok)) : Calls Try.prog 33 #[.string s, .int .i64 least, .int .i64 most] w (fun e w' => e = .returned (.tuple #[.int .i64 z, .bool ok]) ∧ w = w') := by
  have HN := Lib.hid (number_any s w hs)
  rcases N.num_cases s.data.toList with h | ⟨n, h, _, _⟩
  · have e1 : okA (N.numL s.data.toList) = (0, false) := by rw [h]; rfl
    have e2 : numA s.data.toList least most = (0, false) := by unfold numA; rw [if_neg (by omega)]
    rw [e1] at HN
    rw [e2] at hz
    cases hz
    clear e1 e2 h
    go_enter Try.func33, Try.ntmps33
    go_wp2_with fail
    refine (HN.out).mono ?_
    rintro e w1 ⟨rfl, rfl⟩
    go_wp2
    go_ret2
    exact ⟨rfl, rfl⟩
  · have e1 : okA (N.numL s.data.toList) = ((n : Int), true) := by rw [h, okA_nat]
    rw [e1] at HN
    clear e1
    by_cases h1 : (n : Int) < least
    · have c1 : decide ((n : Int) < least) = true := decide_eq_true h1
      have e2 : numA s.data.toList least most = (0, false) := by unfold numA; rw [if_neg (by omega)]
      rw [e2] at hz
      cases hz
      clear e2 h h1
      go_enter Try.func33, Try.ntmps33
      go_wp2_with fail
      refine (HN.out).mono ?_
      rintro e w1 ⟨rfl, rfl⟩
      go_wp2
      go_ret2
      exact ⟨rfl, rfl⟩
    · have c1 : decide ((n : Int) < least) = false := decide_eq_false h1
      by_cases h2 : most < (n : Int)
      · have c2 : decide (most < (n : Int)) = true := decide_eq_true h2
        have e2 : numA s.data.toList least most = (0, false) := by unfold numA; rw [if_neg (by omega)]
        rw [e2] at hz
        cases hz
        clear e2 h h1 h2
        go_enter Try.func33, Try.ntmps33
        go_wp2_with fail
        refine (HN.out).mono ?_
        rintro e w1 ⟨rfl, rfl⟩
        go_wp2
        go_ret2
        exact ⟨rfl, rfl⟩
      · have c2 : decide (most < (n : Int)) = false := decide_eq_false h2
        have e2 : numA s.data.toList least most = ((n : Int), true) := by unfold numA; rw [if_pos (by omega), h]
        rw [e2] at hz
        cases hz
        clear e2 h h1 h2
        go_enter Try.func33, Try.ntmps33
        go_wp2_with fail
        refine (HN.out).mono ?_
        rintro e w1 ⟨rfl, rfl⟩
        go_wp2
        go_ret2
        exact ⟨rfl, rfl⟩
end Go.Proofs.Ytggdpnkekgmimaa

namespace Go.Proofs.Ytggdpnkekgmimaa
open Go.Shelf Go.RowKit
set_option linter.unusedVariables false

def ren219 : Go.Shelf.Ren := ⟨fun | 217 => 48 | 219 => 45 | 224 => 50 | 225 => 49 | 266 => 53 | 267 => 51 | 314 => 54 | n => n, fun | 3 => 3 | 4 => 4 | 5 => 5 | 9 => 9 | 46 => 73 | 51 => 39 | 146 => 81 | n => n, fun | 1 => 0 | n => n⟩
set_option maxRecDepth 100000 in
theorem lays219 : Go.Proofs.Lays.n219 Try.prog ren219 := {
  mixed := by kernel_rfl
  f217 := Try.func48.trans (congrArg some (by kernel_rfl))
  f219 := Try.func45.trans (congrArg some (by kernel_rfl))
  f224 := Try.func50.trans (congrArg some (by kernel_rfl))
  f225 := Try.func49.trans (congrArg some (by kernel_rfl))
  f266 := Try.func53.trans (congrArg some (by kernel_rfl))
  f267 := Try.func51.trans (congrArg some (by kernel_rfl))
  f314 := Try.func54.trans (congrArg some (by kernel_rfl))
  t3 := Try.underlying3
  a3 := Try.isAgg3
  z3 := Try.sizeOf3
  v3 := Try.zeroValue3
  t4 := Try.underlying4
  a4 := Try.isAgg4
  z4 := Try.sizeOf4
  v4 := Try.zeroValue4
  t5 := Try.underlying5
  a5 := Try.isAgg5
  z5 := Try.sizeOf5
  v5 := Try.zeroValue5
  t9 := Try.underlying9
  a9 := Try.isAgg9
  z9 := Try.sizeOf9
  v9 := Try.zeroValue9
  t46 := Try.underlying73
  a46 := Try.isAgg73
  z46 := Try.sizeOf73
  v46 := Try.zeroValue73
  t51 := Try.underlying39
  a51 := Try.isAgg39
  z51 := Try.sizeOf39
  v51 := Try.zeroValue39
  t146 := Try.underlying81
  a146 := Try.isAgg81
  z146 := Try.sizeOf81
  v146 := Try.zeroValue81
  g1 := by kernel_rfl }
/-- internal/stringslite.Index of one byte. -/
theorem index_one (s : ByteArray) (c : UInt8) (w : World) : Calls Try.prog 45 #[.string s, .string ⟨#[c]⟩] w fun e w' => e = .returned (.int .i64 (Lib.indexByte s.data.toList c)) ∧ w' = w :=
  Any.stringslite_Index_one lays219 s c w
theorem below_drawnJ {B : Nat} {a w : World} (h : Below B a w) (q : Nat) : Below B a (w.drewN q) := ⟨h.os, h.tape, h.output, h.size, h.block⟩
/-- strings.Cut at one byte. -/
def CutIs (c : UInt8) (l : List UInt8) (a b : List UInt8) (f : Bool) : Prop := (f = false ∧ a = l ∧ b = [] ∧ c ∉ l) ∨ (f = true ∧ l = a ++ c :: b ∧ c ∉ a)
theorem cut_extract (s : ByteArray) (i : Nat) : s.extract 0 i = sB (s.data.toList.take i) ∧ s.extract (i + 1) s.size = sB (s.data.toList.drop (i + 1)) := by
  have hsz : s.data.toList.length = s.size := by simp
  refine ⟨?_, ?_⟩
  · refine ByteArray.ext (Array.ext' ?_)
    simp [sB, ByteArray.data_extract]
  · refine ByteArray.ext (Array.ext' ?_)
    have h1 : (s.extract (i + 1) s.size).data.toList = (s.data.toList.drop (i + 1)).take (s.size - (i + 1)) := by simp [ByteArray.data_extract, List.extract_eq_take_drop]
    rw [h1, List.take_of_length_le (by rw [List.length_drop, hsz]; omega)]
    rfl
set_option maxRecDepth 100000 in
set_option maxHeartbeats 2000000 in
theorem cutLite (s : ByteArray) (c : UInt8) (w : World) (hs : s.size ≤ 1073741824) : Calls Try.prog 40 #[.string s, .string ⟨#[c]⟩] w (fun e w' => (∃ a b f, e = .returned (.tuple #[.string (sB a), .string (sB b), .bool f]) ∧ CutIs c s.data.toList a b f) ∧ Below w.heap.size w w') := by
  have hsz : s.data.toList.length = s.size := by simp
  rcases N.index_cases s.data.toList c with ⟨hi, hn⟩ | ⟨i, hi, hlt, he, hn⟩
  · have HI := Lib.hid hi
    have HE := Lib.hid (show s = sB s.data.toList from (ByteArray.ext (Array.ext' (by simp [sB]))))
    have HC := Lib.hid (show CutIs c s.data.toList s.data.toList [] false from .inl ⟨rfl, rfl, rfl, hn⟩)
    clear hi hn hsz
    go_enter Try.func40, Try.ntmps40
    go_wp2_with fail
    refine (index_one _ _ _).mono ?_
    rintro e w1 ⟨rfl, rfl⟩
    rw [HI.out]
    go_wp2
    go_ret3
    exact ⟨⟨_, _, _, by rw [← HE.out]; rfl, HC.out⟩, Below.refl _ _⟩
  · have HI := Lib.hid hi
    obtain ⟨e1, e2⟩ := cut_extract s i
    have HE1 := Lib.hid e1
    have HE2 := Lib.hid e2
    have HC := Lib.hid (show CutIs c s.data.toList (s.data.toList.take i) (s.data.toList.drop (i + 1)) true from .inr ⟨rfl, he, hn⟩)
    have hlt2 : i < s.size := by omega
    have c1 : decide ((0 : Int) ≤ (i : Int)) = true := decide_eq_true (by omega)
    clear hi hn hsz he e1 e2 hlt
    go_enter Try.func40, Try.ntmps40
    go_wp2_with fail
    refine (index_one _ _ _).mono ?_
    rintro e w1 ⟨rfl, rfl⟩
    rw [HI.out]
    go_wp2
    go_quiet (fail)
    go_wp2
    go_ret3
    exact ⟨⟨_, _, _, by rw [← HE1.out, ← HE2.out]; rfl, HC.out⟩, below_drawnJ (Below.refl _ _) _⟩
set_option maxRecDepth 100000 in
theorem cut_any10 (s : ByteArray) (c : UInt8) (w : World) (hs : s.size ≤ 1073741824) : Calls Try.prog 31 #[.string s, .string ⟨#[c]⟩] w (fun e w' => (∃ a b f, e = .returned (.tuple #[.string (sB a), .string (sB b), .bool f]) ∧ CutIs c s.data.toList a b f) ∧ Below w.heap.size w w') := by
  go_enter Try.func31, Try.ntmps31
  go_wp2_with fail
  refine (cutLite s c _ hs).mono ?_
  rintro e w1 ⟨⟨a, b, f, rfl, hc⟩, hb⟩
  have HC := Lib.hid hc
  clear hc
  go_wp2
  go_ret3
  exact ⟨⟨a, b, f, rfl, HC.out⟩, hb⟩
end Go.Proofs.Ytggdpnkekgmimaa
