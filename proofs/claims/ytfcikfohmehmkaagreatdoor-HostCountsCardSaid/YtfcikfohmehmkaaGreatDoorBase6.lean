/-
  Contracts of the leaves of layer 6 (lines): append of a slice wherever it lies, slices.Clone of lines, ContainsFunc of words, wrong, known, behind. Condition: at most 2^30 lines and words. What a slice that came in says of its capacity; a nil slice has none. No conditions. Contracts of layer 6's known, behind and Add (lines): a path that is added to a tree. Condition: at most 2^30 lines and words. Contract of layer 6's Add (lines): the tree with a path, or the error; a slice of the call's own. Condition: at most 2^30 lines and words. Contract of layer 6's Add (lines), further cases. Condition: at most 2^30 lines and words. Contract of layer 6's Add (lines), further cases. Condition: at most 2^30 lines and words. Contract of layer 6's Add (lines), all cases: the tree with a path, or the error's number. Condition: at most 2^30 lines and words.
  A mark of a line in a slice of the call's own, stored.
  Paths in memory: what a slice of them holds, one of the call's own, and what append does to it. Condition: at most 2^40 elements.
  Entries in memory: the cells of each, the document's and the code's. No conditions.
  Entries that come in: a struct of a word, a number and two words; a slice of such. No conditions.
  Plain laws for layer 13: the faults of a tree line by line; what stands under a line that is no statement is left out; marks make no difference. No conditions.
  Plain laws for layer 13: the faults of a tree without some parts of Depth 0, of one part alone, and of a tree with one word more. No conditions.
  Plain laws for layer 14: what a tree without faults has; its entries one by one; tables of trees with the same paths, and of one without a part. No conditions.
-/
import Derived.Test.YtfcikfohmehmkaaGreatDoorBase5

namespace Go.Proofs.YtfcikfohmehmkaaGreatDoor
open Go.ChangeShapes Go.WideShapes Go.ChangeAt Go.RowKit

/-- append of what is seen elsewhere, wherever it lies. -/
theorem wp_appSeen {α : Type} (E : Elem α) {o : Oper} {a : Act} {K : Act → World → Prop} {Q : Exit → Act → World → Prop} (w : World) (s x : Operand)
    (ho : o.op = .call { callee := .builtin .append, args := #[s, x], argTypes := #[E.st, E.st] })
    (base : Nat) (v : Value) (l : List α) (hs : a.eval s = v) (hown : Own E w base v l) (ad : Addr) (l2 : List α) (m cap : Nat) (hm : l2.length = m)
    (hx : a.eval x = .slice (some ad) m cap) (hc : Seen E w (some ad) l2) (hlen : l.length + m ≤ 1099511627776) (hb : base ≤ w.heap.size)
    (h : ∀ v' w', Own E w' base v' (l ++ l2) → Below base w w' → K (a.put o.dst v') w') : o.wp Tryz.prog a w K Q := by
  by_cases hl : 0 < l2.length
  · obtain ⟨b, q, e, _, hh⟩ := hc hl
    injection e with e
    subst e
    exact wp_appSrc E w s x ho base v l hs hown b q l2 m cap hm hx hh hlen hb h
  · obtain rfl : l2 = [] := List.eq_nil_of_length_eq_zero (by omega)
    subst hm
    obtain ⟨i0, hi0, hz0, hz1, hz2⟩ := info_parts E.hin
    have hby := E.hby
    have hmul : l.length * E.by_ ≤ 1099511627776 * 64 := Nat.mul_le_mul (by omega) hby
    refine wp_append_own w s x E.st ho base E.T i0 _ E.sz E.by_ E.hst hi0 hz0 hz1 hz2 E.hzs E.hsz v l.length (cellsG E l) hs hown ad 0 cap [] hx (by simp) (fun j u hu => by simp at hu) (fun u hu => by cases hu) (by unfold maxLen; simp at hlen; omega) (by simp at hmul ⊢; omega) hb ?_
    intro v' w' h1 h2 _
    refine h v' w' ?_ ?_
    · unfold Own; rw [List.append_nil]; rw [List.append_nil] at h1; exact h1
    · exact Below.grown (Below.refl _ _) h2 hb (fun k hk => (World.ownsRow.lt hown k hk).1)
theorem wpList_appSeen {α : Type} (E : Elem α) {ops : Array Oper} {rest : List Oper} {o : Oper} {a : Act} {Q : Exit → Act → World → Prop} (w : World) (hgd : o.guard = none) (s x : Operand)
    (ho : o.op = .call { callee := .builtin .append, args := #[s, x], argTypes := #[E.st, E.st] })
    (base : Nat) (v : Value) (l : List α) (hs : a.eval s = v) (hown : Own E w base v l) (ad : Addr) (l2 : List α) (m cap : Nat) (hm : l2.length = m)
    (hx : a.eval x = .slice (some ad) m cap) (hc : Seen E w (some ad) l2) (hlen : l.length + m ≤ 1099511627776) (hb : base ≤ w.heap.size)
    (h : ∀ v' w', Own E w' base v' (l ++ l2) → Below base w w' → wpList Tryz.prog ops Q rest (a.put o.dst v') w') : wpList Tryz.prog ops Q (o :: rest) a w :=
  wpList_plain hgd fun _ hK => wp_appSeen E w s x ho base v l hs hown ad l2 m cap hm hx hc hlen hb fun v' w' h1 h2 => hK _ _ (h v' w' h1 h2)

/-- A call leaves a slice of its own. -/
def OwnS {α : Type} (E : Elem α) (w : World) (l : List α) (e : Ending) (w' : World) : Prop := ∃ v, e = .returned v ∧ Own E w' w.heap.size v l ∧ Below w.heap.size w w'
/-- A nil slice has no room. -/
def NilOk (A : Option Addr) (c : Nat) : Prop := A = none → c = 0
set_option maxRecDepth 100000 in
theorem cloneLn_nil (w : World) : Calls Tryz.prog 44 #[.slice none 0 0] w (OwnS eL w []) := by
  have q := fun (w : World) (a : Option Addr) (n c : Nat) => Lib.run_eql_slice_nil (P := Tryz.prog) w 22 _ a n c 0 0 Tryz.underlying22
  go_enter Tryz.func44, Tryz.ntmps44
  go_wp2
  go_ret
  exact ⟨_, rfl, Own.nil _ _, Below.refl _ _⟩
set_option maxRecDepth 100000 in
theorem cloneLn_some (ad : Addr) (cap n : Nat) (t : List T.Ln) (w : World) (hn : t.length = n) (hp : n ≤ 1073741824) (h : Seen eL w (some ad) t) :
    Calls Tryz.prog 44 #[.slice (some ad) n cap] w (OwnS eL w t) := by
  have HH := Lib.hid (h.below ((Below.refl _ _).alloc (Nat.le_refl _) (.cells #[] eL.T)))
  have HO := Lib.hid (Own.empty eL w)
  clear h
  have q := fun (w : World) (a : Option Addr) (n c : Nat) => Lib.run_eql_slice_nil (P := Tryz.prog) w 22 _ a n c 0 0 Tryz.underlying22
  have HN := Lib.hid hn
  clear hn
  go_enter Tryz.func44, Tryz.ntmps44
  go_wp2_with (first | (at_builtin; refine wpList_appSeen eL (w.alloc (.cells #[] eL.T)) rfl (.tmp 5) (.tmp 6) rfl w.heap.size _ [] rfl HO.out ad t n cap HN.out rfl HH.out (by simp; omega) (by simp) ?_; intro v3 w3 hown3 hb3))
  go_ret
  exact ⟨v3, rfl, hown3, ((Below.refl _ _).alloc (Nat.le_refl _) _).trans hb3⟩
theorem cloneLn_any (A : Option Addr) (cap n : Nat) (t : List T.Ln) (w : World) (hn : t.length = n) (hp : n ≤ 1073741824) (h : Seen eL w A t) (hA : NilOk A cap) :
    Calls Tryz.prog 44 #[.slice A n cap] w (OwnS eL w t) := by
  cases A with
  | some ad => exact cloneLn_some ad cap n t w hn hp h
  | none =>
    obtain rfl := hA rfl
    have hl : t = [] := by
      cases t with
      | nil => rfl
      | cons x t => obtain ⟨b, o, e, _⟩ := h (by simp); cases e
    subst hl
    subst hn
    exact cloneLn_nil w

/-- The closure of wrong: is a word too long? -/
theorem tooLong_any (x : List UInt8) (w : World) : Calls Tryz.prog 73 #[.string (sB x)] w (fun e w' => e = .returned (.bool (decide (40 < x.length))) ∧ w = w') := by
  have hs := sB_size x
  by_cases h : 40 < x.length
  · have b : decide ((40 : Int) < ((sB x).size : Int)) = true := decide_eq_true (by rw [hs]; omega)
    rw [decide_eq_true h]
    clear hs h
    go_enter Tryz.func73, Tryz.ntmps73
    go_wp2
    go_ret
    exact ⟨rfl, rfl⟩
  · have b : decide ((40 : Int) < ((sB x).size : Int)) = false := decide_eq_false (by rw [hs]; omega)
    rw [decide_eq_false h]
    clear hs h
    go_enter Tryz.func73, Tryz.ntmps73
    go_wp2
    go_ret
    exact ⟨rfl, rfl⟩
/-- Is any word too long? -/
def longB (p : T.Pth) : Bool := p.any fun x => decide (40 < x.length)
theorem longB_yes {p : T.Pth} {k : Nat} (h : k < p.length) (e : decide (40 < p[k].length) = true) : longB p = true := by
  unfold longB; rw [List.any_eq_true]; exact ⟨p[k], List.getElem_mem h, e⟩
theorem longB_no {p : T.Pth} (h : ∀ j (hj : j < p.length), decide (40 < p[j].length) = false) : longB p = false := by
  unfold longB; rw [List.any_eq_false]
  intro x hx
  obtain ⟨i, hi, rfl⟩ := List.getElem_of_mem hx
  rw [h i hi]; decide
theorem longB_all {p : T.Pth} (h : longB p = false) : ∀ x ∈ p, x.length ≤ 40 := by
  intro x hx
  unfold longB at h
  rw [List.any_eq_false] at h
  have := h x hx
  simp only [decide_eq_true_eq] at this
  omega
set_option maxRecDepth 100000 in
set_option maxHeartbeats 1000000 in
theorem indexLong_any (A : Option Addr) (c : Nat) (p : T.Pth) (w : World) (hA : Seen eS w A p) (hp : p.length ≤ 1073741824) :
    Calls Tryz.prog 113 #[.slice A p.length c, .func (.func 73) #[] #[]] w (fun e w' => ∃ i : Int, e = .returned (.int .i64 i) ∧ decide (0 ≤ i) = longB p ∧ w = w') := by
  have HA := Lib.hid hA
  clear hA
  go_enter Tryz.func113, Tryz.ntmps113
  go_wp2
  go_loopg [8] p.length (fun gk i wr => ∃ k : Nat, Hid (k + gk = p.length) ∧ k ≤ p.length ∧ i = .int .i64 k ∧ Hid (∀ j (hj : j < p.length), j < k → decide (40 < p[j].length) = false) ∧ w = wr)
  case atStart => exact ⟨0, Nat.zero_add _, Nat.zero_le _, rfl, (fun j h1 h2 => absurd h2 (Nat.not_lt_zero j)), rfl⟩
  case round =>
    obtain ⟨k, HG, hk, rfl, HI, rfl⟩ := hrel
    by_cases hlt : k < p.length
    · have blt : decide ((k : Int) < (p.length : Int)) = true := decide_eq_true (by omega)
      obtain ⟨b1, o1, rfl, hw1, hL1⟩ := HA.out (by omega)
      have c1 := hL1.str hlt
      clear hL1
      obtain ⟨x, hx⟩ : ∃ x, p[k] = x := ⟨_, rfl⟩
      have hcall := tooLong_any x w
      rw [hx] at c1
      cases he : decide (40 < x.length) with
      | true =>
        have HN := Lib.hid (longB_yes hlt (by rw [hx]; exact he))
        rw [he] at hcall
        clear hx he
        go_wp2_with (refine hcall.mono ?_; rintro e w' ⟨rfl, rfl⟩)
        go_ret
        exact ⟨k, rfl, by rw [HN.out]; simp, rfl⟩
      | false =>
        have HN := Lib.hid (show ∀ j (hj : j < p.length), j < k + 1 → decide (40 < p[j].length) = false from fun j hj hjk => by
          rcases Nat.lt_or_ge j k with h1 | h1
          · exact HI.out j hj h1
          · obtain rfl : j = k := by omega
            rw [hx]; exact he)
        rw [he] at hcall
        clear hx he
        go_wp2_with (refine hcall.mono ?_; rintro e w' ⟨rfl, rfl⟩)
        go_roundg (p.length - (k + 1))
        case rel => exact ⟨k + 1, (by show _ = _; omega), by omega, by go_num, HN, rfl⟩
        case measure => have := HG.out; omega
    · have blt : decide ((k : Int) < (p.length : Int)) = false := decide_eq_false (by omega)
      have HN := Lib.hid (longB_no (p := p) fun j hj => HI.out j hj (by omega))
      go_wp2
      go_ret
      exact ⟨-1, rfl, by rw [HN.out]; rfl, rfl⟩
theorem containsLong_any (A : Option Addr) (c : Nat) (p : T.Pth) (w : World) (hA : Seen eS w A p) (hp : p.length ≤ 1073741824) :
    Calls Tryz.prog 74 #[.slice A p.length c, .func (.func 73) #[] #[]] w (fun e w' => e = .returned (.bool (longB p)) ∧ w = w') := by
  have hc := indexLong_any A c p w hA hp
  clear hA
  go_enter Tryz.func74, Tryz.ntmps74
  go_wp2_with fail
  refine hc.mono ?_
  rintro e w' ⟨i, rfl, hi, rfl⟩
  have HI := Lib.hid hi
  clear hi hc
  go_wp2
  go_ret
  exact ⟨by rw [← HI.out]; rfl, rfl⟩

/-- What wrong says of a path that is none: the error's number. -/
theorem wrong_1 (A B : Option Addr) (c d : Nat) (t : List T.Ln) (p : T.Pth) (w : World) (hA : Seen eL w A t) (hB : Seen eS w B p) (hl : t.length ≤ 1073741824) (hp : p.length ≤ 1073741824) (h : p = [] ∨ longB p = true ∨ ¬ T.RightT t) :
    Calls Tryz.prog 43 #[.slice A t.length c, .slice B p.length d] w (IntS w 1) := by
  by_cases h0 : p.length = 0
  · have b0 : ((p.length : Int) == 0) = true := by simpa using h0
    have b1 : (p.length == 0) = true := by simpa using h0
    clear h
    go_enter Tryz.func43, Tryz.ntmps43
    go_wp2
    go_ret
    exact ⟨rfl, Below.refl _ _⟩
  · have b0 : ((p.length : Int) == 0) = false := by simpa using h0
    have b1 : (p.length == 0) = false := by simpa using h0
    have hcon := containsLong_any B d p w hB hp
    cases hlong : longB p with
    | true =>
      rw [hlong] at hcon
      clear h hlong h0 hA hB
      go_enter Tryz.func43, Tryz.ntmps43
      go_wp2_with (refine hcon.mono ?_; rintro e w' ⟨rfl, rfl⟩)
      go_ret
      exact ⟨rfl, Below.refl _ _⟩
    | false =>
      rw [hlong] at hcon
      have hR : ¬ T.RightT t := by
        rcases h with h | h | h
        · subst h; exact absurd rfl h0
        · rw [hlong] at h; cases h
        · exact h
      have hright := right_is A c t false w hA hl (no_iff hR)
      clear h hlong h0 hA hB hR
      go_enter Tryz.func43, Tryz.ntmps43
      go_wp2_with (first | (refine hcon.mono ?_; rintro e w' ⟨rfl, rfl⟩) | (refine hright.mono ?_; rintro e w1 ⟨rfl, hb1⟩))
      go_ret
      exact ⟨rfl, hb1⟩
theorem wrong_0 (A B : Option Addr) (c d : Nat) (t : List T.Ln) (p : T.Pth) (w : World) (hA : Seen eL w A t) (hB : Seen eS w B p) (hl : t.length ≤ 1073741824) (hp : p.length ≤ 1073741824) (h0 : 0 < p.length) (h1 : longB p = false) (hR : T.RightT t) :
    Calls Tryz.prog 43 #[.slice A t.length c, .slice B p.length d] w (IntS w (if 16 < p.length then 6 else 0)) := by
  have b0 : ((p.length : Int) == 0) = false := beq_eq_false_iff_ne.2 (by omega)
  have b1 : (p.length == 0) = false := beq_eq_false_iff_ne.2 (by omega)
  have hcon := containsLong_any B d p w hB hp
  rw [h1] at hcon
  have hright := right_is A c t true w hA hl (yes_iff hR)
  by_cases h16 : 16 < p.length
  · rw [if_pos h16]
    have b2 : decide ((16 : Int) < (p.length : Int)) = true := decide_eq_true (by omega)
    have b3 : decide (16 < p.length) = true := decide_eq_true h16
    clear h0 h1 hA hB hR h16
    go_enter Tryz.func43, Tryz.ntmps43
    go_wp2_with (first | (refine hcon.mono ?_; rintro e w' ⟨rfl, rfl⟩) | (refine hright.mono ?_; rintro e w1 ⟨rfl, hb1⟩))
    go_ret
    exact ⟨rfl, hb1⟩
  · rw [if_neg h16]
    have b2 : decide ((16 : Int) < (p.length : Int)) = false := decide_eq_false (by omega)
    have b3 : decide (16 < p.length) = false := decide_eq_false h16
    clear h0 h1 hA hB hR h16
    go_enter Tryz.func43, Tryz.ntmps43
    go_wp2_with (first | (refine hcon.mono ?_; rintro e w' ⟨rfl, rfl⟩) | (refine hright.mono ?_; rintro e w1 ⟨rfl, hb1⟩))
    go_ret
    exact ⟨rfl, hb1⟩
end Go.Proofs.YtfcikfohmehmkaaGreatDoor

namespace Go.Proofs.YtfcikfohmehmkaaGreatDoor
open Go.ChangeShapes Go.WideShapes Go.ChangeAt Go.RowKit
theorem slice_ok {P : Program} {w : World} {r : Reach} {base : Nat} {t e : TypeId} {A : Option Addr} {n c : Nat} (ht : P.underlying t = some (.slice e)) (h : Value.okWide P w r base t (.slice A n c)) : (A = none → n = 0 ∧ c = 0) ∧ n ≤ c := by
  simp only [Value.okWide, ht, Cell.okWide] at h
  cases A with
  | some a => simp only [Cell.ok, ht] at h; exact ⟨(fun e => by cases e), h.1⟩
  | none =>
    cases n with
    | zero =>
      cases c with
      | zero => exact ⟨fun _ => ⟨rfl, rfl⟩, Nat.le_refl _⟩
      | succ c => simp [Cell.ok, ht] at h
    | succ n => simp [Cell.ok, ht] at h
end Go.Proofs.YtfcikfohmehmkaaGreatDoor

namespace Go.Proofs.YtfcikfohmehmkaaGreatDoor
open Go.RowKit

theorem findN_any (A B : Option Addr) (c cd n : Nat) (t : List T.Ln) (q : T.Pth) (w : World) (hn : q.length = n) (hA : Seen eL w A t) (hB : Seen eS w B q) (hl : t.length ≤ 1073741824) (hp : n ≤ 1073741824) (hR : T.RightT t) :
    Calls Tryz.prog 75 #[.slice A t.length c, .slice B n cd] w (FindS w t q) := by
  subst hn; exact find_any A B c cd t q w hA hB hl hp hR

def KnownS (w : World) (t : List T.Ln) (p : T.Pth) (e : Ending) (w' : World) : Prop := ∃ n : Nat, T.knownN t p p.length = n ∧ e = .returned (.tuple #[.int .i64 (T.findI t (p.take n)), .int .i64 (n : Int)]) ∧ Below w.heap.size w w'
set_option maxRecDepth 100000 in
set_option maxHeartbeats 1000000 in
theorem known_any (A B : Option Addr) (c d : Nat) (t : List T.Ln) (p : T.Pth) (w : World) (hA : Seen eL w A t) (hB : Seen eS w B p) (hl : t.length ≤ 1073741824) (hp : p.length ≤ 1073741824) (hd : p.length ≤ d) (hR : T.RightT t) :
    Calls Tryz.prog 45 #[.slice A t.length c, .slice B p.length d] w (KnownS w t p) := by
  have HA := Lib.hid hA
  have HB := Lib.hid hB
  have HR := Lib.hid hR
  clear hA hB hR
  go_enter Tryz.func45, Tryz.ntmps45
  go_wp2
  go_loopg [6] p.length (fun g x wr => ∃ n : Nat, Hid (n = g) ∧ n ≤ p.length ∧ x = .int .i64 n ∧ Hid (T.knownN t p p.length = T.knownN t p n) ∧ Below w.heap.size w wr)
  case atStart => exact ⟨p.length, rfl, Nat.le_refl _, rfl, rfl, Below.refl _ _⟩
  case round =>
    obtain ⟨n, HG, hn, rfl, HK, hb⟩ := hrel
    by_cases h0 : n = 0
    · subst h0
      have HN := Lib.hid (show T.findI t (p.take 0) = -1 from T.findI_nil t)
      go_wp2
      go_ret2
      exact ⟨0, HK.out, by rw [HN.out]; rfl, hb⟩
    · obtain ⟨b, o, rfl, hbw, hL⟩ := HB.out (by omega)
      have HJ := Lib.hid (show ∃ j, n = j + 1 from ⟨n - 1, by omega⟩)
      have b0 : decide ((0 : Int) < (n : Int)) = true := decide_eq_true (by omega)
      have b1 : decide (0 < n) = true := decide_eq_true (by omega)
      have hni : (n : Int) ≤ (d : Int) := by omega
      have HQ := Lib.hid (show (p.take n).length = n by rw [List.length_take]; omega)
      have HS := Lib.hid (((hL.take n).seen hbw).below hb)
      clear hL
      go_wp2_with fail
      refine (findN_any A _ c d n t (p.take n) _ HQ.out (HA.out.below hb) HS.out hl (by omega) HR.out).mono ?_
      rintro e w1 ⟨hcase, hx⟩
      replace hb := bthen hb hx
      clear hx
      rcases hcase with ⟨i, hi, hpi, rfl⟩ | ⟨hno, rfl⟩
      · have HF := Lib.hid (T.findI_some HR.out hi hpi)
        have HN := Lib.hid (show T.knownN t p n = n by
          obtain ⟨j, hj⟩ := HJ.out
          have hf := HF.out
          rw [hj] at hf ⊢
          unfold T.knownN
          rw [if_neg (by omega)])
        clear hpi
        go_wp2
        go_ret2
        exact ⟨n, HK.out.trans HN.out, by rw [HF.out]; rfl, hb⟩
      · have HF := Lib.hid (T.findI_none hno)
        clear hno
        go_wp2
        have hgk := HG.out
        go_roundg (n - 1)
        case rel =>
          obtain ⟨j, hj⟩ := HJ.out
          refine ⟨j, (by show _ = _; omega), by omega, by go_num, ?_, hb⟩
          have hf := HF.out
          have hk := HK.out
          rw [hj] at hf hk
          show _ = _
          rw [hk]
          conv => lhs; unfold T.knownN
          rw [if_pos (by omega)]
        case measure => omega

set_option maxRecDepth 100000 in
set_option maxHeartbeats 1000000 in
theorem behind_any (A : Option Addr) (c : Nat) (t : List T.Ln) (up : Int) (wd : List UInt8) (w : World) (hA : Seen eL w A t) (hl : t.length ≤ 1073741824) (hu : -1 ≤ up) (hul : up < t.length) (hR : T.RightT t) :
    Calls Tryz.prog 46 #[.slice A t.length c, .int .i64 up, .string (sB wd)] w (IntS w (T.placeTo t wd (up + 1).toNat (T.kidsL t up) : Nat)) := by
  obtain ⟨K, hK⟩ : ∃ K, T.kidsL t up = K := ⟨_, rfl⟩
  obtain ⟨z, hz⟩ := Int.eq_ofNat_of_zero_le (show 0 ≤ up + 1 by omega)
  have hz2 : (up + 1).toNat = z := by omega
  have hkids := kids_is A c t up K w hA hl hu hul hR hK
  have hkl : K.length ≤ 1073741824 := by rw [← hK]; have := T.filter_len t.length (fun m => T.underL t m == up); exact Nat.le_trans this hl
  have HKM := Lib.hid (show ∀ k ∈ K, k < t.length from fun k hk => by rw [← hK] at hk; exact ((T.mem_kids t _ k).1 hk).1)
  have HZ := Lib.hid hz
  have HA := Lib.hid hA
  have HR := Lib.hid hR
  rw [hK, hz2]
  clear hA hR hK hz2
  go_enter Tryz.func46, Tryz.ntmps46
  go_wp2_with fail
  refine hkids.mono ?_
  rintro e wk ⟨Ak, ck, rfl, _, hsK, hbk⟩
  have HKS := Lib.hid hsK
  clear hsK hkids
  go_wp2
  go_loopg [7, 16] K.length (fun gk va vi wr => ∃ k P : Nat, Hid (k + gk = K.length) ∧ k ≤ K.length ∧ va = .int .i64 (P : Int) ∧ Hid (T.placeTo t wd z (K.take k) = P) ∧ vi = .int .i64 k ∧ Below w.heap.size w wr ∧ Below wk.heap.size wk wr)
  case atStart => exact ⟨0, z, Nat.zero_add _, Nat.zero_le _, by go_num, rfl, rfl, hbk, Below.refl _ _⟩
  case round =>
    obtain ⟨k, P, HG, hk, rfl, HP, rfl, hb, hbk2⟩ := hrel
    by_cases hlt : k < K.length
    · have blt : decide ((k : Int) < (K.length : Int)) = true := decide_eq_true (by omega)
      obtain ⟨bk, ok, rfl, hbk1, hHK⟩ := HKS.out (by omega)
      have k0 := (hHK.below hbk2 hbk1).num hlt
      have hkt := HKM.out K[k] (List.getElem_mem hlt)
      obtain ⟨j, hj⟩ : ∃ j, K[k] = j := ⟨_, rfl⟩
      have HN := Lib.hid (T.place_next t wd z K k hlt)
      rw [hj] at k0 hkt
      have HJ := Lib.hid hj
      clear hHK hj
      have hkti : (j : Int) < (t.length : Int) := by omega
      obtain ⟨b, o, rfl, hbw, hL⟩ := HA.out.lines (by omega)
      obtain ⟨_, c1, _⟩ := (hL.below hb hbw).line hkt
      clear hL
      cases hw : Op.bytesLess (T.wd t j) wd with
      | true =>
        have l1 : Op.bytesLess (sB (T.wd t j)).toList (sB wd).toList = true := by rw [sB_toList, sB_toList]; exact hw
        have HE := Lib.hid (show T.placeTo t wd z (K.take (k + 1)) = T.endL t j by rw [HN.out, HJ.out, if_pos hw])
        clear hw
        go_wp2_with fail
        refine (End_is _ c t j _ _ (HA.out.below hb) hl hkt HR.out rfl).mono ?_
        rintro e w2 ⟨rfl, hx⟩
        have hbn := bthen hb hx
        have hbkn := bthen hbk2 hx
        go_wp2
        have hgk := HG.out
        go_roundg (K.length - (k + 1))
        case rel => exact ⟨k + 1, _, (by show _ = _; omega), by omega, rfl, HE, by go_num, hbn, hbkn⟩
        case measure => omega
      | false =>
        have l1 : Op.bytesLess (sB (T.wd t j)).toList (sB wd).toList = false := by rw [sB_toList, sB_toList]; exact hw
        have HE := Lib.hid (show T.placeTo t wd z (K.take (k + 1)) = P by rw [HN.out, HJ.out, if_neg (by rw [hw]; decide)]; exact HP.out)
        clear hw
        go_wp2
        have hgk := HG.out
        go_roundg (K.length - (k + 1))
        case rel => exact ⟨k + 1, P, (by show _ = _; omega), by omega, rfl, HE, by go_num, hb, hbk2⟩
        case measure => omega
    · obtain rfl : k = K.length := by omega
      have HE := Lib.hid (show T.placeTo t wd z K = P by have := HP.out; rwa [List.take_length] at this)
      go_wp2
      go_ret
      exact ⟨by rw [HE.out]; rfl, hb⟩
end Go.Proofs.YtfcikfohmehmkaaGreatDoor

namespace Go.Proofs.YtfcikfohmehmkaaGreatDoor
open Go.RowKit
set_option linter.unusedVariables false

/-- What Add leaves. -/
def AddS (w : World) (u : List T.Ln) (er : Int) (e : Ending) (w' : World) : Prop := ∃ v, e = .returned (.tuple #[v, .int .i64 er]) ∧ Own eL w' w.heap.size v u ∧ Below w.heap.size w w'
set_option maxRecDepth 100000 in
theorem addErr_any (A B : Option Addr) (c n m d : Nat) (t : List T.Ln) (er : Int) (w : World) (hn : t.length = n) (hA : Seen eL w A t) (hl : n ≤ 1073741824) (hc : NilOk A c) (h0 : er ≠ 0)
    (hw : Calls Tryz.prog 43 #[.slice A n c, .slice B m d] w (IntS w er)) :
    Calls Tryz.prog 21 #[.slice A n c, .slice B m d] w (AddS w t er) := by
  have b0 : (er != 0) = true := bne_iff_ne.2 h0
  have HA := Lib.hid hA
  clear hA h0
  go_enter Tryz.func21, Tryz.ntmps21
  go_wp2_with fail
  refine hw.mono ?_
  rintro e w1 ⟨rfl, hb1⟩
  clear hw
  go_wp2_with fail
  refine (cloneLn_any A c n t _ hn hl (HA.out.below hb1) hc).mono ?_
  rintro e w2 ⟨v, rfl, hown, hb2⟩
  go_wp2
  go_ret2
  exact ⟨v, rfl, hown.base hb1.size, bthen hb1 hb2⟩
section
variable (b o d : Nat) (t : List T.Ln) (p : T.Pth) (w : World)
set_option maxRecDepth 100000 in
set_option maxHeartbeats 2000000 in
/-- All of the path is there. -/
theorem add_all1 (A : Option Addr) (c n : Nat) (hA : Seen eL w A t) (hc : NilOk A c) (hb : b < w.heap.size) (hB : Holds eS w b o p) (hp0 : 0 < p.length) (hp : p.length ≤ 16) (hde : n < d) (hw : longB p = false) (hR : T.RightT t) (hk : T.knownN t p p.length = n) (hnp : p.length = n) :
    Calls Tryz.prog 21 #[.slice A t.length c, .slice (some ⟨b, o, none⟩) p.length d] w (AddS w t 0) := by
  have hl : t.length ≤ 200 := hR.len
  have hd : p.length ≤ d := by omega
  have hS := Holds.seen hB hb
  have hwr := wrong_0 A (some ⟨b, o, none⟩) c d t p w hA hS (by omega) (by omega) hp0 hw hR
  rw [if_neg (by omega)] at hwr
  have HA := Lib.hid hA
  have HS := Lib.hid hS
  have HR := Lib.hid hR
  have HK := Lib.hid hk
  have hni : (n : Int) ≤ (d : Int) := by omega
  have hni2 : (n : Int) ≤ (p.length : Int) := by omega
  obtain ⟨m, hm⟩ : ∃ m, p.length - n = m := ⟨_, rfl⟩
  have hm0 : m = 0 := by omega
  have b2 : decide ((200 : Int) < (t.length : Int) + (m : Int)) = false := decide_eq_false (by omega)
  have b3 : decide (200 < t.length + m) = false := decide_eq_false (by omega)
  have b4 : ((m : Int) == 0) = true := beq_iff_eq.2 (by omega)
  have b5 : (m == 0) = true := beq_iff_eq.2 (by omega)
  have hlong : t.length + m ≤ 200 := by omega
  have HM := Lib.hid hm
  clear hA hS hR hB hw hk hnp hm0 hm
  go_enter Tryz.func21, Tryz.ntmps21
  go_wp2_with fail
  refine hwr.mono ?_
  rintro e w1 ⟨rfl, hb1⟩
  go_wp2_with fail
  refine (known_any A _ c d t p _ (HA.out.below hb1) (HS.out.below hb1) (by omega) (by omega) hd HR.out).mono ?_
  rintro e w2 ⟨n2, hn, rfl, hb2⟩
  obtain rfl : n = n2 := HK.out.symm.trans hn
  replace hb1 := bthen hb1 hb2
  clear hb2 hn hwr
  have hm := HM.out
  go_wp2_with fail
  refine (cloneLn_any A c t.length t _ rfl (by omega) (HA.out.below hb1) hc).mono ?_
  rintro e w2 ⟨v, rfl, hown, hb2⟩
  go_wp2
  go_ret2
  exact ⟨v, rfl, hown.base hb1.size, bthen hb1 hb2⟩
set_option maxRecDepth 100000 in
set_option maxHeartbeats 2000000 in
/-- All of the path is there. -/
theorem add_all2 (A : Option Addr) (c n : Nat) (hA : Seen eL w A t) (hc : NilOk A c) (hb : b < w.heap.size) (hB : Holds eS w b o p) (hp0 : 0 < p.length) (hp : p.length ≤ 16) (hde : d = n) (hw : longB p = false) (hR : T.RightT t) (hk : T.knownN t p p.length = n) (hnp : p.length = n) :
    Calls Tryz.prog 21 #[.slice A t.length c, .slice (some ⟨b, o, none⟩) p.length d] w (AddS w t 0) := by
  have hl : t.length ≤ 200 := hR.len
  have hd : p.length ≤ d := by omega
  have hS := Holds.seen hB hb
  have hwr := wrong_0 A (some ⟨b, o, none⟩) c d t p w hA hS (by omega) (by omega) hp0 hw hR
  rw [if_neg (by omega)] at hwr
  have HA := Lib.hid hA
  have HS := Lib.hid hS
  have HR := Lib.hid hR
  have HK := Lib.hid hk
  have hni : (n : Int) ≤ (d : Int) := by omega
  have hni2 : (n : Int) ≤ (p.length : Int) := by omega
  obtain ⟨m, hm⟩ : ∃ m, p.length - n = m := ⟨_, rfl⟩
  have hm0 : m = 0 := by omega
  have b2 : decide ((200 : Int) < (t.length : Int) + (m : Int)) = false := decide_eq_false (by omega)
  have b3 : decide (200 < t.length + m) = false := decide_eq_false (by omega)
  have b4 : ((m : Int) == 0) = true := beq_iff_eq.2 (by omega)
  have b5 : (m == 0) = true := beq_iff_eq.2 (by omega)
  have hlong : t.length + m ≤ 200 := by omega
  have HM := Lib.hid hm
  clear hA hS hR hB hw hk hnp hm0 hm
  subst hde
  go_enter Tryz.func21, Tryz.ntmps21
  go_wp2_with fail
  refine hwr.mono ?_
  rintro e w1 ⟨rfl, hb1⟩
  go_wp2_with fail
  refine (known_any A _ c d t p _ (HA.out.below hb1) (HS.out.below hb1) (by omega) (by omega) hd HR.out).mono ?_
  rintro e w2 ⟨n2, hn, rfl, hb2⟩
  obtain rfl : d = n2 := HK.out.symm.trans hn
  replace hb1 := bthen hb1 hb2
  clear hb2 hn hwr
  have hm := HM.out
  go_wp2_with fail
  refine (cloneLn_any A c t.length t _ rfl (by omega) (HA.out.below hb1) hc).mono ?_
  rintro e w2 ⟨v, rfl, hown, hb2⟩
  go_wp2
  go_ret2
  exact ⟨v, rfl, hown.base hb1.size, bthen hb1 hb2⟩
set_option maxRecDepth 100000 in
set_option maxHeartbeats 2000000 in
/-- There would be too many lines. -/
theorem add_long (A : Option Addr) (c n : Nat) (hA : Seen eL w A t) (hc : NilOk A c) (hb : b < w.heap.size) (hB : Holds eS w b o p) (hp0 : 0 < p.length) (hp : p.length ≤ 16) (hd : p.length ≤ d) (hw : longB p = false) (hR : T.RightT t) (hk : T.knownN t p p.length = n) (hlt : n < p.length) (hlong : 200 < t.length + (p.length - n)) :
    Calls Tryz.prog 21 #[.slice A t.length c, .slice (some ⟨b, o, none⟩) p.length d] w (AddS w t 5) := by
  have hl : t.length ≤ 200 := hR.len
  have hS := Holds.seen hB hb
  have hwr := wrong_0 A (some ⟨b, o, none⟩) c d t p w hA hS (by omega) (by omega) hp0 hw hR
  rw [if_neg (by omega)] at hwr
  have HA := Lib.hid hA
  have HS := Lib.hid hS
  have HR := Lib.hid hR
  have HK := Lib.hid hk
  clear hA hS hR hB hw hk
  have hni : (n : Int) ≤ (d : Int) := by omega
  have hni2 : (n : Int) ≤ (p.length : Int) := by omega
  have hnd : n < d := by omega
  have hf : ((p.length - n : Nat) : Int) = (p.length : Int) - (n : Int) := by omega
  obtain ⟨m, hm⟩ : ∃ m, p.length - n = m := ⟨_, rfl⟩
  have hmi : (p.length : Int) - (n : Int) = (m : Int) := by omega
  have b2 : decide ((200 : Int) < (t.length : Int) + (m : Int)) = true := decide_eq_true (by omega)
  have b3 : decide (200 < t.length + m) = true := decide_eq_true (by omega)
  rw [hm] at hlong hf
  have HM := Lib.hid hm
  have HMI := Lib.hid hmi
  clear hm hmi hf
  go_enter Tryz.func21, Tryz.ntmps21
  go_wp2_with fail
  refine hwr.mono ?_
  rintro e w1 ⟨rfl, hb1⟩
  go_wp2_with fail
  refine (known_any A _ c d t p _ (HA.out.below hb1) (HS.out.below hb1) (by omega) (by omega) hd HR.out).mono ?_
  rintro e w2 ⟨n2, hn, rfl, hb2⟩
  obtain rfl : n = n2 := HK.out.symm.trans hn
  replace hb1 := bthen hb1 hb2
  clear hb2 hn hwr
  have hm := HM.out
  go_wp2_with fail
  refine (cloneLn_any A c t.length t _ rfl (by omega) (HA.out.below hb1) hc).mono ?_
  rintro e w2 ⟨v, rfl, hown, hb2⟩
  go_wp2
  go_ret2
  exact ⟨v, rfl, hown.base hb1.size, bthen hb1 hb2⟩
set_option maxRecDepth 100000 in
set_option maxHeartbeats 2000000 in
/-- Lines are new, and the tree has some. -/
theorem add_new1 (bt ot c n P : Nat) (hbt : bt < w.heap.size) (hA : Holds eL w bt ot t) (ht : 0 < t.length) (htc : t.length ≤ c) (hbB : b < w.heap.size) (hB : Holds eS w b o p) (hp : p.length ≤ 16) (hd : p.length ≤ d) (hw : longB p = false) (hR : T.RightT t) (hk : T.knownN t p p.length = n) (hlt : n < p.length)
    (hP : T.placeTo t (p.getD n []) (T.findI t (p.take n) + 1).toNat (T.kidsL t (T.findI t (p.take n))) = P) (hPl : P ≤ t.length) (hsplit : t.take P ++ T.freshL p n (p.length - n) ++ t.drop P = T.addL t p) (hlong : t.length + (p.length - n) ≤ 200) (hPc : P < c) :
    Calls Tryz.prog 21 #[.slice (some ⟨bt, ot, none⟩) t.length c, .slice (some ⟨b, o, none⟩) p.length d] w (AddS w (T.addL t p) 0) := by
  have hl : t.length ≤ 200 := hR.len
  have hS := Holds.seen hB hbB
  have hAS := Holds.seen hA hbt
  have hwr := wrong_0 (some ⟨bt, ot, none⟩) (some ⟨b, o, none⟩) c d t p w hAS hS (by omega) (by omega) (by omega) hw hR
  rw [if_neg (by omega)] at hwr
  have hu := ((T.known_open t p p.length).up hR).1
  rw [hk] at hu
  obtain ⟨up, hup⟩ : ∃ u, T.findI t (p.take n) = u := ⟨_, rfl⟩
  rw [hup] at hu hP
  have HUP := Lib.hid hup
  have HAS := Lib.hid hAS
  have HA := Lib.hid hA
  have HS := Lib.hid hS
  have HB := Lib.hid hB
  have HR := Lib.hid hR
  have HK := Lib.hid hk
  have HSP := Lib.hid hsplit
  have hni : (n : Int) ≤ (d : Int) := by omega
  have hni2 : (n : Int) ≤ (p.length : Int) := by omega
  have hnd : n < d := by omega
  obtain ⟨m, hm⟩ : ∃ m, p.length - n = m := ⟨_, rfl⟩
  have hm0 : 0 < m := by omega
  have hmp : n + m ≤ 16 := by omega
  have b2 : decide ((200 : Int) < (t.length : Int) + (m : Int)) = false := decide_eq_false (by omega)
  have b3 : decide (200 < t.length + m) = false := decide_eq_false (by omega)
  have b4 : ((m : Int) == 0) = false := beq_eq_false_iff_ne.2 (by omega)
  have b5 : (m == 0) = false := beq_eq_false_iff_ne.2 (by omega)
  have hPi : (P : Int) ≤ (c : Int) := by omega
  have hPi2 : (P : Int) ≤ (t.length : Int) := by omega
  have HTK := Lib.hid (show (t.take P).length = P by rw [List.length_take]; omega)
  have HDR := Lib.hid (show (t.drop P).length = t.length - P by rw [List.length_drop])
  obtain ⟨x0, hx0⟩ : ∃ x, p.getD n [] = x := ⟨_, rfl⟩
  have hc0 := hB.str hlt
  have hx1 : p[n] = x0 := by rw [← hx0]; unfold List.getD; rw [List.getElem?_eq_getElem hlt]; rfl
  rw [hx1] at hc0
  rw [hx0] at hP
  have HP := Lib.hid hP
  have HL := Lib.hid hlt
  rw [hm] at hlong
  have HM := Lib.hid hm
  have hwsz : w.heap.size ≤ w.heap.size := Nat.le_refl _
  clear hA hAS hS hR hB hw hk hm hP hx0 hx1 hup hsplit hlt
  go_enter Tryz.func21, Tryz.ntmps21
  go_wp2_with fail
  refine hwr.mono ?_
  rintro e w1 ⟨rfl, hb1⟩
  go_wp2_with fail
  refine (known_any _ _ _ d t p _ (HAS.out.below hb1) (HS.out.below hb1) (by omega) (by omega) hd HR.out).mono ?_
  rintro e w2 ⟨n2, hn, rfl, hb2⟩
  obtain rfl : n = n2 := HK.out.symm.trans hn
  rw [HUP.out]
  replace hb1 := bthen hb1 hb2
  clear hb2 hn hwr
  have hm := HM.out
  replace hc0 := (hb1.cell (p := ⟨b, o + n, none⟩) hbB).trans hc0
  go_wp2_with fail
  refine (behind_any _ _ t up x0 _ (HAS.out.below hb1) (by omega) hu.1 hu.2 HR.out).mono ?_
  rintro e w3 ⟨rfl, hb2⟩
  rw [HP.out]
  replace hb1 := bthen hb1 hb2
  clear hb2 hc0
  go_wp2_with fail
  refine (cloneLn_some ⟨bt, ot, none⟩ _ P (t.take P) _ HTK.out (by omega) (((HA.out.take P).seen hbt).below hb1)).mono ?_
  rintro e w4 ⟨v2, rfl, hown2, hb2⟩
  have HO := Lib.hid (hown2.base hb1.size)
  replace hb1 := bthen hb1 hb2
  clear hb2 hown2
  go_wp2
  go_loopg [11, 56] m (fun g vo vi wr => ∃ k : Nat, Hid (k + g = m) ∧ k ≤ m ∧ Own eL wr w.heap.size vo (t.take P ++ T.freshL p n k) ∧ vi = .int .i64 k ∧ Below w.heap.size w wr)
  case atStart => exact ⟨0, Nat.zero_add _, Nat.zero_le _, (List.append_nil (t.take P)).symm ▸ HO.out, rfl, hb1⟩
  case round =>
    obtain ⟨k, HG, hk, hown, rfl, hb⟩ := hrel
    have HW := Lib.hid hown
    have hsz := hb.size
    clear hown
    have HLN := Lib.hid (show (t.take P ++ T.freshL p n k).length = P + k by rw [List.length_append, HTK.out, T.freshL_len])
    by_cases hkm : k < m
    · have bkm : decide ((k : Int) < (m : Int)) = true := decide_eq_true (by omega)
      have hnk : n + k < p.length := by omega
      have c1 := (HB.out.belowN hb hbB).str hnk
      obtain ⟨x, hx⟩ : ∃ x, p[n + k] = x := ⟨_, rfl⟩
      rw [hx, ← Nat.add_assoc] at c1
      have HN := Lib.hid (show t.take P ++ T.freshL p n k ++ [⟨(n : Int) + (k : Int), x, 0⟩] = t.take P ++ T.freshL p n (k + 1) by
        rw [T.freshL_next, List.append_assoc]
        congr 2
        rw [← hx]
        unfold List.getD
        rw [List.getElem?_eq_getElem hnk]; rfl)
      clear hx
      have hown := HW.out
      go_wp2_with (at_builtin; refine wpList_appG eL _ rfl (.tmp 61) (.tmp 67) rfl w.heap.size _ (t.take P ++ T.freshL p n k) rfl hown ⟨(n : Int) + (k : Int), x, 0⟩ 1 _ rfl wr.heap.size rfl rfl (by rw [HLN.out]; omega) hsz ?_; intro v3 w3 hown3 hb3)
      have hgk := HG.out
      go_roundg (m - (k + 1))
      case rel => exact ⟨k + 1, (by show _ = _; omega), by omega, HN.out ▸ hown3, by go_num, hb.trans hb3⟩
      case measure => omega
    · obtain rfl : k = m := by omega
      have bkm : decide ((k : Int) < (k : Int)) = false := decide_eq_false (by omega)
      have hown := HW.out
      have hHt := HA.out.belowN hb hbt
      go_wp2_with (at_builtin; refine wpList_appSrc eL wr rfl (.tmp 70) (.tmp 73) rfl w.heap.size _ _ rfl hown bt (ot + P * 3) (t.drop P) (t.length - P) (c - P) HDR.out rfl (hHt.drop P) (by rw [HLN.out]; omega) hsz ?_; intro v5 w5 hown5 hx5)
      go_ret2
      refine ⟨v5, rfl, ?_, hb.trans hx5⟩
      have hsp := HSP.out
      rw [hm] at hsp
      rw [hsp] at hown5
      exact hown5
end
end Go.Proofs.YtfcikfohmehmkaaGreatDoor

namespace Go.Proofs.YtfcikfohmehmkaaGreatDoor
open Go.RowKit
set_option linter.unusedVariables false

section
variable (b o d : Nat) (t : List T.Ln) (p : T.Pth) (w : World)
set_option maxRecDepth 100000 in
set_option maxHeartbeats 2000000 in
/-- Lines are new, and the tree has some. -/
theorem add_new2 (bt ot n : Nat) (hbt : bt < w.heap.size) (hA : Holds eL w bt ot t) (ht : 0 < t.length) (hbB : b < w.heap.size) (hB : Holds eS w b o p) (hp : p.length ≤ 16) (hd : p.length ≤ d) (hw : longB p = false) (hR : T.RightT t) (hk : T.knownN t p p.length = n) (hlt : n < p.length)
    (hP : T.placeTo t (p.getD n []) (T.findI t (p.take n) + 1).toNat (T.kidsL t (T.findI t (p.take n))) = t.length) (hsplit : t.take t.length ++ T.freshL p n (p.length - n) ++ t.drop t.length = T.addL t p) (hlong : t.length + (p.length - n) ≤ 200) :
    Calls Tryz.prog 21 #[.slice (some ⟨bt, ot, none⟩) t.length t.length, .slice (some ⟨b, o, none⟩) p.length d] w (AddS w (T.addL t p) 0) := by
  have hl : t.length ≤ 200 := hR.len
  have hS := Holds.seen hB hbB
  have hAS := Holds.seen hA hbt
  have hwr := wrong_0 (some ⟨bt, ot, none⟩) (some ⟨b, o, none⟩) t.length d t p w hAS hS (by omega) (by omega) (by omega) hw hR
  rw [if_neg (by omega)] at hwr
  have hu := ((T.known_open t p p.length).up hR).1
  rw [hk] at hu
  obtain ⟨up, hup⟩ : ∃ u, T.findI t (p.take n) = u := ⟨_, rfl⟩
  rw [hup] at hu hP
  have HUP := Lib.hid hup
  have HAS := Lib.hid hAS
  have HA := Lib.hid hA
  have HS := Lib.hid hS
  have HB := Lib.hid hB
  have HR := Lib.hid hR
  have HK := Lib.hid hk
  have HSP := Lib.hid hsplit
  have hni : (n : Int) ≤ (d : Int) := by omega
  have hni2 : (n : Int) ≤ (p.length : Int) := by omega
  have hnd : n < d := by omega
  obtain ⟨m, hm⟩ : ∃ m, p.length - n = m := ⟨_, rfl⟩
  have hm0 : 0 < m := by omega
  have hmp : n + m ≤ 16 := by omega
  have b2 : decide ((200 : Int) < (t.length : Int) + (m : Int)) = false := decide_eq_false (by omega)
  have b3 : decide (200 < t.length + m) = false := decide_eq_false (by omega)
  have b4 : ((m : Int) == 0) = false := beq_eq_false_iff_ne.2 (by omega)
  have b5 : (m == 0) = false := beq_eq_false_iff_ne.2 (by omega)
  have hPi : (t.length : Int) ≤ (t.length : Int) := by omega
  have hPi2 : (t.length : Int) ≤ (t.length : Int) := by omega
  have HTK := Lib.hid (show (t.take t.length).length = t.length by rw [List.length_take]; omega)
  have HDR := Lib.hid (show (t.drop t.length).length = t.length - t.length by rw [List.length_drop])
  obtain ⟨x0, hx0⟩ : ∃ x, p.getD n [] = x := ⟨_, rfl⟩
  have hc0 := hB.str hlt
  have hx1 : p[n] = x0 := by rw [← hx0]; unfold List.getD; rw [List.getElem?_eq_getElem hlt]; rfl
  rw [hx1] at hc0
  rw [hx0] at hP
  have HP := Lib.hid hP
  have HL := Lib.hid hlt
  rw [hm] at hlong
  have HM := Lib.hid hm
  have hwsz : w.heap.size ≤ w.heap.size := Nat.le_refl _
  clear hA hAS hS hR hB hw hk hm hP hx0 hx1 hup hsplit hlt
  go_enter Tryz.func21, Tryz.ntmps21
  go_wp2_with fail
  refine hwr.mono ?_
  rintro e w1 ⟨rfl, hb1⟩
  go_wp2_with fail
  refine (known_any _ _ _ d t p _ (HAS.out.below hb1) (HS.out.below hb1) (by omega) (by omega) hd HR.out).mono ?_
  rintro e w2 ⟨n2, hn, rfl, hb2⟩
  obtain rfl : n = n2 := HK.out.symm.trans hn
  rw [HUP.out]
  replace hb1 := bthen hb1 hb2
  clear hb2 hn hwr
  have hm := HM.out
  replace hc0 := (hb1.cell (p := ⟨b, o + n, none⟩) hbB).trans hc0
  go_wp2_with fail
  refine (behind_any _ _ t up x0 _ (HAS.out.below hb1) (by omega) hu.1 hu.2 HR.out).mono ?_
  rintro e w3 ⟨rfl, hb2⟩
  rw [HP.out]
  replace hb1 := bthen hb1 hb2
  clear hb2 hc0
  go_wp2_with fail
  refine (cloneLn_some ⟨bt, ot, none⟩ _ t.length (t.take t.length) _ HTK.out (by omega) (((HA.out.take t.length).seen hbt).below hb1)).mono ?_
  rintro e w4 ⟨v2, rfl, hown2, hb2⟩
  have HO := Lib.hid (hown2.base hb1.size)
  replace hb1 := bthen hb1 hb2
  clear hb2 hown2
  go_wp2
  go_loopg [11, 56] m (fun g vo vi wr => ∃ k : Nat, Hid (k + g = m) ∧ k ≤ m ∧ Own eL wr w.heap.size vo (t.take t.length ++ T.freshL p n k) ∧ vi = .int .i64 k ∧ Below w.heap.size w wr)
  case atStart => exact ⟨0, Nat.zero_add _, Nat.zero_le _, (List.append_nil (t.take t.length)).symm ▸ HO.out, rfl, hb1⟩
  case round =>
    obtain ⟨k, HG, hk, hown, rfl, hb⟩ := hrel
    have HW := Lib.hid hown
    have hsz := hb.size
    clear hown
    have HLN := Lib.hid (show (t.take t.length ++ T.freshL p n k).length = t.length + k by rw [List.length_append, HTK.out, T.freshL_len])
    by_cases hkm : k < m
    · have bkm : decide ((k : Int) < (m : Int)) = true := decide_eq_true (by omega)
      have hnk : n + k < p.length := by omega
      have c1 := (HB.out.belowN hb hbB).str hnk
      obtain ⟨x, hx⟩ : ∃ x, p[n + k] = x := ⟨_, rfl⟩
      rw [hx, ← Nat.add_assoc] at c1
      have HN := Lib.hid (show t.take t.length ++ T.freshL p n k ++ [⟨(n : Int) + (k : Int), x, 0⟩] = t.take t.length ++ T.freshL p n (k + 1) by
        rw [T.freshL_next, List.append_assoc]
        congr 2
        rw [← hx]
        unfold List.getD
        rw [List.getElem?_eq_getElem hnk]; rfl)
      clear hx
      have hown := HW.out
      go_wp2_with (at_builtin; refine wpList_appG eL _ rfl (.tmp 61) (.tmp 67) rfl w.heap.size _ (t.take t.length ++ T.freshL p n k) rfl hown ⟨(n : Int) + (k : Int), x, 0⟩ 1 _ rfl wr.heap.size rfl rfl (by rw [HLN.out]; omega) hsz ?_; intro v3 w3 hown3 hb3)
      have hgk := HG.out
      go_roundg (m - (k + 1))
      case rel => exact ⟨k + 1, (by show _ = _; omega), by omega, HN.out ▸ hown3, by go_num, hb.trans hb3⟩
      case measure => omega
    · obtain rfl : k = m := by omega
      have bkm : decide ((k : Int) < (k : Int)) = false := decide_eq_false (by omega)
      have hown := HW.out
      have hHt := HA.out.belowN hb hbt
      go_wp2_with (at_builtin; refine wpList_appSeen eL wr rfl (.tmp 70) (.tmp 73) rfl w.heap.size _ _ rfl hown _ (t.drop t.length) 0 0 (by rw [List.length_drop]; omega) rfl (by rw [List.drop_of_length_le (by omega)]; exact Seen.nil) (by rw [HLN.out]; omega) hsz ?_; intro v5 w5 hown5 hx5)
      go_ret2
      refine ⟨v5, rfl, ?_, hb.trans hx5⟩
      have hsp := HSP.out
      rw [hm] at hsp
      rw [hsp] at hown5
      exact hown5
end
end Go.Proofs.YtfcikfohmehmkaaGreatDoor

namespace Go.Proofs.YtfcikfohmehmkaaGreatDoor
open Go.RowKit
set_option linter.unusedVariables false

section
variable (b o d : Nat) (p : T.Pth) (w : World)
set_option maxRecDepth 100000 in
set_option maxHeartbeats 2000000 in
/-- Lines are new, and the tree has none. -/
theorem add_emptyN  (hbB : b < w.heap.size) (hB : Holds eS w b o p) (hp0 : 0 < p.length) (hp : p.length ≤ 16) (hd : p.length ≤ d) (hw : longB p = false) (hsplit : T.freshL p 0 p.length = T.addL [] p) :
    Calls Tryz.prog 21 #[.slice none 0 0, .slice (some ⟨b, o, none⟩) p.length d] w (AddS w (T.addL [] p) 0) := by
  have hS := Holds.seen hB hbB
  have hwr : Calls Tryz.prog 43 #[.slice none 0 0, .slice (some ⟨b, o, none⟩) p.length d] w (IntS w _) := wrong_0 none (some ⟨b, o, none⟩) 0 d [] p w Seen.nil hS (by decide) (by omega) hp0 hw S.right_nil
  rw [if_neg (by omega)] at hwr
  have hkn : ∀ n, T.knownN [] p n = 0 := by
    intro n
    induction n with
    | zero => rfl
    | succ n ih => unfold T.knownN; rw [T.findI_none (fun i hi => by simp at hi), if_pos (by omega)]; exact ih
  have HKN := Lib.hid (hkn p.length)
  have HS := Lib.hid hS
  have HB := Lib.hid hB
  have HSP := Lib.hid hsplit
  have hfn : T.findI [] (p.take 0) = -1 := T.findI_none (fun i hi => by simp at hi)
  have HFN := Lib.hid hfn
  obtain ⟨m, hm⟩ : ∃ m, p.length = m := ⟨_, rfl⟩
  have hm0 : 0 < m := by omega
  have hmp : m ≤ 16 := by omega
  have hmd : m ≤ d := by omega
  have b2 : decide ((200 : Int) < (m : Int)) = false := decide_eq_false (by omega)
  have b3 : decide (200 < m) = false := decide_eq_false (by omega)
  have b4 : ((m : Int) == 0) = false := beq_eq_false_iff_ne.2 (by omega)
  have b5 : (m == 0) = false := beq_eq_false_iff_ne.2 (by omega)
  have hmi : (m : Int) ≤ (d : Int) := by omega
  have hdi : (0 : Int) < (d : Int) := by omega
  have hd0 : 0 < d := by omega
  obtain ⟨x0, hx0⟩ : ∃ x, p[0] = x := ⟨_, rfl⟩
  have hc0 : w.cell? ⟨b, o, none⟩ = _ := hB.str hp0
  rw [hx0] at hc0
  have HM := Lib.hid hm
  have hkno : ∀ w1, Below w.heap.size w w1 → Calls Tryz.prog 45 #[.slice none 0 0, .slice (some ⟨b, o, none⟩) m d] w1 (KnownS w1 [] p) := fun w1 hx => by
    have := known_any none (some ⟨b, o, none⟩) 0 d [] p w1 Seen.nil (HS.out.below hx) (by decide) (by omega) (by omega) S.right_nil
    rw [HM.out] at this
    exact this
  have hbe : ∀ w1, Calls Tryz.prog 46 #[.slice none 0 0, .int .i64 (-1), .string (sB x0)] w1 (IntS w1 0) := fun w1 => behind_any none 0 [] (-1) x0 w1 Seen.nil (by decide) (by decide) (by decide) S.right_nil
  rw [hm] at hwr ⊢
  clear hS hB hw hkn hx0 hsplit hfn hm hp hp0 hd
  go_enter Tryz.func21, Tryz.ntmps21
  go_wp2_with fail
  refine hwr.mono ?_
  rintro e w1 ⟨rfl, hb1⟩
  go_wp2_with fail
  refine (hkno _ hb1).mono ?_
  rintro e w2 ⟨n2, hn, rfl, hb2⟩
  obtain rfl : 0 = n2 := HKN.out.symm.trans hn
  rw [HFN.out]
  replace hb1 := bthen hb1 hb2
  clear hb2 hn hwr hkno
  replace hc0 := (hb1.cell (p := ⟨b, o, none⟩) hbB).trans hc0
  go_wp2_with fail
  refine (hbe _).mono ?_
  rintro e w3 ⟨rfl, hb2⟩
  replace hb1 := bthen hb1 hb2
  clear hb2 hc0 hbe
  go_wp2_with fail
  refine (cloneLn_nil _).mono ?_
  rintro e w4 ⟨v2, rfl, hown2, hb2⟩
  have HO := Lib.hid (hown2.base hb1.size)
  replace hb1 := bthen hb1 hb2
  clear hb2 hown2
  go_wp2
  go_loopg [11, 56] m (fun g vo vi wr => ∃ k : Nat, Hid (k + g = m) ∧ k ≤ m ∧ Own eL wr w.heap.size vo (T.freshL p 0 k) ∧ vi = .int .i64 k ∧ Below w.heap.size w wr)
  case atStart => exact ⟨0, Nat.zero_add _, Nat.zero_le _, HO.out, rfl, hb1⟩
  case round =>
    obtain ⟨k, HG, hk, hown, rfl, hb⟩ := hrel
    have HW := Lib.hid hown
    have hsz := hb.size
    clear hown
    have HLN := Lib.hid (show (T.freshL p 0 k).length = k by rw [T.freshL_len])
    by_cases hkm : k < m
    · have bkm : decide ((k : Int) < (m : Int)) = true := decide_eq_true (by omega)
      have hnk : k < p.length := by have := HM.out; omega
      have c1 := (HB.out.belowN hb hbB).str hnk
      obtain ⟨x, hx⟩ : ∃ x, p[k] = x := ⟨_, rfl⟩
      rw [hx] at c1
      have HN := Lib.hid (show T.freshL p 0 k ++ [⟨(k : Int), x, 0⟩] = T.freshL p 0 (k + 1) by
        rw [T.freshL_next]
        congr 1
        rw [← hx]
        unfold List.getD
        rw [Nat.zero_add, List.getElem?_eq_getElem hnk]; rfl)
      clear hx hnk
      have hown := HW.out
      go_wp2_with (at_builtin; refine wpList_appG eL _ rfl (.tmp 61) (.tmp 67) rfl w.heap.size _ (T.freshL p 0 k) rfl hown ⟨(k : Int), x, 0⟩ 1 _ rfl wr.heap.size rfl rfl (by rw [HLN.out]; omega) hsz ?_; intro v3 w3 hown3 hb3)
      have hgk := HG.out
      go_roundg (m - (k + 1))
      case rel => exact ⟨k + 1, (by show _ = _; omega), by omega, HN.out ▸ hown3, by go_num, hb.trans hb3⟩
      case measure => omega
    · obtain rfl : k = m := by omega
      have bkm : decide ((k : Int) < (k : Int)) = false := decide_eq_false (by omega)
      have hown := HW.out
      go_wp2_with (at_builtin; refine wpList_appNone eL wr rfl (.tmp 70) (.tmp 73) rfl w.heap.size _ _ rfl hown rfl ?_)
      go_ret2
      refine ⟨_, rfl, ?_, hb⟩
      have hsp := HSP.out
      rw [HM.out] at hsp
      rw [← hsp]
      exact hown
set_option maxRecDepth 100000 in
set_option maxHeartbeats 2000000 in
/-- Lines are new, and the tree has none. -/
theorem add_emptyZ (ad : Addr) (hbB : b < w.heap.size) (hB : Holds eS w b o p) (hp0 : 0 < p.length) (hp : p.length ≤ 16) (hd : p.length ≤ d) (hw : longB p = false) (hsplit : T.freshL p 0 p.length = T.addL [] p) :
    Calls Tryz.prog 21 #[.slice (some ad) 0 0, .slice (some ⟨b, o, none⟩) p.length d] w (AddS w (T.addL [] p) 0) := by
  have hS := Holds.seen hB hbB
  have hwr : Calls Tryz.prog 43 #[.slice (some ad) 0 0, .slice (some ⟨b, o, none⟩) p.length d] w (IntS w _) := wrong_0 (some ad) (some ⟨b, o, none⟩) 0 d [] p w Seen.nil hS (by decide) (by omega) hp0 hw S.right_nil
  rw [if_neg (by omega)] at hwr
  have hkn : ∀ n, T.knownN [] p n = 0 := by
    intro n
    induction n with
    | zero => rfl
    | succ n ih => unfold T.knownN; rw [T.findI_none (fun i hi => by simp at hi), if_pos (by omega)]; exact ih
  have HKN := Lib.hid (hkn p.length)
  have HS := Lib.hid hS
  have HB := Lib.hid hB
  have HSP := Lib.hid hsplit
  have hfn : T.findI [] (p.take 0) = -1 := T.findI_none (fun i hi => by simp at hi)
  have HFN := Lib.hid hfn
  obtain ⟨m, hm⟩ : ∃ m, p.length = m := ⟨_, rfl⟩
  have hm0 : 0 < m := by omega
  have hmp : m ≤ 16 := by omega
  have hmd : m ≤ d := by omega
  have b2 : decide ((200 : Int) < (m : Int)) = false := decide_eq_false (by omega)
  have b3 : decide (200 < m) = false := decide_eq_false (by omega)
  have b4 : ((m : Int) == 0) = false := beq_eq_false_iff_ne.2 (by omega)
  have b5 : (m == 0) = false := beq_eq_false_iff_ne.2 (by omega)
  have hmi : (m : Int) ≤ (d : Int) := by omega
  have hdi : (0 : Int) < (d : Int) := by omega
  have hd0 : 0 < d := by omega
  obtain ⟨x0, hx0⟩ : ∃ x, p[0] = x := ⟨_, rfl⟩
  have hc0 : w.cell? ⟨b, o, none⟩ = _ := hB.str hp0
  rw [hx0] at hc0
  have HM := Lib.hid hm
  have hkno : ∀ w1, Below w.heap.size w w1 → Calls Tryz.prog 45 #[.slice (some ad) 0 0, .slice (some ⟨b, o, none⟩) m d] w1 (KnownS w1 [] p) := fun w1 hx => by
    have := known_any (some ad) (some ⟨b, o, none⟩) 0 d [] p w1 Seen.nil (HS.out.below hx) (by decide) (by omega) (by omega) S.right_nil
    rw [HM.out] at this
    exact this
  have hbe : ∀ w1, Calls Tryz.prog 46 #[.slice (some ad) 0 0, .int .i64 (-1), .string (sB x0)] w1 (IntS w1 0) := fun w1 => behind_any (some ad) 0 [] (-1) x0 w1 Seen.nil (by decide) (by decide) (by decide) S.right_nil
  rw [hm] at hwr ⊢
  clear hS hB hw hkn hx0 hsplit hfn hm hp hp0 hd
  go_enter Tryz.func21, Tryz.ntmps21
  go_wp2_with fail
  refine hwr.mono ?_
  rintro e w1 ⟨rfl, hb1⟩
  go_wp2_with fail
  refine (hkno _ hb1).mono ?_
  rintro e w2 ⟨n2, hn, rfl, hb2⟩
  obtain rfl : 0 = n2 := HKN.out.symm.trans hn
  rw [HFN.out]
  replace hb1 := bthen hb1 hb2
  clear hb2 hn hwr hkno
  replace hc0 := (hb1.cell (p := ⟨b, o, none⟩) hbB).trans hc0
  go_wp2_with fail
  refine (hbe _).mono ?_
  rintro e w3 ⟨rfl, hb2⟩
  replace hb1 := bthen hb1 hb2
  clear hb2 hc0 hbe
  go_wp2_with fail
  refine (cloneLn_some ad _ 0 [] _ rfl (by omega) Seen.nil).mono ?_
  rintro e w4 ⟨v2, rfl, hown2, hb2⟩
  have HO := Lib.hid (hown2.base hb1.size)
  replace hb1 := bthen hb1 hb2
  clear hb2 hown2
  go_wp2
  go_loopg [11, 56] m (fun g vo vi wr => ∃ k : Nat, Hid (k + g = m) ∧ k ≤ m ∧ Own eL wr w.heap.size vo (T.freshL p 0 k) ∧ vi = .int .i64 k ∧ Below w.heap.size w wr)
  case atStart => exact ⟨0, Nat.zero_add _, Nat.zero_le _, HO.out, rfl, hb1⟩
  case round =>
    obtain ⟨k, HG, hk, hown, rfl, hb⟩ := hrel
    have HW := Lib.hid hown
    have hsz := hb.size
    clear hown
    have HLN := Lib.hid (show (T.freshL p 0 k).length = k by rw [T.freshL_len])
    by_cases hkm : k < m
    · have bkm : decide ((k : Int) < (m : Int)) = true := decide_eq_true (by omega)
      have hnk : k < p.length := by have := HM.out; omega
      have c1 := (HB.out.belowN hb hbB).str hnk
      obtain ⟨x, hx⟩ : ∃ x, p[k] = x := ⟨_, rfl⟩
      rw [hx] at c1
      have HN := Lib.hid (show T.freshL p 0 k ++ [⟨(k : Int), x, 0⟩] = T.freshL p 0 (k + 1) by
        rw [T.freshL_next]
        congr 1
        rw [← hx]
        unfold List.getD
        rw [Nat.zero_add, List.getElem?_eq_getElem hnk]; rfl)
      clear hx hnk
      have hown := HW.out
      go_wp2_with (at_builtin; refine wpList_appG eL _ rfl (.tmp 61) (.tmp 67) rfl w.heap.size _ (T.freshL p 0 k) rfl hown ⟨(k : Int), x, 0⟩ 1 _ rfl wr.heap.size rfl rfl (by rw [HLN.out]; omega) hsz ?_; intro v3 w3 hown3 hb3)
      have hgk := HG.out
      go_roundg (m - (k + 1))
      case rel => exact ⟨k + 1, (by show _ = _; omega), by omega, HN.out ▸ hown3, by go_num, hb.trans hb3⟩
      case measure => omega
    · obtain rfl : k = m := by omega
      have bkm : decide ((k : Int) < (k : Int)) = false := decide_eq_false (by omega)
      have hown := HW.out
      go_wp2_with (at_builtin; refine wpList_appSeen eL wr rfl (.tmp 70) (.tmp 73) rfl w.heap.size _ _ rfl hown _ [] 0 _ rfl rfl Seen.nil (by rw [HLN.out]; omega) hsz ?_; intro v5 w5 hown5 hx5)
      go_ret2
      refine ⟨_, rfl, ?_, hb.trans hx5⟩
      have hsp := HSP.out
      rw [HM.out] at hsp
      rw [← hsp]
      exact (List.append_nil (T.freshL p 0 k)) ▸ hown5
set_option maxRecDepth 100000 in
set_option maxHeartbeats 2000000 in
/-- Lines are new, and the tree has none. -/
theorem add_emptyS (ad : Addr) (c : Nat) (hc0 : 0 < c) (hbB : b < w.heap.size) (hB : Holds eS w b o p) (hp0 : 0 < p.length) (hp : p.length ≤ 16) (hd : p.length ≤ d) (hw : longB p = false) (hsplit : T.freshL p 0 p.length = T.addL [] p) :
    Calls Tryz.prog 21 #[.slice (some ad) 0 c, .slice (some ⟨b, o, none⟩) p.length d] w (AddS w (T.addL [] p) 0) := by
  have hS := Holds.seen hB hbB
  have hwr : Calls Tryz.prog 43 #[.slice (some ad) 0 c, .slice (some ⟨b, o, none⟩) p.length d] w (IntS w _) := wrong_0 (some ad) (some ⟨b, o, none⟩) c d [] p w Seen.nil hS (by decide) (by omega) hp0 hw S.right_nil
  rw [if_neg (by omega)] at hwr
  have hkn : ∀ n, T.knownN [] p n = 0 := by
    intro n
    induction n with
    | zero => rfl
    | succ n ih => unfold T.knownN; rw [T.findI_none (fun i hi => by simp at hi), if_pos (by omega)]; exact ih
  have HKN := Lib.hid (hkn p.length)
  have HS := Lib.hid hS
  have HB := Lib.hid hB
  have HSP := Lib.hid hsplit
  have hfn : T.findI [] (p.take 0) = -1 := T.findI_none (fun i hi => by simp at hi)
  have HFN := Lib.hid hfn
  obtain ⟨m, hm⟩ : ∃ m, p.length = m := ⟨_, rfl⟩
  have hm0 : 0 < m := by omega
  have hmp : m ≤ 16 := by omega
  have hmd : m ≤ d := by omega
  have b2 : decide ((200 : Int) < (m : Int)) = false := decide_eq_false (by omega)
  have b3 : decide (200 < m) = false := decide_eq_false (by omega)
  have b4 : ((m : Int) == 0) = false := beq_eq_false_iff_ne.2 (by omega)
  have b5 : (m == 0) = false := beq_eq_false_iff_ne.2 (by omega)
  have hmi : (m : Int) ≤ (d : Int) := by omega
  have hdi : (0 : Int) < (d : Int) := by omega
  have hd0 : 0 < d := by omega
  obtain ⟨x0, hx0⟩ : ∃ x, p[0] = x := ⟨_, rfl⟩
  have hc0 : w.cell? ⟨b, o, none⟩ = _ := hB.str hp0
  rw [hx0] at hc0
  have HM := Lib.hid hm
  have hkno : ∀ w1, Below w.heap.size w w1 → Calls Tryz.prog 45 #[.slice (some ad) 0 c, .slice (some ⟨b, o, none⟩) m d] w1 (KnownS w1 [] p) := fun w1 hx => by
    have := known_any (some ad) (some ⟨b, o, none⟩) c d [] p w1 Seen.nil (HS.out.below hx) (by decide) (by omega) (by omega) S.right_nil
    rw [HM.out] at this
    exact this
  have hbe : ∀ w1, Calls Tryz.prog 46 #[.slice (some ad) 0 c, .int .i64 (-1), .string (sB x0)] w1 (IntS w1 0) := fun w1 => behind_any (some ad) c [] (-1) x0 w1 Seen.nil (by decide) (by decide) (by decide) S.right_nil
  rw [hm] at hwr ⊢
  clear hS hB hw hkn hx0 hsplit hfn hm hp hp0 hd
  go_enter Tryz.func21, Tryz.ntmps21
  go_wp2_with fail
  refine hwr.mono ?_
  rintro e w1 ⟨rfl, hb1⟩
  go_wp2_with fail
  refine (hkno _ hb1).mono ?_
  rintro e w2 ⟨n2, hn, rfl, hb2⟩
  obtain rfl : 0 = n2 := HKN.out.symm.trans hn
  rw [HFN.out]
  replace hb1 := bthen hb1 hb2
  clear hb2 hn hwr hkno
  replace hc0 := (hb1.cell (p := ⟨b, o, none⟩) hbB).trans hc0
  go_wp2_with fail
  refine (hbe _).mono ?_
  rintro e w3 ⟨rfl, hb2⟩
  replace hb1 := bthen hb1 hb2
  clear hb2 hc0 hbe
  go_wp2_with fail
  refine (cloneLn_some ad _ 0 [] _ rfl (by omega) Seen.nil).mono ?_
  rintro e w4 ⟨v2, rfl, hown2, hb2⟩
  have HO := Lib.hid (hown2.base hb1.size)
  replace hb1 := bthen hb1 hb2
  clear hb2 hown2
  go_wp2
  go_loopg [11, 56] m (fun g vo vi wr => ∃ k : Nat, Hid (k + g = m) ∧ k ≤ m ∧ Own eL wr w.heap.size vo (T.freshL p 0 k) ∧ vi = .int .i64 k ∧ Below w.heap.size w wr)
  case atStart => exact ⟨0, Nat.zero_add _, Nat.zero_le _, HO.out, rfl, hb1⟩
  case round =>
    obtain ⟨k, HG, hk, hown, rfl, hb⟩ := hrel
    have HW := Lib.hid hown
    have hsz := hb.size
    clear hown
    have HLN := Lib.hid (show (T.freshL p 0 k).length = k by rw [T.freshL_len])
    by_cases hkm : k < m
    · have bkm : decide ((k : Int) < (m : Int)) = true := decide_eq_true (by omega)
      have hnk : k < p.length := by have := HM.out; omega
      have c1 := (HB.out.belowN hb hbB).str hnk
      obtain ⟨x, hx⟩ : ∃ x, p[k] = x := ⟨_, rfl⟩
      rw [hx] at c1
      have HN := Lib.hid (show T.freshL p 0 k ++ [⟨(k : Int), x, 0⟩] = T.freshL p 0 (k + 1) by
        rw [T.freshL_next]
        congr 1
        rw [← hx]
        unfold List.getD
        rw [Nat.zero_add, List.getElem?_eq_getElem hnk]; rfl)
      clear hx hnk
      have hown := HW.out
      go_wp2_with (at_builtin; refine wpList_appG eL _ rfl (.tmp 61) (.tmp 67) rfl w.heap.size _ (T.freshL p 0 k) rfl hown ⟨(k : Int), x, 0⟩ 1 _ rfl wr.heap.size rfl rfl (by rw [HLN.out]; omega) hsz ?_; intro v3 w3 hown3 hb3)
      have hgk := HG.out
      go_roundg (m - (k + 1))
      case rel => exact ⟨k + 1, (by show _ = _; omega), by omega, HN.out ▸ hown3, by go_num, hb.trans hb3⟩
      case measure => omega
    · obtain rfl : k = m := by omega
      have bkm : decide ((k : Int) < (k : Int)) = false := decide_eq_false (by omega)
      have hown := HW.out
      go_wp2_with (at_builtin; refine wpList_appSeen eL wr rfl (.tmp 70) (.tmp 73) rfl w.heap.size _ _ rfl hown _ [] 0 _ rfl rfl Seen.nil (by rw [HLN.out]; omega) hsz ?_; intro v5 w5 hown5 hx5)
      go_ret2
      refine ⟨_, rfl, ?_, hb.trans hx5⟩
      have hsp := HSP.out
      rw [HM.out] at hsp
      rw [← hsp]
      exact (List.append_nil (T.freshL p 0 k)) ▸ hown5
end
end Go.Proofs.YtfcikfohmehmkaaGreatDoor

namespace Go.Proofs.YtfcikfohmehmkaaGreatDoor
open Go.RowKit

/-- What Add makes of lines and a path. -/
def AddIs (t : List T.Ln) (p : T.Pth) (u : List T.Ln) (er : Int) : Prop :=
  (u = t ∧ er = 1 ∧ (p = [] ∨ longB p = true ∨ ¬ T.RightT t)) ∨
  ((0 < p.length ∧ longB p = false ∧ T.RightT t) ∧ ((u = t ∧ er = 6 ∧ 16 < p.length) ∨ (p.length ≤ 16 ∧ ((200 < (T.addL t p).length ∧ u = t ∧ er = 5) ∨ ((T.addL t p).length ≤ 200 ∧ u = T.addL t p ∧ er = 0)))))
theorem add_is (t : List T.Ln) (p : T.Pth) : ∃ u er, AddIs t p u er := by
  by_cases h : p = [] ∨ longB p = true ∨ ¬ T.RightT t
  · exact ⟨t, 1, .inl ⟨rfl, rfl, h⟩⟩
  · have h1 : 0 < p.length ∧ longB p = false ∧ T.RightT t := by
      refine ⟨List.length_pos_iff.2 fun e => h (.inl e), ?_, Classical.byContradiction fun e => h (.inr (.inr e))⟩
      cases e : longB p with
      | false => rfl
      | true => exact absurd (.inr (.inl e)) h
    by_cases h2 : 16 < p.length
    · exact ⟨t, 6, .inr ⟨h1, .inl ⟨rfl, rfl, h2⟩⟩⟩
    · by_cases h3 : (T.addL t p).length ≤ 200
      · exact ⟨_, 0, .inr ⟨h1, .inr ⟨by omega, .inr ⟨h3, rfl, rfl⟩⟩⟩⟩
      · exact ⟨t, 5, .inr ⟨h1, .inr ⟨by omega, .inl ⟨by omega, rfl, rfl⟩⟩⟩⟩
theorem longB_of {p : T.Pth} (h : ∀ w ∈ p, w.length ≤ 40) : longB p = false := longB_no fun j hj => decide_eq_false (by have := h _ (List.getElem_mem hj); omega)
theorem AddIs.ok {t : List T.Ln} {p : T.Pth} (h1 : 0 < p.length) (h2 : ∀ w ∈ p, w.length ≤ 40) (h3 : T.RightT t) (h4 : p.length ≤ 16) (h5 : (T.addL t p).length ≤ 200) : AddIs t p (T.addL t p) 0 :=
  .inr ⟨⟨h1, longB_of h2, h3⟩, .inr ⟨h4, .inr ⟨h5, rfl, rfl⟩⟩⟩
/-- Add. -/
theorem lines_add (A B : Option Addr) (c d n m : Nat) (t u : List T.Ln) (p : T.Pth) (er : Int) (w : World) (hn : t.length = n) (hm : p.length = m) (hA : Seen eL w A t) (hB : Seen eS w B p) (hc : NilOk A c) (htc : n ≤ c) (hd : m ≤ d) (hl : n ≤ 1073741824) (hp : m ≤ 1073741824) (h : AddIs t p u er) :
    Calls Tryz.prog 21 #[.slice A n c, .slice B m d] w (AddS w u er) := by
  subst hn; subst hm
  rcases h with ⟨rfl, rfl, hbad⟩ | ⟨⟨h0, hlo, hR⟩, ⟨rfl, rfl, h16⟩ | ⟨h16, hcase⟩⟩
  · exact addErr_any A B c _ _ d u 1 w rfl hA hl hc (by decide) (wrong_1 A B c d u p w hA hB hl hp hbad)
  · have hw := wrong_0 A B c d u p w hA hB hl hp h0 hlo hR
    rw [if_pos h16] at hw
    exact addErr_any A B c _ _ d u 6 w rfl hA hl hc (by decide) hw
  · obtain ⟨b, o, rfl, hb, hH⟩ := hB h0
    have hlong := longB_all hlo
    have hlen := T.add_len hR h16 hlong
    have hle := T.known_le t p p.length
    obtain ⟨n, hn⟩ : ∃ n, T.knownN t p p.length = n := ⟨_, rfl⟩
    rw [hn] at hlen hle
    rcases Nat.eq_or_lt_of_le hle with heq | hlt
    · have he : T.addL t p = t := T.add_known hR h16 hlong (hn.trans heq)
      have hl2 := hR.len
      rcases hcase with ⟨h5, _, _⟩ | ⟨_, rfl, rfl⟩
      · rw [he] at h5; omega
      · rw [he]
        rcases Nat.lt_or_ge n d with hnd | hnd
        · exact add_all1 b o d t p w A c n hA hc hb hH h0 h16 hnd hlo hR hn heq.symm
        · exact add_all2 b o d t p w A c n hA hc hb hH h0 h16 (by omega) hlo hR hn heq.symm
    · rcases hcase with ⟨h5, rfl, rfl⟩ | ⟨h5, rfl, rfl⟩
      · exact add_long b o d u p w A c n hA hc hb hH h0 h16 hd hlo hR hn hlt (by omega)
      · obtain ⟨P, hP⟩ : ∃ P, T.placeTo t (p.getD n []) (T.findI t (p.take n) + 1).toNat (T.kidsL t (T.findI t (p.take n))) = P := ⟨_, rfl⟩
        obtain ⟨hPl, hsp⟩ := T.add_placed hR h16 hlong hn hlt hP
        by_cases ht : 0 < t.length
        · obtain ⟨bt, ot, rfl, hbt, hT⟩ := hA ht
          rcases Nat.lt_or_ge P c with hPc | hPc
          · exact add_new1 b o d t p w bt ot c n P hbt hT ht htc hb hH h16 hd hlo hR hn hlt hP hPl hsp (by omega) hPc
          · have e1 : P = t.length := by omega
            have e2 : c = t.length := by omega
            subst e1
            rw [e2]
            exact add_new2 b o d t p w bt ot n hbt hT ht hb hH h16 hd hlo hR hn hlt hP hsp (by omega)
        · obtain rfl : t = [] := List.eq_nil_of_length_eq_zero (by omega)
          have hkn : ∀ k, T.knownN [] p k = 0 := by
            intro k
            induction k with
            | zero => rfl
            | succ k ih => unfold T.knownN; rw [T.findI_none (fun i hi => by simp at hi), if_pos (by omega)]; exact ih
          have hn0 : n = 0 := by rw [← hn, hkn]
          subst hn0
          have hsp2 : T.freshL p 0 p.length = T.addL [] p := by rw [← hsp, List.take_nil, List.drop_nil]; simp
          cases A with
          | none =>
            obtain rfl := hc rfl
            exact add_emptyN b o d p w hb hH h0 h16 hd hlo hsp2
          | some ad =>
            rcases Nat.eq_zero_or_pos c with rfl | hc0
            · exact add_emptyZ b o d p w ad hb hH h0 h16 hd hlo hsp2
            · exact add_emptyS b o d p w ad c hc0 hb hH h0 h16 hd hlo hsp2
end Go.Proofs.YtfcikfohmehmkaaGreatDoor

namespace Go.Proofs.YtfcikfohmehmkaaGreatDoor
open Go.RowKit
set_option linter.unusedVariables false

theorem Own.nilOk {α : Type} {E : Elem α} {w : World} {base n c : Nat} {A : Option Addr} {l : List α} (h : Own E w base (.slice A n c) l) : NilOk A c := by
  rintro rfl
  rcases h.2 with ⟨e, _⟩ | ⟨g, cap, cur, e, _⟩
  · injection e
  · injection e with e1; cases e1
theorem cells_mark (t : List T.Ln) : ∀ (i : Nat) (m : Int), i < t.length → (cellsG eL t).set (i * 3 + 2) (.int .i64 m) = cellsG eL (S.setM t i m) := by
  induction t with
  | nil => intro i m h; simp at h
  | cons x t ih =>
    intro i m h
    cases i with
    | zero => rfl
    | succ i =>
      have e1 : cellsG eL (x :: t) = .int .i64 x.depth :: .string (sB x.word) :: .int .i64 x.mark :: cellsG eL t := rfl
      have e2 : S.setM (x :: t) (i + 1) m = x :: S.setM t i m := rfl
      have e3 : cellsG eL (x :: S.setM t i m) = .int .i64 x.depth :: .string (sB x.word) :: .int .i64 x.mark :: cellsG eL (S.setM t i m) := rfl
      rw [e2, e3, ← ih i m (by simpa using h), e1, show (i + 1) * 3 + 2 = (i * 3 + 2) + 1 + 1 + 1 by omega]
      rfl
/-- A mark, stored. -/
theorem Own.mark {w : World} {base g n cap : Nat} {t : List T.Ln} (h : Own eL w base (.slice (some ⟨g, 0, none⟩) n cap) t) {i : Nat} (hi : i < t.length) (m : Int) : Own eL (w.setCell ⟨g, i * 3 + 2, none⟩ (.int .i64 m)) base (.slice (some ⟨g, 0, none⟩) n cap) (S.setM t i m) := by
  have hl := S.setM_len t i m
  have hcl := cellsG_len eL t
  have hcl2 := cellsG_len eL (S.setM t i m)
  rcases h.2 with ⟨e, _⟩ | ⟨g2, cap2, cur, e, hbg, hgg, hnc, hcm, hcs, htk⟩
  · cases e
  · injection e with e1 e2 e3
    injection e1 with e1
    injection e1 with e1
    subst e1; subst e2; subst e3
    refine ⟨hcl2, .inr ⟨g, cap, cur.setIfInBounds (i * 3 + 2) (.int .i64 m), by rw [hl], hbg, ?_, by rw [hl]; exact hnc, hcm, by rw [Array.size_setIfInBounds]; exact hcs, ?_⟩⟩
    · simp [World.setCell, Array.getElem?_modify, hgg]
    · rw [hl, ← cells_mark t i m hi, ← htk, Array.toList_setIfInBounds, List.take_set]
theorem Own.unfrozen {w : World} {base g n cap : Nat} {t : List T.Ln} (h : Own eL w base (.slice (some ⟨g, 0, none⟩) n cap) t) (j : Nat) : w.frozen? ⟨g, j, none⟩ = false ∧ base ≤ g ∧ g < w.heap.size := by
  rcases h.2 with ⟨e, _⟩ | ⟨g2, cap2, cur, e, hbg, hgg, _⟩
  · cases e
  · injection e with e1 e2 e3
    injection e1 with e1
    injection e1 with e1
    subst e1
    exact ⟨Lib.frozen_of_heap hgg j, hbg, (Array.getElem?_eq_some_iff.1 hgg).1⟩
end Go.Proofs.YtfcikfohmehmkaaGreatDoor

namespace Go.Proofs.YtfcikfohmehmkaaGreatDoor
open Go.RowKit
set_option linter.unusedVariables false

/-- A path, as its cell has it. -/
structure PtM where
  A : Option Addr
  n : Nat
  c : Nat
/-- A path's cell says it. -/
structure PtS (w : World) (m : PtM) (x : T.Pth) : Prop where
  len : x.length = m.n
  cap : m.n ≤ m.c
  seen : Seen eS w m.A x
theorem PtS.below {w w1 : World} {m : PtM} {x : T.Pth} (h : PtS w m x) (hb : Below w.heap.size w w1) : PtS w1 m x := ⟨h.len, h.cap, h.seen.below hb⟩
/-- A path lies outside a slice's own row. -/
def FreeQ (v : Value) (m : PtM) (x : T.Pth) : Prop := 0 < x.length → ∀ a, m.A = some a → v.ownBlock ≠ some a.block
theorem cells_from {α : Type} {E : Elem α} {w : World} {b q : Nat} {l2 : List α} (hc : Holds E w b q l2) : ∀ j u, (cellsG E l2)[j]? = some u → w.cell? ((⟨b, q, none⟩ : Addr).add j) = some u := by
  intro j u hu
  have hj : j < l2.length * E.sz := by rw [← cellsG_len]; exact (List.getElem?_eq_some_iff.1 hu).1
  have hsz := E.hsz
  have hi : j / E.sz < l2.length := Nat.div_lt_of_lt_mul (by rw [Nat.mul_comm]; exact hj)
  have hr : j % E.sz < E.sz := Nat.mod_lt _ hsz
  have e : j / E.sz * E.sz + j % E.sz = j := by rw [Nat.mul_comm]; exact Nat.div_add_mod j E.sz
  rw [← e, cellsG_at E l2 _ _ hi hr] at hu
  have := hc _ hi _ u hu
  rw [show q + j / E.sz * E.sz + j % E.sz = q + j by omega] at this
  rw [add_off]; exact this
/-- append of many, wherever they lie, saying what it leaves. -/
theorem wpList_appSrc3 {α : Type} (E : Elem α) {ops : Array Oper} {rest : List Oper} {o : Oper} {a : Act} {Q : Exit → Act → World → Prop} (w : World) (hgd : o.guard = none) (s x : Operand)
    (ho : o.op = .call { callee := .builtin .append, args := #[s, x], argTypes := #[E.st, E.st] })
    (base : Nat) (v : Value) (l : List α) (hs : a.eval s = v) (hown : Own E w base v l) (b q : Nat) (l2 : List α) (m cap : Nat) (hm : l2.length = m)
    (hx : a.eval x = .slice (some ⟨b, q, none⟩) m cap) (hc : Holds E w b q l2) (hlen : l.length + m ≤ 1099511627776) (hb : base ≤ w.heap.size)
    (h : ∀ v' w', Grew E w w' base v v' (l ++ l2) → wpList Tryz.prog ops Q rest (a.put o.dst v') w') : wpList Tryz.prog ops Q (o :: rest) a w := by
  obtain ⟨i0, hi0, hz0, hz1, hz2⟩ := info_parts E.hin
  subst hm
  have hby := E.hby
  have hmul : (l.length + l2.length) * E.by_ ≤ 1099511627776 * 64 := Nat.mul_le_mul hlen hby
  refine Go.wpList_append_own_at (w := w) hgd s x E.st ho base E.T i0 _ E.sz E.by_ E.hst hi0 hz0 hz1 hz2 E.hzs E.hsz v l.length (cellsG E l) hs hown ⟨b, q, none⟩ l2.length cap (cellsG E l2) hx
    (cellsG_len E l2) (fun j u hu => cells_from hc j u hu) (cellsG_onec E _) (by unfold maxLen; omega) (by omega) hb ?_
  intro v' w' h1 h2 _ h3
  refine h v' w' ⟨?_, ⟨h2.os, h2.tape, h2.output, h2.size, fun k hk hne => h2.block k hk hne⟩, ?_⟩
  · unfold Own; rw [cellsG_append, List.length_append]; exact h1
  · rcases h3 with h3 | h3
    · exact .inl h3
    · exact .inr ⟨_, h3, Nat.le_refl _⟩
/-- A path's value, at an address from block k on. -/
structure PtK (w : World) (k : Nat) (m : PtM) (x : T.Pth) : Prop where
  pt : PtS w m x
  from_ : ∀ a, m.A = some a → k ≤ a.block
theorem PtK.below {w w1 : World} {k : Nat} {m : PtM} {x : T.Pth} (h : PtK w k m x) (hb : Below w.heap.size w w1) : PtK w1 k m x := ⟨h.pt.below hb, h.from_⟩
theorem PtK.less {w : World} {k j : Nat} {m : PtM} {x : T.Pth} (h : PtK w k m x) (hj : j ≤ k) : PtK w j m x := ⟨h.pt, fun a ha => Nat.le_trans hj (h.from_ a ha)⟩
theorem own_pt {w : World} {k : Nat} {v : Value} {x : T.Pth} (h : Own eS w k v x) : ∃ A c, v = .slice A x.length c ∧ PtK w k ⟨A, x.length, c⟩ x := by
  obtain ⟨A, c, rfl, hc, hs⟩ := h.seen
  refine ⟨A, c, rfl, ⟨rfl, hc, hs⟩, fun a ha => ?_⟩
  have ha : A = some a := ha
  subst ha
  rcases h.2 with ⟨e, _⟩ | ⟨g, cap, cur, e, hb, _⟩
  · injection e with e; cases e
  · injection e with e _ _
    injection e with e
    rw [e]
    exact hb
/-- What an append to v, in the world w, leaves. -/
def G12 (w w' : World) (v v' : Value) : Prop := w.heap.size ≤ w'.heap.size ∧ (∀ b, b < w.heap.size → v.ownBlock ≠ some b → w'.heap[b]? = w.heap[b]?) ∧ ∀ b, v'.ownBlock = some b → v.ownBlock = some b ∨ w.heap.size ≤ b
/-- What a call has made stays, and lies outside the row. -/
structure Side12 (k : Nat) (w w1 : World) (v : Value) : Prop where
  wide : w.heap.size ≤ w1.heap.size
  same : ∀ b, k ≤ b → b < w.heap.size → w1.heap[b]? = w.heap[b]?
  away : ∀ b, v.ownBlock = some b → b < k ∨ w.heap.size ≤ b
theorem side_grow {k : Nat} {w w1 w2 : World} {v : Value} (h : Side12 k w w1 v) (hb : Below w1.heap.size w1 w2) : Side12 k w w2 v :=
  ⟨Nat.le_trans h.wide hb.size, fun b h1 h2 => (hb.block b (Nat.lt_of_lt_of_le h2 h.wide)).trans (h.same b h1 h2), h.away⟩
theorem side_app {k : Nat} {w w1 w2 : World} {v v2 : Value} (h : Side12 k w w1 v) (hg : G12 w1 w2 v v2) : Side12 k w w2 v2 := by
  obtain ⟨g1, g2, g3⟩ := hg
  refine ⟨Nat.le_trans h.wide g1, fun b h1 h2 => (g2 b (Nat.lt_of_lt_of_le h2 h.wide) (fun e => ?_)).trans (h.same b h1 h2), fun b e => ?_⟩
  · rcases h.away b e with h3 | h3 <;> omega
  · rcases g3 b e with h3 | h3
    · exact h.away b h3
    · have := h.wide; right; omega
theorem side_seen {α : Type} {E : Elem α} {k : Nat} {w w1 : World} {v : Value} {A : Option Addr} {l : List α} (h : Side12 k w w1 v) (hs : Seen E w A l) (hA : ∀ a, A = some a → k ≤ a.block) : Seen E w1 A l := by
  intro hl
  obtain ⟨b, o, e, hb, hH⟩ := hs hl
  exact ⟨b, o, e, Nat.lt_of_lt_of_le hb h.wide, holds_of_block hH (h.same b (hA _ e) hb)⟩
/-- append of one, saying what it leaves. -/
theorem wpList_appS {α : Type} (E : Elem α) {ops : Array Oper} {rest : List Oper} {o : Oper} {a : Act} {Q : Exit → Act → World → Prop} (w : World) (hgd : o.guard = none) (s x : Operand)
    (ho : o.op = .call { callee := .builtin .append, args := #[s, x], argTypes := #[E.st, E.st] })
    (base : Nat) (v : Value) (l : List α) (hs : a.eval s = v) (hown : Own E w base v l) (t : α) (cap : Nat) (cs : Array Value) (hcs : cs.toList = E.C t)
    (g : Nat) (hg : w.heap.size = g) (hx : a.eval x = .slice (some ⟨g, 0, none⟩) 1 cap) (hlen : l.length + 1 ≤ 1099511627776) (hb : base ≤ w.heap.size)
    (h : ∀ v' w', Own E w' base v' (l ++ [t]) → Below base w w' → G12 w w' v v' → wpList Tryz.prog ops Q rest (a.put o.dst v') w') : wpList Tryz.prog ops Q (o :: rest) a (w.alloc (.cells cs E.T)) := by
  refine wpList_app3 E w hgd s x ho base v l hs hown t cap cs hcs g hg hx hlen hb fun v' w' hG => h v' w' hG.own (hG.below hown hb) ⟨hG.grown.size, fun b hb hne => hG.grown.block b hb (fun e => hne e.symm), fun b e => ?_⟩
  rcases hG.at_ with h | ⟨g, h, h4⟩
  · left; rw [← h]; exact e
  · right; rw [h] at e; injection e with e; omega
/-- append of many, saying what it leaves. -/
theorem wpList_appM {α : Type} (E : Elem α) {ops : Array Oper} {rest : List Oper} {o : Oper} {a : Act} {Q : Exit → Act → World → Prop} (w : World) (hgd : o.guard = none) (s x : Operand)
    (ho : o.op = .call { callee := .builtin .append, args := #[s, x], argTypes := #[E.st, E.st] })
    (base : Nat) (v : Value) (l : List α) (hs : a.eval s = v) (hown : Own E w base v l) (v2 : Value) (l2 : List α) (hx : a.eval x = v2) (h2 : VecAt E w v2 l2) (hlen : l.length + l2.length ≤ 1099511627776) (hb : base ≤ w.heap.size)
    (h : ∀ v' w', Own E w' base v' (l ++ l2) → Below base w w' → G12 w w' v v' → wpList Tryz.prog ops Q rest (a.put o.dst v') w') : wpList Tryz.prog ops Q (o :: rest) a w := by
  rcases h2 with ⟨rfl, rfl⟩ | ⟨b, q, c, rfl, hc, hbw, hH⟩
  · refine wpList_appNone E w hgd s x ho base v l hs hown hx ?_
    exact h v w (by rw [List.append_nil]; exact hown) (Below.refl _ _) ⟨Nat.le_refl _, fun _ _ _ => rfl, fun b e => .inl e⟩
  · refine wpList_appSrc3 E w hgd s x ho base v l hs hown b q l2 l2.length c rfl hx hH hlen hb fun v' w' hG => h v' w' hG.own (hG.below hown hb) ⟨hG.grown.size, fun b hb hne => hG.grown.block b hb (fun e => hne e.symm), fun b e => ?_⟩
    rcases hG.at_ with h | ⟨g, h, h4⟩
    · left; rw [← h]; exact e
    · right; rw [h] at e; injection e with e; omega
/-- A slice of the call's own stands aside of what is newer. -/
theorem side_start {α : Type} {E : Elem α} {k base : Nat} {w0 w : World} {v : Value} {l : List α} (h : Own E w0 base v l) (hk : w0.heap.size ≤ k) : Side12 k w w v := ⟨Nat.le_refl _, fun _ _ _ => rfl, fun b e => .inl (Nat.lt_of_lt_of_le (h.lt b e).2 hk)⟩
end Go.Proofs.YtfcikfohmehmkaaGreatDoor

namespace Go.Proofs.YtfcikfohmehmkaaGreatDoor
open Go.RowKit
set_option linter.unusedVariables false

def enC (x : H.En) : List Value := [.string (sB x.host), .int .i64 x.kind, .string (sB x.key), .string (sB x.val)]
def enV (x : H.En) : Value := .agg #[.string (sB x.host), .int .i64 x.kind, .string (sB x.key), .string (sB x.val)]
def zeroEn : Value := .agg #[.string ⟨#[]⟩, .int .i64 0, .string ⟨#[]⟩, .string ⟨#[]⟩]
theorem enC_one (x : H.En) (u : Value) (hu : u ∈ enC x) : u.oneCell' = true := by
  simp [enC] at hu
  rcases hu with rfl | rfl | rfl | rfl <;> rfl
/-- The document's. -/
def eEd : Elem H.En where
  st := 29
  T := 36
  sz := 4
  zero := zeroEn
  by_ := 56
  C := enC
  hst := Tryz.underlying29
  hin := by kernel_rfl
  hzs := rfl
  hsz := by decide
  hby := by decide
  len := fun _ => rfl
  one := enC_one
/-- The code's. -/
def eEc : Elem H.En where
  st := 25
  T := 35
  sz := 4
  zero := zeroEn
  by_ := 56
  C := enC
  hst := Tryz.underlying25
  hin := by kernel_rfl
  hzs := rfl
  hsz := by decide
  hby := by decide
  len := fun _ => rfl
  one := enC_one
/-- The four cells of an entry. -/
theorem Holds.entry {E : Elem H.En} (hz : E.sz = 4) (hC : E.C = enC) {w : World} {b o : Nat} {l : List H.En} (h : Holds E w b o l) {i : Nat} (hi : i < l.length) :
    w.cell? ⟨b, o + i * 4, none⟩ = some (.string (sB l[i].host)) ∧ w.cell? ⟨b, o + i * 4 + 1, none⟩ = some (.int .i64 l[i].kind) ∧ w.cell? ⟨b, o + i * 4 + 2, none⟩ = some (.string (sB l[i].key)) ∧ w.cell? ⟨b, o + i * 4 + 3, none⟩ = some (.string (sB l[i].val)) := by
  have e : ∀ j u, (enC l[i])[j]? = some u → w.cell? ⟨b, o + i * 4 + j, none⟩ = some u := fun j u hu => by
    have := h i hi j u (by rw [hC]; exact hu)
    rw [hz] at this
    exact this
  exact ⟨e 0 _ rfl, e 1 _ rfl, e 2 _ rfl, e 3 _ rfl⟩
end Go.Proofs.YtfcikfohmehmkaaGreatDoor

namespace Go.Proofs.YtfcikfohmehmkaaGreatDoor
open Go.ChangeShapes Go.WideShapes Go.ChangeAt Go.RowKit
set_option linter.unusedVariables false

/-- The block g holds an entry. -/
structure EntAt (w : World) (g : Nat) (a : List UInt8) (k : Int) (b d : List UInt8) : Prop where
  host0 : w.cell? ⟨g, 0, none⟩ = some (.string (sB a))
  kind0 : w.cell? ⟨g, 1, none⟩ = some (.int .i64 k)
  key0 : w.cell? ⟨g, 2, none⟩ = some (.string (sB b))
  val0 : w.cell? ⟨g, 3, none⟩ = some (.string (sB d))
  low0 : g < w.heap.size
theorem ent_laid (w : World) (a : List UInt8) (k : Int) (b d : List UInt8) : EntAt (w.alloc (.cells #[.string (sB a), .int .i64 k, .string (sB b), .string (sB d)] 35)) w.heap.size a k b d :=
  ⟨World.cell?_alloc_mark w _ _ (0, 0) 0, World.cell?_alloc_mark w _ _ (0, 0) 1, World.cell?_alloc_mark w _ _ (0, 0) 2, World.cell?_alloc_mark w _ _ (0, 0) 3, by simp⟩
theorem ent_below {w w1 : World} {g : Nat} {a : List UInt8} {k : Int} {b d : List UInt8} (h : EntAt w g a k b d) (hb : Below w.heap.size w w1) : EntAt w1 g a k b d :=
  ⟨(hb.cell (p := ⟨g, 0, none⟩) h.low0).trans h.host0, (hb.cell (p := ⟨g, 1, none⟩) h.low0).trans h.kind0, (hb.cell (p := ⟨g, 2, none⟩) h.low0).trans h.key0, (hb.cell (p := ⟨g, 3, none⟩) h.low0).trans h.val0, Nat.lt_of_lt_of_le h.low0 hb.size⟩
theorem drew_below (w : World) (q : Nat) : Below w.heap.size w (w.drewN q) := by
  have h := Below.refl w.heap.size w
  exact ⟨h.os, h.tape, h.output, h.size, h.block⟩
/-- A literal row, at a block of this number. -/
theorem lit_at14 (w : World) (l : List (List UInt8)) (cs : Array Value) (g : Nat) (hg : w.heap.size = g) (h : cs.toList = cellsG eS l) (hl : l.length ≤ 1000) : Seen eS (w.alloc (.cells cs eS.T)) (some ⟨g, 0, none⟩) l := by
  subst hg; exact lit_seen eS w l cs h hl
theorem Tryz.cellsEntry : Tryz.prog.cellsOf 35 = 4 := by kernel_rfl
/-- What is known of an entry that came in. -/
def LongE (x : H.En) : Prop := x.host.length ≤ maxLen ∧ x.key.length ≤ maxLen ∧ x.val.length ≤ maxLen ∧ -9223372036854775808 ≤ x.kind ∧ x.kind ≤ 9223372036854775807
set_option maxRecDepth 100000 in
theorem open_entry {HH : Type} {enc : TypeId × Value → HH} {W : World} {base : Nat} {v : Value} {d : DataW HH} {p : List MemPlace} (hok : Value.okWide Tryz.prog W .any base 35 v)
    (h : DataW.Trod enc Tryz.prog W 0 (fun _ => true) true 35 v d p) : ∃ x : H.En, v = enV x ∧ LongE x := by
  obtain ⟨v0, v1, v2, v3, y0, y1, y2, y3, n, rfl, _, _, g0, g1, g2, g3⟩ := Go.Joins.open_agg4 Tryz.underlying35 (by kernel_rfl) Tryz.cellsEntry hok h
  obtain ⟨z0, q0, _, w0⟩ := DataW.trod_string Tryz.underlying9 g0
  obtain ⟨z1, q1, _, w1⟩ := DataW.trod_int Tryz.underlying3 g1
  obtain ⟨z2, q2, _, w2⟩ := DataW.trod_string Tryz.underlying9 g2
  obtain ⟨z3, q3, _, w3⟩ := DataW.trod_string Tryz.underlying9 g3
  simp at q0 q1 q2 q3
  subst q0; subst q1; subst q2; subst q3
  have wb := bounds_i64 w1
  exact ⟨⟨z0.data.toList, z1, z2.data.toList, z3.data.toList⟩, by unfold enV; simp only [sB_of], by rw [← sB_size, sB_of]; exact w0, by rw [← sB_size, sB_of]; exact w2, by rw [← sB_size, sB_of]; exact w3, wb.1, wb.2⟩
set_option maxRecDepth 100000 in
theorem open_entries {HH : Type} {enc : TypeId × Value → HH} {W : World} {base : Nat} {v : Value} {d : DataW HH} {p : List MemPlace} (hok : Value.okWide Tryz.prog W .any base 25 v)
    (h : DataW.Trod enc Tryz.prog W 0 (fun _ => true) true 25 v d p) : ∃ (A : Option Addr) (c : Nat) (L : List H.En), v = .slice A L.length c ∧ L.length ≤ c ∧ NilOk A c ∧ Seen eEc W A L ∧ L.length ≤ maxLen ∧ ∀ x ∈ L, LongE x := by
  obtain ⟨A, n, c, rfl⟩ := okWide_slice Tryz.underlying25 hok
  have hnc : n ≤ c := (slice_ok Tryz.underlying25 hok).2
  have hno : NilOk A c := fun e => ((slice_ok Tryz.underlying25 hok).1 e).2
  obtain ⟨fuel, hf⟩ := h
  rcases Go.Deep.open_slice Tryz.underlying25 hf with ⟨hcs, _⟩ | ⟨a, len, cap, m, k, D, Pl, hcs, _, hl, hm, hmm, _, hx⟩
  · have hc2 : ([Value.slice A n c] : List Value) = [.slice none 0 0] := hcs
    injection hc2 with hc2
    injection hc2 with e1 e2 e3
    subst e1; subst e2; subst e3
    exact ⟨none, 0, [], rfl, Nat.le_refl _, fun _ => rfl, Seen.nil, by unfold maxLen; simp, fun x hx => by cases hx⟩
  · have hc2 : ([Value.slice A n c] : List Value) = [.slice (some a) len cap] := hcs
    injection hc2 with hc2
    injection hc2 with e1 e2 e3
    subst e1; subst e2; subst e3
    have hnm : n ≤ m := by rw [hmm]; simp; exact hl
    have each : ∀ i, i < n → ∃ x : H.En, (W.cell? (a.add (i * 4)) = some (.string (sB x.host)) ∧ W.cell? (a.add (i * 4 + 1)) = some (.int .i64 x.kind) ∧ W.cell? (a.add (i * 4 + 2)) = some (.string (sB x.key)) ∧ W.cell? (a.add (i * 4 + 3)) = some (.string (sB x.val))) ∧ LongE x := by
      intro i hi
      obtain ⟨cs', h1, h2⟩ := hx i (by omega)
      rw [Tryz.cellsEntry] at h1
      obtain ⟨_, hlen, hcell⟩ := World.cells?_some h1
      obtain ⟨xs, q, hq, hxy, _, hxl, hff⟩ := DataW.trod_struct Tryz.underlying35 h2
      match xs, hxl, cs', hlen with
      | [y0, y1, y2, y3], _, [v0, v1, v2, v3], _ =>
        have g0 := hff 0 _ rfl
        have g1 := hff 1 _ rfl
        have g2 := hff 2 _ rfl
        have g3 := hff 3 _ rfl
        simp [Tryz.cellsInt, Tryz.cellsStr] at g0 g1 g2 g3
        obtain ⟨z0, q0, _, w0⟩ := DataW.trod_string Tryz.underlying9 g0
        obtain ⟨z1, q1, _, w1⟩ := DataW.trod_int Tryz.underlying3 g1
        obtain ⟨z2, q2, _, w2⟩ := DataW.trod_string Tryz.underlying9 g2
        obtain ⟨z3, q3, _, w3⟩ := DataW.trod_string Tryz.underlying9 g3
        simp at q0 q1 q2 q3
        subst q0; subst q1; subst q2; subst q3
        have e0 := hcell 0 (by omega)
        have e1 := hcell 1 (by omega)
        have e2 := hcell 2 (by omega)
        have e3 := hcell 3 (by omega)
        rw [Go.Deep.add_add] at e0 e1 e2 e3
        have wb := bounds_i64 w1
        refine ⟨⟨z0.data.toList, z1, z2.data.toList, z3.data.toList⟩, ⟨by rw [sB_of]; simpa using e0, by simpa using e1, by rw [sB_of]; simpa using e2, by rw [sB_of]; simpa using e3⟩, by rw [← sB_size, sB_of]; exact w0, by rw [← sB_size, sB_of]; exact w2, by rw [← sB_size, sB_of]; exact w3, wb.1, wb.2⟩
    haveI : Inhabited H.En := ⟨⟨[], 0, [], []⟩⟩
    obtain ⟨f, hfx⟩ := Go.Deep.choose_lt each
    refine ⟨some a, c, (List.range n).map f, by simp, by simp; exact hnc, hno, fun hpos => ?_, by simp; omega, fun x hx => ?_⟩
    · have hn : 0 < n := by simpa using hpos
      obtain ⟨b, o, sp⟩ := a
      have hc0 := (hfx 0 hn).1.1
      have hsp : sp = none := by simpa [Addr.add] using World.cell?_spot hc0
      subst hsp
      refine ⟨b, o, rfl, ?_, fun i hi j u hu => ?_⟩
      · have := World.block_lt_of_cell? W _ hc0; simpa [Addr.add] using this
      · have hin : i < n := by simpa using hi
        obtain ⟨⟨h0, h1, h2, h3⟩, _⟩ := hfx i hin
        rw [add_off] at h0 h1 h2 h3
        have eg : ((List.range n).map f)[i] = f i := by simp
        rw [eg] at hu
        match j, hu with
        | 0, hu => injection hu with hu; rw [← hu]; exact h0
        | 1, hu => injection hu with hu; rw [← hu]; exact h1
        | 2, hu => injection hu with hu; rw [← hu]; exact h2
        | 3, hu => injection hu with hu; rw [← hu]; exact h3
        | j + 4, hu => cases hu
    · obtain ⟨i, hi, rfl⟩ := List.mem_map.1 hx
      exact (hfx i (List.mem_range.1 hi)).2
theorem EntAt.cells {w : World} {g : Nat} {a : List UInt8} {k : Int} {b d : List UInt8} (h : EntAt w g a k b d) : w.cell? ⟨g, 0, none⟩ = some (.string (sB a)) ∧ w.cell? ⟨g, 1, none⟩ = some (.int .i64 k) ∧ w.cell? ⟨g, 2, none⟩ = some (.string (sB b)) ∧ w.cell? ⟨g, 3, none⟩ = some (.string (sB d)) := ⟨h.host0, h.kind0, h.key0, h.val0⟩
theorem long_yes {a : List UInt8} (h : ¬ a.length ≤ 100) : decide ((100 : Int) < ((sB a).size : Int)) = true := decide_eq_true (by rw [sB_size]; omega)
theorem long_no {a : List UInt8} (h : a.length ≤ 100) : decide ((100 : Int) < ((sB a).size : Int)) = false := decide_eq_false (by rw [sB_size]; omega)
/-- append of entries that came in, nil or not. -/
theorem wpList_appL15 {ops : Array Oper} {rest : List Oper} {o : Oper} {a : Act} {Q : Exit → Act → World → Prop} (w : World) (hgd : o.guard = none) (s x : Operand)
    (ho : o.op = .call { callee := .builtin .append, args := #[s, x], argTypes := #[eEc.st, eEc.st] })
    (base : Nat) (v : Value) (l0 : List H.En) (hs : a.eval s = v) (hown : Own eEc w base v l0) (A : Option Addr) (n c : Nat) (l : List H.En) (hn : l.length = n) (hN : NilOk A c) (hA : Seen eEc w A l) (hx : a.eval x = .slice A n c) (hlen : l0.length + n ≤ 1099511627776) (hb : base ≤ w.heap.size)
    (h : ∀ v' w', Own eEc w' base v' (l0 ++ l) → Below base w w' → wpList Tryz.prog ops Q rest (a.put o.dst v') w') : wpList Tryz.prog ops Q (o :: rest) a w := by
  cases A with
  | none =>
    have h0 : l = [] := by
      cases l with
      | nil => rfl
      | cons y r => obtain ⟨b, o, e, _⟩ := hA (by simp); cases e
    subst h0
    obtain rfl : n = 0 := hn.symm
    obtain rfl := hN rfl
    refine wpList_appNone eEc w hgd s x ho base v l0 hs hown hx ?_
    exact h v w (by rw [List.append_nil]; exact hown) (Below.refl _ _)
  | some ad => exact wpList_appSeen eEc w hgd s x ho base v l0 hs hown ad l n c hn hx hA hlen hb h

/-- A literal row of two entries. -/
theorem own_lit14 (w : World) (g : Nat) (hg : w.heap.size = g) (x y : H.En) : Own eEc (w.alloc (.cells #[.string (sB x.host), .int .i64 x.kind, .string (sB x.key), .string (sB x.val), .string (sB y.host), .int .i64 y.kind, .string (sB y.key), .string (sB y.val)] 35)) g (.slice (some ⟨g, 0, none⟩) 2 2) [x, y] := by
  subst hg
  exact World.ownsRow_lit (base := w.heap.size) (e := 35) (size := 4) w #[.string (sB x.host), .int .i64 x.kind, .string (sB x.key), .string (sB x.val), .string (sB y.host), .int .i64 y.kind, .string (sB y.key), .string (sB y.val)] 2 (Nat.le_refl _) (by unfold maxLen; omega) rfl
end Go.Proofs.YtfcikfohmehmkaaGreatDoor

namespace Go.Proofs.YtfcikfohmehmkaaGreatDoor.C
set_option linter.unusedVariables false
open T (Pth pless RightN RightT pathL endL kidsL underL pathI wd dp at_ Ln pre isIn)

theorem pths_len (t : List Ln) : (pths t).length = t.length := by unfold pths; rw [List.length_map, List.length_range]
theorem pths_at (t : List Ln) {i : Nat} (hi : i < t.length) : (pths t)[i]'(by rw [pths_len]; exact hi) = pathL t i := by
  unfold pths
  rw [List.getElem_map, List.getElem_range]
theorem mem_pths {t : List Ln} {p : Pth} : p ∈ pths t ↔ isIn t p := by
  unfold pths isIn
  rw [List.mem_map]
  exact ⟨fun ⟨k, h, e⟩ => ⟨k, List.mem_range.1 h, e⟩, fun ⟨k, h, e⟩ => ⟨k, List.mem_range.2 h, e⟩⟩
theorem dropLast_path (t : List Ln) (k : Nat) : (pathL t k).dropLast = pathI t (underL t k) := by rw [T.path_under, List.dropLast_concat]
theorem kid_iff {N : Nat} {t : List Ln} (h : RightN N t) {i k : Nat} (hi : i < t.length) (hk : k < t.length) : isKid (pathL t i) (pathL t k) = (underL t k == (i : Int)) := by
  have hu := T.under_lt t k
  unfold isKid
  rw [dropLast_path, Bool.eq_iff_iff, decide_eq_true_eq, beq_iff_eq]
  constructor
  · rintro ⟨_, e⟩
    rw [← T.pathI_nat t i] at e
    exact h.pathI_inj ⟨hu.1, by omega⟩ ⟨by omega, by omega⟩ e
  · intro e
    exact ⟨T.path_ne, by rw [e, T.pathI_nat]⟩
theorem kids_pths {N : Nat} {t : List Ln} (h : RightN N t) {i : Nat} (hi : i < t.length) : kidsP (pths t) (pathL t i) = (kidsL t i).map (pathL t) := by
  unfold kidsP pths kidsL
  rw [List.filter_map]
  congr 1
  exact List.filter_congr fun k hk => kid_iff h hi (List.mem_range.1 hk)
theorem kids_count {N : Nat} {t : List Ln} (h : RightN N t) {i : Nat} (hi : i < t.length) : (kidsP (pths t) (pathL t i)).length = (kidsL t i).length := by rw [kids_pths h hi, List.length_map]
theorem kid_path {t : List Ln} {i k : Nat} (hk : k ∈ kidsL t i) : pathL t k = pathL t i ++ [wd t k] := by
  rw [T.path_under t k, ((T.mem_kids t i k).1 hk).2, T.pathI_nat]
theorem kids_off {N : Nat} {t : List Ln} (h : RightN N t) {p : Pth} (hp : p ≠ []) (hno : ¬ isIn t p) : kidsP (pths t) p = [] := by
  unfold kidsP
  rw [List.filter_eq_nil_iff]
  intro q hq hk
  obtain ⟨k, hkl, rfl⟩ := mem_pths.1 hq
  unfold isKid at hk
  obtain ⟨_, e⟩ := of_decide_eq_true hk
  rw [dropLast_path] at e
  have hu := T.under_lt t k
  by_cases h0 : underL t k < 0
  · rw [show underL t k = -1 by omega, T.pathI_none] at e
    exact hp e.symm
  · obtain ⟨j, hj⟩ := Int.eq_ofNat_of_zero_le (show 0 ≤ underL t k by omega)
    rw [hj, T.pathI_nat] at e
    exact hno ⟨j, by omega, e⟩
def checkTo (t : List Ln) (i : Nat) : List (Pth × Int) := ((pths t).take i).flatMap (atP (pths t))
theorem check_full (t : List Ln) : checkTo t t.length = checkP (pths t) := by
  unfold checkTo checkP
  rw [List.take_of_length_le (by rw [pths_len]; exact Nat.le_refl _)]
theorem check_none0 (t : List Ln) : checkTo t 0 = [] := rfl
theorem check_step {t : List Ln} {i : Nat} (hi : i < t.length) : checkTo t (i + 1) = checkTo t i ++ atP (pths t) (pathL t i) := by
  unfold checkTo
  rw [List.take_succ_eq_append_getElem (by rw [pths_len]; exact hi), List.flatMap_append, pths_at t hi]
  simp
/-- A path under one that is no statement is left out. -/
theorem dead_under {P : List Pth} {p q : Pth} (hp : p ≠ []) (hk : knownP p ≠ 0) (hq : q ≠ []) : atP P (p ++ q) = [] := by
  unfold atP
  rw [if_neg]
  intro h
  unfold liveP at h
  rw [List.all_eq_true] at h
  have hl := List.length_pos_iff.2 hp
  have hl2 := List.length_pos_iff.2 hq
  have := h p.length (List.mem_range.2 (by rw [List.length_append]; omega))
  rw [List.take_left] at this
  simp only [Bool.or_eq_true, decide_eq_true_eq] at this
  rcases this with h | h
  · omega
  · exact hk h
theorem check_skip {N : Nat} {t : List Ln} (h : RightN N t) {i : Nat} (hi : i < t.length) (hk : knownP (pathL t i) ≠ 0) : ∀ d, i + 1 + d ≤ endL t i → checkTo t (i + 1 + d) = checkTo t (i + 1)
  | 0, _ => rfl
  | d + 1, hd => by
    have he := T.end_spec t i hi
    rw [show i + 1 + (d + 1) = (i + 1 + d) + 1 by omega, check_step (by omega), check_skip h hi hk d (by omega)]
    obtain ⟨r, hr⟩ := T.part_prefix hi (i + 1 + d) (i + 1 + d) (Nat.le_refl _) (by omega) (by omega)
    have hne : r ≠ [] := by
      intro e
      rw [e, List.append_nil] at hr
      have := h.path_inj (i + 1 + d + i) (i + 1 + d) i (by omega) (by omega) (by omega) hi hr
      omega
    rw [hr, dead_under T.path_ne hk hne, List.append_nil]
theorem check_end {N : Nat} {t : List Ln} (h : RightN N t) {i : Nat} (hi : i < t.length) (hk : knownP (pathL t i) ≠ 0) : checkTo t (endL t i) = checkTo t i ++ atP (pths t) (pathL t i) := by
  have he := T.end_spec t i hi
  have := check_skip h hi hk (endL t i - (i + 1)) (by omega)
  rw [show i + 1 + (endL t i - (i + 1)) = endL t i by omega] at this
  rw [this, check_step hi]
/-- All lines ahead that are no statement end there. -/
def Going (t : List Ln) (i : Nat) : Prop := ∀ j, j < i → knownP (pathL t j) ≠ 0 → endL t j ≤ i
theorem Going.start (t : List Ln) : Going t 0 := fun j hj => absurd hj (Nat.not_lt_zero j)
theorem Going.next {t : List Ln} {i : Nat} (g : Going t i) (hk : knownP (pathL t i) = 0) : Going t (i + 1) := fun j hj hn => by
  by_cases h : j < i
  · exact Nat.le_succ_of_le (g j h hn)
  · obtain rfl : j = i := by omega
    exact absurd hk hn
theorem Going.skip {N : Nat} {t : List Ln} (h : RightN N t) {i : Nat} (hi : i < t.length) (g : Going t i) : Going t (endL t i) := fun j hj hn => by
  have he := T.end_spec t i hi
  by_cases h1 : j < i
  · have := g j h1 hn; omega
  · have hjl : j < t.length := by omega
    have hej := T.end_spec t j hjl
    apply Nat.le_of_not_lt
    intro hlt
    have p1 := (h.part_iff hi hjl).1 ⟨by omega, hj⟩
    have p2 := (h.part_iff hjl (show endL t i < t.length by omega)).1 ⟨by omega, hlt⟩
    have : i ≤ endL t i ∧ endL t i < endL t i := (h.part_iff hi (show endL t i < t.length by omega)).2 (T.pre_trans p1 p2)
    omega
theorem Going.live {N : Nat} {t : List Ln} (h : RightN N t) {i : Nat} (hi : i < t.length) (g : Going t i) : liveP (pathL t i) = true := by
  unfold liveP
  rw [List.all_eq_true]
  intro k hk
  have hk := List.mem_range.1 hk
  by_cases h0 : k = 0
  · simp [h0]
  · obtain ⟨j, hj, e⟩ := h.path_take (i) i k (Nat.le_refl _) hi (by omega) (by omega)
    have hpre := (h.part_iff hj hi).2 (T.pre_iff.2 ⟨(pathL t i).drop k, by rw [e, List.take_append_drop]⟩)
    have hji : j < i := by
      rcases Nat.lt_or_ge j i with h1 | h1
      · exact h1
      · obtain rfl : j = i := by omega
        have := congrArg List.length e
        rw [List.length_take] at this
        omega
    rw [← e]
    have : knownP (pathL t j) = 0 := Decidable.byContradiction fun hn => by
      have := g j hji hn
      omega
    simp [this]
end Go.Proofs.YtfcikfohmehmkaaGreatDoor.C

namespace Go.Proofs.YtfcikfohmehmkaaGreatDoor.C
set_option linter.unusedVariables false
open T (Pth pless RightN RightT GoodP pathL endL kidsL underL pathI wd dp at_ Ln pre isIn)

theorem pths_entries (t : List Ln) : pths t = (T.entries t).map (·.1) := by
  unfold pths T.entries
  rw [List.map_map]
  rfl
end Go.Proofs.YtfcikfohmehmkaaGreatDoor.C

namespace Go.Proofs.YtfcikfohmehmkaaGreatDoor.H
set_option linter.unusedVariables false
open T (Pth RightN RightT isIn underW Ln pathL)
open C (Wd wHosts wVnis wBindings wRoutes wPolicy wIp wMac wHost wVni wVia wMetric wAction wFrom wTo pths checkP faultsP knownP kidsP liveP atP meantP thirdK needsW hasP key mem_pths)

-- A TREE WITHOUT FAULTS
theorem faults_known {P : List Pth} {p : Pth} (h : faultsP P p = []) : knownP p = 0 := Decidable.byContradiction fun k => by
  unfold faultsP at h
  rw [if_pos k] at h
  cases h
theorem clean {Z : Nat} {t : List Ln} (hR : RightN Z t) (h : checkP (pths t) = []) : ∀ (n : Nat) (p : Pth), p.length ≤ n → isIn t p → faultsP (pths t) p = []
  | 0, p, hn, hi => by
    obtain ⟨i, _, e⟩ := hi
    exact absurd (List.length_eq_zero_iff.1 (Nat.le_zero.1 hn)) (by rw [← e]; exact T.path_ne)
  | n + 1, p, hn, hi => by
    have hl : liveP p = true := by
      unfold liveP
      rw [List.all_eq_true]
      intro k hk
      have hk := List.mem_range.1 hk
      by_cases h0 : k = 0
      · simp [h0]
      · have hne : p.take k ≠ [] := fun e => by
          have := congrArg List.length e
          rw [List.length_take, List.length_nil] at this
          omega
        have := faults_known (clean hR h n (p.take k) (by rw [List.length_take]; omega) (hR.in_pre hne hi (T.pre_iff.2 ⟨p.drop k, (List.take_append_drop k p).symm⟩)))
        simp [this]
    unfold checkP at h
    have := List.flatMap_eq_nil_iff.1 h p (mem_pths.2 hi)
    unfold atP at this
    rwa [if_pos hl] at this
theorem under_count {Z : Nat} {t : List Ln} (hR : RightN Z t) {p : Pth} (h : isIn t p) : (underW t p).length = (kidsP (pths t) p).length := by
  obtain ⟨i, hi, rfl⟩ := h
  rw [C.kids_count hR hi, ← T.pathI_nat t i, ← T.kids_words hR (i := (i : Int)) ⟨by omega, by omega⟩, List.length_map]
theorem one_word {Z : Nat} {t : List Ln} (hR : RightN Z t) (h : checkP (pths t) = []) {a b c : Wd} (hi : isIn t [a, b, c]) (h1 : (thirdK (key a c)).2.1 = true) : ∃ x, underW t [a, b, c] = [x] := by
  have hf := clean hR h 3 _ (by simp) hi
  have hk := faults_known hf
  unfold faultsP at hf
  rw [if_neg (fun k => k hk)] at hf
  simp only at hf
  rw [if_pos h1] at hf
  have hc := under_count hR hi
  split at hf
  · cases hf
  · split at hf
    · cases hf
    · cases hu : underW t [a, b, c] with
      | nil => rw [hu] at hc; simp at hc; omega
      | cons x r =>
        rw [hu] at hc
        simp at hc
        exact ⟨x, by rw [List.length_eq_zero_iff.1 (show r.length = 0 by omega)]⟩
theorem needed {Z : Nat} {t : List Ln} (hR : RightN Z t) (h : checkP (pths t) = []) {a b c : Wd} (hi : isIn t [a, b]) (hc : c ∈ needsW a) : isIn t [a, b, c] := by
  have hf := clean hR h 2 _ (by simp) hi
  have hk := faults_known hf
  unfold faultsP at hf
  rw [if_neg (fun k => k hk)] at hf
  simp only at hf
  rw [List.map_eq_nil_iff, List.filter_eq_nil_iff] at hf
  have := hf c hc
  simp only [Bool.not_eq_true', Bool.not_eq_false] at this
  unfold hasP kidsP at this
  exact mem_pths.1 (List.mem_filter.1 (of_decide_eq_true this)).1
theorem under_one {Z : Nat} {t : List Ln} (hR : RightN Z t) (h : checkP (pths t) = []) {a b c : Wd} (hi : b ∈ underW t [a]) (hc : c ∈ needsW a) (h1 : (thirdK (key a c)).2.1 = true) : ∃ x, underW t [a, b, c] = [x] :=
  one_word hR h (needed hR h (T.mem_underW.1 hi) hc) h1
theorem host_ip {Z : Nat} {t : List Ln} (hR : RightN Z t) (h : checkP (pths t) = []) {b : Wd} (hi : b ∈ underW t [wHosts]) : ∃ x, underW t [wHosts, b, wIp] = [x] := under_one hR h hi (by decide) (by decide)
theorem bind_host {Z : Nat} {t : List Ln} (hR : RightN Z t) (h : checkP (pths t) = []) {b : Wd} (hi : b ∈ underW t [wBindings]) : ∃ x, underW t [wBindings, b, wHost] = [x] := under_one hR h hi (by decide) (by decide)
theorem bind_vni {Z : Nat} {t : List Ln} (hR : RightN Z t) (h : checkP (pths t) = []) {b : Wd} (hi : b ∈ underW t [wBindings]) : ∃ x, underW t [wBindings, b, wVni] = [x] := under_one hR h hi (by decide) (by decide)
theorem route_via {Z : Nat} {t : List Ln} (hR : RightN Z t) (h : checkP (pths t) = []) {b : Wd} (hi : b ∈ underW t [wRoutes]) : ∃ x, underW t [wRoutes, b, wVia] = [x] := under_one hR h hi (by decide) (by decide)
/-- A route's via, and a binding's host, are hosts that are there. -/
theorem word_there {Z : Nat} {t : List Ln} (hR : RightN Z t) (h : checkP (pths t) = []) {a b c d : Wd} (hk : key a c = key wBindings wHost ∨ key a c = key wRoutes wVia) (hi : d ∈ underW t [a, b, c]) : d ∈ underW t [wHosts] := by
  have hf := clean hR h 4 _ (by simp) (T.mem_underW.1 hi)
  have hkn := faults_known hf
  unfold faultsP at hf
  rw [if_neg (fun k => k hkn)] at hf
  have hm : meantP (pths t) [a, b, c, d] = false := by
    cases hm : meantP (pths t) [a, b, c, d] with
    | false => rfl
    | true =>
      simp only [List.cons_append, List.nil_append] at hf
      rw [if_pos hm] at hf
      cases hf
  unfold meantP at hm
  simp only at hm
  rw [if_neg (by rcases hk with e | e <;> rw [e] <;> decide), if_pos hk, Bool.not_eq_false', decide_eq_true_eq] at hm
  exact T.mem_underW.2 (mem_pths.1 hm)
theorem word_is {t : List Ln} {p : Pth} {x o : Wd} (h : underW t p = [x]) : wordH t p o = x := by unfold wordH; rw [h]; rfl
/-- A route's via is the first word there, and a host. -/
theorem via_host {Z : Nat} {t : List Ln} (hR : RightN Z t) (h : checkP (pths t) = []) {b : Wd} (hi : b ∈ underW t [wRoutes]) : wordH t [wRoutes, b, wVia] [] ∈ underW t [wHosts] := by
  obtain ⟨x, hx⟩ := route_via hR h hi
  rw [word_is hx]
  exact word_there hR h (b := b) (c := wVia) (.inr rfl) (by rw [hx]; simp)
theorem bound_host {Z : Nat} {t : List Ln} (hR : RightN Z t) (h : checkP (pths t) = []) {b : Wd} (hi : b ∈ underW t [wBindings]) : wordH t [wBindings, b, wHost] [] ∈ underW t [wHosts] := by
  obtain ⟨x, hx⟩ := bind_host hR h hi
  rw [word_is hx]
  exact word_there hR h (b := b) (c := wHost) (.inl rfl) (by rw [hx]; simp)

-- ENTRIES ONE BY ONE
theorem mem_flood {t : List Ln} {h g : Wd} {x : En} : x ∈ floodL t h g ↔ ∃ v ∈ underW t [wVnis], h ≠ g ∧ inH t h v = true ∧ inH t g v = true ∧ x = ⟨h, 1, v, ipH t g⟩ := by
  unfold floodL
  rw [List.mem_map]
  constructor
  · rintro ⟨v, hv, e⟩
    obtain ⟨h1, h2⟩ := List.mem_filter.1 hv
    simp only [Bool.and_eq_true, decide_eq_true_eq] at h2
    exact ⟨v, h1, h2.1.1, h2.1.2, h2.2, e.symm⟩
  · rintro ⟨v, h1, h2, h3, h4, e⟩
    refine ⟨v, List.mem_filter.2 ⟨h1, ?_⟩, e.symm⟩
    simp only [Bool.and_eq_true, decide_eq_true_eq]
    exact ⟨⟨h2, h3⟩, h4⟩
theorem bindOne_kind {t : List Ln} {h g i : Wd} {x : En} (hx : x ∈ bindOne t h g i) : x.host = h ∧ (x.kind = 2 ∨ x.kind = 3) := by
  unfold bindOne at hx
  split at hx
  · rcases List.mem_cons.1 hx with rfl | hx
    · exact ⟨rfl, .inl rfl⟩
    · split at hx
      · cases hx
      · rw [List.mem_singleton] at hx; subst hx; exact ⟨rfl, .inr rfl⟩
  · cases hx
theorem bind_kind {t : List Ln} {h g : Wd} {x : En} (hx : x ∈ bindL t h g) : x.host = h ∧ (x.kind = 2 ∨ x.kind = 3) := by
  obtain ⟨i, _, hi⟩ := List.mem_flatMap.1 hx
  exact bindOne_kind hi
theorem route_kind {t : List Ln} {h g : Wd} {x : En} (hx : x ∈ routeL t h g) : x.host = h ∧ x.kind = 4 := by
  obtain ⟨i, _, hi⟩ := List.mem_flatMap.1 hx
  unfold routeOne at hi
  split at hi
  · rw [List.mem_singleton] at hi; subst hi; exact ⟨rfl, rfl⟩
  · cases hi
theorem pol_kind {t : List Ln} {h : Wd} {x : En} (hx : x ∈ polL t h) : x.host = h ∧ x.kind = 5 := by
  obtain ⟨i, _, rfl⟩ := List.mem_map.1 hx
  exact ⟨rfl, rfl⟩
theorem mem_pairs {t : List Ln} {h g : Wd} {x : En} : x ∈ pairsL t h g ↔ x ∈ floodL t h g ∨ x ∈ bindL t h g ∨ x ∈ routeL t h g := by
  unfold pairsL
  rw [List.mem_append, List.mem_append]
  exact or_assoc
theorem mem_host {t : List Ln} {h : Wd} {x : En} : x ∈ hostL t h ↔ (∃ g ∈ underW t [wHosts], x ∈ pairsL t h g) ∨ x ∈ polL t h := by
  unfold hostL
  rw [List.mem_append, List.mem_flatMap]
theorem host_of {t : List Ln} {h : Wd} {x : En} (hx : x ∈ hostL t h) : x.host = h := by
  rcases mem_host.1 hx with ⟨g, _, k⟩ | k
  · rcases mem_pairs.1 k with k | k | k
    · obtain ⟨v, _, _, _, _, rfl⟩ := mem_flood.1 k; rfl
    · exact (bind_kind k).1
    · exact (route_kind k).1
  · exact (pol_kind k).1
theorem mem_tables {t : List Ln} {x : En} : x ∈ tablesL t ↔ x.host ∈ underW t [wHosts] ∧ x ∈ hostL t x.host := by
  unfold tablesL allL
  rw [mem_set, List.mem_flatMap]
  constructor
  · rintro ⟨h, h1, h2⟩
    have := host_of h2
    subst this
    exact ⟨h1, h2⟩
  · rintro ⟨h1, h2⟩
    exact ⟨_, h1, h2⟩
/-- Each entry is of a host that is there. -/
theorem tables_there {t : List Ln} {x : En} (h : x ∈ tablesL t) : x.host ∈ underW t [wHosts] := (mem_tables.1 h).1
/-- What one host floods to another one, that one floods back. -/
theorem flood_back {t : List Ln} {x : En} (h : x ∈ tablesL t) (hk : x.kind = 1) : ∃ y ∈ tablesL t, y.kind = 1 ∧ y.key = x.key ∧ y.val = ipH t x.host ∧ ipH t y.host = x.val := by
  obtain ⟨h1, h2⟩ := mem_tables.1 h
  rcases mem_host.1 h2 with ⟨g, hg, k⟩ | k
  · rcases mem_pairs.1 k with k | k | k
    · obtain ⟨v, q1, q2, q3, q4, e⟩ := mem_flood.1 k
      refine ⟨⟨g, 1, v, ipH t x.host⟩, mem_tables.2 ⟨hg, mem_host.2 (.inl ⟨x.host, h1, mem_pairs.2 (.inl (mem_flood.2 ⟨v, q1, fun e => q2 e.symm, q4, q3, rfl⟩))⟩)⟩, rfl, ?_, rfl, ?_⟩
      · rw [e]
      · rw [e]
    · have := (bind_kind k).2; omega
    · have := (route_kind k).2; omega
  · have := (pol_kind k).2; omega

-- THE SAME PATHS, THE SAME TABLES
theorem under_paths {t u : List Ln} (h : pths u = pths t) (p : Pth) : underW u p = underW t p := by
  have e : ∀ t : List Ln, underW t p = ((pths t).filter fun q => decide (q.dropLast = p)).map fun q => q.getLastD [] := fun t => by
    rw [C.pths_entries]
    unfold underW
    rw [List.filter_map, List.map_map]
    rfl
  rw [e u, e t, h]
theorem tables_paths {t u : List Ln} (h : pths u = pths t) : tablesL u = tablesL t := by
  have e := under_paths h
  have e1 : ∀ p o, wordH u p o = wordH t p o := fun p o => by unfold wordH; rw [e]
  have e2 : ∀ a v, inH u a v = inH t a v := fun a v => by unfold inH; rw [e]
  have e3 : ∀ a, ipH u a = ipH t a := fun a => e1 _ _
  have b : ∀ a g i, bindOne u a g i = bindOne t a g i := fun a g i => by unfold bindOne; simp only [e1, e2, e3]
  have r : ∀ a g i, routeOne u a g i = routeOne t a g i := fun a g i => by unfold routeOne; simp only [e1, e3]
  have q : ∀ a g, pairsL u a g = pairsL t a g := fun a g => by
    unfold pairsL floodL bindL routeL
    simp only [e, e2, e3, C.flat_same (fun i _ => b a g i), C.flat_same (fun i _ => r a g i)]
  have o : ∀ a, hostL u a = hostL t a := fun a => by
    unfold hostL polL polOne
    simp only [e, e1, C.flat_same (fun g _ => q a g)]
  unfold tablesL allL
  rw [e, C.flat_same (fun a _ => o a)]
end Go.Proofs.YtfcikfohmehmkaaGreatDoor.H
