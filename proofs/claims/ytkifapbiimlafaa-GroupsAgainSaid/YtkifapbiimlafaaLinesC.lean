/-
  Contracts of the leaves of layer 6 (lines): append of a slice wherever it lies, slices.Clone of lines, ContainsFunc of words, wrong, known, behind. Condition: at most 2^30 lines and words.
  What a slice that came in says of its capacity; a nil slice has none. No conditions.
  Contracts of layer 6's known, behind and Add (lines): a path that is added to a tree. Condition: at most 2^30 lines and words.
  Contract of layer 6's Add (lines): the tree with a path, or the error; a slice of the call's own. Condition: at most 2^30 lines and words.
  Contract of layer 6's Add (lines), further cases. Condition: at most 2^30 lines and words.
  Contract of layer 6's Add (lines), further cases. Condition: at most 2^30 lines and words.
  Contract of layer 6's Add (lines), all cases: the tree with a path, or the error's number. Condition: at most 2^30 lines and words.
-/
import Derived.Test.YtkifapbiimlafaaTreeE
import Derived.Test.YtkifapbiimlafaaParseC
import Derived.Test.YtkifapbiimlafaaParsePut
import Derived.Test.YtkifapbiimlafaaPureL

namespace Go.Proofs.Ytkifapbiimlafaa
open Go.ChangeShapes Go.WideShapes Go.ChangeAt Go.RowKit

/-- append of what is seen elsewhere, wherever it lies. -/
theorem wp_appSeen {α : Type} (E : Elem α) {o : Oper} {a : Act} {K : Act → World → Prop} {Q : Exit → Act → World → Prop} (w : World) (s x : Operand)
    (ho : o.op = .call { callee := .builtin .append, args := #[s, x], argTypes := #[E.st, E.st] })
    (base : Nat) (v : Value) (l : List α) (hs : a.eval s = v) (hown : Own E w base v l) (ad : Addr) (l2 : List α) (m cap : Nat) (hm : l2.length = m)
    (hx : a.eval x = .slice (some ad) m cap) (hc : Seen E w (some ad) l2) (hlen : l.length + m ≤ 1099511627776) (hb : base ≤ w.heap.size)
    (h : ∀ v' w', Own E w' base v' (l ++ l2) → Below base w w' → K (a.put o.dst v') w') : o.wp Try.prog a w K Q := by
  by_cases hl : 0 < l2.length
  · obtain ⟨b, q, e, _, hh⟩ := hc hl
    injection e with e
    subst e
    exact wp_appSrc E w s x ho base v l hs hown b q l2 m cap hm hx hh hlen hb h
  · obtain rfl : l2 = [] := List.eq_nil_of_length_eq_zero (by omega)
    subst hm
    obtain ⟨i0, hi0, hz0, hz1, hz2⟩ := info_parts E.hin
    have hby := E.hby
    have hmul : l.length * E.by_ ≤ 1099511627776 * 64 := Nat.mul_le_mul (by omega) hby
    refine wp_append_own w s x E.st ho base E.T i0 _ E.sz E.by_ E.hst hi0 hz0 hz1 hz2 E.hzs E.hsz v l.length (cellsG E l) hs hown ad 0 cap [] hx (by simp) (fun j u hu => by simp at hu) (fun u hu => by cases hu) (by unfold maxLen; simp at hlen; omega) (by simp at hmul ⊢; omega) hb ?_
    intro v' w' h1 h2 _
    refine h v' w' ?_ ?_
    · unfold Own; rw [List.append_nil]; rw [List.append_nil] at h1; exact h1
    · exact Below.grown (Below.refl _ _) h2 hb (fun k hk => (World.ownsRow.lt hown k hk).1)
theorem wpList_appSeen {α : Type} (E : Elem α) {ops : Array Oper} {rest : List Oper} {o : Oper} {a : Act} {Q : Exit → Act → World → Prop} (w : World) (hgd : o.guard = none) (s x : Operand)
    (ho : o.op = .call { callee := .builtin .append, args := #[s, x], argTypes := #[E.st, E.st] })
    (base : Nat) (v : Value) (l : List α) (hs : a.eval s = v) (hown : Own E w base v l) (ad : Addr) (l2 : List α) (m cap : Nat) (hm : l2.length = m)
    (hx : a.eval x = .slice (some ad) m cap) (hc : Seen E w (some ad) l2) (hlen : l.length + m ≤ 1099511627776) (hb : base ≤ w.heap.size)
    (h : ∀ v' w', Own E w' base v' (l ++ l2) → Below base w w' → wpList Try.prog ops Q rest (a.put o.dst v') w') : wpList Try.prog ops Q (o :: rest) a w :=
  wpList_plain hgd fun _ hK => wp_appSeen E w s x ho base v l hs hown ad l2 m cap hm hx hc hlen hb fun v' w' h1 h2 => hK _ _ (h v' w' h1 h2)

/-- A call leaves a slice of its own. -/
def OwnS {α : Type} (E : Elem α) (w : World) (l : List α) (e : Ending) (w' : World) : Prop := ∃ v, e = .returned v ∧ Own E w' w.heap.size v l ∧ Below w.heap.size w w'
/-- A nil slice has no room. -/
def NilOk (A : Option Addr) (c : Nat) : Prop := A = none → c = 0
set_option maxRecDepth 100000 in
theorem cloneLn_nil (w : World) : Calls Try.prog 54 #[.slice none 0 0] w (OwnS eL w []) := by
  have q := fun (w : World) (a : Option Addr) (n c : Nat) => Lib.run_eql_slice_nil (P := Try.prog) w 22 _ a n c 0 0 Try.underlying22
  go_enter Try.func54, Try.ntmps54
  go_wp2
  go_ret
  exact ⟨_, rfl, Own.nil _ _, Below.refl _ _⟩
set_option maxRecDepth 100000 in
theorem cloneLn_some (ad : Addr) (cap n : Nat) (t : List T.Ln) (w : World) (hn : t.length = n) (hp : n ≤ 1073741824) (h : Seen eL w (some ad) t) :
    Calls Try.prog 54 #[.slice (some ad) n cap] w (OwnS eL w t) := by
  have HH := Lib.hid (h.below ((Below.refl _ _).alloc (Nat.le_refl _) (.cells #[] eL.T)))
  have HO := Lib.hid (Own.empty eL w)
  clear h
  have q := fun (w : World) (a : Option Addr) (n c : Nat) => Lib.run_eql_slice_nil (P := Try.prog) w 22 _ a n c 0 0 Try.underlying22
  have HN := Lib.hid hn
  clear hn
  go_enter Try.func54, Try.ntmps54
  go_wp2_with (first | (at_builtin; refine wpList_appSeen eL (w.alloc (.cells #[] eL.T)) rfl (.tmp 5) (.tmp 6) rfl w.heap.size _ [] rfl HO.out ad t n cap HN.out rfl HH.out (by simp; omega) (by simp) ?_; intro v3 w3 hown3 hb3))
  go_ret
  exact ⟨v3, rfl, hown3, ((Below.refl _ _).alloc (Nat.le_refl _) _).trans hb3⟩
theorem cloneLn_any (A : Option Addr) (cap n : Nat) (t : List T.Ln) (w : World) (hn : t.length = n) (hp : n ≤ 1073741824) (h : Seen eL w A t) (hA : NilOk A cap) :
    Calls Try.prog 54 #[.slice A n cap] w (OwnS eL w t) := by
  cases A with
  | some ad => exact cloneLn_some ad cap n t w hn hp h
  | none =>
    obtain rfl := hA rfl
    have hl : t = [] := by
      cases t with
      | nil => rfl
      | cons x t => obtain ⟨b, o, e, _⟩ := h (by simp); cases e
    subst hl
    subst hn
    exact cloneLn_nil w

/-- The closure of wrong: is a word too long? -/
theorem tooLong_any (x : List UInt8) (w : World) : Calls Try.prog 62 #[.string (sB x)] w (fun e w' => e = .returned (.bool (decide (40 < x.length))) ∧ w = w') := by
  have hs := sB_size x
  by_cases h : 40 < x.length
  · have b : decide ((40 : Int) < ((sB x).size : Int)) = true := decide_eq_true (by rw [hs]; omega)
    rw [decide_eq_true h]
    clear hs h
    go_enter Try.func62, Try.ntmps62
    go_wp2
    go_ret
    exact ⟨rfl, rfl⟩
  · have b : decide ((40 : Int) < ((sB x).size : Int)) = false := decide_eq_false (by rw [hs]; omega)
    rw [decide_eq_false h]
    clear hs h
    go_enter Try.func62, Try.ntmps62
    go_wp2
    go_ret
    exact ⟨rfl, rfl⟩
/-- Is any word too long? -/
def longB (p : T.Pth) : Bool := p.any fun x => decide (40 < x.length)
theorem longB_yes {p : T.Pth} {k : Nat} (h : k < p.length) (e : decide (40 < p[k].length) = true) : longB p = true := by
  unfold longB; rw [List.any_eq_true]; exact ⟨p[k], List.getElem_mem h, e⟩
theorem longB_no {p : T.Pth} (h : ∀ j (hj : j < p.length), decide (40 < p[j].length) = false) : longB p = false := by
  unfold longB; rw [List.any_eq_false]
  intro x hx
  obtain ⟨i, hi, rfl⟩ := List.getElem_of_mem hx
  rw [h i hi]; decide
theorem longB_all {p : T.Pth} (h : longB p = false) : ∀ x ∈ p, x.length ≤ 40 := by
  intro x hx
  unfold longB at h
  rw [List.any_eq_false] at h
  have := h x hx
  simp only [decide_eq_true_eq] at this
  omega
set_option maxRecDepth 100000 in
set_option maxHeartbeats 1000000 in
theorem indexLong_any (A : Option Addr) (c : Nat) (p : T.Pth) (w : World) (hA : Seen eS w A p) (hp : p.length ≤ 1073741824) :
    Calls Try.prog 66 #[.slice A p.length c, .func (.func 62) #[] #[]] w (fun e w' => ∃ i : Int, e = .returned (.int .i64 i) ∧ decide (0 ≤ i) = longB p ∧ w = w') := by
  have HA := Lib.hid hA
  clear hA
  go_enter Try.func66, Try.ntmps66
  go_wp2
  go_loopg [8] p.length (fun gk i wr => ∃ k : Nat, Hid (k + gk = p.length) ∧ k ≤ p.length ∧ i = .int .i64 k ∧ Hid (∀ j (hj : j < p.length), j < k → decide (40 < p[j].length) = false) ∧ w = wr)
  case atStart => exact ⟨0, Nat.zero_add _, Nat.zero_le _, rfl, (fun j h1 h2 => absurd h2 (Nat.not_lt_zero j)), rfl⟩
  case round =>
    obtain ⟨k, HG, hk, rfl, HI, rfl⟩ := hrel
    by_cases hlt : k < p.length
    · have blt : decide ((k : Int) < (p.length : Int)) = true := decide_eq_true (by omega)
      obtain ⟨b1, o1, rfl, hw1, hL1⟩ := HA.out (by omega)
      have c1 := hL1.str hlt
      clear hL1
      obtain ⟨x, hx⟩ : ∃ x, p[k] = x := ⟨_, rfl⟩
      have hcall := tooLong_any x w
      rw [hx] at c1
      cases he : decide (40 < x.length) with
      | true =>
        have HN := Lib.hid (longB_yes hlt (by rw [hx]; exact he))
        rw [he] at hcall
        clear hx he
        go_wp2_with (refine hcall.mono ?_; rintro e w' ⟨rfl, rfl⟩)
        go_ret
        exact ⟨k, rfl, by rw [HN.out]; simp, rfl⟩
      | false =>
        have HN := Lib.hid (show ∀ j (hj : j < p.length), j < k + 1 → decide (40 < p[j].length) = false from fun j hj hjk => by
          rcases Nat.lt_or_ge j k with h1 | h1
          · exact HI.out j hj h1
          · obtain rfl : j = k := by omega
            rw [hx]; exact he)
        rw [he] at hcall
        clear hx he
        go_wp2_with (refine hcall.mono ?_; rintro e w' ⟨rfl, rfl⟩)
        go_roundg (p.length - (k + 1))
        case rel => exact ⟨k + 1, (by show _ = _; omega), by omega, by go_num, HN, rfl⟩
        case measure => have := HG.out; omega
    · have blt : decide ((k : Int) < (p.length : Int)) = false := decide_eq_false (by omega)
      have HN := Lib.hid (longB_no (p := p) fun j hj => HI.out j hj (by omega))
      go_wp2
      go_ret
      exact ⟨-1, rfl, by rw [HN.out]; rfl, rfl⟩
theorem containsLong_any (A : Option Addr) (c : Nat) (p : T.Pth) (w : World) (hA : Seen eS w A p) (hp : p.length ≤ 1073741824) :
    Calls Try.prog 63 #[.slice A p.length c, .func (.func 62) #[] #[]] w (fun e w' => e = .returned (.bool (longB p)) ∧ w = w') := by
  have hc := indexLong_any A c p w hA hp
  clear hA
  go_enter Try.func63, Try.ntmps63
  go_wp2_with fail
  refine hc.mono ?_
  rintro e w' ⟨i, rfl, hi, rfl⟩
  have HI := Lib.hid hi
  clear hi hc
  go_wp2
  go_ret
  exact ⟨by rw [← HI.out]; rfl, rfl⟩

/-- What wrong says of a path that is none: the error's number. -/
theorem wrong_1 (A B : Option Addr) (c d : Nat) (t : List T.Ln) (p : T.Pth) (w : World) (hA : Seen eL w A t) (hB : Seen eS w B p) (hl : t.length ≤ 1073741824) (hp : p.length ≤ 1073741824) (h : p = [] ∨ longB p = true ∨ ¬ T.RightT t) :
    Calls Try.prog 53 #[.slice A t.length c, .slice B p.length d] w (IntS w 1) := by
  by_cases h0 : p.length = 0
  · have b0 : ((p.length : Int) == 0) = true := by simpa using h0
    have b1 : (p.length == 0) = true := by simpa using h0
    clear h
    go_enter Try.func53, Try.ntmps53
    go_wp2
    go_ret
    exact ⟨rfl, Below.refl _ _⟩
  · have b0 : ((p.length : Int) == 0) = false := by simpa using h0
    have b1 : (p.length == 0) = false := by simpa using h0
    have hcon := containsLong_any B d p w hB hp
    cases hlong : longB p with
    | true =>
      rw [hlong] at hcon
      clear h hlong h0 hA hB
      go_enter Try.func53, Try.ntmps53
      go_wp2_with (refine hcon.mono ?_; rintro e w' ⟨rfl, rfl⟩)
      go_ret
      exact ⟨rfl, Below.refl _ _⟩
    | false =>
      rw [hlong] at hcon
      have hR : ¬ T.RightT t := by
        rcases h with h | h | h
        · subst h; exact absurd rfl h0
        · rw [hlong] at h; cases h
        · exact h
      have hright := right_is A c t false w hA hl (no_iff hR)
      clear h hlong h0 hA hB hR
      go_enter Try.func53, Try.ntmps53
      go_wp2_with (first | (refine hcon.mono ?_; rintro e w' ⟨rfl, rfl⟩) | (refine hright.mono ?_; rintro e w1 ⟨rfl, hb1⟩))
      go_ret
      exact ⟨rfl, hb1⟩
theorem wrong_0 (A B : Option Addr) (c d : Nat) (t : List T.Ln) (p : T.Pth) (w : World) (hA : Seen eL w A t) (hB : Seen eS w B p) (hl : t.length ≤ 1073741824) (hp : p.length ≤ 1073741824) (h0 : 0 < p.length) (h1 : longB p = false) (hR : T.RightT t) :
    Calls Try.prog 53 #[.slice A t.length c, .slice B p.length d] w (IntS w (if 16 < p.length then 6 else 0)) := by
  have b0 : ((p.length : Int) == 0) = false := beq_eq_false_iff_ne.2 (by omega)
  have b1 : (p.length == 0) = false := beq_eq_false_iff_ne.2 (by omega)
  have hcon := containsLong_any B d p w hB hp
  rw [h1] at hcon
  have hright := right_is A c t true w hA hl (yes_iff hR)
  by_cases h16 : 16 < p.length
  · rw [if_pos h16]
    have b2 : decide ((16 : Int) < (p.length : Int)) = true := decide_eq_true (by omega)
    have b3 : decide (16 < p.length) = true := decide_eq_true h16
    clear h0 h1 hA hB hR h16
    go_enter Try.func53, Try.ntmps53
    go_wp2_with (first | (refine hcon.mono ?_; rintro e w' ⟨rfl, rfl⟩) | (refine hright.mono ?_; rintro e w1 ⟨rfl, hb1⟩))
    go_ret
    exact ⟨rfl, hb1⟩
  · rw [if_neg h16]
    have b2 : decide ((16 : Int) < (p.length : Int)) = false := decide_eq_false (by omega)
    have b3 : decide (16 < p.length) = false := decide_eq_false h16
    clear h0 h1 hA hB hR h16
    go_enter Try.func53, Try.ntmps53
    go_wp2_with (first | (refine hcon.mono ?_; rintro e w' ⟨rfl, rfl⟩) | (refine hright.mono ?_; rintro e w1 ⟨rfl, hb1⟩))
    go_ret
    exact ⟨rfl, hb1⟩
end Go.Proofs.Ytkifapbiimlafaa

namespace Go.Proofs.Ytkifapbiimlafaa
open Go.ChangeShapes Go.WideShapes Go.ChangeAt Go.RowKit
theorem slice_ok {P : Program} {w : World} {r : Reach} {base : Nat} {t e : TypeId} {A : Option Addr} {n c : Nat} (ht : P.underlying t = some (.slice e)) (h : Value.okWide P w r base t (.slice A n c)) : (A = none → n = 0 ∧ c = 0) ∧ n ≤ c := by
  simp only [Value.okWide, ht, Cell.okWide] at h
  cases A with
  | some a => simp only [Cell.ok, ht] at h; exact ⟨(fun e => by cases e), h.1⟩
  | none =>
    cases n with
    | zero =>
      cases c with
      | zero => exact ⟨fun _ => ⟨rfl, rfl⟩, Nat.le_refl _⟩
      | succ c => simp [Cell.ok, ht] at h
    | succ n => simp [Cell.ok, ht] at h
end Go.Proofs.Ytkifapbiimlafaa

namespace Go.Proofs.Ytkifapbiimlafaa
open Go.RowKit

theorem findN_any (A B : Option Addr) (c cd n : Nat) (t : List T.Ln) (q : T.Pth) (w : World) (hn : q.length = n) (hA : Seen eL w A t) (hB : Seen eS w B q) (hl : t.length ≤ 1073741824) (hp : n ≤ 1073741824) (hR : T.RightT t) :
    Calls Try.prog 26 #[.slice A t.length c, .slice B n cd] w (FindS w t q) := by
  subst hn; exact find_any A B c cd t q w hA hB hl hp hR

def KnownS (w : World) (t : List T.Ln) (p : T.Pth) (e : Ending) (w' : World) : Prop := ∃ n : Nat, T.knownN t p p.length = n ∧ e = .returned (.tuple #[.int .i64 (T.findI t (p.take n)), .int .i64 (n : Int)]) ∧ Below w.heap.size w w'
set_option maxRecDepth 100000 in
set_option maxHeartbeats 1000000 in
theorem known_any (A B : Option Addr) (c d : Nat) (t : List T.Ln) (p : T.Pth) (w : World) (hA : Seen eL w A t) (hB : Seen eS w B p) (hl : t.length ≤ 1073741824) (hp : p.length ≤ 1073741824) (hd : p.length ≤ d) (hR : T.RightT t) :
    Calls Try.prog 55 #[.slice A t.length c, .slice B p.length d] w (KnownS w t p) := by
  have HA := Lib.hid hA
  have HB := Lib.hid hB
  have HR := Lib.hid hR
  clear hA hB hR
  go_enter Try.func55, Try.ntmps55
  go_wp2
  go_loopg [6] p.length (fun g x wr => ∃ n : Nat, Hid (n = g) ∧ n ≤ p.length ∧ x = .int .i64 n ∧ Hid (T.knownN t p p.length = T.knownN t p n) ∧ Below w.heap.size w wr)
  case atStart => exact ⟨p.length, rfl, Nat.le_refl _, rfl, rfl, Below.refl _ _⟩
  case round =>
    obtain ⟨n, HG, hn, rfl, HK, hb⟩ := hrel
    by_cases h0 : n = 0
    · subst h0
      have HN := Lib.hid (show T.findI t (p.take 0) = -1 from T.findI_nil t)
      go_wp2
      go_ret2
      exact ⟨0, HK.out, by rw [HN.out]; rfl, hb⟩
    · obtain ⟨b, o, rfl, hbw, hL⟩ := HB.out (by omega)
      have HJ := Lib.hid (show ∃ j, n = j + 1 from ⟨n - 1, by omega⟩)
      have b0 : decide ((0 : Int) < (n : Int)) = true := decide_eq_true (by omega)
      have b1 : decide (0 < n) = true := decide_eq_true (by omega)
      have hni : (n : Int) ≤ (d : Int) := by omega
      have HQ := Lib.hid (show (p.take n).length = n by rw [List.length_take]; omega)
      have HS := Lib.hid (((hL.take n).seen hbw).below hb)
      clear hL
      go_wp2_with fail
      refine (findN_any A _ c d n t (p.take n) _ HQ.out (HA.out.below hb) HS.out hl (by omega) HR.out).mono ?_
      rintro e w1 ⟨hcase, hx⟩
      replace hb := bthen hb hx
      clear hx
      rcases hcase with ⟨i, hi, hpi, rfl⟩ | ⟨hno, rfl⟩
      · have HF := Lib.hid (T.findI_some HR.out hi hpi)
        have HN := Lib.hid (show T.knownN t p n = n by
          obtain ⟨j, hj⟩ := HJ.out
          have hf := HF.out
          rw [hj] at hf ⊢
          unfold T.knownN
          rw [if_neg (by omega)])
        clear hpi
        go_wp2
        go_ret2
        exact ⟨n, HK.out.trans HN.out, by rw [HF.out]; rfl, hb⟩
      · have HF := Lib.hid (T.findI_none hno)
        clear hno
        go_wp2
        have hgk := HG.out
        go_roundg (n - 1)
        case rel =>
          obtain ⟨j, hj⟩ := HJ.out
          refine ⟨j, (by show _ = _; omega), by omega, by go_num, ?_, hb⟩
          have hf := HF.out
          have hk := HK.out
          rw [hj] at hf hk
          show _ = _
          rw [hk]
          conv => lhs; unfold T.knownN
          rw [if_pos (by omega)]
        case measure => omega

set_option maxRecDepth 100000 in
set_option maxHeartbeats 1000000 in
theorem behind_any (A : Option Addr) (c : Nat) (t : List T.Ln) (up : Int) (wd : List UInt8) (w : World) (hA : Seen eL w A t) (hl : t.length ≤ 1073741824) (hu : -1 ≤ up) (hul : up < t.length) (hR : T.RightT t) :
    Calls Try.prog 56 #[.slice A t.length c, .int .i64 up, .string (sB wd)] w (IntS w (T.placeTo t wd (up + 1).toNat (T.kidsL t up) : Nat)) := by
  obtain ⟨K, hK⟩ : ∃ K, T.kidsL t up = K := ⟨_, rfl⟩
  obtain ⟨z, hz⟩ := Int.eq_ofNat_of_zero_le (show 0 ≤ up + 1 by omega)
  have hz2 : (up + 1).toNat = z := by omega
  have hkids := kids_is A c t up K w hA hl hu hul hR hK
  have hkl : K.length ≤ 1073741824 := by rw [← hK]; have := T.filter_len t.length (fun m => T.underL t m == up); exact Nat.le_trans this hl
  have HKM := Lib.hid (show ∀ k ∈ K, k < t.length from fun k hk => by rw [← hK] at hk; exact ((T.mem_kids t _ k).1 hk).1)
  have HZ := Lib.hid hz
  have HA := Lib.hid hA
  have HR := Lib.hid hR
  rw [hK, hz2]
  clear hA hR hK hz2
  go_enter Try.func56, Try.ntmps56
  go_wp2_with fail
  refine hkids.mono ?_
  rintro e wk ⟨Ak, ck, rfl, _, hsK, hbk⟩
  have HKS := Lib.hid hsK
  clear hsK hkids
  go_wp2
  go_loopg [7, 16] K.length (fun gk va vi wr => ∃ k P : Nat, Hid (k + gk = K.length) ∧ k ≤ K.length ∧ va = .int .i64 (P : Int) ∧ Hid (T.placeTo t wd z (K.take k) = P) ∧ vi = .int .i64 k ∧ Below w.heap.size w wr ∧ Below wk.heap.size wk wr)
  case atStart => exact ⟨0, z, Nat.zero_add _, Nat.zero_le _, by go_num, rfl, rfl, hbk, Below.refl _ _⟩
  case round =>
    obtain ⟨k, P, HG, hk, rfl, HP, rfl, hb, hbk2⟩ := hrel
    by_cases hlt : k < K.length
    · have blt : decide ((k : Int) < (K.length : Int)) = true := decide_eq_true (by omega)
      obtain ⟨bk, ok, rfl, hbk1, hHK⟩ := HKS.out (by omega)
      have k0 := (hHK.below hbk2 hbk1).num hlt
      have hkt := HKM.out K[k] (List.getElem_mem hlt)
      obtain ⟨j, hj⟩ : ∃ j, K[k] = j := ⟨_, rfl⟩
      have HN := Lib.hid (T.place_next t wd z K k hlt)
      rw [hj] at k0 hkt
      have HJ := Lib.hid hj
      clear hHK hj
      have hkti : (j : Int) < (t.length : Int) := by omega
      obtain ⟨b, o, rfl, hbw, hL⟩ := HA.out.lines (by omega)
      obtain ⟨_, c1, _⟩ := (hL.below hb hbw).line hkt
      clear hL
      cases hw : Op.bytesLess (T.wd t j) wd with
      | true =>
        have l1 : Op.bytesLess (sB (T.wd t j)).toList (sB wd).toList = true := by rw [sB_toList, sB_toList]; exact hw
        have HE := Lib.hid (show T.placeTo t wd z (K.take (k + 1)) = T.endL t j by rw [HN.out, HJ.out, if_pos hw])
        clear hw
        go_wp2_with fail
        refine (End_is _ c t j _ _ (HA.out.below hb) hl hkt HR.out rfl).mono ?_
        rintro e w2 ⟨rfl, hx⟩
        have hbn := bthen hb hx
        have hbkn := bthen hbk2 hx
        go_wp2
        have hgk := HG.out
        go_roundg (K.length - (k + 1))
        case rel => exact ⟨k + 1, _, (by show _ = _; omega), by omega, rfl, HE, by go_num, hbn, hbkn⟩
        case measure => omega
      | false =>
        have l1 : Op.bytesLess (sB (T.wd t j)).toList (sB wd).toList = false := by rw [sB_toList, sB_toList]; exact hw
        have HE := Lib.hid (show T.placeTo t wd z (K.take (k + 1)) = P by rw [HN.out, HJ.out, if_neg (by rw [hw]; decide)]; exact HP.out)
        clear hw
        go_wp2
        have hgk := HG.out
        go_roundg (K.length - (k + 1))
        case rel => exact ⟨k + 1, P, (by show _ = _; omega), by omega, rfl, HE, by go_num, hb, hbk2⟩
        case measure => omega
    · obtain rfl : k = K.length := by omega
      have HE := Lib.hid (show T.placeTo t wd z K = P by have := HP.out; rwa [List.take_length] at this)
      go_wp2
      go_ret
      exact ⟨by rw [HE.out]; rfl, hb⟩
end Go.Proofs.Ytkifapbiimlafaa

namespace Go.Proofs.Ytkifapbiimlafaa
open Go.RowKit
set_option linter.unusedVariables false

/-- What Add leaves. -/
def AddS (w : World) (u : List T.Ln) (er : Int) (e : Ending) (w' : World) : Prop := ∃ v, e = .returned (.tuple #[v, .int .i64 er]) ∧ Own eL w' w.heap.size v u ∧ Below w.heap.size w w'
set_option maxRecDepth 100000 in
theorem addErr_any (A B : Option Addr) (c n m d : Nat) (t : List T.Ln) (er : Int) (w : World) (hn : t.length = n) (hA : Seen eL w A t) (hl : n ≤ 1073741824) (hc : NilOk A c) (h0 : er ≠ 0)
    (hw : Calls Try.prog 53 #[.slice A n c, .slice B m d] w (IntS w er)) :
    Calls Try.prog 39 #[.slice A n c, .slice B m d] w (AddS w t er) := by
  have b0 : (er != 0) = true := bne_iff_ne.2 h0
  have HA := Lib.hid hA
  clear hA h0
  go_enter Try.func39, Try.ntmps39
  go_wp2_with fail
  refine hw.mono ?_
  rintro e w1 ⟨rfl, hb1⟩
  clear hw
  go_wp2_with fail
  refine (cloneLn_any A c n t _ hn hl (HA.out.below hb1) hc).mono ?_
  rintro e w2 ⟨v, rfl, hown, hb2⟩
  go_wp2
  go_ret2
  exact ⟨v, rfl, hown.base hb1.size, bthen hb1 hb2⟩
theorem nil_lines {w : World} {t : List T.Ln} (h : Seen eL w none t) : t = [] := by
  cases t with
  | nil => rfl
  | cons x t => obtain ⟨b, o, e, _⟩ := h (by simp); cases e

section
variable (b o d : Nat) (t : List T.Ln) (p : T.Pth) (w : World)
set_option maxRecDepth 100000 in
set_option maxHeartbeats 2000000 in
/-- All of the path is there. -/
theorem add_all1 (A : Option Addr) (c n : Nat) (hA : Seen eL w A t) (hc : NilOk A c) (hb : b < w.heap.size) (hB : Holds eS w b o p) (hp0 : 0 < p.length) (hp : p.length ≤ 16) (hde : n < d) (hw : longB p = false) (hR : T.RightT t) (hk : T.knownN t p p.length = n) (hnp : p.length = n) :
    Calls Try.prog 39 #[.slice A t.length c, .slice (some ⟨b, o, none⟩) p.length d] w (AddS w t 0) := by
  have hl : t.length ≤ 200 := hR.len
  have hd : p.length ≤ d := by omega
  have hS := Holds.seen hB hb
  have hwr := wrong_0 A (some ⟨b, o, none⟩) c d t p w hA hS (by omega) (by omega) hp0 hw hR
  rw [if_neg (by omega)] at hwr
  have HA := Lib.hid hA
  have HS := Lib.hid hS
  have HR := Lib.hid hR
  have HK := Lib.hid hk
  have hni : (n : Int) ≤ (d : Int) := by omega
  have hni2 : (n : Int) ≤ (p.length : Int) := by omega
  obtain ⟨m, hm⟩ : ∃ m, p.length - n = m := ⟨_, rfl⟩
  have hm0 : m = 0 := by omega
  have b2 : decide ((200 : Int) < (t.length : Int) + (m : Int)) = false := decide_eq_false (by omega)
  have b3 : decide (200 < t.length + m) = false := decide_eq_false (by omega)
  have b4 : ((m : Int) == 0) = true := beq_iff_eq.2 (by omega)
  have b5 : (m == 0) = true := beq_iff_eq.2 (by omega)
  have hlong : t.length + m ≤ 200 := by omega
  have HM := Lib.hid hm
  clear hA hS hR hB hw hk hnp hm0 hm
  go_enter Try.func39, Try.ntmps39
  go_wp2_with fail
  refine hwr.mono ?_
  rintro e w1 ⟨rfl, hb1⟩
  go_wp2_with fail
  refine (known_any A _ c d t p _ (HA.out.below hb1) (HS.out.below hb1) (by omega) (by omega) hd HR.out).mono ?_
  rintro e w2 ⟨n2, hn, rfl, hb2⟩
  obtain rfl : n = n2 := HK.out.symm.trans hn
  replace hb1 := bthen hb1 hb2
  clear hb2 hn hwr
  have hm := HM.out
  go_wp2_with fail
  refine (cloneLn_any A c t.length t _ rfl (by omega) (HA.out.below hb1) hc).mono ?_
  rintro e w2 ⟨v, rfl, hown, hb2⟩
  go_wp2
  go_ret2
  exact ⟨v, rfl, hown.base hb1.size, bthen hb1 hb2⟩
set_option maxRecDepth 100000 in
set_option maxHeartbeats 2000000 in
/-- All of the path is there. -/
theorem add_all2 (A : Option Addr) (c n : Nat) (hA : Seen eL w A t) (hc : NilOk A c) (hb : b < w.heap.size) (hB : Holds eS w b o p) (hp0 : 0 < p.length) (hp : p.length ≤ 16) (hde : d = n) (hw : longB p = false) (hR : T.RightT t) (hk : T.knownN t p p.length = n) (hnp : p.length = n) :
    Calls Try.prog 39 #[.slice A t.length c, .slice (some ⟨b, o, none⟩) p.length d] w (AddS w t 0) := by
  have hl : t.length ≤ 200 := hR.len
  have hd : p.length ≤ d := by omega
  have hS := Holds.seen hB hb
  have hwr := wrong_0 A (some ⟨b, o, none⟩) c d t p w hA hS (by omega) (by omega) hp0 hw hR
  rw [if_neg (by omega)] at hwr
  have HA := Lib.hid hA
  have HS := Lib.hid hS
  have HR := Lib.hid hR
  have HK := Lib.hid hk
  have hni : (n : Int) ≤ (d : Int) := by omega
  have hni2 : (n : Int) ≤ (p.length : Int) := by omega
  obtain ⟨m, hm⟩ : ∃ m, p.length - n = m := ⟨_, rfl⟩
  have hm0 : m = 0 := by omega
  have b2 : decide ((200 : Int) < (t.length : Int) + (m : Int)) = false := decide_eq_false (by omega)
  have b3 : decide (200 < t.length + m) = false := decide_eq_false (by omega)
  have b4 : ((m : Int) == 0) = true := beq_iff_eq.2 (by omega)
  have b5 : (m == 0) = true := beq_iff_eq.2 (by omega)
  have hlong : t.length + m ≤ 200 := by omega
  have HM := Lib.hid hm
  clear hA hS hR hB hw hk hnp hm0 hm
  subst hde
  go_enter Try.func39, Try.ntmps39
  go_wp2_with fail
  refine hwr.mono ?_
  rintro e w1 ⟨rfl, hb1⟩
  go_wp2_with fail
  refine (known_any A _ c d t p _ (HA.out.below hb1) (HS.out.below hb1) (by omega) (by omega) hd HR.out).mono ?_
  rintro e w2 ⟨n2, hn, rfl, hb2⟩
  obtain rfl : d = n2 := HK.out.symm.trans hn
  replace hb1 := bthen hb1 hb2
  clear hb2 hn hwr
  have hm := HM.out
  go_wp2_with fail
  refine (cloneLn_any A c t.length t _ rfl (by omega) (HA.out.below hb1) hc).mono ?_
  rintro e w2 ⟨v, rfl, hown, hb2⟩
  go_wp2
  go_ret2
  exact ⟨v, rfl, hown.base hb1.size, bthen hb1 hb2⟩
set_option maxRecDepth 100000 in
set_option maxHeartbeats 2000000 in
/-- There would be too many lines. -/
theorem add_long (A : Option Addr) (c n : Nat) (hA : Seen eL w A t) (hc : NilOk A c) (hb : b < w.heap.size) (hB : Holds eS w b o p) (hp0 : 0 < p.length) (hp : p.length ≤ 16) (hd : p.length ≤ d) (hw : longB p = false) (hR : T.RightT t) (hk : T.knownN t p p.length = n) (hlt : n < p.length) (hlong : 200 < t.length + (p.length - n)) :
    Calls Try.prog 39 #[.slice A t.length c, .slice (some ⟨b, o, none⟩) p.length d] w (AddS w t 5) := by
  have hl : t.length ≤ 200 := hR.len
  have hS := Holds.seen hB hb
  have hwr := wrong_0 A (some ⟨b, o, none⟩) c d t p w hA hS (by omega) (by omega) hp0 hw hR
  rw [if_neg (by omega)] at hwr
  have HA := Lib.hid hA
  have HS := Lib.hid hS
  have HR := Lib.hid hR
  have HK := Lib.hid hk
  clear hA hS hR hB hw hk
  have hni : (n : Int) ≤ (d : Int) := by omega
  have hni2 : (n : Int) ≤ (p.length : Int) := by omega
  have hnd : n < d := by omega
  have hf : ((p.length - n : Nat) : Int) = (p.length : Int) - (n : Int) := by omega
  obtain ⟨m, hm⟩ : ∃ m, p.length - n = m := ⟨_, rfl⟩
  have hmi : (p.length : Int) - (n : Int) = (m : Int) := by omega
  have b2 : decide ((200 : Int) < (t.length : Int) + (m : Int)) = true := decide_eq_true (by omega)
  have b3 : decide (200 < t.length + m) = true := decide_eq_true (by omega)
  rw [hm] at hlong hf
  have HM := Lib.hid hm
  have HMI := Lib.hid hmi
  clear hm hmi hf
  go_enter Try.func39, Try.ntmps39
  go_wp2_with fail
  refine hwr.mono ?_
  rintro e w1 ⟨rfl, hb1⟩
  go_wp2_with fail
  refine (known_any A _ c d t p _ (HA.out.below hb1) (HS.out.below hb1) (by omega) (by omega) hd HR.out).mono ?_
  rintro e w2 ⟨n2, hn, rfl, hb2⟩
  obtain rfl : n = n2 := HK.out.symm.trans hn
  replace hb1 := bthen hb1 hb2
  clear hb2 hn hwr
  have hm := HM.out
  go_wp2_with fail
  refine (cloneLn_any A c t.length t _ rfl (by omega) (HA.out.below hb1) hc).mono ?_
  rintro e w2 ⟨v, rfl, hown, hb2⟩
  go_wp2
  go_ret2
  exact ⟨v, rfl, hown.base hb1.size, bthen hb1 hb2⟩
set_option maxRecDepth 100000 in
set_option maxHeartbeats 2000000 in
/-- Lines are new, and the tree has some. -/
theorem add_new1 (bt ot c n P : Nat) (hbt : bt < w.heap.size) (hA : Holds eL w bt ot t) (ht : 0 < t.length) (htc : t.length ≤ c) (hbB : b < w.heap.size) (hB : Holds eS w b o p) (hp : p.length ≤ 16) (hd : p.length ≤ d) (hw : longB p = false) (hR : T.RightT t) (hk : T.knownN t p p.length = n) (hlt : n < p.length)
    (hP : T.placeTo t (p.getD n []) (T.findI t (p.take n) + 1).toNat (T.kidsL t (T.findI t (p.take n))) = P) (hPl : P ≤ t.length) (hsplit : t.take P ++ T.freshL p n (p.length - n) ++ t.drop P = T.addL t p) (hlong : t.length + (p.length - n) ≤ 200) (hPc : P < c) :
    Calls Try.prog 39 #[.slice (some ⟨bt, ot, none⟩) t.length c, .slice (some ⟨b, o, none⟩) p.length d] w (AddS w (T.addL t p) 0) := by
  have hl : t.length ≤ 200 := hR.len
  have hS := Holds.seen hB hbB
  have hAS := Holds.seen hA hbt
  have hwr := wrong_0 (some ⟨bt, ot, none⟩) (some ⟨b, o, none⟩) c d t p w hAS hS (by omega) (by omega) (by omega) hw hR
  rw [if_neg (by omega)] at hwr
  have hu := ((T.known_open t p p.length).up hR).1
  rw [hk] at hu
  obtain ⟨up, hup⟩ : ∃ u, T.findI t (p.take n) = u := ⟨_, rfl⟩
  rw [hup] at hu hP
  have HUP := Lib.hid hup
  have HAS := Lib.hid hAS
  have HA := Lib.hid hA
  have HS := Lib.hid hS
  have HB := Lib.hid hB
  have HR := Lib.hid hR
  have HK := Lib.hid hk
  have HSP := Lib.hid hsplit
  have hni : (n : Int) ≤ (d : Int) := by omega
  have hni2 : (n : Int) ≤ (p.length : Int) := by omega
  have hnd : n < d := by omega
  obtain ⟨m, hm⟩ : ∃ m, p.length - n = m := ⟨_, rfl⟩
  have hm0 : 0 < m := by omega
  have hmp : n + m ≤ 16 := by omega
  have b2 : decide ((200 : Int) < (t.length : Int) + (m : Int)) = false := decide_eq_false (by omega)
  have b3 : decide (200 < t.length + m) = false := decide_eq_false (by omega)
  have b4 : ((m : Int) == 0) = false := beq_eq_false_iff_ne.2 (by omega)
  have b5 : (m == 0) = false := beq_eq_false_iff_ne.2 (by omega)
  have hPi : (P : Int) ≤ (c : Int) := by omega
  have hPi2 : (P : Int) ≤ (t.length : Int) := by omega
  have HTK := Lib.hid (show (t.take P).length = P by rw [List.length_take]; omega)
  have HDR := Lib.hid (show (t.drop P).length = t.length - P by rw [List.length_drop])
  obtain ⟨x0, hx0⟩ : ∃ x, p.getD n [] = x := ⟨_, rfl⟩
  have hc0 := hB.str hlt
  have hx1 : p[n] = x0 := by rw [← hx0]; unfold List.getD; rw [List.getElem?_eq_getElem hlt]; rfl
  rw [hx1] at hc0
  rw [hx0] at hP
  have HP := Lib.hid hP
  have HL := Lib.hid hlt
  rw [hm] at hlong
  have HM := Lib.hid hm
  have hwsz : w.heap.size ≤ w.heap.size := Nat.le_refl _
  clear hA hAS hS hR hB hw hk hm hP hx0 hx1 hup hsplit hlt
  go_enter Try.func39, Try.ntmps39
  go_wp2_with fail
  refine hwr.mono ?_
  rintro e w1 ⟨rfl, hb1⟩
  go_wp2_with fail
  refine (known_any _ _ _ d t p _ (HAS.out.below hb1) (HS.out.below hb1) (by omega) (by omega) hd HR.out).mono ?_
  rintro e w2 ⟨n2, hn, rfl, hb2⟩
  obtain rfl : n = n2 := HK.out.symm.trans hn
  rw [HUP.out]
  replace hb1 := bthen hb1 hb2
  clear hb2 hn hwr
  have hm := HM.out
  replace hc0 := (hb1.cell (p := ⟨b, o + n, none⟩) hbB).trans hc0
  go_wp2_with fail
  refine (behind_any _ _ t up x0 _ (HAS.out.below hb1) (by omega) hu.1 hu.2 HR.out).mono ?_
  rintro e w3 ⟨rfl, hb2⟩
  rw [HP.out]
  replace hb1 := bthen hb1 hb2
  clear hb2 hc0
  go_wp2_with fail
  refine (cloneLn_some ⟨bt, ot, none⟩ _ P (t.take P) _ HTK.out (by omega) (((HA.out.take P).seen hbt).below hb1)).mono ?_
  rintro e w4 ⟨v2, rfl, hown2, hb2⟩
  have HO := Lib.hid (hown2.base hb1.size)
  replace hb1 := bthen hb1 hb2
  clear hb2 hown2
  go_wp2
  go_loopg [11, 56] m (fun g vo vi wr => ∃ k : Nat, Hid (k + g = m) ∧ k ≤ m ∧ Own eL wr w.heap.size vo (t.take P ++ T.freshL p n k) ∧ vi = .int .i64 k ∧ Below w.heap.size w wr)
  case atStart => exact ⟨0, Nat.zero_add _, Nat.zero_le _, (List.append_nil (t.take P)).symm ▸ HO.out, rfl, hb1⟩
  case round =>
    obtain ⟨k, HG, hk, hown, rfl, hb⟩ := hrel
    have HW := Lib.hid hown
    have hsz := hb.size
    clear hown
    have HLN := Lib.hid (show (t.take P ++ T.freshL p n k).length = P + k by rw [List.length_append, HTK.out, T.freshL_len])
    by_cases hkm : k < m
    · have bkm : decide ((k : Int) < (m : Int)) = true := decide_eq_true (by omega)
      have hnk : n + k < p.length := by omega
      have c1 := (HB.out.belowN hb hbB).str hnk
      obtain ⟨x, hx⟩ : ∃ x, p[n + k] = x := ⟨_, rfl⟩
      rw [hx, ← Nat.add_assoc] at c1
      have HN := Lib.hid (show t.take P ++ T.freshL p n k ++ [⟨(n : Int) + (k : Int), x, 0⟩] = t.take P ++ T.freshL p n (k + 1) by
        rw [T.freshL_next, List.append_assoc]
        congr 2
        rw [← hx]
        unfold List.getD
        rw [List.getElem?_eq_getElem hnk]; rfl)
      clear hx
      have hown := HW.out
      go_wp2_with (at_builtin; refine wpList_appG eL _ rfl (.tmp 61) (.tmp 67) rfl w.heap.size _ (t.take P ++ T.freshL p n k) rfl hown ⟨(n : Int) + (k : Int), x, 0⟩ 1 _ rfl wr.heap.size rfl rfl (by rw [HLN.out]; omega) hsz ?_; intro v3 w3 hown3 hb3)
      have hgk := HG.out
      go_roundg (m - (k + 1))
      case rel => exact ⟨k + 1, (by show _ = _; omega), by omega, HN.out ▸ hown3, by go_num, hb.trans hb3⟩
      case measure => omega
    · obtain rfl : k = m := by omega
      have bkm : decide ((k : Int) < (k : Int)) = false := decide_eq_false (by omega)
      have hown := HW.out
      have hHt := HA.out.belowN hb hbt
      go_wp2_with (at_builtin; refine wpList_appSrc eL wr rfl (.tmp 70) (.tmp 73) rfl w.heap.size _ _ rfl hown bt (ot + P * 3) (t.drop P) (t.length - P) (c - P) HDR.out rfl (hHt.drop P) (by rw [HLN.out]; omega) hsz ?_; intro v5 w5 hown5 hx5)
      go_ret2
      refine ⟨v5, rfl, ?_, hb.trans hx5⟩
      have hsp := HSP.out
      rw [hm] at hsp
      rw [hsp] at hown5
      exact hown5
end
end Go.Proofs.Ytkifapbiimlafaa

namespace Go.Proofs.Ytkifapbiimlafaa
open Go.RowKit
set_option linter.unusedVariables false

section
variable (b o d : Nat) (t : List T.Ln) (p : T.Pth) (w : World)
set_option maxRecDepth 100000 in
set_option maxHeartbeats 2000000 in
/-- Lines are new, and the tree has some. -/
theorem add_new2 (bt ot n : Nat) (hbt : bt < w.heap.size) (hA : Holds eL w bt ot t) (ht : 0 < t.length) (hbB : b < w.heap.size) (hB : Holds eS w b o p) (hp : p.length ≤ 16) (hd : p.length ≤ d) (hw : longB p = false) (hR : T.RightT t) (hk : T.knownN t p p.length = n) (hlt : n < p.length)
    (hP : T.placeTo t (p.getD n []) (T.findI t (p.take n) + 1).toNat (T.kidsL t (T.findI t (p.take n))) = t.length) (hsplit : t.take t.length ++ T.freshL p n (p.length - n) ++ t.drop t.length = T.addL t p) (hlong : t.length + (p.length - n) ≤ 200) :
    Calls Try.prog 39 #[.slice (some ⟨bt, ot, none⟩) t.length t.length, .slice (some ⟨b, o, none⟩) p.length d] w (AddS w (T.addL t p) 0) := by
  have hl : t.length ≤ 200 := hR.len
  have hS := Holds.seen hB hbB
  have hAS := Holds.seen hA hbt
  have hwr := wrong_0 (some ⟨bt, ot, none⟩) (some ⟨b, o, none⟩) t.length d t p w hAS hS (by omega) (by omega) (by omega) hw hR
  rw [if_neg (by omega)] at hwr
  have hu := ((T.known_open t p p.length).up hR).1
  rw [hk] at hu
  obtain ⟨up, hup⟩ : ∃ u, T.findI t (p.take n) = u := ⟨_, rfl⟩
  rw [hup] at hu hP
  have HUP := Lib.hid hup
  have HAS := Lib.hid hAS
  have HA := Lib.hid hA
  have HS := Lib.hid hS
  have HB := Lib.hid hB
  have HR := Lib.hid hR
  have HK := Lib.hid hk
  have HSP := Lib.hid hsplit
  have hni : (n : Int) ≤ (d : Int) := by omega
  have hni2 : (n : Int) ≤ (p.length : Int) := by omega
  have hnd : n < d := by omega
  obtain ⟨m, hm⟩ : ∃ m, p.length - n = m := ⟨_, rfl⟩
  have hm0 : 0 < m := by omega
  have hmp : n + m ≤ 16 := by omega
  have b2 : decide ((200 : Int) < (t.length : Int) + (m : Int)) = false := decide_eq_false (by omega)
  have b3 : decide (200 < t.length + m) = false := decide_eq_false (by omega)
  have b4 : ((m : Int) == 0) = false := beq_eq_false_iff_ne.2 (by omega)
  have b5 : (m == 0) = false := beq_eq_false_iff_ne.2 (by omega)
  have hPi : (t.length : Int) ≤ (t.length : Int) := by omega
  have hPi2 : (t.length : Int) ≤ (t.length : Int) := by omega
  have HTK := Lib.hid (show (t.take t.length).length = t.length by rw [List.length_take]; omega)
  have HDR := Lib.hid (show (t.drop t.length).length = t.length - t.length by rw [List.length_drop])
  obtain ⟨x0, hx0⟩ : ∃ x, p.getD n [] = x := ⟨_, rfl⟩
  have hc0 := hB.str hlt
  have hx1 : p[n] = x0 := by rw [← hx0]; unfold List.getD; rw [List.getElem?_eq_getElem hlt]; rfl
  rw [hx1] at hc0
  rw [hx0] at hP
  have HP := Lib.hid hP
  have HL := Lib.hid hlt
  rw [hm] at hlong
  have HM := Lib.hid hm
  have hwsz : w.heap.size ≤ w.heap.size := Nat.le_refl _
  clear hA hAS hS hR hB hw hk hm hP hx0 hx1 hup hsplit hlt
  go_enter Try.func39, Try.ntmps39
  go_wp2_with fail
  refine hwr.mono ?_
  rintro e w1 ⟨rfl, hb1⟩
  go_wp2_with fail
  refine (known_any _ _ _ d t p _ (HAS.out.below hb1) (HS.out.below hb1) (by omega) (by omega) hd HR.out).mono ?_
  rintro e w2 ⟨n2, hn, rfl, hb2⟩
  obtain rfl : n = n2 := HK.out.symm.trans hn
  rw [HUP.out]
  replace hb1 := bthen hb1 hb2
  clear hb2 hn hwr
  have hm := HM.out
  replace hc0 := (hb1.cell (p := ⟨b, o + n, none⟩) hbB).trans hc0
  go_wp2_with fail
  refine (behind_any _ _ t up x0 _ (HAS.out.below hb1) (by omega) hu.1 hu.2 HR.out).mono ?_
  rintro e w3 ⟨rfl, hb2⟩
  rw [HP.out]
  replace hb1 := bthen hb1 hb2
  clear hb2 hc0
  go_wp2_with fail
  refine (cloneLn_some ⟨bt, ot, none⟩ _ t.length (t.take t.length) _ HTK.out (by omega) (((HA.out.take t.length).seen hbt).below hb1)).mono ?_
  rintro e w4 ⟨v2, rfl, hown2, hb2⟩
  have HO := Lib.hid (hown2.base hb1.size)
  replace hb1 := bthen hb1 hb2
  clear hb2 hown2
  go_wp2
  go_loopg [11, 56] m (fun g vo vi wr => ∃ k : Nat, Hid (k + g = m) ∧ k ≤ m ∧ Own eL wr w.heap.size vo (t.take t.length ++ T.freshL p n k) ∧ vi = .int .i64 k ∧ Below w.heap.size w wr)
  case atStart => exact ⟨0, Nat.zero_add _, Nat.zero_le _, (List.append_nil (t.take t.length)).symm ▸ HO.out, rfl, hb1⟩
  case round =>
    obtain ⟨k, HG, hk, hown, rfl, hb⟩ := hrel
    have HW := Lib.hid hown
    have hsz := hb.size
    clear hown
    have HLN := Lib.hid (show (t.take t.length ++ T.freshL p n k).length = t.length + k by rw [List.length_append, HTK.out, T.freshL_len])
    by_cases hkm : k < m
    · have bkm : decide ((k : Int) < (m : Int)) = true := decide_eq_true (by omega)
      have hnk : n + k < p.length := by omega
      have c1 := (HB.out.belowN hb hbB).str hnk
      obtain ⟨x, hx⟩ : ∃ x, p[n + k] = x := ⟨_, rfl⟩
      rw [hx, ← Nat.add_assoc] at c1
      have HN := Lib.hid (show t.take t.length ++ T.freshL p n k ++ [⟨(n : Int) + (k : Int), x, 0⟩] = t.take t.length ++ T.freshL p n (k + 1) by
        rw [T.freshL_next, List.append_assoc]
        congr 2
        rw [← hx]
        unfold List.getD
        rw [List.getElem?_eq_getElem hnk]; rfl)
      clear hx
      have hown := HW.out
      go_wp2_with (at_builtin; refine wpList_appG eL _ rfl (.tmp 61) (.tmp 67) rfl w.heap.size _ (t.take t.length ++ T.freshL p n k) rfl hown ⟨(n : Int) + (k : Int), x, 0⟩ 1 _ rfl wr.heap.size rfl rfl (by rw [HLN.out]; omega) hsz ?_; intro v3 w3 hown3 hb3)
      have hgk := HG.out
      go_roundg (m - (k + 1))
      case rel => exact ⟨k + 1, (by show _ = _; omega), by omega, HN.out ▸ hown3, by go_num, hb.trans hb3⟩
      case measure => omega
    · obtain rfl : k = m := by omega
      have bkm : decide ((k : Int) < (k : Int)) = false := decide_eq_false (by omega)
      have hown := HW.out
      have hHt := HA.out.belowN hb hbt
      go_wp2_with (at_builtin; refine wpList_appSeen eL wr rfl (.tmp 70) (.tmp 73) rfl w.heap.size _ _ rfl hown _ (t.drop t.length) 0 0 (by rw [List.length_drop]; omega) rfl (by rw [List.drop_of_length_le (by omega)]; exact Seen.nil) (by rw [HLN.out]; omega) hsz ?_; intro v5 w5 hown5 hx5)
      go_ret2
      refine ⟨v5, rfl, ?_, hb.trans hx5⟩
      have hsp := HSP.out
      rw [hm] at hsp
      rw [hsp] at hown5
      exact hown5
end
end Go.Proofs.Ytkifapbiimlafaa

namespace Go.Proofs.Ytkifapbiimlafaa
open Go.RowKit
set_option linter.unusedVariables false

section
variable (b o d : Nat) (p : T.Pth) (w : World)
set_option maxRecDepth 100000 in
set_option maxHeartbeats 2000000 in
/-- Lines are new, and the tree has none. -/
theorem add_emptyN  (hbB : b < w.heap.size) (hB : Holds eS w b o p) (hp0 : 0 < p.length) (hp : p.length ≤ 16) (hd : p.length ≤ d) (hw : longB p = false) (hsplit : T.freshL p 0 p.length = T.addL [] p) :
    Calls Try.prog 39 #[.slice none 0 0, .slice (some ⟨b, o, none⟩) p.length d] w (AddS w (T.addL [] p) 0) := by
  have hS := Holds.seen hB hbB
  have hwr : Calls Try.prog 53 #[.slice none 0 0, .slice (some ⟨b, o, none⟩) p.length d] w (IntS w _) := wrong_0 none (some ⟨b, o, none⟩) 0 d [] p w Seen.nil hS (by decide) (by omega) hp0 hw S.right_nil
  rw [if_neg (by omega)] at hwr
  have hkn : ∀ n, T.knownN [] p n = 0 := by
    intro n
    induction n with
    | zero => rfl
    | succ n ih => unfold T.knownN; rw [T.findI_none (fun i hi => by simp at hi), if_pos (by omega)]; exact ih
  have HKN := Lib.hid (hkn p.length)
  have HS := Lib.hid hS
  have HB := Lib.hid hB
  have HSP := Lib.hid hsplit
  have hfn : T.findI [] (p.take 0) = -1 := T.findI_none (fun i hi => by simp at hi)
  have HFN := Lib.hid hfn
  obtain ⟨m, hm⟩ : ∃ m, p.length = m := ⟨_, rfl⟩
  have hm0 : 0 < m := by omega
  have hmp : m ≤ 16 := by omega
  have hmd : m ≤ d := by omega
  have b2 : decide ((200 : Int) < (m : Int)) = false := decide_eq_false (by omega)
  have b3 : decide (200 < m) = false := decide_eq_false (by omega)
  have b4 : ((m : Int) == 0) = false := beq_eq_false_iff_ne.2 (by omega)
  have b5 : (m == 0) = false := beq_eq_false_iff_ne.2 (by omega)
  have hmi : (m : Int) ≤ (d : Int) := by omega
  have hdi : (0 : Int) < (d : Int) := by omega
  have hd0 : 0 < d := by omega
  obtain ⟨x0, hx0⟩ : ∃ x, p[0] = x := ⟨_, rfl⟩
  have hc0 : w.cell? ⟨b, o, none⟩ = _ := hB.str hp0
  rw [hx0] at hc0
  have HM := Lib.hid hm
  have hkno : ∀ w1, Below w.heap.size w w1 → Calls Try.prog 55 #[.slice none 0 0, .slice (some ⟨b, o, none⟩) m d] w1 (KnownS w1 [] p) := fun w1 hx => by
    have := known_any none (some ⟨b, o, none⟩) 0 d [] p w1 Seen.nil (HS.out.below hx) (by decide) (by omega) (by omega) S.right_nil
    rw [HM.out] at this
    exact this
  have hbe : ∀ w1, Calls Try.prog 56 #[.slice none 0 0, .int .i64 (-1), .string (sB x0)] w1 (IntS w1 0) := fun w1 => behind_any none 0 [] (-1) x0 w1 Seen.nil (by decide) (by decide) (by decide) S.right_nil
  rw [hm] at hwr ⊢
  clear hS hB hw hkn hx0 hsplit hfn hm hp hp0 hd
  go_enter Try.func39, Try.ntmps39
  go_wp2_with fail
  refine hwr.mono ?_
  rintro e w1 ⟨rfl, hb1⟩
  go_wp2_with fail
  refine (hkno _ hb1).mono ?_
  rintro e w2 ⟨n2, hn, rfl, hb2⟩
  obtain rfl : 0 = n2 := HKN.out.symm.trans hn
  rw [HFN.out]
  replace hb1 := bthen hb1 hb2
  clear hb2 hn hwr hkno
  replace hc0 := (hb1.cell (p := ⟨b, o, none⟩) hbB).trans hc0
  go_wp2_with fail
  refine (hbe _).mono ?_
  rintro e w3 ⟨rfl, hb2⟩
  replace hb1 := bthen hb1 hb2
  clear hb2 hc0 hbe
  go_wp2_with fail
  refine (cloneLn_nil _).mono ?_
  rintro e w4 ⟨v2, rfl, hown2, hb2⟩
  have HO := Lib.hid (hown2.base hb1.size)
  replace hb1 := bthen hb1 hb2
  clear hb2 hown2
  go_wp2
  go_loopg [11, 56] m (fun g vo vi wr => ∃ k : Nat, Hid (k + g = m) ∧ k ≤ m ∧ Own eL wr w.heap.size vo (T.freshL p 0 k) ∧ vi = .int .i64 k ∧ Below w.heap.size w wr)
  case atStart => exact ⟨0, Nat.zero_add _, Nat.zero_le _, HO.out, rfl, hb1⟩
  case round =>
    obtain ⟨k, HG, hk, hown, rfl, hb⟩ := hrel
    have HW := Lib.hid hown
    have hsz := hb.size
    clear hown
    have HLN := Lib.hid (show (T.freshL p 0 k).length = k by rw [T.freshL_len])
    by_cases hkm : k < m
    · have bkm : decide ((k : Int) < (m : Int)) = true := decide_eq_true (by omega)
      have hnk : k < p.length := by have := HM.out; omega
      have c1 := (HB.out.belowN hb hbB).str hnk
      obtain ⟨x, hx⟩ : ∃ x, p[k] = x := ⟨_, rfl⟩
      rw [hx] at c1
      have HN := Lib.hid (show T.freshL p 0 k ++ [⟨(k : Int), x, 0⟩] = T.freshL p 0 (k + 1) by
        rw [T.freshL_next]
        congr 1
        rw [← hx]
        unfold List.getD
        rw [Nat.zero_add, List.getElem?_eq_getElem hnk]; rfl)
      clear hx hnk
      have hown := HW.out
      go_wp2_with (at_builtin; refine wpList_appG eL _ rfl (.tmp 61) (.tmp 67) rfl w.heap.size _ (T.freshL p 0 k) rfl hown ⟨(k : Int), x, 0⟩ 1 _ rfl wr.heap.size rfl rfl (by rw [HLN.out]; omega) hsz ?_; intro v3 w3 hown3 hb3)
      have hgk := HG.out
      go_roundg (m - (k + 1))
      case rel => exact ⟨k + 1, (by show _ = _; omega), by omega, HN.out ▸ hown3, by go_num, hb.trans hb3⟩
      case measure => omega
    · obtain rfl : k = m := by omega
      have bkm : decide ((k : Int) < (k : Int)) = false := decide_eq_false (by omega)
      have hown := HW.out
      go_wp2_with (at_builtin; refine wpList_appNone eL wr rfl (.tmp 70) (.tmp 73) rfl w.heap.size _ _ rfl hown rfl ?_)
      go_ret2
      refine ⟨_, rfl, ?_, hb⟩
      have hsp := HSP.out
      rw [HM.out] at hsp
      rw [← hsp]
      exact hown
set_option maxRecDepth 100000 in
set_option maxHeartbeats 2000000 in
/-- Lines are new, and the tree has none. -/
theorem add_emptyZ (ad : Addr) (hbB : b < w.heap.size) (hB : Holds eS w b o p) (hp0 : 0 < p.length) (hp : p.length ≤ 16) (hd : p.length ≤ d) (hw : longB p = false) (hsplit : T.freshL p 0 p.length = T.addL [] p) :
    Calls Try.prog 39 #[.slice (some ad) 0 0, .slice (some ⟨b, o, none⟩) p.length d] w (AddS w (T.addL [] p) 0) := by
  have hS := Holds.seen hB hbB
  have hwr : Calls Try.prog 53 #[.slice (some ad) 0 0, .slice (some ⟨b, o, none⟩) p.length d] w (IntS w _) := wrong_0 (some ad) (some ⟨b, o, none⟩) 0 d [] p w Seen.nil hS (by decide) (by omega) hp0 hw S.right_nil
  rw [if_neg (by omega)] at hwr
  have hkn : ∀ n, T.knownN [] p n = 0 := by
    intro n
    induction n with
    | zero => rfl
    | succ n ih => unfold T.knownN; rw [T.findI_none (fun i hi => by simp at hi), if_pos (by omega)]; exact ih
  have HKN := Lib.hid (hkn p.length)
  have HS := Lib.hid hS
  have HB := Lib.hid hB
  have HSP := Lib.hid hsplit
  have hfn : T.findI [] (p.take 0) = -1 := T.findI_none (fun i hi => by simp at hi)
  have HFN := Lib.hid hfn
  obtain ⟨m, hm⟩ : ∃ m, p.length = m := ⟨_, rfl⟩
  have hm0 : 0 < m := by omega
  have hmp : m ≤ 16 := by omega
  have hmd : m ≤ d := by omega
  have b2 : decide ((200 : Int) < (m : Int)) = false := decide_eq_false (by omega)
  have b3 : decide (200 < m) = false := decide_eq_false (by omega)
  have b4 : ((m : Int) == 0) = false := beq_eq_false_iff_ne.2 (by omega)
  have b5 : (m == 0) = false := beq_eq_false_iff_ne.2 (by omega)
  have hmi : (m : Int) ≤ (d : Int) := by omega
  have hdi : (0 : Int) < (d : Int) := by omega
  have hd0 : 0 < d := by omega
  obtain ⟨x0, hx0⟩ : ∃ x, p[0] = x := ⟨_, rfl⟩
  have hc0 : w.cell? ⟨b, o, none⟩ = _ := hB.str hp0
  rw [hx0] at hc0
  have HM := Lib.hid hm
  have hkno : ∀ w1, Below w.heap.size w w1 → Calls Try.prog 55 #[.slice (some ad) 0 0, .slice (some ⟨b, o, none⟩) m d] w1 (KnownS w1 [] p) := fun w1 hx => by
    have := known_any (some ad) (some ⟨b, o, none⟩) 0 d [] p w1 Seen.nil (HS.out.below hx) (by decide) (by omega) (by omega) S.right_nil
    rw [HM.out] at this
    exact this
  have hbe : ∀ w1, Calls Try.prog 56 #[.slice (some ad) 0 0, .int .i64 (-1), .string (sB x0)] w1 (IntS w1 0) := fun w1 => behind_any (some ad) 0 [] (-1) x0 w1 Seen.nil (by decide) (by decide) (by decide) S.right_nil
  rw [hm] at hwr ⊢
  clear hS hB hw hkn hx0 hsplit hfn hm hp hp0 hd
  go_enter Try.func39, Try.ntmps39
  go_wp2_with fail
  refine hwr.mono ?_
  rintro e w1 ⟨rfl, hb1⟩
  go_wp2_with fail
  refine (hkno _ hb1).mono ?_
  rintro e w2 ⟨n2, hn, rfl, hb2⟩
  obtain rfl : 0 = n2 := HKN.out.symm.trans hn
  rw [HFN.out]
  replace hb1 := bthen hb1 hb2
  clear hb2 hn hwr hkno
  replace hc0 := (hb1.cell (p := ⟨b, o, none⟩) hbB).trans hc0
  go_wp2_with fail
  refine (hbe _).mono ?_
  rintro e w3 ⟨rfl, hb2⟩
  replace hb1 := bthen hb1 hb2
  clear hb2 hc0 hbe
  go_wp2_with fail
  refine (cloneLn_some ad _ 0 [] _ rfl (by omega) Seen.nil).mono ?_
  rintro e w4 ⟨v2, rfl, hown2, hb2⟩
  have HO := Lib.hid (hown2.base hb1.size)
  replace hb1 := bthen hb1 hb2
  clear hb2 hown2
  go_wp2
  go_loopg [11, 56] m (fun g vo vi wr => ∃ k : Nat, Hid (k + g = m) ∧ k ≤ m ∧ Own eL wr w.heap.size vo (T.freshL p 0 k) ∧ vi = .int .i64 k ∧ Below w.heap.size w wr)
  case atStart => exact ⟨0, Nat.zero_add _, Nat.zero_le _, HO.out, rfl, hb1⟩
  case round =>
    obtain ⟨k, HG, hk, hown, rfl, hb⟩ := hrel
    have HW := Lib.hid hown
    have hsz := hb.size
    clear hown
    have HLN := Lib.hid (show (T.freshL p 0 k).length = k by rw [T.freshL_len])
    by_cases hkm : k < m
    · have bkm : decide ((k : Int) < (m : Int)) = true := decide_eq_true (by omega)
      have hnk : k < p.length := by have := HM.out; omega
      have c1 := (HB.out.belowN hb hbB).str hnk
      obtain ⟨x, hx⟩ : ∃ x, p[k] = x := ⟨_, rfl⟩
      rw [hx] at c1
      have HN := Lib.hid (show T.freshL p 0 k ++ [⟨(k : Int), x, 0⟩] = T.freshL p 0 (k + 1) by
        rw [T.freshL_next]
        congr 1
        rw [← hx]
        unfold List.getD
        rw [Nat.zero_add, List.getElem?_eq_getElem hnk]; rfl)
      clear hx hnk
      have hown := HW.out
      go_wp2_with (at_builtin; refine wpList_appG eL _ rfl (.tmp 61) (.tmp 67) rfl w.heap.size _ (T.freshL p 0 k) rfl hown ⟨(k : Int), x, 0⟩ 1 _ rfl wr.heap.size rfl rfl (by rw [HLN.out]; omega) hsz ?_; intro v3 w3 hown3 hb3)
      have hgk := HG.out
      go_roundg (m - (k + 1))
      case rel => exact ⟨k + 1, (by show _ = _; omega), by omega, HN.out ▸ hown3, by go_num, hb.trans hb3⟩
      case measure => omega
    · obtain rfl : k = m := by omega
      have bkm : decide ((k : Int) < (k : Int)) = false := decide_eq_false (by omega)
      have hown := HW.out
      go_wp2_with (at_builtin; refine wpList_appSeen eL wr rfl (.tmp 70) (.tmp 73) rfl w.heap.size _ _ rfl hown _ [] 0 _ rfl rfl Seen.nil (by rw [HLN.out]; omega) hsz ?_; intro v5 w5 hown5 hx5)
      go_ret2
      refine ⟨_, rfl, ?_, hb.trans hx5⟩
      have hsp := HSP.out
      rw [HM.out] at hsp
      rw [← hsp]
      exact (List.append_nil (T.freshL p 0 k)) ▸ hown5
set_option maxRecDepth 100000 in
set_option maxHeartbeats 2000000 in
/-- Lines are new, and the tree has none. -/
theorem add_emptyS (ad : Addr) (c : Nat) (hc0 : 0 < c) (hbB : b < w.heap.size) (hB : Holds eS w b o p) (hp0 : 0 < p.length) (hp : p.length ≤ 16) (hd : p.length ≤ d) (hw : longB p = false) (hsplit : T.freshL p 0 p.length = T.addL [] p) :
    Calls Try.prog 39 #[.slice (some ad) 0 c, .slice (some ⟨b, o, none⟩) p.length d] w (AddS w (T.addL [] p) 0) := by
  have hS := Holds.seen hB hbB
  have hwr : Calls Try.prog 53 #[.slice (some ad) 0 c, .slice (some ⟨b, o, none⟩) p.length d] w (IntS w _) := wrong_0 (some ad) (some ⟨b, o, none⟩) c d [] p w Seen.nil hS (by decide) (by omega) hp0 hw S.right_nil
  rw [if_neg (by omega)] at hwr
  have hkn : ∀ n, T.knownN [] p n = 0 := by
    intro n
    induction n with
    | zero => rfl
    | succ n ih => unfold T.knownN; rw [T.findI_none (fun i hi => by simp at hi), if_pos (by omega)]; exact ih
  have HKN := Lib.hid (hkn p.length)
  have HS := Lib.hid hS
  have HB := Lib.hid hB
  have HSP := Lib.hid hsplit
  have hfn : T.findI [] (p.take 0) = -1 := T.findI_none (fun i hi => by simp at hi)
  have HFN := Lib.hid hfn
  obtain ⟨m, hm⟩ : ∃ m, p.length = m := ⟨_, rfl⟩
  have hm0 : 0 < m := by omega
  have hmp : m ≤ 16 := by omega
  have hmd : m ≤ d := by omega
  have b2 : decide ((200 : Int) < (m : Int)) = false := decide_eq_false (by omega)
  have b3 : decide (200 < m) = false := decide_eq_false (by omega)
  have b4 : ((m : Int) == 0) = false := beq_eq_false_iff_ne.2 (by omega)
  have b5 : (m == 0) = false := beq_eq_false_iff_ne.2 (by omega)
  have hmi : (m : Int) ≤ (d : Int) := by omega
  have hdi : (0 : Int) < (d : Int) := by omega
  have hd0 : 0 < d := by omega
  obtain ⟨x0, hx0⟩ : ∃ x, p[0] = x := ⟨_, rfl⟩
  have hc0 : w.cell? ⟨b, o, none⟩ = _ := hB.str hp0
  rw [hx0] at hc0
  have HM := Lib.hid hm
  have hkno : ∀ w1, Below w.heap.size w w1 → Calls Try.prog 55 #[.slice (some ad) 0 c, .slice (some ⟨b, o, none⟩) m d] w1 (KnownS w1 [] p) := fun w1 hx => by
    have := known_any (some ad) (some ⟨b, o, none⟩) c d [] p w1 Seen.nil (HS.out.below hx) (by decide) (by omega) (by omega) S.right_nil
    rw [HM.out] at this
    exact this
  have hbe : ∀ w1, Calls Try.prog 56 #[.slice (some ad) 0 c, .int .i64 (-1), .string (sB x0)] w1 (IntS w1 0) := fun w1 => behind_any (some ad) c [] (-1) x0 w1 Seen.nil (by decide) (by decide) (by decide) S.right_nil
  rw [hm] at hwr ⊢
  clear hS hB hw hkn hx0 hsplit hfn hm hp hp0 hd
  go_enter Try.func39, Try.ntmps39
  go_wp2_with fail
  refine hwr.mono ?_
  rintro e w1 ⟨rfl, hb1⟩
  go_wp2_with fail
  refine (hkno _ hb1).mono ?_
  rintro e w2 ⟨n2, hn, rfl, hb2⟩
  obtain rfl : 0 = n2 := HKN.out.symm.trans hn
  rw [HFN.out]
  replace hb1 := bthen hb1 hb2
  clear hb2 hn hwr hkno
  replace hc0 := (hb1.cell (p := ⟨b, o, none⟩) hbB).trans hc0
  go_wp2_with fail
  refine (hbe _).mono ?_
  rintro e w3 ⟨rfl, hb2⟩
  replace hb1 := bthen hb1 hb2
  clear hb2 hc0 hbe
  go_wp2_with fail
  refine (cloneLn_some ad _ 0 [] _ rfl (by omega) Seen.nil).mono ?_
  rintro e w4 ⟨v2, rfl, hown2, hb2⟩
  have HO := Lib.hid (hown2.base hb1.size)
  replace hb1 := bthen hb1 hb2
  clear hb2 hown2
  go_wp2
  go_loopg [11, 56] m (fun g vo vi wr => ∃ k : Nat, Hid (k + g = m) ∧ k ≤ m ∧ Own eL wr w.heap.size vo (T.freshL p 0 k) ∧ vi = .int .i64 k ∧ Below w.heap.size w wr)
  case atStart => exact ⟨0, Nat.zero_add _, Nat.zero_le _, HO.out, rfl, hb1⟩
  case round =>
    obtain ⟨k, HG, hk, hown, rfl, hb⟩ := hrel
    have HW := Lib.hid hown
    have hsz := hb.size
    clear hown
    have HLN := Lib.hid (show (T.freshL p 0 k).length = k by rw [T.freshL_len])
    by_cases hkm : k < m
    · have bkm : decide ((k : Int) < (m : Int)) = true := decide_eq_true (by omega)
      have hnk : k < p.length := by have := HM.out; omega
      have c1 := (HB.out.belowN hb hbB).str hnk
      obtain ⟨x, hx⟩ : ∃ x, p[k] = x := ⟨_, rfl⟩
      rw [hx] at c1
      have HN := Lib.hid (show T.freshL p 0 k ++ [⟨(k : Int), x, 0⟩] = T.freshL p 0 (k + 1) by
        rw [T.freshL_next]
        congr 1
        rw [← hx]
        unfold List.getD
        rw [Nat.zero_add, List.getElem?_eq_getElem hnk]; rfl)
      clear hx hnk
      have hown := HW.out
      go_wp2_with (at_builtin; refine wpList_appG eL _ rfl (.tmp 61) (.tmp 67) rfl w.heap.size _ (T.freshL p 0 k) rfl hown ⟨(k : Int), x, 0⟩ 1 _ rfl wr.heap.size rfl rfl (by rw [HLN.out]; omega) hsz ?_; intro v3 w3 hown3 hb3)
      have hgk := HG.out
      go_roundg (m - (k + 1))
      case rel => exact ⟨k + 1, (by show _ = _; omega), by omega, HN.out ▸ hown3, by go_num, hb.trans hb3⟩
      case measure => omega
    · obtain rfl : k = m := by omega
      have bkm : decide ((k : Int) < (k : Int)) = false := decide_eq_false (by omega)
      have hown := HW.out
      go_wp2_with (at_builtin; refine wpList_appSeen eL wr rfl (.tmp 70) (.tmp 73) rfl w.heap.size _ _ rfl hown _ [] 0 _ rfl rfl Seen.nil (by rw [HLN.out]; omega) hsz ?_; intro v5 w5 hown5 hx5)
      go_ret2
      refine ⟨_, rfl, ?_, hb.trans hx5⟩
      have hsp := HSP.out
      rw [HM.out] at hsp
      rw [← hsp]
      exact (List.append_nil (T.freshL p 0 k)) ▸ hown5
end
end Go.Proofs.Ytkifapbiimlafaa

namespace Go.Proofs.Ytkifapbiimlafaa
open Go.RowKit

/-- What Add makes of lines and a path. -/
def AddIs (t : List T.Ln) (p : T.Pth) (u : List T.Ln) (er : Int) : Prop :=
  (u = t ∧ er = 1 ∧ (p = [] ∨ longB p = true ∨ ¬ T.RightT t)) ∨
  ((0 < p.length ∧ longB p = false ∧ T.RightT t) ∧ ((u = t ∧ er = 6 ∧ 16 < p.length) ∨ (p.length ≤ 16 ∧ ((200 < (T.addL t p).length ∧ u = t ∧ er = 5) ∨ ((T.addL t p).length ≤ 200 ∧ u = T.addL t p ∧ er = 0)))))
theorem add_is (t : List T.Ln) (p : T.Pth) : ∃ u er, AddIs t p u er := by
  by_cases h : p = [] ∨ longB p = true ∨ ¬ T.RightT t
  · exact ⟨t, 1, .inl ⟨rfl, rfl, h⟩⟩
  · have h1 : 0 < p.length ∧ longB p = false ∧ T.RightT t := by
      refine ⟨List.length_pos_iff.2 fun e => h (.inl e), ?_, Classical.byContradiction fun e => h (.inr (.inr e))⟩
      cases e : longB p with
      | false => rfl
      | true => exact absurd (.inr (.inl e)) h
    by_cases h2 : 16 < p.length
    · exact ⟨t, 6, .inr ⟨h1, .inl ⟨rfl, rfl, h2⟩⟩⟩
    · by_cases h3 : (T.addL t p).length ≤ 200
      · exact ⟨_, 0, .inr ⟨h1, .inr ⟨by omega, .inr ⟨h3, rfl, rfl⟩⟩⟩⟩
      · exact ⟨t, 5, .inr ⟨h1, .inr ⟨by omega, .inl ⟨by omega, rfl, rfl⟩⟩⟩⟩
theorem AddIs.zero {t u : List T.Ln} {p : T.Pth} (h : AddIs t p u 0) : 0 < p.length ∧ (∀ w ∈ p, w.length ≤ 40) ∧ T.RightT t ∧ p.length ≤ 16 ∧ (T.addL t p).length ≤ 200 ∧ u = T.addL t p ∧ T.RightT u := by
  rcases h with ⟨_, e, _⟩ | ⟨⟨h1, h2, h3⟩, ⟨_, e, _⟩ | ⟨h4, ⟨_, _, e⟩ | ⟨h5, rfl, _⟩⟩⟩
  · cases e
  · cases e
  · cases e
  · exact ⟨h1, longB_all h2, h3, h4, h5, rfl, T.add_right h3 h4 (longB_all h2) h5⟩
theorem AddIs.err {t u : List T.Ln} {p : T.Pth} {er : Int} (h : AddIs t p u er) (h0 : er ≠ 0) : u = t := by
  rcases h with ⟨e, _⟩ | ⟨_, ⟨e, _⟩ | ⟨_, ⟨_, e, _⟩ | ⟨_, _, e⟩⟩⟩
  · exact e
  · exact e
  · exact e
  · exact absurd e h0
theorem longB_of {p : T.Pth} (h : ∀ w ∈ p, w.length ≤ 40) : longB p = false := longB_no fun j hj => decide_eq_false (by have := h _ (List.getElem_mem hj); omega)
theorem AddIs.ok {t : List T.Ln} {p : T.Pth} (h1 : 0 < p.length) (h2 : ∀ w ∈ p, w.length ≤ 40) (h3 : T.RightT t) (h4 : p.length ≤ 16) (h5 : (T.addL t p).length ≤ 200) : AddIs t p (T.addL t p) 0 :=
  .inr ⟨⟨h1, longB_of h2, h3⟩, .inr ⟨h4, .inr ⟨h5, rfl, rfl⟩⟩⟩
/-- Add. -/
theorem lines_add (A B : Option Addr) (c d n m : Nat) (t u : List T.Ln) (p : T.Pth) (er : Int) (w : World) (hn : t.length = n) (hm : p.length = m) (hA : Seen eL w A t) (hB : Seen eS w B p) (hc : NilOk A c) (htc : n ≤ c) (hd : m ≤ d) (hl : n ≤ 1073741824) (hp : m ≤ 1073741824) (h : AddIs t p u er) :
    Calls Try.prog 39 #[.slice A n c, .slice B m d] w (AddS w u er) := by
  subst hn; subst hm
  rcases h with ⟨rfl, rfl, hbad⟩ | ⟨⟨h0, hlo, hR⟩, ⟨rfl, rfl, h16⟩ | ⟨h16, hcase⟩⟩
  · exact addErr_any A B c _ _ d u 1 w rfl hA hl hc (by decide) (wrong_1 A B c d u p w hA hB hl hp hbad)
  · have hw := wrong_0 A B c d u p w hA hB hl hp h0 hlo hR
    rw [if_pos h16] at hw
    exact addErr_any A B c _ _ d u 6 w rfl hA hl hc (by decide) hw
  · obtain ⟨b, o, rfl, hb, hH⟩ := hB h0
    have hlong := longB_all hlo
    have hlen := T.add_len hR h16 hlong
    have hle := T.known_le t p p.length
    obtain ⟨n, hn⟩ : ∃ n, T.knownN t p p.length = n := ⟨_, rfl⟩
    rw [hn] at hlen hle
    rcases Nat.eq_or_lt_of_le hle with heq | hlt
    · have he : T.addL t p = t := T.add_known hR h16 hlong (hn.trans heq)
      have hl2 := hR.len
      rcases hcase with ⟨h5, _, _⟩ | ⟨_, rfl, rfl⟩
      · rw [he] at h5; omega
      · rw [he]
        rcases Nat.lt_or_ge n d with hnd | hnd
        · exact add_all1 b o d t p w A c n hA hc hb hH h0 h16 hnd hlo hR hn heq.symm
        · exact add_all2 b o d t p w A c n hA hc hb hH h0 h16 (by omega) hlo hR hn heq.symm
    · rcases hcase with ⟨h5, rfl, rfl⟩ | ⟨h5, rfl, rfl⟩
      · exact add_long b o d u p w A c n hA hc hb hH h0 h16 hd hlo hR hn hlt (by omega)
      · obtain ⟨P, hP⟩ : ∃ P, T.placeTo t (p.getD n []) (T.findI t (p.take n) + 1).toNat (T.kidsL t (T.findI t (p.take n))) = P := ⟨_, rfl⟩
        obtain ⟨hPl, hsp⟩ := T.add_placed hR h16 hlong hn hlt hP
        by_cases ht : 0 < t.length
        · obtain ⟨bt, ot, rfl, hbt, hT⟩ := hA ht
          rcases Nat.lt_or_ge P c with hPc | hPc
          · exact add_new1 b o d t p w bt ot c n P hbt hT ht htc hb hH h16 hd hlo hR hn hlt hP hPl hsp (by omega) hPc
          · have e1 : P = t.length := by omega
            have e2 : c = t.length := by omega
            subst e1
            rw [e2]
            exact add_new2 b o d t p w bt ot n hbt hT ht hb hH h16 hd hlo hR hn hlt hP hsp (by omega)
        · obtain rfl : t = [] := List.eq_nil_of_length_eq_zero (by omega)
          have hkn : ∀ k, T.knownN [] p k = 0 := by
            intro k
            induction k with
            | zero => rfl
            | succ k ih => unfold T.knownN; rw [T.findI_none (fun i hi => by simp at hi), if_pos (by omega)]; exact ih
          have hn0 : n = 0 := by rw [← hn, hkn]
          subst hn0
          have hsp2 : T.freshL p 0 p.length = T.addL [] p := by rw [← hsp, List.take_nil, List.drop_nil]; simp
          cases A with
          | none =>
            obtain rfl := hc rfl
            exact add_emptyN b o d p w hb hH h0 h16 hd hlo hsp2
          | some ad =>
            rcases Nat.eq_zero_or_pos c with rfl | hc0
            · exact add_emptyZ b o d p w ad hb hH h0 h16 hd hlo hsp2
            · exact add_emptyS b o d p w ad c hc0 hb hH h0 h16 hd hlo hsp2
end Go.Proofs.Ytkifapbiimlafaa
