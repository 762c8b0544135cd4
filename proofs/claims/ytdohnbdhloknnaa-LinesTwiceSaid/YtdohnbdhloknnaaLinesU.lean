/-
  Contracts of layer 6's begins, bit and size (lines): how many tokens a command takes, or where it cannot go on. Condition: at most 2^30 tokens.
  Contract of layer 6's do (lines): a command, done: the tree, or the error; what lies below a number is as it was. Condition: a tree, a command's words.
  Contract of layer 6's Read (lines): what the commands of any text say. Condition: at most 2^30 bytes.
-/
import Derived.Test.YtdohnbdhloknnaaLinesC
import Derived.Test.YtdohnbdhloknnaaPureL
import Derived.Test.YtdohnbdhloknnaaLexAwake
import Derived.StillTailTactics
import Derived.RegionTactic

namespace Go.Proofs.Ytdohnbdhloknnaa
open Go.RowKit
set_option linter.unusedVariables false

def eT : Elem W.Tok where
  st := 67
  T := 74
  sz := 4
  zero := zeroTok
  by_ := 40
  C := tokC
  hst := Try.underlying67
  hin := by kernel_rfl
  hzs := rfl
  hsz := by decide
  hby := by decide
  len := fun _ => rfl
  one := fun x u hu => by simp [tokC] at hu; rcases hu with rfl | rfl | rfl | rfl <;> rfl
theorem Holds.tok {w : World} {b o : Nat} {l : List W.Tok} (h : Holds eT w b o l) {i : Nat} (hi : i < l.length) {kd : Int} {pos : Nat} {wd : List UInt8} {bt : Int} (ht : l[i] = ⟨kd, pos, wd, bt⟩) :
    w.cell? ⟨b, o + i * 4, none⟩ = some (.int .i64 kd) ∧ w.cell? ⟨b, o + i * 4 + 1, none⟩ = some (.int .i64 (pos : Int)) ∧ w.cell? ⟨b, o + i * 4 + 2, none⟩ = some (.string (sB wd)) ∧ w.cell? ⟨b, o + i * 4 + 3, none⟩ = some (.int .i64 bt) := by
  refine ⟨h i hi 0 _ ?_, h i hi 1 _ ?_, h i hi 2 _ ?_, h i hi 3 _ ?_⟩ <;> rw [ht] <;> rfl
theorem OwnT.elem {w : World} {base : Nat} {v : Value} {l : List W.Tok} (h : OwnT 74 w base v l) : Own eT w base v l := h

theorem verbQ (x v : List UInt8) (y : Bool) (h : decide (x = v) = y) : ((sB x).toList == v) = y := by
  rw [sB_toList, ← h, Bool.eq_iff_iff]; simp
theorem begins_any' (x : List UInt8) (w : World) : Calls Try.prog 56 #[.string (sB x)] w (fun e w' => e = .returned (.bool (S.beginsB x)) ∧ w = w') := by
  cases h1 : decide (x = S.setW) with
  | true =>
    have q1 : ((sB x).toList == [115, 101, 116]) = true := verbQ x S.setW true h1
    have e : S.beginsB x = true := decide_eq_true (.inl (of_decide_eq_true h1))
    rw [e]
    clear h1 e
    go_enter Try.func56, Try.ntmps56
    go_wp2
    go_ret
    exact ⟨rfl, rfl⟩
  | false =>
    have q1 : ((sB x).toList == [115, 101, 116]) = false := verbQ x S.setW false h1
    cases h2 : decide (x = S.deW) with
    | true =>
      have q2 : ((sB x).toList == [100, 101, 97, 99, 116, 105, 118, 97, 116, 101]) = true := verbQ x S.deW true h2
      have e : S.beginsB x = true := decide_eq_true (.inr (.inl (of_decide_eq_true h2)))
      rw [e]
      clear h1 h2 e
      go_enter Try.func56, Try.ntmps56
      go_wp2
      go_ret
      exact ⟨rfl, rfl⟩
    | false =>
      have q2 : ((sB x).toList == [100, 101, 97, 99, 116, 105, 118, 97, 116, 101]) = false := verbQ x S.deW false h2
      cases h3 : decide (x = S.prW) with
      | true =>
        have q3 : ((sB x).toList == [112, 114, 111, 116, 101, 99, 116]) = true := verbQ x S.prW true h3
        have e : S.beginsB x = true := decide_eq_true (.inr (.inr (of_decide_eq_true h3)))
        rw [e]
        clear h1 h2 h3 e
        go_enter Try.func56, Try.ntmps56
        go_wp2
        go_ret
        exact ⟨rfl, rfl⟩
      | false =>
        have q3 : ((sB x).toList == [112, 114, 111, 116, 101, 99, 116]) = false := verbQ x S.prW false h3
        have e : S.beginsB x = false := decide_eq_false fun h => h.elim (of_decide_eq_false h1) fun h => h.elim (of_decide_eq_false h2) (of_decide_eq_false h3)
        rw [e]
        clear h1 h2 h3 e
        go_enter Try.func56, Try.ntmps56
        go_wp2
        go_ret
        exact ⟨rfl, rfl⟩
theorem bit_any (x : List UInt8) (w : World) : Calls Try.prog 57 #[.string (sB x)] w (fun e w' => e = .returned (.int .i64 (S.bitOf x)) ∧ w' = w) := by
  cases h2 : decide (x = S.deW) with
  | true =>
    have q2 : ((sB x).toList == [100, 101, 97, 99, 116, 105, 118, 97, 116, 101]) = true := verbQ x S.deW true h2
    have e : S.bitOf x = 1 := if_pos (of_decide_eq_true h2)
    rw [e]
    clear h2 e
    go_enter Try.func57, Try.ntmps57
    go_wp2
    go_ret
    exact ⟨rfl, rfl⟩
  | false =>
    have q2 : ((sB x).toList == [100, 101, 97, 99, 116, 105, 118, 97, 116, 101]) = false := verbQ x S.deW false h2
    have e : S.bitOf x = 2 := if_neg (of_decide_eq_false h2)
    rw [e]
    clear h2 e
    go_enter Try.func57, Try.ntmps57
    go_wp2
    go_ret
    exact ⟨rfl, rfl⟩

/-- What size leaves. -/
def SizeS (w : World) (r : Nat ⊕ (Nat × Int)) (e : Ending) (w' : World) : Prop :=
  (match r with | .inl m => e = .returned (.tuple #[.int .i64 (m : Int), .int .i64 0, .int .i64 0]) | .inr x => e = .returned (.tuple #[.int .i64 0, .int .i64 (x.1 : Int), .int .i64 x.2])) ∧ Below w.heap.size w w'
theorem size_at (n k : Nat) (l : List W.Tok) (hk : k < l.length) {kd : Int} {ps : Nat} {wo : List UInt8} {bt : Int} (ht : l[k] = ⟨kd, ps, wo, bt⟩) : S.sizeT n k (l.drop k) = if kd = 4 ∧ 1 < k then .inl (k + 1) else if kd ≠ 1 ∨ (k = 0 ∧ S.beginsB wo = false) then .inr (ps, 2) else if 16 < k then .inr (ps, 6) else S.sizeT n (k + 1) (l.drop (k + 1)) := by
  rw [List.drop_eq_getElem_cons hk, ht]; rfl
set_option maxRecDepth 100000 in
set_option maxHeartbeats 4000000 in
theorem size_any (A : Option Addr) (cap : Nat) (l : List W.Tok) (n : Nat) (r : Nat ⊕ (Nat × Int)) (w : World) (hA : Seen eT w A l) (hl : l.length ≤ 1073741824) (hr : S.sizeT n 0 l = r) :
    Calls Try.prog 36 #[.slice A l.length cap, .int .i64 (n : Int)] w (SizeS w r) := by
  have HA := Lib.hid hA
  have HR := Lib.hid hr
  clear hA hr
  go_enter Try.func36, Try.ntmps36
  go_wp2
  go_loopg [11] l.length (fun gk x wr => ∃ k : Nat, Hid (k + gk = l.length) ∧ k ≤ l.length ∧ x = .int .i64 k ∧ Hid (S.sizeT n k (l.drop k) = r) ∧ Below w.heap.size w wr)
  case atStart => exact ⟨0, Nat.zero_add _, Nat.zero_le _, rfl, HR, Below.refl _ _⟩
  case round =>
    obtain ⟨k, HG, hk, rfl, HI, hb⟩ := hrel
    by_cases hlt : k < l.length
    · have blt : decide ((k : Int) < (l.length : Int)) = true := decide_eq_true (by omega)
      obtain ⟨g, o, rfl, hgw, hL⟩ := HA.out (by omega)
      obtain ⟨⟨kd, ps, wo, bt⟩, ht⟩ : ∃ x, l[k] = x := ⟨_, rfl⟩
      obtain ⟨d0, d1, d2, d3⟩ := (hL.below hb hgw).tok hlt ht
      have hn := HI.out
      rw [size_at n k l hlt ht] at hn
      have hbz := hb.alloc hb.size (.cells #[.int .i64 kd, .int .i64 (ps : Int), .string (sB wo), .int .i64 bt] 74)
      have HBZ := Lib.hid hbz
      clear hL ht hbz
      by_cases h4 : kd = 4
      · subst h4
        by_cases h1 : 1 < k
        · have c1 : decide ((1 : Int) < (k : Int)) = true := decide_eq_true (by omega)
          have c2 : decide (1 < k) = true := decide_eq_true h1
          rw [if_pos ⟨rfl, h1⟩] at hn
          have HN := Lib.hid hn.symm
          clear hn h1
          go_wp2
          go_ret3
          rw [HN.out]
          exact ⟨rfl, HBZ.out⟩
        · have c1 : decide ((1 : Int) < (k : Int)) = false := decide_eq_false (by omega)
          have c2 : decide (1 < k) = false := decide_eq_false h1
          rw [if_neg (fun h => h1 h.2), if_pos (.inl (by decide))] at hn
          have HN := Lib.hid hn.symm
          clear hn h1
          go_wp2
          go_region
          go_wp2
          go_ret3
          rw [HN.out]
          exact ⟨rfl, HBZ.out.drew⟩
      · have e4 : (kd == 4) = false := beq_eq_false_iff_ne.2 h4
        rw [if_neg (fun h => h4 h.1)] at hn
        by_cases h1 : kd = 1
        · subst h1
          by_cases h0 : k = 0
          · have c0 : ((k : Int) == 0) = true := beq_iff_eq.2 (by omega)
            have c00 : (k == 0) = true := beq_iff_eq.2 h0
            have c16 : decide ((16 : Int) < (k : Int)) = false := decide_eq_false (by omega)
            have c17 : decide (16 < k) = false := decide_eq_false (by omega)
            have hbg := begins_any' wo
            cases hbe : S.beginsB wo with
            | false =>
              rw [hbe] at hn hbg
              rw [if_pos (.inr ⟨h0, rfl⟩)] at hn
              have HN := Lib.hid hn.symm
              clear hn hbe h4 h0
              go_wp2_with (refine (hbg _).mono ?_; rintro e w' ⟨rfl, rfl⟩)
              go_region
              go_wp2
              go_ret3
              rw [HN.out]
              exact ⟨rfl, HBZ.out.drew⟩
            | true =>
              rw [hbe] at hn hbg
              rw [if_neg (by simp), if_neg (by omega)] at hn
              have HN := Lib.hid hn
              clear hn hbe h4 h0
              go_wp2_with (refine (hbg _).mono ?_; rintro e w' ⟨rfl, rfl⟩)
              have hgk := HG.out
              go_roundg (l.length - (k + 1))
              case rel => exact ⟨k + 1, (by show _ = _; omega), by omega, by go_num, HN, HBZ.out⟩
              case measure => omega
          · have c0 : ((k : Int) == 0) = false := beq_eq_false_iff_ne.2 (by omega)
            have c00 : (k == 0) = false := beq_eq_false_iff_ne.2 h0
            rw [if_neg (by rintro (h | ⟨h, _⟩) <;> omega)] at hn
            by_cases h16 : 16 < k
            · have c1 : decide ((16 : Int) < (k : Int)) = true := decide_eq_true (by omega)
              have c2 : decide (16 < k) = true := decide_eq_true h16
              rw [if_pos h16] at hn
              have HN := Lib.hid hn.symm
              clear hn h4 h0 h16
              go_wp2
              go_region
              go_wp2
              go_ret3
              rw [HN.out]
              exact ⟨rfl, HBZ.out.drew⟩
            · have c1 : decide ((16 : Int) < (k : Int)) = false := decide_eq_false (by omega)
              have c2 : decide (16 < k) = false := decide_eq_false h16
              rw [if_neg h16] at hn
              have HN := Lib.hid hn
              clear hn h4 h0 h16
              go_wp2
              have hgk := HG.out
              go_roundg (l.length - (k + 1))
              case rel => exact ⟨k + 1, (by show _ = _; omega), by omega, by go_num, HN, HBZ.out⟩
              case measure => omega
        · have e1 : (kd == 1) = false := beq_eq_false_iff_ne.2 h1
          have e2 : (kd != 1) = true := bne_iff_ne.2 h1
          rw [if_pos (.inl h1)] at hn
          have HN := Lib.hid hn.symm
          clear hn h4 h1
          go_wp2
          go_region
          go_wp2
          go_ret3
          rw [HN.out]
          exact ⟨rfl, HBZ.out.drew⟩
    · have hn := HI.out
      rw [List.drop_eq_nil_of_le (by omega)] at hn
      have HN := Lib.hid (show r = .inr (n, 2) from hn.symm)
      clear hn
      go_wp2
      go_ret3
      rw [HN.out]
      exact ⟨rfl, hb⟩
end Go.Proofs.Ytdohnbdhloknnaa

namespace Go.Proofs.Ytdohnbdhloknnaa
open Go.RowKit
set_option linter.unusedVariables false

theorem Own.nilOk {α : Type} {E : Elem α} {w : World} {base n c : Nat} {A : Option Addr} {l : List α} (h : Own E w base (.slice A n c) l) : NilOk A c := by
  rintro rfl
  rcases h.2 with ⟨e, _⟩ | ⟨g, cap, cur, e, _⟩
  · injection e
  · injection e with e1; cases e1
theorem cells_mark (t : List T.Ln) : ∀ (i : Nat) (m : Int), i < t.length → (cellsG eL t).set (i * 3 + 2) (.int .i64 m) = cellsG eL (S.setM t i m) := by
  induction t with
  | nil => intro i m h; simp at h
  | cons x t ih =>
    intro i m h
    cases i with
    | zero => rfl
    | succ i =>
      have e1 : cellsG eL (x :: t) = .int .i64 x.depth :: .string (sB x.word) :: .int .i64 x.mark :: cellsG eL t := rfl
      have e2 : S.setM (x :: t) (i + 1) m = x :: S.setM t i m := rfl
      have e3 : cellsG eL (x :: S.setM t i m) = .int .i64 x.depth :: .string (sB x.word) :: .int .i64 x.mark :: cellsG eL (S.setM t i m) := rfl
      rw [e2, e3, ← ih i m (by simpa using h), e1, show (i + 1) * 3 + 2 = (i * 3 + 2) + 1 + 1 + 1 by omega]
      rfl
/-- A mark, stored. -/
theorem Own.mark {w : World} {base g n cap : Nat} {t : List T.Ln} (h : Own eL w base (.slice (some ⟨g, 0, none⟩) n cap) t) {i : Nat} (hi : i < t.length) (m : Int) : Own eL (w.setCell ⟨g, i * 3 + 2, none⟩ (.int .i64 m)) base (.slice (some ⟨g, 0, none⟩) n cap) (S.setM t i m) := by
  have hl := S.setM_len t i m
  have hcl := cellsG_len eL t
  have hcl2 := cellsG_len eL (S.setM t i m)
  rcases h.2 with ⟨e, _⟩ | ⟨g2, cap2, cur, e, hbg, hgg, hnc, hcm, hcs, htk⟩
  · cases e
  · injection e with e1 e2 e3
    injection e1 with e1
    injection e1 with e1
    subst e1; subst e2; subst e3
    refine ⟨hcl2, .inr ⟨g, cap, cur.setIfInBounds (i * 3 + 2) (.int .i64 m), by rw [hl], hbg, ?_, by rw [hl]; exact hnc, hcm, by rw [Array.size_setIfInBounds]; exact hcs, ?_⟩⟩
    · simp [World.setCell, Array.getElem?_modify, hgg]
    · rw [hl, ← cells_mark t i m hi, ← htk, Array.toList_setIfInBounds, List.take_set]
theorem Own.unfrozen {w : World} {base g n cap : Nat} {t : List T.Ln} (h : Own eL w base (.slice (some ⟨g, 0, none⟩) n cap) t) (j : Nat) : w.frozen? ⟨g, j, none⟩ = false ∧ base ≤ g ∧ g < w.heap.size := by
  rcases h.2 with ⟨e, _⟩ | ⟨g2, cap2, cur, e, hbg, hgg, _⟩
  · cases e
  · injection e with e1 e2 e3
    injection e1 with e1
    injection e1 with e1
    subst e1
    exact ⟨Lib.frozen_of_heap hgg j, hbg, (Array.getElem?_eq_some_iff.1 hgg).1⟩
/-- What do leaves. -/
def DoS (base : Nat) (w : World) (r : List T.Ln ⊕ Int) (e : Ending) (w' : World) : Prop :=
  (match r with | .inr er => ∃ v, e = .returned (.tuple #[v, .int .i64 er]) | .inl u => ∃ v, e = .returned (.tuple #[v, .int .i64 0]) ∧ Own eL w' base v u) ∧ Below base w w'
theorem or_mark {m b : Int} (hm : m = 0 ∨ m = 1 ∨ m = 2 ∨ m = 3) (hb : b = 1 ∨ b = 2) : bits BinOp.or IntKind.i64 m b = S.orM m b := by
  rcases hm with rfl | rfl | rfl | rfl <;> rcases hb with rfl | rfl <;> decide +kernel

set_option maxRecDepth 100000 in
set_option maxHeartbeats 4000000 in
theorem do_any (base g o cap n : Nat) (v : Value) (t : List T.Ln) (k : W.Tok) (rest : List W.Tok) (r : List T.Ln ⊕ Int) (w : World) (hown : Own eL w base v t) (hbase : base ≤ w.heap.size) (hg : g < base) (hW : Holds eT w g o (k :: rest)) (hn : rest.length + 1 = n) (hcap : n ≤ cap)
    (hgood : S.GoodC (k.word, rest.map W.Tok.word)) (hR : T.RightT t) (hr : S.doT t k.word (rest.map W.Tok.word) = r) :
    Calls Try.prog 37 #[v, .slice (some ⟨g, o, none⟩) n cap] w (DoS base w r) := by
  obtain ⟨kd0, ps0, verb, bt0⟩ := k
  obtain ⟨p, hp⟩ : ∃ p, rest.map W.Tok.word = p := ⟨_, rfl⟩
  simp only at hgood hr
  rw [hp] at hgood hr
  have hpl : p.length = rest.length := by rw [← hp, List.length_map]
  have hp0 : 0 < p.length := List.length_pos_iff.2 hgood.ne
  have hp16 : p.length ≤ 16 := hgood.deep
  have hp40 : ∀ x ∈ p, x.length ≤ 40 := hgood.long
  obtain ⟨q, hq⟩ : ∃ q, rest.length = q := ⟨_, rfl⟩
  have hnq : n - 1 = q := by omega
  have hn1 : 1 ≤ n := by omega
  have hn2 : 1 < n := by omega
  have hc1 : 1 < cap := by omega
  have hn1i : (1 : Int) ≤ (n : Int) := by omega
  have hc1i : (1 : Int) ≤ (cap : Int) := by omega
  have hgw : g < w.heap.size := by omega
  have HW2 : Hid (Holds eT w g (o + 4) rest) := Lib.hid (hW.drop 1)
  have c2 : w.cell? ⟨g, o + 2, none⟩ = some (.string (sB verb)) := by
    have := (hW.tok (i := 0) (by simp) rfl).2.2.1
    rw [Nat.zero_mul, Nat.add_zero] at this
    exact this
  have HC2 := Lib.hid c2
  have HPQ := Lib.hid (show p.length = q by omega)
  have HQ := Lib.hid hq
  have HPE := Lib.hid hp
  have HOWN := Lib.hid hown
  obtain ⟨At, ct, e, htc, hsA⟩ := hown.seen
  subst e
  have HA := Lib.hid hsA
  have HR := Lib.hid hR
  have HP40 := Lib.hid hp40
  have hl200 : t.length ≤ 200 := hR.len
  have hq16 : q ≤ 16 := by omega
  have hq0 : 0 < q := by omega
  have HRR := Lib.hid hr
  have HVB := Lib.hid (S.verb_cases hgood.verb)
  have hqi : ((n - 1 : Nat) : Int) = (q : Int) := by omega
  clear hown hW hgood hR hr hp hpl hp0 hp16 hp40 hq hsA c2 hn
  go_enter Try.func37, Try.ntmps37
  go_wp2
  go_loopg [6, 14] q (fun gk vp vi wr => ∃ j : Nat, Hid (j + gk = q) ∧ j ≤ q ∧ Hid (Own eS wr w.heap.size vp (p.take j)) ∧ vi = .int .i64 j ∧ Below w.heap.size w wr)
  case atStart => exact ⟨0, Nat.zero_add _, Nat.zero_le _, Own.nil _ _, rfl, Below.refl _ _⟩
  case round =>
    obtain ⟨j, HG, hj, HOj, rfl, hb⟩ := hrel
    by_cases hlt : j < q
    · have blt : decide ((j : Int) < (q : Int)) = true := decide_eq_true (by omega)
      have hjr : j < rest.length := by have := HQ.out; omega
      obtain ⟨⟨kd, ps, wo, bt⟩, ht⟩ : ∃ x, rest[j] = x := ⟨_, rfl⟩
      obtain ⟨d0, d1, d2, d3⟩ := (HW2.out.belowN hb hgw).tok hjr ht
      have hjp : j < p.length := by have := HPQ.out; omega
      have HN := Lib.hid (show p.take (j + 1) = p.take j ++ [wo] by
        have h1 : p[j] = wo := by
          have h2 : p[j]? = some wo := by rw [← HPE.out, List.getElem?_map, List.getElem?_eq_getElem hjr, ht]; rfl
          rw [List.getElem?_eq_getElem hjp] at h2
          exact Option.some.inj h2
        rw [List.take_succ_eq_append_getElem hjp, h1])
      have HLN := Lib.hid (show (p.take j).length = j by rw [List.length_take]; omega)
      have hsz := hb.size
      have hownj := HOj.out.alloc (.cells #[.int .i64 kd, .int .i64 (ps : Int), .string (sB wo), .int .i64 bt] 74)
      have HOW := Lib.hid hownj
      have HBA := Lib.hid (hb.alloc hb.size (.cells #[.int .i64 kd, .int .i64 (ps : Int), .string (sB wo), .int .i64 bt] 74))
      clear ht hjr hjp hownj
      go_wp2_with (at_builtin; refine wpList_appG eS (wr.alloc (.cells #[.int .i64 kd, .int .i64 (ps : Int), .string (sB wo), .int .i64 bt] 74)) rfl (.tmp 18) (.tmp 21) rfl w.heap.size u6 (p.take j) rfl HOW.out wo 1 _ rfl (wr.heap.size + 1) (by simp) rfl (by rw [HLN.out]; omega) (by simp; omega) ?_; intro v3 w3 hown3 hb3)
      have hgk := HG.out
      have HB4 := Lib.hid (HBA.out.trans hb3)
      go_roundg (q - (j + 1))
      case rel => exact ⟨j + 1, (by show _ = _; omega), by omega, (by show Own _ _ _ _ _; rw [HN.out]; exact hown3), by go_num, HB4.out⟩
      case measure => omega
    · have blt : decide ((j : Int) < (q : Int)) = false := decide_eq_false (by omega)
      have hjo : j = q := by omega
      have HO5 := Lib.hid (show Own eS wr w.heap.size u6 p by have := HOj.out; rwa [List.take_of_length_le (by have := HPQ.out; omega)] at this)
      obtain ⟨Bp, cp, e, hcp, hsB⟩ := HO5.out.seen
      have HSB := Lib.hid hsB
      have HOW := Lib.hid (HOWN.out.keep hb)
      have HA5 := Lib.hid (HA.out.below hb)
      have c2 := (hb.cell (p := ⟨g, o + 2, none⟩) hgw).trans HC2.out
      have hplq := HPQ.out
      rw [hplq] at e hcp
      subst e
      have HBB := Lib.hid hb
      clear hsB HOj HG hjo hb
      cases hset : decide (verb = S.setW) with
      | true =>
        have q1 : ((sB verb).toList == [115, 101, 116]) = true := verbQ verb S.setW true hset
        have hr := HRR.out
        unfold S.doT at hr
        rw [if_pos (of_decide_eq_true hset)] at hr
        clear hset
        by_cases h200 : (T.addL t p).length ≤ 200
        · rw [if_pos h200] at hr
          have HN := Lib.hid hr.symm
          have HAI := Lib.hid (AddIs.ok (by omega) HP40.out HR.out (by omega) h200)
          clear hr h200 hplq
          go_wp2_with fail
          refine (lines_add At Bp ct cp t.length q t _ p 0 _ rfl HPQ.out HA5.out HSB.out HOW.out.nilOk htc hcp (by omega) (by omega) HAI.out).mono ?_
          rintro e w5 ⟨v5, rfl, hown5, hb5⟩
          have HO5 := Lib.hid (hown5.base (Nat.le_trans hbase HBB.out.size))
          have HB5 := Lib.hid ((bthen HBB.out hb5).mono hbase)
          clear hown5 hb5
          go_wp2
          go_ret2
          rw [HN.out]
          exact ⟨⟨v5, rfl, HO5.out⟩, HB5.out⟩
        · rw [if_neg h200] at hr
          have HN := Lib.hid hr.symm
          have HAI := Lib.hid (show AddIs t p t 5 from .inr ⟨⟨by omega, longB_of HP40.out, HR.out⟩, .inr ⟨by omega, .inl ⟨by omega, rfl, rfl⟩⟩⟩)
          clear hr h200 hplq
          go_wp2_with fail
          refine (lines_add At Bp ct cp t.length q t _ p 5 _ rfl HPQ.out HA5.out HSB.out HOW.out.nilOk htc hcp (by omega) (by omega) HAI.out).mono ?_
          rintro e w5 ⟨v5, rfl, hown5, hb5⟩
          have HB5 := Lib.hid ((bthen HBB.out hb5).mono hbase)
          clear hown5 hb5
          go_wp2
          go_ret2
          rw [HN.out]
          exact ⟨⟨v5, rfl⟩, HB5.out⟩
      | false =>
        have q1 : ((sB verb).toList == [115, 101, 116]) = false := verbQ verb S.setW false hset
        have hr := HRR.out
        unfold S.doT at hr
        rw [if_neg (of_decide_eq_false hset)] at hr
        have HRN := Lib.hid hr
        clear hset hr hplq
        go_wp2_with fail
        refine (findN_any At Bp ct cp q t p _ HPQ.out HA5.out HSB.out (by omega) (by omega) HR.out).mono ?_
        rintro e w5 ⟨hcase, hb5⟩
        have HB5 := Lib.hid (bthen HBB.out hb5)
        have HO6 := Lib.hid (HOW.out.keep hb5)
        replace c2 := (hb5.cell (p := ⟨g, o + 2, none⟩) (show g < wr.heap.size by have := HBB.out.size; omega)).trans c2
        clear hb5 HBB HOW
        rcases hcase with ⟨i, hi, hpi, rfl⟩ | ⟨hno, rfl⟩
        · have hr := HRN.out
          rw [T.findI_some HR.out hi hpi, if_neg (by simp), Int.toNat_natCast] at hr
          obtain ⟨m, hm⟩ : ∃ m, (T.at_ t i).mark = m := ⟨_, rfl⟩
          rw [hm] at hr
          have hm03 := HR.out.mark i hi
          rw [hm] at hm03
          have HN := Lib.hid hr.symm
          have hit : (i : Int) < (t.length : Int) := by omega
          obtain ⟨tg, e, hbt, htg, hhT⟩ := HO6.out.block (by omega)
          subst e
          obtain ⟨_, _, e2⟩ := hhT.line hi
          rw [hm, Nat.zero_add] at e2
          obtain ⟨hfz, _, _⟩ := HO6.out.unfrozen (i * 3 + 2)
          have HM4 := Lib.hid (show m = 0 ∨ m = 1 ∨ m = 2 ∨ m = 3 by omega)
          have hor := or_mark HM4.out (S.bit_two verb)
          have HOR := Lib.hid (or_mark HM4.out (S.bit_two verb))
          have HBT := Lib.hid hbt
          clear hr hm hm03 hhT hpi hbt
          go_wp2
          have hn0 : 0 < n := by omega
          have hn0i : (0 : Int) < (n : Int) := by omega
          go_still_tail 13, (by kernel_rfl)
          still_call (bit_any verb _)
          repeat still_step
          refine wpStill_nil ?_
          change wpList _ _ _ _ _ w5.drew
          go_wp2
          go_ret2
          rw [HN.out]
          have hsm := HO6.out.drew.mark hi (S.orM m (S.bitOf verb))
          exact ⟨⟨_, rfl, hsm⟩, (HB5.out.mono hbase).drew.setCell HBT.out _⟩
        · have hr := HRN.out
          rw [T.findI_none hno, if_pos (by omega)] at hr
          have HN := Lib.hid hr.symm
          clear hr hno
          go_wp2
          go_ret2
          rw [HN.out]
          exact ⟨⟨_, rfl⟩, HB5.out.mono hbase⟩
end Go.Proofs.Ytdohnbdhloknnaa

namespace Go.Proofs.Ytdohnbdhloknnaa
open Go.RowKit
set_option linter.unusedVariables false

/-- What Read leaves. -/
def ReadS (w : World) (r : S.RRes) (e : Ending) (w' : World) : Prop :=
  (match r with | .bad p er => e = .returned (.tuple #[.slice none 0 0, .int .i64 (p : Int), .int .i64 er]) | .ok t => ∃ v, e = .returned (.tuple #[v, .int .i64 0, .int .i64 0]) ∧ Own eL w' w.heap.size v t) ∧ Below w.heap.size w w'
theorem size_err (n : Nat) : ∀ (l : List W.Tok) (i : Nat) (x : Nat × Int), S.sizeT n i l = .inr x → x.2 ≠ 0 := by
  intro l
  induction l with
  | nil => intro i x hx; unfold S.sizeT at hx; injection hx with hx; rw [← hx]; simp
  | cons y l ih =>
    intro i x hx
    unfold S.sizeT at hx
    split at hx
    · cases hx
    · split at hx
      · injection hx with hx; rw [← hx]; simp
      · split at hx
        · injection hx with hx; rw [← hx]; simp
        · exact ih _ _ hx
theorem do_err {t : List T.Ln} {v : List UInt8} {p : T.Pth} {e : Int} (h : S.doT t v p = .inr e) : e ≠ 0 := by
  unfold S.doT at h
  split at h
  · split at h
    · cases h
    · injection h with h; omega
  · split at h
    · injection h with h; omega
    · cases h
theorem readF_nil (n f : Nat) (t : List T.Ln) : S.readF n f t [] = .ok t := by cases f <;> rfl
theorem sizeN_any (A : Option Addr) (cap : Nat) (l : List W.Tok) (n m : Nat) (r : Nat ⊕ (Nat × Int)) (w : World) (hm : l.length = m) (hA : Seen eT w A l) (hl : m ≤ 1073741824) (hr : S.sizeT n 0 l = r) :
    Calls Try.prog 36 #[.slice A m cap, .int .i64 (n : Int)] w (SizeS w r) := by subst hm; exact size_any A cap l n r w hA hl hr

set_option maxRecDepth 100000 in
set_option maxHeartbeats 4000000 in
theorem read_any (s : ByteArray) (w : World) (r : S.RRes) (hs : s.size ≤ 1073741824) (hr : S.readL s.data.toList = r) :
    Calls Try.prog 19 #[.string s] w (ReadS w r) := by
  have hall := all_any s w hs
  have hsl : s.data.toList.length = s.size := by simp
  unfold S.readL at hr
  rw [hsl] at hr
  cases hlx : W.lexL 0 s.data.toList with
  | bad p er =>
    rw [hlx] at hr hall
    have hne := (W.bad_lt s.data.toList 0 p er hlx).2.2
    have b0 : (er != 0) = true := bne_iff_ne.2 hne
    have HN := Lib.hid hr.symm
    clear hr hlx hne hsl
    go_enter Try.func19, Try.ntmps19
    go_wp2_with fail
    refine hall.mono ?_
    rintro e w1 ⟨v, rfl, _, hb1⟩
    simp only [W.Res.place, W.Res.err]
    clear hall
    go_wp2
    go_ret3
    rw [HN.out]
    exact ⟨rfl, hb1⟩
  | ok a =>
    rw [hlx] at hr hall
    have HGA := Lib.hid (W.lexL_good s.data.toList 0 a hlx)
    have hal : a.length ≤ s.size := by have := W.lexL_len s.data.toList 0 a hlx; omega
    have HR := Lib.hid hr
    clear hr hlx hsl
    go_enter Try.func19, Try.ntmps19
    go_wp2_with fail
    refine hall.mono ?_
    rintro e w1 ⟨v, rfl, hot, hb1⟩
    simp only [W.Res.place, W.Res.err, W.Res.toks] at hot ⊢
    obtain ⟨B0, c0, e, hc0, hs0⟩ := (OwnT.elem hot).seen
    subst e
    have HS0 := Lib.hid hs0
    have HB1 := Lib.hid hb1
    clear hall hot hs0 hb1
    go_wp2
    go_loopg [5, 8] a.length (fun gk vl vt wr => ∃ (l : List W.Tok) (B : Option Addr) (c : Nat) (t : List T.Ln) (f : Nat), vl = .slice B gk c ∧ Hid (l.length = gk) ∧ gk ≤ c ∧ gk ≤ a.length ∧ Hid (Seen eT w1 B l) ∧ Hid (∀ x ∈ l, W.GoodTok x) ∧ Hid (Own eL wr w1.heap.size vt t) ∧ Hid (T.RightT t) ∧ Hid (S.readF s.size f t l = r) ∧ gk ≤ f ∧ Below w1.heap.size w1 wr)
    case atStart => exact ⟨a, B0, c0, [], a.length, rfl, rfl, hc0, Nat.le_refl _, HS0, HGA, Own.nil _ _, S.right_nil, HR, Nat.le_refl _, Below.refl _ _⟩
    case round =>
      obtain ⟨l, B, c, t, f, rfl, HLN, hgc, hga, HS, HG, HO, HRT, HRF, hgf, hb⟩ := hrel
      by_cases h0 : gk = 0
      · have hl0 : l = [] := List.eq_nil_of_length_eq_zero (by rw [HLN.out]; exact h0)
        have HN := Lib.hid (show r = .ok t by have := HRF.out; rw [hl0, readF_nil] at this; exact this.symm)
        have hgg : decide ((0 : Int) < (gk : Int)) = false := decide_eq_false (by omega)
        have hgg2 : decide (0 < gk) = false := decide_eq_false (by omega)
        clear hl0
        go_wp2
        go_ret3
        rw [HN.out]
        exact ⟨⟨u8, rfl, HO.out.base HB1.out.size⟩, HB1.out.trans (hb.mono HB1.out.size)⟩
      · have hgg : decide ((0 : Int) < (gk : Int)) = true := decide_eq_true (by omega)
        have hgg2 : decide (0 < gk) = true := decide_eq_true (by omega)
        obtain ⟨g, o, rfl, hgw, hH⟩ := HS.out (by rw [HLN.out]; omega)
        have HH := Lib.hid hH
        obtain ⟨k, l', hl⟩ : ∃ k l', l = k :: l' := by
          cases l with
          | nil => have := HLN.out; simp at this; omega
          | cons k l' => exact ⟨k, l', rfl⟩
        obtain ⟨f', hf⟩ : ∃ f', f = f' + 1 := ⟨f - 1, by omega⟩
        subst hl
        subst hf
        have hrf := HRF.out
        unfold S.readF at hrf
        have hSr := HS.out.below hb
        obtain ⟨sz, hsz⟩ : ∃ sz, S.sizeT s.size 0 (k :: l') = sz := ⟨_, rfl⟩
        rw [hsz] at hrf
        have hcall := sizeN_any (some ⟨g, o, none⟩) c (k :: l') s.size gk sz wr HLN.out hSr (by omega) hsz
        cases sz with
        | inr x =>
          have b1 : (x.2 != 0) = true := bne_iff_ne.2 (size_err _ _ _ _ hsz)
          have HN := Lib.hid (show r = .bad x.1 x.2 from hrf.symm)
          clear hrf hsz hSr hH
          go_wp2_with fail
          refine hcall.mono ?_
          rintro e w2 ⟨rfl, hx⟩
          have HX := Lib.hid (hb.trans (hx.mono hb.size))
          clear hcall hx
          go_wp2
          go_ret3
          rw [HN.out]
          exact ⟨rfl, HB1.out.trans (HX.out.mono HB1.out.size)⟩
        | inl m =>
          obtain ⟨p, rr, e1, hgc2, e3⟩ := S.size_cmd_back s.size HG.out hsz
          obtain ⟨_, hpo, _⟩ := S.size_cmd s.size (k.word, p) (k :: l') rr hgc2 e1
          have hlen : (k :: l').length = p.length + 2 + rr.length := by
            have := congrArg List.length e1
            simp only [List.length_map, List.length_append, S.cmdK, List.length_cons, List.length_nil] at this ⊢
            omega
          subst e3
          have hpo2 : S.pathOf (k :: l') (p.length + 2) = p := hpo
          obtain ⟨q, hq⟩ : ∃ q, p.length = q := ⟨_, rfl⟩
          rw [hq] at hlen hpo2 hrf hcall
          have hqg : q + 2 ≤ gk := by rw [HLN.out] at hlen; omega
          have hq16 : q ≤ 16 := by have h16 : p.length ≤ 16 := hgc2.deep; omega
          simp only at hrf
          rw [hpo2] at hrf
          have hpw : (l'.take q).map W.Tok.word = p := by rw [← hpo2]; rfl
          have HGC := Lib.hid (show S.GoodC (k.word, (l'.take q).map W.Tok.word) by rw [hpw]; exact hgc2)
          have HPW := Lib.hid hpw
          have HW2 := Lib.hid (show Holds eT w1 g o (k :: l'.take q) from hH.take (q + 1))
          have HQL := Lib.hid (show (l'.take q).length + 1 = q + 1 by rw [List.length_take]; have := HLN.out; rw [List.length_cons] at this; omega)
          obtain ⟨dr, hdr⟩ : ∃ dr, S.doT t k.word p = dr := ⟨_, rfl⟩
          rw [hdr] at hrf
          have HDR := Lib.hid (show S.doT t k.word ((l'.take q).map W.Tok.word) = dr by rw [hpw]; exact hdr)
          have HDE := Lib.hid hdr
          have HRR := Lib.hid hrf
          have hq1c : q + 1 ≤ c := by omega
          have hq1ci : (q : Int) + 1 ≤ (c : Int) := by omega
          have hq2ci : (q : Int) + 2 ≤ (gk : Int) := by omega
          have hq2c : q + 2 ≤ c := by omega
          clear hrf hsz hSr hH e1 hgc2 hpo hpo2 hlen hpw hdr hq
          go_wp2_with fail
          refine hcall.mono ?_
          rintro e w2 ⟨rfl, hx⟩
          have HX := Lib.hid (hb.trans (hx.mono hb.size))
          have HO2 := Lib.hid (HO.out.keep hx)
          clear hcall hx
          go_wp2_with fail
          refine (do_any w1.heap.size g o c (q + 1) _ t k (l'.take q) dr _ HO2.out HX.out.size hgw (HW2.out.belowN HX.out hgw) HQL.out hq1c HGC.out HRT.out HDR.out).mono ?_
          rintro e w3 ⟨hd, hx3⟩
          have HX3 := Lib.hid (HX.out.trans hx3)
          clear hx3
          cases dr with
          | inr er =>
            obtain ⟨v3, rfl⟩ := hd
            have b2 : (er != 0) = true := bne_iff_ne.2 (do_err HDE.out)
            obtain ⟨kd, ps, wo, bt⟩ := k
            have HN := Lib.hid (show r = .bad ps er from HRR.out.symm)
            obtain ⟨d0, d1, d2, d3⟩ := (HH.out.belowN HX3.out hgw).tok (i := 0) (by simp) rfl
            rw [Nat.zero_mul, Nat.add_zero] at d0 d1 d2 d3
            have hgk0 : 0 < gk := by omega
            have hgk0i : (0 : Int) < (gk : Int) := by omega
            go_wp2
            go_region
            go_wp2
            go_ret3
            rw [HN.out]
            exact ⟨rfl, (HB1.out.trans (HX3.out.mono HB1.out.size)).drew⟩
          | inl u =>
            obtain ⟨v3, rfl, hown3⟩ := hd
            have HO3 := Lib.hid hown3
            have HRU := Lib.hid (show T.RightT u from S.do_right HRT.out HGC.out HDR.out)
            have HDL := Lib.hid (show ((k :: l').drop (q + 2)).length = gk - (q + 2) by rw [List.length_drop, HLN.out])
            have HGD := Lib.hid (show ∀ x ∈ (k :: l').drop (q + 2), W.GoodTok x from fun x hx => HG.out x (List.mem_of_mem_drop hx))
            have HSD := Lib.hid (show Seen eT w1 (some ⟨g, o + (q + 2) * 4, none⟩) ((k :: l').drop (q + 2)) from (HH.out.drop (q + 2)).seen hgw)
            have HSE := Lib.hid (show q + 2 = c → Seen eT w1 (some ⟨g, o, none⟩) ((k :: l').drop (q + 2)) from fun e => by
              rw [List.drop_eq_nil_of_le (by rw [HLN.out]; omega)]; exact Seen.nil)
            clear hown3
            rcases Nat.lt_or_ge (q + 2) c with hqc | hqc
            · go_wp2
              go_roundg (gk - (q + 2))
              case rel => exact ⟨_, _, _, u, f', by first | rfl | (congr 1; omega), HDL, by omega, by omega, HSD, HGD, HO3, HRU, HRR, by omega, HX3.out⟩
              case measure => omega
            · have hce : q + 2 = c := by omega
              have HSE2 := Lib.hid (HSE.out hce)
              have hgk : gk = q + 2 := by omega
              subst hce
              clear HSE
              go_wp2
              go_roundg (gk - (q + 2))
              case rel => exact ⟨_, _, _, u, f', by first | rfl | (congr 1; omega), HDL, by omega, by omega, HSE2, HGD, HO3, HRU, HRR, by omega, HX3.out⟩
              case measure => omega
end Go.Proofs.Ytdohnbdhloknnaa
