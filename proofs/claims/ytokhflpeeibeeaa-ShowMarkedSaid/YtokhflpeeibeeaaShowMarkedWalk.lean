/-
  The walk of layer 4's statement ShowMarked: it returns true whatever the lines and the number are. No conditions.
-/
import Derived.Test.YtokhflpeeibeeaaShowAwake
import Derived.Test.YtokhflpeeibeeaaOwnMany
namespace Go.Proofs.Ytokhflpeeibeeaa
open Go.RowKit

/-- Three lists of lines of the call's own, made since the world w0. -/
structure Trio (w0 w : World) (va vb vc : Value) (la lb lc : List T.Ln) : Prop where
  a : Own eL w w0.heap.size va la
  b : Own eL w w0.heap.size vb lb
  c : Own eL w w0.heap.size vc lc
  ab : Apart va vb
  ac : Apart va vc
  bc : Apart vb vc
  below : Below w0.heap.size w0 w
/-- None of the three lies at the block p. -/
structure Off (va vb vc : Value) (p : Nat) : Prop where
  a : va.ownBlock ≠ some p
  b : vb.ownBlock ≠ some p
  c : vc.ownBlock ≠ some p
section
variable {w0 w w' : World} {va vb vc v' : Value} {la lb lc l' : List T.Ln} {p : Nat}
theorem Trio.nil (w0 : World) : Trio w0 w0 (.slice none 0 0) (.slice none 0 0) (.slice none 0 0) [] [] [] := ⟨Own.nil _ _, Own.nil _ _, Own.nil _ _, Apart.nil _, Apart.nil _, Apart.nil _, Below.refl _ _⟩
theorem Trio.alloc (h : Trio w0 w va vb vc la lb lc) (o : Obj) : Trio w0 (w.alloc o) va vb vc la lb lc := ⟨h.a.alloc o, h.b.alloc o, h.c.alloc o, h.ab, h.ac, h.bc, h.below.alloc h.below.size o⟩
theorem Trio.stored (h : Trio w0 w va vb vc la lb lc) (ho : Off va vb vc p) (hp : w0.heap.size ≤ p) (j : Nat) (x : Value) : Trio w0 (w.setCell ⟨p, j, none⟩ x) va vb vc la lb lc :=
  ⟨h.a.stored x (fun k hk e => ho.a (by rw [hk, e])), h.b.stored x (fun k hk e => ho.b (by rw [hk, e])), h.c.stored x (fun k hk e => ho.c (by rw [hk, e])), h.ab, h.ac, h.bc, h.below.setCell (p := ⟨p, j, none⟩) hp x⟩
theorem Trio.goA (h : Trio w0 w va vb vc la lb lc) (hG : Grew eL w w' w0.heap.size va v' l') : Trio w0 w' v' vb vc l' lb lc :=
  ⟨hG.own, h.b.other hG.grown h.ab.symm, h.c.other hG.grown h.ac.symm, (hG.apart h.b h.ab.symm).symm, (hG.apart h.c h.ac.symm).symm, h.bc, h.below.trans (hG.below h.a h.below.size)⟩
theorem Trio.goB (h : Trio w0 w va vb vc la lb lc) (hG : Grew eL w w' w0.heap.size vb v' l') : Trio w0 w' va v' vc la l' lc :=
  ⟨h.a.other hG.grown h.ab, hG.own, h.c.other hG.grown h.bc.symm, hG.apart h.a h.ab, h.ac, (hG.apart h.c h.bc.symm).symm, h.below.trans (hG.below h.b h.below.size)⟩
theorem Trio.goC (h : Trio w0 w va vb vc la lb lc) (hG : Grew eL w w' w0.heap.size vc v' l') : Trio w0 w' va vb v' la lb l' :=
  ⟨h.a.other hG.grown h.ac, h.b.other hG.grown h.bc, hG.own, h.ab, hG.apart h.a h.ac, hG.apart h.b h.bc, h.below.trans (hG.below h.c h.below.size)⟩
theorem Trio.off (h : Trio w0 w va vb vc la lb lc) : Off va vb vc w.heap.size :=
  ⟨fun e => Nat.lt_irrefl _ (h.a.lt _ e).2, fun e => Nat.lt_irrefl _ (h.b.lt _ e).2, fun e => Nat.lt_irrefl _ (h.c.lt _ e).2⟩
theorem Grew.off {base : Nat} {v : Value} (hG : Grew eL w w' base v v' l') (h : v.ownBlock ≠ some p) (hp : p < w.heap.size) : v'.ownBlock ≠ some p := by
  intro e
  rcases hG.at_ with h3 | ⟨g, h3, h4⟩
  · rw [h3] at e; exact h e
  · rw [h3] at e; injection e with e; omega
/-- A line's block, behind an append. -/
theorem LineAt.grew {base : Nat} {v : Value} {x : T.Ln} (h : LineAt w p x) (hG : Grew eL w w' base v v' l') (hne : v.ownBlock ≠ some p) : LineAt w' p x := hG.block h hne
theorem LineAt.mark {x : T.Ln} (h : LineAt w p x) (m : Int) : LineAt (w.setCell ⟨p, 2, none⟩ (.int .i64 m)) p ⟨x.depth, x.word, m⟩ := by
  unfold LineAt at h ⊢
  have hs : (w.setCell ⟨p, 2, none⟩ (.int .i64 m)).heap = w.heap.modify p (fun o => match o with | .cells c t fz => .cells (c.set! 2 (.int .i64 m)) t fz | o => o) := rfl
  rw [hs, Array.getElem?_modify, if_pos rfl, h]
  rfl
theorem LineAt.free {x : T.Ln} (h : LineAt w p x) (j : Nat) : w.frozen? ⟨p, j, none⟩ = false := by
  unfold LineAt lnO at h
  exact Lib.frozen_of_heap h j
end
theorem setM_next (t : List T.Ln) (k j : Nat) (m : Int) (hk : k < t.length) (hj : j < t.length) : (S.setM t k m).take (j + 1) = (S.setM t k m).take j ++ [if j = k then ⟨T.dp t k, T.wd t k, m⟩ else T.at_ t j] := by
  have hl := S.setM_len t k m
  rw [List.take_succ_eq_append_getElem (by rw [hl]; exact hj), at_get _ _ (by rw [hl]; exact hj), S.setM_at t k m j hk]
theorem text_q (A : Option Addr) (c n : Nat) (t : List T.Ln) (q : ByteArray) (w : World) (hA : Seen eL w A t) (hn : t.length = n) (hR : T.RightT t) (h : q.data.toList = S.textL t) :
    Calls Try.prog 11 #[.slice A n c] w (fun e w' => e = .returned (.tuple #[.string q, .int .i64 0]) ∧ Below w.heap.size w w') :=
  (text_is A c n t _ w hA hn hR h.symm).mono fun e w' h => ⟨by rw [h.1, Lib.mk_data], h.2⟩

set_option maxRecDepth 100000 in
set_option maxHeartbeats 4000000 in
theorem showMarked_walk (w : World) (A : Option Addr) (c : Nat) (t : List T.Ln) (_hc : t.length ≤ c) (hA : Seen eL w A t) (hl : t.length ≤ maxLen) (a : Int) (wa : (Lit.int .u8 a).wf = true) :
    Calls Try.prog 8 #[.slice A t.length c, .int .u8 a] w (TrueS w) := by
  obtain ⟨ha0, ha1⟩ := bounds_u8 wa
  obtain ⟨m, rfl⟩ := Int.eq_ofNat_of_zero_le ha0
  clear wa ha0
  unfold maxLen at hl
  have HA := Lib.hid hA
  clear hA
  have hb : Below w.heap.size w w := Below.refl _ _
  go_enter Try.func8, Try.ntmps8
  go_wp2_with fail
  refine (small_is A c t _ HA.out).mono ?_
  rintro e w1 ⟨bs, rfl, hsm, hx⟩
  replace HA := Lib.hid (HA.out.below hx)
  replace hb := bthen hb hx
  clear hx
  cases bs with
  | false =>
    clear hsm
    go_wp2_with fail
    refine (awake_any _).mono ?_
    rintro e wz ⟨rfl, hx⟩
    go_wp2
    go_ret
    exact ⟨rfl, bthen hb hx⟩
  | true =>
    replace hsm := hsm rfl
    by_cases h0 : t.length = 0
    · have b0 : ((t.length : Int) == 0) = true := beq_iff_eq.2 (by omega)
      clear h0
      go_wp2_with fail
      refine (awake_any _).mono ?_
      rintro e wz ⟨rfl, hx⟩
      go_wp2
      go_ret
      exact ⟨rfl, bthen hb hx⟩
    have b0 : ((t.length : Int) == 0) = false := beq_eq_false_iff_ne.2 (by omega)
    by_cases hR : T.RightT t
    · have HR := Lib.hid hR
      clear hR
      go_wp2_with fail
      refine (rightR_is A c t true _ HA.out (by omega) (yes_iff HR.out)).mono ?_
      rintro e w2 ⟨rfl, hx⟩
      replace HA := Lib.hid (HA.out.below hx)
      replace hb := bthen hb hx
      clear hx
      obtain ⟨b, o, rfl, hbw, hL⟩ := HA.out.lines (by omega)
      obtain ⟨k, hk⟩ : ∃ k, m % t.length = k := ⟨_, rfl⟩
      have hkl : k < t.length := by rw [← hk]; exact Nat.mod_lt _ (by omega)
      have HL := Lib.hid hL
      clear hL
      have hk2 : (m : Int) % (t.length : Int) = (k : Int) := by rw [← hk]; omega
      obtain ⟨X0, hX0⟩ : ∃ X, S.setM t k 0 = X := ⟨_, rfl⟩
      obtain ⟨X1, hX1⟩ : ∃ X, S.setM t k 1 = X := ⟨_, rfl⟩
      obtain ⟨X3, hX3⟩ : ∃ X, S.setM t k 3 = X := ⟨_, rfl⟩
      have H0 := Lib.hid hX0
      have H1 := Lib.hid hX1
      have H3 := Lib.hid hX3
      clear hX0 hX1 hX3 hk
      go_wp2
      rw [hk2]
      clear hk2
      go_loopg [6, 7, 8, 38] t.length (fun g va vb vc x wr => ∃ j : Nat, j + g = t.length ∧ x = .int .i64 j ∧ Hid (Trio w2 wr va vb vc (X0.take j) (X1.take j) (X3.take j)))
      case atStart => exact ⟨0, Nat.zero_add _, rfl, Lib.hid (by simpa using Trio.nil w2)⟩
      case round =>
        obtain ⟨j, hg, rfl, HT⟩ := hrel
        have HG := Lib.hid hg
        clear hg
        by_cases hlt : j < t.length
        · have blt : decide (j < t.length) = true := decide_eq_true hlt
          obtain ⟨c0, c1, c2⟩ := (HL.out.below HT.out.below hbw).line hlt
          have hs2 := HT.out.below.size
          have N0 := Lib.hid (setM_next t k j 0 hkl hlt)
          have N1 := Lib.hid (setM_next t k j 1 hkl hlt)
          have N3 := Lib.hid (setM_next t k j 3 hkl hlt)
          have l0 : (X0.take j).length ≤ 1000 := by rw [List.length_take]; omega
          have l1 : (X1.take j).length ≤ 1000 := by rw [List.length_take]; omega
          have l3 : (X3.take j).length ≤ 1000 := by rw [List.length_take]; omega
          have HO := Lib.hid HT.out.off
          by_cases hjk : j = k
          · subst hjk
            rw [H0.out, if_pos rfl] at N0
            rw [H1.out, if_pos rfl] at N1
            rw [H3.out, if_pos rfl] at N3
            obtain ⟨d, hd⟩ : ∃ d, T.dp t j = d := ⟨_, rfl⟩
            obtain ⟨s, hs⟩ : ∃ s, T.wd t j = s := ⟨_, rfl⟩
            rw [hd, hs] at N0 N1 N3
            rw [hd] at c0
            rw [hs] at c1
            go_wp2_with (first | (at_builtin; refine wpList_app3 eL _ rfl (.tmp 47) (.tmp 49) rfl w2.heap.size u6 (X0.take j) rfl (HT.out.alloc _).a ⟨d, s, 0⟩ 1 _ rfl (wr.heap.size + 1) (by simp) rfl (by omega) (HT.out.alloc _).below.size ?_; intro v1 x1 hG1; have HT1 := Lib.hid ((HT.out.alloc _).goA hG1); have HL1 := Lib.hid ((LineAt.new wr ⟨d, s, 0⟩).grew hG1 HO.out.a); have ho1 : Off v1 u7 u8 wr.heap.size := ⟨hG1.off HO.out.a (by simp), HO.out.b, HO.out.c⟩; have HT1s := Lib.hid (HT1.out.stored ho1 hs2 2 (.int .i64 1)); have HL1s := Lib.hid (HL1.out.mark 1); simp only [] at HL1s; clear hG1 c0 c1 c2; obtain ⟨c0, c1, c2⟩ := HL1.out.cells; simp only [] at c0 c1 c2; have f2 := HL1.out.free 2) | (at_builtin; refine wpList_app3 eL _ rfl (.tmp 55) (.tmp 57) rfl w2.heap.size u7 (X1.take j) rfl HT1s.out.b ⟨d, s, 1⟩ 1 _ rfl x1.heap.size (by simp) rfl (by omega) HT1s.out.below.size ?_; intro v2 x2 hG2; have HT2 := Lib.hid (HT1s.out.goB hG2); have HL2 := Lib.hid (HL1s.out.grew hG2 HO.out.b); have ho2 : Off v1 v2 u8 wr.heap.size := ⟨ho1.a, hG2.off ho1.b (Array.getElem?_eq_some_iff.1 HL1s.out).1, ho1.c⟩; have HT2s := Lib.hid (HT2.out.stored ho2 hs2 2 (.int .i64 3)); clear hG2 c0 c1 c2 f2; obtain ⟨c0, c1, c2⟩ := HL2.out.cells; simp only [] at c0 c1 c2; have f2 := HL2.out.free 2) | (at_builtin; refine wpList_app3 eL _ rfl (.tmp 63) (.tmp 65) rfl w2.heap.size u8 (X3.take j) rfl HT2s.out.c ⟨d, s, 3⟩ 1 _ rfl x2.heap.size (by simp) rfl (by omega) HT2s.out.below.size ?_; intro v3 x3 hG3; have HT3 := Lib.hid (HT2s.out.goC hG3); clear hG3 c0 c1 c2 f2))
            go_roundg (t.length - (j + 1))
            case rel => exact ⟨j + 1, by have := HG.out; omega, by go_num, by rw [N0.out, N1.out, N3.out]; exact HT3⟩
            case measure => have := HG.out; omega
          · have bjk : (j == k) = false := beq_eq_false_iff_ne.2 hjk
            have bjk2 : ((j : Int) == (k : Int)) = false := beq_eq_false_iff_ne.2 (by omega)
            rw [H0.out, if_neg hjk] at N0
            rw [H1.out, if_neg hjk] at N1
            rw [H3.out, if_neg hjk] at N3
            clear hjk
            obtain ⟨d, hd⟩ : ∃ d, T.dp t j = d := ⟨_, rfl⟩
            obtain ⟨s, hs⟩ : ∃ s, T.wd t j = s := ⟨_, rfl⟩
            obtain ⟨mk, hmk⟩ : ∃ x, (T.at_ t j).mark = x := ⟨_, rfl⟩
            have hat : T.at_ t j = ⟨d, s, mk⟩ := by rw [← hd, ← hs, ← hmk]; rfl
            rw [hat] at N0 N1 N3
            rw [hd] at c0
            rw [hs] at c1
            rw [hmk] at c2
            clear hd hs hmk hat
            go_wp2_with (first | (at_builtin; refine wpList_app3 eL _ rfl (.tmp 47) (.tmp 49) rfl w2.heap.size u6 (X0.take j) rfl (HT.out.alloc _).a ⟨d, s, mk⟩ 1 _ rfl (wr.heap.size + 1) (by simp) rfl (by omega) (HT.out.alloc _).below.size ?_; intro v1 x1 hG1; have HT1 := Lib.hid ((HT.out.alloc _).goA hG1); have HL1 := Lib.hid ((LineAt.new wr ⟨d, s, mk⟩).grew hG1 HO.out.a); clear hG1 c0 c1 c2; obtain ⟨c0, c1, c2⟩ := HL1.out.cells; simp only [] at c0 c1 c2) | (at_builtin; refine wpList_app3 eL _ rfl (.tmp 55) (.tmp 57) rfl w2.heap.size u7 (X1.take j) rfl HT1.out.b ⟨d, s, mk⟩ 1 _ rfl x1.heap.size rfl rfl (by omega) HT1.out.below.size ?_; intro v2 x2 hG2; have HT2 := Lib.hid (HT1.out.goB hG2); have HL2 := Lib.hid (HL1.out.grew hG2 HO.out.b); clear hG2 c0 c1 c2; obtain ⟨c0, c1, c2⟩ := HL2.out.cells; simp only [] at c0 c1 c2) | (at_builtin; refine wpList_app3 eL _ rfl (.tmp 63) (.tmp 65) rfl w2.heap.size u8 (X3.take j) rfl HT2.out.c ⟨d, s, mk⟩ 1 _ rfl x2.heap.size rfl rfl (by omega) HT2.out.below.size ?_; intro v3 x3 hG3; have HT3 := Lib.hid (HT2.out.goC hG3); clear hG3 c0 c1 c2))
            go_roundg (t.length - (j + 1))
            case rel => exact ⟨j + 1, by have := HG.out; omega, by go_num, by rw [N0.out, N1.out, N3.out]; exact HT3⟩
            case measure => have := HG.out; omega
        · have blt : decide (j < t.length) = false := decide_eq_false hlt
          obtain rfl : j = t.length := by have := HG.out; omega
          have e0 : X0.length = t.length := by rw [← H0.out]; exact S.setM_len t k 0
          have e1 : X1.length = t.length := by rw [← H1.out]; exact S.setM_len t k 1
          have e3 : X3.length = t.length := by rw [← H3.out]; exact S.setM_len t k 3
          rw [List.take_of_length_le (Nat.le_of_eq e0), List.take_of_length_le (Nat.le_of_eq e1), List.take_of_length_le (Nat.le_of_eq e3)] at HT
          have r0 : T.RightT X0 := by rw [← H0.out]; exact S.RightT.setM HR.out hkl (by decide)
          have r1 : T.RightT X1 := by rw [← H1.out]; exact S.RightT.setM HR.out hkl (by decide)
          have r3 : T.RightT X3 := by rw [← H3.out]; exact S.RightT.setM HR.out hkl (by decide)
          obtain ⟨hm1, hm3⟩ := S.marked_len t k hkl
          rw [H0.out, H1.out] at hm1
          rw [H1.out, H3.out] at hm3
          obtain ⟨q0, z0⟩ : ∃ q : ByteArray, q.data.toList = S.textL X0 := ⟨⟨(S.textL X0).toArray⟩, by simp⟩
          obtain ⟨q1, z1⟩ : ∃ q : ByteArray, q.data.toList = S.textL X1 := ⟨⟨(S.textL X1).toArray⟩, by simp⟩
          obtain ⟨q3, z3⟩ : ∃ q : ByteArray, q.data.toList = S.textL X3 := ⟨⟨(S.textL X3).toArray⟩, by simp⟩
          have y0 := S.RightT.text_len r0 X0.length (Nat.le_refl _)
          rw [← z0, ← z1, ← Lib.size_eq, ← Lib.size_eq] at hm1
          rw [← z1, ← z3, ← Lib.size_eq, ← Lib.size_eq] at hm3
          have y1 : q0.size ≤ 1000 * X0.length := by rw [Lib.size_eq, z0]; exact y0
          have y2 : q0.size ≤ 220000 := by omega
          have bq1 : ((q1.size : Int) == (q0.size : Int) + 10) = true := by simp; omega
          have bq3 : ((q3.size : Int) == (q1.size : Int) + 9) = true := by simp; omega
          have R0 := Lib.hid r0
          have R1 := Lib.hid r1
          have R3 := Lib.hid r3
          have Z0 := Lib.hid z0
          have Z1 := Lib.hid z1
          have Z3 := Lib.hid z3
          obtain ⟨A0, cap0, rfl, _, hS0⟩ := HT.out.a.seen
          obtain ⟨A1, cap1, rfl, _, hS1⟩ := HT.out.b.seen
          obtain ⟨A3, cap3, rfl, _, hS3⟩ := HT.out.c.seen
          have HS0 := Lib.hid hS0
          have HS1 := Lib.hid hS1
          have HS3 := Lib.hid hS3
          replace hb := bthen hb HT.out.below
          have E0 := Lib.hid e0
          have E1 := Lib.hid e1
          have E3 := Lib.hid e3
          clear r0 r1 r3 z0 z1 z3 hS0 hS1 hS3 y0 y1 e0 e1 e3 HT
          go_wp2_with fail
          refine (text_q A0 cap0 X0.length X0 q0 _ HS0.out rfl R0.out Z0.out).mono ?_
          rintro e w3 ⟨rfl, hx⟩
          replace HS1 := Lib.hid (HS1.out.below hx)
          replace HS3 := Lib.hid (HS3.out.below hx)
          replace hb := bthen hb hx
          clear hx
          go_wp2_with fail
          refine (text_q A1 cap1 X1.length X1 q1 _ HS1.out rfl R1.out Z1.out).mono ?_
          rintro e w4 ⟨rfl, hx⟩
          replace HS3 := Lib.hid (HS3.out.below hx)
          replace hb := bthen hb hx
          clear hx
          go_wp2_with fail
          refine (text_q A3 cap3 X3.length X3 q3 _ HS3.out rfl R3.out Z3.out).mono ?_
          rintro e w5 ⟨rfl, hx⟩
          replace hb := bthen hb hx
          clear hx
          go_wp2_with fail
          refine (awake_any _).mono ?_
          rintro e wz ⟨rfl, hx⟩
          go_wp2
          go_ret
          exact ⟨rfl, bthen hb hx⟩
    · have HR := Lib.hid hR
      clear hR
      go_wp2_with fail
      refine (rightR_is A c t false _ HA.out (by omega) (no_iff HR.out)).mono ?_
      rintro e wx3 ⟨rfl, hx⟩
      replace hb := bthen hb hx
      clear hx
      go_wp2_with fail
      refine (awake_any _).mono ?_
      rintro e wz ⟨rfl, hx⟩
      go_wp2
      go_ret
      exact ⟨rfl, bthen hb hx⟩
end Go.Proofs.Ytokhflpeeibeeaa
