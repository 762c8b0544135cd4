/-
  Layer 12's code: a tree without the parts of some lines; what is active, and what is explicit in it. Condition: at most 200 lines.
-/
import Derived.Test.YtkifapbiimlafaaGroupA
import Derived.Test.YtkifapbiimlafaaGroupE
import Derived.Test.YtkifapbiimlafaaLinesM
namespace Go.Proofs.Ytkifapbiimlafaa
open Go.RowKit
set_option linter.unusedVariables false

theorem and_one12 {m : Int} (hm : m = 0 ∨ m = 1 ∨ m = 2 ∨ m = 3) : bits BinOp.and IntKind.i64 m 1 = m % 2 := by
  rcases hm with rfl | rfl | rfl | rfl <;> decide +kernel
theorem offClosure (l : T.Ln) (b : Bool) (w : World) (hm : 0 ≤ l.mark ∧ l.mark ≤ 3) (hb : T.offF l = b) :
    Calls Try.prog 34 #[.agg #[.int .i64 l.depth, .string (sB l.word), .int .i64 l.mark]] w (BoolS w b) := by
  obtain ⟨d, wd, m⟩ := l
  have hm : 0 ≤ m ∧ m ≤ 3 := hm
  have hm4 : m = 0 ∨ m = 1 ∨ m = 2 ∨ m = 3 := by omega
  have h2 := and_one12 hm4
  have hx : Below w.heap.size w (w.alloc (.cells #[.int .i64 d, .string (sB wd), .int .i64 m] 40)) := (Below.refl _ _).alloc (Nat.le_refl _) _
  have hb : decide (m % 2 = 1) = b := hb
  cases b with
  | true =>
    rw [of_decide_eq_true hb] at h2
    clear hb hm hm4
    go_enter Try.func34, Try.ntmps34
    go_wp2
    go_ret
    exact ⟨rfl, hx⟩
  | false =>
    rw [show m % 2 = 0 by have := of_decide_eq_false hb; omega] at h2
    clear hb hm hm4
    go_enter Try.func34, Try.ntmps34
    go_wp2
    go_ret
    exact ⟨rfl, hx⟩
theorem ofGroups_any (x : List UInt8) (w : World) : Calls Try.prog 51 #[.string (sB x)] w (fun e w' => e = .returned (.bool (x == T.wGroups || x == T.wApply)) ∧ w = w') := by
  cases hg : (x == T.wGroups) with
  | true =>
    have q1 : ((sB x).toList == [103, 114, 111, 117, 112, 115]) = true := by rw [sB_toList]; exact hg
    clear hg
    go_enter Try.func51, Try.ntmps51
    go_wp2
    go_ret
    exact ⟨rfl, rfl⟩
  | false =>
    have q1 : ((sB x).toList == [103, 114, 111, 117, 112, 115]) = false := by rw [sB_toList]; exact hg
    cases hg2 : (x == T.wApply) with
    | true =>
      have q3 : ((sB x).toList == [97, 112, 112, 108, 121]) = true := by rw [sB_toList]; exact hg2
      clear hg hg2
      go_enter Try.func51, Try.ntmps51
      go_wp2
      go_ret
      exact ⟨rfl, rfl⟩
    | false =>
      have q3 : ((sB x).toList == [97, 112, 112, 108, 121]) = false := by rw [sB_toList]; exact hg2
      clear hg hg2
      go_enter Try.func51, Try.ntmps51
      go_wp2
      go_ret
      exact ⟨rfl, rfl⟩
theorem ofGroups_is (x : List UInt8) (b : Bool) (w : World) (hb : (x == T.wGroups || x == T.wApply) = b) : Calls Try.prog 51 #[.string (sB x)] w (fun e w' => e = .returned (.bool b) ∧ w = w') := by
  rw [← hb]; exact ofGroups_any x w
theorem grpClosure (l : T.Ln) (b : Bool) (w : World) (hb : T.grpF l = b) :
    Calls Try.prog 50 #[.agg #[.int .i64 l.depth, .string (sB l.word), .int .i64 l.mark]] w (BoolS w b) := by
  obtain ⟨d, wd, m⟩ := l
  have hx : Below w.heap.size w (w.alloc (.cells #[.int .i64 d, .string (sB wd), .int .i64 m] 40)) := (Below.refl _ _).alloc (Nat.le_refl _) _
  have hb : (decide (d = 0) && (wd == T.wGroups || wd == T.wApply)) = b := hb
  cases hd : (d == 0) with
  | true =>
    have q : decide (d = 0) = true := by rw [beq_iff_eq] at hd; exact decide_eq_true hd
    rw [q, Bool.true_and] at hb
    have HB := Lib.hid hb
    obtain rfl : d = 0 := of_decide_eq_true q
    clear hb hd q
    go_enter Try.func50, Try.ntmps50
    go_wp2_with (refine (ofGroups_is wd b _ HB.out).mono ?_; rintro e w' ⟨rfl, rfl⟩)
    go_ret
    exact ⟨rfl, hx⟩
  | false =>
    have q : decide (d = 0) = false := by
      refine decide_eq_false fun e => ?_
      rw [e] at hd; cases hd
    rw [q, Bool.false_and] at hb
    subst hb
    go_enter Try.func50, Try.ntmps50
    go_wp2_with (refine (ofGroups_is wd _ _ rfl).mono ?_; rintro e w' ⟨rfl, rfl⟩)
    go_ret
    exact ⟨rfl, hx⟩
theorem endC12 (A : Option Addr) (c n : Nat) (t : List T.Ln) (i : Nat) (w : World) (hn : t.length = n) (hA : Seen eL w A t) (hi : i < n) (hl : n ≤ 1073741824) (hR : T.RightT t) :
    Calls Try.prog 49 #[.slice A n c, .int .i64 i] w (IntS w (T.endL t i : Nat)) := by subst hn; exact End_yes A c t i w hA hl hi hR
set_option maxRecDepth 100000 in
set_option maxHeartbeats 8000000 in
theorem without_off (A : Option Addr) (c n : Nat) (t : List T.Ln) (w : World) (hn : t.length = n) (hA : Seen eL w A t) (hl : n ≤ 1073741824) (hR : T.RightT t) :
    Calls Try.prog 33 #[.slice A n c, .func (.func 34) #[] #[]] w (OwnS eL w (T.leftTo t T.offF t.length)) := by
  have HA := Lib.hid hA
  have HN := Lib.hid hn
  have HR := Lib.hid hR
  clear hA hn hR
  go_enter Try.func33, Try.ntmps33
  go_wp2
  go_loopg [5, 6] n (fun g vo vi wr => ∃ i : Nat, Hid (i + g = n) ∧ vi = .int .i64 (i : Int) ∧ Hid (Own eL wr w.heap.size vo (T.leftTo t T.offF i)) ∧ Hid (T.Clean t T.offF i) ∧ Hid (Below w.heap.size w wr))
  case atStart => exact ⟨0, Nat.zero_add _, rfl, Own.nil _ _, T.Clean.start t T.offF, Below.refl _ _⟩
  case round =>
    obtain ⟨i, HG, rfl, HO, HC, HB⟩ := hrel
    have hgk := HG.out
    by_cases hlt : i < n
    · have blt : decide ((i : Int) < (n : Int)) = true := decide_eq_true (by omega)
      have blt2 : decide (i < n) = true := decide_eq_true hlt
      have hit : i < t.length := by rw [HN.out]; exact hlt
      have hiz : (i : Int) < (n : Int) := by omega
      obtain ⟨b, o, rfl, hbw, hL⟩ := HA.out.lines (by omega)
      obtain ⟨c0, c1, c2⟩ := (hL.below HB.out hbw).line hit
      have HCL := Lib.hid (fun b w hb => offClosure (T.at_ t i) b w (HR.out.mark i hit) hb)
      have HLN := Lib.hid (show (T.leftTo t T.offF i).length ≤ n by have := T.leftTo_len t T.offF i; omega)
      clear hL
      cases hf : T.offF (T.at_ t i) with
      | true =>
        have HX := Lib.hid (HC.out.skip HR.out hit hf)
        have HF1 := Lib.hid hf
        have hend := T.end_spec t i hit
        rw [HN.out] at hend
        have HEN := Lib.hid hend
        clear hf hend
        go_wp2_with fail
        refine (HCL.out true _ HF1.out).mono ?_
        rintro e w2 ⟨rfl, hx2⟩
        have HB2 := Lib.hid (HB.out.trans (hx2.mono HB.out.size))
        have HO2 := Lib.hid (HO.out.keep hx2)
        clear hx2
        go_wp2_with fail
        refine (endC12 _ c n t i _ HN.out (HA.out.below HB2.out) hlt hl HR.out).mono ?_
        rintro e w3 ⟨rfl, hx3⟩
        have HB3 := Lib.hid (HB2.out.trans (hx3.mono HB2.out.size))
        have HO3 := Lib.hid (HO2.out.keep hx3)
        clear hx3
        go_wp2
        go_roundg (n - T.endL t i)
        case rel => exact ⟨T.endL t i, (by show _ = _; have := HEN.out; omega), rfl, (by rw [HX.out.1]; exact HO3.out), HX.out.2, HB3.out⟩
        case measure => have := HEN.out; omega
      | false =>
        have HX := Lib.hid (HC.out.keep HR.out hit hf)
        have HF1 := Lib.hid hf
        clear hf
        go_wp2_with fail
        refine (HCL.out false _ HF1.out).mono ?_
        rintro e w2 ⟨rfl, hx2⟩
        have k0 := (hx2.cell (p := ⟨b, _, none⟩) (Nat.lt_of_lt_of_le hbw HB.out.size)).trans c0
        have k1 := (hx2.cell (p := ⟨b, _, none⟩) (Nat.lt_of_lt_of_le hbw HB.out.size)).trans c1
        have k2 := (hx2.cell (p := ⟨b, _, none⟩) (Nat.lt_of_lt_of_le hbw HB.out.size)).trans c2
        have HB2 := Lib.hid (HB.out.trans (hx2.mono HB.out.size))
        have HO2 := Lib.hid (HO.out.keep hx2)
        have hsz := HB2.out.size
        clear hx2 c0 c1 c2
        go_wp2_with (at_builtin; refine wpList_appG eL w2 rfl (.tmp 20) (.tmp 25) rfl w.heap.size u5 (T.leftTo t T.offF i) rfl HO2.out (T.at_ t i) 1 _ rfl w2.heap.size rfl rfl (by have := HLN.out; omega) hsz ?_; intro v5 w5 hown5 hb5; have HB5 := Lib.hid (HB2.out.trans hb5); have HO5 := Lib.hid hown5; clear hown5 hb5)
        go_roundg (n - (i + 1))
        case rel => exact ⟨i + 1, (by show _ = _; omega), by go_num, (by rw [HX.out.1]; exact HO5.out), HX.out.2, HB5.out⟩
        case measure => omega
    · have blt : decide ((i : Int) < (n : Int)) = false := decide_eq_false (by omega)
      have blt2 : decide (i < n) = false := decide_eq_false hlt
      have hown := HO.out
      rw [show i = t.length by rw [HN.out]; omega] at hown
      have HOW := Lib.hid hown
      clear hown
      go_wp2
      go_ret
      exact ⟨_, rfl, HOW.out, HB.out⟩
set_option maxRecDepth 100000 in
set_option maxHeartbeats 8000000 in
theorem without_grp (A : Option Addr) (c n : Nat) (t : List T.Ln) (w : World) (hn : t.length = n) (hA : Seen eL w A t) (hl : n ≤ 1073741824) (hR : T.RightT t) :
    Calls Try.prog 33 #[.slice A n c, .func (.func 50) #[] #[]] w (OwnS eL w (T.leftTo t T.grpF t.length)) := by
  have HA := Lib.hid hA
  have HN := Lib.hid hn
  have HR := Lib.hid hR
  clear hA hn hR
  go_enter Try.func33, Try.ntmps33
  go_wp2
  go_loopg [5, 6] n (fun g vo vi wr => ∃ i : Nat, Hid (i + g = n) ∧ vi = .int .i64 (i : Int) ∧ Hid (Own eL wr w.heap.size vo (T.leftTo t T.grpF i)) ∧ Hid (T.Clean t T.grpF i) ∧ Hid (Below w.heap.size w wr))
  case atStart => exact ⟨0, Nat.zero_add _, rfl, Own.nil _ _, T.Clean.start t T.grpF, Below.refl _ _⟩
  case round =>
    obtain ⟨i, HG, rfl, HO, HC, HB⟩ := hrel
    have hgk := HG.out
    by_cases hlt : i < n
    · have blt : decide ((i : Int) < (n : Int)) = true := decide_eq_true (by omega)
      have blt2 : decide (i < n) = true := decide_eq_true hlt
      have hit : i < t.length := by rw [HN.out]; exact hlt
      have hiz : (i : Int) < (n : Int) := by omega
      obtain ⟨b, o, rfl, hbw, hL⟩ := HA.out.lines (by omega)
      obtain ⟨c0, c1, c2⟩ := (hL.below HB.out hbw).line hit
      have HCL := Lib.hid (fun b w hb => grpClosure (T.at_ t i) b w hb)
      have HLN := Lib.hid (show (T.leftTo t T.grpF i).length ≤ n by have := T.leftTo_len t T.grpF i; omega)
      clear hL
      cases hf : T.grpF (T.at_ t i) with
      | true =>
        have HX := Lib.hid (HC.out.skip HR.out hit hf)
        have HF1 := Lib.hid hf
        have hend := T.end_spec t i hit
        rw [HN.out] at hend
        have HEN := Lib.hid hend
        clear hf hend
        go_wp2_with fail
        refine (HCL.out true _ HF1.out).mono ?_
        rintro e w2 ⟨rfl, hx2⟩
        have HB2 := Lib.hid (HB.out.trans (hx2.mono HB.out.size))
        have HO2 := Lib.hid (HO.out.keep hx2)
        clear hx2
        go_wp2_with fail
        refine (endC12 _ c n t i _ HN.out (HA.out.below HB2.out) hlt hl HR.out).mono ?_
        rintro e w3 ⟨rfl, hx3⟩
        have HB3 := Lib.hid (HB2.out.trans (hx3.mono HB2.out.size))
        have HO3 := Lib.hid (HO2.out.keep hx3)
        clear hx3
        go_wp2
        go_roundg (n - T.endL t i)
        case rel => exact ⟨T.endL t i, (by show _ = _; have := HEN.out; omega), rfl, (by rw [HX.out.1]; exact HO3.out), HX.out.2, HB3.out⟩
        case measure => have := HEN.out; omega
      | false =>
        have HX := Lib.hid (HC.out.keep HR.out hit hf)
        have HF1 := Lib.hid hf
        clear hf
        go_wp2_with fail
        refine (HCL.out false _ HF1.out).mono ?_
        rintro e w2 ⟨rfl, hx2⟩
        have k0 := (hx2.cell (p := ⟨b, _, none⟩) (Nat.lt_of_lt_of_le hbw HB.out.size)).trans c0
        have k1 := (hx2.cell (p := ⟨b, _, none⟩) (Nat.lt_of_lt_of_le hbw HB.out.size)).trans c1
        have k2 := (hx2.cell (p := ⟨b, _, none⟩) (Nat.lt_of_lt_of_le hbw HB.out.size)).trans c2
        have HB2 := Lib.hid (HB.out.trans (hx2.mono HB.out.size))
        have HO2 := Lib.hid (HO.out.keep hx2)
        have hsz := HB2.out.size
        clear hx2 c0 c1 c2
        go_wp2_with (at_builtin; refine wpList_appG eL w2 rfl (.tmp 20) (.tmp 25) rfl w.heap.size u5 (T.leftTo t T.grpF i) rfl HO2.out (T.at_ t i) 1 _ rfl w2.heap.size rfl rfl (by have := HLN.out; omega) hsz ?_; intro v5 w5 hown5 hb5; have HB5 := Lib.hid (HB2.out.trans hb5); have HO5 := Lib.hid hown5; clear hown5 hb5)
        go_roundg (n - (i + 1))
        case rel => exact ⟨i + 1, (by show _ = _; omega), by go_num, (by rw [HX.out.1]; exact HO5.out), HX.out.2, HB5.out⟩
        case measure => omega
    · have blt : decide ((i : Int) < (n : Int)) = false := decide_eq_false (by omega)
      have blt2 : decide (i < n) = false := decide_eq_false hlt
      have hown := HO.out
      rw [show i = t.length by rw [HN.out]; omega] at hown
      have HOW := Lib.hid hown
      clear hown
      go_wp2
      go_ret
      exact ⟨_, rfl, HOW.out, HB.out⟩
theorem explicitOf_any (A : Option Addr) (c n : Nat) (a x : List T.Ln) (w : World) (hn : a.length = n) (hA : Seen eL w A a) (hl : n ≤ 1073741824) (hR : T.RightT a) (hx : T.leftTo a T.grpF a.length = x) :
    Calls Try.prog 35 #[.slice A n c] w (OwnS eL w x) := by
  have hc := without_grp A c n a w hn hA hl hR
  rw [hx] at hc
  clear hA hR
  go_enter Try.func35, Try.ntmps35
  go_wp2_with fail
  refine hc.mono ?_
  rintro e w' ⟨v, rfl, ho, hb⟩
  have HO := Lib.hid ho
  have HB := Lib.hid hb
  clear ho hb hc
  go_wp2
  go_ret
  exact ⟨v, rfl, HO.out, HB.out⟩
namespace T
theorem zero_next {u : List Ln} {k : Nat} (hk : k < u.length) : S.setM (zeroTo u k) k 0 = zeroTo u (k + 1) := by
  have hl : ((u.take k).map zeroM).length = k := by rw [List.length_map, List.length_take]; omega
  have e1 : zeroTo u k = (u.take k).map zeroM ++ u[k] :: u.drop (k + 1) := by unfold zeroTo; rw [List.drop_eq_getElem_cons hk]
  have e2 : at_ (zeroTo u k) k = u[k] := by
    unfold at_ List.getD
    rw [e1, List.getElem?_append_right (by omega), hl, Nat.sub_self]
    rfl
  unfold S.setM dp wd
  rw [e2, e1, List.set_append_right _ _ (by omega), hl, Nat.sub_self, List.set_cons_zero]
  unfold zeroTo
  rw [List.take_succ_eq_append_getElem hk, List.map_append, List.append_assoc]
  rfl
end T
set_option maxRecDepth 100000 in
set_option maxHeartbeats 4000000 in
theorem active_ok (A : Option Addr) (c n m : Nat) (t u : List T.Ln) (er : Int) (w : World) (h : LArg w A c n t) (hu : ActiveIs t u er) (hm : u.length = m) : Calls Try.prog 12 #[.slice A n c] w (fun e w' => ∃ v, e = .returned (.tuple #[v, .int .i64 er]) ∧ Own eL w' w.heap.size v u ∧ Below w.heap.size w w') := by
  have HA := Lib.hid h.seen
  have HN := Lib.hid h.len
  have hl := h.small
  have HM := Lib.hid hm
  clear h hm
  by_cases hR : T.RightT t
  · obtain ⟨rfl, rfl⟩ : u = T.actL t ∧ er = 0 := by
      rcases hu with ⟨_, h1, h2⟩ | ⟨h0, _, _⟩
      · exact ⟨h1, h2⟩
      · exact absurd hR h0
    have HR := Lib.hid hR
    have hc := without_off A c n t
    obtain ⟨x, hx⟩ : ∃ x, T.leftTo t T.offF t.length = x := ⟨_, rfl⟩
    rw [hx] at hc
    have HZ := Lib.hid (show x.map T.zeroM = T.actL t by rw [← hx]; exact T.left_active hR)
    obtain ⟨y, hy⟩ : ∃ y, T.actL t = y := ⟨_, rfl⟩
    rw [hy] at HZ HM ⊢
    have HXL := Lib.hid (show x.length = m by rw [← HM.out, ← HZ.out, List.length_map])
    have hm200 : m ≤ 200 := by rw [← HM.out, ← hy]; exact (T.act_right hR).len
    clear hx hy hu hR
    have hr := right_is A c t true w HA.out (by rw [HN.out]; exact hl) (yes_iff HR.out)
    rw [HN.out] at hr
    go_enter Try.func12, Try.ntmps12
    go_wp2_with fail
    refine hr.mono ?_
    rintro e w1 ⟨rfl, hb1⟩
    have HB1 := Lib.hid hb1
    clear hr hb1
    go_wp2_with fail
    refine (hc w1 HN.out (HA.out.below HB1.out) hl HR.out).mono ?_
    rintro e w2 ⟨v, rfl, ho, hb2⟩
    have HB2 := Lib.hid (HB1.out.trans (hb2.mono HB1.out.size))
    have hown := ho.base HB1.out.size
    obtain ⟨A2, c2, rfl, hc2, hs2⟩ := hown.seen
    rw [HXL.out] at hown hc2 ⊢
    have HO := Lib.hid hown
    clear hc ho hb2 hown hs2
    go_wp2
    go_loopg [5, 13] m (fun g v5 vi wr => ∃ i : Nat, Hid (i + g = m) ∧ vi = .int .i64 (i : Int) ∧ Hid (Own eL wr w.heap.size (.slice A2 m c2) (T.zeroTo x i)) ∧ Hid (Below w.heap.size w wr))
    case atStart => exact ⟨0, Nat.zero_add _, rfl, (by rw [T.zero_start]; exact HO.out), HB2.out⟩
    case round =>
      obtain ⟨i, HG, rfl, HO, HB⟩ := hrel
      have hgk := HG.out
      by_cases hlt : i < m
      · have blt : decide ((i : Int) < (m : Int)) = true := decide_eq_true (by omega)
        have blt2 : decide (i < m) = true := decide_eq_true hlt
        have hix : i < x.length := by rw [HXL.out]; exact hlt
        have hiz : (i : Int) < (m : Int) := by omega
        have HNX := Lib.hid (T.zero_next hix)
        rcases HO.out.src with ⟨e1, e2⟩ | ⟨g2, cap, e1, hg2, hH2⟩
        · have := congrArg List.length e2
          rw [T.zero_len, List.length_nil] at this
          omega
        · injection e1 with e1 e3 e4
          subst e1
          obtain ⟨hfz, hbg, _⟩ := HO.out.unfrozen (i * 3 + 2)
          have HM2 := Lib.hid (HO.out.mark (i := i) (by rw [T.zero_len]; exact hix) 0)
          rw [HNX.out] at HM2
          have HBG := Lib.hid hbg
          have hgw := hg2
          obtain ⟨_, _, k2⟩ := hH2.line (show i < (T.zeroTo x i).length by rw [T.zero_len]; exact hix)
          rw [Nat.zero_add] at k2
          clear e3 e4 hbg hH2
          go_wp2
          go_roundg (m - (i + 1))
          case rel => exact ⟨i + 1, (by show _ = _; omega), by go_num, HM2.out, HB.out.setCell HBG.out _⟩
          case measure => omega
      · have blt : decide ((i : Int) < (m : Int)) = false := decide_eq_false (by omega)
        have blt2 : decide (i < m) = false := decide_eq_false hlt
        have hown := HO.out
        rw [show i = x.length by rw [HXL.out]; omega, T.zero_all, HZ.out] at hown
        have HOW := Lib.hid hown
        clear hown
        go_wp2
        go_ret2
        exact ⟨_, rfl, HOW.out, HB.out⟩
  · obtain ⟨rfl, rfl⟩ : u = [] ∧ er = 1 := by
      rcases hu with ⟨h0, _, _⟩ | ⟨_, h1, h2⟩
      · exact absurd h0 hR
      · exact ⟨h1, h2⟩
    have hr := right_is A c t false w HA.out (by rw [HN.out]; exact hl) (no_iff hR)
    rw [HN.out] at hr
    clear hR hu
    go_enter Try.func12, Try.ntmps12
    go_wp2_with fail
    refine hr.mono ?_
    rintro e w1 ⟨rfl, hb1⟩
    have HB1 := Lib.hid hb1
    clear hr hb1
    go_wp2
    go_ret2
    exact ⟨_, rfl, Own.nil _ _, HB1.out⟩
end Go.Proofs.Ytkifapbiimlafaa
