/-
  Contracts of the document's one and Text (layer 6): a command, and a tree's commands. Condition: a tree.
-/
import Derived.Test.YtdohnbdhloknnaaShowRef
import Derived.Test.YtdohnbdhloknnaaPureL
import Derived.Test.YtdohnbdhloknnaaTreeE
namespace Go.Proofs.Ytdohnbdhloknnaa
open Go.RowKit
set_option linter.unusedVariables false

set_option maxRecDepth 100000 in
set_option maxHeartbeats 2000000 in
theorem refOne_any (v : List UInt8) (B : Option Addr) (c n : Nat) (p : T.Pth) (w : World) (hn : p.length = n) (hv : v.length ≤ 10) (hB : Seen eS w B p) (hp16 : n ≤ 16) (hp40 : ∀ x ∈ p, x.length ≤ 40) :
    Calls Try.prog 33 #[.string ⟨v.toArray⟩, .slice B n c] w (WroteQ w.heap.size w (S.cmdT v p)) := by
  have HB := Lib.hid hB
  have HP := Lib.hid hp40
  have HN := Lib.hid hn
  clear hB hp40 hn
  go_enter Try.func33, Try.ntmps33
  go_wp2
  go_loopg [5, 6] n (fun g vs vi wr => ∃ k : Nat, ∃ l : List UInt8, Hid (k + g = n) ∧ k ≤ n ∧ vi = .int .i64 k ∧ vs = .string ⟨l.toArray⟩ ∧ Hid (l = v ++ S.wordsT (p.take k)) ∧ Below w.heap.size w wr)
  case atStart => exact ⟨0, v, Nat.zero_add _, Nat.zero_le _, rfl, rfl, (by show _ = _; simp [S.wordsT]), Below.refl _ _⟩
  case round =>
    obtain ⟨k, l, HG, hk, rfl, rfl, HL, hb⟩ := hrel
    have hll : l.length ≤ 3000 := by
      have h1 := S.wordsT_len (p.take k) fun x hx => HP.out x (List.mem_of_mem_take hx)
      rw [List.length_take] at h1
      rw [HL.out, List.length_append]
      omega
    by_cases hlt : k < n
    · have blt : decide (k < n) = true := decide_eq_true hlt
      have hkp : k < p.length := by have := HN.out; omega
      obtain ⟨b, o, rfl, hbw, hH⟩ := HB.out (by omega)
      have c1 := (hH.below hb hbw).str hkp
      obtain ⟨x, hx⟩ : ∃ x, p[k] = x := ⟨_, rfl⟩
      have hx40 : x.length ≤ 40 := by rw [← hx]; exact HP.out _ (List.getElem_mem hkp)
      obtain ⟨q, hq⟩ : ∃ q, W.quoteL x = q := ⟨_, rfl⟩
      have hql : q.length ≤ 162 := by have := (W.quote_len x).2; rw [hq] at this; omega
      have HW := Lib.hid (show S.wordsT (p.take (k + 1)) = S.wordsT (p.take k) ++ 32 :: q by rw [List.take_succ_eq_append_getElem hkp, S.wordsT_snoc, hx, hq])
      rw [hx] at c1
      have HQ := Lib.hid hq
      clear hH hx hq hkp
      go_wp2_with fail
      refine (refQuote_is x q _ hx40 HQ.out).mono ?_
      rintro e w2 ⟨rfl, hx2⟩
      have hbn := bthen hb hx2
      clear hx2 c1 hb
      go_wp2
      have hgk := HG.out
      go_roundg (n - (k + 1))
      case rel => exact ⟨k + 1, l ++ 32 :: q, (by show _ = _; omega), by omega, by go_num, congrArg Value.string (ByteArray.ext (by simp [ByteArray.data_append])), (by show _ = _; rw [HW.out, HL.out]; simp), hbn⟩
      case measure => omega
    · have blt : decide (k < n) = false := decide_eq_false hlt
      have HE := Lib.hid (show l = v ++ S.wordsT p by rw [HL.out, List.take_of_length_le (by have := HN.out; omega)])
      go_wp2
      go_ret
      refine ⟨?_, hb⟩
      have h1 : S.cmdT v p = l ++ [59, 10] := by rw [HE.out]; rfl
      rw [h1]
      exact congrArg Ending.returned (congrArg Value.string (ByteArray.ext (by simp [ByteArray.data_append])))
theorem refPath_is (A : Option Addr) (c n i : Nat) (t : List T.Ln) (p : T.Pth) (w : World) (hn : t.length = n) (hA : Seen eL w A t) (hl : n ≤ 1073741824) (hi : i < t.length) (hR : T.RightT t) (hp : T.pathL t i = p) :
    Calls Try.prog 34 #[.slice A n c, .int .i64 i] w (SawG eS w p) := by
  subst hn; subst hp; exact refPath_any A c t i w hA hl hi hR

theorem refOne_is (v : List UInt8) (B : Option Addr) (c n : Nat) (p : T.Pth) (Q : List UInt8) (w : World) (hn : p.length = n) (hv : v.length ≤ 10) (hB : Seen eS w B p) (hp16 : n ≤ 16) (hp40 : ∀ x ∈ p, x.length ≤ 40) (hQ : S.cmdT v p = Q) :
    Calls Try.prog 33 #[.string ⟨v.toArray⟩, .slice B n c] w (WroteQ w.heap.size w Q) := by subst hQ; exact refOne_any v B c n p w hn hv hB hp16 hp40
theorem leavesTo_lt (t : List T.Ln) (k : Nat) : ∀ i ∈ T.leavesTo t k, i < k := fun i hi => List.mem_range.1 (List.mem_filter.1 hi).1
set_option maxRecDepth 100000 in
set_option maxHeartbeats 8000000 in
theorem refLines_yes (A : Option Addr) (c : Nat) (t : List T.Ln) (w : World) (hA : Seen eL w A t) (hR : T.RightT t) :
    Calls Try.prog 18 #[.slice A t.length c] w (WroteQ w.heap.size w (S.cmdsT t)) := by
  have hl : t.length ≤ 200 := hR.len
  have HA := Lib.hid hA
  have HR := Lib.hid hR
  clear hA hR
  go_enter Try.func18, Try.ntmps18
  go_wp2
  go_loopg [3, 4] t.length (fun g vs vi wr => ∃ k : Nat, ∃ l : List UInt8, Hid (k + g = t.length) ∧ k ≤ t.length ∧ vi = .int .i64 k ∧ vs = .string ⟨l.toArray⟩ ∧ Hid (S.setsT t (T.leavesTo t k) = l) ∧ Below w.heap.size w wr)
  case atStart => exact ⟨0, [], Nat.zero_add _, Nat.zero_le _, rfl, rfl, rfl, Below.refl _ _⟩
  case round =>
    obtain ⟨k, l, HG, hk, rfl, rfl, HL, hb⟩ := hrel
    have hll : l.length ≤ 600000 := by
      rw [← HL.out]
      have h1 := S.sets_len HR.out (T.leavesTo t k) fun i hi => by have := leavesTo_lt t k i hi; omega
      have h2 := T.filter_len k (T.leafB t)
      have h3 : (T.leavesTo t k).length ≤ k := h2
      omega
    by_cases hlt : k < t.length
    · have blt : decide (k < t.length) = true := decide_eq_true hlt
      obtain ⟨e, he⟩ : ∃ e, T.endL t k = e := ⟨_, rfl⟩
      have HE := Lib.hid he
      by_cases hleaf : e = k + 1
      · obtain ⟨p, hp⟩ : ∃ p, T.pathL t k = p := ⟨_, rfl⟩
        obtain ⟨Q, hQ⟩ : ∃ Q, S.cmdT S.setW p = Q := ⟨_, rfl⟩
        have hd := (S.RightN.path_deep HR.out hlt).2
        have hp40 := S.RightN.path_long HR.out k k (Nat.le_refl _) hlt
        rw [hp] at hd hp40
        have hQl : Q.length ≤ 3000 := by rw [← hQ]; exact S.cmdT_len S.setW p (by decide) hd hp40
        have HN := Lib.hid (show S.setsT t (T.leavesTo t (k + 1)) = l ++ Q by
          rw [T.leaves_next, if_pos (by unfold T.leafB; rw [he, hleaf]; simp), S.setsT_snoc, HL.out, hp, hQ])
        have HP := Lib.hid hp
        have HQ := Lib.hid hQ
        have H40 := Lib.hid hp40
        subst hleaf
        clear he hp hQ hp40
        go_wp2_with fail
        refine (refEnd_is _ c t k (k + 1) _ (HA.out.below hb) (by omega) hlt HE.out).mono ?_
        rintro e w2 ⟨rfl, hx2⟩
        have hb2 := bthen hb hx2
        clear hx2 hb
        go_wp2_with fail
        refine (refPath_is A c t.length k t p _ rfl (HA.out.below hb2) (by omega) hlt HR.out HP.out).mono ?_
        rintro e w3 ⟨Bp, cp, rfl, _, hsp, hx3⟩
        have hb3 := bthen hb2 hx3
        have HSP := Lib.hid hsp
        clear hx3 hb2 hsp
        go_wp2_with fail
        refine (refOne_is S.setW Bp cp p.length p Q _ rfl (by decide) HSP.out hd H40.out HQ.out).mono ?_
        rintro e w4 ⟨rfl, hx4⟩
        have hb4 := bthen hb3 hx4
        clear hx4 hb3
        go_wp2
        have hgk := HG.out
        go_roundg (t.length - (k + 1))
        case rel => exact ⟨k + 1, l ++ Q, (by show _ = _; omega), by omega, by go_num, congrArg Value.string (ByteArray.ext (by simp [ByteArray.data_append])), HN, hb4⟩
        case measure => omega
      · have HN := Lib.hid (show S.setsT t (T.leavesTo t (k + 1)) = l by
          rw [T.leaves_next, if_neg (by unfold T.leafB; rw [he]; simpa using hleaf), List.append_nil, HL.out])
        have be : ((e : Int) == (k : Int) + 1) = false := beq_eq_false_iff_ne.2 (by omega)
        clear he hleaf
        go_wp2_with fail
        refine (refEnd_is _ c t k e _ (HA.out.below hb) (by omega) hlt HE.out).mono ?_
        rintro e w2 ⟨rfl, hx2⟩
        have hb2 := bthen hb hx2
        clear hx2 hb
        go_wp2
        have hgk := HG.out
        go_roundg (t.length - (k + 1))
        case rel => exact ⟨k + 1, l, (by show _ = _; omega), by omega, by go_num, rfl, HN, hb2⟩
        case measure => omega
    · have blt : decide (k < t.length) = false := decide_eq_false hlt
      have hko : k = t.length := by omega
      have HL2 := Lib.hid (show S.setsT t (T.leavesL t) = l by have := HL.out; rw [hko] at this; exact this)
      have HBB := Lib.hid hb
      clear HL hko hb
      go_wp2
      go_loopg [3, 5] t.length (fun g vs vi wr => ∃ j : Nat, ∃ m : List UInt8, Hid (j + g = t.length) ∧ j ≤ t.length ∧ vi = .int .i64 j ∧ vs = .string ⟨m.toArray⟩ ∧ Hid (l ++ S.marksT t j = m) ∧ Below w.heap.size w wr)
      case atStart => exact ⟨0, l, Nat.zero_add _, Nat.zero_le _, rfl, rfl, List.append_nil _, HBB.out⟩
      case round =>
        obtain ⟨j, m, HG, hj, rfl, rfl, HM, hb⟩ := hrel
        have hml : m.length ≤ 2000000 := by
          rw [← HM.out, List.length_append]
          have := S.marks_len HR.out j hj
          omega
        by_cases hlt : j < t.length
        · have blt : decide (j < t.length) = true := decide_eq_true hlt
          obtain ⟨b, o, rfl, hbw, hH⟩ := HA.out.lines (by omega)
          have HH := Lib.hid hH
          obtain ⟨_, _, c2⟩ := (hH.below hb hbw).line hlt
          obtain ⟨x, hx⟩ : ∃ x, (T.at_ t j).mark = x := ⟨_, rfl⟩
          obtain ⟨p, hp⟩ : ∃ p, T.pathL t j = p := ⟨_, rfl⟩
          obtain ⟨Q1, hQ1⟩ : ∃ Q, S.cmdT S.deW p = Q := ⟨_, rfl⟩
          obtain ⟨Q2, hQ2⟩ : ∃ Q, S.cmdT S.prW p = Q := ⟨_, rfl⟩
          have hd := (S.RightN.path_deep HR.out hlt).2
          have hp40 := S.RightN.path_long HR.out j j (Nat.le_refl _) hlt
          rw [hp] at hd hp40
          have hQ1l : Q1.length ≤ 3000 := by rw [← hQ1]; exact S.cmdT_len S.deW p (by decide) hd hp40
          have hQ2l : Q2.length ≤ 3000 := by rw [← hQ2]; exact S.cmdT_len S.prW p (by decide) hd hp40
          have hm03 := HR.out.mark j hlt
          have HN := Lib.hid (show l ++ S.marksT t (j + 1) = m ++ ((if x % 2 = 1 then Q1 else []) ++ (if 1 < x then Q2 else [])) by
            rw [S.marksT_next, ← List.append_assoc, HM.out]; unfold S.markC; rw [hx, hp, hQ1, hQ2])
          rw [hx] at c2 hm03
          have HMK := Lib.hid hx
          have HP := Lib.hid hp
          have HQ1 := Lib.hid hQ1
          have HQ2 := Lib.hid hQ2
          have H40 := Lib.hid hp40
          have hx4 : x = 0 ∨ x = 1 ∨ x = 2 ∨ x = 3 := by omega
          clear hx hp hQ1 hQ2 hp40 hm03 hH
          rcases hx4 with rfl | rfl | rfl | rfl
          · go_wp2
            have hgk := HG.out
            go_roundg (t.length - (j + 1))
            case rel => exact ⟨j + 1, m, (by show _ = _; omega), by omega, by go_num, rfl, (by show _ = _; rw [HN.out]; simp), hb⟩
            case measure => omega
          · go_wp2_with fail
            refine (refPath_is _ c t.length j t p _ rfl (HA.out.below hb) (by omega) hlt HR.out HP.out).mono ?_
            rintro e w1a ⟨Bp1, cp1, rfl, _, hsp, hx3⟩
            have hb1a := bthen hb hx3
            have HSP1 := Lib.hid hsp
            clear hx3 hb hsp
            go_wp2_with fail
            refine (refOne_is S.deW Bp1 cp1 p.length p Q1 _ rfl (by decide) HSP1.out hd H40.out HQ1.out).mono ?_
            rintro e w1b ⟨rfl, hx4⟩
            have hb1 := bthen hb1a hx4
            clear hx4 hb1a c2
            obtain ⟨_, _, c2⟩ := (HH.out.below hb1 hbw).line hlt
            rw [HMK.out] at c2
            go_wp2
            have hgk := HG.out
            go_roundg (t.length - (j + 1))
            case rel => exact ⟨j + 1, m ++ Q1, (by show _ = _; omega), by omega, by go_num, congrArg Value.string (ByteArray.ext (by simp [ByteArray.data_append])), (by show _ = _; rw [HN.out]; simp), hb1⟩
            case measure => omega
          · go_wp2_with fail
            refine (refPath_is _ c t.length j t p _ rfl (HA.out.below hb) (by omega) hlt HR.out HP.out).mono ?_
            rintro e w1a ⟨Bp1, cp1, rfl, _, hsp, hx3⟩
            have hb1a := bthen hb hx3
            have HSP1 := Lib.hid hsp
            clear hx3 hb hsp
            go_wp2_with fail
            refine (refOne_is S.prW Bp1 cp1 p.length p Q2 _ rfl (by decide) HSP1.out hd H40.out HQ2.out).mono ?_
            rintro e w1b ⟨rfl, hx4⟩
            have hb1 := bthen hb1a hx4
            clear hx4 hb1a c2
            obtain ⟨_, _, c2⟩ := (HH.out.below hb1 hbw).line hlt
            rw [HMK.out] at c2
            go_wp2
            have hgk := HG.out
            go_roundg (t.length - (j + 1))
            case rel => exact ⟨j + 1, m ++ Q2, (by show _ = _; omega), by omega, by go_num, congrArg Value.string (ByteArray.ext (by simp [ByteArray.data_append])), (by show _ = _; rw [HN.out]; simp), hb1⟩
            case measure => omega
          · go_wp2_with fail
            refine (refPath_is _ c t.length j t p _ rfl (HA.out.below hb) (by omega) hlt HR.out HP.out).mono ?_
            rintro e w1a ⟨Bp1, cp1, rfl, _, hsp, hx3⟩
            have hb1a := bthen hb hx3
            have HSP1 := Lib.hid hsp
            clear hx3 hb hsp
            go_wp2_with fail
            refine (refOne_is S.deW Bp1 cp1 p.length p Q1 _ rfl (by decide) HSP1.out hd H40.out HQ1.out).mono ?_
            rintro e w1b ⟨rfl, hx4⟩
            have hb1 := bthen hb1a hx4
            clear hx4 hb1a c2
            obtain ⟨_, _, c2⟩ := (HH.out.below hb1 hbw).line hlt
            rw [HMK.out] at c2
            go_wp2_with fail
            refine (refPath_is _ c t.length j t p _ rfl (HA.out.below hb1) (by omega) hlt HR.out HP.out).mono ?_
            rintro e w2a ⟨Bp2, cp2, rfl, _, hsp, hx3⟩
            have hb2a := bthen hb1 hx3
            have HSP2 := Lib.hid hsp
            clear hx3 hb1 hsp
            go_wp2_with fail
            refine (refOne_is S.prW Bp2 cp2 p.length p Q2 _ rfl (by decide) HSP2.out hd H40.out HQ2.out).mono ?_
            rintro e w2b ⟨rfl, hx4⟩
            have hb2 := bthen hb2a hx4
            clear hx4 hb2a c2
            obtain ⟨_, _, c2⟩ := (HH.out.below hb2 hbw).line hlt
            rw [HMK.out] at c2
            go_wp2
            have hgk := HG.out
            go_roundg (t.length - (j + 1))
            case rel => exact ⟨j + 1, m ++ Q1 ++ Q2, (by show _ = _; omega), by omega, by go_num, congrArg Value.string (ByteArray.ext (by simp [ByteArray.data_append])), (by show _ = _; rw [HN.out]; simp), hb2⟩
            case measure => omega
        · have blt : decide (j < t.length) = false := decide_eq_false hlt
          have hjo : j = t.length := by omega
          have HE := Lib.hid (show S.cmdsT t = m by rw [← HM.out, hjo, ← HL2.out]; rfl)
          clear hjo
          go_wp2
          go_ret
          exact ⟨by rw [HE.out]; rfl, hb⟩
end Go.Proofs.Ytdohnbdhloknnaa
