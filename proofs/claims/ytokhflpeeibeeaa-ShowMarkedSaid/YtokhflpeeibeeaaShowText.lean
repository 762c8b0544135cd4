/-
  Contracts of layer 4's depthAt and Text: a tree's text is what the plain definition says, and of what is no tree there is none; below the heap's size at the call the world is as it was. Condition: at most 2^30 lines.
-/
import Derived.Test.YtokhflpeeibeeaaShowL
import Derived.Test.YtokhflpeeibeeaaTreeAwake
namespace Go.Proofs.Ytokhflpeeibeeaa
open Go.RowKit
open S (RightT.text_len)

theorem RightT.nextD_le {t : List T.Ln} (h : T.RightT t) (k : Nat) : S.nextD t k ≤ 15 := by
  unfold S.nextD
  by_cases h1 : k + 1 < t.length
  · rw [if_pos h1]; have := h.deep (k + 1) h1; omega
  · rw [if_neg h1]; omega
theorem RightT.open_next {t : List T.Ln} (h : T.RightT t) (k : Nat) (hk : k < t.length) : decide (T.dp t k < (S.nextD t k : Int)) = S.openB t k := by
  have hd := (h.deep k hk).1
  unfold S.nextD S.openB
  by_cases h1 : k + 1 < t.length
  · rw [if_pos h1]
    have := (h.deep (k + 1) h1).1
    rw [Bool.eq_iff_iff, decide_eq_true_iff, decide_eq_true_iff]
    exact ⟨fun x => ⟨h1, by omega⟩, fun x => by have := x.2; omega⟩
  · rw [if_neg h1]
    rw [Bool.eq_iff_iff, decide_eq_true_iff, decide_eq_true_iff]
    exact ⟨fun x => by omega, fun x => absurd x.1 h1⟩
theorem depthAt_is (A : Option Addr) (c : Nat) (t : List T.Ln) (k : Nat) (n : Nat) (w : World) (hA : Seen eL w A t) (hl : t.length ≤ 1073741824) (hk : k < t.length) (hR : T.RightT t) (h : S.nextD t k = n) :
    Calls Try.prog 20 #[.slice A t.length c, .int .i64 ((k : Int) + 1)] w (fun e w' => e = .returned (.int .i64 n) ∧ Below w.heap.size w w') := by
  by_cases h1 : k + 1 < t.length
  · have b1 : decide ((t.length : Int) ≤ (k : Int) + 1) = false := decide_eq_false (by omega)
    obtain ⟨b, o, rfl, hbw, hL⟩ := hA.lines (by omega)
    obtain ⟨c0, _, _⟩ := hL.line h1
    have hn : T.dp t (k + 1) = (n : Int) := by
      have := (hR.deep (k + 1) h1).1
      rw [← h]; unfold S.nextD; rw [if_pos h1]; omega
    rw [hn] at c0
    clear hn h
    go_enter Try.func20, Try.ntmps20
    go_wp2
    go_ret
    exact ⟨rfl, Below.refl _ _⟩
  · have b1 : decide ((t.length : Int) ≤ (k : Int) + 1) = true := decide_eq_true (by omega)
    have hn : n = 0 := by rw [← h]; unfold S.nextD; rw [if_neg h1]
    subst hn
    clear h
    go_enter Try.func20, Try.ntmps20
    go_wp2
    go_ret
    exact ⟨rfl, Below.refl _ _⟩

theorem text_no (A : Option Addr) (c : Nat) (t : List T.Ln) (w : World) (hA : Seen eL w A t) (hl : t.length ≤ 1073741824) (hR : ¬ T.RightT t) :
    Calls Try.prog 11 #[.slice A t.length c] w (WroteS w.heap.size w [] 1) := by
  have HA := Lib.hid hA
  have HR := Lib.hid hR
  clear hA hR
  go_enter Try.func11, Try.ntmps11
  go_wp2_with fail
  refine (right_is A c t false _ HA.out hl (no_iff HR.out)).mono ?_
  rintro e w1 ⟨rfl, hb1⟩
  go_wp2
  go_ret2
  exact ⟨rfl, hb1⟩

theorem HasB.new (w : World) : HasB (w.alloc (.cells #[.pointer none, .slice none 0 0] 42)) w.heap.size w.heap.size [] := by
  refine .inl ⟨Nat.le_refl _, .slice none 0 0, ?_, ⟨rfl, .inl ⟨rfl, rfl⟩⟩, by simp [Value.ownBlock]⟩
  show (w.heap.push _)[w.heap.size]? = _
  simp
set_option maxRecDepth 100000 in
set_option maxHeartbeats 1000000 in
theorem text_yes (A : Option Addr) (c : Nat) (t : List T.Ln) (w : World) (hA : Seen eL w A t) (hR : T.RightT t) :
    Calls Try.prog 11 #[.slice A t.length c] w (WroteS w.heap.size w (S.textL t) 0) := by
  have HA := Lib.hid hA
  have HR := Lib.hid hR
  have hl : t.length ≤ 1073741824 := by have := hR.len; omega
  clear hA hR
  go_enter Try.func11, Try.ntmps11
  go_wp2_with fail
  refine (right_is A c t true _ HA.out hl (yes_iff HR.out)).mono ?_
  rintro e w1 ⟨rfl, hb1⟩
  have HA1 := Lib.hid (HA.out.below hb1)
  have HB1 := Lib.hid hb1
  clear hb1
  have HB := Lib.hid (HasB.new w1)
  go_wp2
  go_loopg [14] t.length (fun g x wr => ∃ k : Nat, k + g = t.length ∧ x = .int .i64 k ∧ HasB wr w1.heap.size w1.heap.size (S.textTo t k) ∧ Below w1.heap.size w1 wr)
  case atStart => exact ⟨0, by omega, rfl, by simpa [S.textTo] using HB.out, (Below.refl _ _).alloc (Nat.le_refl _) _⟩
  case round =>
    obtain ⟨k, hg, rfl, hB, hb⟩ := hrel
    have HG := Lib.hid hg
    have HBk := Lib.hid hB
    have HBB := Lib.hid hb
    clear hg hB hb
    by_cases hlt : k < t.length
    · obtain ⟨b, o, rfl, hbw, hL⟩ := HA1.out.lines (by omega)
      obtain ⟨c0, c1, c2⟩ := (hL.below HBB.out hbw).line hlt
      obtain ⟨nx, hnx⟩ : ∃ n, S.nextD t k = n := ⟨_, rfl⟩
      obtain ⟨d, hd⟩ := Int.eq_ofNat_of_zero_le (HR.out.deep k hlt).1
      have hd15 : d ≤ 15 := by have := (HR.out.deep k hlt).2; omega
      obtain ⟨o1, ho1⟩ : ∃ x, S.openB t k = x := ⟨_, rfl⟩
      have bo : decide (d < nx) = o1 := by rw [← ho1, ← RightT.open_next HR.out k hlt, hd, hnx]; simp
      have HRow := Lib.hid (show lineRow ⟨d, T.wd t k, (T.at_ t k).mark⟩ o1 = S.lineT t k by unfold lineRow S.lineT; rw [ho1, hd])
      have HNx := Lib.hid (show S.rowT t k = S.lineT t k ++ S.closeT d nx by unfold S.rowT; rw [hnx, hd, Int.toNat_natCast])
      have hw := HR.out.long k hlt
      have hm := HR.out.mark k hlt
      have hlen : (S.textTo t k).length ≤ 1000 * k := RightT.text_len HR.out k (by omega)
      have hk200 : k < 200 := by have := HR.out.len; omega
      have HX := Lib.hid (LineAt.new wr ⟨d, T.wd t k, (T.at_ t k).mark⟩)
      have HW := Lib.hid (up wr (lnO ⟨d, T.wd t k, (T.at_ t k).mark⟩))
      have hne : wr.heap.size ≠ w1.heap.size := by have := HBk.out.lt; omega
      have Hnx := Lib.hid hnx
      have Hop := Lib.hid ho1
      have Hlen := Lib.hid hlen
      have Hne := Lib.hid hne
      have HA2 := Lib.hid ((HA1.out.below HBB.out).below HW.out)
      rw [hd] at c0
      simp only [lnO] at HX HW HA2
      clear hnx ho1 hlen hd hne
      go_wp2_with fail
      refine (depthAt_is _ c t k nx _ HA2.out hl hlt HR.out Hnx.out).mono ?_
      rintro e w2 ⟨rfl, hb2⟩
      replace HX := Lib.hid (HX.out.below hb2)
      have HB2 := Lib.hid (bthen HW.out hb2)
      replace HBk := Lib.hid (HBk.out.keep HB2.out)
      replace HBB := Lib.hid (HBB.out.trans (HB2.out.mono HBB.out.size))
      clear hb2 c0 c1 c2 HB2 HW HA2
      obtain ⟨c0, c1, c2⟩ := HX.out.cells
      simp only [] at c0 c1 c2
      go_wp2_with fail
      refine (writeLine_any _ _ (S.textTo t k) ⟨d, T.wd t k, (T.at_ t k).mark⟩ o1 _ HBk.out ⟨by simp, by simp; omega⟩ hw hm (by have := Hlen.out; omega)).mono ?_
      rintro e w3 ⟨rfl, hB3, hK3⟩
      replace HX := Lib.hid (HX.out.keep hK3 Hne.out)
      replace HBk := Lib.hid (hB3.eq (by rw [HRow.out]))
      replace HBB := Lib.hid (HBB.out.trans hK3.1)
      clear hB3 hK3 c0 c1 c2
      obtain ⟨c0, c1, c2⟩ := HX.out.cells
      simp only [] at c0 c1 c2
      have hll : (S.textTo t k ++ S.lineT t k).length ≤ 201000 := by
        have h1 := RightT.text_len HR.out (k + 1) (by omega)
        rw [S.text_next, HNx.out, ← List.append_assoc, List.length_append] at h1
        omega
      have Hll := Lib.hid hll
      clear hll
      go_wp2
      go_loopg [8] d (fun g x wq => ∃ y : Int, y + 1 = g ∧ g ≤ d ∧ x = .int .i64 y ∧ (∃ acc, HasB wq w1.heap.size w1.heap.size (S.textTo t k ++ S.lineT t k ++ acc) ∧ acc ++ S.closeT g nx = S.closeT d nx) ∧ Below w1.heap.size w1 wq)
      case atStart => exact ⟨(d : Int) - 1, by omega, Nat.le_refl _, rfl, ⟨[], by rw [List.append_nil]; exact HBk.out, rfl⟩, HBB.out⟩
      case round =>
        obtain ⟨y, hy, hgd, rfl, ⟨acc, hB, hacc⟩, hb⟩ := hrel
        have HBq := Lib.hid hB
        have HBBq := Lib.hid hb
        have Hacc := Lib.hid hacc
        have Hy := Lib.hid hy
        clear hB hb hacc hy HBk HBB
        by_cases hny : (nx : Int) ≤ y
        · obtain ⟨q, rfl⟩ := Int.eq_ofNat_of_zero_le (show 0 ≤ y by omega)
          have bny : decide (nx ≤ q) = true := decide_eq_true (by omega)
          have hgq := Hy.out
          have hla : (S.textTo t k ++ S.lineT t k ++ acc).length ≤ 1099511627000 := by
            have h1 := congrArg List.length Hacc.out
            have h2 := S.close_len d nx hd15
            have h3 := Hll.out
            rw [List.length_append] at h1
            rw [List.length_append]; omega
          have HC := Lib.hid (show S.closeT (q + 1) nx = S.blanksL q ++ [125, 10] ++ S.closeT q nx by rw [S.close_step, if_pos (by omega)])
          clear hny
          go_wp2_with fail
          refine (writeClose_any _ _ _ q _ HBq.out (by omega) hla).mono ?_
          rintro e w4 ⟨rfl, hB4, hK4⟩
          have HB4 := Lib.hid hB4
          have HK4 := Lib.hid hK4
          clear hB4 hK4
          go_wp2
          go_roundg q
          case rel =>
            refine ⟨(q : Int) - 1, by omega, by omega, by go_num, ⟨acc ++ (S.blanksL q ++ [125, 10]), HB4.out.eq (by simp only [List.append_assoc]), ?_⟩, HBBq.out.trans HK4.out.1⟩
            have h1 := Hacc.out
            have hg1 : gk = q + 1 := by omega
            rw [hg1, HC.out] at h1
            rw [← h1]
            simp only [List.append_assoc]
          case measure => omega
        · have bny : decide ((nx : Int) ≤ y) = false := decide_eq_false hny
          have hgq := Hy.out
          go_wp2
          go_roundg (t.length - (k + 1))
          case rel =>
            refine ⟨k + 1, by have := HG.out; omega, by go_num, ?_, HBBq.out⟩
            rw [S.text_next, HNx.out, ← Hacc.out, S.close_low _ _ (by omega), List.append_nil, ← List.append_assoc]
            exact HBq.out
          case measure => have := HG.out; omega
    · have blt : decide ((k : Int) < (t.length : Int)) = false := decide_eq_false (by omega)
      obtain rfl : k = t.length := by have := HG.out; omega
      go_wp2_with fail
      refine (string_any _ _ _ _ HBk.out).mono ?_
      rintro e w2 ⟨rfl, hK⟩
      go_wp2
      go_ret2
      exact ⟨rfl, HB1.out.trans ((HBB.out.trans hK.1).mono HB1.out.size)⟩

theorem text_is (A : Option Addr) (c n : Nat) (t : List T.Ln) (l : List UInt8) (w : World) (hA : Seen eL w A t) (hn : t.length = n) (hR : T.RightT t) (h : S.textL t = l) :
    Calls Try.prog 11 #[.slice A n c] w (WroteS w.heap.size w l 0) := by rw [← h, ← hn]; exact text_yes A c t w hA hR

/-- The text of a part. -/
theorem part_yes (A : Option Addr) (c : Nat) (t : List T.Ln) (i : Nat) (w : World) (hA : Seen eL w A t) (hc : t.length ≤ c) (hR : T.RightT t) (hi : i < t.length) (l : List UInt8) (hs : T.RightT (T.subL t i)) (h : S.textL (T.subL t i) = l) :
    Calls Try.prog 12 #[.slice A t.length c, .int .i64 i] w (WroteS w.heap.size w l 0) := by
  have HA := Lib.hid hA
  have HR := Lib.hid hR
  have HS := Lib.hid hs
  have HL := Lib.hid h
  have hl : t.length ≤ 1073741824 := by have := hR.len; omega
  obtain ⟨p, hp⟩ : ∃ p, T.subL t i = p := ⟨_, rfl⟩
  have hpl : 0 < p.length := by have := T.sub_len t i hi; have := (T.end_spec t i hi).1; rw [hp] at *; omega
  have hpl2 : p.length ≤ 200 := by rw [← hp]; exact hs.len
  have HP := Lib.hid hp
  clear hA hR hs h hp
  rw [HP.out] at HS HL
  have bp : (p.length == 0) = false := beq_eq_false_iff_ne.2 (by omega)
  go_enter Try.func12, Try.ntmps12
  go_wp2_with fail
  refine (sub_is A c t i p _ HA.out hl hc hi HR.out HP.out).mono ?_
  rintro e w1 ⟨B, cap, rfl, hcap, hseen, hb1⟩
  have HB := Lib.hid hseen
  have HB1 := Lib.hid hb1
  clear hseen hb1
  go_wp2_with fail
  refine (text_is B cap p.length p l _ HB.out rfl HS.out HL.out).mono ?_
  rintro e w2 ⟨rfl, hb2⟩
  go_wp2
  go_ret2
  exact ⟨rfl, bthen HB1.out hb2⟩
theorem part_no (A : Option Addr) (c : Nat) (t : List T.Ln) (i : Int) (w : World) (hA : Seen eL w A t) (hl : t.length ≤ 1073741824) (h : i < 0 ∨ (t.length : Int) ≤ i ∨ ¬ T.RightT t) :
    Calls Try.prog 12 #[.slice A t.length c, .int .i64 i] w (WroteS w.heap.size w [] 1) := by
  have HA := Lib.hid hA
  have HH := Lib.hid h
  clear hA h
  go_enter Try.func12, Try.ntmps12
  go_wp2_with fail
  refine (sub_no A c t i _ HA.out hl HH.out).mono ?_
  rintro e w1 ⟨B, cap, rfl, hcap, hseen, hb1⟩
  go_wp2
  go_ret2
  exact ⟨rfl, hb1⟩
end Go.Proofs.Ytokhflpeeibeeaa
