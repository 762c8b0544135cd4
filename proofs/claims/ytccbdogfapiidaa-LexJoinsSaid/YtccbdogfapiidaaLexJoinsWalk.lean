/-
  The walk of layer 2's statement LexJoins: it returns true whatever the strings are. No conditions.
-/
import Derived.Test.YtccbdogfapiidaaLexAwake
import Derived.Test.YtccbdogfapiidaaLexPure3
import Derived.RegionTactic
namespace Go.Proofs.Ytccbdogfapiidaa
open Go.RowKit

theorem cat_lf (s t : ByteArray) : (s ++ (⟨#[10]⟩ : ByteArray) ++ t).data.toList = s.data.toList ++ 10 :: t.data.toList := by
  simp [ByteArray.data_append]
theorem lex_cat {s t : ByteArray} {a : List W.Tok} (h : W.lexL 0 s.data.toList = .ok a) :
    W.lexL 0 (s ++ (⟨#[10]⟩ : ByteArray) ++ t).data.toList = ((W.lexL 0 t.data.toList).shift (s.size + 1)).pre a := by
  rw [cat_lf, W.lexL_join _ _ _ _ h, ← W.lexL_shift, ← Lib.size_eq, Nat.zero_add, Nat.zero_add]

theorem rising_pos {s : List UInt8} : ∀ {l : List W.Tok} {p : Nat}, W.Rising s p l → ∀ t ∈ l, t.pos < s.length
  | [], _, _, _, ht => by simp at ht
  | x :: l, p, h, t, ht => by
    obtain ⟨_, ⟨c, hc, _⟩, h2⟩ := h
    rcases List.mem_cons.1 ht with rfl | ht
    · exact (List.getElem?_eq_some_iff.1 hc).1
    · exact rising_pos h2 t ht
theorem pos_lt {s : ByteArray} {l : List W.Tok} (h : W.lexL 0 s.data.toList = .ok l) {i : Nat} (hi : i < l.length) {kd : Int} {pos : Nat} {wd : List UInt8} {b : Int} (ht : l[i] = ⟨kd, pos, wd, b⟩) : pos < s.data.toList.length := by
  have := rising_pos (W.rising_of s.data.toList s.data.toList 0 l (List.drop_zero ..) h) l[i] (List.getElem_mem hi)
  rw [ht] at this
  exact this

set_option maxRecDepth 100000 in
set_option maxHeartbeats 2000000 in
theorem lexJoins_walk (s : ByteArray) (hs : s.size ≤ maxLen) (t : ByteArray) (ht : t.size ≤ maxLen) (w : World) :
    Calls Try.prog 6 #[.string s, .string t] w (TrueS w) := by
  unfold maxLen at hs ht
  by_cases h1 : s.size ≤ 300
  · have b1 : decide ((300 : Int) < (s.size : Int)) = false := by simp; omega
    by_cases h2 : t.size ≤ 300
    · have b2 : decide ((300 : Int) < (t.size : Int)) = false := by simp; omega
      cases hr : W.lexL 0 s.data.toList with
      | bad p er =>
        obtain ⟨hp0, hp1, her⟩ := W.bad_lt _ _ _ _ hr
        have ber : (er != 0) = true := bne_iff_ne.2 her
        have HR := Lib.hid hr
        clear hr her hp0 hp1
        go_enter Try.func6, Try.ntmps6
        go_wp2_with fail
        refine (all_err s p er _ (by omega) HR.out).mono ?_
        rintro e w1 ⟨A, cap, rfl, hb1⟩
        go_wp2_with fail
        refine (awake_any _).mono ?_
        rintro e w2 ⟨rfl, hb2⟩
        go_wp2
        go_ret
        exact ⟨rfl, bthen hb1 hb2⟩
      | ok a =>
        have hJ := lex_cat (t := t) hr
        have hal := W.lexL_len _ _ _ hr
        rw [← Lib.size_eq] at hal
        have HR := Lib.hid hr
        clear hr
        have hcs : (s ++ (⟨#[10]⟩ : ByteArray) ++ t).size ≤ 1073741824 := by
          rw [Lib.size_eq, cat_lf]; simp only [List.length_append, List.length_cons, ← Lib.size_eq]; omega
        obtain ⟨X, hX⟩ : ∃ X, s ++ (⟨#[10]⟩ : ByteArray) ++ t = X := ⟨_, rfl⟩
        rw [hX] at hJ hcs
        have HX := Lib.hid hX
        clear hX
        cases hq : W.lexL 0 t.data.toList with
        | bad p er =>
          obtain ⟨hp0, hp1, her⟩ := W.bad_lt _ _ _ _ hq
          rw [Nat.zero_add, ← Lib.size_eq] at hp1
          have ber : (er != 0) = true := bne_iff_ne.2 her
          have hJ2 : W.lexL 0 X.data.toList = .bad (p + (s.size + 1)) er := by rw [hJ, hq]; rfl
          have HJ := Lib.hid hJ2
          have HQ := Lib.hid hq
          clear hJ hJ2 hq her hp0
          go_enter Try.func6, Try.ntmps6
          go_wp2_with fail
          refine (all_saw s (.ok a) _ (by omega) HR.out).mono ?_
          rintro e w1 ⟨v, rfl, ⟨A, cap, rfl, hseen⟩, hb1⟩
          clear hseen
          simp only [W.Res.toks, W.Res.place, W.Res.err]
          go_wp2_with fail
          refine (all_err t p er _ (by omega) HQ.out).mono ?_
          rintro e w2 ⟨A2, cap2, rfl, hb2⟩
          go_wp2_with fail
          rw [HX.out]
          refine (all_err X (p + (s.size + 1)) er _ hcs HJ.out).mono ?_
          rintro e w3 ⟨A3, cap3, rfl, hb3⟩
          have hpl : (((p + (s.size + 1) : Nat) : Int) == (p : Int) + (s.size : Int) + 1) = true := by simp; omega
          go_wp2_with fail
          refine (awake_any _).mono ?_
          rintro e w4 ⟨rfl, hb4⟩
          go_wp2
          go_ret
          exact ⟨rfl, bthen (bthen (bthen hb1 hb2) hb3) hb4⟩
        | ok b =>
          have hJ2 : W.lexL 0 X.data.toList = .ok (a ++ b.map (W.Tok.shift (s.size + 1))) := by rw [hJ, hq]; rfl
          have hbl := W.lexL_len _ _ _ hq
          rw [← Lib.size_eq] at hbl
          obtain ⟨c, hc⟩ : ∃ c, a ++ b.map (W.Tok.shift (s.size + 1)) = c := ⟨_, rfl⟩
          rw [hc] at hJ2
          have hcl : c.length = a.length + b.length := by rw [← hc]; simp
          have HC := Lib.hid hc
          have HJ := Lib.hid hJ2
          have HQ := Lib.hid hq
          have HCL := Lib.hid hcl
          have bcl : ((c.length : Int) != (a.length : Int) + (b.length : Int)) = false := by rw [hcl]; simp
          clear hJ hJ2 hq hc hcl
          go_enter Try.func6, Try.ntmps6
          go_wp2_with fail
          refine (all_saw s (.ok a) _ (by omega) HR.out).mono ?_
          rintro e w1 ⟨v, rfl, ⟨A, cap, rfl, hseen⟩, hb1⟩
          have HS1 := Lib.hid hseen
          clear hseen
          simp only [W.Res.toks, W.Res.place, W.Res.err]
          go_wp2_with fail
          refine (all_saw t (.ok b) _ (by omega) HQ.out).mono ?_
          rintro e w2 ⟨v, rfl, ⟨A2, cap2, rfl, hseen⟩, hb2⟩
          have HS2 := Lib.hid hseen
          clear hseen
          simp only [W.Res.toks, W.Res.place, W.Res.err]
          go_wp2_with fail
          rw [HX.out]
          refine (all_saw X (.ok c) _ hcs HJ.out).mono ?_
          rintro e w3 ⟨v, rfl, ⟨A3, cap3, rfl, hseen⟩, hb3⟩
          have HS3 := Lib.hid hseen
          clear hseen
          simp only [W.Res.toks, W.Res.place, W.Res.err]
          go_wp2
          go_loopg [92] a.length (fun g i wr => ∃ k : Nat, Hid (k + g = a.length) ∧ k ≤ a.length ∧ i = .int .i64 k ∧ Below w3.heap.size w3 wr)
          case atStart => exact ⟨0, Nat.zero_add _, Nat.zero_le _, rfl, Below.refl _ _⟩
          case round =>
            obtain ⟨k, HG, hk, rfl, hb⟩ := hrel
            by_cases hlt : k < a.length
            · have hlc : k < c.length := by have := HCL.out; omega
              obtain ⟨g1, rfl, hg1⟩ := HS1.out (by show 0 < a.length; omega)
              obtain ⟨g3, rfl, hg3⟩ := HS3.out (by show 0 < c.length; omega)
              obtain ⟨kd, pos, wd, bt, hta⟩ : ∃ kd pos wd bt, a[k] = ⟨kd, pos, wd, bt⟩ := ⟨_, _, _, _, rfl⟩
              have htc : c[k] = ⟨kd, pos, wd, bt⟩ := by rw [← hta]; simp only [← HC.out]; rw [List.getElem_append_left hlt]
              have hg3' := hg3.below hb
              have hg1' := ((hg1.below hb2).below hb3).below hb
              obtain ⟨c0, c1, c2, c3⟩ := HoldsT.cells hg1' hlt hta
              obtain ⟨d0, d1, d2, d3⟩ := HoldsT.cells hg3' hlc htc
              have hz1 := hg1'.1
              have hz3 := hg3'.1
              clear hta htc hg1' hg3'
              go_wp2
              go_region
              go_wp2
              go_roundg (a.length - (k + 1))
              case rel => exact ⟨k + 1, (by show _ = _; omega), by omega, by go_num, (hb.alloc hb.size _).drew⟩
              case measure => have := HG.out; omega
            · clear HG
              obtain ⟨wo, rfl⟩ : ∃ wo : World, wo = wr := ⟨_, rfl⟩
              go_wp2
              go_loopg [106] b.length (fun g i wr => ∃ k : Nat, Hid (k + g = b.length) ∧ k ≤ b.length ∧ i = .int .i64 k ∧ Below wo.heap.size wo wr)
              case atStart => exact ⟨0, Nat.zero_add _, Nat.zero_le _, rfl, Below.refl _ _⟩
              case round =>
                obtain ⟨j, HG, hj, rfl, hbj⟩ := hrel
                by_cases hjl : j < b.length
                · have hlc : a.length + j < c.length := by have := HCL.out; omega
                  obtain ⟨g2, rfl, hg2⟩ := HS2.out (by show 0 < b.length; omega)
                  obtain ⟨g3, rfl, hg3⟩ := HS3.out (by show 0 < c.length; omega)
                  obtain ⟨kd, pos, wd, bt, htb⟩ : ∃ kd pos wd bt, b[j] = ⟨kd, pos, wd, bt⟩ := ⟨_, _, _, _, rfl⟩
                  have htc : c[a.length + j] = ⟨kd, pos + (s.size + 1), wd, bt⟩ := by
                    simp only [← HC.out]
                    rw [List.getElem_append_right (by omega)]
                    simp only [Nat.add_sub_cancel_left, List.getElem_map, htb]
                    rfl
                  have hps := pos_lt HQ.out hjl htb
                  rw [← Lib.size_eq] at hps
                  have hg3' := (hg3.below hb).below hbj
                  have hg2' := ((hg2.below hb3).below hb).below hbj
                  obtain ⟨c0, c1, c2, c3⟩ := HoldsT.cells hg2' hjl htb
                  obtain ⟨d0, d1, d2, d3⟩ := HoldsT.cells hg3' hlc htc
                  have hz2 := hg2'.1
                  have hz3 := hg3'.1
                  clear htb htc hg2' hg3'
                  go_wp2
                  go_region
                  go_wp2
                  go_roundg (b.length - (j + 1))
                  case rel => exact ⟨j + 1, (by show _ = _; omega), by omega, by go_num, (hbj.alloc hbj.size _).drew⟩
                  case measure => have := HG.out; omega
                · go_wp2_with fail
                  refine (awake_any _).mono ?_
                  rintro e w4 ⟨rfl, hb4⟩
                  go_wp2
                  go_ret
                  exact ⟨rfl, bthen (bthen (bthen (bthen (bthen hb1 hb2) hb3) hb) hbj) hb4⟩
    · go_enter Try.func6, Try.ntmps6
      go_wp2_with fail
      refine (awake_any _).mono ?_
      rintro e w1 ⟨rfl, hb1⟩
      go_wp2
      go_ret
      exact ⟨rfl, hb1⟩
  · go_enter Try.func6, Try.ntmps6
    go_wp2_with fail
    refine (awake_any _).mono ?_
    rintro e w1 ⟨rfl, hb1⟩
    go_wp2
    go_ret
    exact ⟨rfl, hb1⟩
end Go.Proofs.Ytccbdogfapiidaa
