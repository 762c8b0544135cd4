/-
  The walk of layer 2's statement LexComment: it returns true whatever the strings are. No conditions.
-/
import Derived.Test.YtccbdogfapiidaaLexAwake
import Derived.Test.YtccbdogfapiidaaLexPure4
import Derived.RegionTactic
namespace Go.Proofs.Ytccbdogfapiidaa
open Go.RowKit

theorem all_is (s : ByteArray) (l : List W.Tok) (p : Nat) (er : Int) (w : World) (hs : s.size ≤ 1073741824) (hl : (W.lexL 0 s.data.toList).toks = l) (hp : (W.lexL 0 s.data.toList).place = p) (he : (W.lexL 0 s.data.toList).err = er) :
    Calls Try.prog 11 #[.string s] w fun e w' => ∃ A cap, e = .returned (.tuple #[.slice A l.length cap, .int .i64 p, .int .i64 er]) ∧ (0 < l.length → ∃ g, A = some ⟨g, 0, none⟩ ∧ HoldsT w' g l) ∧ Below w.heap.size w w' :=
  (all_saw s _ w hs rfl).mono fun e w' ⟨v, he', ho, hb⟩ => by
    subst hl; subst hp; subst he
    obtain ⟨A, cap, rfl, hh⟩ := ho
    exact ⟨A, cap, he', hh, hb⟩
theorem cat_plain (s t : ByteArray) : (s ++ (⟨#[10]⟩ : ByteArray) ++ t).data.toList = s.data.toList ++ 10 :: t.data.toList := by
  simp [ByteArray.data_append]
theorem cat_long (s n t : ByteArray) : (s ++ (⟨#[10, 47, 42]⟩ : ByteArray) ++ n ++ (⟨#[42, 47]⟩ : ByteArray) ++ t).data.toList = s.data.toList ++ 10 :: (47 :: 42 :: (n.data.toList ++ 42 :: 47 :: t.data.toList)) := by
  simp [ByteArray.data_append]
theorem cat_short (s n t : ByteArray) : (s ++ (⟨#[10, 35]⟩ : ByteArray) ++ n ++ (⟨#[10]⟩ : ByteArray) ++ t).data.toList = s.data.toList ++ 10 :: (35 :: (n.data.toList ++ 10 :: t.data.toList)) := by
  simp [ByteArray.data_append]
theorem lexL_0 (n : Nat) (l : List UInt8) : W.lexL n l = (W.lexL 0 l).shift n := by rw [← W.lexL_shift, Nat.zero_add]
def noStar (c : UInt8) : Prop := c.toNat ≠ 42 ∧ c.toNat ≠ 10
theorem take_mem_next {s : ByteArray} {k : Nat} {p : UInt8 → Prop} (hk : k < s.size) (h : ∀ c ∈ s.data.toList.take k, p c) (h2 : p s[k]) : ∀ c ∈ s.data.toList.take (k + 1), p c := by
  rw [W.take_snoc s k hk]
  intro c hc
  rcases List.mem_append.1 hc with hc | hc
  · exact h c hc
  · simp at hc; subst hc; exact h2
/-- The three texts of the statement: the same tokens but for places, the same error. -/
theorem three (s n t : ByteArray) (a : List W.Tok) (h : W.lexL 0 s.data.toList = .ok a) (hn : ∀ c ∈ n.data.toList, noStar c) :
    ∃ p q r, W.lexL 0 (s ++ (⟨#[10]⟩ : ByteArray) ++ t).data.toList = ((W.lexL 0 t.data.toList).shift p).pre a ∧
      W.lexL 0 (s ++ (⟨#[10, 47, 42]⟩ : ByteArray) ++ n ++ (⟨#[42, 47]⟩ : ByteArray) ++ t).data.toList = ((W.lexL 0 t.data.toList).shift q).pre a ∧
      W.lexL 0 (s ++ (⟨#[10, 35]⟩ : ByteArray) ++ n ++ (⟨#[10]⟩ : ByteArray) ++ t).data.toList = ((W.lexL 0 t.data.toList).shift r).pre a := by
  refine ⟨0 + s.data.toList.length + 1, 0 + s.data.toList.length + 1 + (n.data.toList.length + 4), 0 + s.data.toList.length + 1 + (n.data.toList.length + 2), ?_, ?_, ?_⟩
  · rw [cat_plain, W.lexL_join _ _ _ _ h, lexL_0]
  · rw [cat_long, W.lexL_join _ _ _ _ h, W.lex_long _ _ _ (fun c hc => (hn c hc).1), lexL_0]
  · rw [cat_short, W.lexL_join _ _ _ _ h, W.lex_short _ _ _ (fun c hc => (hn c hc).2), lexL_0]

set_option maxRecDepth 100000 in
set_option maxHeartbeats 4000000 in
theorem lexComment_walk (s : ByteArray) (hs : s.size ≤ maxLen) (n : ByteArray) (hn : n.size ≤ maxLen) (t : ByteArray) (ht : t.size ≤ maxLen) (w : World) :
    Calls Try.prog 7 #[.string s, .string n, .string t] w (TrueS w) := by
  unfold maxLen at hs ht hn
  by_cases h3 : s.size ≤ 200 ∧ n.size ≤ 200 ∧ t.size ≤ 200
  · obtain ⟨h1, h2, h3⟩ := h3
    have b1 : decide ((200 : Int) < (s.size : Int)) = false := by simp; omega
    have b2 : decide ((200 : Int) < (n.size : Int)) = false := by simp; omega
    have b3 : decide ((200 : Int) < (t.size : Int)) = false := by simp; omega
    go_enter Try.func7, Try.ntmps7
    go_wp2
    go_loopg [37] n.size (fun g i wr => ∃ k : Nat, Hid (k + g = n.size) ∧ k ≤ n.size ∧ i = .int .i64 k ∧ Hid (∀ c ∈ n.data.toList.take k, noStar c) ∧ w = wr)
    case atStart => exact ⟨0, Nat.zero_add _, Nat.zero_le _, rfl, (fun c hc => by simp at hc), rfl⟩
    case round =>
      obtain ⟨k, HG, hk, rfl, HK, rfl⟩ := hrel
      by_cases hlt : k < n.size
      · by_cases h42 : n[k].toNat = 42
        · have b42 : ((n[k].toNat : Int) == 42) = true := by simp; omega
          clear h42
          go_wp2_with fail
          refine (awake_any _).mono ?_
          rintro e w1 ⟨rfl, hb1⟩
          go_wp2
          go_ret
          exact ⟨rfl, hb1⟩
        have b42 : ((n[k].toNat : Int) == 42) = false := by simp; omega
        by_cases h10 : n[k].toNat = 10
        · have b10 : ((n[k].toNat : Int) == 10) = true := by simp; omega
          clear h42 h10
          go_wp2_with fail
          refine (awake_any _).mono ?_
          rintro e w1 ⟨rfl, hb1⟩
          go_wp2
          go_ret
          exact ⟨rfl, hb1⟩
        have b10 : ((n[k].toNat : Int) == 10) = false := by simp; omega
        have HN := Lib.hid (take_mem_next (p := noStar) hlt HK.out ⟨h42, h10⟩)
        clear h42 h10
        go_wp2
        go_roundg (n.size - (k + 1))
        case rel => exact ⟨k + 1, (by show _ = _; omega), by omega, by go_num, HN, rfl⟩
        case measure => have := HG.out; omega
      · have hno : ∀ c ∈ n.data.toList, noStar c := by have := HK.out; rwa [List.take_of_length_le (by rw [← Lib.size_eq]; omega)] at this
        clear HK HG
        cases hr : W.lexL 0 s.data.toList with
        | bad p er =>
          obtain ⟨hp0, hp1, her⟩ := W.bad_lt _ _ _ _ hr
          have ber : (er != 0) = true := bne_iff_ne.2 her
          have HR := Lib.hid hr
          clear hr her hp0 hp1 hno
          go_wp2_with fail
          refine (all_err s p er _ (by omega) HR.out).mono ?_
          rintro e w1 ⟨A, cap, rfl, hb1⟩
          go_wp2_with fail
          refine (awake_any _).mono ?_
          rintro e w2 ⟨rfl, hb2⟩
          go_wp2
          go_ret
          exact ⟨rfl, bthen hb1 hb2⟩
        | ok a =>
          obtain ⟨p, q, r, e1, e2, e3⟩ := three s n t a hr hno
          obtain ⟨a12, x12⟩ := W.res_alike (W.lexL 0 t.data.toList) a p q
          obtain ⟨a13, x13⟩ := W.res_alike (W.lexL 0 t.data.toList) a p r
          have hl1 := W.res_len (W.lexL 0 t.data.toList) a p
          have hl2 := W.toks_len 0 t.data.toList
          have hl3 := W.lexL_len _ _ _ hr
          rw [← Lib.size_eq] at hl2 hl3
          rw [← e1, ← e2] at a12 x12
          rw [← e1, ← e3] at a13 x13
          rw [← e1] at hl1
          have z1 : (s ++ (⟨#[10]⟩ : ByteArray) ++ t).size ≤ 1073741824 := by
            rw [Lib.size_eq, cat_plain]; simp only [List.length_append, List.length_cons, ← Lib.size_eq]; omega
          have z2 : (s ++ (⟨#[10, 47, 42]⟩ : ByteArray) ++ n ++ (⟨#[42, 47]⟩ : ByteArray) ++ t).size ≤ 1073741824 := by
            rw [Lib.size_eq, cat_long]; simp only [List.length_append, List.length_cons, ← Lib.size_eq]; omega
          have z3 : (s ++ (⟨#[10, 35]⟩ : ByteArray) ++ n ++ (⟨#[10]⟩ : ByteArray) ++ t).size ≤ 1073741824 := by
            rw [Lib.size_eq, cat_short]; simp only [List.length_append, List.length_cons, ← Lib.size_eq]; omega
          clear e1 e2 e3
          obtain ⟨X1, hX1⟩ : ∃ X, s ++ (⟨#[10]⟩ : ByteArray) ++ t = X := ⟨_, rfl⟩
          obtain ⟨X2, hX2⟩ : ∃ X, s ++ (⟨#[10, 47, 42]⟩ : ByteArray) ++ n ++ (⟨#[42, 47]⟩ : ByteArray) ++ t = X := ⟨_, rfl⟩
          obtain ⟨X3, hX3⟩ : ∃ X, s ++ (⟨#[10, 35]⟩ : ByteArray) ++ n ++ (⟨#[10]⟩ : ByteArray) ++ t = X := ⟨_, rfl⟩
          rw [hX1] at a12 x12 a13 x13 hl1 z1
          rw [hX2] at a12 x12 z2
          rw [hX3] at a13 x13 z3
          have HX1 := Lib.hid hX1
          have HX2 := Lib.hid hX2
          have HX3 := Lib.hid hX3
          have HR := Lib.hid hr
          clear hX1 hX2 hX3 hr hno
          obtain ⟨l1, hl1'⟩ : ∃ l, (W.lexL 0 X1.data.toList).toks = l := ⟨_, rfl⟩
          obtain ⟨l2, hl2'⟩ : ∃ l, (W.lexL 0 X2.data.toList).toks = l := ⟨_, rfl⟩
          obtain ⟨l3, hl3'⟩ : ∃ l, (W.lexL 0 X3.data.toList).toks = l := ⟨_, rfl⟩
          obtain ⟨er, her⟩ : ∃ e, (W.lexL 0 X1.data.toList).err = e := ⟨_, rfl⟩
          rw [hl1', hl2'] at a12
          rw [hl1', hl3'] at a13
          rw [hl1'] at hl1
          rw [her] at x12 x13
          have hll1 : l1.length ≤ 400 := by omega
          have bn2 : ((l1.length : Int) != (l2.length : Int)) = false := by rw [a12.1]; simp
          have bn3 : ((l1.length : Int) != (l3.length : Int)) = false := by rw [a13.1]; simp
          have L1 := Lib.hid hl1'
          have L2 := Lib.hid hl2'
          have L3 := Lib.hid hl3'
          have E1 := Lib.hid her
          have E2 := Lib.hid x12
          have E3 := Lib.hid x13
          have A12 := Lib.hid a12
          have A13 := Lib.hid a13
          clear hl1' hl2' hl3' her x12 x13 a12 a13 hl1 hl2 hl3
          go_wp2_with fail
          refine (all_saw s (.ok a) _ (by omega) HR.out).mono ?_
          rintro e w1 ⟨v, rfl, ⟨A, cap, rfl, hseen⟩, hb1⟩
          clear hseen
          simp only [W.Res.toks, W.Res.place, W.Res.err]
          go_wp2_with fail
          rw [HX1.out]
          refine (all_is X1 l1 _ er _ z1 L1.out rfl E1.out).mono ?_
          rintro e w2 ⟨A1, cap1, rfl, hs1, hb2⟩
          have HS1 := Lib.hid hs1
          clear hs1
          go_wp2_with fail
          rw [HX2.out]
          refine (all_is X2 l2 _ er _ z2 L2.out rfl E2.out.symm).mono ?_
          rintro e w3 ⟨A2, cap2, rfl, hs2, hb3⟩
          have HS2 := Lib.hid hs2
          clear hs2
          go_wp2_with fail
          rw [HX3.out]
          refine (all_is X3 l3 _ er _ z3 L3.out rfl E3.out.symm).mono ?_
          rintro e w4 ⟨A3, cap3, rfl, hs3, hb4⟩
          have HS3 := Lib.hid hs3
          clear hs3
          go_wp2
          go_loopg [123] l1.length (fun g i wr => ∃ k : Nat, Hid (k + g = l1.length) ∧ k ≤ l1.length ∧ i = .int .i64 k ∧ Below w4.heap.size w4 wr)
          case atStart => exact ⟨0, Nat.zero_add _, Nat.zero_le _, rfl, Below.refl _ _⟩
          case round =>
            obtain ⟨j, HG, hj, rfl, hbj⟩ := hrel
            by_cases hjl : j < l1.length
            · have hj2 : j < l2.length := by have := A12.out.1; omega
              have hj3 : j < l3.length := by have := A13.out.1; omega
              obtain ⟨g1, rfl, hg1⟩ := HS1.out (by omega)
              obtain ⟨g2, rfl, hg2⟩ := HS2.out (by omega)
              obtain ⟨g3, rfl, hg3⟩ := HS3.out (by omega)
              obtain ⟨q1, q2, _⟩ := A12.out.2 j hjl hj2
              obtain ⟨q3, q4, _⟩ := A13.out.2 j hjl hj3
              have hg1' := ((hg1.below hb3).below hb4).below hbj
              have hg2' := (hg2.below hb4).below hbj
              have hg3' := hg3.below hbj
              obtain ⟨c0, _, c2, _⟩ := hg1'.2 j hjl
              obtain ⟨d0, _, d2, _⟩ := hg2'.2 j hj2
              obtain ⟨f0, _, f2, _⟩ := hg3'.2 j hj3
              rw [← q1] at d0
              rw [← q2] at d2
              rw [← q3] at f0
              rw [← q4] at f2
              obtain ⟨kd, hkd⟩ : ∃ kd, l1[j].kind = kd := ⟨_, rfl⟩
              obtain ⟨wd, hwd⟩ : ∃ wd, l1[j].word = wd := ⟨_, rfl⟩
              rw [hkd] at c0 d0 f0
              rw [hwd] at c2 d2 f2
              clear q1 q2 q3 q4 hkd hwd hg1' hg2' hg3'
              go_wp2
              go_big_region
              go_wp2
              go_roundg (l1.length - (j + 1))
              case rel => exact ⟨j + 1, (by show _ = _; omega), by omega, by go_num, hbj.drew⟩
              case measure => have := HG.out; omega
            · go_wp2_with fail
              refine (awake_any _).mono ?_
              rintro e w5 ⟨rfl, hb5⟩
              go_wp2
              go_ret
              exact ⟨rfl, bthen (bthen (bthen (bthen (bthen hb1 hb2) hb3) hb4) hbj) hb5⟩
  · by_cases h1 : s.size ≤ 200
    · by_cases h2 : n.size ≤ 200
      · have h3' : 200 < t.size := by omega
        go_enter Try.func7, Try.ntmps7
        go_wp2_with fail
        refine (awake_any _).mono ?_
        rintro e w1 ⟨rfl, hb1⟩
        go_wp2
        go_ret
        exact ⟨rfl, hb1⟩
      · go_enter Try.func7, Try.ntmps7
        go_wp2_with fail
        refine (awake_any _).mono ?_
        rintro e w1 ⟨rfl, hb1⟩
        go_wp2
        go_ret
        exact ⟨rfl, hb1⟩
    · go_enter Try.func7, Try.ntmps7
      go_wp2_with fail
      refine (awake_any _).mono ?_
      rintro e w1 ⟨rfl, hb1⟩
      go_wp2
      go_ret
      exact ⟨rfl, hb1⟩
end Go.Proofs.Ytccbdogfapiidaa
