/-
  The walk of layer 1's statement WordReads: it returns true whatever the string and the place are. No conditions.
-/
import Derived.Test.YtfjdfjbbgfehaaaWordRefU
import Derived.Test.YtfjdfjbbgfehaaaWordQuotesWalk
namespace Go.Proofs.Ytfjdfjbbgfehaaa
open Go.RowKit

theorem shape_head (t : ByteArray) (h : 0 < t.size) (h3 : t[0].toNat ≠ 34) : t.data.toList.head? ≠ some 34 := by
  rw [W.head_at t h]; exact fun e => h3 ((W.byte_eq (n := 34) (by omega)).1 e)
theorem shape_last (t : ByteArray) (h : 0 < t.size) (h3 : (t[t.size - 1]'(by omega)).toNat ≠ 34) : t.data.toList.getLast? ≠ some 34 := by
  rw [W.last_at t h]; exact fun e => h3 ((W.byte_eq (n := 34) (by omega)).1 e)

/-- How the three ways ahead of the quotes end, once for all: a bare word, one that is too long, none. -/
theorem unq_bare (t : ByteArray) (h : t.size < 2 ∨ t.data.toList.head? ≠ some 34 ∨ t.data.toList.getLast? ≠ some 34) (hb : W.bareL t.data.toList = true) (h40 : ¬ 40 < t.size) : W.unqL t.data.toList = (t.data.toList, 0) := by
  refine W.unq_ok ?_ (by rw [← Lib.size_eq]; exact h40)
  rw [W.meant_noshape t h, if_pos hb]
theorem unq_bareLong (t : ByteArray) (h : t.size < 2 ∨ t.data.toList.head? ≠ some 34 ∨ t.data.toList.getLast? ≠ some 34) (hb : W.bareL t.data.toList = true) (h40 : 40 < t.size) : W.unqL t.data.toList = ([], 5) := by
  refine W.unq_long (y := t.data.toList) ?_ (by rw [← Lib.size_eq]; exact h40)
  rw [W.meant_noshape t h, if_pos hb]
theorem unq_notBare (t : ByteArray) (h : t.size < 2 ∨ t.data.toList.head? ≠ some 34 ∨ t.data.toList.getLast? ≠ some 34) (hb : W.bareL t.data.toList = false) : W.unqL t.data.toList = ([], 2) := by
  refine W.unq_none ?_
  rw [W.meant_noshape t h, if_neg (by simp [hb])]

set_option maxRecDepth 100000 in
set_option maxHeartbeats 2000000 in
theorem unquoteR_any (t : ByteArray) (w : World) (hs : t.size ≤ 1073741824) :
    Calls Try.prog 16 #[.string t] w (WroteS w.heap.size w (W.unqL t.data.toList).1 (W.unqL t.data.toList).2) := by
  by_cases h2 : t.size < 2
  · have hsh : t.size < 2 ∨ t.data.toList.head? ≠ some 34 ∨ t.data.toList.getLast? ≠ some 34 := .inl h2
    have HS := Lib.hid hsh
    clear hsh
    cases hbr : W.bareL t.data.toList with
    | false =>
      have HU := Lib.hid (unq_notBare t HS.out hbr)
      have HB := Lib.hid hbr
      clear hbr
      go_enter Try.func16, Try.ntmps16
      go_wp2_with (go_at_call 12; refine (bare_is t _ false (by omega) HB.out).mono ?_; rintro e w' ⟨rfl, rfl⟩)
      go_ret2
      exact ⟨by rw [HU.out]; rfl, Below.refl _ _⟩
    | true =>
      by_cases h40 : 40 < t.size
      · omega
      · have HU := Lib.hid (unq_bare t HS.out hbr h40)
        have HB := Lib.hid hbr
        clear hbr
        go_enter Try.func16, Try.ntmps16
        go_wp2_with (go_at_call 12; refine (bare_is t _ true (by omega) HB.out).mono ?_; rintro e w' ⟨rfl, rfl⟩)
        go_ret2
        exact ⟨by rw [HU.out, Lib.mk_data]; rfl, Below.refl _ _⟩
  have g0 : 0 < t.size := by omega
  have g1 : t.size - 1 < t.size := by omega
  have g2 : 2 ≤ t.size := by omega
  by_cases h3 : t[0].toNat = 34
  · by_cases h4 : t[t.size - 1].toNat = 34
    · exact unquoteR_shape t w hs g0 g1 g2 h3 h4
    · have b3 : ((t[0].toNat : Int) != 34) = false := by simp; omega
      have b4 : ((t[t.size - 1].toNat : Int) != 34) = true := by simp; omega
      have HS : Hid (t.size < 2 ∨ t.data.toList.head? ≠ some 34 ∨ t.data.toList.getLast? ≠ some 34) := .inr (.inr (shape_last t g0 h4))
      clear h3 h4
      cases hbr : W.bareL t.data.toList with
      | false =>
        have HU := Lib.hid (unq_notBare t HS.out hbr)
        have HB := Lib.hid hbr
        clear hbr
        go_enter Try.func16, Try.ntmps16
        go_wp2_with (go_at_call 12; refine (bare_is t _ false (by omega) HB.out).mono ?_; rintro e w' ⟨rfl, rfl⟩)
        go_ret2
        exact ⟨by rw [HU.out]; rfl, Below.refl _ _⟩
      | true =>
        by_cases h40 : 40 < t.size
        · have HU := Lib.hid (unq_bareLong t HS.out hbr h40)
          have HB := Lib.hid hbr
          clear hbr
          go_enter Try.func16, Try.ntmps16
          go_wp2_with (go_at_call 12; refine (bare_is t _ true (by omega) HB.out).mono ?_; rintro e w' ⟨rfl, rfl⟩)
          go_ret2
          exact ⟨by rw [HU.out]; rfl, Below.refl _ _⟩
        · have HU := Lib.hid (unq_bare t HS.out hbr h40)
          have HB := Lib.hid hbr
          clear hbr
          go_enter Try.func16, Try.ntmps16
          go_wp2_with (go_at_call 12; refine (bare_is t _ true (by omega) HB.out).mono ?_; rintro e w' ⟨rfl, rfl⟩)
          go_ret2
          exact ⟨by rw [HU.out, Lib.mk_data]; rfl, Below.refl _ _⟩
  · have b3 : ((t[0].toNat : Int) != 34) = true := by simp; omega
    have HS : Hid (t.size < 2 ∨ t.data.toList.head? ≠ some 34 ∨ t.data.toList.getLast? ≠ some 34) := .inr (.inl (shape_head t g0 h3))
    clear h3
    cases hbr : W.bareL t.data.toList with
    | false =>
      have HU := Lib.hid (unq_notBare t HS.out hbr)
      have HB := Lib.hid hbr
      clear hbr
      go_enter Try.func16, Try.ntmps16
      go_wp2_with (go_at_call 12; refine (bare_is t _ false (by omega) HB.out).mono ?_; rintro e w' ⟨rfl, rfl⟩)
      go_ret2
      exact ⟨by rw [HU.out]; rfl, Below.refl _ _⟩
    | true =>
      by_cases h40 : 40 < t.size
      · have HU := Lib.hid (unq_bareLong t HS.out hbr h40)
        have HB := Lib.hid hbr
        clear hbr
        go_enter Try.func16, Try.ntmps16
        go_wp2_with (go_at_call 12; refine (bare_is t _ true (by omega) HB.out).mono ?_; rintro e w' ⟨rfl, rfl⟩)
        go_ret2
        exact ⟨by rw [HU.out]; rfl, Below.refl _ _⟩
      · have HU := Lib.hid (unq_bare t HS.out hbr h40)
        have HB := Lib.hid hbr
        clear hbr
        go_enter Try.func16, Try.ntmps16
        go_wp2_with (go_at_call 12; refine (bare_is t _ true (by omega) HB.out).mono ?_; rintro e w' ⟨rfl, rfl⟩)
        go_ret2
        exact ⟨by rw [HU.out, Lib.mk_data]; rfl, Below.refl _ _⟩

theorem unqR_is (t : ByteArray) (x : List UInt8) (k : Int) (w : World) (hs : t.size ≤ 1073741824) (hq : W.unqL t.data.toList = (x, k)) : Calls Try.prog 16 #[.string t] w (WroteS w.heap.size w x k) := by
  have h := unquoteR_any t w hs
  rw [hq] at h
  exact h
theorem scan2_is (s : ByteArray) (a : Int) (o : Option Nat) (w : World) (hs : s.size ≤ 1099511627776) (h : W.scanL s.data.toList a = o) : Calls Try.prog 14 #[.string s, .int .i64 a] w fun e w' => e = .returned (.tuple #[.int .i64 (W.optN o), .bool o.isSome]) ∧ w = w' := by
  rw [← h]; exact scan_any s a w hs
theorem scanR_is (s : ByteArray) (a : Int) (o : Option Nat) (w : World) (hs : s.size ≤ 1099511627776) (h : W.scanL s.data.toList a = o) : Calls Try.prog 17 #[.string s, .int .i64 a] w fun e w' => e = .returned (.tuple #[.int .i64 (W.optN o), .bool o.isSome]) ∧ w = w' := by
  rw [← h]; exact scanR_any s a w hs

set_option maxHeartbeats 1000000 in
theorem wordReads_walk (t : ByteArray) (ht : t.size ≤ maxLen) (a : Int) (_wa : (Lit.int .i64 a).wf = true) (w : World) :
    Calls Try.prog 4 #[.string t, .int .i64 a] w (TrueS w) := by
  unfold maxLen at ht
  by_cases h300 : t.size ≤ 300
  · obtain ⟨x, k, hx⟩ : ∃ x k, W.unqL t.data.toList = (x, k) := ⟨_, _, rfl⟩
    obtain ⟨o, ho⟩ : ∃ o, W.scanL t.data.toList a = o := ⟨_, rfl⟩
    have HX := Lib.hid hx
    have HO := Lib.hid ho
    clear hx ho
    cases o with
    | none =>
      go_enter Try.func4, Try.ntmps4
      go_wp2_with fail
      refine (unq_is t x k _ (by omega) HX.out).mono ?_
      rintro e w1 ⟨rfl, hb1⟩
      go_wp2_with fail
      refine (unqR_is t x k _ (by omega) HX.out).mono ?_
      rintro e w2 ⟨rfl, hb2⟩
      go_wp2_with fail
      refine (scan2_is t a none _ (by omega) HO.out).mono ?_
      rintro e w' ⟨rfl, rfl⟩
      simp only [W.optN, Option.isSome]
      go_wp2_with fail
      refine (scanR_is t a none _ (by omega) HO.out).mono ?_
      rintro e w' ⟨rfl, rfl⟩
      simp only [W.optN, Option.isSome]
      go_wp2_with fail
      refine (awake_any _).mono ?_
      rintro e w4 ⟨rfl, hb4⟩
      go_wp2
      go_ret
      exact ⟨rfl, bthen (bthen hb1 hb2) hb4⟩
    | some n =>
      go_enter Try.func4, Try.ntmps4
      go_wp2_with fail
      refine (unq_is t x k _ (by omega) HX.out).mono ?_
      rintro e w1 ⟨rfl, hb1⟩
      go_wp2_with fail
      refine (unqR_is t x k _ (by omega) HX.out).mono ?_
      rintro e w2 ⟨rfl, hb2⟩
      go_wp2_with fail
      refine (scan2_is t a (some n) _ (by omega) HO.out).mono ?_
      rintro e w' ⟨rfl, rfl⟩
      simp only [W.optN, Option.isSome]
      go_wp2_with fail
      refine (scanR_is t a (some n) _ (by omega) HO.out).mono ?_
      rintro e w' ⟨rfl, rfl⟩
      simp only [W.optN, Option.isSome]
      go_wp2_with fail
      refine (awake_any _).mono ?_
      rintro e w4 ⟨rfl, hb4⟩
      go_wp2
      go_ret
      exact ⟨rfl, bthen (bthen hb1 hb2) hb4⟩
  · go_enter Try.func4, Try.ntmps4
    go_wp2_with fail
    refine (awake_any _).mono ?_
    rintro e w1 ⟨rfl, hb1⟩
    go_wp2
    go_ret
    exact ⟨rfl, hb1⟩
end Go.Proofs.Ytfjdfjbbgfehaaa
