/-
  Contracts of the document's answers for layer 1 (ferryslipref01): Unquote, whatever the text; Bare, Quote and Scan with what they answer as a variable. Condition: strings of at most 2^30 bytes.
-/
import Derived.Test.YtccbdogfapiidaaWordRefU
namespace Go.Proofs.Ytccbdogfapiidaa
open Go.RowKit

theorem bare_is (s : ByteArray) (w : World) (b : Bool) (hs : s.size ≤ 1099511627776) (h : W.bareL s.data.toList = b) : Calls Try.prog 28 #[.string s] w fun e w' => e = .returned (.bool b) ∧ w = w' := by
  rw [← h]; exact BareR_any s w hs
theorem quoteR_is (s : ByteArray) (q : List UInt8) (w : World) (hs : s.size ≤ 1073741824) (h : W.quoteL s.data.toList = q) : Calls Try.prog 18 #[.string s] w (WroteQ w.heap.size w q) := by
  rw [← h]; exact quoteR_any s w hs

theorem shape_head (t : ByteArray) (h : 0 < t.size) (h3 : t[0].toNat ≠ 34) : t.data.toList.head? ≠ some 34 := by
  rw [W.head_at t h]; exact fun e => h3 ((W.byte_eq (n := 34) (by omega)).1 e)
theorem shape_last (t : ByteArray) (h : 0 < t.size) (h3 : (t[t.size - 1]'(by omega)).toNat ≠ 34) : t.data.toList.getLast? ≠ some 34 := by
  rw [W.last_at t h]; exact fun e => h3 ((W.byte_eq (n := 34) (by omega)).1 e)

/-- How the three ways ahead of the quotes end, once for all: a bare word, one that is too long, none. -/
theorem unq_bare (t : ByteArray) (h : t.size < 2 ∨ t.data.toList.head? ≠ some 34 ∨ t.data.toList.getLast? ≠ some 34) (hb : W.bareL t.data.toList = true) (h40 : ¬ 40 < t.size) : W.unqL t.data.toList = (t.data.toList, 0) := by
  refine W.unq_ok ?_ (by rw [← Lib.size_eq]; exact h40)
  rw [W.meant_noshape t h, if_pos hb]
theorem unq_bareLong (t : ByteArray) (h : t.size < 2 ∨ t.data.toList.head? ≠ some 34 ∨ t.data.toList.getLast? ≠ some 34) (hb : W.bareL t.data.toList = true) (h40 : 40 < t.size) : W.unqL t.data.toList = ([], 5) := by
  refine W.unq_long (y := t.data.toList) ?_ (by rw [← Lib.size_eq]; exact h40)
  rw [W.meant_noshape t h, if_pos hb]
theorem unq_notBare (t : ByteArray) (h : t.size < 2 ∨ t.data.toList.head? ≠ some 34 ∨ t.data.toList.getLast? ≠ some 34) (hb : W.bareL t.data.toList = false) : W.unqL t.data.toList = ([], 2) := by
  refine W.unq_none ?_
  rw [W.meant_noshape t h, if_neg (by simp [hb])]

set_option maxRecDepth 100000 in
set_option maxHeartbeats 2000000 in
theorem unquoteR_any (t : ByteArray) (w : World) (hs : t.size ≤ 1073741824) :
    Calls Try.prog 25 #[.string t] w (WroteS w.heap.size w (W.unqL t.data.toList).1 (W.unqL t.data.toList).2) := by
  by_cases h2 : t.size < 2
  · have hsh : t.size < 2 ∨ t.data.toList.head? ≠ some 34 ∨ t.data.toList.getLast? ≠ some 34 := .inl h2
    have HS := Lib.hid hsh
    clear hsh
    cases hbr : W.bareL t.data.toList with
    | false =>
      have HU := Lib.hid (unq_notBare t HS.out hbr)
      have HB := Lib.hid hbr
      clear hbr
      go_enter Try.func25, Try.ntmps25
      go_wp2_with (go_at_call 28; refine (bare_is t _ false (by omega) HB.out).mono ?_; rintro e w' ⟨rfl, rfl⟩)
      go_ret2
      exact ⟨by rw [HU.out]; rfl, Below.refl _ _⟩
    | true =>
      by_cases h40 : 40 < t.size
      · omega
      · have HU := Lib.hid (unq_bare t HS.out hbr h40)
        have HB := Lib.hid hbr
        clear hbr
        go_enter Try.func25, Try.ntmps25
        go_wp2_with (go_at_call 28; refine (bare_is t _ true (by omega) HB.out).mono ?_; rintro e w' ⟨rfl, rfl⟩)
        go_ret2
        exact ⟨by rw [HU.out, Lib.mk_data]; rfl, Below.refl _ _⟩
  have g0 : 0 < t.size := by omega
  have g1 : t.size - 1 < t.size := by omega
  have g2 : 2 ≤ t.size := by omega
  by_cases h3 : t[0].toNat = 34
  · by_cases h4 : t[t.size - 1].toNat = 34
    · exact unquoteR_shape t w hs g0 g1 g2 h3 h4
    · have b3 : ((t[0].toNat : Int) != 34) = false := by simp; omega
      have b4 : ((t[t.size - 1].toNat : Int) != 34) = true := by simp; omega
      have HS : Hid (t.size < 2 ∨ t.data.toList.head? ≠ some 34 ∨ t.data.toList.getLast? ≠ some 34) := .inr (.inr (shape_last t g0 h4))
      clear h3 h4
      cases hbr : W.bareL t.data.toList with
      | false =>
        have HU := Lib.hid (unq_notBare t HS.out hbr)
        have HB := Lib.hid hbr
        clear hbr
        go_enter Try.func25, Try.ntmps25
        go_wp2_with (go_at_call 28; refine (bare_is t _ false (by omega) HB.out).mono ?_; rintro e w' ⟨rfl, rfl⟩)
        go_ret2
        exact ⟨by rw [HU.out]; rfl, Below.refl _ _⟩
      | true =>
        by_cases h40 : 40 < t.size
        · have HU := Lib.hid (unq_bareLong t HS.out hbr h40)
          have HB := Lib.hid hbr
          clear hbr
          go_enter Try.func25, Try.ntmps25
          go_wp2_with (go_at_call 28; refine (bare_is t _ true (by omega) HB.out).mono ?_; rintro e w' ⟨rfl, rfl⟩)
          go_ret2
          exact ⟨by rw [HU.out]; rfl, Below.refl _ _⟩
        · have HU := Lib.hid (unq_bare t HS.out hbr h40)
          have HB := Lib.hid hbr
          clear hbr
          go_enter Try.func25, Try.ntmps25
          go_wp2_with (go_at_call 28; refine (bare_is t _ true (by omega) HB.out).mono ?_; rintro e w' ⟨rfl, rfl⟩)
          go_ret2
          exact ⟨by rw [HU.out, Lib.mk_data]; rfl, Below.refl _ _⟩
  · have b3 : ((t[0].toNat : Int) != 34) = true := by simp; omega
    have HS : Hid (t.size < 2 ∨ t.data.toList.head? ≠ some 34 ∨ t.data.toList.getLast? ≠ some 34) := .inr (.inl (shape_head t g0 h3))
    clear h3
    cases hbr : W.bareL t.data.toList with
    | false =>
      have HU := Lib.hid (unq_notBare t HS.out hbr)
      have HB := Lib.hid hbr
      clear hbr
      go_enter Try.func25, Try.ntmps25
      go_wp2_with (go_at_call 28; refine (bare_is t _ false (by omega) HB.out).mono ?_; rintro e w' ⟨rfl, rfl⟩)
      go_ret2
      exact ⟨by rw [HU.out]; rfl, Below.refl _ _⟩
    | true =>
      by_cases h40 : 40 < t.size
      · have HU := Lib.hid (unq_bareLong t HS.out hbr h40)
        have HB := Lib.hid hbr
        clear hbr
        go_enter Try.func25, Try.ntmps25
        go_wp2_with (go_at_call 28; refine (bare_is t _ true (by omega) HB.out).mono ?_; rintro e w' ⟨rfl, rfl⟩)
        go_ret2
        exact ⟨by rw [HU.out]; rfl, Below.refl _ _⟩
      · have HU := Lib.hid (unq_bare t HS.out hbr h40)
        have HB := Lib.hid hbr
        clear hbr
        go_enter Try.func25, Try.ntmps25
        go_wp2_with (go_at_call 28; refine (bare_is t _ true (by omega) HB.out).mono ?_; rintro e w' ⟨rfl, rfl⟩)
        go_ret2
        exact ⟨by rw [HU.out, Lib.mk_data]; rfl, Below.refl _ _⟩

theorem unqR_is (t : ByteArray) (x : List UInt8) (k : Int) (w : World) (hs : t.size ≤ 1073741824) (hq : W.unqL t.data.toList = (x, k)) : Calls Try.prog 25 #[.string t] w (WroteS w.heap.size w x k) := by
  have h := unquoteR_any t w hs
  rw [hq] at h
  exact h
theorem scanR_is (s : ByteArray) (a : Int) (o : Option Nat) (w : World) (hs : s.size ≤ 1099511627776) (h : W.scanL s.data.toList a = o) : Calls Try.prog 24 #[.string s, .int .i64 a] w fun e w' => e = .returned (.tuple #[.int .i64 (W.optN o), .bool o.isSome]) ∧ w = w' := by
  rw [← h]; exact scanR_any s a w hs

end Go.Proofs.Ytccbdogfapiidaa
