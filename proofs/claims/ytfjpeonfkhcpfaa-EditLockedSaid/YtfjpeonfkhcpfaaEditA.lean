/-
  What layer 7's statements need of edit's functions, as one premise (EditOk); Do and want of the statements' package. Condition: at most 2^30 lines and words.
-/
import Derived.Test.YtfjpeonfkhcpfaaEditZ
namespace Go.Proofs.Ytfjpeonfkhcpfaa
open Go.RowKit
set_option linter.unusedVariables false

/-- Lines and a path that are handed over. -/
structure EArgs (w : World) (A B : Option Addr) (c d n m : Nat) (t : List T.Ln) (p : T.Pth) : Prop where
  hn : t.length = n
  hm : p.length = m
  hA : Seen eL w A t
  hB : Seen eS w B p
  hc : NilOk A c
  hnc : n ≤ c
  hd : m ≤ d
  hl : n ≤ 1073741824
  hp : m ≤ 1073741824
theorem EArgs.below {w w1 : World} {A B : Option Addr} {c d n m : Nat} {t : List T.Ln} {p : T.Pth} (h : EArgs w A B c d n m t p) (hb : Below w.heap.size w w1) : EArgs w1 A B c d n m t p :=
  ⟨h.hn, h.hm, h.hA.below hb, h.hB.below hb, h.hc, h.hnc, h.hd, h.hl, h.hp⟩
/-- Lines and an error's number. -/
def EditS (w : World) (v : List T.Ln) (er : Int) (e : Ending) (w' : World) : Prop := ∃ A c, e = .returned (.tuple #[.slice A v.length c, .int .i64 er]) ∧ Seen eL w' A v ∧ NilOk A c ∧ v.length ≤ c ∧ Below w.heap.size w w'
/-- What edit's functions do. -/
structure EditOk : Prop where
  set : ∀ (A B : Option Addr) (c d n m : Nat) (t v : List T.Ln) (p : T.Pth) (er : Int) (w : World), EArgs w A B c d n m t p → SetIs t p v er → Calls Try.prog 30 #[.slice A n c, .slice B m d] w (EditS w v er)
  del : ∀ (A B : Option Addr) (c d n m : Nat) (t v : List T.Ln) (p : T.Pth) (bit : Int) (wd : List UInt8) (er : Int) (w : World), EArgs w A B c d n m t p → TurnIs t p 1 bit wd v er → Calls Try.prog 26 #[.slice A n c, .slice B m d] w (EditS w v er)
  mark : ∀ (A B : Option Addr) (c d n m : Nat) (t v : List T.Ln) (p : T.Pth) (bit : Int) (wd : List UInt8) (er : Int) (on : Bool) (w : World), EArgs w A B c d n m t p → TurnIs t p (if on then 2 else 3) bit wd v er → Calls Try.prog 28 #[.slice A n c, .slice B m d, .int .i64 bit, .bool on] w (EditS w v er)
  rename : ∀ (A B : Option Addr) (c d n m : Nat) (t v : List T.Ln) (p : T.Pth) (bit : Int) (wd : List UInt8) (er : Int) (w : World), EArgs w A B c d n m t p → TurnIs t p 4 bit wd v er → Calls Try.prog 24 #[.slice A n c, .slice B m d, .string (sB wd)] w (EditS w v er)
  copy : ∀ (A B : Option Addr) (c d n m : Nat) (t v : List T.Ln) (p : T.Pth) (bit : Int) (wd : List UInt8) (er : Int) (w : World), EArgs w A B c d n m t p → TurnIs t p 5 bit wd v er → Calls Try.prog 25 #[.slice A n c, .slice B m d, .string (sB wd)] w (EditS w v er)
  locked : ∀ (A B : Option Addr) (c d n m : Nat) (t : List T.Ln) (p : T.Pth) (b : Bool) (w : World), EArgs w A B c d n m t p → (b = true ↔ T.RightT t ∧ T.Kept t p p.length) → Calls Try.prog 17 #[.slice A n c, .slice B m d] w (BoolS w b)
  above : ∀ (A B : Option Addr) (c d n m : Nat) (t : List T.Ln) (p : T.Pth) (b : Bool) (w : World), EArgs w A B c d n m t p → (b = true ↔ T.RightT t ∧ T.Kept t p (p.length - 1)) → Calls Try.prog 19 #[.slice A n c, .slice B m d] w (BoolS w b)
/-- What an act makes of lines. -/
def ActIs (t : List T.Ln) (k : Int) (p : T.Pth) (bit : Int) (wd : List UInt8) (v : List T.Ln) (er : Int) : Prop :=
  ((k < 1 ∨ 5 < k) ∧ SetIs t p v er) ∨ (k = 1 ∧ TurnIs t p 1 bit wd v er) ∨ (k = 2 ∧ TurnIs t p 2 bit wd v er) ∨ (k = 3 ∧ TurnIs t p 3 bit wd v er) ∨ (k = 4 ∧ TurnIs t p 4 bit wd v er) ∨ (k = 5 ∧ TurnIs t p 5 bit wd v er)
theorem act_is (t : List T.Ln) (k : Int) (p : T.Pth) (bit : Int) (wd : List UInt8) : ∃ v er, ActIs t k p bit wd v er := by
  by_cases h : k < 1 ∨ 5 < k
  · obtain ⟨v, er, hs⟩ := set_is t p
    exact ⟨v, er, .inl ⟨h, hs⟩⟩
  · obtain h | h | h | h | h : k = 1 ∨ k = 2 ∨ k = 3 ∨ k = 4 ∨ k = 5 := by omega
    · obtain ⟨v, er, hs⟩ := turn_is t p 1 (by omega) (by omega) bit wd
      exact ⟨v, er, .inr (.inl ⟨h, hs⟩)⟩
    · obtain ⟨v, er, hs⟩ := turn_is t p 2 (by omega) (by omega) bit wd
      exact ⟨v, er, .inr (.inr (.inl ⟨h, hs⟩))⟩
    · obtain ⟨v, er, hs⟩ := turn_is t p 3 (by omega) (by omega) bit wd
      exact ⟨v, er, .inr (.inr (.inr (.inl ⟨h, hs⟩)))⟩
    · obtain ⟨v, er, hs⟩ := turn_is t p 4 (by omega) (by omega) bit wd
      exact ⟨v, er, .inr (.inr (.inr (.inr (.inl ⟨h, hs⟩))))⟩
    · obtain ⟨v, er, hs⟩ := turn_is t p 5 (by omega) (by omega) bit wd
      exact ⟨v, er, .inr (.inr (.inr (.inr (.inr ⟨h, hs⟩))))⟩
theorem ActIs.err {t v : List T.Ln} {p : T.Pth} {k bit er : Int} {wd : List UInt8} (h : ActIs t k p bit wd v er) (h0 : er ≠ 0) : v = t := by
  rcases h with ⟨_, h⟩ | ⟨_, h⟩ | ⟨_, h⟩ | ⟨_, h⟩ | ⟨_, h⟩ | ⟨_, h⟩ <;> exact h.err h0
theorem ActIs.right {t v : List T.Ln} {p : T.Pth} {k bit er : Int} {wd : List UInt8} (h : ActIs t k p bit wd v er) (hR : T.RightT t) : T.RightT v := by
  rcases h with ⟨_, h⟩ | ⟨_, h⟩ | ⟨_, h⟩ | ⟨_, h⟩ | ⟨_, h⟩ | ⟨_, h⟩ <;> exact h.right hR
theorem ActIs.stays {t v : List T.Ln} {p : T.Pth} {k bit er : Int} {wd : List UInt8} (h : ActIs t k p bit wd v er) {i : Nat} (hi : i < t.length) (hk : T.Kept t (T.pathL t i) (T.pathL t i).length) : Stays t v i := by
  rcases h with ⟨_, h⟩ | ⟨_, h⟩ | ⟨_, h⟩ | ⟨_, h⟩ | ⟨_, h⟩ | ⟨_, h⟩
  · exact h.stays hi
  all_goals exact h.stays hi hk

set_option maxRecDepth 100000 in
set_option maxHeartbeats 4000000 in
theorem do_edit (E : EditOk) (A B : Option Addr) (c d n m : Nat) (t v : List T.Ln) (p : T.Pth) (k bit er : Int) (wd : List UInt8) (w : World) (ha : EArgs w A B c d n m t p) (h : ActIs t k p bit wd v er) :
    Calls Try.prog 13 #[.slice A n c, .agg #[.int .i64 k, .slice B m d, .int .i64 bit, .string (sB wd)]] w (EditS w v er) := by
  have HA := Lib.hid ha
  clear ha
  rcases h with ⟨hk, h⟩ | ⟨rfl, h⟩ | ⟨rfl, h⟩ | ⟨rfl, h⟩ | ⟨rfl, h⟩ | ⟨rfl, h⟩
  · have b1 : (k == 1) = false := beq_eq_false_iff_ne.2 (by omega)
    have b2 : (k == 2) = false := beq_eq_false_iff_ne.2 (by omega)
    have b3 : (k == 3) = false := beq_eq_false_iff_ne.2 (by omega)
    have b4 : (k == 4) = false := beq_eq_false_iff_ne.2 (by omega)
    have b5 : (k == 5) = false := beq_eq_false_iff_ne.2 (by omega)
    have H := Lib.hid h
    clear h hk
    go_enter Try.func13, Try.ntmps13
    go_wp2_with fail
    have hb := (Below.refl w.heap.size w).alloc (Nat.le_refl _) (.cells #[.int .i64 k, .slice B m d, .int .i64 bit, .string (sB wd)] 25)
    refine (E.set A B c d n m t v p er _ (HA.out.below hb) H.out).mono ?_
    rintro e w1 ⟨A1, c1, rfl, h1, h2, h3, hx⟩
    go_wp2
    go_ret2
    exact ⟨A1, c1, rfl, h1, h2, h3, bthen hb hx⟩
  · have H := Lib.hid h
    clear h
    go_enter Try.func13, Try.ntmps13
    go_wp2_with fail
    have hb := (Below.refl w.heap.size w).alloc (Nat.le_refl _) (.cells #[.int .i64 1, .slice B m d, .int .i64 bit, .string (sB wd)] 25)
    refine (E.del A B c d n m t v p bit wd er _ (HA.out.below hb) H.out).mono ?_
    rintro e w1 ⟨A1, c1, rfl, h1, h2, h3, hx⟩
    go_wp2
    go_ret2
    exact ⟨A1, c1, rfl, h1, h2, h3, bthen hb hx⟩
  · have H := Lib.hid h
    clear h
    go_enter Try.func13, Try.ntmps13
    go_wp2_with fail
    have hb := (Below.refl w.heap.size w).alloc (Nat.le_refl _) (.cells #[.int .i64 2, .slice B m d, .int .i64 bit, .string (sB wd)] 25)
    refine (E.mark A B c d n m t v p bit wd er true _ (HA.out.below hb) H.out).mono ?_
    rintro e w1 ⟨A1, c1, rfl, h1, h2, h3, hx⟩
    go_wp2
    go_ret2
    exact ⟨A1, c1, rfl, h1, h2, h3, bthen hb hx⟩
  · have H := Lib.hid h
    clear h
    go_enter Try.func13, Try.ntmps13
    go_wp2_with fail
    have hb := (Below.refl w.heap.size w).alloc (Nat.le_refl _) (.cells #[.int .i64 3, .slice B m d, .int .i64 bit, .string (sB wd)] 25)
    refine (E.mark A B c d n m t v p bit wd er false _ (HA.out.below hb) H.out).mono ?_
    rintro e w1 ⟨A1, c1, rfl, h1, h2, h3, hx⟩
    go_wp2
    go_ret2
    exact ⟨A1, c1, rfl, h1, h2, h3, bthen hb hx⟩
  · have H := Lib.hid h
    clear h
    go_enter Try.func13, Try.ntmps13
    go_wp2_with fail
    have hb := (Below.refl w.heap.size w).alloc (Nat.le_refl _) (.cells #[.int .i64 4, .slice B m d, .int .i64 bit, .string (sB wd)] 25)
    refine (E.rename A B c d n m t v p bit wd er _ (HA.out.below hb) H.out).mono ?_
    rintro e w1 ⟨A1, c1, rfl, h1, h2, h3, hx⟩
    go_wp2
    go_ret2
    exact ⟨A1, c1, rfl, h1, h2, h3, bthen hb hx⟩
  · have H := Lib.hid h
    clear h
    go_enter Try.func13, Try.ntmps13
    go_wp2_with fail
    have hb := (Below.refl w.heap.size w).alloc (Nat.le_refl _) (.cells #[.int .i64 5, .slice B m d, .int .i64 bit, .string (sB wd)] 25)
    refine (E.copy A B c d n m t v p bit wd er _ (HA.out.below hb) H.out).mono ?_
    rintro e w1 ⟨A1, c1, rfl, h1, h2, h3, hx⟩
    go_wp2
    go_ret2
    exact ⟨A1, c1, rfl, h1, h2, h3, bthen hb hx⟩
set_option maxRecDepth 100000 in
set_option maxHeartbeats 4000000 in
theorem want_any (A B : Option Addr) (c d n m : Nat) (t v : List T.Ln) (p : T.Pth) (k bit er : Int) (wd : List UInt8) (w : World) (ha : EArgs w A B c d n m t p) (h : ActIs t k p bit wd v er) :
    Calls Try.prog 14 #[.slice A n c, .agg #[.int .i64 k, .slice B m d, .int .i64 bit, .string (sB wd)]] w (RefAddS w v er) := by
  obtain ⟨hn, hm, hA, hB, hc, hnc, hd, hl, hp⟩ := ha
  subst hn; subst hm
  have HA := Lib.hid hA
  have HB := Lib.hid hB
  have HC := Lib.hid hc
  clear hA hB hc
  rcases h with ⟨hk, h⟩ | ⟨rfl, h⟩ | ⟨rfl, h⟩ | ⟨rfl, h⟩ | ⟨rfl, h⟩ | ⟨rfl, h⟩
  · have H := Lib.hid h
    rcases hk with hk | hk
    · have b1 : decide (k < 1) = true := decide_eq_true hk
      clear h hk
      go_enter Try.func14, Try.ntmps14
      go_wp2_with fail
      have hb := (Below.refl w.heap.size w).alloc (Nat.le_refl _) (.cells #[.int .i64 k, .slice B p.length d, .int .i64 bit, .string (sB wd)] 25)
      refine (refSet_any A B c d t v p er _ (HA.out.below hb) (HB.out.below hb) HC.out hnc hd hl hp H.out).mono ?_
      rintro e w1 ⟨A1, c1, rfl, h1, hx⟩
      go_wp2
      go_ret2
      exact ⟨A1, c1, rfl, h1, bthen hb hx⟩
    · have b1 : decide (k < 1) = false := decide_eq_false (by omega)
      have b2 : decide (5 < k) = true := decide_eq_true hk
      clear h hk
      go_enter Try.func14, Try.ntmps14
      go_wp2_with fail
      have hb := (Below.refl w.heap.size w).alloc (Nat.le_refl _) (.cells #[.int .i64 k, .slice B p.length d, .int .i64 bit, .string (sB wd)] 25)
      refine (refSet_any A B c d t v p er _ (HA.out.below hb) (HB.out.below hb) HC.out hnc hd hl hp H.out).mono ?_
      rintro e w1 ⟨A1, c1, rfl, h1, hx⟩
      go_wp2
      go_ret2
      exact ⟨A1, c1, rfl, h1, bthen hb hx⟩
  · have H := Lib.hid h
    clear h
    go_enter Try.func14, Try.ntmps14
    go_wp2_with fail
    have hb := (Below.refl w.heap.size w).alloc (Nat.le_refl _) (.cells #[.int .i64 1, .slice B p.length d, .int .i64 bit, .string (sB wd)] 25)
    refine (refTurn_any A B c d 1 t v p bit er wd _ (HA.out.below hb) (HB.out.below hb) HC.out hnc hd hl hp (by omega) (by omega) H.out).mono ?_
    rintro e w1 ⟨A1, c1, rfl, h1, hx⟩
    go_wp2
    go_ret2
    exact ⟨A1, c1, rfl, h1, bthen hb hx⟩
  · have H := Lib.hid h
    clear h
    go_enter Try.func14, Try.ntmps14
    go_wp2_with fail
    have hb := (Below.refl w.heap.size w).alloc (Nat.le_refl _) (.cells #[.int .i64 2, .slice B p.length d, .int .i64 bit, .string (sB wd)] 25)
    refine (refTurn_any A B c d 2 t v p bit er wd _ (HA.out.below hb) (HB.out.below hb) HC.out hnc hd hl hp (by omega) (by omega) H.out).mono ?_
    rintro e w1 ⟨A1, c1, rfl, h1, hx⟩
    go_wp2
    go_ret2
    exact ⟨A1, c1, rfl, h1, bthen hb hx⟩
  · have H := Lib.hid h
    clear h
    go_enter Try.func14, Try.ntmps14
    go_wp2_with fail
    have hb := (Below.refl w.heap.size w).alloc (Nat.le_refl _) (.cells #[.int .i64 3, .slice B p.length d, .int .i64 bit, .string (sB wd)] 25)
    refine (refTurn_any A B c d 3 t v p bit er wd _ (HA.out.below hb) (HB.out.below hb) HC.out hnc hd hl hp (by omega) (by omega) H.out).mono ?_
    rintro e w1 ⟨A1, c1, rfl, h1, hx⟩
    go_wp2
    go_ret2
    exact ⟨A1, c1, rfl, h1, bthen hb hx⟩
  · have H := Lib.hid h
    clear h
    go_enter Try.func14, Try.ntmps14
    go_wp2_with fail
    have hb := (Below.refl w.heap.size w).alloc (Nat.le_refl _) (.cells #[.int .i64 4, .slice B p.length d, .int .i64 bit, .string (sB wd)] 25)
    refine (refTurn_any A B c d 4 t v p bit er wd _ (HA.out.below hb) (HB.out.below hb) HC.out hnc hd hl hp (by omega) (by omega) H.out).mono ?_
    rintro e w1 ⟨A1, c1, rfl, h1, hx⟩
    go_wp2
    go_ret2
    exact ⟨A1, c1, rfl, h1, bthen hb hx⟩
  · have H := Lib.hid h
    clear h
    go_enter Try.func14, Try.ntmps14
    go_wp2_with fail
    have hb := (Below.refl w.heap.size w).alloc (Nat.le_refl _) (.cells #[.int .i64 5, .slice B p.length d, .int .i64 bit, .string (sB wd)] 25)
    refine (refTurn_any A B c d 5 t v p bit er wd _ (HA.out.below hb) (HB.out.below hb) HC.out hnc hd hl hp (by omega) (by omega) H.out).mono ?_
    rintro e w1 ⟨A1, c1, rfl, h1, hx⟩
    go_wp2
    go_ret2
    exact ⟨A1, c1, rfl, h1, bthen hb hx⟩
end Go.Proofs.Ytfjpeonfkhcpfaa
