/-
  Contract of the document's Turn (layer 7): a part deleted, a mark set or taken off, a part renamed or copied; each with its errors.
-/
import Derived.Test.YtfjpeonfkhcpfaaEditT
namespace Go.Proofs.Ytfjpeonfkhcpfaa
open Go.RowKit
set_option linter.unusedVariables false

/-- What a Mark's bit and a word may be. -/
def argT (k : Nat) (bit : Int) (wd : List UInt8) : Prop := k = 1 ∨ (k = 2 ∧ (bit = 1 ∨ bit = 2)) ∨ (k = 3 ∧ (bit = 1 ∨ bit = 2)) ∨ (k = 4 ∧ wd.length ≤ 40) ∨ (k = 5 ∧ wd.length ≤ 40)
/-- A mark with a bit set (k = 2) or taken off (k = 3). -/
def hasT (bit mk : Int) : Bool := (bit == 1 && Int.tmod mk 2 == 1) || (bit == 2 && decide (1 < mk))
def turnM (k : Nat) (bit mk : Int) : Int := if k = 2 then (if hasT bit mk then mk else mk + bit) else (if hasT bit mk then mk - bit else mk)
/-- A path stands in a tree. -/
def thereT (t : List T.Ln) (p : T.Pth) : Prop := ∃ i, i < t.length ∧ T.pathL t i = p
/-- What Turn makes of a line. -/
def TurnAt (t : List T.Ln) (p : T.Pth) (a k : Nat) (bit : Int) (wd : List UInt8) (v : List T.Ln) (er : Int) : Prop :=
  (k = 1 ∧ ((shutL t p a = true ∧ v = t ∧ er = 12) ∨ (shutL t p a = false ∧ v = T.cutL t a ∧ er = 0))) ∨
  ((k = 2 ∨ k = 3) ∧ (((T.keptL t p (p.length - 1) = true ∨ (bit = 1 ∧ 1 < (T.at_ t a).mark)) ∧ v = t ∧ er = 12) ∨ (T.keptL t p (p.length - 1) = false ∧ (bit = 1 → (T.at_ t a).mark ≤ 1) ∧ v = S.setM t a (turnM k bit (T.at_ t a).mark) ∧ er = 0))) ∨
  (k = 4 ∧ ((shutL t p a = true ∧ v = t ∧ er = 12) ∨ (shutL t p a = false ∧ ((thereT t (p.dropLast ++ [wd]) ∧ v = t ∧ er = 4) ∨ (¬ thereT t (p.dropLast ++ [wd]) ∧ v = T.putAll (p.dropLast ++ [wd]) (T.cutL t a) (T.partE t a) ∧ er = 0))))) ∨
  (k = 5 ∧ ((T.keptL t p (p.length - 1) = true ∧ v = t ∧ er = 12) ∨ (T.keptL t p (p.length - 1) = false ∧ ((thereT t (p.dropLast ++ [wd]) ∧ v = t ∧ er = 4) ∨ (¬ thereT t (p.dropLast ++ [wd]) ∧ ((200 < t.length + (T.endL t a - a) ∧ v = t ∧ er = 5) ∨ (t.length + (T.endL t a - a) ≤ 200 ∧ v = T.putAll (p.dropLast ++ [wd]) t (T.partE t a) ∧ er = 0)))))))
/-- What Turn makes of lines, a path, a bit and a word. -/
def TurnIs (t : List T.Ln) (p : T.Pth) (k : Nat) (bit : Int) (wd : List UInt8) (v : List T.Ln) (er : Int) : Prop :=
  (v = t ∧ er = 1 ∧ (¬ argT k bit wd ∨ ¬ T.RightT t ∨ p = [])) ∨ (argT k bit wd ∧ T.RightT t ∧ p ≠ [] ∧ ((¬ thereT t p ∧ v = t ∧ er = 3) ∨ ∃ a, a < t.length ∧ T.pathL t a = p ∧ TurnAt t p a k bit wd v er))
theorem turn_is (t : List T.Ln) (p : T.Pth) (k : Nat) (h1 : 1 ≤ k) (h5 : k ≤ 5) (bit : Int) (wd : List UInt8) : ∃ v er, TurnIs t p k bit wd v er := by
  by_cases ha : argT k bit wd
  · by_cases hR : T.RightT t
    · by_cases hp : p = []
      · exact ⟨t, 1, .inl ⟨rfl, rfl, .inr (.inr hp)⟩⟩
      · by_cases ht : thereT t p
        · obtain ⟨a, hi, he⟩ := ht
          suffices h : ∃ v er, TurnAt t p a k bit wd v er by
            obtain ⟨v, er, h⟩ := h
            exact ⟨v, er, .inr ⟨ha, hR, hp, .inr ⟨a, hi, he, h⟩⟩⟩
          obtain rfl | hk | rfl | rfl : k = 1 ∨ (k = 2 ∨ k = 3) ∨ k = 4 ∨ k = 5 := by omega
          · cases hs : shutL t p a with
            | true => exact ⟨t, 12, .inl ⟨rfl, .inl ⟨hs, rfl, rfl⟩⟩⟩
            | false => exact ⟨_, 0, .inl ⟨rfl, .inr ⟨hs, rfl, rfl⟩⟩⟩
          · cases hq : T.keptL t p (p.length - 1) with
            | true => exact ⟨t, 12, .inr (.inl ⟨hk, .inl ⟨.inl hq, rfl, rfl⟩⟩)⟩
            | false =>
              by_cases hb : bit = 1 ∧ 1 < (T.at_ t a).mark
              · exact ⟨t, 12, .inr (.inl ⟨hk, .inl ⟨.inr hb, rfl, rfl⟩⟩)⟩
              · exact ⟨_, 0, .inr (.inl ⟨hk, .inr ⟨hq, (fun e => Int.not_lt.1 fun h => hb ⟨e, h⟩), rfl, rfl⟩⟩)⟩
          · cases hs : shutL t p a with
            | true => exact ⟨t, 12, .inr (.inr (.inl ⟨rfl, .inl ⟨hs, rfl, rfl⟩⟩))⟩
            | false =>
              by_cases ht : thereT t (p.dropLast ++ [wd])
              · exact ⟨t, 4, .inr (.inr (.inl ⟨rfl, .inr ⟨hs, .inl ⟨ht, rfl, rfl⟩⟩⟩))⟩
              · exact ⟨_, 0, .inr (.inr (.inl ⟨rfl, .inr ⟨hs, .inr ⟨ht, rfl, rfl⟩⟩⟩))⟩
          · cases hs : T.keptL t p (p.length - 1) with
            | true => exact ⟨t, 12, .inr (.inr (.inr ⟨rfl, .inl ⟨hs, rfl, rfl⟩⟩))⟩
            | false =>
              by_cases ht : thereT t (p.dropLast ++ [wd])
              · exact ⟨t, 4, .inr (.inr (.inr ⟨rfl, .inr ⟨hs, .inl ⟨ht, rfl, rfl⟩⟩⟩))⟩
              · by_cases hl : 200 < t.length + (T.endL t a - a)
                · exact ⟨t, 5, .inr (.inr (.inr ⟨rfl, .inr ⟨hs, .inr ⟨ht, .inl ⟨hl, rfl, rfl⟩⟩⟩⟩))⟩
                · exact ⟨_, 0, .inr (.inr (.inr ⟨rfl, .inr ⟨hs, .inr ⟨ht, .inr ⟨Nat.le_of_not_lt hl, rfl, rfl⟩⟩⟩⟩))⟩
        · exact ⟨t, 3, .inr ⟨ha, hR, hp, .inl ⟨ht, rfl, rfl⟩⟩⟩
    · exact ⟨t, 1, .inl ⟨rfl, rfl, .inr (.inl hR)⟩⟩
  · exact ⟨t, 1, .inl ⟨rfl, rfl, .inl ha⟩⟩

theorem rightN_is (A : Option Addr) (c n : Nat) (t : List T.Ln) (b : Bool) (w : World) (hn : t.length = n) (hA : Seen eL w A t) (hl : n ≤ 1073741824) (h : b = true ↔ T.RightT t) :
    Calls Try.prog 15 #[.slice A n c] w (BoolS w b) := by subst hn; exact rightR_is A c t b w hA hl h
theorem findN_no (A B : Option Addr) (c d n m : Nat) (t : List T.Ln) (p : T.Pth) (w : World) (hn : t.length = n) (hm : p.length = m) (hA : Seen eL w A t) (hB : Seen eS w B p) (hl : n ≤ 1073741824) (hp : m ≤ 1073741824) (hR : T.RightT t) (h : ¬ thereT t p) :
    Calls Try.prog 29 #[.slice A n c, .slice B m d] w (IntS w (-1)) := by
  subst hn; subst hm
  refine (refFind_any A B c d t p w hA hB hl hp hR).mono ?_
  rintro e w1 ⟨⟨i, hi, h2, _⟩ | ⟨_, rfl⟩, hb⟩
  · exact absurd ⟨i, hi, h2⟩ h
  · exact ⟨rfl, hb⟩
theorem findN_at (A B : Option Addr) (c d n m a : Nat) (t : List T.Ln) (p : T.Pth) (w : World) (hn : t.length = n) (hm : p.length = m) (hA : Seen eL w A t) (hB : Seen eS w B p) (hl : n ≤ 1073741824) (hp : m ≤ 1073741824) (hR : T.RightT t) (ha : a < t.length) (h : T.pathL t a = p) :
    Calls Try.prog 29 #[.slice A n c, .slice B m d] w (IntS w (a : Nat)) := by
  subst hn; subst hm
  refine (refFind_any A B c d t p w hA hB hl hp hR).mono ?_
  rintro e w1 ⟨⟨i, hi, h2, rfl⟩ | ⟨h2, _⟩, hb⟩
  · obtain rfl : i = a := hR.path_inj (max i a) i a (Nat.le_max_left ..) (Nat.le_max_right ..) hi ha (by rw [h2, h])
    exact ⟨rfl, hb⟩
  · exact absurd h (h2 a ha)
theorem keptN (A B : Option Addr) (c d n m k : Nat) (t : List T.Ln) (p : T.Pth) (w : World) (q : Bool) (hn : t.length = n) (hm : p.length = m) (hA : Seen eL w A t) (hB : Seen eS w B p) (hl : n ≤ 1073741824) (hk : k ≤ m) (hd : m ≤ d) (hp : m ≤ 1073741824) (hR : T.RightT t) (h : T.keptL t p k = q) :
    Calls Try.prog 18 #[.slice A n c, .slice B m d, .int .i64 (k : Int)] w (BoolS w q) := by
  subst hn; subst h; exact refKept_any A B c d k m t p w hm hA hB hl hk hd hp hR

set_option maxRecDepth 100000 in
set_option maxHeartbeats 4000000 in
theorem turn_bit2 (A B : Option Addr) (c d n m : Nat) (t : List T.Ln) (p : T.Pth) (bit : Int) (wd : List UInt8) (w : World) (hn : t.length = n) (hm : p.length = m) (hA : Seen eL w A t) (hB : Seen eS w B p) (hl : n ≤ 1073741824) (h1 : bit ≠ 1) (h2 : bit ≠ 2) :
    Calls Try.prog 32 #[.slice A n c, .int .i64 2, .slice B m d, .int .i64 bit, .string (sB wd)] w (RefAddS w t 1) := by
  have b1 : (bit != 1) = true := bne_iff_ne.2 h1
  have b2 : (bit != 2) = true := bne_iff_ne.2 h2
  have HA := Lib.hid hA
  have HN := Lib.hid hn
  clear hA hB hm hn h1 h2
  go_enter Try.func32, Try.ntmps32
  go_wp2
  go_ret2
  exact ⟨A, c, by rw [HN.out]; rfl, HA.out, Below.refl _ _⟩

set_option maxRecDepth 100000 in
set_option maxHeartbeats 4000000 in
theorem turn_bit3 (A B : Option Addr) (c d n m : Nat) (t : List T.Ln) (p : T.Pth) (bit : Int) (wd : List UInt8) (w : World) (hn : t.length = n) (hm : p.length = m) (hA : Seen eL w A t) (hB : Seen eS w B p) (hl : n ≤ 1073741824) (h1 : bit ≠ 1) (h2 : bit ≠ 2) :
    Calls Try.prog 32 #[.slice A n c, .int .i64 3, .slice B m d, .int .i64 bit, .string (sB wd)] w (RefAddS w t 1) := by
  have b1 : (bit != 1) = true := bne_iff_ne.2 h1
  have b2 : (bit != 2) = true := bne_iff_ne.2 h2
  have HA := Lib.hid hA
  have HN := Lib.hid hn
  clear hA hB hm hn h1 h2
  go_enter Try.func32, Try.ntmps32
  go_wp2
  go_ret2
  exact ⟨A, c, by rw [HN.out]; rfl, HA.out, Below.refl _ _⟩

set_option maxRecDepth 100000 in
set_option maxHeartbeats 4000000 in
theorem turn_long4 (A B : Option Addr) (c d n m : Nat) (t : List T.Ln) (p : T.Pth) (bit : Int) (wd : List UInt8) (w : World) (hn : t.length = n) (hm : p.length = m) (hA : Seen eL w A t) (hB : Seen eS w B p) (hl : n ≤ 1073741824) (h1 : 40 < wd.length) :
    Calls Try.prog 32 #[.slice A n c, .int .i64 4, .slice B m d, .int .i64 bit, .string (sB wd)] w (RefAddS w t 1) := by
  have hs := sB_size wd
  have b4 : decide ((40 : Int) < ((sB wd).size : Int)) = true := decide_eq_true (by rw [hs]; omega)
  clear hs
  have HA := Lib.hid hA
  have HN := Lib.hid hn
  clear hA hB hm hn h1
  go_enter Try.func32, Try.ntmps32
  go_wp2
  go_ret2
  exact ⟨A, c, by rw [HN.out]; rfl, HA.out, Below.refl _ _⟩

set_option maxRecDepth 100000 in
set_option maxHeartbeats 4000000 in
theorem turn_long5 (A B : Option Addr) (c d n m : Nat) (t : List T.Ln) (p : T.Pth) (bit : Int) (wd : List UInt8) (w : World) (hn : t.length = n) (hm : p.length = m) (hA : Seen eL w A t) (hB : Seen eS w B p) (hl : n ≤ 1073741824) (h1 : 40 < wd.length) :
    Calls Try.prog 32 #[.slice A n c, .int .i64 5, .slice B m d, .int .i64 bit, .string (sB wd)] w (RefAddS w t 1) := by
  have hs := sB_size wd
  have b4 : decide ((40 : Int) < ((sB wd).size : Int)) = true := decide_eq_true (by rw [hs]; omega)
  clear hs
  have HA := Lib.hid hA
  have HN := Lib.hid hn
  clear hA hB hm hn h1
  go_enter Try.func32, Try.ntmps32
  go_wp2
  go_ret2
  exact ⟨A, c, by rw [HN.out]; rfl, HA.out, Below.refl _ _⟩

set_option maxRecDepth 100000 in
set_option maxHeartbeats 4000000 in
theorem turn_wrong_0 (A B : Option Addr) (c d n m : Nat) (t : List T.Ln) (p : T.Pth) (bit : Int) (wd : List UInt8) (w : World) (hn : t.length = n) (hm : p.length = m) (hA : Seen eL w A t) (hB : Seen eS w B p) (hl : n ≤ 1073741824) (hR : ¬ T.RightT t) :
    Calls Try.prog 32 #[.slice A n c, .int .i64 1, .slice B m d, .int .i64 bit, .string (sB wd)] w (RefAddS w t 1) := by
  have HA := Lib.hid hA
  have HN := Lib.hid hn
  have HR := Lib.hid hR
  clear hA hB hm hn hR
  go_enter Try.func32, Try.ntmps32
  go_wp2_with fail
  refine (rightN_is A c n t false _ HN.out HA.out hl (no_iff HR.out)).mono ?_
  rintro e w1 ⟨rfl, hb1⟩
  go_wp2
  go_ret2
  exact ⟨A, c, by rw [HN.out]; rfl, HA.out.below hb1, hb1⟩

set_option maxRecDepth 100000 in
set_option maxHeartbeats 4000000 in
theorem turn_empty_0 (A B : Option Addr) (c d n m : Nat) (t : List T.Ln) (p : T.Pth) (bit : Int) (wd : List UInt8) (w : World) (hn : t.length = n) (hm : p.length = m) (hA : Seen eL w A t) (hB : Seen eS w B p) (hl : n ≤ 1073741824) (hR : T.RightT t) (h0 : m = 0) :
    Calls Try.prog 32 #[.slice A n c, .int .i64 1, .slice B m d, .int .i64 bit, .string (sB wd)] w (RefAddS w t 1) := by
  subst h0
  have HA := Lib.hid hA
  have HN := Lib.hid hn
  have HR := Lib.hid hR
  clear hA hB hm hn hR
  go_enter Try.func32, Try.ntmps32
  go_wp2_with fail
  refine (rightN_is A c n t true _ HN.out HA.out hl (yes_iff HR.out)).mono ?_
  rintro e w1 ⟨rfl, hb1⟩
  go_wp2
  go_ret2
  exact ⟨A, c, by rw [HN.out]; rfl, HA.out.below hb1, hb1⟩

set_option maxRecDepth 100000 in
set_option maxHeartbeats 4000000 in
theorem turn_none_0 (A B : Option Addr) (c d n m : Nat) (t : List T.Ln) (p : T.Pth) (bit : Int) (wd : List UInt8) (w : World) (hn : t.length = n) (hm : p.length = m) (hA : Seen eL w A t) (hB : Seen eS w B p) (hl : n ≤ 1073741824) (hR : T.RightT t) (h0 : 0 < m) (hp : m ≤ 1073741824) (ht : ¬ thereT t p) :
    Calls Try.prog 32 #[.slice A n c, .int .i64 1, .slice B m d, .int .i64 bit, .string (sB wd)] w (RefAddS w t 3) := by
  have b0 : ((m : Int) == 0) = false := beq_eq_false_iff_ne.2 (by omega)
  have b5 : (m == 0) = false := beq_eq_false_iff_ne.2 (by omega)
  have HA := Lib.hid hA
  have HB := Lib.hid hB
  have HN := Lib.hid hn
  have HM := Lib.hid hm
  have HR := Lib.hid hR
  have HT := Lib.hid ht
  clear hA hB hm hn hR ht
  go_enter Try.func32, Try.ntmps32
  go_wp2_with fail
  refine (rightN_is A c n t true _ HN.out HA.out hl (yes_iff HR.out)).mono ?_
  rintro e w1 ⟨rfl, hb1⟩
  go_wp2_with fail
  refine (findN_no A B c d n m t p _ HN.out HM.out (HA.out.below hb1) (HB.out.below hb1) hl hp HR.out HT.out).mono ?_
  rintro e w2 ⟨rfl, hb2⟩
  have hbn := bthen hb1 hb2
  clear hb1 hb2
  go_wp2
  go_ret2
  exact ⟨A, c, by rw [HN.out]; rfl, HA.out.below hbn, hbn⟩

set_option maxRecDepth 100000 in
set_option maxHeartbeats 4000000 in
theorem turn_wrong_1 (A B : Option Addr) (c d n m : Nat) (t : List T.Ln) (p : T.Pth) (bit : Int) (wd : List UInt8) (w : World) (hn : t.length = n) (hm : p.length = m) (hA : Seen eL w A t) (hB : Seen eS w B p) (hl : n ≤ 1073741824) (hR : ¬ T.RightT t) :
    Calls Try.prog 32 #[.slice A n c, .int .i64 2, .slice B m d, .int .i64 1, .string (sB wd)] w (RefAddS w t 1) := by
  have HA := Lib.hid hA
  have HN := Lib.hid hn
  have HR := Lib.hid hR
  clear hA hB hm hn hR
  go_enter Try.func32, Try.ntmps32
  go_wp2_with fail
  refine (rightN_is A c n t false _ HN.out HA.out hl (no_iff HR.out)).mono ?_
  rintro e w1 ⟨rfl, hb1⟩
  go_wp2
  go_ret2
  exact ⟨A, c, by rw [HN.out]; rfl, HA.out.below hb1, hb1⟩

set_option maxRecDepth 100000 in
set_option maxHeartbeats 4000000 in
theorem turn_empty_1 (A B : Option Addr) (c d n m : Nat) (t : List T.Ln) (p : T.Pth) (bit : Int) (wd : List UInt8) (w : World) (hn : t.length = n) (hm : p.length = m) (hA : Seen eL w A t) (hB : Seen eS w B p) (hl : n ≤ 1073741824) (hR : T.RightT t) (h0 : m = 0) :
    Calls Try.prog 32 #[.slice A n c, .int .i64 2, .slice B m d, .int .i64 1, .string (sB wd)] w (RefAddS w t 1) := by
  subst h0
  have HA := Lib.hid hA
  have HN := Lib.hid hn
  have HR := Lib.hid hR
  clear hA hB hm hn hR
  go_enter Try.func32, Try.ntmps32
  go_wp2_with fail
  refine (rightN_is A c n t true _ HN.out HA.out hl (yes_iff HR.out)).mono ?_
  rintro e w1 ⟨rfl, hb1⟩
  go_wp2
  go_ret2
  exact ⟨A, c, by rw [HN.out]; rfl, HA.out.below hb1, hb1⟩

set_option maxRecDepth 100000 in
set_option maxHeartbeats 4000000 in
theorem turn_none_1 (A B : Option Addr) (c d n m : Nat) (t : List T.Ln) (p : T.Pth) (bit : Int) (wd : List UInt8) (w : World) (hn : t.length = n) (hm : p.length = m) (hA : Seen eL w A t) (hB : Seen eS w B p) (hl : n ≤ 1073741824) (hR : T.RightT t) (h0 : 0 < m) (hp : m ≤ 1073741824) (ht : ¬ thereT t p) :
    Calls Try.prog 32 #[.slice A n c, .int .i64 2, .slice B m d, .int .i64 1, .string (sB wd)] w (RefAddS w t 3) := by
  have b0 : ((m : Int) == 0) = false := beq_eq_false_iff_ne.2 (by omega)
  have b5 : (m == 0) = false := beq_eq_false_iff_ne.2 (by omega)
  have HA := Lib.hid hA
  have HB := Lib.hid hB
  have HN := Lib.hid hn
  have HM := Lib.hid hm
  have HR := Lib.hid hR
  have HT := Lib.hid ht
  clear hA hB hm hn hR ht
  go_enter Try.func32, Try.ntmps32
  go_wp2_with fail
  refine (rightN_is A c n t true _ HN.out HA.out hl (yes_iff HR.out)).mono ?_
  rintro e w1 ⟨rfl, hb1⟩
  go_wp2_with fail
  refine (findN_no A B c d n m t p _ HN.out HM.out (HA.out.below hb1) (HB.out.below hb1) hl hp HR.out HT.out).mono ?_
  rintro e w2 ⟨rfl, hb2⟩
  have hbn := bthen hb1 hb2
  clear hb1 hb2
  go_wp2
  go_ret2
  exact ⟨A, c, by rw [HN.out]; rfl, HA.out.below hbn, hbn⟩

set_option maxRecDepth 100000 in
set_option maxHeartbeats 4000000 in
theorem turn_wrong_2 (A B : Option Addr) (c d n m : Nat) (t : List T.Ln) (p : T.Pth) (bit : Int) (wd : List UInt8) (w : World) (hn : t.length = n) (hm : p.length = m) (hA : Seen eL w A t) (hB : Seen eS w B p) (hl : n ≤ 1073741824) (hR : ¬ T.RightT t) :
    Calls Try.prog 32 #[.slice A n c, .int .i64 2, .slice B m d, .int .i64 2, .string (sB wd)] w (RefAddS w t 1) := by
  have HA := Lib.hid hA
  have HN := Lib.hid hn
  have HR := Lib.hid hR
  clear hA hB hm hn hR
  go_enter Try.func32, Try.ntmps32
  go_wp2_with fail
  refine (rightN_is A c n t false _ HN.out HA.out hl (no_iff HR.out)).mono ?_
  rintro e w1 ⟨rfl, hb1⟩
  go_wp2
  go_ret2
  exact ⟨A, c, by rw [HN.out]; rfl, HA.out.below hb1, hb1⟩

set_option maxRecDepth 100000 in
set_option maxHeartbeats 4000000 in
theorem turn_empty_2 (A B : Option Addr) (c d n m : Nat) (t : List T.Ln) (p : T.Pth) (bit : Int) (wd : List UInt8) (w : World) (hn : t.length = n) (hm : p.length = m) (hA : Seen eL w A t) (hB : Seen eS w B p) (hl : n ≤ 1073741824) (hR : T.RightT t) (h0 : m = 0) :
    Calls Try.prog 32 #[.slice A n c, .int .i64 2, .slice B m d, .int .i64 2, .string (sB wd)] w (RefAddS w t 1) := by
  subst h0
  have HA := Lib.hid hA
  have HN := Lib.hid hn
  have HR := Lib.hid hR
  clear hA hB hm hn hR
  go_enter Try.func32, Try.ntmps32
  go_wp2_with fail
  refine (rightN_is A c n t true _ HN.out HA.out hl (yes_iff HR.out)).mono ?_
  rintro e w1 ⟨rfl, hb1⟩
  go_wp2
  go_ret2
  exact ⟨A, c, by rw [HN.out]; rfl, HA.out.below hb1, hb1⟩

set_option maxRecDepth 100000 in
set_option maxHeartbeats 4000000 in
theorem turn_none_2 (A B : Option Addr) (c d n m : Nat) (t : List T.Ln) (p : T.Pth) (bit : Int) (wd : List UInt8) (w : World) (hn : t.length = n) (hm : p.length = m) (hA : Seen eL w A t) (hB : Seen eS w B p) (hl : n ≤ 1073741824) (hR : T.RightT t) (h0 : 0 < m) (hp : m ≤ 1073741824) (ht : ¬ thereT t p) :
    Calls Try.prog 32 #[.slice A n c, .int .i64 2, .slice B m d, .int .i64 2, .string (sB wd)] w (RefAddS w t 3) := by
  have b0 : ((m : Int) == 0) = false := beq_eq_false_iff_ne.2 (by omega)
  have b5 : (m == 0) = false := beq_eq_false_iff_ne.2 (by omega)
  have HA := Lib.hid hA
  have HB := Lib.hid hB
  have HN := Lib.hid hn
  have HM := Lib.hid hm
  have HR := Lib.hid hR
  have HT := Lib.hid ht
  clear hA hB hm hn hR ht
  go_enter Try.func32, Try.ntmps32
  go_wp2_with fail
  refine (rightN_is A c n t true _ HN.out HA.out hl (yes_iff HR.out)).mono ?_
  rintro e w1 ⟨rfl, hb1⟩
  go_wp2_with fail
  refine (findN_no A B c d n m t p _ HN.out HM.out (HA.out.below hb1) (HB.out.below hb1) hl hp HR.out HT.out).mono ?_
  rintro e w2 ⟨rfl, hb2⟩
  have hbn := bthen hb1 hb2
  clear hb1 hb2
  go_wp2
  go_ret2
  exact ⟨A, c, by rw [HN.out]; rfl, HA.out.below hbn, hbn⟩

set_option maxRecDepth 100000 in
set_option maxHeartbeats 4000000 in
theorem turn_wrong_3 (A B : Option Addr) (c d n m : Nat) (t : List T.Ln) (p : T.Pth) (bit : Int) (wd : List UInt8) (w : World) (hn : t.length = n) (hm : p.length = m) (hA : Seen eL w A t) (hB : Seen eS w B p) (hl : n ≤ 1073741824) (hR : ¬ T.RightT t) :
    Calls Try.prog 32 #[.slice A n c, .int .i64 3, .slice B m d, .int .i64 1, .string (sB wd)] w (RefAddS w t 1) := by
  have HA := Lib.hid hA
  have HN := Lib.hid hn
  have HR := Lib.hid hR
  clear hA hB hm hn hR
  go_enter Try.func32, Try.ntmps32
  go_wp2_with fail
  refine (rightN_is A c n t false _ HN.out HA.out hl (no_iff HR.out)).mono ?_
  rintro e w1 ⟨rfl, hb1⟩
  go_wp2
  go_ret2
  exact ⟨A, c, by rw [HN.out]; rfl, HA.out.below hb1, hb1⟩

set_option maxRecDepth 100000 in
set_option maxHeartbeats 4000000 in
theorem turn_empty_3 (A B : Option Addr) (c d n m : Nat) (t : List T.Ln) (p : T.Pth) (bit : Int) (wd : List UInt8) (w : World) (hn : t.length = n) (hm : p.length = m) (hA : Seen eL w A t) (hB : Seen eS w B p) (hl : n ≤ 1073741824) (hR : T.RightT t) (h0 : m = 0) :
    Calls Try.prog 32 #[.slice A n c, .int .i64 3, .slice B m d, .int .i64 1, .string (sB wd)] w (RefAddS w t 1) := by
  subst h0
  have HA := Lib.hid hA
  have HN := Lib.hid hn
  have HR := Lib.hid hR
  clear hA hB hm hn hR
  go_enter Try.func32, Try.ntmps32
  go_wp2_with fail
  refine (rightN_is A c n t true _ HN.out HA.out hl (yes_iff HR.out)).mono ?_
  rintro e w1 ⟨rfl, hb1⟩
  go_wp2
  go_ret2
  exact ⟨A, c, by rw [HN.out]; rfl, HA.out.below hb1, hb1⟩

set_option maxRecDepth 100000 in
set_option maxHeartbeats 4000000 in
theorem turn_none_3 (A B : Option Addr) (c d n m : Nat) (t : List T.Ln) (p : T.Pth) (bit : Int) (wd : List UInt8) (w : World) (hn : t.length = n) (hm : p.length = m) (hA : Seen eL w A t) (hB : Seen eS w B p) (hl : n ≤ 1073741824) (hR : T.RightT t) (h0 : 0 < m) (hp : m ≤ 1073741824) (ht : ¬ thereT t p) :
    Calls Try.prog 32 #[.slice A n c, .int .i64 3, .slice B m d, .int .i64 1, .string (sB wd)] w (RefAddS w t 3) := by
  have b0 : ((m : Int) == 0) = false := beq_eq_false_iff_ne.2 (by omega)
  have b5 : (m == 0) = false := beq_eq_false_iff_ne.2 (by omega)
  have HA := Lib.hid hA
  have HB := Lib.hid hB
  have HN := Lib.hid hn
  have HM := Lib.hid hm
  have HR := Lib.hid hR
  have HT := Lib.hid ht
  clear hA hB hm hn hR ht
  go_enter Try.func32, Try.ntmps32
  go_wp2_with fail
  refine (rightN_is A c n t true _ HN.out HA.out hl (yes_iff HR.out)).mono ?_
  rintro e w1 ⟨rfl, hb1⟩
  go_wp2_with fail
  refine (findN_no A B c d n m t p _ HN.out HM.out (HA.out.below hb1) (HB.out.below hb1) hl hp HR.out HT.out).mono ?_
  rintro e w2 ⟨rfl, hb2⟩
  have hbn := bthen hb1 hb2
  clear hb1 hb2
  go_wp2
  go_ret2
  exact ⟨A, c, by rw [HN.out]; rfl, HA.out.below hbn, hbn⟩

set_option maxRecDepth 100000 in
set_option maxHeartbeats 4000000 in
theorem turn_wrong_4 (A B : Option Addr) (c d n m : Nat) (t : List T.Ln) (p : T.Pth) (bit : Int) (wd : List UInt8) (w : World) (hn : t.length = n) (hm : p.length = m) (hA : Seen eL w A t) (hB : Seen eS w B p) (hl : n ≤ 1073741824) (hR : ¬ T.RightT t) :
    Calls Try.prog 32 #[.slice A n c, .int .i64 3, .slice B m d, .int .i64 2, .string (sB wd)] w (RefAddS w t 1) := by
  have HA := Lib.hid hA
  have HN := Lib.hid hn
  have HR := Lib.hid hR
  clear hA hB hm hn hR
  go_enter Try.func32, Try.ntmps32
  go_wp2_with fail
  refine (rightN_is A c n t false _ HN.out HA.out hl (no_iff HR.out)).mono ?_
  rintro e w1 ⟨rfl, hb1⟩
  go_wp2
  go_ret2
  exact ⟨A, c, by rw [HN.out]; rfl, HA.out.below hb1, hb1⟩

set_option maxRecDepth 100000 in
set_option maxHeartbeats 4000000 in
theorem turn_empty_4 (A B : Option Addr) (c d n m : Nat) (t : List T.Ln) (p : T.Pth) (bit : Int) (wd : List UInt8) (w : World) (hn : t.length = n) (hm : p.length = m) (hA : Seen eL w A t) (hB : Seen eS w B p) (hl : n ≤ 1073741824) (hR : T.RightT t) (h0 : m = 0) :
    Calls Try.prog 32 #[.slice A n c, .int .i64 3, .slice B m d, .int .i64 2, .string (sB wd)] w (RefAddS w t 1) := by
  subst h0
  have HA := Lib.hid hA
  have HN := Lib.hid hn
  have HR := Lib.hid hR
  clear hA hB hm hn hR
  go_enter Try.func32, Try.ntmps32
  go_wp2_with fail
  refine (rightN_is A c n t true _ HN.out HA.out hl (yes_iff HR.out)).mono ?_
  rintro e w1 ⟨rfl, hb1⟩
  go_wp2
  go_ret2
  exact ⟨A, c, by rw [HN.out]; rfl, HA.out.below hb1, hb1⟩

set_option maxRecDepth 100000 in
set_option maxHeartbeats 4000000 in
theorem turn_none_4 (A B : Option Addr) (c d n m : Nat) (t : List T.Ln) (p : T.Pth) (bit : Int) (wd : List UInt8) (w : World) (hn : t.length = n) (hm : p.length = m) (hA : Seen eL w A t) (hB : Seen eS w B p) (hl : n ≤ 1073741824) (hR : T.RightT t) (h0 : 0 < m) (hp : m ≤ 1073741824) (ht : ¬ thereT t p) :
    Calls Try.prog 32 #[.slice A n c, .int .i64 3, .slice B m d, .int .i64 2, .string (sB wd)] w (RefAddS w t 3) := by
  have b0 : ((m : Int) == 0) = false := beq_eq_false_iff_ne.2 (by omega)
  have b5 : (m == 0) = false := beq_eq_false_iff_ne.2 (by omega)
  have HA := Lib.hid hA
  have HB := Lib.hid hB
  have HN := Lib.hid hn
  have HM := Lib.hid hm
  have HR := Lib.hid hR
  have HT := Lib.hid ht
  clear hA hB hm hn hR ht
  go_enter Try.func32, Try.ntmps32
  go_wp2_with fail
  refine (rightN_is A c n t true _ HN.out HA.out hl (yes_iff HR.out)).mono ?_
  rintro e w1 ⟨rfl, hb1⟩
  go_wp2_with fail
  refine (findN_no A B c d n m t p _ HN.out HM.out (HA.out.below hb1) (HB.out.below hb1) hl hp HR.out HT.out).mono ?_
  rintro e w2 ⟨rfl, hb2⟩
  have hbn := bthen hb1 hb2
  clear hb1 hb2
  go_wp2
  go_ret2
  exact ⟨A, c, by rw [HN.out]; rfl, HA.out.below hbn, hbn⟩

set_option maxRecDepth 100000 in
set_option maxHeartbeats 4000000 in
theorem turn_wrong_5 (A B : Option Addr) (c d n m : Nat) (t : List T.Ln) (p : T.Pth) (bit : Int) (wd : List UInt8) (w : World) (hn : t.length = n) (hm : p.length = m) (hA : Seen eL w A t) (hB : Seen eS w B p) (hl : n ≤ 1073741824) (h40 : wd.length ≤ 40) (hR : ¬ T.RightT t) :
    Calls Try.prog 32 #[.slice A n c, .int .i64 4, .slice B m d, .int .i64 bit, .string (sB wd)] w (RefAddS w t 1) := by
  have hs := sB_size wd
  have b4 : decide ((40 : Int) < ((sB wd).size : Int)) = false := decide_eq_false (by rw [hs]; omega)
  clear hs
  have HA := Lib.hid hA
  have HN := Lib.hid hn
  have HR := Lib.hid hR
  clear hA hB hm hn hR h40
  go_enter Try.func32, Try.ntmps32
  go_wp2_with fail
  refine (rightN_is A c n t false _ HN.out HA.out hl (no_iff HR.out)).mono ?_
  rintro e w1 ⟨rfl, hb1⟩
  go_wp2
  go_ret2
  exact ⟨A, c, by rw [HN.out]; rfl, HA.out.below hb1, hb1⟩

set_option maxRecDepth 100000 in
set_option maxHeartbeats 4000000 in
theorem turn_empty_5 (A B : Option Addr) (c d n m : Nat) (t : List T.Ln) (p : T.Pth) (bit : Int) (wd : List UInt8) (w : World) (hn : t.length = n) (hm : p.length = m) (hA : Seen eL w A t) (hB : Seen eS w B p) (hl : n ≤ 1073741824) (h40 : wd.length ≤ 40) (hR : T.RightT t) (h0 : m = 0) :
    Calls Try.prog 32 #[.slice A n c, .int .i64 4, .slice B m d, .int .i64 bit, .string (sB wd)] w (RefAddS w t 1) := by
  subst h0
  have hs := sB_size wd
  have b4 : decide ((40 : Int) < ((sB wd).size : Int)) = false := decide_eq_false (by rw [hs]; omega)
  clear hs
  have HA := Lib.hid hA
  have HN := Lib.hid hn
  have HR := Lib.hid hR
  clear hA hB hm hn hR h40
  go_enter Try.func32, Try.ntmps32
  go_wp2_with fail
  refine (rightN_is A c n t true _ HN.out HA.out hl (yes_iff HR.out)).mono ?_
  rintro e w1 ⟨rfl, hb1⟩
  go_wp2
  go_ret2
  exact ⟨A, c, by rw [HN.out]; rfl, HA.out.below hb1, hb1⟩

set_option maxRecDepth 100000 in
set_option maxHeartbeats 4000000 in
theorem turn_none_5 (A B : Option Addr) (c d n m : Nat) (t : List T.Ln) (p : T.Pth) (bit : Int) (wd : List UInt8) (w : World) (hn : t.length = n) (hm : p.length = m) (hA : Seen eL w A t) (hB : Seen eS w B p) (hl : n ≤ 1073741824) (h40 : wd.length ≤ 40) (hR : T.RightT t) (h0 : 0 < m) (hp : m ≤ 1073741824) (ht : ¬ thereT t p) :
    Calls Try.prog 32 #[.slice A n c, .int .i64 4, .slice B m d, .int .i64 bit, .string (sB wd)] w (RefAddS w t 3) := by
  have b0 : ((m : Int) == 0) = false := beq_eq_false_iff_ne.2 (by omega)
  have b5 : (m == 0) = false := beq_eq_false_iff_ne.2 (by omega)
  have hs := sB_size wd
  have b4 : decide ((40 : Int) < ((sB wd).size : Int)) = false := decide_eq_false (by rw [hs]; omega)
  clear hs
  have HA := Lib.hid hA
  have HB := Lib.hid hB
  have HN := Lib.hid hn
  have HM := Lib.hid hm
  have HR := Lib.hid hR
  have HT := Lib.hid ht
  clear hA hB hm hn hR ht h40
  go_enter Try.func32, Try.ntmps32
  go_wp2_with fail
  refine (rightN_is A c n t true _ HN.out HA.out hl (yes_iff HR.out)).mono ?_
  rintro e w1 ⟨rfl, hb1⟩
  go_wp2_with fail
  refine (findN_no A B c d n m t p _ HN.out HM.out (HA.out.below hb1) (HB.out.below hb1) hl hp HR.out HT.out).mono ?_
  rintro e w2 ⟨rfl, hb2⟩
  have hbn := bthen hb1 hb2
  clear hb1 hb2
  go_wp2
  go_ret2
  exact ⟨A, c, by rw [HN.out]; rfl, HA.out.below hbn, hbn⟩

set_option maxRecDepth 100000 in
set_option maxHeartbeats 4000000 in
theorem turn_wrong_6 (A B : Option Addr) (c d n m : Nat) (t : List T.Ln) (p : T.Pth) (bit : Int) (wd : List UInt8) (w : World) (hn : t.length = n) (hm : p.length = m) (hA : Seen eL w A t) (hB : Seen eS w B p) (hl : n ≤ 1073741824) (h40 : wd.length ≤ 40) (hR : ¬ T.RightT t) :
    Calls Try.prog 32 #[.slice A n c, .int .i64 5, .slice B m d, .int .i64 bit, .string (sB wd)] w (RefAddS w t 1) := by
  have hs := sB_size wd
  have b4 : decide ((40 : Int) < ((sB wd).size : Int)) = false := decide_eq_false (by rw [hs]; omega)
  clear hs
  have HA := Lib.hid hA
  have HN := Lib.hid hn
  have HR := Lib.hid hR
  clear hA hB hm hn hR h40
  go_enter Try.func32, Try.ntmps32
  go_wp2_with fail
  refine (rightN_is A c n t false _ HN.out HA.out hl (no_iff HR.out)).mono ?_
  rintro e w1 ⟨rfl, hb1⟩
  go_wp2
  go_ret2
  exact ⟨A, c, by rw [HN.out]; rfl, HA.out.below hb1, hb1⟩

set_option maxRecDepth 100000 in
set_option maxHeartbeats 4000000 in
theorem turn_empty_6 (A B : Option Addr) (c d n m : Nat) (t : List T.Ln) (p : T.Pth) (bit : Int) (wd : List UInt8) (w : World) (hn : t.length = n) (hm : p.length = m) (hA : Seen eL w A t) (hB : Seen eS w B p) (hl : n ≤ 1073741824) (h40 : wd.length ≤ 40) (hR : T.RightT t) (h0 : m = 0) :
    Calls Try.prog 32 #[.slice A n c, .int .i64 5, .slice B m d, .int .i64 bit, .string (sB wd)] w (RefAddS w t 1) := by
  subst h0
  have hs := sB_size wd
  have b4 : decide ((40 : Int) < ((sB wd).size : Int)) = false := decide_eq_false (by rw [hs]; omega)
  clear hs
  have HA := Lib.hid hA
  have HN := Lib.hid hn
  have HR := Lib.hid hR
  clear hA hB hm hn hR h40
  go_enter Try.func32, Try.ntmps32
  go_wp2_with fail
  refine (rightN_is A c n t true _ HN.out HA.out hl (yes_iff HR.out)).mono ?_
  rintro e w1 ⟨rfl, hb1⟩
  go_wp2
  go_ret2
  exact ⟨A, c, by rw [HN.out]; rfl, HA.out.below hb1, hb1⟩

set_option maxRecDepth 100000 in
set_option maxHeartbeats 4000000 in
theorem turn_none_6 (A B : Option Addr) (c d n m : Nat) (t : List T.Ln) (p : T.Pth) (bit : Int) (wd : List UInt8) (w : World) (hn : t.length = n) (hm : p.length = m) (hA : Seen eL w A t) (hB : Seen eS w B p) (hl : n ≤ 1073741824) (h40 : wd.length ≤ 40) (hR : T.RightT t) (h0 : 0 < m) (hp : m ≤ 1073741824) (ht : ¬ thereT t p) :
    Calls Try.prog 32 #[.slice A n c, .int .i64 5, .slice B m d, .int .i64 bit, .string (sB wd)] w (RefAddS w t 3) := by
  have b0 : ((m : Int) == 0) = false := beq_eq_false_iff_ne.2 (by omega)
  have b5 : (m == 0) = false := beq_eq_false_iff_ne.2 (by omega)
  have hs := sB_size wd
  have b4 : decide ((40 : Int) < ((sB wd).size : Int)) = false := decide_eq_false (by rw [hs]; omega)
  clear hs
  have HA := Lib.hid hA
  have HB := Lib.hid hB
  have HN := Lib.hid hn
  have HM := Lib.hid hm
  have HR := Lib.hid hR
  have HT := Lib.hid ht
  clear hA hB hm hn hR ht h40
  go_enter Try.func32, Try.ntmps32
  go_wp2_with fail
  refine (rightN_is A c n t true _ HN.out HA.out hl (yes_iff HR.out)).mono ?_
  rintro e w1 ⟨rfl, hb1⟩
  go_wp2_with fail
  refine (findN_no A B c d n m t p _ HN.out HM.out (HA.out.below hb1) (HB.out.below hb1) hl hp HR.out HT.out).mono ?_
  rintro e w2 ⟨rfl, hb2⟩
  have hbn := bthen hb1 hb2
  clear hb1 hb2
  go_wp2
  go_ret2
  exact ⟨A, c, by rw [HN.out]; rfl, HA.out.below hbn, hbn⟩
end Go.Proofs.Ytfjpeonfkhcpfaa
