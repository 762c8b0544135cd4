/-
  Contracts of layer 3's has, Under and End: what they return is what the plain definitions say; below the heap's size at the call the world is as it was. Condition: at most 2^30 lines.
-/
import Derived.Test.YtokhflpeeibeeaaTreeRightR
namespace Go.Proofs.Ytokhflpeeibeeaa
open Go.RowKit

theorem right_is (A : Option Addr) (c : Nat) (t : List T.Ln) (b : Bool) (w : World) (hA : Seen eL w A t) (hl : t.length ≤ 1073741824) (h : b = true ↔ T.RightT t) :
    Calls Try.prog 19 #[.slice A t.length c] w (BoolS w b) :=
  (right_any A c t w hA hl).mono fun e w' ⟨b2, he, hb2, hb⟩ => ⟨by rw [he]; congr 2; cases b <;> cases b2 <;> simp_all, hb⟩
theorem rightR_is (A : Option Addr) (c : Nat) (t : List T.Ln) (b : Bool) (w : World) (hA : Seen eL w A t) (hl : t.length ≤ 1073741824) (h : b = true ↔ T.RightT t) :
    Calls Try.prog 13 #[.slice A t.length c] w (BoolS w b) :=
  (rightR_any A c t w hA hl).mono fun e w' ⟨b2, he, hb2, hb⟩ => ⟨by rw [he]; congr 2; cases b <;> cases b2 <;> simp_all, hb⟩
theorem yes_iff {p : Prop} (h : p) : true = true ↔ p := ⟨fun _ => h, fun _ => rfl⟩
theorem no_iff {p : Prop} (h : ¬ p) : false = true ↔ p := ⟨(fun e => by cases e), fun e => absurd e h⟩

theorem has_yes (A : Option Addr) (c : Nat) (t : List T.Ln) (i : Nat) (w : World) (hA : Seen eL w A t) (hl : t.length ≤ 1073741824) (hi : i < t.length) (hR : T.RightT t) :
    Calls Try.prog 33 #[.slice A t.length c, .int .i64 i] w (BoolS w true) := by
  have b1 : decide ((0 : Int) ≤ (i : Int)) = true := decide_eq_true (by omega)
  have b2 : decide ((i : Int) < (t.length : Int)) = true := decide_eq_true (by omega)
  have HR := Lib.hid hR
  have HA := Lib.hid hA
  clear hR hA
  go_enter Try.func33, Try.ntmps33
  go_wp2_with fail
  refine (right_is A c t true _ HA.out hl (yes_iff HR.out)).mono ?_
  rintro e w1 ⟨rfl, hb1⟩
  go_wp2
  go_ret
  exact ⟨rfl, hb1⟩
theorem has_no (A : Option Addr) (c : Nat) (t : List T.Ln) (i : Int) (w : World) (hA : Seen eL w A t) (hl : t.length ≤ 1073741824) (h : i < 0 ∨ (t.length : Int) ≤ i ∨ ¬ T.RightT t) :
    Calls Try.prog 33 #[.slice A t.length c, .int .i64 i] w (BoolS w false) := by
  by_cases h1 : 0 ≤ i
  · have b1 : decide ((0 : Int) ≤ i) = true := decide_eq_true h1
    by_cases h2 : i < (t.length : Int)
    · have b2 : decide (i < (t.length : Int)) = true := decide_eq_true h2
      have HR := Lib.hid (show ¬ T.RightT t by rcases h with h | h | h; · omega
                                               · omega
                                               · exact h)
      have HA := Lib.hid hA
      clear h hA
      go_enter Try.func33, Try.ntmps33
      go_wp2_with fail
      refine (right_is A c t false _ HA.out hl (no_iff HR.out)).mono ?_
      rintro e w1 ⟨rfl, hb1⟩
      go_wp2
      go_ret
      exact ⟨rfl, hb1⟩
    · have b2 : decide (i < (t.length : Int)) = false := decide_eq_false h2
      clear h
      go_enter Try.func33, Try.ntmps33
      go_wp2
      go_ret
      exact ⟨rfl, Below.refl _ _⟩
  · have b1 : decide ((0 : Int) ≤ i) = false := decide_eq_false h1
    clear h
    go_enter Try.func33, Try.ntmps33
    go_wp2
    go_ret
    exact ⟨rfl, Below.refl _ _⟩

end Go.Proofs.Ytokhflpeeibeeaa
