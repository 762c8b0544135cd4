/-
  Contracts of layer 8's statements with their answers as variables. Condition: at most 2^30 lines, 1024 changes.
-/
import Derived.Test.YtgjnafnmdieniaaDoorDiffF
import Derived.Test.YtgjnafnmdieniaaDoorDiffB
namespace Go.Proofs.YtgjnafnmdieniaaDoor
open Go.RowKit
set_option linter.unusedVariables false

theorem smallQ (A : Option Addr) (c n : Nat) (t : List T.Ln) (w : World) (hn : t.length = n) (hA : Seen eL w A t) : Calls Tryd.prog 9 #[.slice A n c] w (fun e w' => ∃ b : Bool, e = .returned (.bool b) ∧ (b = true → n ≤ 220) ∧ Below w.heap.size w w') := by
  subst hn; exact small_is A c t w hA
theorem rightRQ (A : Option Addr) (c n : Nat) (t : List T.Ln) (b : Bool) (w : World) (hA : TArg w A c n t) (h : b = true ↔ T.RightT t) : Calls Tryd.prog 12 #[.slice A n c] w (BoolS w b) := by
  obtain ⟨rfl, hl, hc, hA, hN⟩ := hA
  exact rightR_is A c t b w hA hl h
theorem sameQ (A B : Option Addr) (c d n m : Nat) (t u : List T.Ln) (w : World) (r : Bool) (hr : r = true ↔ t = u) (hn : t.length = n) (hm : u.length = m) (hl : n ≤ 1073741824) (hA : Seen eL w A t) (hB : Seen eL w B u) :
    Calls Tryd.prog 19 #[.slice A n c, .slice B m d] w (BoolS w r) := by
  subst hn; subst hm; exact same_any A B c d t u w r hr hl hA hB
theorem of_is (E : DiffOk) (A B : Option Addr) (c d n m k : Nat) (a b : List T.Ln) (L : List T.Chg) (w : World) (hA : TArg w A c n a) (hB : TArg w B d m b) (ha : T.RightT a) (hb : T.RightT b) (hL : T.diffL a b = L) (hk : L.length = k) :
    Calls Tryd.prog 11 #[.slice A n c, .slice B m d] w (fun e w' => ∃ A1 c1, e = .returned (.tuple #[.slice A1 k c1, .int .i64 0]) ∧ CArg w' A1 c1 k L ∧ NilOk A1 c1 ∧ Below w.heap.size w w') := by
  refine (E.of A B c d n m a b w hA hB ha hb).mono ?_
  rw [hL]
  rintro e w' ⟨A1, c1, rfl, hs, hc1, hN, hx⟩
  have hf := (diff_few ha hb).1
  rw [hL] at hf
  rw [hk] at hf hc1
  rw [hk]
  exact ⟨A1, c1, rfl, ⟨hk, hf, hc1, hs⟩, hN, hx⟩
theorem of_bad (E : DiffOk) (A B : Option Addr) (c d n m : Nat) (a b : List T.Ln) (w : World) (hA : TArg w A c n a) (hB : TArg w B d m b) (h : ¬ (T.RightT a ∧ T.RightT b)) :
    Calls Tryd.prog 11 #[.slice A n c, .slice B m d] w (fun e w' => ∃ A1 c1, e = .returned (.tuple #[.slice A1 0 c1, .int .i64 1]) ∧ Below w.heap.size w w') := by
  refine (E.bad A B c d n m a b w hA hB h).mono ?_
  rintro e w' ⟨A1, c1, rfl, hs, hc1, hN, hx⟩
  exact ⟨A1, c1, rfl, hx⟩
theorem apply_is (E : DiffOk) (A B : Option Addr) (c d n k m : Nat) (t u : List T.Ln) (L : List T.Chg) (w : World) (hA : TArg w A c n t) (hB : CArg w B d k L) (ht : T.RightT t) (hR : T.RunOk t L u) (hm : u.length = m) :
    Calls Tryd.prog 18 #[.slice A n c, .slice B k d] w (fun e w' => ∃ A1 c1, e = .returned (.tuple #[.slice A1 m c1, .int .i64 (k : Int), .int .i64 0]) ∧ TArg w' A1 c1 m u ∧ Below w.heap.size w w') := by
  refine (E.apply A B c d n k t u L w hA hB ht hR).mono ?_
  rintro e w' ⟨A1, c1, rfl, hs, hc1, hN, hx⟩
  have hl := (hR.right ht).len
  rw [hm] at hc1 hl ⊢
  exact ⟨A1, c1, rfl, ⟨hm, by omega, hc1, hs, hN⟩, hx⟩
theorem text_is8 (E : DiffOk) (A : Option Addr) (c k : Nat) (L : List T.Chg) (q : ByteArray) (w : World) (hA : CArg w A c k L) (hf : FewC L) (ht : (∀ x ∈ L, x.mark < 100) ∨ TabOk w) (hq : sB (T.textD L) = q) :
    Calls Tryd.prog 16 #[.slice A k c] w (fun e w' => e = .returned (.string q) ∧ Below w.heap.size w w') := by
  subst hq; exact E.text A c k L w hA hf ht
theorem refTextQ (A : Option Addr) (c k : Nat) (L : List T.Chg) (q : ByteArray) (w : World) (hk : L.length = k) (hA : SeenC eF w A L) (hf : FewC L) (hq : sB (T.textD L) = q) :
    Calls Tryd.prog 17 #[.slice A k c] w (fun e w' => e = .returned (.string q) ∧ Below w.heap.size w w') := by
  subst hq; exact refText_any A c k L w hk hA hf
theorem refsQ (A : Option Addr) (c k : Nat) (L : List T.Chg) (w : World) (hA : CArg w A c k L) (hg : GoodR L) :
    Calls Tryd.prog 13 #[.slice A k c] w (fun e w' => ∃ A1 c1, e = .returned (.tuple #[.slice A1 k c1, .bool true]) ∧ SeenC eF w' A1 L ∧ Below w.heap.size w w') := by
  refine (refs_any A c k L w hA.hn hA.hA).mono ?_
  rintro e w' ⟨ok, v, rfl, h1, h2, hx⟩
  obtain rfl := h2 hg
  obtain ⟨A1, c1, rfl, hc, hs⟩ := (h1 rfl).1.seen
  rw [hA.hn]
  exact ⟨A1, c1, rfl, hs, hx⟩
theorem refOfQ (A B : Option Addr) (c d n m k : Nat) (a b : List T.Ln) (L : List T.Chg) (w : World) (hA : TArg w A c n a) (hB : TArg w B d m b) (ha : T.RightT a) (hb : T.RightT b) (hL : T.diffL a b = L) (hk : L.length = k) :
    Calls Tryd.prog 14 #[.slice A n c, .slice B m d] w (fun e w' => ∃ A1 c1, e = .returned (.slice A1 k c1) ∧ SeenC eF w' A1 L ∧ Below w.heap.size w w') := by
  refine (refOf_any A B c d n m a b w hA.hn hB.hn hA.hA hB.hA ha hb).mono ?_
  rw [hL]
  rintro e w' ⟨v, rfl, ho, hx⟩
  obtain ⟨A1, c1, rfl, hc, hs⟩ := ho.seen
  rw [hk]
  exact ⟨A1, c1, rfl, hs, hx⟩
theorem sameCQ (A B : Option Addr) (c d k : Nat) (L : List T.Chg) (w : World) (hk : L.length = k) (hg : GoodR L) (hA : SeenC eF w A L) (hB : SeenC eF w B L) :
    Calls Tryd.prog 15 #[.slice A k c, .slice B k d] w (TrueS w) :=
  refSame_yes A B c d k L w hk (by have := hg.1; omega) (fun x hx => by have := (hg.2 x hx).1; omega) hA hB
end Go.Proofs.YtgjnafnmdieniaaDoor
