/-
  Layer 12: contracts with the lengths as variables. Condition: at most 200 lines.
-/
import Derived.Test.YtkifapbiimlafaaGroupA
namespace Go.Proofs.Ytkifapbiimlafaa
open Go.RowKit
set_option linter.unusedVariables false
theorem sv12 (s : ByteArray) : sB s.data.toList = s := ByteArray.ext (Array.ext' (by simp [sB]))
theorem right12 (A : Option Addr) (c n : Nat) (t : List T.Ln) (b : Bool) (w : World) (hn : t.length = n) (hA : Seen eL w A t) (hl : n ≤ 1073741824) (h : b = true ↔ T.RightT t) : Calls Try.prog 14 #[.slice A n c] w (BoolS w b) := by subst hn; exact rightR_is A c t b w hA hl h
theorem codeRight12 (A : Option Addr) (c n : Nat) (t : List T.Ln) (b : Bool) (w : World) (hn : t.length = n) (hA : Seen eL w A t) (hl : n ≤ 1073741824) (h : b = true ↔ T.RightT t) : Calls Try.prog 24 #[.slice A n c] w (BoolS w b) := by subst hn; exact right_is A c t b w hA hl h
theorem same12 (A B : Option Addr) (c d n m : Nat) (l1 l2 : List T.Ln) (w : World) (r : Bool) (hr : r = true ↔ l1 = l2) (hn : l1.length = n) (hm : l2.length = m) (hl : n ≤ 1073741824) (hA : Seen eL w A l1) (hB : Seen eL w B l2) : Calls Try.prog 15 #[.slice A n c, .slice B m d] w (BoolS w r) := by subst hn; subst hm; exact same_any A B c d l1 l2 w r hr hl hA hB
theorem refActive12 (A : Option Addr) (c n m : Nat) (t u : List T.Ln) (w : World) (hA : LArg w A c n t) (hR : T.RightT t) (hu : T.actL t = u) (hm : u.length = m) : Calls Try.prog 16 #[.slice A n c] w (fun e w' => ∃ B d, e = .returned (.slice B m d) ∧ LArg w' B d m u ∧ Below w.heap.size w w') := by
  subst hu; subst hm
  refine (activeR12 A c n t w hA.len hA.seen hA.small hR).mono ?_
  rintro e w1 ⟨B, d, rfl, h1, h2, h3, h4⟩
  exact ⟨B, d, rfl, ⟨rfl, (T.act_right hR).len, h1, h2, h3⟩, h4⟩
theorem refExplicit12 (A : Option Addr) (c n m : Nat) (t u : List T.Ln) (w : World) (hA : LArg w A c n t) (hR : T.RightT t) (hu : T.expL t = u) (hm : u.length = m) : Calls Try.prog 17 #[.slice A n c] w (fun e w' => ∃ B d, e = .returned (.slice B m d) ∧ LArg w' B d m u ∧ Below w.heap.size w w') := by
  subst hu; subst hm
  refine (explicitR12 A c n t w hA.len hA.seen hA.small hR).mono ?_
  rintro e w1 ⟨B, d, rfl, h1, h2, h3, h4⟩
  exact ⟨B, d, rfl, ⟨rfl, (T.exp_right hR).len, h1, h2, h3⟩, h4⟩
theorem refExpand12 (A : Option Addr) (c n m : Nat) (t u : List T.Ln) (er : Int) (w : World) (hA : LArg w A c n t) (hR : T.RightT t) (hu : T.expandL t = (u, er)) (hm : u.length = m) : Calls Try.prog 21 #[.slice A n c] w (MadeE w m u er) := by
  have hl := expand_len (.inl ⟨hR, hu⟩)
  subst hm
  refine (expandR12 A c n t u er w hA.len hA.seen hA.small hR hu).mono ?_
  rintro e w1 ⟨B, d, rfl, h1, h2, h3, h4⟩
  exact ⟨B, d, rfl, ⟨rfl, hl, h1, h2, h3⟩, h4⟩
theorem refPaths12 (A : Option Addr) (c n m : Nat) (t : List T.Ln) (g : List UInt8) (L : List T.Pth) (er : Int) (w : World) (hA : LArg w A c n t) (hR : T.RightT t) (hI : PathsIs t g L er) (hm : L.length = m) : Calls Try.prog 22 #[.slice A n c, .string (sB g)] w (fun e w' => ∃ B d, e = .returned (.tuple #[.slice B m d, .int .i64 er]) ∧ m ≤ d ∧ SeenQ eQ w' B L ∧ Below w.heap.size w w') := by
  refine (pathsR12 A c n t g L er w hA.len hA.seen hA.small hR hI).mono ?_
  rintro e w1 ⟨v, rfl, h1, h2⟩
  obtain ⟨B, d, rfl, h3, h4⟩ := h1.seen
  rw [hm] at h3 ⊢
  exact ⟨B, d, rfl, h3, h4, h2⟩
theorem pathsIs_of {t : List T.Ln} {g : List UInt8} {L : List T.Pth} {er : Int} (h : PathsAre t g L er) (hR : T.RightT t) : PathsIs t g L er := by
  rcases h with ⟨_, h⟩ | ⟨h, _⟩
  · exact h
  · exact absurd hR h
theorem expandIs_of {t u : List T.Ln} {er : Int} (h : ExpandIs t u er) (hR : T.RightT t) : T.expandL t = (u, er) := by
  rcases h with ⟨_, h⟩ | ⟨h, _⟩
  · exact h
  · exact absurd hR h
theorem wrong_pair {α : Type} {p q : Prop} {a b : α} {x y : Int} (h : (p ∧ q) ∨ (¬ p ∧ a = b ∧ x = y)) (hp : ¬ p) : a = b ∧ x = y := by
  rcases h with ⟨h, _⟩ | ⟨_, h⟩
  · exact absurd h hp
  · exact h
/-- A line in a block of its own: its mark. -/
theorem lineBox (w : World) (d : Int) (s : List UInt8) (m : Int) : (w.heap.size < (w.alloc (.cells #[.int .i64 d, .string (sB s), .int .i64 m] 40)).heap.size) ∧ (w.alloc (.cells #[.int .i64 d, .string (sB s), .int .i64 m] 40)).cell? ⟨w.heap.size, 2, none⟩ = some (.int .i64 m) :=
  ⟨by simp, World.cell?_alloc_mark w #[.int .i64 d, .string (sB s), .int .i64 m] 40 (0, 0) 2⟩
theorem ManyQ.seenAt {w : World} {k m d : Nat} {B : Option Addr} {L : List T.Pth} (h : ManyQ w k (.slice B m d) L) (hm : L.length = m) : SeenQ eQ w B L ∧ m ≤ d := by
  obtain ⟨A, c, e, h1, h2⟩ := h.seen
  injection e with e1 e2 e3
  subst e1; subst e3
  exact ⟨h2, by omega⟩
theorem findYes12 (A B : Option Addr) (c d n m : Nat) (t : List T.Ln) (p : T.Pth) (w : World) (hn : t.length = n) (hm : p.length = m) (hA : Seen eL w A t) (hB : Seen eS w B p) (hl : n ≤ 1073741824) (hp : m ≤ 1073741824) (hR : T.RightT t) (h : T.isIn t p) :
    Calls Try.prog 26 #[.slice A n c, .slice B m d] w (fun e w' => ∃ i : Nat, e = .returned (.tuple #[.int .i64 (i : Int), .bool true]) ∧ (i < n ∧ T.pathL t i = p) ∧ Below w.heap.size w w') := by
  subst hn; subst hm
  obtain ⟨i, hi, e⟩ := h
  refine (find_some A B c d t i p w hA hB hl hp hR hi e).mono ?_
  rintro e2 w1 ⟨rfl, hb⟩
  exact ⟨i, rfl, ⟨hi, e⟩, hb⟩
theorem findNo12 (A B : Option Addr) (c d n m : Nat) (t : List T.Ln) (p : T.Pth) (w : World) (hn : t.length = n) (hm : p.length = m) (hA : Seen eL w A t) (hB : Seen eS w B p) (hl : n ≤ 1073741824) (hp : m ≤ 1073741824) (hR : T.RightT t) (h : ¬ T.isIn t p) :
    Calls Try.prog 26 #[.slice A n c, .slice B m d] w (fun e w' => e = .returned (.tuple #[.int .i64 0, .bool false]) ∧ Below w.heap.size w w') := by
  subst hn; subst hm
  exact find_not A B c d t p w hA hB hl hp hR fun i hi e => h ⟨i, hi, e⟩
/-- The words of apply, read of the active tree. -/
theorem apps12 {t a : List T.Ln} (ha : T.actL t = a) : T.underW a [T.wApply] = T.appL t := by unfold T.appL; rw [ha]
end Go.Proofs.Ytkifapbiimlafaa
