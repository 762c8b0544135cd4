/-
  What layer 8's statements need of diff's functions, as one premise (DiffOk); the fixed answer 'awake'. Condition: at most 2^30 lines, 1024 changes.
  Contracts of layer 8's statements with their answers as variables. Condition: at most 2^30 lines, 1024 changes.
  append of a slice of changes wherever it lies, to one of the call's own (layer 8's statement DiffBack). Condition: at most 1024 changes each.
-/
import Derived.Test.YtfajfjocpgbmeaaDiffE
import Derived.Test.YtfajfjocpgbmeaaLaysN
import Derived.Test.YtfajfjocpgbmeaaDiffB
import Derived.Test.YtfajfjocpgbmeaaLinesC

namespace Go.Proofs.Ytfajfjocpgbmeaa
open Go.RowKit
set_option linter.unusedVariables false

/-- Changes and an error's number. -/
def OfS (w : World) (L : List T.Chg) (er : Int) (e : Ending) (w' : World) : Prop := ∃ A c, e = .returned (.tuple #[.slice A L.length c, .int .i64 er]) ∧ SeenC eD w' A L ∧ L.length ≤ c ∧ NilOk A c ∧ Below w.heap.size w w'
/-- Lines, how many changes were made, no error. -/
def ApplyS (w : World) (u : List T.Ln) (m : Nat) (e : Ending) (w' : World) : Prop := ∃ A c, e = .returned (.tuple #[.slice A u.length c, .int .i64 (m : Int), .int .i64 0]) ∧ Seen eL w' A u ∧ u.length ≤ c ∧ NilOk A c ∧ Below w.heap.size w w'
/-- Lines that are handed over. -/
structure TArg (w : World) (A : Option Addr) (c n : Nat) (t : List T.Ln) : Prop where
  hn : t.length = n
  hl : n ≤ 1073741824
  hc : n ≤ c
  hA : Seen eL w A t
  hN : NilOk A c
theorem TArg.below {w w1 : World} {A : Option Addr} {c n : Nat} {t : List T.Ln} (h : TArg w A c n t) (hb : Below w.heap.size w w1) : TArg w1 A c n t := ⟨h.hn, h.hl, h.hc, h.hA.below hb, h.hN⟩
/-- Changes that are handed over. -/
structure CArg (w : World) (A : Option Addr) (c n : Nat) (L : List T.Chg) : Prop where
  hn : L.length = n
  hl : n ≤ 1024
  hc : n ≤ c
  hA : SeenC eD w A L
theorem CArg.below {w w1 : World} {A : Option Addr} {c n : Nat} {L : List T.Chg} (h : CArg w A c n L) (hb : Below w.heap.size w w1) : CArg w1 A c n L := ⟨h.hn, h.hl, h.hc, h.hA.below hb⟩
theorem diff_few {a b : List T.Ln} (ha : T.RightT a) (hb : T.RightT b) : FewC (T.diffL a b) := ⟨by
  have := T.diff_len a b
  have := ha.len
  have := hb.len
  omega, fun x hx => by
  have h := T.diff_good ha hb hx
  exact ⟨by have := h.2.2.1.2; omega, h.2.1.1, by have := h.2.1.2; omega⟩⟩
theorem diff_goodR {a b : List T.Ln} (ha : T.RightT a) (hb : T.RightT b) : GoodR (T.diffL a b) := ⟨by
  have := T.diff_len a b
  have := ha.len
  have := hb.len
  omega, fun x hx => by
  have h := T.diff_good ha hb hx
  exact ⟨by have := h.2.2.1.2; omega, fun y hy => by have := h.2.2.2 y hy; omega⟩⟩

def aw8A : List T.Ln := [⟨0, [97], 0⟩, ⟨0, [98], 0⟩]
def aw8B : List T.Ln := [⟨0, [98], 1⟩, ⟨1, [99], 2⟩]
def aw8L : List T.Chg := [⟨1, [[97]], 0⟩, ⟨2, [[98], [99]], 2⟩, ⟨3, [[98]], 1⟩]
theorem aw8_rightA : T.RightT aw8A := by
  have h1 : ∀ k, k < 2 → (0 ≤ T.dp aw8A k ∧ T.dp aw8A k ≤ 15) ∧ (T.wd aw8A k).length ≤ 40 ∧ 0 ≤ (T.at_ aw8A k).mark ∧ (T.at_ aw8A k).mark ≤ 3 := by decide +kernel
  have h2 : ∀ k, k < 1 → T.dp aw8A (k + 1) ≤ T.dp aw8A k + 1 := by decide +kernel
  have h3 : ∀ k, k < 2 → ∀ i, i < k → T.dp aw8A k = T.dp aw8A i → (∀ j, j < k → i < j → T.dp aw8A i ≤ T.dp aw8A j) → Op.bytesLess (T.wd aw8A i) (T.wd aw8A k) = true := by decide +kernel
  exact ⟨by decide, fun i hi => (h1 i hi).1, fun i hi => (h1 i hi).2.1, fun i hi => (h1 i hi).2.2, fun _ => by decide +kernel, fun i hi => h2 i (by have : i + 1 < 2 := hi; omega), fun i k h4 h5 h6 h7 => h3 k h5 i h4 h6 (fun j h8 h9 => h7 j h9 h8)⟩
theorem aw8_rightB : T.RightT aw8B := by
  have h1 : ∀ k, k < 2 → (0 ≤ T.dp aw8B k ∧ T.dp aw8B k ≤ 15) ∧ (T.wd aw8B k).length ≤ 40 ∧ 0 ≤ (T.at_ aw8B k).mark ∧ (T.at_ aw8B k).mark ≤ 3 := by decide +kernel
  have h2 : ∀ k, k < 1 → T.dp aw8B (k + 1) ≤ T.dp aw8B k + 1 := by decide +kernel
  have h3 : ∀ k, k < 2 → ∀ i, i < k → T.dp aw8B k = T.dp aw8B i → (∀ j, j < k → i < j → T.dp aw8B i ≤ T.dp aw8B j) → Op.bytesLess (T.wd aw8B i) (T.wd aw8B k) = true := by decide +kernel
  exact ⟨by decide, fun i hi => (h1 i hi).1, fun i hi => (h1 i hi).2.1, fun i hi => (h1 i hi).2.2, fun _ => by decide +kernel, fun i hi => h2 i (by have : i + 1 < 2 := hi; omega), fun i k h4 h5 h6 h7 => h3 k h5 i h4 h6 (fun j h8 h9 => h7 j h9 h8)⟩
theorem aw8_diff : T.diffL aw8A aw8B = aw8L := by kernel_rfl
theorem aw8_few : FewC aw8L := aw8_diff ▸ diff_few aw8_rightA aw8_rightB
theorem aw8_small : ∀ x ∈ aw8L, x.mark < 100 := by decide
theorem aw8_text : T.textD aw8L = [45, 32, 97, 10, 43, 32, 98, 32, 99, 32, 40, 50, 41, 10, 33, 32, 98, 32, 40, 49, 41, 10] := by
  have h1 : W.quoteL [97] = [97] := by decide +kernel
  have h2 : W.quoteL [98] = [98] := by decide +kernel
  have h3 : W.quoteL [99] = [99] := by decide +kernel
  simp [T.textD, aw8L, T.rowD, T.toldD, T.signD, T.wordsD, T.wordD, T.decL_small, h1, h2, h3]

end Go.Proofs.Ytfajfjocpgbmeaa

namespace Go.Proofs.Ytfajfjocpgbmeaa
open Go.RowKit
set_option linter.unusedVariables false

theorem smallQ (A : Option Addr) (c n : Nat) (t : List T.Ln) (w : World) (hn : t.length = n) (hA : Seen eL w A t) : Calls Try.prog 21 #[.slice A n c] w (fun e w' => ∃ b : Bool, e = .returned (.bool b) ∧ (b = true → n ≤ 220) ∧ Below w.heap.size w w') := by
  subst hn; exact small_is A c t w hA
theorem rightRQ (A : Option Addr) (c n : Nat) (t : List T.Ln) (b : Bool) (w : World) (hA : TArg w A c n t) (h : b = true ↔ T.RightT t) : Calls Try.prog 15 #[.slice A n c] w (BoolS w b) := by
  obtain ⟨rfl, hl, hc, hA, hN⟩ := hA
  exact rightR_is A c t b w hA hl h
theorem sameQ (A B : Option Addr) (c d n m : Nat) (t u : List T.Ln) (w : World) (r : Bool) (hr : r = true ↔ t = u) (hn : t.length = n) (hm : u.length = m) (hl : n ≤ 1073741824) (hA : Seen eL w A t) (hB : Seen eL w B u) :
    Calls Try.prog 13 #[.slice A n c, .slice B m d] w (BoolS w r) := by
  subst hn; subst hm; exact same_any A B c d t u w r hr hl hA hB
end Go.Proofs.Ytfajfjocpgbmeaa

namespace Go.Proofs.Ytfajfjocpgbmeaa
open Go.ChangeShapes Go.WideShapes Go.ChangeAt Go.RowKit
set_option linter.unusedVariables false

theorem wpList_appAny {α : Type} (E : Elem α) {ops : Array Oper} {rest : List Oper} {o : Oper} {a : Act} {Q : Exit → Act → World → Prop} (w : World) (hgd : o.guard = none) (s x : Operand)
    (ho : o.op = .call { callee := .builtin .append, args := #[s, x], argTypes := #[E.st, E.st] })
    (base : Nat) (v : Value) (l : List α) (hs : a.eval s = v) (hown : Own E w base v l) (A : Option Addr) (l2 : List α) (m cap : Nat) (hm : l2.length = m)
    (hx : a.eval x = .slice A m cap) (hN : m ≤ cap) (hN2 : NilOk A cap) (hc : Seen E w A l2) (hlen : l.length + m ≤ 1099511627776) (hb : base ≤ w.heap.size)
    (h : ∀ v' w', Own E w' base v' (l ++ l2) → Below base w w' → wpList Try.prog ops Q rest (a.put o.dst v') w') : wpList Try.prog ops Q (o :: rest) a w := by
  cases A with
  | some ad => exact wpList_appSeen E w hgd s x ho base v l hs hown ad l2 m cap hm hx hc hlen hb h
  | none =>
    obtain rfl := hN2 rfl
    obtain rfl : m = 0 := by omega
    obtain rfl := List.eq_nil_of_length_eq_zero hm
    refine wpList_plain hgd fun _ hK => wp_appNone E w s x ho base v l hs hown hx (hK _ _ ?_)
    exact h v w (by rw [List.append_nil]; exact hown) (Below.refl _ _)
theorem own_empty (w : World) : Own eD (w.alloc (.cells #[] 45)) w.heap.size (.slice (some ⟨w.heap.size, 0, none⟩) 0 0) [] :=
  World.ownsRow_lit (base := w.heap.size) (e := 45) (size := 3) w #[] 0 (Nat.le_refl _) (by unfold maxLen; omega) rfl
/-- Two slices of changes, one behind the other, read as both. -/
theorem seenC_app {w0 w2 : World} {v : Value} {M1 M2 : List ChM} {L1 L2 : List T.Chg} {k : Nat} (h1 : M1.length = L1.length) (h2 : M2.length = L2.length) (e1 : ∀ i (h1 : i < M1.length) (h2 : i < L1.length), ChS w0 M1[i] L1[i]) (e2 : ∀ i (h1 : i < M2.length) (h2 : i < L2.length), ChS w0 M2[i] L2[i])
    (ho : Own eD w2 w0.heap.size v ([] ++ M1 ++ M2)) (hb : Below w0.heap.size w0 w2) (hk : (L1 ++ L2).length = k) (hk1 : k ≤ 1024) : ∃ A cap, v = .slice A k cap ∧ CArg w2 A cap k (L1 ++ L2) := by
  rw [List.nil_append] at ho
  obtain ⟨A, cap, rfl, hc, hs⟩ := ho.seen
  have hl : (M1 ++ M2).length = (L1 ++ L2).length := by rw [List.length_append, List.length_append, h1, h2]
  rw [hl, hk] at hc
  refine ⟨A, cap, by rw [hl, hk], hk, hk1, hc, M1 ++ M2, hl, hs, fun i h3 h4 => ?_⟩
  by_cases hi : i < M1.length
  · rw [List.getElem_append_left hi, List.getElem_append_left (by omega)]
    exact (e1 i hi (by omega)).below hb
  · rw [List.getElem_append_right (by omega), List.getElem_append_right (by omega)]
    rw [List.length_append] at h3 h4
    have := (e2 (i - M1.length) (by omega) (by omega)).below hb
    simp only [h1] at this ⊢
    exact this
end Go.Proofs.Ytfajfjocpgbmeaa
