/-
  What layer 8's statements need of diff's functions, as one premise (DiffOk); the fixed answer 'awake'. Condition: at most 2^30 lines, 1024 changes.
-/
import Derived.Test.YtgjnafnmdieniaaDoorDiffE
import Derived.Test.YtgjnafnmdieniaaDoorLaysN
namespace Go.Proofs.YtgjnafnmdieniaaDoor
open Go.RowKit
set_option linter.unusedVariables false

/-- Changes and an error's number. -/
def OfS (w : World) (L : List T.Chg) (er : Int) (e : Ending) (w' : World) : Prop := ∃ A c, e = .returned (.tuple #[.slice A L.length c, .int .i64 er]) ∧ SeenC eD w' A L ∧ L.length ≤ c ∧ NilOk A c ∧ Below w.heap.size w w'
/-- Lines, how many changes were made, no error. -/
def ApplyS (w : World) (u : List T.Ln) (m : Nat) (e : Ending) (w' : World) : Prop := ∃ A c, e = .returned (.tuple #[.slice A u.length c, .int .i64 (m : Int), .int .i64 0]) ∧ Seen eL w' A u ∧ u.length ≤ c ∧ NilOk A c ∧ Below w.heap.size w w'
/-- Lines that are handed over. -/
structure TArg (w : World) (A : Option Addr) (c n : Nat) (t : List T.Ln) : Prop where
  hn : t.length = n
  hl : n ≤ 1073741824
  hc : n ≤ c
  hA : Seen eL w A t
  hN : NilOk A c
theorem TArg.below {w w1 : World} {A : Option Addr} {c n : Nat} {t : List T.Ln} (h : TArg w A c n t) (hb : Below w.heap.size w w1) : TArg w1 A c n t := ⟨h.hn, h.hl, h.hc, h.hA.below hb, h.hN⟩
/-- Changes that are handed over. -/
structure CArg (w : World) (A : Option Addr) (c n : Nat) (L : List T.Chg) : Prop where
  hn : L.length = n
  hl : n ≤ 1024
  hc : n ≤ c
  hA : SeenC eD w A L
theorem CArg.below {w w1 : World} {A : Option Addr} {c n : Nat} {L : List T.Chg} (h : CArg w A c n L) (hb : Below w.heap.size w w1) : CArg w1 A c n L := ⟨h.hn, h.hl, h.hc, h.hA.below hb⟩
/-- What diff's functions do. -/
structure DiffOk : Prop where
  of : ∀ (A B : Option Addr) (c d n m : Nat) (a b : List T.Ln) (w : World), TArg w A c n a → TArg w B d m b → T.RightT a → T.RightT b → Calls Tryd.prog 11 #[.slice A n c, .slice B m d] w (OfS w (T.diffL a b) 0)
  bad : ∀ (A B : Option Addr) (c d n m : Nat) (a b : List T.Ln) (w : World), TArg w A c n a → TArg w B d m b → ¬ (T.RightT a ∧ T.RightT b) → Calls Tryd.prog 11 #[.slice A n c, .slice B m d] w (OfS w [] 1)
  apply : ∀ (A B : Option Addr) (c d n m : Nat) (t u : List T.Ln) (L : List T.Chg) (w : World), TArg w A c n t → CArg w B d m L → T.RightT t → T.RunOk t L u → Calls Tryd.prog 18 #[.slice A n c, .slice B m d] w (ApplyS w u m)
  text : ∀ (A : Option Addr) (c n : Nat) (L : List T.Chg) (w : World), CArg w A c n L → FewC L → ((∀ x ∈ L, x.mark < 100) ∨ TabOk w) → Calls Tryd.prog 16 #[.slice A n c] w (fun e w' => e = .returned (.string (sB (T.textD L))) ∧ Below w.heap.size w w')
theorem diff_few {a b : List T.Ln} (ha : T.RightT a) (hb : T.RightT b) : FewC (T.diffL a b) := ⟨by
  have := T.diff_len a b
  have := ha.len
  have := hb.len
  omega, fun x hx => by
  have h := T.diff_good ha hb hx
  exact ⟨by have := h.2.2.1.2; omega, h.2.1.1, by have := h.2.1.2; omega⟩⟩
theorem diff_goodR {a b : List T.Ln} (ha : T.RightT a) (hb : T.RightT b) : GoodR (T.diffL a b) := ⟨by
  have := T.diff_len a b
  have := ha.len
  have := hb.len
  omega, fun x hx => by
  have h := T.diff_good ha hb hx
  exact ⟨by have := h.2.2.1.2; omega, fun y hy => by have := h.2.2.2 y hy; omega⟩⟩

def aw8A : List T.Ln := [⟨0, [97], 0⟩, ⟨0, [98], 0⟩]
def aw8B : List T.Ln := [⟨0, [98], 1⟩, ⟨1, [99], 2⟩]
def aw8L : List T.Chg := [⟨1, [[97]], 0⟩, ⟨2, [[98], [99]], 2⟩, ⟨3, [[98]], 1⟩]
theorem aw8_rightA : T.RightT aw8A := by
  have h1 : ∀ k, k < 2 → (0 ≤ T.dp aw8A k ∧ T.dp aw8A k ≤ 15) ∧ (T.wd aw8A k).length ≤ 40 ∧ 0 ≤ (T.at_ aw8A k).mark ∧ (T.at_ aw8A k).mark ≤ 3 := by decide +kernel
  have h2 : ∀ k, k < 1 → T.dp aw8A (k + 1) ≤ T.dp aw8A k + 1 := by decide +kernel
  have h3 : ∀ k, k < 2 → ∀ i, i < k → T.dp aw8A k = T.dp aw8A i → (∀ j, j < k → i < j → T.dp aw8A i ≤ T.dp aw8A j) → Op.bytesLess (T.wd aw8A i) (T.wd aw8A k) = true := by decide +kernel
  exact ⟨by decide, fun i hi => (h1 i hi).1, fun i hi => (h1 i hi).2.1, fun i hi => (h1 i hi).2.2, fun _ => by decide +kernel, fun i hi => h2 i (by have : i + 1 < 2 := hi; omega), fun i k h4 h5 h6 h7 => h3 k h5 i h4 h6 (fun j h8 h9 => h7 j h9 h8)⟩
theorem aw8_rightB : T.RightT aw8B := by
  have h1 : ∀ k, k < 2 → (0 ≤ T.dp aw8B k ∧ T.dp aw8B k ≤ 15) ∧ (T.wd aw8B k).length ≤ 40 ∧ 0 ≤ (T.at_ aw8B k).mark ∧ (T.at_ aw8B k).mark ≤ 3 := by decide +kernel
  have h2 : ∀ k, k < 1 → T.dp aw8B (k + 1) ≤ T.dp aw8B k + 1 := by decide +kernel
  have h3 : ∀ k, k < 2 → ∀ i, i < k → T.dp aw8B k = T.dp aw8B i → (∀ j, j < k → i < j → T.dp aw8B i ≤ T.dp aw8B j) → Op.bytesLess (T.wd aw8B i) (T.wd aw8B k) = true := by decide +kernel
  exact ⟨by decide, fun i hi => (h1 i hi).1, fun i hi => (h1 i hi).2.1, fun i hi => (h1 i hi).2.2, fun _ => by decide +kernel, fun i hi => h2 i (by have : i + 1 < 2 := hi; omega), fun i k h4 h5 h6 h7 => h3 k h5 i h4 h6 (fun j h8 h9 => h7 j h9 h8)⟩
theorem aw8_diff : T.diffL aw8A aw8B = aw8L := by kernel_rfl
theorem aw8_few : FewC aw8L := aw8_diff ▸ diff_few aw8_rightA aw8_rightB
theorem aw8_small : ∀ x ∈ aw8L, x.mark < 100 := by decide
theorem aw8_text : T.textD aw8L = [45, 32, 97, 10, 43, 32, 98, 32, 99, 32, 40, 50, 41, 10, 33, 32, 98, 32, 40, 49, 41, 10] := by
  have h1 : W.quoteL [97] = [97] := by decide +kernel
  have h2 : W.quoteL [98] = [98] := by decide +kernel
  have h3 : W.quoteL [99] = [99] := by decide +kernel
  simp [T.textD, aw8L, T.rowD, T.toldD, T.signD, T.wordsD, T.wordD, T.decL_small, h1, h2, h3]

set_option maxRecDepth 100000 in
set_option maxHeartbeats 4000000 in
theorem awake_of (E : DiffOk) (w : World) : Calls Tryd.prog 10 #[] w (TrueS w) := by
  have hseen : ∀ w, Seen eL (World.alloc w (.cells #[.int .i64 0, .string ⟨#[97]⟩, .int .i64 0, .int .i64 0, .string ⟨#[98]⟩, .int .i64 0] 49)) (some ⟨w.heap.size, 0, none⟩) aw8A := fun w => lit_seen eL w aw8A _ rfl (by decide)
  have hseenB : ∀ w, Seen eL (World.alloc w (.cells #[.int .i64 0, .string ⟨#[98]⟩, .int .i64 1, .int .i64 1, .string ⟨#[99]⟩, .int .i64 2] 49)) (some ⟨w.heap.size, 0, none⟩) aw8B := fun w => lit_seen eL w aw8B _ rfl (by decide)
  have hbA : Below w.heap.size w (w.alloc (.cells #[.int .i64 0, .string ⟨#[97]⟩, .int .i64 0, .int .i64 0, .string ⟨#[98]⟩, .int .i64 0] 49)) := up _ _
  have HA1 := Lib.hid (hseen w)
  have hsz1 : (w.alloc (.cells #[.int .i64 0, .string ⟨#[97]⟩, .int .i64 0, .int .i64 0, .string ⟨#[98]⟩, .int .i64 0] 49)).heap.size = w.heap.size + 1 := by simp
  have hB1 := hseenB (w.alloc (.cells #[.int .i64 0, .string ⟨#[97]⟩, .int .i64 0, .int .i64 0, .string ⟨#[98]⟩, .int .i64 0] 49))
  rw [hsz1] at hB1
  have hx1 := up (w.alloc (.cells #[.int .i64 0, .string ⟨#[97]⟩, .int .i64 0, .int .i64 0, .string ⟨#[98]⟩, .int .i64 0] 49)) (.cells #[.int .i64 0, .string ⟨#[98]⟩, .int .i64 1, .int .i64 1, .string ⟨#[99]⟩, .int .i64 2] 49)
  have HA := Lib.hid (HA1.out.below hx1)
  have hb := bthen hbA hx1
  have HB := Lib.hid hB1
  have HE := Lib.hid (show T.RunOk aw8A aw8L aw8B from aw8_diff ▸ T.diff_runs aw8_rightA aw8_rightB)
  have HF := Lib.hid aw8_few
  clear hseen hseenB hbA HA1 hB1 hsz1 hx1
  go_enter Tryd.func10, Tryd.ntmps10
  go_wp2_with fail
  have hcall := E.of _ _ 2 2 2 2 aw8A aw8B _ ⟨rfl, by omega, by omega, HA.out, by intro h; cases h⟩ ⟨rfl, by omega, by omega, HB.out, by intro h; cases h⟩ aw8_rightA aw8_rightB
  rw [aw8_diff] at hcall
  refine hcall.mono ?_
  clear hcall
  rintro e w1 ⟨A1, c1, rfl, hs1, hc1, hk1, hx⟩
  replace HA := Lib.hid (HA.out.below hx)
  replace HB := Lib.hid (HB.out.below hx)
  have HL := Lib.hid hs1
  replace hb := bthen hb hx
  clear hx hs1
  go_wp2_with fail
  refine (E.apply _ A1 2 c1 2 3 aw8A aw8B aw8L _ ⟨rfl, by omega, by omega, HA.out, by intro h; cases h⟩ ⟨rfl, by omega, hc1, HL.out⟩ aw8_rightA HE.out).mono ?_
  rintro e w2 ⟨A2, c2, rfl, hs2, hc2, hk2, hx⟩
  replace HB := Lib.hid (HB.out.below hx)
  replace HL := Lib.hid (HL.out.below hx)
  have HT := Lib.hid hs2
  replace hb := bthen hb hx
  clear hx hs2
  go_wp2_with fail
  refine (same_yes A2 _ c2 2 aw8B _ (show 2 ≤ 1073741824 by omega) HT.out HB.out).mono ?_
  rintro e w3 ⟨rfl, hx⟩
  replace HL := Lib.hid (HL.out.below hx)
  replace hb := bthen hb hx
  clear hx
  go_wp2_with fail
  have hcall := E.text A1 c1 3 aw8L _ ⟨rfl, by omega, hc1, HL.out⟩ HF.out (Or.inl aw8_small)
  rw [aw8_text, show sB [45, 32, 97, 10, 43, 32, 98, 32, 99, 32, 40, 50, 41, 10, 33, 32, 98, 32, 40, 49, 41, 10] = ⟨#[45, 32, 97, 10, 43, 32, 98, 32, 99, 32, 40, 50, 41, 10, 33, 32, 98, 32, 40, 49, 41, 10]⟩ from rfl] at hcall
  refine hcall.mono ?_
  clear hcall
  rintro e w4 ⟨rfl, hx⟩
  replace hb := bthen hb hx
  clear hx
  go_wp2
  go_ret
  exact ⟨rfl, hb⟩
end Go.Proofs.YtgjnafnmdieniaaDoor
