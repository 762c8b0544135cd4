/-
  The fixed answer 'awake' of layer 4's statements: it returns true; below the heap's size at the call the world is as it was. No conditions.
-/
import Derived.Test.YtokhflpeeibeeaaShowText
import Derived.Test.YtokhflpeeibeeaaTreeHead
namespace Go.Proofs.Ytokhflpeeibeeaa
open Go.RowKit

def aw4T : List T.Ln := [⟨0, [97], 3⟩, ⟨1, [98, 32, 99], 0⟩, ⟨0, [100], 0⟩]
def aw4O : Obj := .cells #[.int .i64 0, .string ⟨#[97]⟩, .int .i64 3, .int .i64 1, .string ⟨#[98, 32, 99]⟩, .int .i64 0, .int .i64 0, .string ⟨#[100]⟩, .int .i64 0] 37
def aw4B : List T.Ln := [⟨1, [], 0⟩]
def aw4P : Obj := .cells #[.int .i64 1, .string ⟨#[]⟩, .int .i64 0] 37
theorem aw4_right : T.RightT aw4T := by
  have h1 : ∀ k, k < 3 → (0 ≤ T.dp aw4T k ∧ T.dp aw4T k ≤ 15) ∧ (T.wd aw4T k).length ≤ 40 ∧ 0 ≤ (T.at_ aw4T k).mark ∧ (T.at_ aw4T k).mark ≤ 3 := by decide +kernel
  have h2 : ∀ k, k < 2 → T.dp aw4T (k + 1) ≤ T.dp aw4T k + 1 := by decide +kernel
  have h3 : ∀ k, k < 3 → ∀ i, i < k → T.dp aw4T k = T.dp aw4T i → (∀ j, j < k → i < j → T.dp aw4T i ≤ T.dp aw4T j) → Op.bytesLess (T.wd aw4T i) (T.wd aw4T k) = true := by decide +kernel
  exact ⟨by decide, fun i hi => (h1 i hi).1, fun i hi => (h1 i hi).2.1, fun i hi => (h1 i hi).2.2, fun _ => by decide +kernel, fun i hi => h2 i (by have : i + 1 < 3 := hi; omega), fun i k h4 h5 h6 h7 => h3 k h5 i h4 h6 (fun j h8 h9 => h7 j h9 h8)⟩
theorem aw4_seen (w : World) : Seen eL (w.alloc aw4O) (some ⟨w.heap.size, 0, none⟩) aw4T := lit_seen eL w aw4T _ rfl (by decide)
theorem aw4_seenB (w : World) : Seen eL (w.alloc aw4P) (some ⟨w.heap.size, 0, none⟩) aw4B := lit_seen eL w aw4B _ rfl (by decide)
theorem aw4_no : ¬ T.RightT aw4B := fun h => absurd (h.first (by decide)) (by decide)
theorem aw4_text : S.textL aw4T = [105, 110, 97, 99, 116, 105, 118, 101, 58, 32, 112, 114, 111, 116, 101, 99, 116, 58, 32, 97, 32, 123, 10, 32, 32, 34, 98, 32, 99, 34, 59, 10, 125, 10, 100, 59, 10] := by decide +kernel
theorem aw4_part : S.textL (T.subL aw4T 1) = [34, 98, 32, 99, 34, 59, 10] := by decide +kernel

set_option maxRecDepth 100000 in
set_option maxHeartbeats 2000000 in
theorem awake_any (w : World) : Calls Try.prog 10 #[] w (TrueS w) := by
  have hb : Below w.heap.size w (w.alloc aw4O) := up _ _
  have HT := Lib.hid (aw4_seen w)
  simp only [aw4O] at hb HT
  go_enter Try.func10, Try.ntmps10
  go_wp2_with fail
  refine (text_is _ 3 3 aw4T _ _ HT.out rfl aw4_right aw4_text).mono ?_
  rintro e wx1 ⟨rfl, hx⟩
  replace HT := Lib.hid (HT.out.below hx)
  replace hb := bthen hb hx
  clear hx
  go_wp2_with fail
  refine (part_yes _ 3 aw4T 1 _ HT.out (by decide) aw4_right (by decide) _ (aw4_right.sub 1 (by decide)) aw4_part).mono ?_
  rintro e wx2 ⟨rfl, hx⟩
  replace HT := Lib.hid (HT.out.below hx)
  replace hb := bthen hb hx
  clear hx
  have HP := Lib.hid (aw4_seenB wx2)
  have hp : Below wx2.heap.size wx2 (wx2.alloc aw4P) := up _ _
  simp only [aw4P] at HP hp
  go_wp2_with fail
  refine (text_no _ 1 aw4B _ HP.out (by decide) aw4_no).mono ?_
  rintro e wx3 ⟨rfl, hx⟩
  replace hb := bthen (bthen hb hp) hx
  clear hx hp
  go_wp2
  go_ret
  exact ⟨rfl, hb⟩
end Go.Proofs.Ytokhflpeeibeeaa
