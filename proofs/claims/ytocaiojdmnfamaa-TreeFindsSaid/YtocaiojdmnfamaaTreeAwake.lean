/-
  The fixed answer 'awake' of layer 3's statements: it returns true; below the heap's size at the call the world is as it was. No conditions.
-/
import Derived.Test.YtocaiojdmnfamaaTreeFindC
import Derived.Test.YtocaiojdmnfamaaTreeRefs
namespace Go.Proofs.Ytocaiojdmnfamaa
open Go.RowKit

def awT : List T.Ln := [⟨0, [97], 0⟩, ⟨1, [98], 0⟩, ⟨1, [99], 1⟩, ⟨0, [100], 0⟩]
def awO : Obj := .cells #[.int .i64 0, .string ⟨#[97]⟩, .int .i64 0, .int .i64 1, .string ⟨#[98]⟩, .int .i64 0, .int .i64 1, .string ⟨#[99]⟩, .int .i64 1, .int .i64 0, .string ⟨#[100]⟩, .int .i64 0] 45
theorem aw_right : T.RightT awT := by
  have h1 : ∀ k, k < 4 → (0 ≤ T.dp awT k ∧ T.dp awT k ≤ 15) ∧ (T.wd awT k).length ≤ 40 ∧ 0 ≤ (T.at_ awT k).mark ∧ (T.at_ awT k).mark ≤ 3 := by decide +kernel
  have h2 : ∀ k, k < 3 → T.dp awT (k + 1) ≤ T.dp awT k + 1 := by decide +kernel
  have h3 : ∀ k, k < 4 → ∀ i, i < k → T.dp awT k = T.dp awT i → (∀ j, j < k → i < j → T.dp awT i ≤ T.dp awT j) → Op.bytesLess (T.wd awT i) (T.wd awT k) = true := by decide +kernel
  exact ⟨by decide, fun i hi => (h1 i hi).1, fun i hi => (h1 i hi).2.1, fun i hi => (h1 i hi).2.2, fun _ => by decide +kernel, fun i hi => h2 i (by have : i + 1 < 4 := hi; omega), fun i k h4 h5 h6 h7 => h3 k h5 i h4 h6 (fun j h8 h9 => h7 j h9 h8)⟩
theorem lit_seen {α : Type} (E : Elem α) (w : World) (l : List α) (cs : Array Value) (h : cs.toList = cellsG E l) (hl : l.length ≤ 1000) : Seen E (w.alloc (.cells cs E.T)) (some ⟨w.heap.size, 0, none⟩) l := by
  have h1 : cs.size = l.length * E.sz := by rw [← cellsG_len, ← h, Array.length_toList]
  have := World.ownsRow_lit (base := 0) (e := E.T) (size := E.sz) w cs l.length (Nat.zero_le _) (by unfold maxLen; omega) h1
  rw [h] at this
  obtain ⟨A, cap, e, _, hs⟩ := Own.seen (E := E) this
  injection e with e1 e2 e3
  subst e1
  exact hs
theorem aw_seen (w : World) : Seen eL (w.alloc awO) (some ⟨w.heap.size, 0, none⟩) awT := lit_seen eL w awT _ rfl (by decide)
theorem aw_path : T.pathL awT 2 = [[97], [99]] := by decide +kernel
theorem aw_path1 : T.pathL awT 1 = [[97], [98]] := by decide +kernel
theorem aw_kids : T.kidsL awT (-1) = [0, 3] := by decide +kernel
theorem aw_leaves : T.leavesL awT = [1, 2, 3] := by decide +kernel
theorem aw_sub : T.subL awT 0 = [⟨0, [97], 0⟩, ⟨1, [98], 0⟩, ⟨1, [99], 1⟩] := by kernel_rfl
theorem aw_end : T.endL awT 0 = 3 := by decide +kernel
theorem aw_under : T.underL awT 2 = 0 := by decide +kernel
theorem aw_s2 (w : World) (a b : UInt8) : Seen eS (w.alloc (.cells #[.string ⟨#[a]⟩, .string ⟨#[b]⟩] 9)) (some ⟨w.heap.size, 0, none⟩) [[a], [b]] := lit_seen eS w [[a], [b]] _ rfl (by simp)
theorem aw_i2 (w : World) : Seen eI (w.alloc (.cells #[.int .i64 0, .int .i64 3] 3)) (some ⟨w.heap.size, 0, none⟩) [0, 3] := lit_seen eI w [0, 3] _ rfl (by decide)
theorem aw_i3 (w : World) : Seen eI (w.alloc (.cells #[.int .i64 1, .int .i64 2, .int .i64 3] 3)) (some ⟨w.heap.size, 0, none⟩) [1, 2, 3] := lit_seen eI w [1, 2, 3] _ rfl (by decide)
theorem up (w : World) (o : Obj) : Below w.heap.size w (w.alloc o) := (Below.refl _ _).alloc (Nat.le_refl _) o

theorem Path_is (A : Option Addr) (c : Nat) (t : List T.Ln) (i : Nat) (p : List (List UInt8)) (w : World) (hA : Seen eL w A t) (hl : t.length ≤ 1073741824) (hi : i < t.length) (hR : T.RightT t) (h : T.pathL t i = p) :
    Calls Try.prog 13 #[.slice A t.length c, .int .i64 i] w (PathS w p 0) := by rw [← h]; exact Path_yes A c t i w hA hl hi hR
theorem kids_is (A : Option Addr) (c : Nat) (t : List T.Ln) (i : Int) (l : List Nat) (w : World) (hA : Seen eL w A t) (hl : t.length ≤ 1073741824) (hi : -1 ≤ i) (hil : i < t.length) (hR : T.RightT t) (h : T.kidsL t i = l) :
    Calls Try.prog 14 #[.slice A t.length c, .int .i64 i] w (SawG eI w l) := by rw [← h]; exact kids_yes A c t i w hA hl hi hil hR
theorem leaves_is (A : Option Addr) (c : Nat) (t : List T.Ln) (l : List Nat) (w : World) (hA : Seen eL w A t) (hl : t.length ≤ 1073741824) (hR : T.RightT t) (h : T.leavesL t = l) :
    Calls Try.prog 29 #[.slice A t.length c] w (SawG eI w l) := by rw [← h]; exact leaves_yes A c t w hA hl hR
theorem sub_is (A : Option Addr) (c : Nat) (t : List T.Ln) (i : Nat) (l : List T.Ln) (w : World) (hA : Seen eL w A t) (hl : t.length ≤ 1073741824) (hc : t.length ≤ c) (hi : i < t.length) (hR : T.RightT t) (h : T.subL t i = l) :
    Calls Try.prog 17 #[.slice A t.length c, .int .i64 i] w (SawG eL w l) := by rw [← h]; exact sub_yes A c t i w hA hl hc hi hR
theorem End_is (A : Option Addr) (c : Nat) (t : List T.Ln) (i e : Nat) (w : World) (hA : Seen eL w A t) (hl : t.length ≤ 1073741824) (hi : i < t.length) (hR : T.RightT t) (h : T.endL t i = e) :
    Calls Try.prog 16 #[.slice A t.length c, .int .i64 i] w (IntS w (e : Nat)) := by rw [← h]; exact End_yes A c t i w hA hl hi hR
theorem Under_is (A : Option Addr) (c : Nat) (t : List T.Ln) (i : Nat) (u : Int) (w : World) (hA : Seen eL w A t) (hl : t.length ≤ 1073741824) (hi : i < t.length) (hR : T.RightT t) (h : T.underL t i = u) :
    Calls Try.prog 15 #[.slice A t.length c, .int .i64 i] w (IntS w u) := by rw [← h]; exact Under_yes A c t i w hA hl hi hR

set_option maxRecDepth 100000 in
set_option maxHeartbeats 2000000 in
theorem awake_any (w : World) : Calls Try.prog 10 #[] w (TrueS w) := by
  have hb : Below w.heap.size w (w.alloc awO) := up _ _
  have HT := Lib.hid (aw_seen w)
  simp only [awO] at hb HT
  go_enter Try.func10, Try.ntmps10
  go_wp2_with fail
  refine (Path_is _ 4 awT 2 _ _ HT.out (by decide) (by decide) aw_right aw_path).mono ?_
  rintro e wx1 ⟨B1, cap1, rfl, hcap1, hseen, hx⟩
  replace HT := Lib.hid (HT.out.below hx)
  have HP := Lib.hid hseen
  clear hseen
  replace hb := bthen hb hx
  clear hx
  go_wp2_with fail
  refine (find_some _ _ 4 2 awT 1 [[97], [98]] _ (HT.out.below (up _ _)) (aw_s2 _ 97 98) (by decide) (by decide) aw_right (by decide) aw_path1).mono ?_
  rintro e wx2 ⟨rfl, hx⟩
  replace hx := bthen (up _ _) hx
  replace HT := Lib.hid (HT.out.below hx)
  replace HP := Lib.hid (HP.out.below hx)
  replace hb := bthen hb hx
  clear hx
  go_wp2_with fail
  refine (right_is _ 4 awT true _ HT.out (by decide) (yes_iff aw_right)).mono ?_
  rintro e wx3 ⟨rfl, hx⟩
  replace HT := Lib.hid (HT.out.below hx)
  replace HP := Lib.hid (HP.out.below hx)
  replace hb := bthen hb hx
  clear hx
  go_wp2_with fail
  refine (equal_yes _ _ _ _ [[97], [99]] [[97], [99]] 2 2 _ rfl rfl rfl (by decide) (HP.out.below (up _ _)) (aw_s2 _ 97 99)).mono ?_
  rintro e wx4 ⟨rfl, hx⟩
  replace hx := bthen (up _ _) hx
  replace HT := Lib.hid (HT.out.below hx)
  replace HP := Lib.hid (HP.out.below hx)
  replace hb := bthen hb hx
  clear hx
  go_wp2_with fail
  refine (kids_is _ 4 awT (-1) _ _ HT.out (by decide) (by decide) (by decide) aw_right aw_kids).mono ?_
  rintro e wx5 ⟨B5, cap5, rfl, hcap5, hseen, hx⟩
  replace HT := Lib.hid (HT.out.below hx)
  replace HP := Lib.hid (HP.out.below hx)
  have HK := Lib.hid hseen
  clear hseen
  replace hb := bthen hb hx
  clear hx
  go_wp2_with fail
  refine (ints_yes _ _ _ _ [0, 3] _ (by decide) (HK.out.below (up _ _)) (aw_i2 _)).mono ?_
  rintro e wx6 ⟨rfl, hx⟩
  replace hx := bthen (up _ _) hx
  replace HT := Lib.hid (HT.out.below hx)
  replace HP := Lib.hid (HP.out.below hx)
  replace HK := Lib.hid (HK.out.below hx)
  replace hb := bthen hb hx
  clear hx
  go_wp2_with fail
  refine (End_is _ 4 awT 0 _ _ HT.out (by decide) (by decide) aw_right aw_end).mono ?_
  rintro e wx7 ⟨rfl, hx⟩
  replace HT := Lib.hid (HT.out.below hx)
  replace HP := Lib.hid (HP.out.below hx)
  replace HK := Lib.hid (HK.out.below hx)
  replace hb := bthen hb hx
  clear hx
  go_wp2_with fail
  refine (Under_is _ 4 awT 2 _ _ HT.out (by decide) (by decide) aw_right aw_under).mono ?_
  rintro e wx8 ⟨rfl, hx⟩
  replace HT := Lib.hid (HT.out.below hx)
  replace HP := Lib.hid (HP.out.below hx)
  replace HK := Lib.hid (HK.out.below hx)
  replace hb := bthen hb hx
  clear hx
  go_wp2_with fail
  refine (leaves_is _ 4 awT _ _ HT.out (by decide) aw_right aw_leaves).mono ?_
  rintro e wx9 ⟨B9, cap9, rfl, hcap9, hseen, hx⟩
  replace HT := Lib.hid (HT.out.below hx)
  replace HP := Lib.hid (HP.out.below hx)
  replace HK := Lib.hid (HK.out.below hx)
  have HV := Lib.hid hseen
  clear hseen
  replace hb := bthen hb hx
  clear hx
  go_wp2_with fail
  refine (ints_yes _ _ _ _ [1, 2, 3] _ (by decide) (HV.out.below (up _ _)) (aw_i3 _)).mono ?_
  rintro e wx10 ⟨rfl, hx⟩
  replace hx := bthen (up _ _) hx
  replace HT := Lib.hid (HT.out.below hx)
  replace HP := Lib.hid (HP.out.below hx)
  replace HK := Lib.hid (HK.out.below hx)
  replace HV := Lib.hid (HV.out.below hx)
  replace hb := bthen hb hx
  clear hx
  go_wp2_with fail
  refine (sub_is _ 4 awT 0 _ _ HT.out (by decide) (by decide) (by decide) aw_right aw_sub).mono ?_
  rintro e wx11 ⟨B11, cap11, rfl, hcap11, hseen, hx⟩
  replace HT := Lib.hid (HT.out.below hx)
  replace HP := Lib.hid (HP.out.below hx)
  replace HK := Lib.hid (HK.out.below hx)
  replace HV := Lib.hid (HV.out.below hx)
  clear hseen
  replace hb := bthen hb hx
  clear hx
  go_wp2
  go_ret
  exact ⟨rfl, hb⟩
end Go.Proofs.Ytocaiojdmnfamaa
