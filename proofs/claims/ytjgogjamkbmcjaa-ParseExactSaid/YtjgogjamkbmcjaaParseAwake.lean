/-
  The fixed answer 'awake' of layer 5's statements: it returns true; below the heap's size at the call the world is as it was. No conditions.
-/
import Derived.Test.YtjgogjamkbmcjaaParseTree
namespace Go.Proofs.Ytjgogjamkbmcjaa
open Go.RowKit

theorem tree_ok (s : ByteArray) (t : List T.Ln) (n : Nat) (w : World) (hs : s.size ≤ 1073741824) (h : S.parseL s.data.toList = .ok t) (hn : t.length = n) :
    Calls Try.prog 11 #[.string s] w (fun e w' => ∃ A cap, e = .returned (.tuple #[.slice A n cap, .int .i64 0, .int .i64 0]) ∧ n ≤ cap ∧ Seen eL w' A t ∧ Below w.heap.size w w') := by
  subst hn
  have hc := tree_any s w hs
  rw [h] at hc
  exact hc.mono fun e w' ⟨A, cap, a, b, c, d⟩ => ⟨A, cap, a, b, c, d⟩
theorem tree_bad (s : ByteArray) (p : Nat) (er : Int) (w : World) (hs : s.size ≤ 1073741824) (h : S.parseL s.data.toList = .bad p er) :
    Calls Try.prog 11 #[.string s] w (fun e w' => e = .returned (.tuple #[.slice none 0 0, .int .i64 (p : Int), .int .i64 er]) ∧ Below w.heap.size w w') := by
  have hc := tree_any s w hs
  rw [h] at hc
  exact hc.mono fun e w' ⟨a, b⟩ => ⟨a, b⟩
/-- Of a text as a list of bytes. -/
theorem tree_okL (l : List UInt8) (t : List T.Ln) (n : Nat) (w : World) (hl : l.length ≤ 1073741824) (h : S.parseL l = .ok t) (hn : t.length = n) :
    Calls Try.prog 11 #[.string ⟨l.toArray⟩] w (fun e w' => ∃ A cap, e = .returned (.tuple #[.slice A n cap, .int .i64 0, .int .i64 0]) ∧ n ≤ cap ∧ Seen eL w' A t ∧ Below w.heap.size w w') :=
  tree_ok (sB l) t n w (by rw [sB_size]; exact hl) (by rw [sB_data]; exact h) hn
theorem tree_badL (l : List UInt8) (p : Nat) (er : Int) (w : World) (hl : l.length ≤ 1073741824) (h : S.parseL l = .bad p er) :
    Calls Try.prog 11 #[.string ⟨l.toArray⟩] w (fun e w' => e = .returned (.tuple #[.slice none 0 0, .int .i64 (p : Int), .int .i64 er]) ∧ Below w.heap.size w w') :=
  tree_bad (sB l) p er w (by rw [sB_size]; exact hl) (by rw [sB_data]; exact h)
theorem text_small {t : List T.Ln} (h : T.RightT t) : (S.textL t).length ≤ 200000 := by
  have h1 := S.RightT.text_len h t.length (Nat.le_refl _)
  have h2 := h.len
  unfold S.textL; omega

def aw5S : ByteArray := ⟨#[98, 59, 32, 112, 114, 111, 116, 101, 99, 116, 58, 32, 97, 32, 123, 32, 99, 59, 32, 125]⟩
def aw5T : List T.Ln := [⟨0, [97], 2⟩, ⟨1, [99], 0⟩, ⟨0, [98], 0⟩]
theorem aw5_ok : S.parseL aw5S.data.toList = .ok aw5T := by kernel_rfl
theorem aw5_bad : S.parseL (⟨#[97, 59, 32, 97, 59]⟩ : ByteArray).data.toList = .bad 3 4 := by kernel_rfl

set_option maxRecDepth 100000 in
set_option maxHeartbeats 2000000 in
theorem awake_any (w : World) : Calls Try.prog 10 #[] w (TrueS w) := by
  go_enter Try.func10, Try.ntmps10
  go_wp2_with fail
  refine (tree_ok aw5S aw5T 3 _ (by decide) aw5_ok rfl).mono ?_
  rintro e w1 ⟨A, cap, rfl, hcap, hS, hb1⟩
  obtain ⟨b, o, rfl, hbw, hH⟩ := hS (by decide)
  go_wp2_with fail
  refine (tree_bad _ 3 4 _ (by decide) aw5_bad).mono ?_
  rintro e w2 ⟨rfl, hb2⟩
  have hH2 := hH.below hb2 hbw
  obtain ⟨a0, a1, a2⟩ := hH2.line (i := 0) (by decide)
  obtain ⟨b0, b1, b2⟩ := hH2.line (i := 1) (by decide)
  have d1 := (hH2.line (i := 2) (by decide)).2.1
  replace a1 : w2.cell? ⟨b, o + 1, none⟩ = some (.string ⟨#[97]⟩) := by simpa [aw5T, T.wd, T.at_, sB] using a1
  replace a0 : w2.cell? ⟨b, o, none⟩ = some (.int .i64 0) := by simpa [aw5T, T.dp, T.at_] using a0
  replace a2 : w2.cell? ⟨b, o + 2, none⟩ = some (.int .i64 2) := by simpa [aw5T, T.at_] using a2
  replace b0 : w2.cell? ⟨b, o + 3, none⟩ = some (.int .i64 1) := by simpa [aw5T, T.dp, T.at_] using b0
  replace b1 : w2.cell? ⟨b, o + 4, none⟩ = some (.string ⟨#[99]⟩) := by simpa [aw5T, T.wd, T.at_, sB] using b1
  replace b2 : w2.cell? ⟨b, o + 5, none⟩ = some (.int .i64 0) := by simpa [aw5T, T.at_] using b2
  replace d1 : w2.cell? ⟨b, o + 7, none⟩ = some (.string ⟨#[98]⟩) := by simpa [aw5T, T.wd, T.at_, sB] using d1
  clear hH2 hH
  go_wp2
  go_ret
  exact ⟨rfl, bthen hb1 hb2⟩
end Go.Proofs.Ytjgogjamkbmcjaa
