/-
  Contract of the document's Of (layer 8): the difference of two trees. Condition: trees.
-/
import Derived.Test.YtfajfjocpgbmeaaDiffA
import Derived.Deep.QuietTactic
import Derived.BigQuiet
namespace Go.Proofs.Ytfajfjocpgbmeaa
open Go.RowKit
set_option linter.unusedVariables false

theorem refFindI {N : Nat} (A B : Option Addr) (c d n m : Nat) (t : List T.Ln) (p : T.Pth) (f : Int) (w : World) (hn : t.length = n) (hm : p.length = m) (hA : Seen eL w A t) (hB : Seen eS w B p) (hl : n ≤ 1073741824) (hp : m ≤ 1073741824) (hR : T.RightN N t) (hf : T.findI t p = f) :
    Calls Try.prog 46 #[.slice A n c, .slice B m d] w (IntS w f) := by
  subst hn; subst hm; subst hf
  refine (refFind_any A B c d t p w hA hB hl hp hR).mono ?_
  rintro e w1 ⟨⟨i, hi, h2, rfl⟩ | ⟨h2, rfl⟩, hb⟩
  · exact ⟨by rw [T.findI_some hR hi h2], hb⟩
  · exact ⟨by rw [T.findI_none h2], hb⟩
theorem refPathF {N : Nat} (A : Option Addr) (c n i q : Nat) (t : List T.Ln) (p : T.Pth) (w : World) (hn : t.length = n) (hA : Seen eL w A t) (hl : n ≤ 1073741824) (hi : i < n) (hR : T.RightN N t) (hp : T.pathL t i = p) (hq : p.length = q + 1) :
    Calls Try.prog 44 #[.slice A n c, .int .i64 i] w (fun e w' => ∃ b o cap, e = .returned (.slice (some ⟨b, o, none⟩) (q + 1) cap) ∧ q + 1 ≤ cap ∧ w.heap.size ≤ b ∧ b < w'.heap.size ∧ Holds eS w' b o p ∧ Below w.heap.size w w') := by
  subst hn
  refine (refPath_new A c t i w hA hl hi hR).mono ?_
  rintro e w1 ⟨B, cap, rfl, h2, h3, h4, h5⟩
  rw [hp] at h2 h3
  rw [hp]
  obtain ⟨b, o, rfl, hb, hH⟩ := h3 (by omega)
  exact ⟨b, o, cap, by rw [hq], by omega, h4 _ rfl, hb, hH, h5⟩
theorem entries_next (t : List T.Ln) {k : Nat} (hk : k < t.length) : (T.entries t).take (k + 1) = (T.entries t).take k ++ [(T.pathL t k, (T.at_ t k).mark)] := by
  have hkl : k < (T.entries t).length := by rw [T.entries_len]; exact hk
  rw [List.take_succ_eq_append_getElem hkl, T.entries_at t k hk]
theorem entries_all (t : List T.Ln) : (T.entries t).take t.length = T.entries t := by
  conv => lhs; rw [← T.entries_len t]
  exact List.take_length
theorem find_neg (t : List T.Ln) (p : T.Pth) : decide (T.findI t p < 0) = !T.inB t p := by
  unfold T.inB
  rw [Bool.eq_iff_iff]; simp
theorem gone_len (b : List T.Ln) (l : List (T.Pth × Int)) : (T.goneL b l).length ≤ l.length := by unfold T.goneL; rw [List.length_map]; exact List.length_filter_le _ _
theorem adds_len (b : List T.Ln) (l : List (T.Pth × Int)) : (T.addsL b l).length ≤ l.length := by unfold T.addsL; rw [List.length_map]; exact List.length_filter_le _ _
theorem marks_len (b : List T.Ln) (l : List (T.Pth × Int)) : (T.marksL b l).length ≤ l.length := by unfold T.marksL; rw [List.length_map]; exact List.length_filter_le _ _
theorem taken_len (t : List T.Ln) (k : Nat) : ((T.entries t).take k).length ≤ k := by rw [List.length_take]; omega
end Go.Proofs.Ytfajfjocpgbmeaa
