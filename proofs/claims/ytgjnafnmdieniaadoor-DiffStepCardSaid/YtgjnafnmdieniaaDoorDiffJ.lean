/-
  Contracts of the code's pathAt, has and hasAbove (layer 8). Condition: a tree.
-/
import Derived.Test.YtgjnafnmdieniaaDoorDiffB
namespace Go.Proofs.YtgjnafnmdieniaaDoor
open Go.RowKit
set_option linter.unusedVariables false

theorem codePathAt (A : Option Addr) (c n i q : Nat) (t : List T.Ln) (p : T.Pth) (w : World) (hn : t.length = n) (hA : Seen eL w A t) (hl : n ≤ 1073741824) (hi : i < n) (hR : T.RightT t) (hp : T.pathL t i = p) (hq : p.length = q + 1) :
    Calls Tryd.prog 44 #[.slice A n c, .int .i64 i] w (fun e w' => ∃ b o cap, e = .returned (.slice (some ⟨b, o, none⟩) (q + 1) cap) ∧ q + 1 ≤ cap ∧ w.heap.size ≤ b ∧ b < w'.heap.size ∧ Holds eS w' b o p ∧ Below w.heap.size w w') := by
  subst hn
  have hpath := Path_new A c t i w hA hl hi hR
  rw [hp] at hpath
  have HQ := Lib.hid hq
  clear hA hR hp hq
  go_enter Tryd.func44, Tryd.ntmps44
  go_wp2_with fail
  refine hpath.mono ?_
  rintro e w1 ⟨B, cap, rfl, h2, h3, h4, h5⟩
  have h6 := h3 (by rw [HQ.out]; omega)
  rw [HQ.out] at h2
  obtain ⟨b, o, rfl, hb, hH⟩ := h6
  have HH := Lib.hid hH
  have hqq := HQ.out
  clear h3 hH hpath
  go_wp2
  go_ret
  exact ⟨b, o, cap, rfl, h2, h4 _ rfl, hb, HH.out, h5⟩
theorem codeHas (A B : Option Addr) (c d n m : Nat) (t : List T.Ln) (p : T.Pth) (r : Bool) (w : World) (hn : t.length = n) (hm : p.length = m) (hA : Seen eL w A t) (hB : Seen eS w B p) (hl : n ≤ 1073741824) (hp : m ≤ 1073741824) (hR : T.RightT t) (hr : T.inB t p = r) :
    Calls Tryd.prog 45 #[.slice A n c, .slice B m d] w (BoolS w r) := by
  subst hn; subst hm
  have hf := find_any A B c d t p w hA hB hl hp hR
  have HR := Lib.hid hr
  clear hA hB hR hr
  go_enter Tryd.func45, Tryd.ntmps45
  go_wp2_with fail
  refine hf.mono ?_
  rintro e w1 ⟨hc, hx⟩
  have HX := Lib.hid hx
  clear hf hx
  rcases hc with ⟨i, hi, hpi, rfl⟩ | ⟨hno, rfl⟩
  · have HE := Lib.hid (show r = true by rw [← HR.out]; exact T.inB_yes.2 ⟨i, hi, hpi⟩)
    clear hi hpi
    go_wp2
    go_ret
    exact ⟨by rw [HE.out]; rfl, HX.out⟩
  · have HE := Lib.hid (show r = false by rw [← HR.out]; exact T.inB_no.2 fun ⟨i, hi, e⟩ => hno i hi e)
    clear hno
    go_wp2
    go_ret
    exact ⟨by rw [HE.out]; rfl, HX.out⟩
theorem codeAbove8 (A : Option Addr) (b o c d n q : Nat) (t : List T.Ln) (p : T.Pth) (r : Bool) (w : World) (hn : t.length = n) (hm : p.length = q + 1) (hA : Seen eL w A t) (hb : b < w.heap.size) (hB : Holds eS w b o p) (hd : q + 1 ≤ d) (hl : n ≤ 1073741824) (hp : q ≤ 1073741823) (hR : T.RightT t) (hr : (decide (p.dropLast = []) || T.inB t p.dropLast) = r) :
    Calls Tryd.prog 46 #[.slice A n c, .slice (some ⟨b, o, none⟩) (q + 1) d] w (BoolS w r) := by
  have hlen : p.dropLast.length = q := by rw [List.length_dropLast, hm]; rfl
  have htake : p.take q = p.dropLast := by rw [List.dropLast_eq_take, hm]; rfl
  by_cases h0 : q = 0
  · subst h0
    have HE := Lib.hid (show r = true by rw [← hr, List.eq_nil_of_length_eq_zero hlen]; rfl)
    clear hA hB hR hr hm hlen htake
    go_enter Tryd.func46, Tryd.ntmps46
    go_wp2
    go_ret
    exact ⟨by rw [HE.out]; rfl, Below.refl _ _⟩
  · have hne : p.dropLast ≠ [] := by intro e; rw [e] at hlen; exact h0 hlen.symm
    have hr2 : T.inB t p.dropLast = r := by rw [← hr, decide_eq_false hne, Bool.false_or]
    have hseen : Seen eS w (some ⟨b, o, none⟩) p.dropLast := by rw [← htake]; exact (hB.take q).seen hb
    have hcall := codeHas A (some ⟨b, o, none⟩) c d n q t p.dropLast r w hn hlen hA hseen hl (by omega) hR hr2
    have b1 : ((q : Int) + 1 == 1) = false := beq_eq_false_iff_ne.2 (by omega)
    have hqd : q ≤ d := by omega
    clear hA hB hR hr hm hlen htake hseen hne hr2
    go_enter Tryd.func46, Tryd.ntmps46
    go_wp2_with fail
    refine hcall.mono ?_
    rintro e w1 ⟨rfl, hx⟩
    go_wp2
    go_ret
    exact ⟨rfl, hx⟩
end Go.Proofs.YtgjnafnmdieniaaDoor
