/-
  Contract of layer 3's Sub: the part that the plain definition says, or none; below the heap's size at the call the world is as it was. Condition: at most 2^30 lines.
-/
import Derived.Test.YtokhflpeeibeeaaTreeKidsC
namespace Go.Proofs.Ytokhflpeeibeeaa
open Go.RowKit

theorem sub_no (A : Option Addr) (c : Nat) (t : List T.Ln) (i : Int) (w : World) (hA : Seen eL w A t) (hl : t.length ≤ 1073741824) (h : i < 0 ∨ (t.length : Int) ≤ i ∨ ¬ T.RightT t) :
    Calls Try.prog 24 #[.slice A t.length c, .int .i64 i] w (SawG eL w []) := by
  have HR := Lib.hid h
  have HA := Lib.hid hA
  clear h hA
  go_enter Try.func24, Try.ntmps24
  go_wp2_with fail
  refine (has_no A c t i _ HA.out hl HR.out).mono ?_
  rintro e w1 ⟨rfl, hb1⟩
  go_wp2
  go_ret
  exact ⟨none, 0, rfl, Nat.le_refl _, Seen.nil, hb1⟩

def RelS (w : World) (t : List T.Ln) (i m g : Nat) (v x : Value) (wr : World) : Prop :=
  ∃ k : Nat, k + g = m ∧ x = .int .i64 k ∧ Own eL wr w.heap.size v ((T.subL t i).take k) ∧ Below w.heap.size w wr
/-- A line of a part, where it lies. -/
theorem Holds.lineFrom {w : World} {b o : Nat} {t : List T.Ln} (h : Holds eL w b o t) {i k : Nat} (hi : i + k < t.length) :
    w.cell? ⟨b, o + i * 3 + k * 3, none⟩ = some (.int .i64 (T.dp t (i + k))) ∧ w.cell? ⟨b, o + i * 3 + k * 3 + 1, none⟩ = some (.string (sB (T.wd t (i + k)))) ∧ w.cell? ⟨b, o + i * 3 + k * 3 + 2, none⟩ = some (.int .i64 (T.at_ t (i + k)).mark) := by
  have := h.line hi
  have e : o + (i + k) * 3 = o + i * 3 + k * 3 := by omega
  rw [e] at this
  exact this

set_option maxRecDepth 100000 in
set_option maxHeartbeats 1000000 in
theorem sub_yes (A : Option Addr) (c : Nat) (t : List T.Ln) (i : Nat) (w : World) (hA : Seen eL w A t) (hl : t.length ≤ 1073741824) (hc : t.length ≤ c) (hi : i < t.length) (hR : T.RightT t) :
    Calls Try.prog 24 #[.slice A t.length c, .int .i64 i] w (SawG eL w (T.subL t i)) := by
  obtain ⟨b, o, rfl, hbw, hL⟩ := hA.lines (by omega)
  obtain ⟨e, he⟩ : ∃ e, T.endL t i = e := ⟨_, rfl⟩
  have hspec := T.end_spec t i hi
  rw [he] at hspec
  have he1 := hspec.1
  have he2 := hspec.2.1
  have hie : i ≤ e := Nat.le_of_lt he1
  have hec : e ≤ c := Nat.le_trans he2 hc
  have hdi := hR.deep i hi
  have HSL := Lib.hid (show (T.subL t i).length = e - i by rw [T.sub_len t i hi, he])
  have HR := Lib.hid hR
  have HA := Lib.hid hA
  have HL := Lib.hid hL
  have HE := Lib.hid he
  clear hR hA hL he hspec
  go_enter Try.func24, Try.ntmps24
  go_wp2_with fail
  refine (has_yes _ c t i _ HA.out hl hi HR.out).mono ?_
  rintro x w1 ⟨rfl, hb1⟩
  go_wp2_with fail
  refine (end_any _ c t i _ (HA.out.below hb1) hi hl).mono ?_
  rintro x w2 ⟨rfl, hb2⟩
  rw [HE.out]
  go_wp2
  go_loopg [5, 19] (e - i) (fun g v x wr => RelS w t i (e - i) g v x wr)
  case atStart => exact ⟨0, Nat.zero_add _, rfl, Own.nil _ _, bthen hb1 hb2⟩
  case round =>
    obtain ⟨k, hg, rfl, hown, hb⟩ := hrel
    have HG := Lib.hid hg
    have HO := Lib.hid hown
    have hsz := hb.size
    clear hg hown
    by_cases hlt : k < e - i
    · obtain ⟨c0, c1, c2⟩ := (HL.out.below hb hbw).lineFrom (show i + k < t.length by omega)
      obtain ⟨d0, _, _⟩ := (HL.out.below hb hbw).line hi
      have hdk := HR.out.deep (i + k) (by omega)
      have HN := Lib.hid (T.sub_take_next t i k hi (by rw [HE.out]; exact hlt))
      have hbr : b < wr.heap.size := Nat.lt_of_lt_of_le hbw hsz
      have e1 : IntKind.i64.wrap (T.dp t (i + k) - T.dp t i) = T.dp t (i + k) - T.dp t i := wrapI _ (by omega)
      have htl : ((T.subL t i).take k).length ≤ k := List.length_take_le _ _
      go_wp2
      go_region
      have hown2 := HO.out
      go_wp2_with (at_builtin; refine wpList_appGd eL _ rfl (.tmp 32) (.tmp 34) rfl w.heap.size u5 ((T.subL t i).take k) rfl (hown2.alloc _) ⟨T.dp t (i + k) - T.dp t i, T.wd t (i + k), (T.at_ t (i + k)).mark⟩ 1 _ rfl (wr.heap.size + 1) (by simp) rfl (by omega) (by simp; omega) ?_; intro v2 w3 hown3 hb3)
      go_roundg (e - i - (k + 1))
      case rel => exact ⟨k + 1, by omega, by go_num, by rw [HN.out]; exact hown3, (hb.alloc hsz _).trans hb3⟩
      case measure => have := HG.out; omega
    · obtain rfl : k = e - i := by have := HG.out; omega
      go_wp2
      go_ret
      obtain ⟨A2, cap, rfl, hcap, hseen⟩ := HO.out.seen
      rw [List.take_of_length_le (by rw [HSL.out]; exact Nat.le_refl _)] at hcap hseen ⊢
      exact ⟨A2, cap, rfl, hcap, hseen, hb⟩
end Go.Proofs.Ytokhflpeeibeeaa
