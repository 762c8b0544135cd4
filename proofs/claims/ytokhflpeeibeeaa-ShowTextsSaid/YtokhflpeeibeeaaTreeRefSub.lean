/-
  Contract of the document's Sub (layer 3): the part that the plain definition says; below the heap's size at the call the world is as it was. Condition: a tree, a place of a line, at most 2^30 lines.
-/
import Derived.Test.YtokhflpeeibeeaaTreeRefs
import Derived.BigRegion
namespace Go.Proofs.Ytokhflpeeibeeaa
open Go.RowKit

def RelSr (w : World) (t : List T.Ln) (i e g : Nat) (v x : Value) (wr : World) : Prop :=
  ∃ k : Nat, k + g = e - i ∧ x = .int .i64 ((i + k : Nat) : Int) ∧ Own eL wr w.heap.size v ((T.subL t i).take k) ∧ Below w.heap.size w wr
set_option maxRecDepth 100000 in
set_option maxHeartbeats 2000000 in
theorem refSub_any (A : Option Addr) (c : Nat) (t : List T.Ln) (i : Nat) (w : World) (hA : Seen eL w A t) (hl : t.length ≤ 1073741824) (hi : i < t.length) (hR : T.RightT t) :
    Calls Try.prog 15 #[.slice A t.length c, .int .i64 i] w (SawG eL w (T.subL t i)) := by
  obtain ⟨b, o, rfl, hbw, hL⟩ := hA.lines (by omega)
  obtain ⟨e, he⟩ : ∃ e, T.endL t i = e := ⟨_, rfl⟩
  have hspec := T.end_spec t i hi
  rw [he] at hspec
  have he1 := hspec.1
  have he2 := hspec.2.1
  have hdi := hR.deep i hi
  have HSL := Lib.hid (show (T.subL t i).length = e - i by rw [T.sub_len t i hi, he])
  have HR := Lib.hid hR
  have HA := Lib.hid hA
  have HL := Lib.hid hL
  have HE := Lib.hid he
  clear hR hA hL he hspec
  go_enter Try.func15, Try.ntmps15
  go_wp2
  go_loopg [5, 6] (e - i) (fun g v x wr => RelSr w t i e g v x wr)
  case atStart => exact ⟨0, Nat.zero_add _, rfl, Own.nil _ _, Below.refl _ _⟩
  case round =>
    obtain ⟨k, hg, hx, hown, hb⟩ := hrel
    obtain ⟨j, hj⟩ : ∃ j, i + k = j := ⟨_, rfl⟩
    rw [hj] at hx
    subst hx
    have HG := Lib.hid hg
    have HJ := Lib.hid hj
    have HO := Lib.hid hown
    have hsz := hb.size
    have hij : i ≤ j := by omega
    clear hg hown hj
    by_cases hlt : j < e
    · have HN := Lib.hid (T.sub_take_next t i k hi (by rw [HE.out]; have := HJ.out; omega))
      have hdk := HR.out.deep j (by omega)
      have htl : ((T.subL t i).take k).length ≤ k := List.length_take_le _ _
      have hkl : k ≤ 1073741824 := by have := HJ.out; omega
      go_wp2_with fail
      refine (refEnd_any _ c t i _ (HA.out.below hb) hi hl).mono ?_
      rintro x w2 ⟨rfl, hb2⟩
      rw [HE.out]
      have hbb := bthen hb hb2
      obtain ⟨c0, c1, c2⟩ := (HL.out.below hbb hbw).line (show j < t.length by omega)
      obtain ⟨d0, _, _⟩ := (HL.out.below hbb hbw).line hi
      have hown2 := HO.out.keep hb2
      have hs2 := hbb.size
      have hbr : b < w2.heap.size := Nat.lt_of_lt_of_le hbw hs2
      have hjl : j < t.length := by omega
      have e1 : IntKind.i64.wrap (T.dp t j - T.dp t i) = T.dp t j - T.dp t i := wrapI _ (by omega)
      go_wp2
      go_region_law (refine step_appG eL w2 rfl (.tmp 15) (.tmp 38) rfl w.heap.size u5 ((T.subL t i).take k) rfl hown2 ⟨T.dp t j - T.dp t i, T.wd t j, (T.at_ t j).mark⟩ 1 _ rfl w2.heap.size rfl rfl (by omega) hs2 ?_; intro v2 w3 hown3 hb3)
      all_goals
        go_wp2
        go_roundg (e - i - (k + 1))
        case rel => exact ⟨k + 1, by have := HJ.out; omega, by have := HJ.out; subst this; go_num, by rw [HN.out, HJ.out]; exact hown3, hbb.trans hb3⟩
        case measure => have := HG.out; have := HJ.out; omega
    · obtain rfl : k = e - i := by have := HG.out; have := HJ.out; omega
      go_wp2_with fail
      refine (refEnd_any _ c t i _ (HA.out.below hb) hi hl).mono ?_
      rintro x w2 ⟨rfl, hb2⟩
      rw [HE.out]
      go_wp2
      go_ret
      obtain ⟨A2, cap, rfl, hcap, hseen⟩ := (HO.out.keep hb2).seen
      rw [List.take_of_length_le (by rw [HSL.out]; exact Nat.le_refl _)] at hcap hseen ⊢
      exact ⟨A2, cap, rfl, hcap, hseen, bthen hb hb2⟩
end Go.Proofs.Ytokhflpeeibeeaa
