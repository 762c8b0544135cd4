/-
  Contracts of layer 3's Kids and Leaves: the places that the plain definitions say, or none; below the heap's size at the call the world is as it was. Condition: at most 2^30 lines.
-/
import Derived.Test.YtokhflpeeibeeaaTreePathC
namespace Go.Proofs.Ytokhflpeeibeeaa
open Go.RowKit

theorem kids_no (A : Option Addr) (c : Nat) (t : List T.Ln) (i : Int) (w : World) (hA : Seen eL w A t) (hl : t.length ≤ 1073741824) (h : i < -1 ∨ (t.length : Int) ≤ i ∨ ¬ T.RightT t) :
    Calls Try.prog 16 #[.slice A t.length c, .int .i64 i] w (SawG eI w []) := by
  have HA := Lib.hid hA
  clear hA
  by_cases hR : T.RightT t
  · have HR := Lib.hid hR
    by_cases h1 : i < -1
    · have b1 : decide (i < (-1 : Int)) = true := decide_eq_true h1
      clear hR h
      go_enter Try.func16, Try.ntmps16
      go_wp2_with fail
      refine (right_is A c t true _ HA.out hl (yes_iff HR.out)).mono ?_
      rintro e w1 ⟨rfl, hb1⟩
      go_wp2
      go_ret
      exact ⟨none, 0, rfl, Nat.le_refl _, Seen.nil, hb1⟩
    · have b1 : decide (i < (-1 : Int)) = false := decide_eq_false h1
      have b2 : decide ((t.length : Int) ≤ i) = true := decide_eq_true (by rcases h with h | h | h <;> first | omega | exact absurd hR h)
      clear hR h
      go_enter Try.func16, Try.ntmps16
      go_wp2_with fail
      refine (right_is A c t true _ HA.out hl (yes_iff HR.out)).mono ?_
      rintro e w1 ⟨rfl, hb1⟩
      go_wp2
      go_ret
      exact ⟨none, 0, rfl, Nat.le_refl _, Seen.nil, hb1⟩
  · have HR := Lib.hid hR
    clear hR h
    go_enter Try.func16, Try.ntmps16
    go_wp2_with fail
    refine (right_is A c t false _ HA.out hl (no_iff HR.out)).mono ?_
    rintro e w1 ⟨rfl, hb1⟩
    go_wp2
    go_ret
    exact ⟨none, 0, rfl, Nat.le_refl _, Seen.nil, hb1⟩

def RelK (w : World) (t : List T.Ln) (i : Int) (g : Nat) (v x : Value) (wr : World) : Prop :=
  ∃ k : Nat, k + g = t.length ∧ i < k ∧ x = .int .i64 k ∧ T.DeepTo t i k ∧ Own eI wr w.heap.size v (T.kidsTo t i k) ∧ Below w.heap.size w wr

set_option maxRecDepth 100000 in
set_option maxHeartbeats 1000000 in
theorem kids_yes (A : Option Addr) (c : Nat) (t : List T.Ln) (i : Int) (w : World) (hA : Seen eL w A t) (hl : t.length ≤ 1073741824) (hi : -1 ≤ i) (hil : i < t.length) (hR : T.RightT t) :
    Calls Try.prog 16 #[.slice A t.length c, .int .i64 i] w (SawG eI w (T.kidsL t i)) := by
  have b1 : decide (i < (-1 : Int)) = false := decide_eq_false (by omega)
  have b2 : decide ((t.length : Int) ≤ i) = false := decide_eq_false (by omega)
  have HA := Lib.hid hA
  have HR := Lib.hid hR
  clear hA hR
  by_cases h0 : 0 ≤ i
  · have b3 : decide ((0 : Int) ≤ i) = true := decide_eq_true h0
    obtain ⟨n, rfl⟩ := Int.eq_ofNat_of_zero_le h0
    have b4 : decide (t.length ≤ n) = false := decide_eq_false (by omega)
    obtain ⟨b, o, rfl, hbw, hL⟩ := HA.out.lines (by omega)
    have HL := Lib.hid hL
    have hdn := HR.out.deep n (by omega)
    have HD := Lib.hid (show T.kidD t n = T.dp t n + 1 by unfold T.kidD; rw [if_neg (by omega), Int.toNat_natCast])
    clear hL
    go_enter Try.func16, Try.ntmps16
    go_wp2_with fail
    refine (right_is _ c t true _ HA.out hl (yes_iff HR.out)).mono ?_
    rintro e w1 ⟨rfl, hb1⟩
    obtain ⟨d0, _, _⟩ := (HL.out.below hb1 hbw).line (show n < t.length by omega)
    go_wp2
    go_loopg [6, 7] (t.length - (n + 1)) (fun g v x wr => RelK w t n g v x wr)
    case atStart => exact ⟨n + 1, by omega, by omega, by go_num, (fun m h1 h2 => by omega), by rw [T.kids_start t n (n + 1) (by omega)]; exact Own.nil _ _, hb1⟩
    case round =>
      obtain ⟨k, hg, hik, rfl, hdt, hown, hb⟩ := hrel
      have HG := Lib.hid hg
      have HT := Lib.hid hdt
      have hfl := T.filter_len k (fun m => T.underL t m == n)
      have HO := Lib.hid hown
      clear hg hdt hown
      have hsz := hb.size
      by_cases hlt : k < t.length
      · have blt : decide ((k : Int) < (t.length : Int)) = true := decide_eq_true (by omega)
        obtain ⟨c0, _, _⟩ := (HL.out.below hb hbw).line hlt
        by_cases hge : T.dp t n + 1 ≤ T.dp t k
        · have bge : decide (T.dp t n + 1 ≤ T.dp t k) = true := decide_eq_true hge
          have HTN := Lib.hid (HT.out.next (by rw [HD.out]; exact hge))
          have hiff := HR.out.kid_iff hi hik hlt HT.out
          rw [HD.out] at hiff
          by_cases heq : T.dp t k = T.dp t n + 1
          · have HN := Lib.hid (show T.kidsTo t n (k + 1) = T.kidsTo t n k ++ [k] by rw [T.kids_next, if_pos (hiff.2 heq)])
            rw [heq] at c0 bge
            clear hge hiff heq
            have hown2 := HO.out
            go_wp2_with (at_builtin; refine wpList_appG eI _ rfl (.tmp 53) (.tmp 55) rfl w.heap.size u6 (T.kidsTo t n k) rfl hown2 k 1 _ rfl wr.heap.size rfl rfl (by unfold T.kidsTo; omega) hsz ?_; intro v2 w2 hown3 hb2)
            go_roundg (t.length - (k + 1))
            case rel => exact ⟨k + 1, by omega, by omega, by go_num, HTN.out, by rw [HN.out]; exact hown3, hb.trans hb2⟩
            case measure => have := HG.out; omega
          · have beq : (T.dp t k == T.dp t n + 1) = false := beq_eq_false_iff_ne.2 heq
            have HN := Lib.hid (show T.kidsTo t n (k + 1) = T.kidsTo t n k by rw [T.kids_next, if_neg (fun h => heq (hiff.1 h)), List.append_nil])
            clear hge hiff heq
            go_wp2
            go_roundg (t.length - (k + 1))
            case rel => exact ⟨k + 1, by omega, by omega, by go_num, HTN.out, by rw [HN.out]; exact HO.out, hb⟩
            case measure => have := HG.out; omega
        · have bge : decide (T.dp t n + 1 ≤ T.dp t k) = false := decide_eq_false hge
          have HN := Lib.hid (HR.out.kids_done hi hik (by omega) (fun _ => by rw [HD.out]; omega))
          clear hge
          go_wp2
          go_ret
          obtain ⟨A2, cap, rfl, hcap, hseen⟩ := HO.out.seen
          rw [HN.out] at hcap hseen ⊢
          exact ⟨A2, cap, rfl, hcap, hseen, hb⟩
      · have blt : decide ((k : Int) < (t.length : Int)) = false := decide_eq_false (by omega)
        have HN := Lib.hid (HR.out.kids_done hi hik (by have := HG.out; omega) (fun h => absurd h hlt))
        go_wp2
        go_ret
        obtain ⟨A2, cap, rfl, hcap, hseen⟩ := HO.out.seen
        rw [HN.out] at hcap hseen ⊢
        exact ⟨A2, cap, rfl, hcap, hseen, hb⟩
  · have b3 : decide ((0 : Int) ≤ i) = false := decide_eq_false h0
    obtain rfl : i = -1 := by omega
    have HD := Lib.hid (show T.kidD t (-1) = 0 by unfold T.kidD; rw [if_pos (by omega)])
    go_enter Try.func16, Try.ntmps16
    go_wp2_with fail
    refine (right_is _ c t true _ HA.out hl (yes_iff HR.out)).mono ?_
    rintro e w1 ⟨rfl, hb1⟩
    go_wp2
    go_loopg [6, 7] t.length (fun g v x wr => RelK w t (-1) g v x wr)
    case atStart => exact ⟨0, by omega, by omega, rfl, (fun m h1 h2 => by omega), by rw [T.kids_start t (-1) 0 (by omega)]; exact Own.nil _ _, hb1⟩
    case round =>
      obtain ⟨k, hg, hik, rfl, hdt, hown, hb⟩ := hrel
      have HG := Lib.hid hg
      have HT := Lib.hid hdt
      have hfl := T.filter_len k (fun m => T.underL t m == -1)
      have HO := Lib.hid hown
      clear hg hdt hown
      have hsz := hb.size
      by_cases hlt : k < t.length
      · have blt : decide ((k : Int) < (t.length : Int)) = true := decide_eq_true (by omega)
        obtain ⟨b, o, rfl, hbw, hL⟩ := HA.out.lines (by omega)
        obtain ⟨c0, _, _⟩ := (hL.below hb hbw).line hlt
        clear hL
        by_cases hge : 0 ≤ T.dp t k
        · have bge : decide (0 ≤ T.dp t k) = true := decide_eq_true hge
          have HTN := Lib.hid (HT.out.next (by rw [HD.out]; exact hge))
          have hiff := HR.out.kid_iff hi hik hlt HT.out
          rw [HD.out] at hiff
          by_cases heq : T.dp t k = 0
          · have HN := Lib.hid (show T.kidsTo t (-1) (k + 1) = T.kidsTo t (-1) k ++ [k] by rw [T.kids_next, if_pos (hiff.2 heq)])
            rw [heq] at c0 bge
            clear hge hiff heq
            have hown2 := HO.out
            go_wp2_with (at_builtin; refine wpList_appG eI _ rfl (.tmp 53) (.tmp 55) rfl w.heap.size u6 (T.kidsTo t (-1) k) rfl hown2 k 1 _ rfl wr.heap.size rfl rfl (by unfold T.kidsTo; omega) hsz ?_; intro v2 w2 hown3 hb2)
            go_roundg (t.length - (k + 1))
            case rel => exact ⟨k + 1, by omega, by omega, by go_num, HTN.out, by rw [HN.out]; exact hown3, hb.trans hb2⟩
            case measure => have := HG.out; omega
          · have beq : (T.dp t k == 0) = false := beq_eq_false_iff_ne.2 heq
            have HN := Lib.hid (show T.kidsTo t (-1) (k + 1) = T.kidsTo t (-1) k by rw [T.kids_next, if_neg (fun h => heq (hiff.1 h)), List.append_nil])
            clear hge hiff heq
            go_wp2
            go_roundg (t.length - (k + 1))
            case rel => exact ⟨k + 1, by omega, by omega, by go_num, HTN.out, by rw [HN.out]; exact HO.out, hb⟩
            case measure => have := HG.out; omega
        · have bge : decide (0 ≤ T.dp t k) = false := decide_eq_false hge
          have HN := Lib.hid (HR.out.kids_done hi hik (by omega) (fun _ => by rw [HD.out]; omega))
          clear hge
          go_wp2
          go_ret
          obtain ⟨A2, cap, rfl, hcap, hseen⟩ := HO.out.seen
          rw [HN.out] at hcap hseen ⊢
          exact ⟨A2, cap, rfl, hcap, hseen, hb⟩
      · have blt : decide ((k : Int) < (t.length : Int)) = false := decide_eq_false (by omega)
        have HN := Lib.hid (HR.out.kids_done hi hik (by have := HG.out; omega) (fun h => absurd h hlt))
        go_wp2
        go_ret
        obtain ⟨A2, cap, rfl, hcap, hseen⟩ := HO.out.seen
        rw [HN.out] at hcap hseen ⊢
        exact ⟨A2, cap, rfl, hcap, hseen, hb⟩

theorem leaves_no (A : Option Addr) (c : Nat) (t : List T.Ln) (w : World) (hA : Seen eL w A t) (hl : t.length ≤ 1073741824) (h : ¬ T.RightT t) :
    Calls Try.prog 18 #[.slice A t.length c] w (SawG eI w []) := by
  have HA := Lib.hid hA
  have HR := Lib.hid h
  clear hA h
  go_enter Try.func18, Try.ntmps18
  go_wp2_with fail
  refine (right_is A c t false _ HA.out hl (no_iff HR.out)).mono ?_
  rintro e w1 ⟨rfl, hb1⟩
  go_wp2
  go_ret
  exact ⟨none, 0, rfl, Nat.le_refl _, Seen.nil, hb1⟩
def RelLv (w : World) (t : List T.Ln) (g : Nat) (v x : Value) (wr : World) : Prop :=
  ∃ k : Nat, k + g = t.length ∧ x = .int .i64 k ∧ Own eI wr w.heap.size v (T.leavesTo t k) ∧ Below w.heap.size w wr
set_option maxRecDepth 100000 in
set_option maxHeartbeats 1000000 in
theorem leaves_yes (A : Option Addr) (c : Nat) (t : List T.Ln) (w : World) (hA : Seen eL w A t) (hl : t.length ≤ 1073741824) (hR : T.RightT t) :
    Calls Try.prog 18 #[.slice A t.length c] w (SawG eI w (T.leavesL t)) := by
  have HA := Lib.hid hA
  have HR := Lib.hid hR
  clear hA hR
  go_enter Try.func18, Try.ntmps18
  go_wp2_with fail
  refine (right_is _ c t true _ HA.out hl (yes_iff HR.out)).mono ?_
  rintro e w1 ⟨rfl, hb1⟩
  go_wp2
  go_loopg [3, 10] t.length (fun g v x wr => RelLv w t g v x wr)
  case atStart => exact ⟨0, Nat.zero_add _, rfl, Own.nil _ _, hb1⟩
  case round =>
    obtain ⟨k, hg, rfl, hown, hb⟩ := hrel
    have HG := Lib.hid hg
    have HO := Lib.hid hown
    have hfl := T.filter_len k (T.leafB t)
    have hsz := hb.size
    clear hg hown
    by_cases hlt : k < t.length
    · obtain ⟨e, he⟩ : ∃ e, T.endL t k = e := ⟨_, rfl⟩
      have hspec := T.end_spec t k hlt
      rw [he] at hspec
      by_cases hleaf : e = k + 1
      · have HN := Lib.hid (show T.leavesTo t (k + 1) = T.leavesTo t k ++ [k] by rw [T.leaves_next, if_pos (by unfold T.leafB; rw [he, hleaf]; simp)])
        have HE := Lib.hid he
        subst hleaf
        clear he hspec
        go_wp2_with fail
        refine (end_any _ c t k _ (HA.out.below hb) hlt hl).mono ?_
        rintro x w2 ⟨rfl, hb2⟩
        rw [HE.out]
        have hown2 := HO.out.keep hb2
        have hs2 := hb2.size
        go_wp2_with (at_builtin; refine wpList_appG eI _ rfl (.tmp 19) (.tmp 21) rfl w.heap.size u3 (T.leavesTo t k) rfl hown2 k 1 _ rfl w2.heap.size rfl rfl (by unfold T.leavesTo; omega) (by omega) ?_; intro v2 w3 hown3 hb3)
        go_roundg (t.length - (k + 1))
        case rel => exact ⟨k + 1, by omega, by go_num, by rw [HN.out]; exact hown3, (hb.trans (hb2.mono hsz)).trans hb3⟩
        case measure => have := HG.out; omega
      · have HN := Lib.hid (show T.leavesTo t (k + 1) = T.leavesTo t k by rw [T.leaves_next, if_neg (by unfold T.leafB; rw [he]; simpa using hleaf), List.append_nil])
        have HE := Lib.hid he
        have be : ((e : Int) == (k : Int) + 1) = false := beq_eq_false_iff_ne.2 (by omega)
        clear he hspec hleaf
        go_wp2_with fail
        refine (end_any _ c t k _ (HA.out.below hb) hlt hl).mono ?_
        rintro x w2 ⟨rfl, hb2⟩
        rw [HE.out]
        go_wp2
        go_roundg (t.length - (k + 1))
        case rel => exact ⟨k + 1, by omega, by go_num, by rw [HN.out]; exact HO.out.keep hb2, hb.trans (hb2.mono hsz)⟩
        case measure => have := HG.out; omega
    · obtain rfl : k = t.length := by have := HG.out; omega
      go_wp2
      go_ret
      obtain ⟨A2, cap, rfl, hcap, hseen⟩ := HO.out.seen
      exact ⟨A2, cap, rfl, hcap, hseen, hb⟩
end Go.Proofs.Ytokhflpeeibeeaa
