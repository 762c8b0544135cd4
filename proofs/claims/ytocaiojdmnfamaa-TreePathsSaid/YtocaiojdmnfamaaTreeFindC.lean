/-
  Contracts of layer 3's kid and Find: the line of a path, or none; below the heap's size at the call the world is as it was. Condition: at most 2^30 lines, a path of at most 2^30 words.
-/
import Derived.Test.YtocaiojdmnfamaaTreeSubC
namespace Go.Proofs.Ytocaiojdmnfamaa.T
theorem RightT.no_more {t : List Ln} (h : RightT t) {i : Int} {k : Nat} (hik : i < k) (hs : k < t.length → dp t k < kidD t i) : ∀ m, k ≤ m → m < t.length → underL t m ≠ i := by
  intro m hm1 hm2 e
  obtain ⟨j, rfl⟩ : ∃ j, m = k + j := ⟨m - k, by omega⟩
  have hs := hs (by omega)
  rcases h.under (k + j) (by omega) with ⟨a1, a2⟩ | ⟨u, u1, u2, u3, u4⟩
  · unfold kidD at hs
    rw [if_pos (by omega)] at hs
    have := (h.deep k (by omega)).1; omega
  · unfold kidD at hs
    rw [if_neg (by omega)] at hs
    have hu : i.toNat = u := by omega
    rw [hu] at hs
    rcases Nat.eq_zero_or_pos j with rfl | hp
    · rw [Nat.add_zero] at u3; omega
    · have := u4 k (by omega) (by omega); omega
end Go.Proofs.Ytocaiojdmnfamaa.T
namespace Go.Proofs.Ytocaiojdmnfamaa
open Go.RowKit

def KidS (w : World) (t : List T.Ln) (i : Int) (s : List UInt8) (e : Ending) (w' : World) : Prop :=
  ((∃ k : Nat, k < t.length ∧ T.underL t k = i ∧ T.wd t k = s ∧ e = .returned (.tuple #[.int .i64 (k : Int), .bool true])) ∨ ((∀ k, k < t.length → T.underL t k = i → T.wd t k ≠ s) ∧ e = .returned (.tuple #[.int .i64 0, .bool false]))) ∧ Below w.heap.size w w'
def RelKd (w : World) (t : List T.Ln) (i : Int) (s : List UInt8) (g : Nat) (x : Value) (wr : World) : Prop :=
  ∃ k : Nat, k + g = t.length ∧ i < k ∧ x = .int .i64 k ∧ T.DeepTo t i k ∧ (∀ m, m < k → T.underL t m = i → T.wd t m ≠ s) ∧ w = wr

set_option maxRecDepth 100000 in
set_option maxHeartbeats 1000000 in
theorem kid_any (A : Option Addr) (c : Nat) (t : List T.Ln) (i d : Int) (s : List UInt8) (w : World) (hA : Seen eL w A t) (hl : t.length ≤ 1073741824) (hi : -1 ≤ i) (hil : i < t.length) (hR : T.RightT t) (hd : T.kidD t i = d) :
    Calls Try.prog 34 #[.slice A t.length c, .int .i64 i, .int .i64 d, .string (sB s)] w (KidS w t i s) := by
  have HA := Lib.hid hA
  have HR := Lib.hid hR
  have HD := Lib.hid hd
  clear hA hR hd
  go_enter Try.func34, Try.ntmps34
  go_wp2
  go_loopg [10] (t.length - (i + 1).toNat) (fun g x wr => RelKd w t i s g x wr)
  case atStart => exact ⟨(i + 1).toNat, by omega, by omega, by congr 1; omega, (fun m h1 h2 => by omega), (fun m h1 h2 => by have := T.under_lt t m; omega), rfl⟩
  case round =>
    obtain ⟨k, hg, hik, rfl, hdt, hno, rfl⟩ := hrel
    have HG := Lib.hid hg
    have HT := Lib.hid hdt
    have HX := Lib.hid hno
    clear hg hdt hno
    by_cases hlt : k < t.length
    · have blt : decide ((k : Int) < (t.length : Int)) = true := decide_eq_true (by omega)
      obtain ⟨b, o, rfl, hbw, hL⟩ := HA.out.lines (by omega)
      obtain ⟨c0, c1, _⟩ := hL.line hlt
      clear hL
      have hdk := HR.out.deep k hlt
      by_cases hge : d ≤ T.dp t k
      · have bge : decide (d ≤ T.dp t k) = true := decide_eq_true hge
        have HTN := Lib.hid (HT.out.next (by rw [HD.out]; exact hge))
        have hiff := HR.out.kid_iff hi hik hlt HT.out
        rw [HD.out] at hiff
        by_cases heq : T.dp t k = d
        · by_cases hw : T.wd t k = s
          · have HN := Lib.hid (show T.underL t k = i ∧ T.wd t k = s from ⟨hiff.2 heq, hw⟩)
            rw [heq] at c0 bge
            rw [hw] at c1
            clear hge hiff heq hw
            go_wp2
            go_ret2
            exact ⟨.inl ⟨k, hlt, HN.out.1, HN.out.2, rfl⟩, Below.refl _ _⟩
          · have bw := sB_ne hw
            have HN := Lib.hid (to_next HX.out (fun _ => hw))
            rw [heq] at c0 bge
            clear hge hiff heq hw
            go_wp2
            go_roundg (t.length - (k + 1))
            case rel => exact ⟨k + 1, by omega, by omega, by go_num, HTN.out, HN.out, rfl⟩
            case measure => have := HG.out; omega
        · have beq : (T.dp t k == d) = false := beq_eq_false_iff_ne.2 heq
          have HN := Lib.hid (to_next HX.out (fun h => absurd (hiff.1 h) heq))
          clear hge hiff heq
          go_wp2
          go_roundg (t.length - (k + 1))
          case rel => exact ⟨k + 1, by omega, by omega, by go_num, HTN.out, HN.out, rfl⟩
          case measure => have := HG.out; omega
      · have bge : decide (d ≤ T.dp t k) = false := decide_eq_false hge
        have HN := Lib.hid (HR.out.no_more hik (fun _ => by rw [HD.out]; omega))
        clear hge
        go_wp2
        go_ret2
        refine ⟨.inr ⟨fun m h1 h2 => ?_, rfl⟩, Below.refl _ _⟩
        rcases Nat.lt_or_ge m k with h | h
        · exact HX.out m h h2
        · exact absurd h2 (HN.out m h h1)
    · have blt : decide ((k : Int) < (t.length : Int)) = false := decide_eq_false (by omega)
      go_wp2
      go_ret2
      exact ⟨.inr ⟨fun m h1 h2 => HX.out m (by omega) h2, rfl⟩, Below.refl _ _⟩

def FindS (w : World) (t : List T.Ln) (p : List (List UInt8)) (e : Ending) (w' : World) : Prop :=
  ((∃ i : Nat, i < t.length ∧ T.pathL t i = p ∧ e = .returned (.tuple #[.int .i64 (i : Int), .bool true])) ∨ ((∀ i, i < t.length → T.pathL t i ≠ p) ∧ e = .returned (.tuple #[.int .i64 0, .bool false]))) ∧ Below w.heap.size w w'
theorem find_wrong (A B : Option Addr) (c d : Nat) (t : List T.Ln) (n : Nat) (w : World) (hA : Seen eL w A t) (hl : t.length ≤ 1073741824) (hR : ¬ T.RightT t) :
    Calls Try.prog 27 #[.slice A t.length c, .slice B n d] w (fun e w' => e = .returned (.tuple #[.int .i64 0, .bool false]) ∧ Below w.heap.size w w') := by
  have HA := Lib.hid hA
  have HR := Lib.hid hR
  clear hA hR
  by_cases h0 : n = 0
  · subst h0
    go_enter Try.func27, Try.ntmps27
    go_wp2
    go_ret2
    exact ⟨rfl, Below.refl _ _⟩
  · have b0 : ((n : Int) == 0) = false := beq_eq_false_iff_ne.2 (by omega)
    clear h0
    go_enter Try.func27, Try.ntmps27
    go_wp2_with fail
    refine (right_is A c t false _ HA.out hl (no_iff HR.out)).mono ?_
    rintro e w1 ⟨rfl, hb1⟩
    go_wp2
    go_ret2
    exact ⟨rfl, hb1⟩
theorem find_empty (A B : Option Addr) (c d : Nat) (t : List T.Ln) (w : World) :
    Calls Try.prog 27 #[.slice A t.length c, .slice B 0 d] w (FindS w t []) := by
  go_enter Try.func27, Try.ntmps27
  go_wp2
  go_ret2
  exact ⟨.inr ⟨fun i _ => T.path_ne, rfl⟩, Below.refl _ _⟩
def RelFd (w : World) (t : List T.Ln) (p : List (List UInt8)) (g : Nat) (a x : Value) (wr : World) : Prop :=
  ∃ (d : Nat) (at' : Int), d + g = p.length ∧ x = .int .i64 d ∧ a = .int .i64 at' ∧ -1 ≤ at' ∧ at' < t.length ∧ T.pathI t at' = p.take d ∧ Below w.heap.size w wr

set_option maxRecDepth 100000 in
set_option maxHeartbeats 1000000 in
theorem find_any (A B : Option Addr) (c cd : Nat) (t : List T.Ln) (p : List (List UInt8)) (w : World) (hA : Seen eL w A t) (hB : Seen eS w B p) (hl : t.length ≤ 1073741824) (hp : p.length ≤ 1073741824) (hR : T.RightT t) :
    Calls Try.prog 27 #[.slice A t.length c, .slice B p.length cd] w (FindS w t p) := by
  by_cases h0 : p.length = 0
  · obtain rfl := List.eq_nil_of_length_eq_zero h0
    exact find_empty A B c cd t w
  have b0 : ((p.length : Int) == 0) = false := beq_eq_false_iff_ne.2 (by omega)
  obtain ⟨b, o, rfl, hbw, hL⟩ := hB (by omega)
  have HL := Lib.hid hL
  have HA := Lib.hid hA
  have HR := Lib.hid hR
  have HZ := Lib.hid h0
  clear hA hB hL hR h0
  go_enter Try.func27, Try.ntmps27
  go_wp2_with fail
  refine (right_is A c t true _ HA.out hl (yes_iff HR.out)).mono ?_
  rintro e w1 ⟨rfl, hb1⟩
  go_wp2
  go_loopg [6, 21] p.length (fun g a x wr => RelFd w t p g a x wr)
  case atStart => exact ⟨0, -1, Nat.zero_add _, rfl, rfl, by omega, by omega, by rw [T.pathI_none]; rfl, hb1⟩
  case round =>
    obtain ⟨d, at', hg, rfl, rfl, ha1, ha2, hpa, hb⟩ := hrel
    have HG := Lib.hid hg
    have HP := Lib.hid hpa
    clear hg hpa
    by_cases hlt : d < p.length
    · have c1 := (HL.out.below hb hbw).str hlt
      have HK := Lib.hid (HR.out.kidD_path (d := d) ⟨ha1, ha2⟩ (by rw [HP.out, List.length_take]; omega))
      go_wp2_with fail
      refine (kid_any A c t at' d p[d] _ (HA.out.below hb) hl ha1 ha2 HR.out HK.out).mono ?_
      rintro e w2 ⟨he, hb2⟩
      have HE := Lib.hid he
      clear he
      rcases HE.out with ⟨k, hk, hku, hkw, rfl⟩ | ⟨hno, rfl⟩
      · have HN := Lib.hid (T.find_next hlt HP.out hku hkw)
        clear HE hku hkw
        go_wp2
        go_roundg (p.length - (d + 1))
        case rel => exact ⟨d + 1, k, by omega, by go_num, rfl, by omega, by omega, HN.out, bthen hb hb2⟩
        case measure => have := HG.out; omega
      · have HN := Lib.hid (HR.out.find_none hlt HP.out ⟨ha1, ha2⟩ hno)
        clear HE hno
        go_wp2
        go_ret2
        exact ⟨.inr ⟨HN.out, rfl⟩, bthen hb hb2⟩
    · have hdl : d = p.length := by have := HG.out; omega
      have HN := Lib.hid (show T.pathI t at' = p by rw [HP.out, hdl, List.take_length])
      by_cases hn : at' < 0
      · exact absurd HN.out (by intro h; unfold T.pathI at h; rw [if_pos hn] at h; subst h; exact HZ.out rfl)
      · obtain ⟨k, rfl⟩ := Int.eq_ofNat_of_zero_le (show 0 ≤ at' by omega)
        go_wp2
        go_ret2
        exact ⟨.inl ⟨k, by omega, by rw [← T.pathI_nat]; exact HN.out, rfl⟩, hb⟩
/-- The line of a path that one has. -/
theorem find_some (A B : Option Addr) (c cd : Nat) (t : List T.Ln) (i : Nat) (p : List (List UInt8)) (w : World) (hA : Seen eL w A t) (hB : Seen eS w B p) (hl : t.length ≤ 1073741824) (hp : p.length ≤ 1073741824) (hR : T.RightT t) (hi : i < t.length) (h : T.pathL t i = p) :
    Calls Try.prog 27 #[.slice A t.length c, .slice B p.length cd] w (fun e w' => e = .returned (.tuple #[.int .i64 (i : Int), .bool true]) ∧ Below w.heap.size w w') :=
  (find_any A B c cd t p w hA hB hl hp hR).mono fun e w' ⟨he, hb⟩ => by
    rcases he with ⟨k, hk, hkp, rfl⟩ | ⟨hno, _⟩
    · rw [hR.path_inj (max k i) k i (Nat.le_max_left ..) (Nat.le_max_right ..) hk hi (by rw [hkp, h])]
      exact ⟨rfl, hb⟩
    · exact absurd h (hno i hi)
theorem find_not (A B : Option Addr) (c cd : Nat) (t : List T.Ln) (p : List (List UInt8)) (w : World) (hA : Seen eL w A t) (hB : Seen eS w B p) (hl : t.length ≤ 1073741824) (hp : p.length ≤ 1073741824) (hR : T.RightT t) (h : ∀ i, i < t.length → T.pathL t i ≠ p) :
    Calls Try.prog 27 #[.slice A t.length c, .slice B p.length cd] w (fun e w' => e = .returned (.tuple #[.int .i64 0, .bool false]) ∧ Below w.heap.size w w') :=
  (find_any A B c cd t p w hA hB hl hp hR).mono fun e w' ⟨he, hb⟩ => by
    rcases he with ⟨k, hk, hkp, rfl⟩ | ⟨_, he⟩
    · exact absurd hkp (h k hk)
    · exact ⟨he, hb⟩
end Go.Proofs.Ytocaiojdmnfamaa
