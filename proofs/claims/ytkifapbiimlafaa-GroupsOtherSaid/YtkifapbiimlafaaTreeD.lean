/-
  Contract of layer 3's Path: the path of a line, or ErrArg; below the heap's size at the call the world is as it was. Condition: at most 2^30 lines.
  Contracts of layer 3's Kids and Leaves: the places that the plain definitions say, or none; below the heap's size at the call the world is as it was. Condition: at most 2^30 lines.
  Contract of layer 3's Sub: the part that the plain definition says, or none; below the heap's size at the call the world is as it was. Condition: at most 2^30 lines.
  Contracts of the document's Path, Find and Kids (layer 3): what the plain definitions say; below the heap's size at the call the world is as it was. Condition: a tree where it says so, at most 2^30 lines.
  Contract of the document's Sub (layer 3): the part that the plain definition says; below the heap's size at the call the world is as it was. Condition: a tree, a place of a line, at most 2^30 lines.
  Contracts of layer 3's kid and Find: the line of a path, or none; below the heap's size at the call the world is as it was. Condition: at most 2^30 lines, a path of at most 2^30 words.
-/
import Derived.Test.YtkifapbiimlafaaTreeC
import Derived.Test.YtkifapbiimlafaaPureT
import Derived.BigRegion

namespace Go.Proofs.Ytkifapbiimlafaa
open Go.RowKit

/-- A path comes back, in memory of the call's own. -/
def FreshP (w : World) (l : List (List UInt8)) (e : Ending) (w' : World) : Prop := ∃ A cap, e = .returned (.slice A l.length cap) ∧ l.length ≤ cap ∧ Seen eS w' A l ∧ (∀ a, A = some a → w.heap.size ≤ a.block) ∧ Below w.heap.size w w'
def FreshE (w : World) (l : List (List UInt8)) (er : Int) (e : Ending) (w' : World) : Prop := ∃ A cap, e = .returned (.tuple #[.slice A l.length cap, .int .i64 er]) ∧ l.length ≤ cap ∧ Seen eS w' A l ∧ (∀ a, A = some a → w.heap.size ≤ a.block) ∧ Below w.heap.size w w'
/-- What Path leaves. -/
def PathS (w : World) (l : List (List UInt8)) (er : Int) (e : Ending) (w' : World) : Prop := ∃ A cap, e = .returned (.tuple #[.slice A l.length cap, .int .i64 er]) ∧ l.length ≤ cap ∧ Seen eS w' A l ∧ Below w.heap.size w w'
theorem Path_no (A : Option Addr) (c : Nat) (t : List T.Ln) (i : Int) (w : World) (hA : Seen eL w A t) (hl : t.length ≤ 1073741824) (h : i < 0 ∨ (t.length : Int) ≤ i ∨ ¬ T.RightT t) :
    Calls Try.prog 25 #[.slice A t.length c, .int .i64 i] w (PathS w [] 1) := by
  have HR := Lib.hid h
  have HA := Lib.hid hA
  clear h hA
  go_enter Try.func25, Try.ntmps25
  go_wp2_with fail
  refine (has_no A c t i _ HA.out hl HR.out).mono ?_
  rintro e w1 ⟨rfl, hb1⟩
  go_wp2
  go_ret2
  exact ⟨none, 0, rfl, Nat.le_refl _, Seen.nil, hb1⟩

theorem str_info : (Try.prog.info? 9).map (fun i => (i.zero, i.size, i.bytes)) = some (some (.string ⟨#[]⟩), 1, 16) := by kernel_rfl
/-- A row of strings is seen. -/
theorem row_seen {w : World} {g : Nat} {l : List (List UInt8)} {F : Nat → List UInt8} (h : w.rowIs g 9 l.length (fun d => .string (sB (F d)))) (hF : ∀ d, d < l.length → F d = l.getD d []) : Seen eS w (some ⟨g, 0, none⟩) l := by
  intro _
  refine ⟨g, 0, rfl, h.lt, fun i hi j u hu => ?_⟩
  match j, hu with
  | 0, hu =>
    simp only [eS, List.getElem?_cons_zero, Option.some.injEq] at hu ⊢
    rw [← hu, Nat.zero_add, Nat.mul_one, Nat.add_zero, h.cell hi, hF i hi]
    unfold List.getD
    rw [List.getElem?_eq_getElem hi]; rfl
  | j + 1, hu => simp [eS] at hu
theorem row_path {w : World} {g n d : Nat} {F : Nat → List UInt8} (h : w.rowIs g 9 n (fun d => .string (sB (F d)))) (s : List UInt8) :
    (w.setCell ⟨g, d, none⟩ (.string (sB s))).rowIs g 9 n (fun x => .string (sB (if x = d then s else F x))) := by
  refine (h.set d (.string (sB s))).congr fun i _ => ?_
  by_cases hi : i = d
  · simp [hi]
  · simp [hi]

def RelPa (w : World) (t : List T.Ln) (p : List (List UInt8)) (g n : Nat) (x : Value) (wr : World) : Prop :=
  ∃ (j : Int) (F : Nat → List UInt8), x = .int .i64 j ∧ j < n ∧ T.Laid t p j F ∧ wr.rowIs g 9 p.length (fun d => .string (sB (F d))) ∧ w.heap.size ≤ g ∧ Below w.heap.size w wr

set_option maxRecDepth 100000 in
set_option maxHeartbeats 1000000 in
theorem Path_new (A : Option Addr) (c : Nat) (t : List T.Ln) (i : Nat) (w : World) (hA : Seen eL w A t) (hl : t.length ≤ 1073741824) (hi : i < t.length) (hR : T.RightT t) :
    Calls Try.prog 25 #[.slice A t.length c, .int .i64 i] w (FreshE w (T.pathL t i) 0) := by
  obtain ⟨p, hp⟩ : ∃ p, T.pathL t i = p := ⟨_, rfl⟩
  have hlen := hR.path_len i i (Nat.le_refl _) hi
  have hdp := hR.deep i hi
  rw [hp] at hlen
  obtain ⟨b, o, rfl, hbw, hL⟩ := hA.lines (by omega)
  obtain ⟨e, he⟩ := Int.eq_ofNat_of_zero_le hdp.1
  have hpl : p.length = e + 1 := by omega
  have he15 : e ≤ 15 := by omega
  have HPL := Lib.hid hpl
  have HP := Lib.hid hp
  have HR := Lib.hid hR
  have HA := Lib.hid hA
  have HL := Lib.hid hL
  have HE := Lib.hid he
  have hmk := run_make_row' (P := Try.prog) 41 9 (.string ⟨#[]⟩) 16 Try.underlying41 str_info rfl .i64 .i64 (e + 1) (by omega) (by omega)
  have ec : ((e + 1 : Nat) : Int) = (e : Int) + 1 := by omega
  rw [ec] at hmk
  clear ec hp hR hA hL he hdp hlen hpl
  rw [HP.out]
  go_enter Try.func25, Try.ntmps25
  go_wp2_with fail
  refine (has_yes _ c t i _ HA.out hl hi HR.out).mono ?_
  rintro x w1 ⟨rfl, hb1⟩
  have hbw1 : b < w1.heap.size := Nat.lt_of_lt_of_le hbw hb1.size
  obtain ⟨c0, _, _⟩ := (HL.out.below hb1 hbw).line hi
  rw [HE.out] at c0
  go_wp2
  go_loopg [1] (i + 1) (fun g x wr => RelPa w t p w1.heap.size g x wr)
  case atStart => exact ⟨i, fun _ => [], rfl, by omega, by rw [← HP.out]; exact T.Laid.start t i hi _, by rw [HPL.out]; exact World.rowIs_made w1 (.string ⟨#[]⟩) (e + 1) 9, hb1.size, hb1.alloc hb1.size _⟩
  case round =>
    obtain ⟨j, F, rfl, hjg, hLd, hrow, hgw, hb⟩ := hrel
    have hgr := hrow.lt
    by_cases hj : 0 ≤ j
    · obtain ⟨k, rfl⟩ := Int.eq_ofNat_of_zero_le hj
      have hkl : k < t.length := by have := hLd.2.1; omega
      have hdk := HR.out.deep k hkl
      obtain ⟨d, hd⟩ := Int.eq_ofNat_of_zero_le hdk.1
      obtain ⟨hdl, hLn⟩ := HR.out.laid hLd hd
      have hde : d < e + 1 := by have := HPL.out; omega
      obtain ⟨q0, q1, _⟩ := (HL.out.below hb hbw).line hkl
      rw [hd] at q0
      have qc : wr.cell? ⟨w1.heap.size, d, none⟩ = some (.string (sB (F d))) := hrow.cell hdl
      have qf : wr.frozen? ⟨w1.heap.size, d, none⟩ = false := hrow.frozen d
      have HLn := Lib.hid hLn
      have HW := Lib.hid (row_path (d := d) hrow (T.wd t k))
      clear hLd hrow hd hdk hLn
      go_wp2
      go_region
      go_wp2_with fail
      refine (under_any _ c t k _ (HA.out.below (((hb.setCell hgw _)).drew)) hkl hl).mono ?_
      rintro x w2 ⟨rfl, hb2⟩
      go_wp2
      have hun := T.under_lt t k
      go_roundg k
      case rel => exact ⟨T.underL t k, _, rfl, by omega, HLn.out, HW.out.of_block (hb2.block _ (by simp; omega)), hgw, (hb.setCell hgw _).drew.trans (hb2.mono (by simp; omega))⟩
      case measure => omega
    · have hj1 : j = -1 := by have := hLd.1; omega
      subst hj1
      have HN := Lib.hid hLd.done
      have HW := Lib.hid hrow
      clear hLd hrow
      go_wp2
      go_ret2
      refine ⟨_, e + 1, ?_, by rw [HPL.out]; exact Nat.le_refl _, row_seen HW.out HN.out, fun a ha => by injection ha with ha; rw [← ha]; exact hgw, hb⟩
      rw [HPL.out]; rfl
theorem Path_yes (A : Option Addr) (c : Nat) (t : List T.Ln) (i : Nat) (w : World) (hA : Seen eL w A t) (hl : t.length ≤ 1073741824) (hi : i < t.length) (hR : T.RightT t) :
    Calls Try.prog 25 #[.slice A t.length c, .int .i64 i] w (PathS w (T.pathL t i) 0) :=
  (Path_new A c t i w hA hl hi hR).mono fun _ _ ⟨B, cap, h1, h2, h3, _, h5⟩ => ⟨B, cap, h1, h2, h3, h5⟩
end Go.Proofs.Ytkifapbiimlafaa

namespace Go.Proofs.Ytkifapbiimlafaa
open Go.RowKit

theorem kids_no (A : Option Addr) (c : Nat) (t : List T.Ln) (i : Int) (w : World) (hA : Seen eL w A t) (hl : t.length ≤ 1073741824) (h : i < -1 ∨ (t.length : Int) ≤ i ∨ ¬ T.RightT t) :
    Calls Try.prog 52 #[.slice A t.length c, .int .i64 i] w (SawG eI w []) := by
  have HA := Lib.hid hA
  clear hA
  by_cases hR : T.RightT t
  · have HR := Lib.hid hR
    by_cases h1 : i < -1
    · have b1 : decide (i < (-1 : Int)) = true := decide_eq_true h1
      clear hR h
      go_enter Try.func52, Try.ntmps52
      go_wp2_with fail
      refine (right_is A c t true _ HA.out hl (yes_iff HR.out)).mono ?_
      rintro e w1 ⟨rfl, hb1⟩
      go_wp2
      go_ret
      exact ⟨none, 0, rfl, Nat.le_refl _, Seen.nil, hb1⟩
    · have b1 : decide (i < (-1 : Int)) = false := decide_eq_false h1
      have b2 : decide ((t.length : Int) ≤ i) = true := decide_eq_true (by rcases h with h | h | h <;> first | omega | exact absurd hR h)
      clear hR h
      go_enter Try.func52, Try.ntmps52
      go_wp2_with fail
      refine (right_is A c t true _ HA.out hl (yes_iff HR.out)).mono ?_
      rintro e w1 ⟨rfl, hb1⟩
      go_wp2
      go_ret
      exact ⟨none, 0, rfl, Nat.le_refl _, Seen.nil, hb1⟩
  · have HR := Lib.hid hR
    clear hR h
    go_enter Try.func52, Try.ntmps52
    go_wp2_with fail
    refine (right_is A c t false _ HA.out hl (no_iff HR.out)).mono ?_
    rintro e w1 ⟨rfl, hb1⟩
    go_wp2
    go_ret
    exact ⟨none, 0, rfl, Nat.le_refl _, Seen.nil, hb1⟩

def RelK (w : World) (t : List T.Ln) (i : Int) (g : Nat) (v x : Value) (wr : World) : Prop :=
  ∃ k : Nat, k + g = t.length ∧ i < k ∧ x = .int .i64 k ∧ T.DeepTo t i k ∧ Own eI wr w.heap.size v (T.kidsTo t i k) ∧ Below w.heap.size w wr

set_option maxRecDepth 100000 in
set_option maxHeartbeats 1000000 in
theorem kids_yes (A : Option Addr) (c : Nat) (t : List T.Ln) (i : Int) (w : World) (hA : Seen eL w A t) (hl : t.length ≤ 1073741824) (hi : -1 ≤ i) (hil : i < t.length) (hR : T.RightT t) :
    Calls Try.prog 52 #[.slice A t.length c, .int .i64 i] w (SawG eI w (T.kidsL t i)) := by
  have b1 : decide (i < (-1 : Int)) = false := decide_eq_false (by omega)
  have b2 : decide ((t.length : Int) ≤ i) = false := decide_eq_false (by omega)
  have HA := Lib.hid hA
  have HR := Lib.hid hR
  clear hA hR
  by_cases h0 : 0 ≤ i
  · have b3 : decide ((0 : Int) ≤ i) = true := decide_eq_true h0
    obtain ⟨n, rfl⟩ := Int.eq_ofNat_of_zero_le h0
    have b4 : decide (t.length ≤ n) = false := decide_eq_false (by omega)
    obtain ⟨b, o, rfl, hbw, hL⟩ := HA.out.lines (by omega)
    have HL := Lib.hid hL
    have hdn := HR.out.deep n (by omega)
    have HD := Lib.hid (show T.kidD t n = T.dp t n + 1 by unfold T.kidD; rw [if_neg (by omega), Int.toNat_natCast])
    clear hL
    go_enter Try.func52, Try.ntmps52
    go_wp2_with fail
    refine (right_is _ c t true _ HA.out hl (yes_iff HR.out)).mono ?_
    rintro e w1 ⟨rfl, hb1⟩
    obtain ⟨d0, _, _⟩ := (HL.out.below hb1 hbw).line (show n < t.length by omega)
    go_wp2
    go_loopg [6, 7] (t.length - (n + 1)) (fun g v x wr => RelK w t n g v x wr)
    case atStart => exact ⟨n + 1, by omega, by omega, by go_num, (fun m h1 h2 => by omega), by rw [T.kids_start t n (n + 1) (by omega)]; exact Own.nil _ _, hb1⟩
    case round =>
      obtain ⟨k, hg, hik, rfl, hdt, hown, hb⟩ := hrel
      have HG := Lib.hid hg
      have HT := Lib.hid hdt
      have hfl := T.filter_len k (fun m => T.underL t m == n)
      have HO := Lib.hid hown
      clear hg hdt hown
      have hsz := hb.size
      by_cases hlt : k < t.length
      · have blt : decide ((k : Int) < (t.length : Int)) = true := decide_eq_true (by omega)
        obtain ⟨c0, _, _⟩ := (HL.out.below hb hbw).line hlt
        by_cases hge : T.dp t n + 1 ≤ T.dp t k
        · have bge : decide (T.dp t n + 1 ≤ T.dp t k) = true := decide_eq_true hge
          have HTN := Lib.hid (HT.out.next (by rw [HD.out]; exact hge))
          have hiff := HR.out.kid_iff hi hik hlt HT.out
          rw [HD.out] at hiff
          by_cases heq : T.dp t k = T.dp t n + 1
          · have HN := Lib.hid (show T.kidsTo t n (k + 1) = T.kidsTo t n k ++ [k] by rw [T.kids_next, if_pos (hiff.2 heq)])
            rw [heq] at c0 bge
            clear hge hiff heq
            have hown2 := HO.out
            go_wp2_with (at_builtin; refine wpList_appG eI _ rfl (.tmp 53) (.tmp 55) rfl w.heap.size u6 (T.kidsTo t n k) rfl hown2 k 1 _ rfl wr.heap.size rfl rfl (by unfold T.kidsTo; omega) hsz ?_; intro v2 w2 hown3 hb2)
            go_roundg (t.length - (k + 1))
            case rel => exact ⟨k + 1, by omega, by omega, by go_num, HTN.out, by rw [HN.out]; exact hown3, hb.trans hb2⟩
            case measure => have := HG.out; omega
          · have beq : (T.dp t k == T.dp t n + 1) = false := beq_eq_false_iff_ne.2 heq
            have HN := Lib.hid (show T.kidsTo t n (k + 1) = T.kidsTo t n k by rw [T.kids_next, if_neg (fun h => heq (hiff.1 h)), List.append_nil])
            clear hge hiff heq
            go_wp2
            go_roundg (t.length - (k + 1))
            case rel => exact ⟨k + 1, by omega, by omega, by go_num, HTN.out, by rw [HN.out]; exact HO.out, hb⟩
            case measure => have := HG.out; omega
        · have bge : decide (T.dp t n + 1 ≤ T.dp t k) = false := decide_eq_false hge
          have HN := Lib.hid (HR.out.kids_done hi hik (by omega) (fun _ => by rw [HD.out]; omega))
          clear hge
          go_wp2
          go_ret
          obtain ⟨A2, cap, rfl, hcap, hseen⟩ := HO.out.seen
          rw [HN.out] at hcap hseen ⊢
          exact ⟨A2, cap, rfl, hcap, hseen, hb⟩
      · have blt : decide ((k : Int) < (t.length : Int)) = false := decide_eq_false (by omega)
        have HN := Lib.hid (HR.out.kids_done hi hik (by have := HG.out; omega) (fun h => absurd h hlt))
        go_wp2
        go_ret
        obtain ⟨A2, cap, rfl, hcap, hseen⟩ := HO.out.seen
        rw [HN.out] at hcap hseen ⊢
        exact ⟨A2, cap, rfl, hcap, hseen, hb⟩
  · have b3 : decide ((0 : Int) ≤ i) = false := decide_eq_false h0
    obtain rfl : i = -1 := by omega
    have HD := Lib.hid (show T.kidD t (-1) = 0 by unfold T.kidD; rw [if_pos (by omega)])
    go_enter Try.func52, Try.ntmps52
    go_wp2_with fail
    refine (right_is _ c t true _ HA.out hl (yes_iff HR.out)).mono ?_
    rintro e w1 ⟨rfl, hb1⟩
    go_wp2
    go_loopg [6, 7] t.length (fun g v x wr => RelK w t (-1) g v x wr)
    case atStart => exact ⟨0, by omega, by omega, rfl, (fun m h1 h2 => by omega), by rw [T.kids_start t (-1) 0 (by omega)]; exact Own.nil _ _, hb1⟩
    case round =>
      obtain ⟨k, hg, hik, rfl, hdt, hown, hb⟩ := hrel
      have HG := Lib.hid hg
      have HT := Lib.hid hdt
      have hfl := T.filter_len k (fun m => T.underL t m == -1)
      have HO := Lib.hid hown
      clear hg hdt hown
      have hsz := hb.size
      by_cases hlt : k < t.length
      · have blt : decide ((k : Int) < (t.length : Int)) = true := decide_eq_true (by omega)
        obtain ⟨b, o, rfl, hbw, hL⟩ := HA.out.lines (by omega)
        obtain ⟨c0, _, _⟩ := (hL.below hb hbw).line hlt
        clear hL
        by_cases hge : 0 ≤ T.dp t k
        · have bge : decide (0 ≤ T.dp t k) = true := decide_eq_true hge
          have HTN := Lib.hid (HT.out.next (by rw [HD.out]; exact hge))
          have hiff := HR.out.kid_iff hi hik hlt HT.out
          rw [HD.out] at hiff
          by_cases heq : T.dp t k = 0
          · have HN := Lib.hid (show T.kidsTo t (-1) (k + 1) = T.kidsTo t (-1) k ++ [k] by rw [T.kids_next, if_pos (hiff.2 heq)])
            rw [heq] at c0 bge
            clear hge hiff heq
            have hown2 := HO.out
            go_wp2_with (at_builtin; refine wpList_appG eI _ rfl (.tmp 53) (.tmp 55) rfl w.heap.size u6 (T.kidsTo t (-1) k) rfl hown2 k 1 _ rfl wr.heap.size rfl rfl (by unfold T.kidsTo; omega) hsz ?_; intro v2 w2 hown3 hb2)
            go_roundg (t.length - (k + 1))
            case rel => exact ⟨k + 1, by omega, by omega, by go_num, HTN.out, by rw [HN.out]; exact hown3, hb.trans hb2⟩
            case measure => have := HG.out; omega
          · have beq : (T.dp t k == 0) = false := beq_eq_false_iff_ne.2 heq
            have HN := Lib.hid (show T.kidsTo t (-1) (k + 1) = T.kidsTo t (-1) k by rw [T.kids_next, if_neg (fun h => heq (hiff.1 h)), List.append_nil])
            clear hge hiff heq
            go_wp2
            go_roundg (t.length - (k + 1))
            case rel => exact ⟨k + 1, by omega, by omega, by go_num, HTN.out, by rw [HN.out]; exact HO.out, hb⟩
            case measure => have := HG.out; omega
        · have bge : decide (0 ≤ T.dp t k) = false := decide_eq_false hge
          have HN := Lib.hid (HR.out.kids_done hi hik (by omega) (fun _ => by rw [HD.out]; omega))
          clear hge
          go_wp2
          go_ret
          obtain ⟨A2, cap, rfl, hcap, hseen⟩ := HO.out.seen
          rw [HN.out] at hcap hseen ⊢
          exact ⟨A2, cap, rfl, hcap, hseen, hb⟩
      · have blt : decide ((k : Int) < (t.length : Int)) = false := decide_eq_false (by omega)
        have HN := Lib.hid (HR.out.kids_done hi hik (by have := HG.out; omega) (fun h => absurd h hlt))
        go_wp2
        go_ret
        obtain ⟨A2, cap, rfl, hcap, hseen⟩ := HO.out.seen
        rw [HN.out] at hcap hseen ⊢
        exact ⟨A2, cap, rfl, hcap, hseen, hb⟩

theorem leaves_no (A : Option Addr) (c : Nat) (t : List T.Ln) (w : World) (hA : Seen eL w A t) (hl : t.length ≤ 1073741824) (h : ¬ T.RightT t) :
    Calls Try.prog 57 #[.slice A t.length c] w (SawG eI w []) := by
  have HA := Lib.hid hA
  have HR := Lib.hid h
  clear hA h
  go_enter Try.func57, Try.ntmps57
  go_wp2_with fail
  refine (right_is A c t false _ HA.out hl (no_iff HR.out)).mono ?_
  rintro e w1 ⟨rfl, hb1⟩
  go_wp2
  go_ret
  exact ⟨none, 0, rfl, Nat.le_refl _, Seen.nil, hb1⟩
def RelLv (w : World) (t : List T.Ln) (g : Nat) (v x : Value) (wr : World) : Prop :=
  ∃ k : Nat, k + g = t.length ∧ x = .int .i64 k ∧ Own eI wr w.heap.size v (T.leavesTo t k) ∧ Below w.heap.size w wr
set_option maxRecDepth 100000 in
set_option maxHeartbeats 1000000 in
theorem leaves_yes (A : Option Addr) (c : Nat) (t : List T.Ln) (w : World) (hA : Seen eL w A t) (hl : t.length ≤ 1073741824) (hR : T.RightT t) :
    Calls Try.prog 57 #[.slice A t.length c] w (SawG eI w (T.leavesL t)) := by
  have HA := Lib.hid hA
  have HR := Lib.hid hR
  clear hA hR
  go_enter Try.func57, Try.ntmps57
  go_wp2_with fail
  refine (right_is _ c t true _ HA.out hl (yes_iff HR.out)).mono ?_
  rintro e w1 ⟨rfl, hb1⟩
  go_wp2
  go_loopg [3, 10] t.length (fun g v x wr => RelLv w t g v x wr)
  case atStart => exact ⟨0, Nat.zero_add _, rfl, Own.nil _ _, hb1⟩
  case round =>
    obtain ⟨k, hg, rfl, hown, hb⟩ := hrel
    have HG := Lib.hid hg
    have HO := Lib.hid hown
    have hfl := T.filter_len k (T.leafB t)
    have hsz := hb.size
    clear hg hown
    by_cases hlt : k < t.length
    · obtain ⟨e, he⟩ : ∃ e, T.endL t k = e := ⟨_, rfl⟩
      have hspec := T.end_spec t k hlt
      rw [he] at hspec
      by_cases hleaf : e = k + 1
      · have HN := Lib.hid (show T.leavesTo t (k + 1) = T.leavesTo t k ++ [k] by rw [T.leaves_next, if_pos (by unfold T.leafB; rw [he, hleaf]; simp)])
        have HE := Lib.hid he
        subst hleaf
        clear he hspec
        go_wp2_with fail
        refine (end_any _ c t k _ (HA.out.below hb) hlt hl).mono ?_
        rintro x w2 ⟨rfl, hb2⟩
        rw [HE.out]
        have hown2 := HO.out.keep hb2
        have hs2 := hb2.size
        go_wp2_with (at_builtin; refine wpList_appG eI _ rfl (.tmp 19) (.tmp 21) rfl w.heap.size u3 (T.leavesTo t k) rfl hown2 k 1 _ rfl w2.heap.size rfl rfl (by unfold T.leavesTo; omega) (by omega) ?_; intro v2 w3 hown3 hb3)
        go_roundg (t.length - (k + 1))
        case rel => exact ⟨k + 1, by omega, by go_num, by rw [HN.out]; exact hown3, (hb.trans (hb2.mono hsz)).trans hb3⟩
        case measure => have := HG.out; omega
      · have HN := Lib.hid (show T.leavesTo t (k + 1) = T.leavesTo t k by rw [T.leaves_next, if_neg (by unfold T.leafB; rw [he]; simpa using hleaf), List.append_nil])
        have HE := Lib.hid he
        have be : ((e : Int) == (k : Int) + 1) = false := beq_eq_false_iff_ne.2 (by omega)
        clear he hspec hleaf
        go_wp2_with fail
        refine (end_any _ c t k _ (HA.out.below hb) hlt hl).mono ?_
        rintro x w2 ⟨rfl, hb2⟩
        rw [HE.out]
        go_wp2
        go_roundg (t.length - (k + 1))
        case rel => exact ⟨k + 1, by omega, by go_num, by rw [HN.out]; exact HO.out.keep hb2, hb.trans (hb2.mono hsz)⟩
        case measure => have := HG.out; omega
    · obtain rfl : k = t.length := by have := HG.out; omega
      go_wp2
      go_ret
      obtain ⟨A2, cap, rfl, hcap, hseen⟩ := HO.out.seen
      exact ⟨A2, cap, rfl, hcap, hseen, hb⟩
end Go.Proofs.Ytkifapbiimlafaa

namespace Go.Proofs.Ytkifapbiimlafaa
open Go.RowKit

def RelS (w : World) (t : List T.Ln) (i m g : Nat) (v x : Value) (wr : World) : Prop :=
  ∃ k : Nat, k + g = m ∧ x = .int .i64 k ∧ Own eL wr w.heap.size v ((T.subL t i).take k) ∧ Below w.heap.size w wr
/-- A line of a part, where it lies. -/
theorem Holds.lineFrom {w : World} {b o : Nat} {t : List T.Ln} (h : Holds eL w b o t) {i k : Nat} (hi : i + k < t.length) :
    w.cell? ⟨b, o + i * 3 + k * 3, none⟩ = some (.int .i64 (T.dp t (i + k))) ∧ w.cell? ⟨b, o + i * 3 + k * 3 + 1, none⟩ = some (.string (sB (T.wd t (i + k)))) ∧ w.cell? ⟨b, o + i * 3 + k * 3 + 2, none⟩ = some (.int .i64 (T.at_ t (i + k)).mark) := by
  have := h.line hi
  have e : o + (i + k) * 3 = o + i * 3 + k * 3 := by omega
  rw [e] at this
  exact this

end Go.Proofs.Ytkifapbiimlafaa

namespace Go.Proofs.Ytkifapbiimlafaa
open Go.RowKit

def RelKr (w : World) (t : List T.Ln) (i : Int) (g : Nat) (v x : Value) (wr : World) : Prop :=
  ∃ k : Nat, k + g = t.length ∧ x = .int .i64 k ∧ Own eI wr w.heap.size v (T.kidsTo t i k) ∧ Below w.heap.size w wr
set_option maxRecDepth 100000 in
set_option maxHeartbeats 1000000 in
theorem refKids_any (A : Option Addr) (c : Nat) (t : List T.Ln) (i : Int) (w : World) (hA : Seen eL w A t) (hl : t.length ≤ 1073741824) :
    Calls Try.prog 48 #[.slice A t.length c, .int .i64 i] w (SawG eI w (T.kidsL t i)) := by
  have HA := Lib.hid hA
  clear hA
  go_enter Try.func48, Try.ntmps48
  go_wp2
  go_loopg [5, 6] t.length (fun g v x wr => RelKr w t i g v x wr)
  case atStart => exact ⟨0, Nat.zero_add _, rfl, Own.nil _ _, Below.refl _ _⟩
  case round =>
    obtain ⟨k, hg, rfl, hown, hb⟩ := hrel
    have HG := Lib.hid hg
    have HO := Lib.hid hown
    have hfl := T.filter_len k (fun m => T.underL t m == i)
    have hsz := hb.size
    clear hg hown
    by_cases hlt : k < t.length
    · obtain ⟨u, hu⟩ : ∃ u, T.underL t k = u := ⟨_, rfl⟩
      by_cases hui : u = i
      · have HN := Lib.hid (show T.kidsTo t i (k + 1) = T.kidsTo t i k ++ [k] by rw [T.kids_next, if_pos (by rw [hu, hui])])
        have HU := Lib.hid hu
        subst hui
        clear hu
        go_wp2_with fail
        refine (refUnder_any _ c t k _ (HA.out.below hb) hlt hl).mono ?_
        rintro x w2 ⟨rfl, hb2⟩
        rw [HU.out]
        have hown2 := HO.out.keep hb2
        have hs2 := hb2.size
        go_wp2_with (at_builtin; refine wpList_appG eI _ rfl (.tmp 18) (.tmp 20) rfl w.heap.size u5 (T.kidsTo t u k) rfl hown2 k 1 _ rfl w2.heap.size rfl rfl (by unfold T.kidsTo; omega) (by omega) ?_; intro v2 w3 hown3 hb3)
        go_roundg (t.length - (k + 1))
        case rel => exact ⟨k + 1, by omega, by go_num, by rw [HN.out]; exact hown3, (hb.trans (hb2.mono hsz)).trans hb3⟩
        case measure => have := HG.out; omega
      · have HN := Lib.hid (show T.kidsTo t i (k + 1) = T.kidsTo t i k by rw [T.kids_next, if_neg (by rw [hu]; exact hui), List.append_nil])
        have HU := Lib.hid hu
        have bu : (u == i) = false := beq_eq_false_iff_ne.2 hui
        clear hu hui
        go_wp2_with fail
        refine (refUnder_any _ c t k _ (HA.out.below hb) hlt hl).mono ?_
        rintro x w2 ⟨rfl, hb2⟩
        rw [HU.out]
        go_wp2
        go_roundg (t.length - (k + 1))
        case rel => exact ⟨k + 1, by omega, by go_num, by rw [HN.out]; exact HO.out.keep hb2, hb.trans (hb2.mono hsz)⟩
        case measure => have := HG.out; omega
    · obtain rfl : k = t.length := by have := HG.out; omega
      go_wp2
      go_ret
      obtain ⟨A2, cap, rfl, hcap, hseen⟩ := HO.out.seen
      exact ⟨A2, cap, rfl, hcap, hseen, hb⟩

def RelPr (w : World) (t : List T.Ln) (p : List (List UInt8)) (n : Nat) (x v : Value) (wr : World) : Prop :=
  ∃ (j : Int) (acc : List (List UInt8)), x = .int .i64 j ∧ -1 ≤ j ∧ j < n ∧ j < t.length ∧ p = T.pathI t j ++ acc ∧ Own eS wr w.heap.size v acc ∧ Below w.heap.size w wr
theorem Own.base {α : Type} {E : Elem α} {w : World} {b1 b2 : Nat} {v : Value} {l : List α} (h : Own E w b1 v l) (hb : b2 ≤ b1) : Own E w b2 v l := by
  refine ⟨h.1, ?_⟩
  rcases h.2 with hn | ⟨g, cap, cur, rfl, hbg, rest⟩
  · exact .inl hn
  · exact .inr ⟨g, cap, cur, rfl, Nat.le_trans hb hbg, rest⟩
/-- What is owned: nothing, or cells. -/
theorem Own.src {α : Type} {E : Elem α} {w : World} {base : Nat} {v : Value} {l : List α} (h : Own E w base v l) : (v = .slice none 0 0 ∧ l = []) ∨ ∃ g cap, v = .slice (some ⟨g, 0, none⟩) l.length cap ∧ g < w.heap.size ∧ Holds E w g 0 l := by
  obtain ⟨A, cap, rfl, _, hs⟩ := h.seen
  rcases h.2 with ⟨e, hn⟩ | ⟨g, cap2, cur, e, hbg, hgg, _⟩
  · exact .inl ⟨e, List.eq_nil_of_length_eq_zero hn⟩
  · injection e with e1 e2 e3
    subst e1
    by_cases hl : 0 < l.length
    · obtain ⟨b, o, e, hb, hh⟩ := hs hl
      injection e with e
      injection e with e1 e2
      subst e1; subst e2
      exact .inr ⟨g, cap, rfl, hb, hh⟩
    · exact .inr ⟨g, cap, rfl, (Array.getElem?_eq_some_iff.1 hgg).1, fun i hi => absurd hi (by omega)⟩

set_option maxRecDepth 100000 in
set_option maxHeartbeats 1000000 in
theorem refPath_new {N : Nat} (A : Option Addr) (c : Nat) (t : List T.Ln) (i : Nat) (w : World) (hA : Seen eL w A t) (hl : t.length ≤ 1073741824) (hi : i < t.length) (hR : T.RightN N t) :
    Calls Try.prog 29 #[.slice A t.length c, .int .i64 i] w (FreshP w (T.pathL t i)) := by
  obtain ⟨p, hp⟩ : ∃ p, T.pathL t i = p := ⟨_, rfl⟩
  have hlen := hR.path_len i i (Nat.le_refl _) hi
  have hdp := hR.deep i hi
  rw [hp] at hlen
  have hpl : p.length ≤ 16 := by omega
  obtain ⟨b, o, rfl, hbw, hL⟩ := hA.lines (by omega)
  have HP := Lib.hid hp
  have HR := Lib.hid hR
  have HA := Lib.hid hA
  have HL := Lib.hid hL
  clear hp hR hA hL hdp hlen
  rw [HP.out]
  go_enter Try.func29, Try.ntmps29
  go_wp2
  go_loopg [1, 5] (i + 1) (fun g x v wr => RelPr w t p g x v wr)
  case atStart => exact ⟨i, [], rfl, by omega, by omega, by omega, by rw [T.pathI_nat, HP.out, List.append_nil], Own.nil _ _, Below.refl _ _⟩
  case round =>
    obtain ⟨j, acc, rfl, hj1, hj2, hj3, hpe, hown, hb⟩ := hrel
    have hal : acc.length ≤ 16 := by rw [hpe, List.length_append] at hpl; omega
    have HE := Lib.hid hpe
    have hsz := hb.size
    clear hpe
    by_cases hj : 0 ≤ j
    · obtain ⟨k, rfl⟩ := Int.eq_ofNat_of_zero_le hj
      have hkl : k < t.length := by omega
      obtain ⟨_, q1, _⟩ := (HL.out.below hb hbw).line hkl
      have hun := T.under_lt t k
      have HN := Lib.hid (show p = T.pathI t (T.underL t k) ++ ([T.wd t k] ++ acc) by rw [← List.append_assoc, ← T.path_under, ← T.pathI_nat]; exact HE.out)
      have hnil := Own.nil (E := eS) wr wr.heap.size
      rcases hown.src with ⟨rfl, rfl⟩ | ⟨g, cap, rfl, hgl, hgh⟩
      · clear hown
        go_wp2_with (at_builtin; first | (refine wpList_appG eS _ rfl (.tmp 9) (.tmp 15) rfl wr.heap.size (.slice none 0 0) [] rfl hnil (T.wd t k) 1 _ rfl wr.heap.size rfl rfl (by simp) (Nat.le_refl _) ?_; intro v2 w2 hown2 hb2) | (refine wpList_appNone eS _ rfl (.tmp 17) (.tmp 18) rfl wr.heap.size v2 ([] ++ [T.wd t k]) rfl hown2 rfl ?_))
        refine (refUnder_any _ c t k _ (HA.out.below (bthen hb hb2)) hkl hl).mono ?_
        rintro x w3 ⟨rfl, hb3⟩
        go_wp2
        go_roundg k
        case rel => exact ⟨T.underL t k, _, rfl, hun.1, by omega, by omega, HN.out, (hown2.keep hb3).base hsz, bthen (bthen hb hb2) hb3⟩
        case measure => omega
      · have HO := Lib.hid hown
        clear hown
        go_wp2_with (at_builtin; first | (refine wpList_appG eS _ rfl (.tmp 9) (.tmp 15) rfl wr.heap.size (.slice none 0 0) [] rfl hnil (T.wd t k) 1 _ rfl wr.heap.size rfl rfl (by simp) (Nat.le_refl _) ?_; intro v2 w2 hown2 hb2) | (refine wpList_appSrc eS _ rfl (.tmp 17) (.tmp 18) rfl wr.heap.size v2 ([] ++ [T.wd t k]) rfl hown2 g 0 acc acc.length cap rfl rfl (hgh.below hb2 hgl) (by simp; omega) hb2.size ?_; intro v3 w3 hown3 hb3))
        refine (refUnder_any _ c t k _ (HA.out.below (bthen hb (hb2.trans hb3))) hkl hl).mono ?_
        rintro x w4 ⟨rfl, hb4⟩
        go_wp2
        go_roundg k
        case rel => exact ⟨T.underL t k, _, rfl, hun.1, by omega, by omega, HN.out, (hown3.keep hb4).base hsz, bthen (bthen hb (hb2.trans hb3)) hb4⟩
        case measure => omega
    · obtain rfl : j = -1 := by omega
      go_wp2
      go_ret
      obtain ⟨A2, cap, rfl, hcap, hseen⟩ := hown.seen
      have e := HE.out
      rw [T.pathI_none, List.nil_append] at e
      subst e
      refine ⟨A2, cap, rfl, hcap, hseen, fun a ha => ?_, hb⟩
      rcases hown.2 with ⟨e2, _⟩ | ⟨g, cap2, cur, e2, hbg, _⟩
      · injection e2 with e2; rw [e2] at ha; cases ha
      · injection e2 with e2; rw [e2] at ha; injection ha with ha; rw [← ha]; exact hbg
theorem refPath_any {N : Nat} (A : Option Addr) (c : Nat) (t : List T.Ln) (i : Nat) (w : World) (hA : Seen eL w A t) (hl : t.length ≤ 1073741824) (hi : i < t.length) (hR : T.RightN N t) :
    Calls Try.prog 29 #[.slice A t.length c, .int .i64 i] w (SawG eS w (T.pathL t i)) :=
  (refPath_new A c t i w hA hl hi hR).mono fun _ _ ⟨B, cap, h1, h2, h3, _, h5⟩ => ⟨B, cap, h1, h2, h3, h5⟩

theorem refFind_any {N : Nat} (A B : Option Addr) (c cd : Nat) (t : List T.Ln) (p : List (List UInt8)) (w : World) (hA : Seen eL w A t) (hB : Seen eS w B p) (hl : t.length ≤ 1073741824) (hp : p.length ≤ 1073741824) (hR : T.RightN N t) :
    Calls Try.prog 30 #[.slice A t.length c, .slice B p.length cd] w
      (fun e w' => ((∃ i : Nat, i < t.length ∧ T.pathL t i = p ∧ e = .returned (.int .i64 (i : Int))) ∨ ((∀ i, i < t.length → T.pathL t i ≠ p) ∧ e = .returned (.int .i64 (-1)))) ∧ Below w.heap.size w w') := by
  have HA := Lib.hid hA
  have HB := Lib.hid hB
  have HR := Lib.hid hR
  clear hA hB hR
  go_enter Try.func30, Try.ntmps30
  go_wp2
  go_loopg [5] t.length (fun g x wr => ∃ k : Nat, Hid (k + g = t.length) ∧ k ≤ t.length ∧ x = .int .i64 k ∧ Hid (∀ i, i < k → T.pathL t i ≠ p) ∧ Below w.heap.size w wr)
  case atStart => exact ⟨0, Nat.zero_add _, Nat.zero_le _, rfl, (fun i h => absurd h (Nat.not_lt_zero _)), Below.refl _ _⟩
  case round =>
    obtain ⟨k, HG, hk, rfl, HI, hb⟩ := hrel
    by_cases hlt : k < t.length
    · obtain ⟨b, o, rfl, hbw, hL⟩ := HA.out.lines (by omega)
      obtain ⟨c0, _, _⟩ := (hL.below hb hbw).line hlt
      have hpl := HR.out.path_len k k (Nat.le_refl _) hlt
      have hdk := HR.out.deep k hlt
      by_cases hd : T.dp t k = (p.length : Int) - 1
      · by_cases he : T.pathL t k = p
        · have HE := Lib.hid he
          have HD := Lib.hid (show (T.pathL t k).length ≤ 1073741824 by omega)
          rw [hd] at c0
          clear hd he hL hpl hdk
          go_wp2_with fail
          refine (refPath_any _ c t k _ (HA.out.below hb) hl hlt HR.out).mono ?_
          rintro x w2 ⟨A2, cap2, rfl, _, hs2, hb2⟩
          have HS := Lib.hid hs2
          clear hs2
          go_wp2_with fail
          refine (equal_any _ _ _ _ _ _ _ HD.out HS.out (HB.out.below (bthen hb hb2))).mono ?_
          rintro x w3 ⟨hx, hb3⟩
          rw [decide_eq_true HE.out] at hx
          subst hx
          go_wp2
          go_ret
          exact ⟨.inl ⟨k, hlt, HE.out, rfl⟩, bthen (bthen hb hb2) hb3⟩
        · have HE := Lib.hid he
          have HD := Lib.hid (show (T.pathL t k).length ≤ 1073741824 by omega)
          have HN := Lib.hid (to_next HI.out he)
          rw [hd] at c0
          clear hd he hL hpl hdk
          go_wp2_with fail
          refine (refPath_any _ c t k _ (HA.out.below hb) hl hlt HR.out).mono ?_
          rintro x w2 ⟨A2, cap2, rfl, _, hs2, hb2⟩
          have HS := Lib.hid hs2
          clear hs2
          go_wp2_with fail
          refine (equal_any _ _ _ _ _ _ _ HD.out HS.out (HB.out.below (bthen hb hb2))).mono ?_
          rintro x w3 ⟨hx, hb3⟩
          rw [decide_eq_false HE.out] at hx
          subst hx
          go_wp2
          go_roundg (t.length - (k + 1))
          case rel => exact ⟨k + 1, (by show _ = _; omega), by omega, by go_num, HN, bthen (bthen hb hb2) hb3⟩
          case measure => have := HG.out; omega
      · have bd : (T.dp t k == (p.length : Int) - 1) = false := beq_eq_false_iff_ne.2 hd
        have HN := Lib.hid (to_next HI.out (show T.pathL t k ≠ p from fun h => hd (by rw [h] at hpl; omega)))
        clear hd hL hpl hdk
        go_wp2
        go_roundg (t.length - (k + 1))
        case rel => exact ⟨k + 1, (by show _ = _; omega), by omega, by go_num, HN, hb⟩
        case measure => have := HG.out; omega
    · go_wp2
      go_ret
      exact ⟨.inr ⟨fun i hi => HI.out i (by omega), rfl⟩, hb⟩
end Go.Proofs.Ytkifapbiimlafaa

namespace Go.Proofs.Ytkifapbiimlafaa
open Go.RowKit

def RelSr (w : World) (t : List T.Ln) (i e g : Nat) (v x : Value) (wr : World) : Prop :=
  ∃ k : Nat, k + g = e - i ∧ x = .int .i64 ((i + k : Nat) : Int) ∧ Own eL wr w.heap.size v ((T.subL t i).take k) ∧ Below w.heap.size w wr
end Go.Proofs.Ytkifapbiimlafaa

namespace Go.Proofs.Ytkifapbiimlafaa.T
theorem RightT.no_more {t : List Ln} (h : RightT t) {i : Int} {k : Nat} (hik : i < k) (hs : k < t.length → dp t k < kidD t i) : ∀ m, k ≤ m → m < t.length → underL t m ≠ i := by
  intro m hm1 hm2 e
  obtain ⟨j, rfl⟩ : ∃ j, m = k + j := ⟨m - k, by omega⟩
  have hs := hs (by omega)
  rcases h.under (k + j) (by omega) with ⟨a1, a2⟩ | ⟨u, u1, u2, u3, u4⟩
  · unfold kidD at hs
    rw [if_pos (by omega)] at hs
    have := (h.deep k (by omega)).1; omega
  · unfold kidD at hs
    rw [if_neg (by omega)] at hs
    have hu : i.toNat = u := by omega
    rw [hu] at hs
    rcases Nat.eq_zero_or_pos j with rfl | hp
    · rw [Nat.add_zero] at u3; omega
    · have := u4 k (by omega) (by omega); omega
end Go.Proofs.Ytkifapbiimlafaa.T
namespace Go.Proofs.Ytkifapbiimlafaa
open Go.RowKit

def KidS (w : World) (t : List T.Ln) (i : Int) (s : List UInt8) (e : Ending) (w' : World) : Prop :=
  ((∃ k : Nat, k < t.length ∧ T.underL t k = i ∧ T.wd t k = s ∧ e = .returned (.tuple #[.int .i64 (k : Int), .bool true])) ∨ ((∀ k, k < t.length → T.underL t k = i → T.wd t k ≠ s) ∧ e = .returned (.tuple #[.int .i64 0, .bool false]))) ∧ Below w.heap.size w w'
def RelKd (w : World) (t : List T.Ln) (i : Int) (s : List UInt8) (g : Nat) (x : Value) (wr : World) : Prop :=
  ∃ k : Nat, k + g = t.length ∧ i < k ∧ x = .int .i64 k ∧ T.DeepTo t i k ∧ (∀ m, m < k → T.underL t m = i → T.wd t m ≠ s) ∧ w = wr

set_option maxRecDepth 100000 in
set_option maxHeartbeats 1000000 in
theorem kid_any (A : Option Addr) (c : Nat) (t : List T.Ln) (i d : Int) (s : List UInt8) (w : World) (hA : Seen eL w A t) (hl : t.length ≤ 1073741824) (hi : -1 ≤ i) (hil : i < t.length) (hR : T.RightT t) (hd : T.kidD t i = d) :
    Calls Try.prog 47 #[.slice A t.length c, .int .i64 i, .int .i64 d, .string (sB s)] w (KidS w t i s) := by
  have HA := Lib.hid hA
  have HR := Lib.hid hR
  have HD := Lib.hid hd
  clear hA hR hd
  go_enter Try.func47, Try.ntmps47
  go_wp2
  go_loopg [10] (t.length - (i + 1).toNat) (fun g x wr => RelKd w t i s g x wr)
  case atStart => exact ⟨(i + 1).toNat, by omega, by omega, by congr 1; omega, (fun m h1 h2 => by omega), (fun m h1 h2 => by have := T.under_lt t m; omega), rfl⟩
  case round =>
    obtain ⟨k, hg, hik, rfl, hdt, hno, rfl⟩ := hrel
    have HG := Lib.hid hg
    have HT := Lib.hid hdt
    have HX := Lib.hid hno
    clear hg hdt hno
    by_cases hlt : k < t.length
    · have blt : decide ((k : Int) < (t.length : Int)) = true := decide_eq_true (by omega)
      obtain ⟨b, o, rfl, hbw, hL⟩ := HA.out.lines (by omega)
      obtain ⟨c0, c1, _⟩ := hL.line hlt
      clear hL
      have hdk := HR.out.deep k hlt
      by_cases hge : d ≤ T.dp t k
      · have bge : decide (d ≤ T.dp t k) = true := decide_eq_true hge
        have HTN := Lib.hid (HT.out.next (by rw [HD.out]; exact hge))
        have hiff := HR.out.kid_iff hi hik hlt HT.out
        rw [HD.out] at hiff
        by_cases heq : T.dp t k = d
        · by_cases hw : T.wd t k = s
          · have HN := Lib.hid (show T.underL t k = i ∧ T.wd t k = s from ⟨hiff.2 heq, hw⟩)
            rw [heq] at c0 bge
            rw [hw] at c1
            clear hge hiff heq hw
            go_wp2
            go_ret2
            exact ⟨.inl ⟨k, hlt, HN.out.1, HN.out.2, rfl⟩, Below.refl _ _⟩
          · have bw := sB_ne hw
            have HN := Lib.hid (to_next HX.out (fun _ => hw))
            rw [heq] at c0 bge
            clear hge hiff heq hw
            go_wp2
            go_roundg (t.length - (k + 1))
            case rel => exact ⟨k + 1, by omega, by omega, by go_num, HTN.out, HN.out, rfl⟩
            case measure => have := HG.out; omega
        · have beq : (T.dp t k == d) = false := beq_eq_false_iff_ne.2 heq
          have HN := Lib.hid (to_next HX.out (fun h => absurd (hiff.1 h) heq))
          clear hge hiff heq
          go_wp2
          go_roundg (t.length - (k + 1))
          case rel => exact ⟨k + 1, by omega, by omega, by go_num, HTN.out, HN.out, rfl⟩
          case measure => have := HG.out; omega
      · have bge : decide (d ≤ T.dp t k) = false := decide_eq_false hge
        have HN := Lib.hid (HR.out.no_more hik (fun _ => by rw [HD.out]; omega))
        clear hge
        go_wp2
        go_ret2
        refine ⟨.inr ⟨fun m h1 h2 => ?_, rfl⟩, Below.refl _ _⟩
        rcases Nat.lt_or_ge m k with h | h
        · exact HX.out m h h2
        · exact absurd h2 (HN.out m h h1)
    · have blt : decide ((k : Int) < (t.length : Int)) = false := decide_eq_false (by omega)
      go_wp2
      go_ret2
      exact ⟨.inr ⟨fun m h1 h2 => HX.out m (by omega) h2, rfl⟩, Below.refl _ _⟩

def FindS (w : World) (t : List T.Ln) (p : List (List UInt8)) (e : Ending) (w' : World) : Prop :=
  ((∃ i : Nat, i < t.length ∧ T.pathL t i = p ∧ e = .returned (.tuple #[.int .i64 (i : Int), .bool true])) ∨ ((∀ i, i < t.length → T.pathL t i ≠ p) ∧ e = .returned (.tuple #[.int .i64 0, .bool false]))) ∧ Below w.heap.size w w'
theorem find_wrong (A B : Option Addr) (c d : Nat) (t : List T.Ln) (n : Nat) (w : World) (hA : Seen eL w A t) (hl : t.length ≤ 1073741824) (hR : ¬ T.RightT t) :
    Calls Try.prog 26 #[.slice A t.length c, .slice B n d] w (fun e w' => e = .returned (.tuple #[.int .i64 0, .bool false]) ∧ Below w.heap.size w w') := by
  have HA := Lib.hid hA
  have HR := Lib.hid hR
  clear hA hR
  by_cases h0 : n = 0
  · subst h0
    go_enter Try.func26, Try.ntmps26
    go_wp2
    go_ret2
    exact ⟨rfl, Below.refl _ _⟩
  · have b0 : ((n : Int) == 0) = false := beq_eq_false_iff_ne.2 (by omega)
    clear h0
    go_enter Try.func26, Try.ntmps26
    go_wp2_with fail
    refine (right_is A c t false _ HA.out hl (no_iff HR.out)).mono ?_
    rintro e w1 ⟨rfl, hb1⟩
    go_wp2
    go_ret2
    exact ⟨rfl, hb1⟩
theorem find_empty (A B : Option Addr) (c d : Nat) (t : List T.Ln) (w : World) :
    Calls Try.prog 26 #[.slice A t.length c, .slice B 0 d] w (FindS w t []) := by
  go_enter Try.func26, Try.ntmps26
  go_wp2
  go_ret2
  exact ⟨.inr ⟨fun i _ => T.path_ne, rfl⟩, Below.refl _ _⟩
def RelFd (w : World) (t : List T.Ln) (p : List (List UInt8)) (g : Nat) (a x : Value) (wr : World) : Prop :=
  ∃ (d : Nat) (at' : Int), d + g = p.length ∧ x = .int .i64 d ∧ a = .int .i64 at' ∧ -1 ≤ at' ∧ at' < t.length ∧ T.pathI t at' = p.take d ∧ Below w.heap.size w wr

set_option maxRecDepth 100000 in
set_option maxHeartbeats 1000000 in
theorem find_any (A B : Option Addr) (c cd : Nat) (t : List T.Ln) (p : List (List UInt8)) (w : World) (hA : Seen eL w A t) (hB : Seen eS w B p) (hl : t.length ≤ 1073741824) (hp : p.length ≤ 1073741824) (hR : T.RightT t) :
    Calls Try.prog 26 #[.slice A t.length c, .slice B p.length cd] w (FindS w t p) := by
  by_cases h0 : p.length = 0
  · obtain rfl := List.eq_nil_of_length_eq_zero h0
    exact find_empty A B c cd t w
  have b0 : ((p.length : Int) == 0) = false := beq_eq_false_iff_ne.2 (by omega)
  obtain ⟨b, o, rfl, hbw, hL⟩ := hB (by omega)
  have HL := Lib.hid hL
  have HA := Lib.hid hA
  have HR := Lib.hid hR
  have HZ := Lib.hid h0
  clear hA hB hL hR h0
  go_enter Try.func26, Try.ntmps26
  go_wp2_with fail
  refine (right_is A c t true _ HA.out hl (yes_iff HR.out)).mono ?_
  rintro e w1 ⟨rfl, hb1⟩
  go_wp2
  go_loopg [6, 21] p.length (fun g a x wr => RelFd w t p g a x wr)
  case atStart => exact ⟨0, -1, Nat.zero_add _, rfl, rfl, by omega, by omega, by rw [T.pathI_none]; rfl, hb1⟩
  case round =>
    obtain ⟨d, at', hg, rfl, rfl, ha1, ha2, hpa, hb⟩ := hrel
    have HG := Lib.hid hg
    have HP := Lib.hid hpa
    clear hg hpa
    by_cases hlt : d < p.length
    · have c1 := (HL.out.below hb hbw).str hlt
      have HK := Lib.hid (HR.out.kidD_path (d := d) ⟨ha1, ha2⟩ (by rw [HP.out, List.length_take]; omega))
      go_wp2_with fail
      refine (kid_any A c t at' d p[d] _ (HA.out.below hb) hl ha1 ha2 HR.out HK.out).mono ?_
      rintro e w2 ⟨he, hb2⟩
      have HE := Lib.hid he
      clear he
      rcases HE.out with ⟨k, hk, hku, hkw, rfl⟩ | ⟨hno, rfl⟩
      · have HN := Lib.hid (T.find_next hlt HP.out hku hkw)
        clear HE hku hkw
        go_wp2
        go_roundg (p.length - (d + 1))
        case rel => exact ⟨d + 1, k, by omega, by go_num, rfl, by omega, by omega, HN.out, bthen hb hb2⟩
        case measure => have := HG.out; omega
      · have HN := Lib.hid (HR.out.find_none hlt HP.out ⟨ha1, ha2⟩ hno)
        clear HE hno
        go_wp2
        go_ret2
        exact ⟨.inr ⟨HN.out, rfl⟩, bthen hb hb2⟩
    · have hdl : d = p.length := by have := HG.out; omega
      have HN := Lib.hid (show T.pathI t at' = p by rw [HP.out, hdl, List.take_length])
      by_cases hn : at' < 0
      · exact absurd HN.out (by intro h; unfold T.pathI at h; rw [if_pos hn] at h; subst h; exact HZ.out rfl)
      · obtain ⟨k, rfl⟩ := Int.eq_ofNat_of_zero_le (show 0 ≤ at' by omega)
        go_wp2
        go_ret2
        exact ⟨.inl ⟨k, by omega, by rw [← T.pathI_nat]; exact HN.out, rfl⟩, hb⟩
/-- The line of a path that one has. -/
theorem find_some (A B : Option Addr) (c cd : Nat) (t : List T.Ln) (i : Nat) (p : List (List UInt8)) (w : World) (hA : Seen eL w A t) (hB : Seen eS w B p) (hl : t.length ≤ 1073741824) (hp : p.length ≤ 1073741824) (hR : T.RightT t) (hi : i < t.length) (h : T.pathL t i = p) :
    Calls Try.prog 26 #[.slice A t.length c, .slice B p.length cd] w (fun e w' => e = .returned (.tuple #[.int .i64 (i : Int), .bool true]) ∧ Below w.heap.size w w') :=
  (find_any A B c cd t p w hA hB hl hp hR).mono fun e w' ⟨he, hb⟩ => by
    rcases he with ⟨k, hk, hkp, rfl⟩ | ⟨hno, _⟩
    · rw [hR.path_inj (max k i) k i (Nat.le_max_left ..) (Nat.le_max_right ..) hk hi (by rw [hkp, h])]
      exact ⟨rfl, hb⟩
    · exact absurd h (hno i hi)
theorem find_not (A B : Option Addr) (c cd : Nat) (t : List T.Ln) (p : List (List UInt8)) (w : World) (hA : Seen eL w A t) (hB : Seen eS w B p) (hl : t.length ≤ 1073741824) (hp : p.length ≤ 1073741824) (hR : T.RightT t) (h : ∀ i, i < t.length → T.pathL t i ≠ p) :
    Calls Try.prog 26 #[.slice A t.length c, .slice B p.length cd] w (fun e w' => e = .returned (.tuple #[.int .i64 0, .bool false]) ∧ Below w.heap.size w w') :=
  (find_any A B c cd t p w hA hB hl hp hR).mono fun e w' ⟨he, hb⟩ => by
    rcases he with ⟨k, hk, hkp, rfl⟩ | ⟨_, he⟩
    · exact absurd hkp (h k hk)
    · exact ⟨he, hb⟩
end Go.Proofs.Ytkifapbiimlafaa
