/-
  Layer 13's code: does a line not go with what others say. Condition: a tree of at most 200 lines; a path that is a statement, as are its beginnings; the table holds what it was laid with.
  Layer 13's code: the faults of a line whose path is a statement. Condition: a tree of at most 200 lines; the table holds what it was laid with.
  Layer 13's code: Check; what schema does (SchemaOk). Condition: as SchemaOk's.
  Small laws for layer 13's walks: Right by its answer, short paths (Short), how long a fault's path is. No conditions.
  What the rows' condition gives: the project's own table of statements (schema.rows) holds what it was laid with; a world that meets it. No conditions.
  A line in a block of its own, as the program lays it.
  Contract of the document's Add (layer 6): the tree with a path, or the error's number. Condition: at most 2^30 lines and words. Contract of the document's Add (layer 6), the walk: the tree with a path, or the error's number. Condition: at most 2^30 lines and words.
-/
import Derived.Test.YtikjdjfpoohieaaDoorBase10
import Derived.Deep.RegionHeld3
import Derived.Test.YtikjdjfpoohieaaDoorRows
import Derived.LaidLaws
import Derived.LaidHandle
import Derived.LaidMore
import Derived.OpenShut
import Derived.Stop.LaidErr
import Derived.Stop.Joined
import Derived.WalkMore
import Derived.StillTailTactics

namespace Go.Proofs.YtikjdjfpoohieaaDoor
namespace C
open T (Pth)
theorem second_at {p : Pth} {A D : Wd} (hA : (32 : UInt8) ∉ A) (hs0 : secondW (said3 A D) = []) (hne : said3 A D ≠ []) (h : secondB p = said3 A D) : ∃ b d, p = [A, b, D, d] ∧ typeB (secondW A) b = true ∧ typeB (thirdK (key A D)).1 d = true := by
  match p with
  | [] => exact absurd (show secondB [] = [] from by unfold secondB; rw [show ([] : Pth).dropLast = [] from rfl, first_nil]) (fun e => hne (h.symm.trans e))
  | [a] => rw [second_one] at h; exact absurd h.symm hne
  | [a, b] =>
    rw [second_two] at h
    by_cases hb : typeB (secondW a) b = true
    · rw [if_pos hb] at h; subst h; exact absurd hs0 (second_ne hb)
    · rw [if_neg hb] at h; exact absurd h.symm hne
  | [a, b, c] => rw [second_three] at h; exact absurd h.symm hne
  | [a, b, c, d] =>
    rw [second_four] at h
    by_cases hb : typeB (secondW a) b = true
    · rw [if_pos hb] at h
      by_cases hs : (thirdK (key a c)).1 = []
      · rw [if_pos hs] at h; exact absurd h.symm hne
      · rw [if_neg hs] at h
        by_cases hd : typeB (thirdK (key a c)).1 d = true
        · rw [if_pos hd] at h
          obtain ⟨rfl, rfl⟩ := (said_iff (second_blank (second_ne hb)) hA).1 h
          exact ⟨b, d, rfl, hb, hd⟩
        · rw [if_neg hd] at h; exact absurd h.symm hne
    · rw [if_neg hb] at h; exact absurd h.symm hne
  | a :: b :: c :: d :: e :: r => rw [second_five] at h; exact absurd h.symm hne
end C
open Go.RowKit
open F
open T (Pth)
set_option linter.unusedVariables false
set_option linter.unusedSimpArgs false

theorem anyH_abs13 {P : Program} {md : Region.Mode} {ops : Array Oper} {Q : Exit → Act → World → Prop} {S : World → Prop} {fuel : Nat} {listed : Array Bool} {a : Act} {w : World} {G : World → Prop} (hG : G w) (h : ∀ z, G z → wpAnyH P md ops Q S fuel listed a z) : wpAnyH P md ops Q S fuel listed a w := h w hG
/-- What a region's rounds keep. -/
def KeepX (w w1 : World) (b4 o4 b o : Nat) (x y : List UInt8) : Prop := Below w.heap.size w w1 ∧ w1.cell? ⟨b4, o4, none⟩ = some (.string (sB x)) ∧ w1.cell? ⟨b, o, none⟩ = some (.string (sB y))
theorem KeepX.on {w w1 w2 : World} {b4 o4 b o : Nat} {x y : List UInt8} (h : KeepX w w1 b4 o4 b o x y) (hx : Below w1.heap.size w1 w2) (h4 : b4 < w.heap.size) (h5 : b < w.heap.size) : KeepX w w2 b4 o4 b o x y :=
  ⟨bthen h.1 hx, (hx.cell (p := ⟨b4, o4, none⟩) (Nat.lt_of_lt_of_le h4 h.1.size)).trans h.2.1, (hx.cell (p := ⟨b, o, none⟩) (Nat.lt_of_lt_of_le h5 h.1.size)).trans h.2.2⟩
theorem thereQ13 (A B : Option Addr) (c d n : Nat) (t : List T.Ln) (a x : List UInt8) (r : Bool) (w : World) (hn : t.length = n) (hA : Seen eL w A t) (hB : Seen eS w B [a, x]) (hl : n ≤ 200) (hR : T.RightT t) (hr : decide ([a, x] ∈ C.pths t) = r) :
    Calls Tryd.prog 66 #[.slice A n c, .slice B 2 d] w (BoolS w r) := thereC A B c d n 2 t [a, x] r w hn rfl hA hB (by omega) (by omega) hR hr
set_option maxRecDepth 100000 in
set_option maxHeartbeats 16000000 in
theorem clashesC (A B : Option Addr) (c d n m i : Nat) (t : List T.Ln) (p : Pth) (r : Bool) (w : World) (hn : t.length = n) (hA : Seen eL w A t) (hl : n ≤ 200) (hR : T.RightT t) (hi : i < n) (hp : T.pathL t i = p) (hm : p.length = m) (hmd : m ≤ d) (hB : Seen eS w B p) (HT : RowsOk w) (hr : C.clashB (C.pths t) p = r) :
    Calls Tryd.prog 67 #[.slice A n c, .int .i64 (i : Int), .slice B m d] w (BoolS w r) := by
  have hit : i < t.length := by rw [hn]; exact hi
  have hm16 : m ≤ 16 := by
    have h1 := hR.path_len i i (Nat.le_refl _) hit
    have h2 := hR.deep i hit
    rw [hp, hm] at h1; omega
  have hm0 : 0 < m := by rw [← hm, ← hp]; exact List.length_pos_iff.2 T.path_ne
  have hsw : ShortW p := by rw [← hp]; exact short_path hR hit
  obtain ⟨x, hx⟩ : ∃ x, T.wd t i = x := ⟨_, rfl⟩
  have hlast : p.getLastD [] = x := by rw [← hp, ← hx, T.path_under]; simp
  have hii : (i : Int) < (n : Int) := by omega
  obtain ⟨b4, o4, rfl, hw4, hL4⟩ := hA.lines (by omega)
  obtain ⟨b, o, rfl, hbw, hLp⟩ := hB (by omega)
  obtain ⟨s, hs⟩ : ∃ s, C.secondB p = s := ⟨_, rfl⟩
  have HC := Lib.hid (show r = if s = C.said3 C.wHosts C.wIp then C.twiceP (C.pths t) p x
      else if s = C.said3 C.wBindings C.wHost ∨ s = C.said3 C.wRoutes C.wVia then !decide ([C.wHosts, x] ∈ C.pths t)
      else if s = C.said3 C.wHosts C.wVnis then !decide ([C.wVnis, x] ∈ C.pths t)
      else if s = C.said3 C.wBindings C.wVni then (!decide ([C.wVnis, x] ∈ C.pths t)) || C.outP (C.pths t) (p.getD 1 []) x else false by rw [← hr]; unfold C.clashB; rw [hs, hlast])
  have HTW := Lib.hid (show C.twiceP (C.pths t) p x = (List.range i).any fun j => C.sameAd x (T.pathL t j) by rw [← hp]; exact C.twice_is hR hit x)
  have HS := Lib.hid hs
  have HA := Lib.hid hA
  have HN := Lib.hid hn
  have HRT := Lib.hid hR
  have HP := Lib.hid hp
  have HM := Lib.hid hm
  have HB := Lib.hid hB
  have HSW := Lib.hid hsw
  have HX := Lib.hid hx
  have HLA := Lib.hid hlast
  have HT := Lib.hid HT
  have HL4 := Lib.hid hL4
  have HLP := Lib.hid hLp
  clear hn hA hR hp hm hB hr hsw hx hlast hs hL4 hLp
  by_cases h0 : s = C.said3 C.wHosts C.wIp
  · have q0 : ((sB s).toList == [104, 111, 115, 116, 115, 32, 36, 110, 97, 109, 101, 32, 105, 112]) = true := by rw [sB_toList, beq_iff_eq]; exact h0
    obtain ⟨_, e, hq, _, hty⟩ := (C.second_host p).1 (by rw [HS.out]; exact h0)
    have HTY := Lib.hid (show C.typeB C.kIp x = true by rw [← HLA.out, hq]; exact hty)
    have HE := Lib.hid (show ((List.range i).any fun j => C.sameAd x (T.pathL t j)) = r by rw [HC.out, if_pos h0]; exact HTW.out.symm)
    clear h0 hq hty
    go_enter Tryd.func67, Tryd.ntmps67
    go_wp2_with fail
    refine (secondC (some ⟨b, o, none⟩) d m p s _ HM.out hmd HB.out HSW.out hm0 (by omega) HT.out HS.out).mono ?_
    rintro e w1 ⟨rfl, hb1⟩
    go_wp2_with fail
    refine (takenC (some ⟨b4, o4, none⟩) c n i t x r _ HN.out (HA.out.below hb1) hl HRT.out hi HX.out HTY.out (HT.out.below hb1) HE.out).mono ?_
    rintro e w2 ⟨rfl, hx⟩
    go_wp2
    go_ret
    exact ⟨rfl, bthen hb1 hx⟩
  have q0 : ((sB s).toList == [104, 111, 115, 116, 115, 32, 36, 110, 97, 109, 101, 32, 105, 112]) = false := by rw [sB_toList, beq_eq_false_iff_ne]; exact h0
  by_cases h1 : s = C.said3 C.wBindings C.wHost
  · have q1 : ((sB s).toList == [98, 105, 110, 100, 105, 110, 103, 115, 32, 36, 105, 112, 32, 104, 111, 115, 116]) = true := by rw [sB_toList, beq_iff_eq]; exact h1
    obtain ⟨th, hth⟩ : ∃ th, decide ([C.wHosts, x] ∈ C.pths t) = th := ⟨_, rfl⟩
    have HTH := Lib.hid hth
    have HE := Lib.hid (show r = !th by rw [HC.out, if_neg h0, if_pos (.inl h1)]; rw [hth])
    clear h0 h1 hth
    go_enter Tryd.func67, Tryd.ntmps67
    go_wp2_with fail
    refine (secondC (some ⟨b, o, none⟩) d m p s _ HM.out hmd HB.out HSW.out hm0 (by omega) HT.out HS.out).mono ?_
    rintro e w1 ⟨rfl, hb1⟩
    have hit : i < t.length := by rw [HN.out]; exact hi
    obtain ⟨_, c4, _⟩ := (HL4.out.below hb1 hw4).line hit
    rw [HX.out] at c4
    clear hit
    go_wp2_with fail
    have hu := up w1 (.cells #[.string (sB C.wHosts), .string (sB x)] 9)
    refine (thereQ13 (some ⟨b4, o4, none⟩) _ c _ n t C.wHosts x th _ HN.out (HA.out.below (bthen hb1 hu)) (lit_seen eS w1 [C.wHosts, x] _ rfl (by simp)) hl HRT.out HTH.out).mono ?_
    rintro e w2 ⟨rfl, hx⟩
    go_wp2
    go_ret
    exact ⟨by rw [HE.out]; rfl, bthen hb1 (bthen hu hx)⟩
  have q1 : ((sB s).toList == [98, 105, 110, 100, 105, 110, 103, 115, 32, 36, 105, 112, 32, 104, 111, 115, 116]) = false := by rw [sB_toList, beq_eq_false_iff_ne]; exact h1
  by_cases h2 : s = C.said3 C.wRoutes C.wVia
  · have q2 : ((sB s).toList == [114, 111, 117, 116, 101, 115, 32, 36, 112, 114, 101, 102, 105, 120, 32, 118, 105, 97]) = true := by rw [sB_toList, beq_iff_eq]; exact h2
    obtain ⟨th, hth⟩ : ∃ th, decide ([C.wHosts, x] ∈ C.pths t) = th := ⟨_, rfl⟩
    have HTH := Lib.hid hth
    have HE := Lib.hid (show r = !th by rw [HC.out, if_neg h0, if_pos (.inr h2)]; rw [hth])
    clear h0 h1 h2 hth
    go_enter Tryd.func67, Tryd.ntmps67
    go_wp2_with fail
    refine (secondC (some ⟨b, o, none⟩) d m p s _ HM.out hmd HB.out HSW.out hm0 (by omega) HT.out HS.out).mono ?_
    rintro e w1 ⟨rfl, hb1⟩
    have hit : i < t.length := by rw [HN.out]; exact hi
    obtain ⟨_, c4, _⟩ := (HL4.out.below hb1 hw4).line hit
    rw [HX.out] at c4
    clear hit
    go_wp2_with fail
    have hu := up w1 (.cells #[.string (sB C.wHosts), .string (sB x)] 9)
    refine (thereQ13 (some ⟨b4, o4, none⟩) _ c _ n t C.wHosts x th _ HN.out (HA.out.below (bthen hb1 hu)) (lit_seen eS w1 [C.wHosts, x] _ rfl (by simp)) hl HRT.out HTH.out).mono ?_
    rintro e w2 ⟨rfl, hx⟩
    go_wp2
    go_ret
    exact ⟨by rw [HE.out]; rfl, bthen hb1 (bthen hu hx)⟩
  have q2 : ((sB s).toList == [114, 111, 117, 116, 101, 115, 32, 36, 112, 114, 101, 102, 105, 120, 32, 118, 105, 97]) = false := by rw [sB_toList, beq_eq_false_iff_ne]; exact h2
  by_cases h3 : s = C.said3 C.wHosts C.wVnis
  · have q3 : ((sB s).toList == [104, 111, 115, 116, 115, 32, 36, 110, 97, 109, 101, 32, 118, 110, 105, 115]) = true := by rw [sB_toList, beq_iff_eq]; exact h3
    obtain ⟨th, hth⟩ : ∃ th, decide ([C.wVnis, x] ∈ C.pths t) = th := ⟨_, rfl⟩
    have HTH := Lib.hid hth
    have HE := Lib.hid (show r = !th by rw [HC.out, if_neg h0, if_neg (fun h => h.elim h1 h2), if_pos h3]; rw [hth])
    clear h0 h1 h2 h3 hth
    go_enter Tryd.func67, Tryd.ntmps67
    go_wp2_with fail
    refine (secondC (some ⟨b, o, none⟩) d m p s _ HM.out hmd HB.out HSW.out hm0 (by omega) HT.out HS.out).mono ?_
    rintro e w1 ⟨rfl, hb1⟩
    have hit : i < t.length := by rw [HN.out]; exact hi
    obtain ⟨_, c4, _⟩ := (HL4.out.below hb1 hw4).line hit
    rw [HX.out] at c4
    clear hit
    go_wp2_with fail
    have hu := up w1 (.cells #[.string (sB C.wVnis), .string (sB x)] 9)
    refine (thereQ13 (some ⟨b4, o4, none⟩) _ c _ n t C.wVnis x th _ HN.out (HA.out.below (bthen hb1 hu)) (lit_seen eS w1 [C.wVnis, x] _ rfl (by simp)) hl HRT.out HTH.out).mono ?_
    rintro e w2 ⟨rfl, hx⟩
    go_wp2
    go_ret
    exact ⟨by rw [HE.out]; rfl, bthen hb1 (bthen hu hx)⟩
  have q3 : ((sB s).toList == [104, 111, 115, 116, 115, 32, 36, 110, 97, 109, 101, 32, 118, 110, 105, 115]) = false := by rw [sB_toList, beq_eq_false_iff_ne]; exact h3
  by_cases h4 : s = C.said3 C.wBindings C.wVni
  · have q4 : ((sB s).toList == [98, 105, 110, 100, 105, 110, 103, 115, 32, 36, 105, 112, 32, 118, 110, 105]) = true := by rw [sB_toList, beq_iff_eq]; exact h4
    obtain ⟨y, e, hq, hty, _⟩ := C.second_at (A := C.wBindings) (D := C.wVni) (p := p) (by decide) (by decide +kernel) (by decide +kernel) (by rw [HS.out]; exact h4)
    obtain rfl : 4 = m := by rw [← HM.out, hq]; rfl
    have HY := Lib.hid (show y.length ≤ 100 from HSW.out y (by rw [hq]; simp))
    have HY0 := Lib.hid (show 0 ≤ N.ipL y from of_decide_eq_true (show decide (0 ≤ N.ipL y) = true from hty))
    have HPY := Lib.hid (show p[1]? = some y by rw [hq]; rfl)
    have hd2 : (1 : Int) < (4 : Int) := by omega
    obtain ⟨th, hth⟩ : ∃ th, decide ([C.wVnis, x] ∈ C.pths t) = th := ⟨_, rfl⟩
    have HTH := Lib.hid hth
    obtain ⟨ou, hou⟩ : ∃ ou, C.outP (C.pths t) y x = ou := ⟨_, rfl⟩
    have HOU := Lib.hid hou
    have HE := Lib.hid (show r = ((!th) || ou) by rw [HC.out, if_neg h0, if_neg (fun h => h.elim h1 h2), if_neg h3, if_pos h4]; rw [hth, show p.getD 1 [] = y by rw [hq]; rfl, hou])
    clear h0 h1 h2 h3 h4 hth hou hq hty
    cases th with
    | true =>
      go_enter Tryd.func67, Tryd.ntmps67
      go_wp2_with fail
      refine (secondC (some ⟨b, o, none⟩) d 4 p s _ HM.out hmd HB.out HSW.out hm0 (by omega) HT.out HS.out).mono ?_
      rintro e w1 ⟨rfl, hb1⟩
      have hit : i < t.length := by rw [HN.out]; exact hi
      obtain ⟨_, c4, _⟩ := (HL4.out.below hb1 hw4).line hit
      rw [HX.out] at c4
      clear hit
      have cy : w1.cell? ⟨b, o + 1, none⟩ = some (.string (sB y)) := cellS (HLP.out.below hb1 hbw) HPY.out
      go_wp2
      refine wp_region_held_drew (S := fun w' => KeepX w w' b4 (o4 + i * 3 + 1) b (o + 1) x y) (by kernel_rfl) ⟨hb1.drew, c4, cy⟩ (fun hHeld => ?_)
      refine takeD13 (i := 0) (v := ?vt0) (d := some 39) rfl rfl (by kernel_rfl) (by kernel_rfl) (by kernel_rfl) (fun _ _ _ h => h) (Or.inl ⟨by rfl, ?hyt0⟩) (by assumption) ?restt0
      case hyt0 => intro w hSw; obtain ⟨_, hs1, hs2⟩ := hSw; go_simp; try (with_reducible rfl)
      try simp only [Act.put, List.setIfInBounds_toArray, List.set_cons_zero, List.set_cons_succ]
      refine takeD13 (i := 1) (v := ?vt1) (d := some 40) rfl rfl (by kernel_rfl) (by kernel_rfl) (by kernel_rfl) (fun _ _ _ h => h) (Or.inl ⟨by rfl, ?hyt1⟩) (by assumption) ?restt1
      case hyt1 => intro w hSw; obtain ⟨_, hs1, hs2⟩ := hSw; go_simp; try (with_reducible rfl)
      try simp only [Act.put, List.setIfInBounds_toArray, List.set_cons_zero, List.set_cons_succ]
      refine takeD13 (i := 2) (v := ?vt2) (d := some 41) rfl rfl (by kernel_rfl) (by kernel_rfl) (by kernel_rfl) (fun _ _ _ h => h) (Or.inl ⟨by rfl, ?hyt2⟩) (by assumption) ?restt2
      case hyt2 => intro w hSw; obtain ⟨_, hs1, hs2⟩ := hSw; go_simp; try (with_reducible rfl)
      try simp only [Act.put, List.setIfInBounds_toArray, List.set_cons_zero, List.set_cons_succ]
      refine takeD13 (i := 3) (v := ?vt3) (d := some 42) rfl rfl (by kernel_rfl) (by kernel_rfl) (by kernel_rfl) (fun _ _ _ h => h) (Or.inl ⟨by rfl, ?hyt3⟩) (by assumption) ?restt3
      case hyt3 => intro w hSw; obtain ⟨_, hs1, hs2⟩ := hSw; go_simp; try (with_reducible rfl)
      try simp only [Act.put, List.setIfInBounds_toArray, List.set_cons_zero, List.set_cons_succ]
      refine takeD13 (i := 4) (v := ?vt4) (d := some 43) rfl rfl (by kernel_rfl) (by kernel_rfl) (by kernel_rfl) (fun _ _ _ h => h) (Or.inl ⟨by rfl, ?hyt4⟩) (by assumption) ?restt4
      case hyt4 => intro w hSw; obtain ⟨_, hs1, hs2⟩ := hSw; go_simp; try (with_reducible rfl)
      try simp only [Act.put, List.setIfInBounds_toArray, List.set_cons_zero, List.set_cons_succ]
      refine takeD13 (i := 5) (v := ?vt5) (d := some 44) rfl rfl (by kernel_rfl) (by kernel_rfl) (by kernel_rfl) (fun _ _ _ h => h) (Or.inl ⟨by rfl, ?hyt5⟩) (by assumption) ?restt5
      case hyt5 => intro w hSw; obtain ⟨_, hs1, hs2⟩ := hSw; go_simp; try (with_reducible rfl)
      try simp only [Act.put, List.setIfInBounds_toArray, List.set_cons_zero, List.set_cons_succ]
      refine anyH_abs13 (G := fun z => KeepX w z b4 (o4 + i * 3 + 1) b (o + 1) x y) ⟨hb1.drew, c4, cy⟩ (fun z0 hz => ?_)
      refine wpAnyH_ready (rs := [6]) (by kernel_rfl) (by simp) ?_
      refine AllReadyH.cons rfl (fun K hK => ?_) AllReadyH.nil
      obtain ⟨g1, hg1⟩ : ∃ g, z0.heap.size = g := ⟨_, rfl⟩
      go_simp
      try rw [hg1]
      have hu := up z0 (.cells #[.string (sB C.wVnis), .string (sB x)] 9)
      have hk1 := hz.on hu hw4 hbw
      refine hK.out _ _ hk1 (fun hHeld => ?_)
      clear hK K
      try simp only [Act.put, List.setIfInBounds_toArray, List.set_cons_zero, List.set_cons_succ]
      refine anyH_abs13 (G := fun z => KeepX w z b4 (o4 + i * 3 + 1) b (o + 1) x y ∧ Seen eS z (some ⟨g1, 0, none⟩) [C.wVnis, x]) ⟨hk1, by rw [← hg1]; exact lit_seen eS z0 [C.wVnis, x] _ rfl (by simp)⟩ (fun z1 hz => ?_)
      obtain ⟨hk2, hl1⟩ := hz
      clear hHeld
      have hHeld := hk2
      clear hu hk1
      refine wpAnyH_ready (rs := [7]) (by kernel_rfl) (by simp) ?_
      refine AllReadyH.cons rfl (fun K hK => ?_) AllReadyH.nil
      go_simp
      go_at_call 66
      refine (thereQ13 (some ⟨b4, o4, none⟩) _ c _ n t C.wVnis x true _ HN.out (HA.out.below hHeld.1) hl1 hl HRT.out HTH.out).mono ?_
      rintro e wq7 ⟨rfl, hx⟩
      have hbx7 : KeepX w wq7 b4 (o4 + i * 3 + 1) b (o + 1) x y := hHeld.on hx hw4 hbw
      clear hHeld hx
      refine hK.out _ _ hbx7 (fun hHeld => ?_)
      clear hK K
      try simp only [Act.put, List.setIfInBounds_toArray, List.set_cons_zero, List.set_cons_succ]
      refine takeD13 (i := 8) (v := ?vt8) (d := some 47) rfl rfl (by kernel_rfl) (by kernel_rfl) (by kernel_rfl) (fun _ _ _ h => h) (Or.inl ⟨by rfl, ?hyt8⟩) (by assumption) ?restt8
      case hyt8 => intro w hSw; obtain ⟨_, hs1, hs2⟩ := hSw; go_simp; try (with_reducible rfl)
      try simp only [Act.put, List.setIfInBounds_toArray, List.set_cons_zero, List.set_cons_succ]
      refine takeD13 (i := 9) (v := ?vt9) (d := some 48) rfl rfl (by kernel_rfl) (by kernel_rfl) (by kernel_rfl) (fun _ _ _ h => h) (Or.inl ⟨by rfl, ?hyt9⟩) (by assumption) ?restt9
      case hyt9 => intro w hSw; obtain ⟨_, hs1, hs2⟩ := hSw; go_simp; try (with_reducible rfl)
      try simp only [Act.put, List.setIfInBounds_toArray, List.set_cons_zero, List.set_cons_succ]
      refine takeD13 (i := 10) (v := ?vt10) (d := some 49) rfl rfl (by kernel_rfl) (by kernel_rfl) (by kernel_rfl) (fun _ _ _ h => h) (Or.inl ⟨by rfl, ?hyt10⟩) (by assumption) ?restt10
      case hyt10 => intro w hSw; obtain ⟨_, hs1, hs2⟩ := hSw; go_simp; try (with_reducible rfl)
      try simp only [Act.put, List.setIfInBounds_toArray, List.set_cons_zero, List.set_cons_succ]
      refine takeD13 (i := 11) (v := ?vt11) (d := some 50) rfl rfl (by kernel_rfl) (by kernel_rfl) (by kernel_rfl) (fun _ _ _ h => h) (Or.inl ⟨by rfl, ?hyt11⟩) (by assumption) ?restt11
      case hyt11 => intro w hSw; obtain ⟨_, hs1, hs2⟩ := hSw; go_simp; try (with_reducible rfl)
      try simp only [Act.put, List.setIfInBounds_toArray, List.set_cons_zero, List.set_cons_succ]
      refine takeD13 (i := 12) (v := ?vt12) (d := some 51) rfl rfl (by kernel_rfl) (by kernel_rfl) (by kernel_rfl) (fun _ _ _ h => h) (Or.inl ⟨by rfl, ?hyt12⟩) (by assumption) ?restt12
      case hyt12 => intro w hSw; obtain ⟨_, hs1, hs2⟩ := hSw; go_simp; try (with_reducible rfl)
      try simp only [Act.put, List.setIfInBounds_toArray, List.set_cons_zero, List.set_cons_succ]
      refine takeD13 (i := 13) (v := ?vt13) (d := some 52) rfl rfl (by kernel_rfl) (by kernel_rfl) (by kernel_rfl) (fun _ _ _ h => h) (Or.inl ⟨by rfl, ?hyt13⟩) (by assumption) ?restt13
      case hyt13 => intro w hSw; obtain ⟨_, hs1, hs2⟩ := hSw; go_simp; try (with_reducible rfl)
      try simp only [Act.put, List.setIfInBounds_toArray, List.set_cons_zero, List.set_cons_succ]
      refine takeD13 (i := 14) (v := ?vt14) (d := some 53) rfl rfl (by kernel_rfl) (by kernel_rfl) (by kernel_rfl) (fun _ _ _ h => h) (Or.inl ⟨by rfl, ?hyt14⟩) (by assumption) ?restt14
      case hyt14 => intro w hSw; obtain ⟨_, hs1, hs2⟩ := hSw; go_simp; try (with_reducible rfl)
      try simp only [Act.put, List.setIfInBounds_toArray, List.set_cons_zero, List.set_cons_succ]
      refine takeD13 (i := 15) (v := ?vt15) (d := some 54) rfl rfl (by kernel_rfl) (by kernel_rfl) (by kernel_rfl) (fun _ _ _ h => h) (Or.inl ⟨by rfl, ?hyt15⟩) (by assumption) ?restt15
      case hyt15 => intro w hSw; obtain ⟨_, hs1, hs2⟩ := hSw; go_simp; try (with_reducible rfl)
      try simp only [Act.put, List.setIfInBounds_toArray, List.set_cons_zero, List.set_cons_succ]
      refine takeD13 (i := 16) (v := ?vt16) (d := some 55) rfl rfl (by kernel_rfl) (by kernel_rfl) (by kernel_rfl) (fun _ _ _ h => h) (Or.inl ⟨by rfl, ?hyt16⟩) (by assumption) ?restt16
      case hyt16 => intro w hSw; obtain ⟨_, hs1, hs2⟩ := hSw; go_simp; try (with_reducible rfl)
      try simp only [Act.put, List.setIfInBounds_toArray, List.set_cons_zero, List.set_cons_succ]
      refine takeD13 (i := 17) (v := ?vt17) (d := some 56) rfl rfl (by kernel_rfl) (by kernel_rfl) (by kernel_rfl) (fun _ _ _ h => h) (Or.inl ⟨by rfl, ?hyt17⟩) (by assumption) ?restt17
      case hyt17 => intro w hSw; obtain ⟨_, hs1, hs2⟩ := hSw; go_simp; try (with_reducible rfl)
      try simp only [Act.put, List.setIfInBounds_toArray, List.set_cons_zero, List.set_cons_succ]
      refine takeD13 (i := 18) (v := ?vt18) (d := some 57) rfl rfl (by kernel_rfl) (by kernel_rfl) (by kernel_rfl) (fun _ _ _ h => h) (Or.inl ⟨by rfl, ?hyt18⟩) (by assumption) ?restt18
      case hyt18 => intro w hSw; obtain ⟨_, hs1, hs2⟩ := hSw; go_simp; try (with_reducible rfl)
      try simp only [Act.put, List.setIfInBounds_toArray, List.set_cons_zero, List.set_cons_succ]
      refine wpAnyH_ready (rs := [19]) (by kernel_rfl) (by simp) ?_
      refine AllReadyH.cons rfl (fun K hK => ?_) AllReadyH.nil
      go_simp
      go_at_call 89
      refine (outsideC (some ⟨b4, o4, none⟩) c n t y x ou _ HN.out (HA.out.below hHeld.1) hl HRT.out HY.out HY0.out HOU.out).mono ?_
      rintro e wq19 ⟨rfl, hx⟩
      have hbx19 : KeepX w wq19 b4 (o4 + i * 3 + 1) b (o + 1) x y := hHeld.on hx hw4 hbw
      clear hHeld hx
      refine hK.out _ _ hbx19 (fun hHeld => ?_)
      clear hK K
      try simp only [Act.put, List.setIfInBounds_toArray, List.set_cons_zero, List.set_cons_succ]
      refine takeD13 (i := 20) (v := ?vt20) (d := some 59) rfl rfl (by kernel_rfl) (by kernel_rfl) (by kernel_rfl) (fun _ _ _ h => h) (Or.inl ⟨by rfl, ?hyt20⟩) (by assumption) ?restt20
      case hyt20 => intro w hSw; obtain ⟨_, hs1, hs2⟩ := hSw; go_simp; try (with_reducible rfl)
      try simp only [Act.put, List.setIfInBounds_toArray, List.set_cons_zero, List.set_cons_succ]
      refine takeD13 (i := 21) (v := ?vt21) (d := some 6) rfl rfl (by kernel_rfl) (by kernel_rfl) (by kernel_rfl) (fun _ _ _ h => h) (Or.inl ⟨by rfl, ?hyt21⟩) (by assumption) ?restt21
      case hyt21 => intro w hSw; obtain ⟨_, hs1, hs2⟩ := hSw; go_simp; try (with_reducible rfl)
      try simp only [Act.put, List.setIfInBounds_toArray, List.set_cons_zero, List.set_cons_succ]
      refine wpAnyH_done (by kernel_rfl) ?_ _
      go_wp2
      go_ret
      exact ⟨by rw [HE.out]; rfl, hbx19.1⟩
    | false =>
      go_enter Tryd.func67, Tryd.ntmps67
      go_wp2_with fail
      refine (secondC (some ⟨b, o, none⟩) d 4 p s _ HM.out hmd HB.out HSW.out hm0 (by omega) HT.out HS.out).mono ?_
      rintro e w1 ⟨rfl, hb1⟩
      have hit : i < t.length := by rw [HN.out]; exact hi
      obtain ⟨_, c4, _⟩ := (HL4.out.below hb1 hw4).line hit
      rw [HX.out] at c4
      clear hit
      have cy : w1.cell? ⟨b, o + 1, none⟩ = some (.string (sB y)) := cellS (HLP.out.below hb1 hbw) HPY.out
      go_wp2
      refine wp_region_held_drew (S := fun w' => KeepX w w' b4 (o4 + i * 3 + 1) b (o + 1) x y) (by kernel_rfl) ⟨hb1.drew, c4, cy⟩ (fun hHeld => ?_)
      refine takeD13 (i := 0) (v := ?vf0) (d := some 39) rfl rfl (by kernel_rfl) (by kernel_rfl) (by kernel_rfl) (fun _ _ _ h => h) (Or.inl ⟨by rfl, ?hyf0⟩) (by assumption) ?restf0
      case hyf0 => intro w hSw; obtain ⟨_, hs1, hs2⟩ := hSw; go_simp; try (with_reducible rfl)
      try simp only [Act.put, List.setIfInBounds_toArray, List.set_cons_zero, List.set_cons_succ]
      refine takeD13 (i := 1) (v := ?vf1) (d := some 40) rfl rfl (by kernel_rfl) (by kernel_rfl) (by kernel_rfl) (fun _ _ _ h => h) (Or.inl ⟨by rfl, ?hyf1⟩) (by assumption) ?restf1
      case hyf1 => intro w hSw; obtain ⟨_, hs1, hs2⟩ := hSw; go_simp; try (with_reducible rfl)
      try simp only [Act.put, List.setIfInBounds_toArray, List.set_cons_zero, List.set_cons_succ]
      refine takeD13 (i := 2) (v := ?vf2) (d := some 41) rfl rfl (by kernel_rfl) (by kernel_rfl) (by kernel_rfl) (fun _ _ _ h => h) (Or.inl ⟨by rfl, ?hyf2⟩) (by assumption) ?restf2
      case hyf2 => intro w hSw; obtain ⟨_, hs1, hs2⟩ := hSw; go_simp; try (with_reducible rfl)
      try simp only [Act.put, List.setIfInBounds_toArray, List.set_cons_zero, List.set_cons_succ]
      refine takeD13 (i := 3) (v := ?vf3) (d := some 42) rfl rfl (by kernel_rfl) (by kernel_rfl) (by kernel_rfl) (fun _ _ _ h => h) (Or.inl ⟨by rfl, ?hyf3⟩) (by assumption) ?restf3
      case hyf3 => intro w hSw; obtain ⟨_, hs1, hs2⟩ := hSw; go_simp; try (with_reducible rfl)
      try simp only [Act.put, List.setIfInBounds_toArray, List.set_cons_zero, List.set_cons_succ]
      refine takeD13 (i := 4) (v := ?vf4) (d := some 43) rfl rfl (by kernel_rfl) (by kernel_rfl) (by kernel_rfl) (fun _ _ _ h => h) (Or.inl ⟨by rfl, ?hyf4⟩) (by assumption) ?restf4
      case hyf4 => intro w hSw; obtain ⟨_, hs1, hs2⟩ := hSw; go_simp; try (with_reducible rfl)
      try simp only [Act.put, List.setIfInBounds_toArray, List.set_cons_zero, List.set_cons_succ]
      refine takeD13 (i := 5) (v := ?vf5) (d := some 44) rfl rfl (by kernel_rfl) (by kernel_rfl) (by kernel_rfl) (fun _ _ _ h => h) (Or.inl ⟨by rfl, ?hyf5⟩) (by assumption) ?restf5
      case hyf5 => intro w hSw; obtain ⟨_, hs1, hs2⟩ := hSw; go_simp; try (with_reducible rfl)
      try simp only [Act.put, List.setIfInBounds_toArray, List.set_cons_zero, List.set_cons_succ]
      refine anyH_abs13 (G := fun z => KeepX w z b4 (o4 + i * 3 + 1) b (o + 1) x y) ⟨hb1.drew, c4, cy⟩ (fun z0 hz => ?_)
      refine wpAnyH_ready (rs := [6]) (by kernel_rfl) (by simp) ?_
      refine AllReadyH.cons rfl (fun K hK => ?_) AllReadyH.nil
      obtain ⟨g1, hg1⟩ : ∃ g, z0.heap.size = g := ⟨_, rfl⟩
      go_simp
      try rw [hg1]
      have hu := up z0 (.cells #[.string (sB C.wVnis), .string (sB x)] 9)
      have hk1 := hz.on hu hw4 hbw
      refine hK.out _ _ hk1 (fun hHeld => ?_)
      clear hK K
      try simp only [Act.put, List.setIfInBounds_toArray, List.set_cons_zero, List.set_cons_succ]
      refine anyH_abs13 (G := fun z => KeepX w z b4 (o4 + i * 3 + 1) b (o + 1) x y ∧ Seen eS z (some ⟨g1, 0, none⟩) [C.wVnis, x]) ⟨hk1, by rw [← hg1]; exact lit_seen eS z0 [C.wVnis, x] _ rfl (by simp)⟩ (fun z1 hz => ?_)
      obtain ⟨hk2, hl1⟩ := hz
      clear hHeld
      have hHeld := hk2
      clear hu hk1
      refine wpAnyH_ready (rs := [7]) (by kernel_rfl) (by simp) ?_
      refine AllReadyH.cons rfl (fun K hK => ?_) AllReadyH.nil
      go_simp
      go_at_call 66
      refine (thereQ13 (some ⟨b4, o4, none⟩) _ c _ n t C.wVnis x false _ HN.out (HA.out.below hHeld.1) hl1 hl HRT.out HTH.out).mono ?_
      rintro e wq7 ⟨rfl, hx⟩
      have hbx7 : KeepX w wq7 b4 (o4 + i * 3 + 1) b (o + 1) x y := hHeld.on hx hw4 hbw
      clear hHeld hx
      refine hK.out _ _ hbx7 (fun hHeld => ?_)
      clear hK K
      try simp only [Act.put, List.setIfInBounds_toArray, List.set_cons_zero, List.set_cons_succ]
      refine takeD13 (i := 8) (v := ?vf8) (d := some 47) rfl rfl (by kernel_rfl) (by kernel_rfl) (by kernel_rfl) (fun _ _ _ h => h) (Or.inl ⟨by rfl, ?hyf8⟩) (by assumption) ?restf8
      case hyf8 => intro w hSw; obtain ⟨_, hs1, hs2⟩ := hSw; go_simp; try (with_reducible rfl)
      try simp only [Act.put, List.setIfInBounds_toArray, List.set_cons_zero, List.set_cons_succ]
      refine takeD13 (i := 9) (v := ?vf9) (d := some 48) rfl rfl (by kernel_rfl) (by kernel_rfl) (by kernel_rfl) (fun _ _ _ h => h) (Or.inl ⟨by rfl, ?hyf9⟩) (by assumption) ?restf9
      case hyf9 => intro w hSw; obtain ⟨_, hs1, hs2⟩ := hSw; go_simp; try (with_reducible rfl)
      try simp only [Act.put, List.setIfInBounds_toArray, List.set_cons_zero, List.set_cons_succ]
      refine takeD13 (i := 10) (v := undef) (d := some 49) rfl rfl (by kernel_rfl) (by kernel_rfl) (by kernel_rfl) (fun _ _ _ h => h) (Or.inr ⟨by rfl, rfl⟩) (by assumption) ?_
      try simp only [Act.put, List.setIfInBounds_toArray, List.set_cons_zero, List.set_cons_succ]
      refine takeD13 (i := 11) (v := undef) (d := some 50) rfl rfl (by kernel_rfl) (by kernel_rfl) (by kernel_rfl) (fun _ _ _ h => h) (Or.inr ⟨by rfl, rfl⟩) (by assumption) ?_
      try simp only [Act.put, List.setIfInBounds_toArray, List.set_cons_zero, List.set_cons_succ]
      refine takeD13 (i := 12) (v := undef) (d := some 51) rfl rfl (by kernel_rfl) (by kernel_rfl) (by kernel_rfl) (fun _ _ _ h => h) (Or.inr ⟨by rfl, rfl⟩) (by assumption) ?_
      try simp only [Act.put, List.setIfInBounds_toArray, List.set_cons_zero, List.set_cons_succ]
      refine takeD13 (i := 13) (v := undef) (d := some 52) rfl rfl (by kernel_rfl) (by kernel_rfl) (by kernel_rfl) (fun _ _ _ h => h) (Or.inr ⟨by rfl, rfl⟩) (by assumption) ?_
      try simp only [Act.put, List.setIfInBounds_toArray, List.set_cons_zero, List.set_cons_succ]
      refine takeD13 (i := 14) (v := undef) (d := some 53) rfl rfl (by kernel_rfl) (by kernel_rfl) (by kernel_rfl) (fun _ _ _ h => h) (Or.inr ⟨by rfl, rfl⟩) (by assumption) ?_
      try simp only [Act.put, List.setIfInBounds_toArray, List.set_cons_zero, List.set_cons_succ]
      refine takeD13 (i := 15) (v := undef) (d := some 54) rfl rfl (by kernel_rfl) (by kernel_rfl) (by kernel_rfl) (fun _ _ _ h => h) (Or.inr ⟨by rfl, rfl⟩) (by assumption) ?_
      try simp only [Act.put, List.setIfInBounds_toArray, List.set_cons_zero, List.set_cons_succ]
      refine takeD13 (i := 16) (v := undef) (d := some 55) rfl rfl (by kernel_rfl) (by kernel_rfl) (by kernel_rfl) (fun _ _ _ h => h) (Or.inr ⟨by rfl, rfl⟩) (by assumption) ?_
      try simp only [Act.put, List.setIfInBounds_toArray, List.set_cons_zero, List.set_cons_succ]
      refine takeD13 (i := 17) (v := undef) (d := some 56) rfl rfl (by kernel_rfl) (by kernel_rfl) (by kernel_rfl) (fun _ _ _ h => h) (Or.inr ⟨by rfl, rfl⟩) (by assumption) ?_
      try simp only [Act.put, List.setIfInBounds_toArray, List.set_cons_zero, List.set_cons_succ]
      refine takeD13 (i := 18) (v := undef) (d := some 57) rfl rfl (by kernel_rfl) (by kernel_rfl) (by kernel_rfl) (fun _ _ _ h => h) (Or.inr ⟨by rfl, rfl⟩) (by assumption) ?_
      try simp only [Act.put, List.setIfInBounds_toArray, List.set_cons_zero, List.set_cons_succ]
      refine takeD13 (i := 19) (v := undef) (d := some 58) rfl rfl (by kernel_rfl) (by kernel_rfl) (by kernel_rfl) (fun _ _ _ h => h) (Or.inr ⟨by rfl, rfl⟩) (by assumption) ?_
      try simp only [Act.put, List.setIfInBounds_toArray, List.set_cons_zero, List.set_cons_succ]
      refine takeD13 (i := 20) (v := ?vf20) (d := some 59) rfl rfl (by kernel_rfl) (by kernel_rfl) (by kernel_rfl) (fun _ _ _ h => h) (Or.inl ⟨by rfl, ?hyf20⟩) (by assumption) ?restf20
      case hyf20 => intro w hSw; obtain ⟨_, hs1, hs2⟩ := hSw; go_simp; try (with_reducible rfl)
      try simp only [Act.put, List.setIfInBounds_toArray, List.set_cons_zero, List.set_cons_succ]
      refine takeD13 (i := 21) (v := ?vf21) (d := some 6) rfl rfl (by kernel_rfl) (by kernel_rfl) (by kernel_rfl) (fun _ _ _ h => h) (Or.inl ⟨by rfl, ?hyf21⟩) (by assumption) ?restf21
      case hyf21 => intro w hSw; obtain ⟨_, hs1, hs2⟩ := hSw; go_simp; try (with_reducible rfl)
      try simp only [Act.put, List.setIfInBounds_toArray, List.set_cons_zero, List.set_cons_succ]
      refine wpAnyH_done (by kernel_rfl) ?_ _
      go_wp2
      go_ret
      exact ⟨by rw [HE.out]; rfl, hbx7.1⟩
  have q4 : ((sB s).toList == [98, 105, 110, 100, 105, 110, 103, 115, 32, 36, 105, 112, 32, 118, 110, 105]) = false := by rw [sB_toList, beq_eq_false_iff_ne]; exact h4
  have HE := Lib.hid (show r = false by rw [HC.out, if_neg h0, if_neg (fun h => h.elim h1 h2), if_neg h3, if_neg h4])
  clear h0 h1 h2 h3 h4
  go_enter Tryd.func67, Tryd.ntmps67
  go_wp2_with fail
  refine (secondC (some ⟨b, o, none⟩) d m p s _ HM.out hmd HB.out HSW.out hm0 (by omega) HT.out HS.out).mono ?_
  rintro e w1 ⟨rfl, hb1⟩
  go_wp2
  go_ret
  exact ⟨by rw [HE.out]; rfl, hb1⟩
end Go.Proofs.YtikjdjfpoohieaaDoor

namespace Go.Proofs.YtikjdjfpoohieaaDoor
namespace C
open T (Pth)
/-- The words that lack, of the first k. -/
def lackC (P : List Pth) (p : Pth) (l : List Wd) (k : Nat) : List (Pth × Int) := ((l.take k).filter fun w => !decide (p ++ [w] ∈ P)).map fun w => (p ++ [w], 1)
theorem lackC_next (P : List Pth) (p : Pth) {l : List Wd} {k : Nat} {x : Wd} {hz : Bool} (hx : l[k]? = some x) (hh : decide (p ++ [x] ∈ P) = hz) : lackC P p l (k + 1) = lackC P p l k ++ if hz = true then [] else [(p ++ [x], 1)] := by
  unfold lackC
  obtain ⟨h5, h6⟩ := List.getElem?_eq_some_iff.1 hx
  rw [List.take_succ_eq_append_getElem h5, h6, List.filter_append, List.map_append]
  congr 1
  subst hh
  cases h : decide (p ++ [x] ∈ P) <;> simp [List.filter, h]
theorem lackC_all (P : List Pth) (p : Pth) (l : List Wd) : lackC P p l l.length = (l.filter fun w => !decide (p ++ [w] ∈ P)).map fun w => (p ++ [w], 1) := by
  unfold lackC; rw [List.take_of_length_le (Nat.le_refl _)]
theorem lackC_few (P : List Pth) (p : Pth) (l : List Wd) (k : Nat) (h : l.length ≤ 17) : (lackC P p l k).length ≤ 17 := by
  unfold lackC
  rw [List.length_map]
  refine Nat.le_trans (List.length_filter_le _ _) ?_
  rw [List.length_take]; omega
/-- What a line that holds one tells. -/
def heldF (p : Pth) (e : Int) : List (Pth × Int) := if e ≠ 0 then [(p, e)] else []
def clashF (p : Pth) (c : Bool) : List (Pth × Int) := if c = true then [(p, 7)] else []
theorem faults_three13 (P : List Pth) {p : Pth} (hp : p ≠ []) (hl : liveP p = true) (hk : knownP p = 0) {e : Int} {l : List Wd} {c : Bool} (he : heldB p (kidsP P p).length = e) (hn : needsL p = l) (hc : clashB P p = c) : faultsP P p = heldF p e ++ lackC P p l l.length ++ clashF p c := by
  subst he; subst hn; subst hc
  rw [faults_code P hp hl hk, lackC_all]; rfl
end C
open Go.RowKit
open F
open T (Pth)
set_option linter.unusedVariables false

set_option maxRecDepth 100000 in
theorem clone13 (ad : Addr) (cap n : Nat) (t : Pth) (w : World) (hn : t.length = n) (hp : n ≤ 1073741824) (h : Seen eS w (some ad) t) :
    Calls Tryd.prog 65 #[.slice (some ad) n cap] w (OwnS eS w t) := by
  have HH := Lib.hid (h.below ((Below.refl _ _).alloc (Nat.le_refl _) (.cells #[] eS.T)))
  have HO := Lib.hid (Own.empty eS w)
  clear h
  have q := fun (w : World) (a : Option Addr) (n c : Nat) => Lib.run_eql_slice_nil (P := Tryd.prog) w 34 _ a n c 0 0 Tryd.underlying34
  have HN := Lib.hid hn
  clear hn
  go_enter Tryd.func65, Tryd.ntmps65
  go_wp2_with (first | (at_builtin; refine wpList_appSeen eS (w.alloc (.cells #[] eS.T)) rfl (.tmp 5) (.tmp 6) rfl w.heap.size _ [] rfl HO.out ad t n cap HN.out rfl HH.out (by simp; omega) (by simp) ?_; intro v3 w3 hown3 hb3))
  go_ret
  exact ⟨v3, rfl, hown3, ((Below.refl _ _).alloc (Nat.le_refl _) _).trans hb3⟩
/-- A copy of a path, as a slice. -/
theorem cloneQ13 (ad : Addr) (cap n : Nat) (t : Pth) (w : World) (hn : t.length = n) (hp : n ≤ 1073741824) (h : Seen eS w (some ad) t) :
    Calls Tryd.prog 65 #[.slice (some ad) n cap] w (fun e w' => ∃ A c, e = .returned (.slice A n c) ∧ Own eS w' w.heap.size (.slice A n c) t ∧ Below w.heap.size w w') := by
  refine (clone13 ad cap n t w hn hp h).mono ?_
  rintro e w' ⟨v, rfl, ho, hb⟩
  obtain ⟨A, c, e, hc, hs⟩ := ho.seen
  subst e
  rw [hn] at ho ⊢
  exact ⟨A, c, rfl, ho, hb⟩
theorem ptk13 {w : World} {base n c : Nat} {A : Option Addr} {p : Pth} (h : Own eS w base (.slice A n c) p) (hn : p.length = n) : PtK w base ⟨A, n, c⟩ p := by
  obtain ⟨A2, c2, e, hp⟩ := own_pt h
  injection e with e1 e2 e3
  subst e1; subst e3
  rw [hn] at hp
  exact hp
set_option maxRecDepth 100000 in
set_option maxHeartbeats 16000000 in
theorem faultsC (A B : Option Addr) (c d n m i : Nat) (t : List T.Ln) (p : Pth) (w : World) (hn : t.length = n) (hA : Seen eL w A t) (hl : n ≤ 200) (hR : T.RightT t) (hi : i < n) (hp : T.pathL t i = p) (hm : p.length = m) (hmd : m ≤ d) (hB : Seen eS w B p) (HT : RowsOk w) (hlv : C.liveP p = true) (hk : C.knownP p = 0) :
    Calls Tryd.prog 36 #[.slice A n c, .int .i64 (i : Int), .slice B m d] w (fun e w' => ∃ v, e = .returned v ∧ OwnF eFc w' w.heap.size w.heap.size v (C.faultsP (C.pths t) p) ∧ Below w.heap.size w w') := by
  have hit : i < t.length := by rw [hn]; exact hi
  have hm16 : m ≤ 16 := by
    have h1 := hR.path_len i i (Nat.le_refl _) hit
    have h2 := hR.deep i hit
    rw [hp, hm] at h1; omega
  have hne : p ≠ [] := by rw [← hp]; exact T.path_ne
  have hm0 : 0 < m := by rw [← hm]; exact List.length_pos_iff.2 hne
  have hsw : ShortW p := by rw [← hp]; exact short_path hR hit
  obtain ⟨b, o, rfl, hbw, hLp⟩ := hB (by omega)
  obtain ⟨kk, hkk⟩ : ∃ kk, (T.kidsL t (i : Int)).length = kk := ⟨_, rfl⟩
  obtain ⟨er, her⟩ : ∃ er, C.heldB p kk = er := ⟨_, rfl⟩
  obtain ⟨l, hl0⟩ : ∃ l, needsL p = l := ⟨_, rfl⟩
  obtain ⟨nl, hnl⟩ : ∃ nl, l.length = nl := ⟨_, rfl⟩
  obtain ⟨cb, hcb⟩ : ∃ cb, C.clashB (C.pths t) p = cb := ⟨_, rfl⟩
  have hnl17 : nl ≤ 17 := by rw [← hnl, ← hl0, ← C.need_all]; exact C.need_few p 17
  have HALL := Lib.hid (show C.faultsP (C.pths t) p = C.heldF p er ++ C.lackC (C.pths t) p l nl ++ C.clashF p cb by
    rw [← hnl]
    exact C.faults_three13 (C.pths t) hne hlv hk (by rw [← hp, C.kids_count hR hit, hkk, hp]; exact her) hl0 hcb)
  have HLF := Lib.hid (show ∀ k, (C.lackC (C.pths t) p l k).length ≤ 17 from fun k => C.lackC_few _ _ _ _ (by omega))
  have HA := Lib.hid hA
  have HN := Lib.hid hn
  have HRT := Lib.hid hR
  have HP := Lib.hid hp
  have HM := Lib.hid hm
  have HB := Lib.hid hB
  have HSW := Lib.hid hsw
  have HT := Lib.hid HT
  have HKK := Lib.hid hkk
  have HER := Lib.hid her
  have HLL := Lib.hid hl0
  have HNL := Lib.hid hnl
  have HCB := Lib.hid hcb
  clear hn hA hR hp hm hB hsw hLp hkk her hl0 hnl hcb hlv hk hne hit
  go_enter Tryd.func36, Tryd.ntmps36
  go_wp2_with fail
  refine (heldC A (some ⟨b, o, none⟩) c d n i m kk t p er _ HN.out HA.out hl HRT.out hi HM.out HB.out HSW.out (by omega) HT.out HKK.out HER.out).mono ?_
  rintro e w1 ⟨rfl, hb⟩
  by_cases h0 : er = 0
  · have z0 : (er != 0) = false := by simp [h0]
    have HH0 := Lib.hid (show C.heldF p er = [] by unfold C.heldF; rw [if_neg (fun h => h h0)])
    have HO := Lib.hid (OwnF.nil eFc w1 w.heap.size w.heap.size)
    have HL0 := Lib.hid (show ([] : List Fl).length ≤ 1 by simp)
    clear h0
    go_wp2_with fail
    refine (needsC (some ⟨b, o, none⟩) d m p _ HM.out (HB.out.below hb) HSW.out (by omega) (HT.out.below hb)).mono ?_
    rintro e w3 ⟨v3, rfl, hown3, hx⟩
    rw [HLL.out] at hown3
    have HO3 := Lib.hid (HO.out.keep hx)
    obtain ⟨A3, c3, rfl, hpt3⟩ := own_pt hown3
    have HPL := Lib.hid hpt3.pt
    have HFL := Lib.hid (free13 (m := ⟨A3, l.length, c3⟩) (x := l) HO.out hpt3.from_)
    rw [HNL.out] at HPL HFL ⊢
    replace hb := bthen hb hx
    clear hx hown3 hpt3
    go_wp2
    go_loopg [7, 28] nl (fun g2 vo vi wr => ∃ k : Nat, Hid (k + g2 = nl) ∧ k ≤ nl ∧ vi = .int .i64 (k : Int) ∧ Hid (OwnF eFc wr w.heap.size w.heap.size vo (([] : List Fl) ++ C.lackC (C.pths t) p l k)) ∧ Hid (PtS wr ⟨A3, nl, c3⟩ l) ∧ Hid (FreeQ vo ⟨A3, nl, c3⟩ l) ∧ Below w.heap.size w wr)
    case atStart => exact ⟨0, Nat.zero_add _, Nat.zero_le _, rfl, (by show OwnF _ _ _ _ _ (([] : List Fl) ++ []); rw [List.append_nil]; exact HO3.out), HPL.out, HFL.out, hb⟩
    case round =>
      obtain ⟨k, HG2, hk, rfl, HOK, HPLK, HFLK, hbk⟩ := hrel
      have hgk2 := HG2.out
      have hszk := hbk.size
      by_cases hlt2 : k < nl
      · have blt3 : decide ((k : Int) < (nl : Int)) = true := decide_eq_true (by omega)
        have blt4 : decide (k < nl) = true := decide_eq_true hlt2
        have hki : (k : Int) < (nl : Int) := by omega
        obtain ⟨x, hx0⟩ : ∃ x, l[k]? = some x := ⟨_, List.getElem?_eq_getElem (by rw [HNL.out]; exact hlt2)⟩
        obtain ⟨b5, o5, hA5, hw5, hL5⟩ := HPLK.out.seen (by rw [HNL.out]; omega)
        have hA5 : A3 = some ⟨b5, o5, none⟩ := hA5
        subst hA5
        have c5 : wr.cell? ⟨b5, o5 + k, none⟩ = some (.string (sB x)) := cellS hL5 hx0
        obtain ⟨hz, hhz⟩ : ∃ hz, decide (p ++ [x] ∈ C.pths t) = hz := ⟨_, rfl⟩
        have HHZ := Lib.hid hhz
        have HNX := Lib.hid (C.lackC_next (C.pths t) p hx0 hhz)
        have HPX := Lib.hid (show (p ++ [x]).length = m + 1 by rw [List.length_append, HM.out]; rfl)
        clear hL5 hx0 hhz hw5
        go_wp2_with fail
        refine (cloneQ13 ⟨b, o, none⟩ d m p _ HM.out (by omega) (HB.out.below hbk)).mono ?_
        rintro e w6 ⟨A6, c6, rfl, hown6, hx6⟩
        have HO6 := Lib.hid hown6
        have hsz6 := hx6.size
        have HLM := Lib.hid (show p.length + 1 ≤ 1099511627776 by rw [HM.out]; omega)
        clear hown6
        go_wp2_with (at_builtin; refine wpList_appG eS w6 rfl (.tmp 33) (.tmp 35) rfl wr.heap.size (.slice A6 m c6) p rfl HO6.out x 1 _ rfl w6.heap.size rfl rfl HLM.out hsz6 ?_; intro v7 w7 hown7 hx7)
        have hx67 := hx6.trans hx7
        obtain ⟨A7, c7, rfl, hpt7⟩ := own_pt hown7
        rw [HPX.out] at hpt7 ⊢
        have HPT7 := Lib.hid hpt7
        have HO7 := Lib.hid (HOK.out.keep hx67)
        have HPL7 := Lib.hid (HPLK.out.below hx67)
        have hb7 := bthen hbk hx67
        clear hown7 hpt7 hx6 hx7
        cases hz with
        | true =>
          have HE2 := Lib.hid (show C.lackC (C.pths t) p l (k + 1) = C.lackC (C.pths t) p l k by rw [HNX.out, if_pos rfl, List.append_nil])
          go_wp2_with fail
          refine (thereC A A7 c c7 n (m + 1) t (p ++ [x]) true _ HN.out HPX.out (HA.out.below hb7) HPT7.out.pt.seen (by omega) (by omega) HRT.out HHZ.out).mono ?_
          rintro e w8 ⟨rfl, hx⟩
          go_wp2
          go_roundg (nl - (k + 1))
          case rel => exact ⟨k + 1, (by show _ = _; omega), by omega, by go_num, (by rw [HE2.out]; exact HO7.out.keep hx), HPL7.out.below hx, HFLK.out, bthen hb7 hx⟩
          case measure => omega
        | false =>
          have HE2 := Lib.hid (show C.lackC (C.pths t) p l (k + 1) = C.lackC (C.pths t) p l k ++ [(p ++ [x], 1)] by rw [HNX.out, if_neg (by decide)])
          have HFX := Lib.hid (free13 (m := ⟨A7, m + 1, c7⟩) (x := p ++ [x]) HOK.out HPT7.out.from_)
          go_wp2_with fail
          refine (thereC A A7 c c7 n (m + 1) t (p ++ [x]) false _ HN.out HPX.out (HA.out.below hb7) HPT7.out.pt.seen (by omega) (by omega) HRT.out HHZ.out).mono ?_
          rintro e w8 ⟨rfl, hx⟩
          have HO8 := Lib.hid (HO7.out.keep hx)
          have HPL8 := Lib.hid (HPL7.out.below hx)
          have hb8 := bthen hb7 hx
          have HFK := Lib.hid (show FlK w8 w.heap.size ⟨⟨A7, m + 1, c7⟩, 1⟩ (p ++ [x], 1) from ⟨(HPT7.out.below hx).less hszk, rfl⟩)
          have HLN := Lib.hid (show (([] : List Fl) ++ C.lackC (C.pths t) p l k).length + 1 ≤ 1099511627776 by rw [List.length_append]; have := HLF.out k; have := HL0.out; omega)
          have hszx := hb8.size
          clear hx
          go_wp2_with (at_builtin; refine wpList_appF2 eFc w8 rfl (.tmp 41) (.tmp 44) rfl w.heap.size w.heap.size u7 (([] : List Fl) ++ C.lackC (C.pths t) p l k) rfl HO8.out (p ++ [x], 1) ⟨⟨A7, m + 1, c7⟩, 1⟩ HFK.out HFX.out 1 _ rfl w8.heap.size rfl rfl HLN.out hszx ?_; intro v9 w9 hown9 hb9 hst9)
          obtain ⟨s3, s4⟩ := hst9 _ _ HPL8.out HFLK.out
          go_roundg (nl - (k + 1))
          case rel => exact ⟨k + 1, (by show _ = _; omega), by omega, by go_num, (by rw [HE2.out, ← List.append_assoc]; exact hown9), s3, s4, hb8.trans hb9⟩
          case measure => omega
      · have blt3 : decide ((k : Int) < (nl : Int)) = false := decide_eq_false (by omega)
        have blt4 : decide (k < nl) = false := decide_eq_false hlt2
        obtain rfl : k = nl := by omega
        go_wp2_with fail
        refine (clashesC A (some ⟨b, o, none⟩) c d n m i t p cb _ HN.out (HA.out.below hbk) hl HRT.out hi HP.out HM.out hmd (HB.out.below hbk) (HT.out.below hbk) HCB.out).mono ?_
        rintro e w6 ⟨rfl, hx⟩
        have HO6 := Lib.hid (HOK.out.keep hx)
        have hb6 := bthen hbk hx
        clear hx
        cases cb with
        | false =>
          have HE := Lib.hid (show C.faultsP (C.pths t) p = ([] : List Fl) ++ C.lackC (C.pths t) p l k by rw [HALL.out, HH0.out]; show _ ++ [] = _; rw [List.append_nil])
          go_wp2
          go_ret
          exact ⟨_, rfl, (by rw [HE.out]; exact HO6.out), hb6⟩
        | true =>
          have HE := Lib.hid (show C.faultsP (C.pths t) p = (([] : List Fl) ++ C.lackC (C.pths t) p l k) ++ [(p, 7)] by rw [HALL.out, HH0.out]; rfl)
          go_wp2_with fail
          refine (cloneQ13 ⟨b, o, none⟩ d m p _ HM.out (by omega) (HB.out.below hb6)).mono ?_
          rintro e w7 ⟨A7, c7, rfl, hown7, hx⟩
          have HO7 := Lib.hid (HO6.out.keep hx)
          have hb7 := bthen hb6 hx
          have hpt7 := ptk13 hown7 HM.out
          have HFX := Lib.hid (free13 (m := ⟨A7, m, c7⟩) (x := p) HO6.out hpt7.from_)
          have HFK := Lib.hid (show FlK w7 w.heap.size ⟨⟨A7, m, c7⟩, 7⟩ (p, 7) from ⟨hpt7.less hb6.size, rfl⟩)
          have HLN := Lib.hid (show (([] : List Fl) ++ C.lackC (C.pths t) p l k).length + 1 ≤ 1099511627776 by rw [List.length_append]; have := HLF.out k; have := HL0.out; omega)
          have hszx := hb7.size
          clear hx hown7 hpt7
          go_wp2_with (at_builtin; refine wpList_appF eFc w7 rfl (.tmp 51) (.tmp 55) rfl w.heap.size w.heap.size u7 (([] : List Fl) ++ C.lackC (C.pths t) p l k) rfl HO7.out (p, 7) ⟨⟨A7, m, c7⟩, 7⟩ HFK.out HFX.out 1 _ rfl w7.heap.size rfl rfl HLN.out hszx ?_; intro v9 w9 hown9 hb9)
          go_ret
          exact ⟨_, rfl, (by rw [HE.out]; exact hown9), hb7.trans hb9⟩
  · have z0 : (er != 0) = true := by simp [h0]
    have HH0 := Lib.hid (show C.heldF p er = [(p, er)] by unfold C.heldF; rw [if_pos h0])
    have HL0 := Lib.hid (show ([(p, er)] : List Fl).length ≤ 1 by simp)
    clear h0
    go_wp2_with fail
    refine (cloneQ13 ⟨b, o, none⟩ d m p _ HM.out (by omega) (HB.out.below hb)).mono ?_
    rintro e w2 ⟨A2, c2, rfl, hown2, hx⟩
    have hpt2 := ptk13 hown2 HM.out
    have HO1 := Lib.hid (OwnF.nil eFc w2 w.heap.size w.heap.size)
    have HFX := Lib.hid (free13 (m := ⟨A2, m, c2⟩) (x := p) (OwnF.nil eFc w1 w.heap.size w.heap.size) hpt2.from_)
    have HFK := Lib.hid (show FlK w2 w.heap.size ⟨⟨A2, m, c2⟩, er⟩ (p, er) from ⟨hpt2.less hb.size, rfl⟩)
    replace hb := bthen hb hx
    have hszx := hb.size
    clear hx hown2 hpt2
    go_wp2_with (at_builtin; refine wpList_appF eFc w2 rfl (.tmp 18) (.tmp 23) rfl w.heap.size w.heap.size (.slice none 0 0) [] rfl HO1.out (p, er) ⟨⟨A2, m, c2⟩, er⟩ HFK.out HFX.out 1 _ rfl w2.heap.size rfl rfl (by simp) hszx ?_; intro v9 w9 hown9 hb9)
    replace hb := hb.trans hb9
    have HO := Lib.hid (show OwnF eFc w9 w.heap.size w.heap.size v9 [(p, er)] from hown9)
    clear hb9 hown9
    refine (needsC (some ⟨b, o, none⟩) d m p _ HM.out (HB.out.below hb) HSW.out (by omega) (HT.out.below hb)).mono ?_
    rintro e w3 ⟨v3, rfl, hown3, hx⟩
    rw [HLL.out] at hown3
    have HO3 := Lib.hid (HO.out.keep hx)
    obtain ⟨A3, c3, rfl, hpt3⟩ := own_pt hown3
    have HPL := Lib.hid hpt3.pt
    have HFL := Lib.hid (free13 (m := ⟨A3, l.length, c3⟩) (x := l) HO.out hpt3.from_)
    rw [HNL.out] at HPL HFL ⊢
    replace hb := bthen hb hx
    clear hx hown3 hpt3
    go_wp2
    go_loopg [7, 28] nl (fun g2 vo vi wr => ∃ k : Nat, Hid (k + g2 = nl) ∧ k ≤ nl ∧ vi = .int .i64 (k : Int) ∧ Hid (OwnF eFc wr w.heap.size w.heap.size vo ([(p, er)] ++ C.lackC (C.pths t) p l k)) ∧ Hid (PtS wr ⟨A3, nl, c3⟩ l) ∧ Hid (FreeQ vo ⟨A3, nl, c3⟩ l) ∧ Below w.heap.size w wr)
    case atStart => exact ⟨0, Nat.zero_add _, Nat.zero_le _, rfl, (by show OwnF _ _ _ _ _ ([(p, er)] ++ []); rw [List.append_nil]; exact HO3.out), HPL.out, HFL.out, hb⟩
    case round =>
      obtain ⟨k, HG2, hk, rfl, HOK, HPLK, HFLK, hbk⟩ := hrel
      have hgk2 := HG2.out
      have hszk := hbk.size
      by_cases hlt2 : k < nl
      · have blt3 : decide ((k : Int) < (nl : Int)) = true := decide_eq_true (by omega)
        have blt4 : decide (k < nl) = true := decide_eq_true hlt2
        have hki : (k : Int) < (nl : Int) := by omega
        obtain ⟨x, hx0⟩ : ∃ x, l[k]? = some x := ⟨_, List.getElem?_eq_getElem (by rw [HNL.out]; exact hlt2)⟩
        obtain ⟨b5, o5, hA5, hw5, hL5⟩ := HPLK.out.seen (by rw [HNL.out]; omega)
        have hA5 : A3 = some ⟨b5, o5, none⟩ := hA5
        subst hA5
        have c5 : wr.cell? ⟨b5, o5 + k, none⟩ = some (.string (sB x)) := cellS hL5 hx0
        obtain ⟨hz, hhz⟩ : ∃ hz, decide (p ++ [x] ∈ C.pths t) = hz := ⟨_, rfl⟩
        have HHZ := Lib.hid hhz
        have HNX := Lib.hid (C.lackC_next (C.pths t) p hx0 hhz)
        have HPX := Lib.hid (show (p ++ [x]).length = m + 1 by rw [List.length_append, HM.out]; rfl)
        clear hL5 hx0 hhz hw5
        go_wp2_with fail
        refine (cloneQ13 ⟨b, o, none⟩ d m p _ HM.out (by omega) (HB.out.below hbk)).mono ?_
        rintro e w6 ⟨A6, c6, rfl, hown6, hx6⟩
        have HO6 := Lib.hid hown6
        have hsz6 := hx6.size
        have HLM := Lib.hid (show p.length + 1 ≤ 1099511627776 by rw [HM.out]; omega)
        clear hown6
        go_wp2_with (at_builtin; refine wpList_appG eS w6 rfl (.tmp 33) (.tmp 35) rfl wr.heap.size (.slice A6 m c6) p rfl HO6.out x 1 _ rfl w6.heap.size rfl rfl HLM.out hsz6 ?_; intro v7 w7 hown7 hx7)
        have hx67 := hx6.trans hx7
        obtain ⟨A7, c7, rfl, hpt7⟩ := own_pt hown7
        rw [HPX.out] at hpt7 ⊢
        have HPT7 := Lib.hid hpt7
        have HO7 := Lib.hid (HOK.out.keep hx67)
        have HPL7 := Lib.hid (HPLK.out.below hx67)
        have hb7 := bthen hbk hx67
        clear hown7 hpt7 hx6 hx7
        cases hz with
        | true =>
          have HE2 := Lib.hid (show C.lackC (C.pths t) p l (k + 1) = C.lackC (C.pths t) p l k by rw [HNX.out, if_pos rfl, List.append_nil])
          go_wp2_with fail
          refine (thereC A A7 c c7 n (m + 1) t (p ++ [x]) true _ HN.out HPX.out (HA.out.below hb7) HPT7.out.pt.seen (by omega) (by omega) HRT.out HHZ.out).mono ?_
          rintro e w8 ⟨rfl, hx⟩
          go_wp2
          go_roundg (nl - (k + 1))
          case rel => exact ⟨k + 1, (by show _ = _; omega), by omega, by go_num, (by rw [HE2.out]; exact HO7.out.keep hx), HPL7.out.below hx, HFLK.out, bthen hb7 hx⟩
          case measure => omega
        | false =>
          have HE2 := Lib.hid (show C.lackC (C.pths t) p l (k + 1) = C.lackC (C.pths t) p l k ++ [(p ++ [x], 1)] by rw [HNX.out, if_neg (by decide)])
          have HFX := Lib.hid (free13 (m := ⟨A7, m + 1, c7⟩) (x := p ++ [x]) HOK.out HPT7.out.from_)
          go_wp2_with fail
          refine (thereC A A7 c c7 n (m + 1) t (p ++ [x]) false _ HN.out HPX.out (HA.out.below hb7) HPT7.out.pt.seen (by omega) (by omega) HRT.out HHZ.out).mono ?_
          rintro e w8 ⟨rfl, hx⟩
          have HO8 := Lib.hid (HO7.out.keep hx)
          have HPL8 := Lib.hid (HPL7.out.below hx)
          have hb8 := bthen hb7 hx
          have HFK := Lib.hid (show FlK w8 w.heap.size ⟨⟨A7, m + 1, c7⟩, 1⟩ (p ++ [x], 1) from ⟨(HPT7.out.below hx).less hszk, rfl⟩)
          have HLN := Lib.hid (show ([(p, er)] ++ C.lackC (C.pths t) p l k).length + 1 ≤ 1099511627776 by rw [List.length_append]; have := HLF.out k; have := HL0.out; omega)
          have hszx := hb8.size
          clear hx
          go_wp2_with (at_builtin; refine wpList_appF2 eFc w8 rfl (.tmp 41) (.tmp 44) rfl w.heap.size w.heap.size u7 ([(p, er)] ++ C.lackC (C.pths t) p l k) rfl HO8.out (p ++ [x], 1) ⟨⟨A7, m + 1, c7⟩, 1⟩ HFK.out HFX.out 1 _ rfl w8.heap.size rfl rfl HLN.out hszx ?_; intro v9 w9 hown9 hb9 hst9)
          obtain ⟨s3, s4⟩ := hst9 _ _ HPL8.out HFLK.out
          go_roundg (nl - (k + 1))
          case rel => exact ⟨k + 1, (by show _ = _; omega), by omega, by go_num, (by rw [HE2.out, ← List.append_assoc]; exact hown9), s3, s4, hb8.trans hb9⟩
          case measure => omega
      · have blt3 : decide ((k : Int) < (nl : Int)) = false := decide_eq_false (by omega)
        have blt4 : decide (k < nl) = false := decide_eq_false hlt2
        obtain rfl : k = nl := by omega
        go_wp2_with fail
        refine (clashesC A (some ⟨b, o, none⟩) c d n m i t p cb _ HN.out (HA.out.below hbk) hl HRT.out hi HP.out HM.out hmd (HB.out.below hbk) (HT.out.below hbk) HCB.out).mono ?_
        rintro e w6 ⟨rfl, hx⟩
        have HO6 := Lib.hid (HOK.out.keep hx)
        have hb6 := bthen hbk hx
        clear hx
        cases cb with
        | false =>
          have HE := Lib.hid (show C.faultsP (C.pths t) p = [(p, er)] ++ C.lackC (C.pths t) p l k by rw [HALL.out, HH0.out]; show _ ++ [] = _; rw [List.append_nil])
          go_wp2
          go_ret
          exact ⟨_, rfl, (by rw [HE.out]; exact HO6.out), hb6⟩
        | true =>
          have HE := Lib.hid (show C.faultsP (C.pths t) p = ([(p, er)] ++ C.lackC (C.pths t) p l k) ++ [(p, 7)] by rw [HALL.out, HH0.out]; rfl)
          go_wp2_with fail
          refine (cloneQ13 ⟨b, o, none⟩ d m p _ HM.out (by omega) (HB.out.below hb6)).mono ?_
          rintro e w7 ⟨A7, c7, rfl, hown7, hx⟩
          have HO7 := Lib.hid (HO6.out.keep hx)
          have hb7 := bthen hb6 hx
          have hpt7 := ptk13 hown7 HM.out
          have HFX := Lib.hid (free13 (m := ⟨A7, m, c7⟩) (x := p) HO6.out hpt7.from_)
          have HFK := Lib.hid (show FlK w7 w.heap.size ⟨⟨A7, m, c7⟩, 7⟩ (p, 7) from ⟨hpt7.less hb6.size, rfl⟩)
          have HLN := Lib.hid (show ([(p, er)] ++ C.lackC (C.pths t) p l k).length + 1 ≤ 1099511627776 by rw [List.length_append]; have := HLF.out k; have := HL0.out; omega)
          have hszx := hb7.size
          clear hx hown7 hpt7
          go_wp2_with (at_builtin; refine wpList_appF eFc w7 rfl (.tmp 51) (.tmp 55) rfl w.heap.size w.heap.size u7 ([(p, er)] ++ C.lackC (C.pths t) p l k) rfl HO7.out (p, 7) ⟨⟨A7, m, c7⟩, 7⟩ HFK.out HFX.out 1 _ rfl w7.heap.size rfl rfl HLN.out hszx ?_; intro v9 w9 hown9 hb9)
          go_ret
          exact ⟨_, rfl, (by rw [HE.out]; exact hown9), hb7.trans hb9⟩
end Go.Proofs.YtikjdjfpoohieaaDoor

namespace Go.Proofs.YtikjdjfpoohieaaDoor
open Go.RowKit
open F
open T (Pth)
set_option linter.unusedVariables false

/-- append of many faults. -/
theorem wpList_appFM (E : Elem FlM) {ops : Array Oper} {rest : List Oper} {o : Oper} {a : Act} {Q : Exit → Act → World → Prop} (w : World) (hgd : o.guard = none) (s x : Operand)
    (ho : o.op = .call { callee := .builtin .append, args := #[s, x], argTypes := #[E.st, E.st] })
    (base k k2 : Nat) (v : Value) (L : List Fl) (hs : a.eval s = v) (hown : OwnF E w base k v L) (v2 : Value) (L2 : List Fl) (hx : a.eval x = v2) (h2 : ManyF E w k2 v2 L2) (hk : k ≤ k2) (hfree : ∀ b, v.ownBlock = some b → b < k2)
    (hlen : L.length + L2.length ≤ 1099511627776) (hb : base ≤ w.heap.size)
    (h : ∀ v' w', OwnF E w' base k v' (L ++ L2) → Below base w w' → wpList Tryd.prog ops Q rest (a.put o.dst v') w') : wpList Tryd.prog ops Q (o :: rest) a w := by
  obtain ⟨M, h1, h3, h4⟩ := hown
  obtain ⟨M2, g1, g3, g4⟩ := h2
  refine wpList_appM E w hgd s x ho base v M hs h3 v2 M2 hx g3 (by omega) hb fun v' w' hO hB hG => h v' w' ?_ hB
  have step : ∀ (m : FlM) (x : Fl), FlK w k m x → FreeQ v m.1 x.1 → FlK w' k m x ∧ FreeQ v' m.1 x.1 := by
    intro m x hx hf
    obtain ⟨q1, q2, q3⟩ := hG
    refine ⟨⟨⟨⟨hx.pt.pt.len, hx.pt.pt.cap, fun hp => ?_⟩, hx.pt.from_⟩, hx.num⟩, fun hp a ha e => ?_⟩
    · obtain ⟨b, o, e, hb, hH⟩ := hx.pt.pt.seen hp
      have hne := hf hp _ e
      exact ⟨b, o, e, Nat.lt_of_lt_of_le hb q1, holds_of_block hH (q2 b hb hne)⟩
    · obtain ⟨b, o, e2, hb, _⟩ := hx.pt.pt.seen hp
      have hne := hf hp a ha
      have eb : a.block = b := by rw [e2] at ha; injection ha with ha; rw [← ha]
      rcases q3 _ e with h | h
      · exact hne h
      · omega
  refine ⟨M ++ M2, by rw [List.length_append, List.length_append, h1, g1], hO, fun i hi1 hi2 => ?_⟩
  by_cases hi : i < M.length
  · rw [List.getElem_append_left hi, List.getElem_append_left (by omega)]
    exact step _ _ (h4 i hi (by omega)).1 (h4 i hi (by omega)).2
  · rw [List.getElem_append_right (by omega), List.getElem_append_right (by omega)]
    have e : i - L.length = i - M.length := by omega
    have hq := g4 (i - M.length) (by rw [List.length_append] at hi1; omega) (by rw [List.length_append] at hi2; omega)
    have hi3 : i - M.length < M2.length := by rw [List.length_append] at hi1; omega
    have hq2 : FlK w k2 M2[i - M.length] (L2[i - L.length]'(by rw [List.length_append] at hi2; omega)) := by simp only [e]; exact hq
    refine step _ _ (hq2.less hk) (fun hp a ha e2 => ?_)
    have h5 := hq2.pt.from_ a ha
    have h6 := hfree _ e2
    omega
theorem rightC13 (A : Option Addr) (c n : Nat) (t : List T.Ln) (b : Bool) (w : World) (hn : t.length = n) (hA : Seen eL w A t) (hl : n ≤ 1073741824) (h : b = true ↔ T.RightT t) : Calls Tryd.prog 32 #[.slice A n c] w (BoolS w b) := by subst hn; exact right_is A c t b w hA hl h
theorem endC13 (A : Option Addr) (c n : Nat) (t : List T.Ln) (i : Nat) (w : World) (hn : t.length = n) (hA : Seen eL w A t) (hl : n ≤ 1073741824) (hi : i < n) (hR : T.RightT t) :
    Calls Tryd.prog 35 #[.slice A n c, .int .i64 (i : Int)] w (IntS w (T.endL t i : Nat)) := by subst hn; exact End_yes A c t i w hA hl hi hR
set_option maxRecDepth 100000 in
set_option maxHeartbeats 8000000 in
theorem checkC (A : Option Addr) (c n m : Nat) (t : List T.Ln) (L : List Fl) (er : Int) (w : World) (HTA : LArgS w A c n t) (HCI : CheckIs t L er) (hLm : L.length = m) (HT : RowsOk w) :
    Calls Tryd.prog 12 #[.slice A n c] w (fun e w' => ∃ B d, e = .returned (.tuple #[.slice B m d, .int .i64 er]) ∧ (ManyF eFc w' w.heap.size (.slice B m d) L ∧ ∀ a, B = some a → w.heap.size ≤ a.block) ∧ Below w.heap.size w w') := by
  have HN := Lib.hid HTA.len
  have HA := Lib.hid HTA.seen
  have hl := HTA.most
  have hl30 : n ≤ 1073741824 := by omega
  have HTB := Lib.hid HT
  clear HTA HT
  rcases HCI with ⟨hR, hL, rfl⟩ | ⟨hR, hL, rfl⟩
  · have HRT := Lib.hid hR
    have HFEW := Lib.hid (show ∀ i, i ≤ n → (C.checkTo t i).length ≤ 600 by intro i hi; have := C.check_few t i (by have := HN.out; omega); omega)
    have HLL := Lib.hid hL
    have HLM := Lib.hid hLm
    clear hR hL hLm
    go_enter Tryd.func12, Tryd.ntmps12
    go_wp2_with fail
    refine (rightC13 A c n t true _ HN.out HA.out hl30 ⟨fun _ => HRT.out, fun _ => rfl⟩).mono ?_
    rintro e w1 ⟨rfl, hb1⟩
    go_wp2
    go_loopg [4, 5] n (fun gk vo vi wr => ∃ i : Nat, Hid (i + gk = n) ∧ i ≤ n ∧ vi = .int .i64 (i : Int) ∧ Hid (OwnF eFc wr w.heap.size w.heap.size vo (C.checkTo t i)) ∧ Hid (C.Going t i) ∧ Below w.heap.size w wr)
    case atStart => exact ⟨0, Nat.zero_add _, Nat.zero_le _, rfl, OwnF.nil _ _ _ _, C.Going.start t, hb1⟩
    case round =>
      obtain ⟨i, HG, hi, rfl, HO, HGO, hb⟩ := hrel
      have hgk := HG.out
      by_cases hlt : i < n
      · have blt : decide ((i : Int) < (n : Int)) = true := decide_eq_true (by omega)
        have blt2 : decide (i < n) = true := decide_eq_true hlt
        have hit : i < t.length := by rw [HN.out]; exact hlt
        have HIT := Lib.hid hit
        obtain ⟨p, hp⟩ : ∃ p, T.pathL t i = p := ⟨_, rfl⟩
        obtain ⟨np, hnp⟩ : ∃ np, p.length = np := ⟨_, rfl⟩
        have hne : p ≠ [] := by rw [← hp]; exact T.path_ne
        have HSW := Lib.hid (show ShortW p by rw [← hp]; exact short_path HRT.out hit)
        have hnp16 : np ≤ 16 := by
          have h1 := HRT.out.path_len i i (Nat.le_refl _) hit
          have h2 := HRT.out.deep i hit
          rw [hp, hnp] at h1; omega
        have hnp0 : 0 < np := by rw [← hnp]; exact List.length_pos_iff.2 hne
        have HLV := Lib.hid (show C.liveP p = true by rw [← hp]; exact C.Going.live HRT.out hit HGO.out)
        obtain ⟨ke, hke⟩ : ∃ ke, C.knownP p = ke := ⟨_, rfl⟩
        have HUN := Lib.hid (show C.unsaidB p = ke by rw [C.unsaid_known hne HLV.out, hke])
        have HKE := Lib.hid hke
        have HP := Lib.hid hp
        have HNP := Lib.hid hnp
        have hwr := hb.size
        clear hp hnp hne hke hit
        go_wp2_with fail
        refine (pathC13 A c n np i t p _ HN.out HNP.out (HA.out.below hb) hl30 hlt HRT.out HP.out).mono ?_
        rintro e w2 ⟨B, d, rfl, hpt, hx⟩
        have HFR := Lib.hid (free13 (m := ⟨B, np, d⟩) (x := p) HO.out hpt.from_)
        have HPT := Lib.hid hpt
        have HO2 := Lib.hid (HO.out.keep hx)
        have hb2 := bthen hb hx
        clear hx hpt
        go_wp2_with fail
        refine (unsaidC B d np p ke _ HNP.out HPT.out.pt.cap HPT.out.pt.seen HSW.out hnp0 (by omega) (HTB.out.below hb2) HUN.out).mono ?_
        rintro e w3 ⟨rfl, hx⟩
        have HO3 := Lib.hid (HO2.out.keep hx)
        have hb3 := bthen hb2 hx
        have HPT3 := Lib.hid ((HPT.out.below hx).less hwr)
        have hsz3 := hb3.size
        clear hx hb2 HO2 HPT
        by_cases hk0 : ke = 0
        · subst hk0
          have z0 : ((0 : Int) != 0) = false := rfl
          have HGN := Lib.hid (C.Going.next HGO.out (by rw [HP.out]; exact HKE.out))
          have HST := Lib.hid (show C.checkTo t (i + 1) = C.checkTo t i ++ C.faultsP (C.pths t) p from C.step_live HRT.out HIT.out HGO.out HP.out)
          go_wp2_with fail
          refine (faultsC A B c d n np i t p _ HN.out (HA.out.below hb3) hl HRT.out hlt HP.out HNP.out HPT3.out.pt.cap HPT3.out.pt.seen (HTB.out.below hb3) HLV.out HKE.out).mono ?_
          rintro e w4 ⟨v4, rfl, hown4, hx⟩
          have HO4 := Lib.hid (HO3.out.keep hx)
          have HM4 := Lib.hid hown4.flMany
          have HBK := Lib.hid (show ∀ b, u4.ownBlock = some b → b < w3.heap.size from fun b e => (HO3.out.flBlock b e).2)
          have HLN := Lib.hid (show (C.checkTo t i).length + (C.faultsP (C.pths t) p).length ≤ 1099511627776 by have := HFEW.out i (by omega); have := C.faults_few (C.pths t) p; omega)
          have hb4 := bthen hb3 hx
          have hszx := hb4.size
          clear hx hown4
          go_wp2_with (at_builtin; refine wpList_appFM eFc w4 rfl (.tmp 35) (.tmp 39) rfl w.heap.size w.heap.size w3.heap.size u4 (C.checkTo t i) rfl HO4.out v4 (C.faultsP (C.pths t) p) rfl HM4.out hsz3 HBK.out HLN.out hszx ?_; intro v5 w5 hown5 hb5)
          go_roundg (n - (i + 1))
          case rel => exact ⟨i + 1, (by show _ = _; omega), by omega, by go_num, (by rw [HST.out]; exact hown5), HGN.out, hb4.trans hb5⟩
          case measure => omega
        · have z0 : (ke != 0) = true := by simp [hk0]
          obtain ⟨en, hen⟩ : ∃ en, T.endL t i = en := ⟨_, rfl⟩
          have HEN := Lib.hid hen
          have hsp := T.end_spec t i HIT.out
          have hen1 : i < en := by rw [← hen]; omega
          have hen2 : en ≤ n := by rw [← hen, ← HN.out]; exact hsp.2.1
          have HGN := Lib.hid (show C.Going t en by rw [← hen]; exact C.Going.skip HRT.out HIT.out HGO.out)
          have HE := Lib.hid (show C.checkTo t en = C.checkTo t i ++ [(p, ke)] by rw [← hen]; exact C.step_end HRT.out HIT.out HGO.out HP.out HKE.out hk0)
          have HLN := Lib.hid (show (C.checkTo t i).length + 1 ≤ 1099511627776 by have := HFEW.out i (by omega); omega)
          have HFX := Lib.hid (show FlK w3 w.heap.size ⟨⟨B, np, d⟩, ke⟩ (p, ke) from ⟨HPT3.out, rfl⟩)
          clear hsp hen hk0
          go_wp2_with (at_builtin; refine wpList_appF eFc w3 rfl (.tmp 26) (.tmp 30) rfl w.heap.size w.heap.size u4 (C.checkTo t i) rfl HO3.out (p, ke) ⟨⟨B, np, d⟩, ke⟩ HFX.out HFR.out 1 _ rfl w3.heap.size rfl rfl HLN.out hsz3 ?_; intro v5 w5 hown5 hb5)
          refine (endC13 A c n t i _ HN.out (HA.out.below (hb3.trans hb5)) hl30 hlt HRT.out).mono ?_
          rintro e w6 ⟨rfl, hx⟩
          rw [HEN.out]
          go_wp2
          go_roundg (n - en)
          case rel => exact ⟨en, (by show _ = _; omega), hen2, rfl, (by rw [HE.out]; exact hown5.keep hx), HGN.out, bthen (hb3.trans hb5) hx⟩
          case measure => omega
      · have blt : decide ((i : Int) < (n : Int)) = false := decide_eq_false (by omega)
        have blt2 : decide (i < n) = false := decide_eq_false hlt
        obtain rfl : i = n := by omega
        have HE := Lib.hid (show C.checkTo t i = L by rw [HLL.out, ← HN.out]; exact C.check_full t)
        have HOL := Lib.hid (show OwnF eFc wr w.heap.size w.heap.size u4 L by rw [← HE.out]; exact HO.out)
        obtain ⟨B9, d9, e9, hc9, hs9⟩ := HOL.out.flMany.seenF
        subst e9
        rw [HLM.out] at hc9 HOL
        have HFRM := Lib.hid (show ∀ a, B9 = some a → w.heap.size ≤ a.block by
          intro a ha
          subst ha
          exact (HOL.out.flBlock a.block rfl).1)
        go_wp2
        rw [HLM.out]
        go_ret2
        exact ⟨B9, d9, rfl, ⟨HOL.out.flMany, HFRM.out⟩, hb⟩
  · have HNO := Lib.hid hR
    subst hL
    obtain rfl : 0 = m := hLm
    clear hR
    go_enter Tryd.func12, Tryd.ntmps12
    go_wp2_with fail
    refine (rightC13 A c n t false _ HN.out HA.out hl30 ⟨fun h => (by cases h), fun h => absurd h HNO.out⟩).mono ?_
    rintro e w1 ⟨rfl, hb1⟩
    go_wp2
    go_ret2
    exact ⟨none, 0, rfl, ⟨ManyF.nil _ _ _, fun a h => by cases h⟩, hb1⟩
/-- What schema does. -/
theorem schema_ok : SchemaOk where
  checkOf := fun A c n m t L er w h1 h2 h3 h4 => checkC A c n m t L er w h1 h2 h3 h4
  typeOf := fun k s r w hk hs hr => by
    have := typeC k.data.toList s.data.toList r w (by rw [← Lib.size_eq]; exact hs) hr
    rwa [sv_is, sv_is] at this
  needsOf := fun A c n m p l w hn hnc hn40 hsw hA hl hm HT => by
    refine (needsC A c n p w hn hA hsw (by omega) HT).mono ?_
    rintro e w' ⟨v, rfl, ho, hb⟩
    obtain ⟨B, d, e, hc, hs⟩ := ho.seen
    subst e
    rw [hl, hm] at hc
    rw [hl] at hs ⊢
    rw [hm]
    exact ⟨B, d, rfl, hc, hs, hb⟩
end Go.Proofs.YtikjdjfpoohieaaDoor

namespace Go.Proofs.YtikjdjfpoohieaaDoor
open Go.RowKit
set_option linter.unusedVariables false

theorem right13 (A : Option Addr) (c n : Nat) (t : List T.Ln) (b : Bool) (w : World) (hn : t.length = n) (hA : Seen eL w A t) (hl : n ≤ 1073741824) (h : b = true ↔ T.RightT t) : Calls Tryd.prog 13 #[.slice A n c] w (BoolS w b) := by subst hn; exact rightR_is A c t b w hA hl h
theorem C.fault_long {Z : Nat} {t : List T.Ln} (h : T.RightN Z t) {x : Fl} (hx : x ∈ C.checkP (C.pths t)) : x.1.length ≤ 17 := by
  have key : ∀ p, p ∈ C.pths t → p.length ≤ 16 := by
    intro p hp
    obtain ⟨i, hi, rfl⟩ := C.mem_pths.1 hp
    have h1 := h.path_len i i (Nat.le_refl _) hi
    have h2 := h.deep i hi
    omega
  rcases C.fault_path hx with k | ⟨_, k0, k⟩
  · have := key _ k; omega
  · have := key _ k
    rw [List.length_dropLast] at this; omega
theorem C.check_long {Z : Nat} {t : List T.Ln} (h : T.RightN Z t) {n : Nat} (hn : t.length = n) (hl : n ≤ 200) : (C.checkP (C.pths t)).length ≤ 600 := by
  rw [← C.check_full]
  have := C.check_few t t.length (Nat.le_refl _)
  omega
theorem own_nil13 {α : Type} {E : Elem α} {w : World} {base n c : Nat} {A : Option Addr} {l : List α} (h : Own E w base (.slice A n c) l) : NilOk A c := by
  rintro rfl
  rcases h.2 with ⟨e, _⟩ | ⟨g, cap, cur, e, _⟩
  · injection e
  · injection e with e1; cases e1
theorem own_arg {w : World} {base n : Nat} {v : Value} {t : List T.Ln} (h : Own eL w base v t) (hn : t.length = n) (hl : n ≤ 200) : ∃ B d, v = .slice B n d ∧ LArgS w B d n t := by
  obtain ⟨B, d, e, hd, hs⟩ := h.seen
  subst hn
  refine ⟨B, d, e, rfl, hl, hd, fun hB => ?_, hs⟩
  subst e
  exact own_nil13 h hB
set_option maxRecDepth 100000 in
theorem short13 (A : Option Addr) (c n : Nat) (l : T.Pth) (w : World) (hn : l.length = n) (hA : Seen eS w A l) :
    Calls Tryd.prog 19 #[.slice A n c] w (fun e w' => ∃ b : Bool, e = .returned (.bool b) ∧ (b = true → n ≤ 40 ∧ ShortW l) ∧ w = w') := by
  have HA := Lib.hid hA
  have HN := Lib.hid hn
  clear hA hn
  by_cases h40 : n ≤ 40
  · have b40 : decide ((40 : Int) < (n : Int)) = false := decide_eq_false (by omega)
    have b40b : decide (40 < n) = false := decide_eq_false (by omega)
    go_enter Tryd.func19, Tryd.ntmps19
    go_wp2
    go_loopg [3] n (fun g i wr => ∃ k : Nat, Hid (k + g = n) ∧ k ≤ n ∧ i = .int .i64 k ∧ Hid (ShortW (l.take k)) ∧ w = wr)
    case atStart => exact ⟨0, Nat.zero_add _, Nat.zero_le _, rfl, (fun x hx => by cases hx), rfl⟩
    case round =>
      obtain ⟨k, HG, hk, rfl, HS, rfl⟩ := hrel
      by_cases hlt : k < n
      · have blt : decide ((k : Int) < (n : Int)) = true := decide_eq_true (by omega)
        have blt2 : decide (k < n) = true := decide_eq_true hlt
        have hkl : k < l.length := by have := HN.out; omega
        obtain ⟨b, o, rfl, hbw, hL⟩ := HA.out (by omega)
        have c1 := hL.str hkl
        have hki : (k : Int) < (n : Int) := by omega
        obtain ⟨x, hx⟩ : ∃ x, l[k] = x := ⟨_, rfl⟩
        rw [hx] at c1
        have HX := Lib.hid (show l.take (k + 1) = l.take k ++ [x] by rw [List.take_succ_eq_append_getElem hkl, hx])
        have hxs := sB_size x
        have hgk := HG.out
        clear hL hx
        by_cases h100 : 100 < x.length
        · have b100 : decide ((100 : Int) < ((sB x).size : Int)) = true := decide_eq_true (by rw [hxs]; omega)
          have b100b : decide (100 < (sB x).size) = true := decide_eq_true (by rw [hxs]; omega)
          clear hxs
          go_wp2
          go_ret
          exact ⟨false, rfl, (fun h => by cases h), rfl⟩
        · have b100 : decide ((100 : Int) < ((sB x).size : Int)) = false := decide_eq_false (by rw [hxs]; omega)
          have b100b : decide (100 < (sB x).size) = false := decide_eq_false (by rw [hxs]; omega)
          have HS2 := Lib.hid (show ShortW (l.take (k + 1)) by
            rw [HX.out]
            intro y hy
            rcases List.mem_append.1 hy with hy | hy
            · exact HS.out y hy
            · rw [List.mem_singleton.1 hy]; omega)
          clear hxs
          go_wp2
          go_roundg (n - (k + 1))
          case rel => exact ⟨k + 1, (by show _ = _; omega), by omega, by go_num, HS2.out, rfl⟩
          case measure => omega
      · have blt : decide ((k : Int) < (n : Int)) = false := decide_eq_false (by omega)
        have blt2 : decide (k < n) = false := decide_eq_false hlt
        obtain rfl : k = n := by omega
        have HE := Lib.hid (show ShortW l by have h := HS.out; rwa [List.take_of_length_le (by have := HN.out; omega)] at h)
        go_wp2
        go_ret
        exact ⟨true, rfl, (fun _ => ⟨h40, HE.out⟩), rfl⟩
  · have b40 : decide ((40 : Int) < (n : Int)) = true := decide_eq_true (by omega)
    have b40b : decide (40 < n) = true := decide_eq_true (by omega)
    go_enter Tryd.func19, Tryd.ntmps19
    go_wp2
    go_ret
    exact ⟨false, rfl, (fun h => by cases h), rfl⟩
end Go.Proofs.YtikjdjfpoohieaaDoor

namespace Go.Proofs.YtikjdjfpoohieaaDoor
open Go.ChangeShapes Go.WideShapes Go.ChangeAt Go.RowKit
set_option linter.unusedVariables false

/-- What the rows of this seat list. -/
def laidL : List (String × DataW Unit) := [("ferryslip/schema.rows", Rows.laid_ferryslip_schema_rows)]
def rowDat (r : C.Wd × C.Wd × Bool × Bool) : DataW Unit := .agg [.lit (.string r.1), .lit (.string r.2.1), .lit (.bool r.2.2.1), .lit (.bool r.2.2.2)]
theorem laid_rows : (Rows.laid_ferryslip_schema_rows : DataW Unit) = .agg (rowsL.map rowDat) := by kernel_rfl
theorem trod_bool13 {H : Type} {enc : TypeId × Value → H} {P : Program} {w : World} {base : Nat} {spare : Nat → Bool} {held : Bool} {fuel : Nat} {t : TypeId} {cs : List Value} {x : DataW H × List MemPlace} (ht : P.underlying t = some .bool) (h : DataW.trod enc P w base spare held fuel t cs = some x) : ∃ b, cs = [.bool b] ∧ x = (.lit (.bool b), []) := by
  cases fuel with
  | zero => simp [DataW.trod] at h
  | succ n =>
    simp only [DataW.trod, ht] at h
    split at h <;> simp_all
theorem sB_of13 (s : ByteArray) : sB s.data.toList = s := ByteArray.ext (Array.ext' (by simp [sB]))
set_option maxRecDepth 100000 in
theorem row_cells {w : World} {base : Nat} {spare : Nat → Bool} {held : Bool} {fuel : Nat} {cs : List Value} {r : C.Wd × C.Wd × Bool × Bool} {pl : List MemPlace} (h : DataW.trod (fun _ => ()) Tryd.prog w base spare held fuel 78 cs = some (rowDat r, pl)) : cs = rowV r := by
  obtain ⟨xs, q, hq, hxy, hcl, hxl, hff⟩ := DataW.trod_struct Tryd.underlying78 h
  rw [show Tryd.prog.cellsOf 78 = 4 by kernel_rfl] at hcl
  have z1 : Tryd.prog.cellsOf 9 = 1 := by kernel_rfl
  have z2 : Tryd.prog.cellsOf 4 = 1 := by kernel_rfl
  match xs, hxl, cs, hcl with
  | [y0, y1, y2, y3], _, [v0, v1, v2, v3], _ =>
    have g0 := hff 0 _ rfl
    have g1 := hff 1 _ rfl
    have g2 := hff 2 _ rfl
    have g3 := hff 3 _ rfl
    simp [z1, z2] at g0 g1 g2 g3
    obtain ⟨s0, q0, e0, _⟩ := DataW.trod_string Tryd.underlying9 g0
    obtain ⟨s1, q1, e1, _⟩ := DataW.trod_string Tryd.underlying9 g1
    obtain ⟨c2, q2, e2⟩ := trod_bool13 Tryd.underlying4 g2
    obtain ⟨c3, q3, e3⟩ := trod_bool13 Tryd.underlying4 g3
    subst e0; subst e1; subst e2; subst e3
    simp at q0 q1 q2 q3
    subst q0; subst q1; subst q2; subst q3
    have e := congrArg Prod.fst hxy
    obtain ⟨r1, r2, r3, r4⟩ := r
    simp [rowDat] at e
    obtain ⟨rfl, rfl, rfl, rfl⟩ := e
    simp [rowV, sB_of13]
theorem chunks13 : ∀ (R : List (C.Wd × C.Wd × Bool × Bool)) (cs : List Value), cs.length = R.length * 4 → (∀ i (hi : i < R.length), (cs.drop (i * 4)).take 4 = rowV R[i]) → cs = R.flatMap rowV
  | [], cs, hl, _ => List.eq_nil_of_length_eq_zero (by simpa using hl)
  | r :: R, cs, hl, h => by
    have h0 := h 0 (by simp)
    simp at h0
    have hr := chunks13 R (cs.drop 4) (by rw [List.length_drop, hl, List.length_cons]; omega) (fun i hi => by
      have := h (i + 1) (by rw [List.length_cons]; omega)
      rw [List.drop_drop, show 4 + i * 4 = (i + 1) * 4 by omega]
      simpa using this)
    rw [List.flatMap_cons, ← h0, ← hr, List.take_append_drop]
set_option maxRecDepth 100000 in
theorem tab_of_laid {W : World} (h : laidMetH Tryd.prog laidL W) : RowsOk W := by
  rw [MakeChecks.laidMetH_plain _ _ _ (by kernel_rfl)] at h
  obtain ⟨ps, ⟨g', t', cs, fuel, p, q, hg', ht', hvar, hd, _, _⟩, _⟩ := h
  rw [show Tryd.prog.globalNamed "ferryslip/schema.rows" = some 0 by kernel_rfl] at hg'
  obtain rfl := Option.some.inj hg'
  rw [show (Tryd.prog.globals[0]?).map (·.type) = some 79 by kernel_rfl] at ht'
  obtain rfl := Option.some.inj ht'
  rw [laid_rows] at hd
  obtain ⟨xs, m, _, hx, hl, hxl, hi⟩ := DataW.trod_array Tryd.underlying79 hd
  rw [show Tryd.prog.cellsOf 79 = 68 by kernel_rfl] at hl
  rw [show Tryd.prog.cellsOf 78 = 4 by kernel_rfl] at hi
  have hm : xs.map (·.1) = rowsL.map rowDat := by
    have := congrArg Prod.fst hx
    simp at this
    exact this.symm
  have e := chunks13 rowsL cs.toList (by rw [hl]; rfl) (fun i hi2 => by
    have h17 : i < 17 := hi2
    have hxi : i < xs.length := by omega
    have h1 := hi i h17
    rw [List.getElem?_eq_getElem hxi] at h1
    have h2 : (xs[i]).1 = rowDat rowsL[i] := by
      have := congrArg (·[i]?) hm
      simp only [List.getElem?_map, List.getElem?_eq_getElem hxi, List.getElem?_eq_getElem hi2, Option.map_some] at this
      exact Option.some.inj this
    exact row_cells (pl := (xs[i]).2) (h1.trans (congrArg some (Prod.ext h2 rfl))))
  unfold RowsOk
  rw [hvar, ← e]
theorem door_met (os : Os) (args : Array Value) : laidMetH Tryd.prog laidL ((World.doorLaid Tryd.prog 400 os).forCall (fun _ _ => 0) ⟨#[], args, []⟩).memory :=
  laidMetH_of_parts3 (fuel := 8) (laidMet_of_run' 8 (by kernel_rfl) (by kernel_rfl)) (by kernel_rfl) (by kernel_rfl)
end Go.Proofs.YtikjdjfpoohieaaDoor

namespace Go.Proofs.YtikjdjfpoohieaaDoor
open Go.RowKit

def lnO (x : T.Ln) : Obj := .cells #[.int .i64 x.depth, .string (sB x.word), .int .i64 x.mark] 42
/-- The block lb holds a line. -/
def LineAt (w : World) (lb : Nat) (x : T.Ln) : Prop := w.heap[lb]? = some (lnO x)
theorem LineAt.below {w w1 : World} {lb : Nat} {x : T.Ln} (h : LineAt w lb x) (hb : Below w.heap.size w w1) : LineAt w1 lb x :=
  (hb.block lb (Array.getElem?_eq_some_iff.1 h).1).trans h
theorem LineAt.laid (w : World) (x : T.Ln) : LineAt (w.alloc (lnO x)) w.heap.size x := by show (w.heap.push _)[w.heap.size]? = _; simp
theorem LineAt.cells {w : World} {lb : Nat} {x : T.Ln} (h : LineAt w lb x) : w.cell? ⟨lb, 0, none⟩ = some (.int .i64 x.depth) ∧ w.cell? ⟨lb, 1, none⟩ = some (.string (sB x.word)) ∧ w.cell? ⟨lb, 2, none⟩ = some (.int .i64 x.mark) := by
  unfold LineAt lnO at h
  refine ⟨?_, ?_, ?_⟩ <;> rw [Lib.cell_of_heap h] <;> rfl
theorem LineAt.mark {w : World} {p : Nat} {x : T.Ln} (h : LineAt w p x) (m : Int) : LineAt (w.setCell ⟨p, 2, none⟩ (.int .i64 m)) p ⟨x.depth, x.word, m⟩ := by
  unfold LineAt at h ⊢
  have hs : (w.setCell ⟨p, 2, none⟩ (.int .i64 m)).heap = w.heap.modify p (fun o => match o with | .cells c t fz => .cells (c.set! 2 (.int .i64 m)) t fz | o => o) := rfl
  rw [hs, Array.getElem?_modify, if_pos rfl, h]
  rfl
theorem LineAt.thawed {w : World} {p : Nat} {x : T.Ln} (h : LineAt w p x) (j : Nat) : w.frozen? ⟨p, j, none⟩ = false := by
  unfold LineAt lnO at h
  exact Lib.frozen_of_heap h j
end Go.Proofs.YtikjdjfpoohieaaDoor

namespace Go.Proofs.YtikjdjfpoohieaaDoor
open Go.RowKit
set_option linter.unusedVariables false

/-- Lines that may lie nowhere. -/
def VecE (w : World) (v : Value) (t : List T.Ln) : Prop := VecAt eL w v t ∨ (t = [] ∧ ∃ ad c, v = .slice (some ad) 0 c)
theorem VecE.below {w w1 : World} {v : Value} {t : List T.Ln} (h : VecE w v t) (hb : Below w.heap.size w w1) : VecE w1 v t := h.imp (fun h => h.below hb) id
theorem VecE.seen {w : World} {v : Value} {t : List T.Ln} (h : VecE w v t) : ∃ A c, v = .slice A t.length c ∧ t.length ≤ c ∧ Seen eL w A t := by
  rcases h with h | ⟨rfl, ad, c, rfl⟩
  · exact h.seen
  · exact ⟨some ad, c, rfl, Nat.zero_le _, Seen.nil⟩
theorem VecE.nilOk {w : World} {v : Value} {t : List T.Ln} (h : VecE w v t) {A : Option Addr} {n c : Nat} (e : v = .slice A n c) : NilOk A c := by
  intro hA
  subst hA
  rcases h with (⟨h, _⟩ | ⟨b, o, c2, h, _⟩) | ⟨_, ad, c2, h⟩
  · rw [h] at e; injection e with e1 e2 e3; exact e3.symm
  · rw [h] at e; injection e with e1 e2 e3; cases e1
  · rw [h] at e; injection e with e1 e2 e3; cases e1
theorem VecE.of {w : World} {A : Option Addr} {c : Nat} {t : List T.Ln} (h : Seen eL w A t) (hc : NilOk A c) (htc : t.length ≤ c) : VecE w (.slice A t.length c) t := by
  by_cases hl : 0 < t.length
  · obtain ⟨b, o, rfl, hb, hh⟩ := h hl
    exact .inl (.inr ⟨b, o, c, rfl, htc, hb, hh⟩)
  · obtain rfl : t = [] := List.eq_nil_of_length_eq_zero (by omega)
    cases A with
    | none => obtain rfl := hc rfl; exact .inl (.inl ⟨rfl, rfl⟩)
    | some ad => exact .inr ⟨rfl, ad, c, rfl⟩

set_option maxRecDepth 100000 in
set_option maxHeartbeats 2000000 in
theorem putE_some (ad : Addr) (c : Nat) (vp : Value) (wd : List UInt8) (mk : Int) (w : World) (hP : VecAt eS w vp []) (hc : c = 0 ∨ 0 < c) :
    Calls Tryd.prog 30 #[.slice (some ad) 0 c, vp, .string (sB wd), .int .i64 mk] w (VecS eL w (T.putL [] [] wd mk)) := by
  obtain ⟨vB, cB, rfl, _, hB⟩ := hP.seen
  have hput := putL_is [] [] wd mk 0 rfl
  have hkids : ∀ w, Calls Tryd.prog 39 #[.slice (some ad) 0 c, .int .i64 (-1)] w (SawG eI w []) := fun w => refKids_any (some ad) c [] (-1) w Seen.nil (by decide)
  have HPUT := Lib.hid hput
  clear hput hP hB
  rcases hc with rfl | hc
  all_goals
    go_enter Tryd.func30, Tryd.ntmps30
    go_wp2_with fail
    refine (hkids _).mono ?_
    rintro e wk ⟨Ak, ck, rfl, _, _, hbk⟩
    clear hkids
    go_wp2
    go_loopg [10, 12] 0 (fun gk va vi wr => va = .int .i64 0 ∧ vi = .int .i64 (-1) ∧ gk = 0 ∧ wk = wr)
    case atStart => exact ⟨rfl, rfl, rfl, rfl⟩
    case round =>
      obtain ⟨rfl, rfl, rfl, rfl⟩ := hrel
      go_wp2_with (first | (at_builtin; refine wpList_appSeen eL wk rfl (.tmp 49) (.tmp 52) rfl wk.heap.size (.slice none 0 0) [] rfl (Own.nil _ _) _ [] 0 _ rfl rfl Seen.nil (by simp) (Nat.le_refl _) ?_; intro v3 w3 hown3 hx3; have hs3 := hx3.size) | (at_builtin; refine wpList_appG eL w3 rfl (.tmp 54) (.tmp 60) rfl wk.heap.size v3 ([] ++ []) rfl hown3 ⟨0, wd, mk⟩ 1 _ rfl w3.heap.size rfl rfl (by simp) hs3 ?_; intro v4 w4 hown4 hx4; have hs4 := hx4.size) | (at_builtin; refine wpList_appSeen eL w4 rfl (.tmp 62) (.tmp 65) rfl wk.heap.size v4 ([] ++ [] ++ [⟨0, wd, mk⟩]) rfl hown4 _ [] 0 _ rfl rfl Seen.nil (by simp) (by omega) ?_; intro v5 w5 hown5 hx5))
      go_ret
      exact ⟨v5, rfl, VecAt.own (HPUT.out ▸ hown5), hbk.trans (((hx3.trans hx4).trans hx5).mono hbk.size)⟩
theorem put_gen {N : Nat} (hN : N ≤ 1000) (vt vp : Value) (t : List T.Ln) (p : T.Pth) (wd : List UInt8) (mk : Int) (w : World) (hT : VecE w vt t) (hP : VecAt eS w vp p) (hR : T.RightN N t) (ho : T.Open t p) (hp : p.length ≤ 16) :
    Calls Tryd.prog 30 #[vt, vp, .string (sB wd), .int .i64 mk] w (VecS eL w (T.putL t p wd mk)) := by
  rcases hT with hT | ⟨rfl, ad, c, rfl⟩
  · exact put_any hN vt vp t p wd mk w hT hP hR ho hp
  · have hp0 : p = [] := by
      rcases ho with h | ⟨i, hi, _⟩
      · exact h
      · exact absurd hi (Nat.not_lt_zero i)
    subst hp0
    exact putE_some ad c vp wd mk w hP (Nat.eq_zero_or_pos c)
end Go.Proofs.YtikjdjfpoohieaaDoor

namespace Go.Proofs.YtikjdjfpoohieaaDoor
open Go.RowKit
set_option linter.unusedVariables false

end Go.Proofs.YtikjdjfpoohieaaDoor

namespace Go.Proofs.YtikjdjfpoohieaaDoor
open Go.RowKit
theorem AddIs.len {t u : List T.Ln} {p : T.Pth} {er : Int} (h : AddIs t p u er) (ht : t.length ≤ 220) : u.length ≤ 220 := by
  rcases h with ⟨rfl, _⟩ | ⟨_, ⟨rfl, _⟩ | ⟨_, ⟨_, rfl, _⟩ | ⟨h, rfl, _⟩⟩⟩
  · exact ht
  · exact ht
  · exact ht
  · omega
end Go.Proofs.YtikjdjfpoohieaaDoor
