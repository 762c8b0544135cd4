/-
  Part 8 of what the proofs of this claim stand on. No conditions but those that each theorem states.
-/
import Derived.Test.YtfcikfohmehmkaaGreatDoorTabs7
import Derived.Deep.RegionHeld3
import Derived.Deep.RegionWith
import Derived.StillTailTactics

namespace Go.Proofs.YtfcikfohmehmkaaGreatDoor
open Go.RowKit
open F
set_option linter.unusedVariables false
set_option linter.unusedSimpArgs false
open Go.Region in
theorem takeD13 {P : Program} {ops : Array Oper} {Q : Exit → Act → World → Prop} {md : Region.Mode} {S : World → Prop} {i : Nat} {oi : Oper} {v : Value} {d : Option Nat} {fuel : Nat} {listed : Array Bool} {a : Act} {w : World} (hi : ops[i]? = some oi) (hd : oi.dst = d)
  (hs : Region.noSelect ops = true) (hf : free md ops listed i = true) (hr : (Region.ready md ops listed).contains i = true)
  (hQ : ∀ c a w, Q (.panic c) (a.put d v) w → Q (.panic c) a w) (hy : YieldsIf P ops S oi v a) (hS : S w)
  (h : wpAnyH P md ops Q S fuel (listed.setIfInBounds i true) (a.put d v) w) : wpAnyH P md ops Q S (fuel + 1) listed a w := by
 subst hd; exact wpAnyH_take hi hs hf hr hQ hy hS h
open Go.Region in
theorem takeZ {P : Program} {ops : Array Oper} {Q : Exit → Act → World → Prop} {md : Region.Mode} {S : World → Prop} {i : Nat} {oi : Oper} {v : Value} {d : Option Nat} {fuel : Nat} {listed : Array Bool} {a : Act} {w : World}
 (hy : ∀ w, S w → (execOp a.eval oi).run P w = .ok (.value v) w) (h : wpAnyH P md ops Q S fuel (listed.setIfInBounds i true) (a.put d v) w)
 (hi : ops[i]? = some oi := by rfl) (hd : oi.dst = d := by rfl) (hs : Region.noSelect ops = true := by kernel_rfl) (hf : free md ops listed i = true := by kernel_rfl) (hr : (Region.ready md ops listed).contains i = true := by kernel_rfl)
 (hQ : ∀ c a w, Q (.panic c) (a.put d v) w → Q (.panic c) a w := by exact fun _ _ _ h => h) (hw : Region.wanted oi (yielded ops a.tmps) = true := by rfl) (hS : S w := by assumption) : wpAnyH P md ops Q S (fuel + 1) listed a w :=
 takeD13 hi hd hs hf hr hQ (.inl ⟨hw, hy⟩) hS h
theorem pq13 : (∀ (a : Act) (d : Tmp) (v : Value), a.put (some d) v = { a with tmps := a.tmps.setIfInBounds d v }) ∧ (∀ (a : Act) (v : Value), a.put none v = a) ∧ (∀ (l : List Value) (i : Nat) (v : Value), l.toArray.setIfInBounds i v = (l.set i v).toArray) ∧ (∀ (l : List Bool) (i : Nat) (v : Bool), l.toArray.setIfInBounds i v = (l.set i v).toArray) ∧ (∀ (x v : Value) (l : List Value), (x :: l).set 0 v = v :: l) ∧ (∀ (x v : Bool) (l : List Bool), (x :: l).set 0 v = v :: l) ∧ (∀ (x v : Value) (l : List Value) (n : Nat), (x :: l).set (n + 1) v = x :: l.set n v) ∧ ∀ (x v : Bool) (l : List Bool) (n : Nat), (x :: l).set (n + 1) v = x :: l.set n v :=
 ⟨fun _ _ _ => rfl, fun _ _ => rfl, fun l i v => List.setIfInBounds_toArray l i v, fun l i v => List.setIfInBounds_toArray l i v, fun _ _ _ => rfl, fun _ _ _ => rfl, fun _ _ _ _ => rfl, fun _ _ _ _ => rfl⟩
theorem keep13 {w w1 w2 : World} {b o : Nat} {u v : Value} (h : Below w.heap.size w w1 ∧ w1.cell? ⟨b, o + 1, none⟩ = some u ∧ w1.cell? ⟨b, o + 3, none⟩ = some v) (hx : Below w1.heap.size w1 w2) (hb : b < w.heap.size) : Below w.heap.size w w2 ∧ w2.cell? ⟨b, o + 1, none⟩ = some u ∧ w2.cell? ⟨b, o + 3, none⟩ = some v :=
 ⟨bthen h.1 hx, (hx.cell (p := ⟨b, o + 1, none⟩) (Nat.lt_of_lt_of_le hb h.1.size)).trans h.2.1, (hx.cell (p := ⟨b, o + 3, none⟩) (Nat.lt_of_lt_of_le hb h.1.size)).trans h.2.2⟩
theorem C.key_apart {x0 x2 z : List UInt8} (h : C.key x0 x2 = z) (P : List T.Pth) (x1 x3 : List UInt8) : C.meantP P [x0, x1, x2, x3] = if z = C.key C.wHosts C.wIp then C.twiceP P [x0, x1, x2, x3] x3
  else if z = C.key C.wBindings C.wHost ∨ z = C.key C.wRoutes C.wVia then !decide ([C.wHosts, x3] ∈ P)
  else if z = C.key C.wHosts C.wVnis then !decide ([C.wVnis, x3] ∈ P)
  else if z = C.key C.wBindings C.wVni then (!decide ([C.wVnis, x3] ∈ P)) || C.outP P x1 x3 else false := by rw [← h]; rfl
set_option maxRecDepth 100000 in
set_option maxHeartbeats 8000000 in
theorem meantR {Z : Nat} (A : Option Addr) (c n : Nat) (t : List T.Ln) (i : Nat) (B : Option Addr) (d : Nat) (x0 x1 x2 x3 : List UInt8) (r : Bool) (w : World) (hn : t.length = n) (hA : Seen eL w A t) (hl : n ≤ 1073741824) (hR : T.RightN Z t) (hi : i < n) (hp : T.pathL t i = [x0, x1, x2, x3]) (hB : Seen eS w B [x0, x1, x2, x3]) (hr : C.meantP (C.pths t) [x0, x1, x2, x3] = r) :
  Calls Tryz.prog 67 #[.slice A n c, .int .i64 (i : Int), .slice B 4 d] w (BoolS w r) := by
 have HA := Lib.hid hA
 have HN := Lib.hid hn
 have HRT := Lib.hid hR
 have hsw : ShortW [x0, x1, x2, x3] := by rw [← hp]; exact short_path hR (by omega)
 obtain ⟨b, o, rfl, hbw, hL⟩ := hB (by simp)
 have c0 : w.cell? ⟨b, o, none⟩ = some (.string (sB x0)) := cellS hL (i := 0) rfl
 have c1 : w.cell? ⟨b, o + 1, none⟩ = some (.string (sB x1)) := cellS hL (i := 1) rfl
 have c2 : w.cell? ⟨b, o + 2, none⟩ = some (.string (sB x2)) := cellS hL (i := 2) rfl
 have c3 : w.cell? ⟨b, o + 3, none⟩ = some (.string (sB x3)) := cellS hL (i := 3) rfl
 have hx0 := hsw x0 (by simp)
 have hx2 := hsw x2 (by simp)
 have HX1 := Lib.hid (show x1.length ≤ 1073741824 from Nat.le_trans (hsw x1 (by simp)) (by omega))
 have HTW := Lib.hid (show C.twiceP (C.pths t) [x0, x1, x2, x3] x3 = (List.range i).any fun j => C.sameAd x3 (T.pathL t j) by rw [← hp]; exact C.twice_is hR (by omega) x3)
 obtain ⟨z, hz⟩ : ∃ z, C.key x0 x2 = z := ⟨_, rfl⟩
 have HC := Lib.hid (show C.meantP (C.pths t) [x0, x1, x2, x3] = _ from C.key_apart hz (C.pths t) x1 x3)
 have a1 : ∀ w : World, Sem.run Tryz.prog (Op.stringOp .add (sB x0) (⟨#[32]⟩ : ByteArray)) w = .ok (.string (sB (x0 ++ [32]))) w := fun w => by
  rw [sB_join13]
  exact run_string_add_sum (P := Tryz.prog) (w := w) (sB x0) (sB [32]) (by rw [sB_size, sB_size, List.length_singleton]; omega)
 have a2 : ∀ w : World, Sem.run Tryz.prog (Op.stringOp .add (sB (x0 ++ [32])) (sB x2)) w = .ok (.string (sB z)) w := fun w => by
  rw [← hz, show C.key x0 x2 = (x0 ++ [32]) ++ x2 by unfold C.key; simp, sB_join13 (x0 ++ [32]) x2]
  exact run_string_add_sum (P := Tryz.prog) (w := w) (sB (x0 ++ [32])) (sB x2) (by rw [sB_size, sB_size, List.length_append, List.length_singleton]; omega)
 have HV := Lib.hid hr
 clear hA hn hR hsw hL hx0 hx2 hz hr hp hB
 have hb0 : ∀ q, Below w.heap.size w (w.drewN q) := fun q => below_drawn10 (Below.refl _ _) q
 by_cases h0 : z = C.key C.wHosts C.wIp
 ·have q0 : ((sB z).toList == [104, 111, 115, 116, 115, 32, 105, 112]) = true := by rw [sB_toList, beq_iff_eq]; exact h0
  have HE := Lib.hid (show ((List.range i).any fun j => C.sameAd x3 (T.pathL t j)) = r by rw [← HV.out, HC.out, if_pos h0]; exact HTW.out.symm)
  clear h0
  go_enter Tryz.func67, Tryz.ntmps67
  go_wp2
  go_quiet (fail)
  go_wp2_with fail
  refine (twiceR A c n t i x3 r _ HN.out (HA.out.below (hb0 _)) hl HRT.out (by omega) HE.out).mono ?_
  rintro e w2 ⟨rfl, hx⟩
  go_wp2
  go_ret
  exact ⟨rfl, bthen (hb0 _) hx⟩
 have q0 : ((sB z).toList == [104, 111, 115, 116, 115, 32, 105, 112]) = false := by rw [sB_toList, beq_eq_false_iff_ne]; exact h0
 by_cases h1 : z = C.key C.wBindings C.wHost
 ·have q1 : ((sB z).toList == [98, 105, 110, 100, 105, 110, 103, 115, 32, 104, 111, 115, 116]) = true := by rw [sB_toList, beq_iff_eq]; exact h1
  obtain ⟨th, hth⟩ : ∃ th, decide ([C.wHosts, x3] ∈ C.pths t) = th := ⟨_, rfl⟩
  have HTH := Lib.hid hth
  have HE := Lib.hid (show r = !th by rw [← HV.out, HC.out, if_neg h0, if_pos (.inl h1)]; rw [hth])
  clear h0 h1 hth
  go_enter Tryz.func67, Tryz.ntmps67
  go_wp2
  go_quiet (fail)
  go_wp2_with fail
  refine (thereR A c n t C.wHosts x3 th _ HN.out (HA.out.below (hb0 _)) hl HRT.out HTH.out).mono ?_
  rintro e w2 ⟨rfl, hx⟩
  go_wp2
  go_ret
  exact ⟨by rw [HE.out]; rfl, bthen (hb0 _) hx⟩
 have q1 : ((sB z).toList == [98, 105, 110, 100, 105, 110, 103, 115, 32, 104, 111, 115, 116]) = false := by rw [sB_toList, beq_eq_false_iff_ne]; exact h1
 by_cases h2 : z = C.key C.wRoutes C.wVia
 ·have q2 : ((sB z).toList == [114, 111, 117, 116, 101, 115, 32, 118, 105, 97]) = true := by rw [sB_toList, beq_iff_eq]; exact h2
  obtain ⟨th, hth⟩ : ∃ th, decide ([C.wHosts, x3] ∈ C.pths t) = th := ⟨_, rfl⟩
  have HTH := Lib.hid hth
  have HE := Lib.hid (show r = !th by rw [← HV.out, HC.out, if_neg h0, if_pos (.inr h2)]; rw [hth])
  clear h0 h1 h2 hth
  go_enter Tryz.func67, Tryz.ntmps67
  go_wp2
  go_quiet (fail)
  go_wp2_with fail
  refine (thereR A c n t C.wHosts x3 th _ HN.out (HA.out.below (hb0 _)) hl HRT.out HTH.out).mono ?_
  rintro e w2 ⟨rfl, hx⟩
  go_wp2
  go_ret
  exact ⟨by rw [HE.out]; rfl, bthen (hb0 _) hx⟩
 have q2 : ((sB z).toList == [114, 111, 117, 116, 101, 115, 32, 118, 105, 97]) = false := by rw [sB_toList, beq_eq_false_iff_ne]; exact h2
 by_cases h3 : z = C.key C.wHosts C.wVnis
 ·have q3 : ((sB z).toList == [104, 111, 115, 116, 115, 32, 118, 110, 105, 115]) = true := by rw [sB_toList, beq_iff_eq]; exact h3
  obtain ⟨th, hth⟩ : ∃ th, decide ([C.wVnis, x3] ∈ C.pths t) = th := ⟨_, rfl⟩
  have HTH := Lib.hid hth
  have HE := Lib.hid (show r = !th by rw [← HV.out, HC.out, if_neg h0, if_neg (fun h => h.elim h1 h2), if_pos h3]; rw [hth])
  clear h0 h1 h2 h3 hth
  go_enter Tryz.func67, Tryz.ntmps67
  go_wp2
  go_quiet (fail)
  go_wp2_with fail
  refine (thereR A c n t C.wVnis x3 th _ HN.out (HA.out.below (hb0 _)) hl HRT.out HTH.out).mono ?_
  rintro e w2 ⟨rfl, hx⟩
  go_wp2
  go_ret
  exact ⟨by rw [HE.out]; rfl, bthen (hb0 _) hx⟩
 have q3 : ((sB z).toList == [104, 111, 115, 116, 115, 32, 118, 110, 105, 115]) = false := by rw [sB_toList, beq_eq_false_iff_ne]; exact h3
 by_cases h4 : z = C.key C.wBindings C.wVni
 ·have q4 : ((sB z).toList == [98, 105, 110, 100, 105, 110, 103, 115, 32, 118, 110, 105]) = true := by rw [sB_toList, beq_iff_eq]; exact h4
  obtain ⟨th, hth⟩ : ∃ th, decide ([C.wVnis, x3] ∈ C.pths t) = th := ⟨_, rfl⟩
  have HTH := Lib.hid hth
  obtain ⟨ou, hou⟩ : ∃ ou, C.outP (C.pths t) x1 x3 = ou := ⟨_, rfl⟩
  have HOU := Lib.hid hou
  have HE := Lib.hid (show r = ((!th) || ou) by rw [← HV.out, HC.out, if_neg h0, if_neg (fun h => h.elim h1 h2), if_neg h3, if_pos h4]; rw [hth, hou])
  clear h0 h1 h2 h3 h4 hth hou
  cases th with
  | true =>
   go_enter Tryz.func67, Tryz.ntmps67
   go_wp2
   go_quiet (fail)
   go_wp2
   refine wp_region_held_drew (S := fun w' => Below w.heap.size w w' ∧ w'.cell? ⟨b, o + 1, none⟩ = some (.string (sB x1)) ∧ w'.cell? ⟨b, o + 3, none⟩ = some (.string (sB x3))) (by kernel_rfl) ⟨(hb0 _).drew, c1, c3⟩ (fun hHeld => ?_)
   refine takeZ (i := 0) (v := ?vt0) (d := some 42) ?hyt0 ?restt0
   case hyt0 => intro w hSw; obtain ⟨_, hs1, hs3⟩ := hSw; go_simp; try (with_reducible rfl)
   try simp only [pq13]
   refine takeZ (i := 1) (v := ?vt1) (d := some 43) ?hyt1 ?restt1
   case hyt1 => intro w hSw; obtain ⟨_, hs1, hs3⟩ := hSw; go_simp; try (with_reducible rfl)
   try simp only [pq13]
   refine takeZ (i := 2) (v := ?vt2) (d := some 44) ?hyt2 ?restt2
   case hyt2 => intro w hSw; obtain ⟨_, hs1, hs3⟩ := hSw; go_simp; try (with_reducible rfl)
   try simp only [pq13]
   refine takeZ (i := 3) (v := ?vt3) (d := some 45) ?hyt3 ?restt3
   case hyt3 => intro w hSw; obtain ⟨_, hs1, hs3⟩ := hSw; go_simp; try (with_reducible rfl)
   try simp only [pq13]
   refine wpAnyH_ready (rs := [4]) (by kernel_rfl) (by simp) ?_
   refine AllReadyH.cons rfl (fun K hK => ?_) AllReadyH.nil
   go_simp
   go_at_call 100
   refine (thereR A c n t C.wVnis x3 true _ HN.out (HA.out.below hHeld.1) hl HRT.out HTH.out).mono ?_
   rintro e wq4 ⟨rfl, hx⟩
   have hbx4 : Below w.heap.size w wq4 ∧ wq4.cell? ⟨b, o + 1, none⟩ = some (.string (sB x1)) ∧ wq4.cell? ⟨b, o + 3, none⟩ = some (.string (sB x3)) := keep13 hHeld hx hbw
   clear hHeld hx
   refine hK.out _ _ hbx4 (fun hHeld => ?_)
   clear hK K
   try simp only [pq13]
   refine takeZ (i := 5) (v := ?vt5) (d := some 47) ?hyt5 ?restt5
   case hyt5 => intro w hSw; obtain ⟨_, hs1, hs3⟩ := hSw; go_simp; try (with_reducible rfl)
   try simp only [pq13]
   refine takeZ (i := 6) (v := ?vt6) (d := some 48) ?hyt6 ?restt6
   case hyt6 => intro w hSw; obtain ⟨_, hs1, hs3⟩ := hSw; go_simp; try (with_reducible rfl)
   try simp only [pq13]
   refine takeZ (i := 7) (v := ?vt7) (d := some 49) ?hyt7 ?restt7
   case hyt7 => intro w hSw; obtain ⟨_, hs1, hs3⟩ := hSw; go_simp; try (with_reducible rfl)
   try simp only [pq13]
   refine takeZ (i := 8) (v := ?vt8) (d := some 50) ?hyt8 ?restt8
   case hyt8 => intro w hSw; obtain ⟨_, hs1, hs3⟩ := hSw; go_simp; try (with_reducible rfl)
   try simp only [pq13]
   refine takeZ (i := 9) (v := ?vt9) (d := some 51) ?hyt9 ?restt9
   case hyt9 => intro w hSw; obtain ⟨_, hs1, hs3⟩ := hSw; go_simp; try (with_reducible rfl)
   try simp only [pq13]
   refine takeZ (i := 10) (v := ?vt10) (d := some 52) ?hyt10 ?restt10
   case hyt10 => intro w hSw; obtain ⟨_, hs1, hs3⟩ := hSw; go_simp; try (with_reducible rfl)
   try simp only [pq13]
   refine takeZ (i := 11) (v := ?vt11) (d := some 53) ?hyt11 ?restt11
   case hyt11 => intro w hSw; obtain ⟨_, hs1, hs3⟩ := hSw; go_simp; try (with_reducible rfl)
   try simp only [pq13]
   refine takeZ (i := 12) (v := ?vt12) (d := some 54) ?hyt12 ?restt12
   case hyt12 => intro w hSw; obtain ⟨_, hs1, hs3⟩ := hSw; go_simp; try (with_reducible rfl)
   try simp only [pq13]
   refine takeZ (i := 13) (v := ?vt13) (d := some 55) ?hyt13 ?restt13
   case hyt13 => intro w hSw; obtain ⟨_, hs1, hs3⟩ := hSw; go_simp; try (with_reducible rfl)
   try simp only [pq13]
   refine wpAnyH_ready (rs := [14]) (by kernel_rfl) (by simp) ?_
   refine AllReadyH.cons rfl (fun K hK => ?_) AllReadyH.nil
   go_simp
   go_at_call 101
   refine (outsideR A c n t x1 x3 ou _ HN.out (HA.out.below hHeld.1) hl HRT.out HX1.out HOU.out).mono ?_
   rintro e wq14 ⟨rfl, hx⟩
   have hbx14 : Below w.heap.size w wq14 ∧ wq14.cell? ⟨b, o + 1, none⟩ = some (.string (sB x1)) ∧ wq14.cell? ⟨b, o + 3, none⟩ = some (.string (sB x3)) := keep13 hHeld hx hbw
   clear hHeld hx
   refine hK.out _ _ hbx14 (fun hHeld => ?_)
   clear hK K
   try simp only [pq13]
   refine takeZ (i := 15) (v := ?vt15) (d := some 57) ?hyt15 ?restt15
   case hyt15 => intro w hSw; obtain ⟨_, hs1, hs3⟩ := hSw; go_simp; try (with_reducible rfl)
   try simp only [pq13]
   refine takeZ (i := 16) (v := ?vt16) (d := some 6) ?hyt16 ?restt16
   case hyt16 => intro w hSw; obtain ⟨_, hs1, hs3⟩ := hSw; go_simp; try (with_reducible rfl)
   try simp only [pq13]
   refine wpAnyH_done (by kernel_rfl) ?_ _
   go_wp2
   go_ret
   exact ⟨by rw [HE.out]; rfl, hbx14.1⟩
  | false =>
   go_enter Tryz.func67, Tryz.ntmps67
   go_wp2
   go_quiet (fail)
   go_wp2
   refine wp_region_held_drew (S := fun w' => Below w.heap.size w w' ∧ w'.cell? ⟨b, o + 1, none⟩ = some (.string (sB x1)) ∧ w'.cell? ⟨b, o + 3, none⟩ = some (.string (sB x3))) (by kernel_rfl) ⟨(hb0 _).drew, c1, c3⟩ (fun hHeld => ?_)
   refine takeZ (i := 0) (v := ?vf0) (d := some 42) ?hyf0 ?restf0
   case hyf0 => intro w hSw; obtain ⟨_, hs1, hs3⟩ := hSw; go_simp; try (with_reducible rfl)
   try simp only [pq13]
   refine takeZ (i := 1) (v := ?vf1) (d := some 43) ?hyf1 ?restf1
   case hyf1 => intro w hSw; obtain ⟨_, hs1, hs3⟩ := hSw; go_simp; try (with_reducible rfl)
   try simp only [pq13]
   refine takeZ (i := 2) (v := ?vf2) (d := some 44) ?hyf2 ?restf2
   case hyf2 => intro w hSw; obtain ⟨_, hs1, hs3⟩ := hSw; go_simp; try (with_reducible rfl)
   try simp only [pq13]
   refine takeZ (i := 3) (v := ?vf3) (d := some 45) ?hyf3 ?restf3
   case hyf3 => intro w hSw; obtain ⟨_, hs1, hs3⟩ := hSw; go_simp; try (with_reducible rfl)
   try simp only [pq13]
   refine wpAnyH_ready (rs := [4]) (by kernel_rfl) (by simp) ?_
   refine AllReadyH.cons rfl (fun K hK => ?_) AllReadyH.nil
   go_simp
   go_at_call 100
   refine (thereR A c n t C.wVnis x3 false _ HN.out (HA.out.below hHeld.1) hl HRT.out HTH.out).mono ?_
   rintro e wq4 ⟨rfl, hx⟩
   have hbx4 : Below w.heap.size w wq4 ∧ wq4.cell? ⟨b, o + 1, none⟩ = some (.string (sB x1)) ∧ wq4.cell? ⟨b, o + 3, none⟩ = some (.string (sB x3)) := keep13 hHeld hx hbw
   clear hHeld hx
   refine hK.out _ _ hbx4 (fun hHeld => ?_)
   clear hK K
   try simp only [pq13]
   refine takeZ (i := 5) (v := ?vf5) (d := some 47) ?hyf5 ?restf5
   case hyf5 => intro w hSw; obtain ⟨_, hs1, hs3⟩ := hSw; go_simp; try (with_reducible rfl)
   try simp only [pq13]
   refine takeZ (i := 6) (v := ?vf6) (d := some 48) ?hyf6 ?restf6
   case hyf6 => intro w hSw; obtain ⟨_, hs1, hs3⟩ := hSw; go_simp; try (with_reducible rfl)
   try simp only [pq13]
   refine takeD13 (i := 7) (v := undef) (d := some 49) rfl rfl (by kernel_rfl) (by kernel_rfl) (by kernel_rfl) (fun _ _ _ h => h) (Or.inr ⟨by rfl, rfl⟩) (by assumption) ?_
   try simp only [pq13]
   refine takeD13 (i := 8) (v := undef) (d := some 50) rfl rfl (by kernel_rfl) (by kernel_rfl) (by kernel_rfl) (fun _ _ _ h => h) (Or.inr ⟨by rfl, rfl⟩) (by assumption) ?_
   try simp only [pq13]
   refine takeD13 (i := 9) (v := undef) (d := some 51) rfl rfl (by kernel_rfl) (by kernel_rfl) (by kernel_rfl) (fun _ _ _ h => h) (Or.inr ⟨by rfl, rfl⟩) (by assumption) ?_
   try simp only [pq13]
   refine takeD13 (i := 10) (v := undef) (d := some 52) rfl rfl (by kernel_rfl) (by kernel_rfl) (by kernel_rfl) (fun _ _ _ h => h) (Or.inr ⟨by rfl, rfl⟩) (by assumption) ?_
   try simp only [pq13]
   refine takeD13 (i := 11) (v := undef) (d := some 53) rfl rfl (by kernel_rfl) (by kernel_rfl) (by kernel_rfl) (fun _ _ _ h => h) (Or.inr ⟨by rfl, rfl⟩) (by assumption) ?_
   try simp only [pq13]
   refine takeD13 (i := 12) (v := undef) (d := some 54) rfl rfl (by kernel_rfl) (by kernel_rfl) (by kernel_rfl) (fun _ _ _ h => h) (Or.inr ⟨by rfl, rfl⟩) (by assumption) ?_
   try simp only [pq13]
   refine takeD13 (i := 13) (v := undef) (d := some 55) rfl rfl (by kernel_rfl) (by kernel_rfl) (by kernel_rfl) (fun _ _ _ h => h) (Or.inr ⟨by rfl, rfl⟩) (by assumption) ?_
   try simp only [pq13]
   refine takeD13 (i := 14) (v := undef) (d := some 56) rfl rfl (by kernel_rfl) (by kernel_rfl) (by kernel_rfl) (fun _ _ _ h => h) (Or.inr ⟨by rfl, rfl⟩) (by assumption) ?_
   try simp only [pq13]
   refine takeZ (i := 15) (v := ?vf15) (d := some 57) ?hyf15 ?restf15
   case hyf15 => intro w hSw; obtain ⟨_, hs1, hs3⟩ := hSw; go_simp; try (with_reducible rfl)
   try simp only [pq13]
   refine takeZ (i := 16) (v := ?vf16) (d := some 6) ?hyf16 ?restf16
   case hyf16 => intro w hSw; obtain ⟨_, hs1, hs3⟩ := hSw; go_simp; try (with_reducible rfl)
   try simp only [pq13]
   refine wpAnyH_done (by kernel_rfl) ?_ _
   go_wp2
   go_ret
   exact ⟨by rw [HE.out]; rfl, hbx4.1⟩
 have q4 : ((sB z).toList == [98, 105, 110, 100, 105, 110, 103, 115, 32, 118, 110, 105]) = false := by rw [sB_toList, beq_eq_false_iff_ne]; exact h4
 have HE := Lib.hid (show r = false by rw [← HV.out, HC.out, if_neg h0, if_neg (fun h => h.elim h1 h2), if_neg h3, if_neg h4])
 clear h0 h1 h2 h3 h4
 go_enter Tryz.func67, Tryz.ntmps67
 go_wp2
 go_quiet (fail)
 go_wp2
 go_ret
 exact ⟨by rw [HE.out]; rfl, hb0 _⟩
end Go.Proofs.YtfcikfohmehmkaaGreatDoor
namespace Go.Proofs.YtfcikfohmehmkaaGreatDoor.H
def stepE (e : En) (s : List En × Bool) (y : En) : List En × Bool := if s.2 = false ∧ aheadE e y = true then (s.1 ++ [e] ++ [y], true) else (s.1 ++ [y], s.2)
def finE (e : En) (s : List En × Bool) : List En := if s.2 = true then s.1 else s.1 ++ [e]
theorem fold_in (e : En) : ∀ (l o : List En), l.foldl (stepE e) (o, true) = (o ++ l, true)
 | [], o => by simp
 | y :: l, o => by
  rw [List.foldl_cons, show stepE e (o, true) y = (o ++ [y], true) from if_neg (fun h => by cases h.1), fold_in e l]
  simp
theorem fold_ins (e : En) : ∀ (l o : List En), finE e (l.foldl (stepE e) (o, false)) = o ++ insE e l
 | [], o => rfl
 | y :: l, o => by
  rw [List.foldl_cons]
  unfold insE
  by_cases h : aheadE e y = true
  ·rw [show stepE e (o, false) y = (o ++ [e] ++ [y], true) from if_pos ⟨rfl, h⟩, fold_in, if_pos h]
   simp [finE]
  ·rw [show stepE e (o, false) y = (o ++ [y], false) from if_neg (fun k => h k.2), fold_ins e l, if_neg h]
   simp
theorem fold_len (e : En) : ∀ (l : List En) (s : List En × Bool), (l.foldl (stepE e) s).1.length ≤ s.1.length + l.length + (if s.2 = true then 0 else 1)
 | [], s => by simp
 | y :: l, s => by
  rw [List.foldl_cons]
  have h := fold_len e l (stepE e s y)
  obtain ⟨o, d⟩ := s
  unfold stepE at h ⊢
  simp only at h ⊢
  rw [List.length_cons]
  split at h
  ·next k =>
   rw [if_pos k]
   obtain ⟨rfl, _⟩ := k
   simp only [List.length_append, List.length_singleton, if_true] at h
   simp only [Bool.false_eq_true, if_false]
   omega
  ·next k =>
   rw [if_neg k]
   simp only [List.length_append, List.length_singleton] at h
   omega
theorem ne_cases {y x : En} (h : y ≠ x) : y.host ≠ x.host ∨ (y.host = x.host ∧ (y.kind ≠ x.kind ∨ (y.kind = x.kind ∧ (y.key ≠ x.key ∨ (y.key = x.key ∧ y.val ≠ x.val))))) := by
 by_cases h0 : y.host = x.host
 ·by_cases h1 : y.kind = x.kind
  ·by_cases h2 : y.key = x.key
   ·exact .inr ⟨h0, .inr ⟨h1, .inr ⟨h2, fun h3 => h (by cases y; cases x; simp only at h0 h1 h2 h3; subst h0 h1 h2 h3; rfl)⟩⟩⟩
   ·exact .inr ⟨h0, .inr ⟨h1, .inl h2⟩⟩
  ·exact .inr ⟨h0, .inl h1⟩
 ·exact .inl h0
end Go.Proofs.YtfcikfohmehmkaaGreatDoor.H
namespace Go.Proofs.YtfcikfohmehmkaaGreatDoor
open Go.RowKit
open F
set_option linter.unusedVariables false
set_option linter.unusedSimpArgs false
structure TwoE (w1 w : World) (g : Nat) (x : H.En) (b o k : Nat) (y : H.En) : Prop where
 below : Below w1.heap.size w1 w
 x0 : w.cell? ⟨g, 0, none⟩ = some (.string (sB x.host))
 x1 : w.cell? ⟨g, 1, none⟩ = some (.int .i64 x.kind)
 x2 : w.cell? ⟨g, 2, none⟩ = some (.string (sB x.key))
 x3 : w.cell? ⟨g, 3, none⟩ = some (.string (sB x.val))
 y0 : w.cell? ⟨b, o + k * 4, none⟩ = some (.string (sB y.host))
 y1 : w.cell? ⟨b, o + k * 4 + 1, none⟩ = some (.int .i64 y.kind)
 y2 : w.cell? ⟨b, o + k * 4 + 2, none⟩ = some (.string (sB y.key))
 y3 : w.cell? ⟨b, o + k * 4 + 3, none⟩ = some (.string (sB y.val))
theorem TwoE.more {w1 w w2 : World} {g : Nat} {x : H.En} {b o k : Nat} {y : H.En} (h : TwoE w1 w g x b o k y) (hg : g < w1.heap.size) (hb : b < w1.heap.size) (hx : Below w1.heap.size w w2) : TwoE w1 w2 g x b o k y :=
 ⟨h.below.trans hx, (hx.cell (p := ⟨g, 0, none⟩) hg).trans h.x0, (hx.cell (p := ⟨g, 1, none⟩) hg).trans h.x1, (hx.cell (p := ⟨g, 2, none⟩) hg).trans h.x2, (hx.cell (p := ⟨g, 3, none⟩) hg).trans h.x3,
  (hx.cell (p := ⟨b, o + k * 4, none⟩) hb).trans h.y0, (hx.cell (p := ⟨b, o + k * 4 + 1, none⟩) hb).trans h.y1, (hx.cell (p := ⟨b, o + k * 4 + 2, none⟩) hb).trans h.y2, (hx.cell (p := ⟨b, o + k * 4 + 3, none⟩) hb).trans h.y3⟩
theorem Own.seenN {α : Type} {E : Elem α} {w : World} {base m : Nat} {v : Value} {l : List α} (h : Own E w base v l) (hm : l.length = m) : ∃ A cap, v = .slice A m cap ∧ m ≤ cap ∧ Seen E w A l := by
 subst hm; exact h.seen
set_option maxRecDepth 100000 in
set_option maxHeartbeats 16000000 in
theorem putR (A : Option Addr) (c n m : Nat) (l : List H.En) (x : H.En) (w : World) (hn : l.length = n) (hl : n ≤ 33554432) (hc : n ≤ c) (hA : Seen eEd w A l) (hm : (H.putE l x).length = m) :
  Calls Tryz.prog 38 #[.slice A n c, enV x] w (fun e w' => ∃ B d, e = .returned (.slice B m d) ∧ m ≤ d ∧ Seen eEd w' B (H.putE l x) ∧ Below w.heap.size w w') := by
 have HN := Lib.hid hn
 have HM := Lib.hid hm
 obtain ⟨w1, hw1⟩ : ∃ w1, w.alloc (.cells #[.string (sB x.host), .int .i64 x.kind, .string (sB x.key), .string (sB x.val)] 36) = w1 := ⟨_, rfl⟩
 have hb1 : Below w.heap.size w w1 := by rw [← hw1]; exact up _ _
 have hs1 : w1.heap.size = w.heap.size + 1 := by rw [← hw1]; simp
 obtain ⟨g, hg⟩ : ∃ g, w.heap.size = g := ⟨_, rfl⟩
 have p0 : w1.cell? ⟨g, 0, none⟩ = some (.string (sB x.host)) := by rw [← hw1, ← hg]; exact World.cell?_alloc_mark w _ _ (0, 0) 0
 have p1 : w1.cell? ⟨g, 1, none⟩ = some (.int .i64 x.kind) := by rw [← hw1, ← hg]; exact World.cell?_alloc_mark w _ _ (0, 0) 1
 have p2 : w1.cell? ⟨g, 2, none⟩ = some (.string (sB x.key)) := by rw [← hw1, ← hg]; exact World.cell?_alloc_mark w _ _ (0, 0) 2
 have p3 : w1.cell? ⟨g, 3, none⟩ = some (.string (sB x.val)) := by rw [← hw1, ← hg]; exact World.cell?_alloc_mark w _ _ (0, 0) 3
 have hgw : g < w1.heap.size := by omega
 have hszw : w.heap.size ≤ w1.heap.size := by omega
 have HA := Lib.hid (hA.below hb1)
 have HA2 := Lib.hid (fun w' (h : Below w1.heap.size w1 w') => (hA.below (bthen hb1 h)))
 have HW1 := Lib.hid hw1
 have HG0 := Lib.hid hg
 have HB1 := Lib.hid hb1
 clear hA hn hm hw1 hb1 hs1 hg
 unfold enV
 go_enter Tryz.func38, Tryz.ntmps38
 go_wp2
 rw [HW1.out, HG0.out]
 go_loopg [5, 6, 7] n (fun gk vo vd vi wr => ∃ (k : Nat) (s : List H.En × Bool), Hid (k + gk = n) ∧ k ≤ n ∧ vi = .int .i64 (k : Int) ∧ Hid ((l.take k).foldl (H.stepE x) ([], false) = s) ∧ vd = .bool s.2 ∧ Hid (Own eEd wr w1.heap.size vo s.1) ∧ Hid (x ∉ l.take k) ∧ Below w1.heap.size w1 wr)
 case atStart => exact ⟨0, ([], false), Nat.zero_add _, Nat.zero_le _, rfl, rfl, rfl, Own.nil _ _, (by show x ∉ _; simp), Below.refl _ _⟩
 case round =>
  obtain ⟨k, s, HG, hk, rfl, HF, rfl, HO, HNI, hb⟩ := hrel
  have hgk := HG.out
  obtain ⟨so, sd⟩ := s
  by_cases hlt : k < n
  ·have blt : decide ((k : Int) < (n : Int)) = true := decide_eq_true (by omega)
   have blt2 : decide (k < n) = true := decide_eq_true hlt
   have hki : (k : Int) < (n : Int) := by omega
   have hkl : k < l.length := by have := HN.out; omega
   obtain ⟨b, o, rfl, hwb, hL⟩ := HA.out (by omega)
   obtain ⟨d0, d1, d2, d3⟩ := hL.entry rfl rfl hkl
   have HX := Lib.hid (List.take_succ_eq_append_getElem hkl)
   have HMI := Lib.hid (List.getElem_mem hkl)
   generalize l[k] = y at d0 d1 d2 d3 HX HMI
   obtain ⟨_, q0, q1, q2, q3, e0, e1, e2, e3⟩ := TwoE.more (w1 := w1) ⟨Below.refl _ _, p0, p1, p2, p3, d0, d1, d2, d3⟩ hgw hwb hb
   have HDS := Lib.hid (fun w' (h : Below wr.heap.size wr w') => TwoE.more (w1 := wr) ⟨Below.refl _ _, q0, q1, q2, q3, e0, e1, e2, e3⟩ (Nat.lt_of_lt_of_le hgw hb.size) (Nat.lt_of_lt_of_le hwb hb.size) h)
   clear d0 d1 d2 d3 hL
   have HFS := Lib.hid (show (l.take (k + 1)).foldl (H.stepE x) ([], false) = H.stepE x (so, sd) y by rw [HX.out, List.foldl_append, HF.out]; rfl)
   have HLS := Lib.hid (show so.length ≤ n + 1 by
    have h1 := H.fold_len x (l.take k) ([], false)
    rw [HF.out, List.length_take] at h1
    simp at h1
    omega)
   by_cases he : y = x
   ·subst he
    have HPU := Lib.hid (show H.putE l y = l from if_pos HMI.out)
    have hmn : m = n := by rw [← HM.out, HPU.out, HN.out]
    subst hmn
    have HSE := Lib.hid (HA2.out _ hb.drew)
    go_wp2
    go_region
    go_wp2
    go_ret
    exact ⟨_, c, rfl, hc, (by rw [HPU.out]; exact HSE.out), bthen HB1.out hb.drew⟩
   ·have HNX := Lib.hid (show x ∉ l.take (k + 1) by
     rw [HX.out]
     intro q
     rcases List.mem_append.1 q with q | q
     ·exact HNI.out q
     ·exact he (List.mem_singleton.1 q).symm)
    rcases H.ne_cases he with j | ⟨j0, j | ⟨j1, j | ⟨j2, j⟩⟩⟩
    ·have n3 := sB_ne j
     clear he j
     cases sd with
     | true =>
      have HST := Lib.hid (show H.stepE x (so, true) y = (so ++ [y], true) from if_neg (fun h => by cases h.1))
      go_wp2
      go_region
      go_wp2
      refine wp_region_held_drew (S := fun w' => TwoE wr w' g x b o k y) (by kernel_rfl) (HDS.out _ ((Below.refl _ _).drew.drew)) (fun hHeld => ?_)
      refine takeZ (i := 0) (v := ?vd00) (d := some 21) ?hd00 ?rd00
      case hd00 => intro w hSw; obtain ⟨_, x0, x1, x2, x3, y0, y1, y2, y3⟩ := hSw; go_simp; try (with_reducible rfl)
      try simp only [pq13]
      refine takeZ (i := 1) (v := ?vd01) (d := some 22) ?hd01 ?rd01
      case hd01 => intro w hSw; obtain ⟨_, x0, x1, x2, x3, y0, y1, y2, y3⟩ := hSw; go_simp; try (with_reducible rfl)
      try simp only [pq13]
      refine takeZ (i := 2) (v := ?vd02) (d := some 23) ?hd02 ?rd02
      case hd02 => intro w hSw; obtain ⟨_, x0, x1, x2, x3, y0, y1, y2, y3⟩ := hSw; go_simp; try (with_reducible rfl)
      try simp only [pq13]
      refine takeD13 (i := 3) (v := undef) (d := some 24) rfl rfl (by kernel_rfl) (by kernel_rfl) (by kernel_rfl) (fun _ _ _ h => h) (Or.inr ⟨by rfl, rfl⟩) (by assumption) ?rd03
      try simp only [pq13]
      refine takeD13 (i := 4) (v := undef) (d := some 25) rfl rfl (by kernel_rfl) (by kernel_rfl) (by kernel_rfl) (fun _ _ _ h => h) (Or.inr ⟨by rfl, rfl⟩) (by assumption) ?rd04
      try simp only [pq13]
      refine takeD13 (i := 5) (v := undef) (d := some 26) rfl rfl (by kernel_rfl) (by kernel_rfl) (by kernel_rfl) (fun _ _ _ h => h) (Or.inr ⟨by rfl, rfl⟩) (by assumption) ?rd05
      try simp only [pq13]
      refine takeD13 (i := 6) (v := undef) (d := some 27) rfl rfl (by kernel_rfl) (by kernel_rfl) (by kernel_rfl) (fun _ _ _ h => h) (Or.inr ⟨by rfl, rfl⟩) (by assumption) ?rd06
      try simp only [pq13]
      refine takeD13 (i := 7) (v := undef) (d := some 28) rfl rfl (by kernel_rfl) (by kernel_rfl) (by kernel_rfl) (fun _ _ _ h => h) (Or.inr ⟨by rfl, rfl⟩) (by assumption) ?rd07
      try simp only [pq13]
      refine takeD13 (i := 8) (v := undef) (d := some 29) rfl rfl (by kernel_rfl) (by kernel_rfl) (by kernel_rfl) (fun _ _ _ h => h) (Or.inr ⟨by rfl, rfl⟩) (by assumption) ?rd08
      try simp only [pq13]
      refine takeZ (i := 9) (v := ?vd09) (d := some 30) ?hd09 ?rd09
      case hd09 => intro w hSw; obtain ⟨_, x0, x1, x2, x3, y0, y1, y2, y3⟩ := hSw; go_simp; try (with_reducible rfl)
      try simp only [pq13]
      refine wpAnyH_done (by kernel_rfl) ?_ _
      obtain ⟨hbq, z0, z1, z2, z3, y0, y1, y2, y3⟩ := hHeld
      have hsz := hb.size
      go_wp2_with (at_builtin; refine wpList_appG eEd (wr.drew.drew) rfl (.tmp 35) (.tmp 40) rfl w1.heap.size u5 so rfl HO.out y 1 _ rfl _ rfl rfl (by have := HLS.out; omega) hsz ?_; intro v5 w5 hown5 hb5)
      go_roundg (n - (k + 1))
      case rel => exact ⟨k + 1, (so ++ [y], true), (by show _ = _; omega), by omega, by go_num, Lib.hid (HFS.out.trans HST.out), rfl, Lib.hid hown5, HNX, hb.drew.drew.trans hb5⟩
      case measure => omega
     | false =>
      obtain ⟨r, hr⟩ : ∃ r, H.aheadE x y = r := ⟨_, rfl⟩
      cases r with
      | true =>
       have HR := Lib.hid hr
       have HST := Lib.hid (show H.stepE x (so, false) y = (so ++ [x] ++ [y], true) from if_pos ⟨rfl, hr⟩)
       clear hr
       go_wp2
       go_region
       go_wp2
       refine wp_region_held_drew (S := fun w' => TwoE wr w' g x b o k y) (by kernel_rfl) (HDS.out _ ((Below.refl _ _).drew.drew)) (fun hHeld => ?_)
       refine takeZ (i := 0) (v := ?vt00) (d := some 21) ?ht00 ?rt00
       case ht00 => intro w hSw; obtain ⟨_, x0, x1, x2, x3, y0, y1, y2, y3⟩ := hSw; go_simp; try (with_reducible rfl)
       try simp only [pq13]
       refine takeZ (i := 1) (v := ?vt01) (d := some 22) ?ht01 ?rt01
       case ht01 => intro w hSw; obtain ⟨_, x0, x1, x2, x3, y0, y1, y2, y3⟩ := hSw; go_simp; try (with_reducible rfl)
       try simp only [pq13]
       refine takeZ (i := 2) (v := ?vt02) (d := some 23) ?ht02 ?rt02
       case ht02 => intro w hSw; obtain ⟨_, x0, x1, x2, x3, y0, y1, y2, y3⟩ := hSw; go_simp; try (with_reducible rfl)
       try simp only [pq13]
       refine takeZ (i := 3) (v := ?vt03) (d := some 24) ?ht03 ?rt03
       case ht03 => intro w hSw; obtain ⟨_, x0, x1, x2, x3, y0, y1, y2, y3⟩ := hSw; go_simp; try (with_reducible rfl)
       try simp only [pq13]
       refine takeZ (i := 4) (v := ?vt04) (d := some 25) ?ht04 ?rt04
       case ht04 => intro w hSw; obtain ⟨_, x0, x1, x2, x3, y0, y1, y2, y3⟩ := hSw; go_simp; try (with_reducible rfl)
       try simp only [pq13]
       refine takeZ (i := 5) (v := ?vt05) (d := some 26) ?ht05 ?rt05
       case ht05 => intro w hSw; obtain ⟨_, x0, x1, x2, x3, y0, y1, y2, y3⟩ := hSw; go_simp; try (with_reducible rfl)
       try simp only [pq13]
       refine takeZ (i := 6) (v := ?vt06) (d := some 27) ?ht06 ?rt06
       case ht06 => intro w hSw; obtain ⟨_, x0, x1, x2, x3, y0, y1, y2, y3⟩ := hSw; go_simp; try (with_reducible rfl)
       try simp only [pq13]
       refine takeZ (i := 7) (v := ?vt07) (d := some 28) ?ht07 ?rt07
       case ht07 => intro w hSw; obtain ⟨_, x0, x1, x2, x3, y0, y1, y2, y3⟩ := hSw; go_simp; try (with_reducible rfl)
       try simp only [pq13]
       refine wpAnyH_ready (rs := [8]) (by kernel_rfl) (by simp) ?_
       refine AllReadyH.cons rfl (fun K hK => ?_) AllReadyH.nil
       go_simp
       go_at_call 16
       refine (aheadR x y true _ HR.out).mono ?_
       rintro e wq ⟨rfl, hx⟩
       have hbx := bthen hHeld.below hx
       have hHq := HDS.out _ hbx
       clear hHeld hx
       refine hK.out _ _ hHq (fun hHeld => ?_)
       clear hK K
       try simp only [pq13]
       refine takeZ (i := 9) (v := ?vt09) (d := some 30) ?ht09 ?rt09
       case ht09 => intro w hSw; obtain ⟨_, x0, x1, x2, x3, y0, y1, y2, y3⟩ := hSw; go_simp; try (with_reducible rfl)
       try simp only [pq13]
       refine wpAnyH_done (by kernel_rfl) ?_ _
       obtain ⟨hbq, z0, z1, z2, z3, y0, y1, y2, y3⟩ := hHq
       have HOQ := Lib.hid (HO.out.keep hbq)
       have hbw := bthen hb hbq
       have hsz := hbw.size
       have hwq : wr.heap.size ≤ wq.heap.size := hbq.size
       have HKY := Lib.hid (fun w' (h : Below w1.heap.size wq w') => show (w'.cell? ⟨b, o + k * 4, none⟩ = some (.string (sB y.host)) ∧ w'.cell? ⟨b, o + k * 4 + 1, none⟩ = some (.int .i64 y.kind)) ∧ w'.cell? ⟨b, o + k * 4 + 2, none⟩ = some (.string (sB y.key)) ∧ w'.cell? ⟨b, o + k * 4 + 3, none⟩ = some (.string (sB y.val)) from
        ⟨⟨(h.cell (p := ⟨b, o + k * 4, none⟩) hwb).trans y0, (h.cell (p := ⟨b, o + k * 4 + 1, none⟩) hwb).trans y1⟩, (h.cell (p := ⟨b, o + k * 4 + 2, none⟩) hwb).trans y2, (h.cell (p := ⟨b, o + k * 4 + 3, none⟩) hwb).trans y3⟩)
       go_wp2_with (first | (at_builtin; refine wpList_appG eEd _ rfl (.tmp 31) (.tmp 33) rfl w1.heap.size u5 so rfl HOQ.out x 1 _ rfl _ rfl rfl (by have := HLS.out; omega) hsz ?_; intro v5 w5 hown5 hb5; obtain ⟨⟨r0, r1⟩, r2, r3⟩ := HKY.out _ hb5; have hsz5 := Nat.le_trans hsz hb5.size; have HO5 := Lib.hid hown5; have hl5 : (so ++ [x]).length + 1 ≤ 1099511627776 := (by have := HLS.out; simp; omega)) | (at_builtin; refine wpList_appG eEd _ rfl (.tmp 35) (.tmp 40) rfl w1.heap.size v5 (so ++ [x]) rfl HO5.out y 1 _ rfl _ rfl rfl hl5 hsz5 ?_; intro v6 w6 hown6 hb6))
       go_roundg (n - (k + 1))
       case rel => exact ⟨k + 1, (so ++ [x] ++ [y], true), (by show _ = _; omega), by omega, by go_num, Lib.hid (HFS.out.trans HST.out), rfl, Lib.hid hown6, HNX, (hbw.trans hb5).trans hb6⟩
       case measure => omega
      | false =>
       have HR := Lib.hid hr
       have HST := Lib.hid (show H.stepE x (so, false) y = (so ++ [y], false) from if_neg (fun h => by rw [hr] at h; cases h.2))
       clear hr
       go_wp2
       go_region
       go_wp2
       refine wp_region_held_drew (S := fun w' => TwoE wr w' g x b o k y) (by kernel_rfl) (HDS.out _ ((Below.refl _ _).drew.drew)) (fun hHeld => ?_)
       refine takeZ (i := 0) (v := ?vf00) (d := some 21) ?hf00 ?rf00
       case hf00 => intro w hSw; obtain ⟨_, x0, x1, x2, x3, y0, y1, y2, y3⟩ := hSw; go_simp; try (with_reducible rfl)
       try simp only [pq13]
       refine takeZ (i := 1) (v := ?vf01) (d := some 22) ?hf01 ?rf01
       case hf01 => intro w hSw; obtain ⟨_, x0, x1, x2, x3, y0, y1, y2, y3⟩ := hSw; go_simp; try (with_reducible rfl)
       try simp only [pq13]
       refine takeZ (i := 2) (v := ?vf02) (d := some 23) ?hf02 ?rf02
       case hf02 => intro w hSw; obtain ⟨_, x0, x1, x2, x3, y0, y1, y2, y3⟩ := hSw; go_simp; try (with_reducible rfl)
       try simp only [pq13]
       refine takeZ (i := 3) (v := ?vf03) (d := some 24) ?hf03 ?rf03
       case hf03 => intro w hSw; obtain ⟨_, x0, x1, x2, x3, y0, y1, y2, y3⟩ := hSw; go_simp; try (with_reducible rfl)
       try simp only [pq13]
       refine takeZ (i := 4) (v := ?vf04) (d := some 25) ?hf04 ?rf04
       case hf04 => intro w hSw; obtain ⟨_, x0, x1, x2, x3, y0, y1, y2, y3⟩ := hSw; go_simp; try (with_reducible rfl)
       try simp only [pq13]
       refine takeZ (i := 5) (v := ?vf05) (d := some 26) ?hf05 ?rf05
       case hf05 => intro w hSw; obtain ⟨_, x0, x1, x2, x3, y0, y1, y2, y3⟩ := hSw; go_simp; try (with_reducible rfl)
       try simp only [pq13]
       refine takeZ (i := 6) (v := ?vf06) (d := some 27) ?hf06 ?rf06
       case hf06 => intro w hSw; obtain ⟨_, x0, x1, x2, x3, y0, y1, y2, y3⟩ := hSw; go_simp; try (with_reducible rfl)
       try simp only [pq13]
       refine takeZ (i := 7) (v := ?vf07) (d := some 28) ?hf07 ?rf07
       case hf07 => intro w hSw; obtain ⟨_, x0, x1, x2, x3, y0, y1, y2, y3⟩ := hSw; go_simp; try (with_reducible rfl)
       try simp only [pq13]
       refine wpAnyH_ready (rs := [8]) (by kernel_rfl) (by simp) ?_
       refine AllReadyH.cons rfl (fun K hK => ?_) AllReadyH.nil
       go_simp
       go_at_call 16
       refine (aheadR x y false _ HR.out).mono ?_
       rintro e wq ⟨rfl, hx⟩
       have hbx := bthen hHeld.below hx
       have hHq := HDS.out _ hbx
       clear hHeld hx
       refine hK.out _ _ hHq (fun hHeld => ?_)
       clear hK K
       try simp only [pq13]
       refine takeZ (i := 9) (v := ?vf09) (d := some 30) ?hf09 ?rf09
       case hf09 => intro w hSw; obtain ⟨_, x0, x1, x2, x3, y0, y1, y2, y3⟩ := hSw; go_simp; try (with_reducible rfl)
       try simp only [pq13]
       refine wpAnyH_done (by kernel_rfl) ?_ _
       obtain ⟨hbq, z0, z1, z2, z3, y0, y1, y2, y3⟩ := hHq
       have HOQ := Lib.hid (HO.out.keep hbq)
       have hbw := bthen hb hbq
       have hsz := hbw.size
       go_wp2_with (at_builtin; refine wpList_appG eEd _ rfl (.tmp 35) (.tmp 40) rfl w1.heap.size u5 so rfl HOQ.out y 1 _ rfl _ rfl rfl (by have := HLS.out; omega) hsz ?_; intro v5 w5 hown5 hb5)
       go_roundg (n - (k + 1))
       case rel => exact ⟨k + 1, (so ++ [y], false), (by show _ = _; omega), by omega, by go_num, Lib.hid (HFS.out.trans HST.out), rfl, Lib.hid hown5, HNX, hbw.trans hb5⟩
       case measure => omega
    ·have n0 := sB_eq j0
     have n3 : (y.kind == x.kind) = false := beq_eq_false_iff_ne.2 j
     clear he j j0
     cases sd with
     | true =>
      have HST := Lib.hid (show H.stepE x (so, true) y = (so ++ [y], true) from if_neg (fun h => by cases h.1))
      go_wp2
      go_region
      go_wp2
      refine wp_region_held_drew (S := fun w' => TwoE wr w' g x b o k y) (by kernel_rfl) (HDS.out _ ((Below.refl _ _).drew.drew)) (fun hHeld => ?_)
      refine takeZ (i := 0) (v := ?vd10) (d := some 21) ?hd10 ?rd10
      case hd10 => intro w hSw; obtain ⟨_, x0, x1, x2, x3, y0, y1, y2, y3⟩ := hSw; go_simp; try (with_reducible rfl)
      try simp only [pq13]
      refine takeZ (i := 1) (v := ?vd11) (d := some 22) ?hd11 ?rd11
      case hd11 => intro w hSw; obtain ⟨_, x0, x1, x2, x3, y0, y1, y2, y3⟩ := hSw; go_simp; try (with_reducible rfl)
      try simp only [pq13]
      refine takeZ (i := 2) (v := ?vd12) (d := some 23) ?hd12 ?rd12
      case hd12 => intro w hSw; obtain ⟨_, x0, x1, x2, x3, y0, y1, y2, y3⟩ := hSw; go_simp; try (with_reducible rfl)
      try simp only [pq13]
      refine takeD13 (i := 3) (v := undef) (d := some 24) rfl rfl (by kernel_rfl) (by kernel_rfl) (by kernel_rfl) (fun _ _ _ h => h) (Or.inr ⟨by rfl, rfl⟩) (by assumption) ?rd13
      try simp only [pq13]
      refine takeD13 (i := 4) (v := undef) (d := some 25) rfl rfl (by kernel_rfl) (by kernel_rfl) (by kernel_rfl) (fun _ _ _ h => h) (Or.inr ⟨by rfl, rfl⟩) (by assumption) ?rd14
      try simp only [pq13]
      refine takeD13 (i := 5) (v := undef) (d := some 26) rfl rfl (by kernel_rfl) (by kernel_rfl) (by kernel_rfl) (fun _ _ _ h => h) (Or.inr ⟨by rfl, rfl⟩) (by assumption) ?rd15
      try simp only [pq13]
      refine takeD13 (i := 6) (v := undef) (d := some 27) rfl rfl (by kernel_rfl) (by kernel_rfl) (by kernel_rfl) (fun _ _ _ h => h) (Or.inr ⟨by rfl, rfl⟩) (by assumption) ?rd16
      try simp only [pq13]
      refine takeD13 (i := 7) (v := undef) (d := some 28) rfl rfl (by kernel_rfl) (by kernel_rfl) (by kernel_rfl) (fun _ _ _ h => h) (Or.inr ⟨by rfl, rfl⟩) (by assumption) ?rd17
      try simp only [pq13]
      refine takeD13 (i := 8) (v := undef) (d := some 29) rfl rfl (by kernel_rfl) (by kernel_rfl) (by kernel_rfl) (fun _ _ _ h => h) (Or.inr ⟨by rfl, rfl⟩) (by assumption) ?rd18
      try simp only [pq13]
      refine takeZ (i := 9) (v := ?vd19) (d := some 30) ?hd19 ?rd19
      case hd19 => intro w hSw; obtain ⟨_, x0, x1, x2, x3, y0, y1, y2, y3⟩ := hSw; go_simp; try (with_reducible rfl)
      try simp only [pq13]
      refine wpAnyH_done (by kernel_rfl) ?_ _
      obtain ⟨hbq, z0, z1, z2, z3, y0, y1, y2, y3⟩ := hHeld
      have hsz := hb.size
      go_wp2_with (at_builtin; refine wpList_appG eEd (wr.drew.drew) rfl (.tmp 35) (.tmp 40) rfl w1.heap.size u5 so rfl HO.out y 1 _ rfl _ rfl rfl (by have := HLS.out; omega) hsz ?_; intro v5 w5 hown5 hb5)
      go_roundg (n - (k + 1))
      case rel => exact ⟨k + 1, (so ++ [y], true), (by show _ = _; omega), by omega, by go_num, Lib.hid (HFS.out.trans HST.out), rfl, Lib.hid hown5, HNX, hb.drew.drew.trans hb5⟩
      case measure => omega
     | false =>
      obtain ⟨r, hr⟩ : ∃ r, H.aheadE x y = r := ⟨_, rfl⟩
      cases r with
      | true =>
       have HR := Lib.hid hr
       have HST := Lib.hid (show H.stepE x (so, false) y = (so ++ [x] ++ [y], true) from if_pos ⟨rfl, hr⟩)
       clear hr
       go_wp2
       go_region
       go_wp2
       refine wp_region_held_drew (S := fun w' => TwoE wr w' g x b o k y) (by kernel_rfl) (HDS.out _ ((Below.refl _ _).drew.drew)) (fun hHeld => ?_)
       refine takeZ (i := 0) (v := ?vt10) (d := some 21) ?ht10 ?rt10
       case ht10 => intro w hSw; obtain ⟨_, x0, x1, x2, x3, y0, y1, y2, y3⟩ := hSw; go_simp; try (with_reducible rfl)
       try simp only [pq13]
       refine takeZ (i := 1) (v := ?vt11) (d := some 22) ?ht11 ?rt11
       case ht11 => intro w hSw; obtain ⟨_, x0, x1, x2, x3, y0, y1, y2, y3⟩ := hSw; go_simp; try (with_reducible rfl)
       try simp only [pq13]
       refine takeZ (i := 2) (v := ?vt12) (d := some 23) ?ht12 ?rt12
       case ht12 => intro w hSw; obtain ⟨_, x0, x1, x2, x3, y0, y1, y2, y3⟩ := hSw; go_simp; try (with_reducible rfl)
       try simp only [pq13]
       refine takeZ (i := 3) (v := ?vt13) (d := some 24) ?ht13 ?rt13
       case ht13 => intro w hSw; obtain ⟨_, x0, x1, x2, x3, y0, y1, y2, y3⟩ := hSw; go_simp; try (with_reducible rfl)
       try simp only [pq13]
       refine takeZ (i := 4) (v := ?vt14) (d := some 25) ?ht14 ?rt14
       case ht14 => intro w hSw; obtain ⟨_, x0, x1, x2, x3, y0, y1, y2, y3⟩ := hSw; go_simp; try (with_reducible rfl)
       try simp only [pq13]
       refine takeZ (i := 5) (v := ?vt15) (d := some 26) ?ht15 ?rt15
       case ht15 => intro w hSw; obtain ⟨_, x0, x1, x2, x3, y0, y1, y2, y3⟩ := hSw; go_simp; try (with_reducible rfl)
       try simp only [pq13]
       refine takeZ (i := 6) (v := ?vt16) (d := some 27) ?ht16 ?rt16
       case ht16 => intro w hSw; obtain ⟨_, x0, x1, x2, x3, y0, y1, y2, y3⟩ := hSw; go_simp; try (with_reducible rfl)
       try simp only [pq13]
       refine takeZ (i := 7) (v := ?vt17) (d := some 28) ?ht17 ?rt17
       case ht17 => intro w hSw; obtain ⟨_, x0, x1, x2, x3, y0, y1, y2, y3⟩ := hSw; go_simp; try (with_reducible rfl)
       try simp only [pq13]
       refine wpAnyH_ready (rs := [8]) (by kernel_rfl) (by simp) ?_
       refine AllReadyH.cons rfl (fun K hK => ?_) AllReadyH.nil
       go_simp
       go_at_call 16
       refine (aheadR x y true _ HR.out).mono ?_
       rintro e wq ⟨rfl, hx⟩
       have hbx := bthen hHeld.below hx
       have hHq := HDS.out _ hbx
       clear hHeld hx
       refine hK.out _ _ hHq (fun hHeld => ?_)
       clear hK K
       try simp only [pq13]
       refine takeZ (i := 9) (v := ?vt19) (d := some 30) ?ht19 ?rt19
       case ht19 => intro w hSw; obtain ⟨_, x0, x1, x2, x3, y0, y1, y2, y3⟩ := hSw; go_simp; try (with_reducible rfl)
       try simp only [pq13]
       refine wpAnyH_done (by kernel_rfl) ?_ _
       obtain ⟨hbq, z0, z1, z2, z3, y0, y1, y2, y3⟩ := hHq
       have HOQ := Lib.hid (HO.out.keep hbq)
       have hbw := bthen hb hbq
       have hsz := hbw.size
       have hwq : wr.heap.size ≤ wq.heap.size := hbq.size
       have HKY := Lib.hid (fun w' (h : Below w1.heap.size wq w') => show (w'.cell? ⟨b, o + k * 4, none⟩ = some (.string (sB y.host)) ∧ w'.cell? ⟨b, o + k * 4 + 1, none⟩ = some (.int .i64 y.kind)) ∧ w'.cell? ⟨b, o + k * 4 + 2, none⟩ = some (.string (sB y.key)) ∧ w'.cell? ⟨b, o + k * 4 + 3, none⟩ = some (.string (sB y.val)) from
        ⟨⟨(h.cell (p := ⟨b, o + k * 4, none⟩) hwb).trans y0, (h.cell (p := ⟨b, o + k * 4 + 1, none⟩) hwb).trans y1⟩, (h.cell (p := ⟨b, o + k * 4 + 2, none⟩) hwb).trans y2, (h.cell (p := ⟨b, o + k * 4 + 3, none⟩) hwb).trans y3⟩)
       go_wp2_with (first | (at_builtin; refine wpList_appG eEd _ rfl (.tmp 31) (.tmp 33) rfl w1.heap.size u5 so rfl HOQ.out x 1 _ rfl _ rfl rfl (by have := HLS.out; omega) hsz ?_; intro v5 w5 hown5 hb5; obtain ⟨⟨r0, r1⟩, r2, r3⟩ := HKY.out _ hb5; have hsz5 := Nat.le_trans hsz hb5.size; have HO5 := Lib.hid hown5; have hl5 : (so ++ [x]).length + 1 ≤ 1099511627776 := (by have := HLS.out; simp; omega)) | (at_builtin; refine wpList_appG eEd _ rfl (.tmp 35) (.tmp 40) rfl w1.heap.size v5 (so ++ [x]) rfl HO5.out y 1 _ rfl _ rfl rfl hl5 hsz5 ?_; intro v6 w6 hown6 hb6))
       go_roundg (n - (k + 1))
       case rel => exact ⟨k + 1, (so ++ [x] ++ [y], true), (by show _ = _; omega), by omega, by go_num, Lib.hid (HFS.out.trans HST.out), rfl, Lib.hid hown6, HNX, (hbw.trans hb5).trans hb6⟩
       case measure => omega
      | false =>
       have HR := Lib.hid hr
       have HST := Lib.hid (show H.stepE x (so, false) y = (so ++ [y], false) from if_neg (fun h => by rw [hr] at h; cases h.2))
       clear hr
       go_wp2
       go_region
       go_wp2
       refine wp_region_held_drew (S := fun w' => TwoE wr w' g x b o k y) (by kernel_rfl) (HDS.out _ ((Below.refl _ _).drew.drew)) (fun hHeld => ?_)
       refine takeZ (i := 0) (v := ?vf10) (d := some 21) ?hf10 ?rf10
       case hf10 => intro w hSw; obtain ⟨_, x0, x1, x2, x3, y0, y1, y2, y3⟩ := hSw; go_simp; try (with_reducible rfl)
       try simp only [pq13]
       refine takeZ (i := 1) (v := ?vf11) (d := some 22) ?hf11 ?rf11
       case hf11 => intro w hSw; obtain ⟨_, x0, x1, x2, x3, y0, y1, y2, y3⟩ := hSw; go_simp; try (with_reducible rfl)
       try simp only [pq13]
       refine takeZ (i := 2) (v := ?vf12) (d := some 23) ?hf12 ?rf12
       case hf12 => intro w hSw; obtain ⟨_, x0, x1, x2, x3, y0, y1, y2, y3⟩ := hSw; go_simp; try (with_reducible rfl)
       try simp only [pq13]
       refine takeZ (i := 3) (v := ?vf13) (d := some 24) ?hf13 ?rf13
       case hf13 => intro w hSw; obtain ⟨_, x0, x1, x2, x3, y0, y1, y2, y3⟩ := hSw; go_simp; try (with_reducible rfl)
       try simp only [pq13]
       refine takeZ (i := 4) (v := ?vf14) (d := some 25) ?hf14 ?rf14
       case hf14 => intro w hSw; obtain ⟨_, x0, x1, x2, x3, y0, y1, y2, y3⟩ := hSw; go_simp; try (with_reducible rfl)
       try simp only [pq13]
       refine takeZ (i := 5) (v := ?vf15) (d := some 26) ?hf15 ?rf15
       case hf15 => intro w hSw; obtain ⟨_, x0, x1, x2, x3, y0, y1, y2, y3⟩ := hSw; go_simp; try (with_reducible rfl)
       try simp only [pq13]
       refine takeZ (i := 6) (v := ?vf16) (d := some 27) ?hf16 ?rf16
       case hf16 => intro w hSw; obtain ⟨_, x0, x1, x2, x3, y0, y1, y2, y3⟩ := hSw; go_simp; try (with_reducible rfl)
       try simp only [pq13]
       refine takeZ (i := 7) (v := ?vf17) (d := some 28) ?hf17 ?rf17
       case hf17 => intro w hSw; obtain ⟨_, x0, x1, x2, x3, y0, y1, y2, y3⟩ := hSw; go_simp; try (with_reducible rfl)
       try simp only [pq13]
       refine wpAnyH_ready (rs := [8]) (by kernel_rfl) (by simp) ?_
       refine AllReadyH.cons rfl (fun K hK => ?_) AllReadyH.nil
       go_simp
       go_at_call 16
       refine (aheadR x y false _ HR.out).mono ?_
       rintro e wq ⟨rfl, hx⟩
       have hbx := bthen hHeld.below hx
       have hHq := HDS.out _ hbx
       clear hHeld hx
       refine hK.out _ _ hHq (fun hHeld => ?_)
       clear hK K
       try simp only [pq13]
       refine takeZ (i := 9) (v := ?vf19) (d := some 30) ?hf19 ?rf19
       case hf19 => intro w hSw; obtain ⟨_, x0, x1, x2, x3, y0, y1, y2, y3⟩ := hSw; go_simp; try (with_reducible rfl)
       try simp only [pq13]
       refine wpAnyH_done (by kernel_rfl) ?_ _
       obtain ⟨hbq, z0, z1, z2, z3, y0, y1, y2, y3⟩ := hHq
       have HOQ := Lib.hid (HO.out.keep hbq)
       have hbw := bthen hb hbq
       have hsz := hbw.size
       go_wp2_with (at_builtin; refine wpList_appG eEd _ rfl (.tmp 35) (.tmp 40) rfl w1.heap.size u5 so rfl HOQ.out y 1 _ rfl _ rfl rfl (by have := HLS.out; omega) hsz ?_; intro v5 w5 hown5 hb5)
       go_roundg (n - (k + 1))
       case rel => exact ⟨k + 1, (so ++ [y], false), (by show _ = _; omega), by omega, by go_num, Lib.hid (HFS.out.trans HST.out), rfl, Lib.hid hown5, HNX, hbw.trans hb5⟩
       case measure => omega
    ·have n0 := sB_eq j0
     have n1 : (y.kind == x.kind) = true := beq_iff_eq.2 j1
     have n3 := sB_ne j
     clear he j j0 j1
     cases sd with
     | true =>
      have HST := Lib.hid (show H.stepE x (so, true) y = (so ++ [y], true) from if_neg (fun h => by cases h.1))
      go_wp2
      go_region
      go_wp2
      refine wp_region_held_drew (S := fun w' => TwoE wr w' g x b o k y) (by kernel_rfl) (HDS.out _ ((Below.refl _ _).drew.drew)) (fun hHeld => ?_)
      refine takeZ (i := 0) (v := ?vd20) (d := some 21) ?hd20 ?rd20
      case hd20 => intro w hSw; obtain ⟨_, x0, x1, x2, x3, y0, y1, y2, y3⟩ := hSw; go_simp; try (with_reducible rfl)
      try simp only [pq13]
      refine takeZ (i := 1) (v := ?vd21) (d := some 22) ?hd21 ?rd21
      case hd21 => intro w hSw; obtain ⟨_, x0, x1, x2, x3, y0, y1, y2, y3⟩ := hSw; go_simp; try (with_reducible rfl)
      try simp only [pq13]
      refine takeZ (i := 2) (v := ?vd22) (d := some 23) ?hd22 ?rd22
      case hd22 => intro w hSw; obtain ⟨_, x0, x1, x2, x3, y0, y1, y2, y3⟩ := hSw; go_simp; try (with_reducible rfl)
      try simp only [pq13]
      refine takeD13 (i := 3) (v := undef) (d := some 24) rfl rfl (by kernel_rfl) (by kernel_rfl) (by kernel_rfl) (fun _ _ _ h => h) (Or.inr ⟨by rfl, rfl⟩) (by assumption) ?rd23
      try simp only [pq13]
      refine takeD13 (i := 4) (v := undef) (d := some 25) rfl rfl (by kernel_rfl) (by kernel_rfl) (by kernel_rfl) (fun _ _ _ h => h) (Or.inr ⟨by rfl, rfl⟩) (by assumption) ?rd24
      try simp only [pq13]
      refine takeD13 (i := 5) (v := undef) (d := some 26) rfl rfl (by kernel_rfl) (by kernel_rfl) (by kernel_rfl) (fun _ _ _ h => h) (Or.inr ⟨by rfl, rfl⟩) (by assumption) ?rd25
      try simp only [pq13]
      refine takeD13 (i := 6) (v := undef) (d := some 27) rfl rfl (by kernel_rfl) (by kernel_rfl) (by kernel_rfl) (fun _ _ _ h => h) (Or.inr ⟨by rfl, rfl⟩) (by assumption) ?rd26
      try simp only [pq13]
      refine takeD13 (i := 7) (v := undef) (d := some 28) rfl rfl (by kernel_rfl) (by kernel_rfl) (by kernel_rfl) (fun _ _ _ h => h) (Or.inr ⟨by rfl, rfl⟩) (by assumption) ?rd27
      try simp only [pq13]
      refine takeD13 (i := 8) (v := undef) (d := some 29) rfl rfl (by kernel_rfl) (by kernel_rfl) (by kernel_rfl) (fun _ _ _ h => h) (Or.inr ⟨by rfl, rfl⟩) (by assumption) ?rd28
      try simp only [pq13]
      refine takeZ (i := 9) (v := ?vd29) (d := some 30) ?hd29 ?rd29
      case hd29 => intro w hSw; obtain ⟨_, x0, x1, x2, x3, y0, y1, y2, y3⟩ := hSw; go_simp; try (with_reducible rfl)
      try simp only [pq13]
      refine wpAnyH_done (by kernel_rfl) ?_ _
      obtain ⟨hbq, z0, z1, z2, z3, y0, y1, y2, y3⟩ := hHeld
      have hsz := hb.size
      go_wp2_with (at_builtin; refine wpList_appG eEd (wr.drew.drew) rfl (.tmp 35) (.tmp 40) rfl w1.heap.size u5 so rfl HO.out y 1 _ rfl _ rfl rfl (by have := HLS.out; omega) hsz ?_; intro v5 w5 hown5 hb5)
      go_roundg (n - (k + 1))
      case rel => exact ⟨k + 1, (so ++ [y], true), (by show _ = _; omega), by omega, by go_num, Lib.hid (HFS.out.trans HST.out), rfl, Lib.hid hown5, HNX, hb.drew.drew.trans hb5⟩
      case measure => omega
     | false =>
      obtain ⟨r, hr⟩ : ∃ r, H.aheadE x y = r := ⟨_, rfl⟩
      cases r with
      | true =>
       have HR := Lib.hid hr
       have HST := Lib.hid (show H.stepE x (so, false) y = (so ++ [x] ++ [y], true) from if_pos ⟨rfl, hr⟩)
       clear hr
       go_wp2
       go_region
       go_wp2
       refine wp_region_held_drew (S := fun w' => TwoE wr w' g x b o k y) (by kernel_rfl) (HDS.out _ ((Below.refl _ _).drew.drew)) (fun hHeld => ?_)
       refine takeZ (i := 0) (v := ?vt20) (d := some 21) ?ht20 ?rt20
       case ht20 => intro w hSw; obtain ⟨_, x0, x1, x2, x3, y0, y1, y2, y3⟩ := hSw; go_simp; try (with_reducible rfl)
       try simp only [pq13]
       refine takeZ (i := 1) (v := ?vt21) (d := some 22) ?ht21 ?rt21
       case ht21 => intro w hSw; obtain ⟨_, x0, x1, x2, x3, y0, y1, y2, y3⟩ := hSw; go_simp; try (with_reducible rfl)
       try simp only [pq13]
       refine takeZ (i := 2) (v := ?vt22) (d := some 23) ?ht22 ?rt22
       case ht22 => intro w hSw; obtain ⟨_, x0, x1, x2, x3, y0, y1, y2, y3⟩ := hSw; go_simp; try (with_reducible rfl)
       try simp only [pq13]
       refine takeZ (i := 3) (v := ?vt23) (d := some 24) ?ht23 ?rt23
       case ht23 => intro w hSw; obtain ⟨_, x0, x1, x2, x3, y0, y1, y2, y3⟩ := hSw; go_simp; try (with_reducible rfl)
       try simp only [pq13]
       refine takeZ (i := 4) (v := ?vt24) (d := some 25) ?ht24 ?rt24
       case ht24 => intro w hSw; obtain ⟨_, x0, x1, x2, x3, y0, y1, y2, y3⟩ := hSw; go_simp; try (with_reducible rfl)
       try simp only [pq13]
       refine takeZ (i := 5) (v := ?vt25) (d := some 26) ?ht25 ?rt25
       case ht25 => intro w hSw; obtain ⟨_, x0, x1, x2, x3, y0, y1, y2, y3⟩ := hSw; go_simp; try (with_reducible rfl)
       try simp only [pq13]
       refine takeZ (i := 6) (v := ?vt26) (d := some 27) ?ht26 ?rt26
       case ht26 => intro w hSw; obtain ⟨_, x0, x1, x2, x3, y0, y1, y2, y3⟩ := hSw; go_simp; try (with_reducible rfl)
       try simp only [pq13]
       refine takeZ (i := 7) (v := ?vt27) (d := some 28) ?ht27 ?rt27
       case ht27 => intro w hSw; obtain ⟨_, x0, x1, x2, x3, y0, y1, y2, y3⟩ := hSw; go_simp; try (with_reducible rfl)
       try simp only [pq13]
       refine wpAnyH_ready (rs := [8]) (by kernel_rfl) (by simp) ?_
       refine AllReadyH.cons rfl (fun K hK => ?_) AllReadyH.nil
       go_simp
       go_at_call 16
       refine (aheadR x y true _ HR.out).mono ?_
       rintro e wq ⟨rfl, hx⟩
       have hbx := bthen hHeld.below hx
       have hHq := HDS.out _ hbx
       clear hHeld hx
       refine hK.out _ _ hHq (fun hHeld => ?_)
       clear hK K
       try simp only [pq13]
       refine takeZ (i := 9) (v := ?vt29) (d := some 30) ?ht29 ?rt29
       case ht29 => intro w hSw; obtain ⟨_, x0, x1, x2, x3, y0, y1, y2, y3⟩ := hSw; go_simp; try (with_reducible rfl)
       try simp only [pq13]
       refine wpAnyH_done (by kernel_rfl) ?_ _
       obtain ⟨hbq, z0, z1, z2, z3, y0, y1, y2, y3⟩ := hHq
       have HOQ := Lib.hid (HO.out.keep hbq)
       have hbw := bthen hb hbq
       have hsz := hbw.size
       have hwq : wr.heap.size ≤ wq.heap.size := hbq.size
       have HKY := Lib.hid (fun w' (h : Below w1.heap.size wq w') => show (w'.cell? ⟨b, o + k * 4, none⟩ = some (.string (sB y.host)) ∧ w'.cell? ⟨b, o + k * 4 + 1, none⟩ = some (.int .i64 y.kind)) ∧ w'.cell? ⟨b, o + k * 4 + 2, none⟩ = some (.string (sB y.key)) ∧ w'.cell? ⟨b, o + k * 4 + 3, none⟩ = some (.string (sB y.val)) from
        ⟨⟨(h.cell (p := ⟨b, o + k * 4, none⟩) hwb).trans y0, (h.cell (p := ⟨b, o + k * 4 + 1, none⟩) hwb).trans y1⟩, (h.cell (p := ⟨b, o + k * 4 + 2, none⟩) hwb).trans y2, (h.cell (p := ⟨b, o + k * 4 + 3, none⟩) hwb).trans y3⟩)
       go_wp2_with (first | (at_builtin; refine wpList_appG eEd _ rfl (.tmp 31) (.tmp 33) rfl w1.heap.size u5 so rfl HOQ.out x 1 _ rfl _ rfl rfl (by have := HLS.out; omega) hsz ?_; intro v5 w5 hown5 hb5; obtain ⟨⟨r0, r1⟩, r2, r3⟩ := HKY.out _ hb5; have hsz5 := Nat.le_trans hsz hb5.size; have HO5 := Lib.hid hown5; have hl5 : (so ++ [x]).length + 1 ≤ 1099511627776 := (by have := HLS.out; simp; omega)) | (at_builtin; refine wpList_appG eEd _ rfl (.tmp 35) (.tmp 40) rfl w1.heap.size v5 (so ++ [x]) rfl HO5.out y 1 _ rfl _ rfl rfl hl5 hsz5 ?_; intro v6 w6 hown6 hb6))
       go_roundg (n - (k + 1))
       case rel => exact ⟨k + 1, (so ++ [x] ++ [y], true), (by show _ = _; omega), by omega, by go_num, Lib.hid (HFS.out.trans HST.out), rfl, Lib.hid hown6, HNX, (hbw.trans hb5).trans hb6⟩
       case measure => omega
      | false =>
       have HR := Lib.hid hr
       have HST := Lib.hid (show H.stepE x (so, false) y = (so ++ [y], false) from if_neg (fun h => by rw [hr] at h; cases h.2))
       clear hr
       go_wp2
       go_region
       go_wp2
       refine wp_region_held_drew (S := fun w' => TwoE wr w' g x b o k y) (by kernel_rfl) (HDS.out _ ((Below.refl _ _).drew.drew)) (fun hHeld => ?_)
       refine takeZ (i := 0) (v := ?vf20) (d := some 21) ?hf20 ?rf20
       case hf20 => intro w hSw; obtain ⟨_, x0, x1, x2, x3, y0, y1, y2, y3⟩ := hSw; go_simp; try (with_reducible rfl)
       try simp only [pq13]
       refine takeZ (i := 1) (v := ?vf21) (d := some 22) ?hf21 ?rf21
       case hf21 => intro w hSw; obtain ⟨_, x0, x1, x2, x3, y0, y1, y2, y3⟩ := hSw; go_simp; try (with_reducible rfl)
       try simp only [pq13]
       refine takeZ (i := 2) (v := ?vf22) (d := some 23) ?hf22 ?rf22
       case hf22 => intro w hSw; obtain ⟨_, x0, x1, x2, x3, y0, y1, y2, y3⟩ := hSw; go_simp; try (with_reducible rfl)
       try simp only [pq13]
       refine takeZ (i := 3) (v := ?vf23) (d := some 24) ?hf23 ?rf23
       case hf23 => intro w hSw; obtain ⟨_, x0, x1, x2, x3, y0, y1, y2, y3⟩ := hSw; go_simp; try (with_reducible rfl)
       try simp only [pq13]
       refine takeZ (i := 4) (v := ?vf24) (d := some 25) ?hf24 ?rf24
       case hf24 => intro w hSw; obtain ⟨_, x0, x1, x2, x3, y0, y1, y2, y3⟩ := hSw; go_simp; try (with_reducible rfl)
       try simp only [pq13]
       refine takeZ (i := 5) (v := ?vf25) (d := some 26) ?hf25 ?rf25
       case hf25 => intro w hSw; obtain ⟨_, x0, x1, x2, x3, y0, y1, y2, y3⟩ := hSw; go_simp; try (with_reducible rfl)
       try simp only [pq13]
       refine takeZ (i := 6) (v := ?vf26) (d := some 27) ?hf26 ?rf26
       case hf26 => intro w hSw; obtain ⟨_, x0, x1, x2, x3, y0, y1, y2, y3⟩ := hSw; go_simp; try (with_reducible rfl)
       try simp only [pq13]
       refine takeZ (i := 7) (v := ?vf27) (d := some 28) ?hf27 ?rf27
       case hf27 => intro w hSw; obtain ⟨_, x0, x1, x2, x3, y0, y1, y2, y3⟩ := hSw; go_simp; try (with_reducible rfl)
       try simp only [pq13]
       refine wpAnyH_ready (rs := [8]) (by kernel_rfl) (by simp) ?_
       refine AllReadyH.cons rfl (fun K hK => ?_) AllReadyH.nil
       go_simp
       go_at_call 16
       refine (aheadR x y false _ HR.out).mono ?_
       rintro e wq ⟨rfl, hx⟩
       have hbx := bthen hHeld.below hx
       have hHq := HDS.out _ hbx
       clear hHeld hx
       refine hK.out _ _ hHq (fun hHeld => ?_)
       clear hK K
       try simp only [pq13]
       refine takeZ (i := 9) (v := ?vf29) (d := some 30) ?hf29 ?rf29
       case hf29 => intro w hSw; obtain ⟨_, x0, x1, x2, x3, y0, y1, y2, y3⟩ := hSw; go_simp; try (with_reducible rfl)
       try simp only [pq13]
       refine wpAnyH_done (by kernel_rfl) ?_ _
       obtain ⟨hbq, z0, z1, z2, z3, y0, y1, y2, y3⟩ := hHq
       have HOQ := Lib.hid (HO.out.keep hbq)
       have hbw := bthen hb hbq
       have hsz := hbw.size
       go_wp2_with (at_builtin; refine wpList_appG eEd _ rfl (.tmp 35) (.tmp 40) rfl w1.heap.size u5 so rfl HOQ.out y 1 _ rfl _ rfl rfl (by have := HLS.out; omega) hsz ?_; intro v5 w5 hown5 hb5)
       go_roundg (n - (k + 1))
       case rel => exact ⟨k + 1, (so ++ [y], false), (by show _ = _; omega), by omega, by go_num, Lib.hid (HFS.out.trans HST.out), rfl, Lib.hid hown5, HNX, hbw.trans hb5⟩
       case measure => omega
    ·have n0 := sB_eq j0
     have n1 : (y.kind == x.kind) = true := beq_iff_eq.2 j1
     have n2 := sB_eq j2
     have n3 := sB_ne j
     clear he j j0 j1 j2
     cases sd with
     | true =>
      have HST := Lib.hid (show H.stepE x (so, true) y = (so ++ [y], true) from if_neg (fun h => by cases h.1))
      go_wp2
      go_region
      go_wp2
      refine wp_region_held_drew (S := fun w' => TwoE wr w' g x b o k y) (by kernel_rfl) (HDS.out _ ((Below.refl _ _).drew.drew)) (fun hHeld => ?_)
      refine takeZ (i := 0) (v := ?vd30) (d := some 21) ?hd30 ?rd30
      case hd30 => intro w hSw; obtain ⟨_, x0, x1, x2, x3, y0, y1, y2, y3⟩ := hSw; go_simp; try (with_reducible rfl)
      try simp only [pq13]
      refine takeZ (i := 1) (v := ?vd31) (d := some 22) ?hd31 ?rd31
      case hd31 => intro w hSw; obtain ⟨_, x0, x1, x2, x3, y0, y1, y2, y3⟩ := hSw; go_simp; try (with_reducible rfl)
      try simp only [pq13]
      refine takeZ (i := 2) (v := ?vd32) (d := some 23) ?hd32 ?rd32
      case hd32 => intro w hSw; obtain ⟨_, x0, x1, x2, x3, y0, y1, y2, y3⟩ := hSw; go_simp; try (with_reducible rfl)
      try simp only [pq13]
      refine takeD13 (i := 3) (v := undef) (d := some 24) rfl rfl (by kernel_rfl) (by kernel_rfl) (by kernel_rfl) (fun _ _ _ h => h) (Or.inr ⟨by rfl, rfl⟩) (by assumption) ?rd33
      try simp only [pq13]
      refine takeD13 (i := 4) (v := undef) (d := some 25) rfl rfl (by kernel_rfl) (by kernel_rfl) (by kernel_rfl) (fun _ _ _ h => h) (Or.inr ⟨by rfl, rfl⟩) (by assumption) ?rd34
      try simp only [pq13]
      refine takeD13 (i := 5) (v := undef) (d := some 26) rfl rfl (by kernel_rfl) (by kernel_rfl) (by kernel_rfl) (fun _ _ _ h => h) (Or.inr ⟨by rfl, rfl⟩) (by assumption) ?rd35
      try simp only [pq13]
      refine takeD13 (i := 6) (v := undef) (d := some 27) rfl rfl (by kernel_rfl) (by kernel_rfl) (by kernel_rfl) (fun _ _ _ h => h) (Or.inr ⟨by rfl, rfl⟩) (by assumption) ?rd36
      try simp only [pq13]
      refine takeD13 (i := 7) (v := undef) (d := some 28) rfl rfl (by kernel_rfl) (by kernel_rfl) (by kernel_rfl) (fun _ _ _ h => h) (Or.inr ⟨by rfl, rfl⟩) (by assumption) ?rd37
      try simp only [pq13]
      refine takeD13 (i := 8) (v := undef) (d := some 29) rfl rfl (by kernel_rfl) (by kernel_rfl) (by kernel_rfl) (fun _ _ _ h => h) (Or.inr ⟨by rfl, rfl⟩) (by assumption) ?rd38
      try simp only [pq13]
      refine takeZ (i := 9) (v := ?vd39) (d := some 30) ?hd39 ?rd39
      case hd39 => intro w hSw; obtain ⟨_, x0, x1, x2, x3, y0, y1, y2, y3⟩ := hSw; go_simp; try (with_reducible rfl)
      try simp only [pq13]
      refine wpAnyH_done (by kernel_rfl) ?_ _
      obtain ⟨hbq, z0, z1, z2, z3, y0, y1, y2, y3⟩ := hHeld
      have hsz := hb.size
      go_wp2_with (at_builtin; refine wpList_appG eEd (wr.drew.drew) rfl (.tmp 35) (.tmp 40) rfl w1.heap.size u5 so rfl HO.out y 1 _ rfl _ rfl rfl (by have := HLS.out; omega) hsz ?_; intro v5 w5 hown5 hb5)
      go_roundg (n - (k + 1))
      case rel => exact ⟨k + 1, (so ++ [y], true), (by show _ = _; omega), by omega, by go_num, Lib.hid (HFS.out.trans HST.out), rfl, Lib.hid hown5, HNX, hb.drew.drew.trans hb5⟩
      case measure => omega
     | false =>
      obtain ⟨r, hr⟩ : ∃ r, H.aheadE x y = r := ⟨_, rfl⟩
      cases r with
      | true =>
       have HR := Lib.hid hr
       have HST := Lib.hid (show H.stepE x (so, false) y = (so ++ [x] ++ [y], true) from if_pos ⟨rfl, hr⟩)
       clear hr
       go_wp2
       go_region
       go_wp2
       refine wp_region_held_drew (S := fun w' => TwoE wr w' g x b o k y) (by kernel_rfl) (HDS.out _ ((Below.refl _ _).drew.drew)) (fun hHeld => ?_)
       refine takeZ (i := 0) (v := ?vt30) (d := some 21) ?ht30 ?rt30
       case ht30 => intro w hSw; obtain ⟨_, x0, x1, x2, x3, y0, y1, y2, y3⟩ := hSw; go_simp; try (with_reducible rfl)
       try simp only [pq13]
       refine takeZ (i := 1) (v := ?vt31) (d := some 22) ?ht31 ?rt31
       case ht31 => intro w hSw; obtain ⟨_, x0, x1, x2, x3, y0, y1, y2, y3⟩ := hSw; go_simp; try (with_reducible rfl)
       try simp only [pq13]
       refine takeZ (i := 2) (v := ?vt32) (d := some 23) ?ht32 ?rt32
       case ht32 => intro w hSw; obtain ⟨_, x0, x1, x2, x3, y0, y1, y2, y3⟩ := hSw; go_simp; try (with_reducible rfl)
       try simp only [pq13]
       refine takeZ (i := 3) (v := ?vt33) (d := some 24) ?ht33 ?rt33
       case ht33 => intro w hSw; obtain ⟨_, x0, x1, x2, x3, y0, y1, y2, y3⟩ := hSw; go_simp; try (with_reducible rfl)
       try simp only [pq13]
       refine takeZ (i := 4) (v := ?vt34) (d := some 25) ?ht34 ?rt34
       case ht34 => intro w hSw; obtain ⟨_, x0, x1, x2, x3, y0, y1, y2, y3⟩ := hSw; go_simp; try (with_reducible rfl)
       try simp only [pq13]
       refine takeZ (i := 5) (v := ?vt35) (d := some 26) ?ht35 ?rt35
       case ht35 => intro w hSw; obtain ⟨_, x0, x1, x2, x3, y0, y1, y2, y3⟩ := hSw; go_simp; try (with_reducible rfl)
       try simp only [pq13]
       refine takeZ (i := 6) (v := ?vt36) (d := some 27) ?ht36 ?rt36
       case ht36 => intro w hSw; obtain ⟨_, x0, x1, x2, x3, y0, y1, y2, y3⟩ := hSw; go_simp; try (with_reducible rfl)
       try simp only [pq13]
       refine takeZ (i := 7) (v := ?vt37) (d := some 28) ?ht37 ?rt37
       case ht37 => intro w hSw; obtain ⟨_, x0, x1, x2, x3, y0, y1, y2, y3⟩ := hSw; go_simp; try (with_reducible rfl)
       try simp only [pq13]
       refine wpAnyH_ready (rs := [8]) (by kernel_rfl) (by simp) ?_
       refine AllReadyH.cons rfl (fun K hK => ?_) AllReadyH.nil
       go_simp
       go_at_call 16
       refine (aheadR x y true _ HR.out).mono ?_
       rintro e wq ⟨rfl, hx⟩
       have hbx := bthen hHeld.below hx
       have hHq := HDS.out _ hbx
       clear hHeld hx
       refine hK.out _ _ hHq (fun hHeld => ?_)
       clear hK K
       try simp only [pq13]
       refine takeZ (i := 9) (v := ?vt39) (d := some 30) ?ht39 ?rt39
       case ht39 => intro w hSw; obtain ⟨_, x0, x1, x2, x3, y0, y1, y2, y3⟩ := hSw; go_simp; try (with_reducible rfl)
       try simp only [pq13]
       refine wpAnyH_done (by kernel_rfl) ?_ _
       obtain ⟨hbq, z0, z1, z2, z3, y0, y1, y2, y3⟩ := hHq
       have HOQ := Lib.hid (HO.out.keep hbq)
       have hbw := bthen hb hbq
       have hsz := hbw.size
       have hwq : wr.heap.size ≤ wq.heap.size := hbq.size
       have HKY := Lib.hid (fun w' (h : Below w1.heap.size wq w') => show (w'.cell? ⟨b, o + k * 4, none⟩ = some (.string (sB y.host)) ∧ w'.cell? ⟨b, o + k * 4 + 1, none⟩ = some (.int .i64 y.kind)) ∧ w'.cell? ⟨b, o + k * 4 + 2, none⟩ = some (.string (sB y.key)) ∧ w'.cell? ⟨b, o + k * 4 + 3, none⟩ = some (.string (sB y.val)) from
        ⟨⟨(h.cell (p := ⟨b, o + k * 4, none⟩) hwb).trans y0, (h.cell (p := ⟨b, o + k * 4 + 1, none⟩) hwb).trans y1⟩, (h.cell (p := ⟨b, o + k * 4 + 2, none⟩) hwb).trans y2, (h.cell (p := ⟨b, o + k * 4 + 3, none⟩) hwb).trans y3⟩)
       go_wp2_with (first | (at_builtin; refine wpList_appG eEd _ rfl (.tmp 31) (.tmp 33) rfl w1.heap.size u5 so rfl HOQ.out x 1 _ rfl _ rfl rfl (by have := HLS.out; omega) hsz ?_; intro v5 w5 hown5 hb5; obtain ⟨⟨r0, r1⟩, r2, r3⟩ := HKY.out _ hb5; have hsz5 := Nat.le_trans hsz hb5.size; have HO5 := Lib.hid hown5; have hl5 : (so ++ [x]).length + 1 ≤ 1099511627776 := (by have := HLS.out; simp; omega)) | (at_builtin; refine wpList_appG eEd _ rfl (.tmp 35) (.tmp 40) rfl w1.heap.size v5 (so ++ [x]) rfl HO5.out y 1 _ rfl _ rfl rfl hl5 hsz5 ?_; intro v6 w6 hown6 hb6))
       go_roundg (n - (k + 1))
       case rel => exact ⟨k + 1, (so ++ [x] ++ [y], true), (by show _ = _; omega), by omega, by go_num, Lib.hid (HFS.out.trans HST.out), rfl, Lib.hid hown6, HNX, (hbw.trans hb5).trans hb6⟩
       case measure => omega
      | false =>
       have HR := Lib.hid hr
       have HST := Lib.hid (show H.stepE x (so, false) y = (so ++ [y], false) from if_neg (fun h => by rw [hr] at h; cases h.2))
       clear hr
       go_wp2
       go_region
       go_wp2
       refine wp_region_held_drew (S := fun w' => TwoE wr w' g x b o k y) (by kernel_rfl) (HDS.out _ ((Below.refl _ _).drew.drew)) (fun hHeld => ?_)
       refine takeZ (i := 0) (v := ?vf30) (d := some 21) ?hf30 ?rf30
       case hf30 => intro w hSw; obtain ⟨_, x0, x1, x2, x3, y0, y1, y2, y3⟩ := hSw; go_simp; try (with_reducible rfl)
       try simp only [pq13]
       refine takeZ (i := 1) (v := ?vf31) (d := some 22) ?hf31 ?rf31
       case hf31 => intro w hSw; obtain ⟨_, x0, x1, x2, x3, y0, y1, y2, y3⟩ := hSw; go_simp; try (with_reducible rfl)
       try simp only [pq13]
       refine takeZ (i := 2) (v := ?vf32) (d := some 23) ?hf32 ?rf32
       case hf32 => intro w hSw; obtain ⟨_, x0, x1, x2, x3, y0, y1, y2, y3⟩ := hSw; go_simp; try (with_reducible rfl)
       try simp only [pq13]
       refine takeZ (i := 3) (v := ?vf33) (d := some 24) ?hf33 ?rf33
       case hf33 => intro w hSw; obtain ⟨_, x0, x1, x2, x3, y0, y1, y2, y3⟩ := hSw; go_simp; try (with_reducible rfl)
       try simp only [pq13]
       refine takeZ (i := 4) (v := ?vf34) (d := some 25) ?hf34 ?rf34
       case hf34 => intro w hSw; obtain ⟨_, x0, x1, x2, x3, y0, y1, y2, y3⟩ := hSw; go_simp; try (with_reducible rfl)
       try simp only [pq13]
       refine takeZ (i := 5) (v := ?vf35) (d := some 26) ?hf35 ?rf35
       case hf35 => intro w hSw; obtain ⟨_, x0, x1, x2, x3, y0, y1, y2, y3⟩ := hSw; go_simp; try (with_reducible rfl)
       try simp only [pq13]
       refine takeZ (i := 6) (v := ?vf36) (d := some 27) ?hf36 ?rf36
       case hf36 => intro w hSw; obtain ⟨_, x0, x1, x2, x3, y0, y1, y2, y3⟩ := hSw; go_simp; try (with_reducible rfl)
       try simp only [pq13]
       refine takeZ (i := 7) (v := ?vf37) (d := some 28) ?hf37 ?rf37
       case hf37 => intro w hSw; obtain ⟨_, x0, x1, x2, x3, y0, y1, y2, y3⟩ := hSw; go_simp; try (with_reducible rfl)
       try simp only [pq13]
       refine wpAnyH_ready (rs := [8]) (by kernel_rfl) (by simp) ?_
       refine AllReadyH.cons rfl (fun K hK => ?_) AllReadyH.nil
       go_simp
       go_at_call 16
       refine (aheadR x y false _ HR.out).mono ?_
       rintro e wq ⟨rfl, hx⟩
       have hbx := bthen hHeld.below hx
       have hHq := HDS.out _ hbx
       clear hHeld hx
       refine hK.out _ _ hHq (fun hHeld => ?_)
       clear hK K
       try simp only [pq13]
       refine takeZ (i := 9) (v := ?vf39) (d := some 30) ?hf39 ?rf39
       case hf39 => intro w hSw; obtain ⟨_, x0, x1, x2, x3, y0, y1, y2, y3⟩ := hSw; go_simp; try (with_reducible rfl)
       try simp only [pq13]
       refine wpAnyH_done (by kernel_rfl) ?_ _
       obtain ⟨hbq, z0, z1, z2, z3, y0, y1, y2, y3⟩ := hHq
       have HOQ := Lib.hid (HO.out.keep hbq)
       have hbw := bthen hb hbq
       have hsz := hbw.size
       go_wp2_with (at_builtin; refine wpList_appG eEd _ rfl (.tmp 35) (.tmp 40) rfl w1.heap.size u5 so rfl HOQ.out y 1 _ rfl _ rfl rfl (by have := HLS.out; omega) hsz ?_; intro v5 w5 hown5 hb5)
       go_roundg (n - (k + 1))
       case rel => exact ⟨k + 1, (so ++ [y], false), (by show _ = _; omega), by omega, by go_num, Lib.hid (HFS.out.trans HST.out), rfl, Lib.hid hown5, HNX, hbw.trans hb5⟩
       case measure => omega
  ·have blt : decide ((k : Int) < (n : Int)) = false := decide_eq_false (by omega)
   have blt2 : decide (k < n) = false := decide_eq_false hlt
   obtain rfl : n = k := by omega
   have HTK := Lib.hid (show l.take n = l from List.take_of_length_le (by have := HN.out; omega))
   have HPU := Lib.hid (show H.putE l x = H.finE x (so, sd) by
    have h1 := HNI.out
    have h2 := HF.out
    rw [HTK.out] at h1 h2
    unfold H.putE
    rw [if_neg h1, ← h2, H.fold_ins]
    rfl)
   have q0 := (hb.cell (p := ⟨g, 0, none⟩) hgw).trans p0
   have q1 := (hb.cell (p := ⟨g, 1, none⟩) hgw).trans p1
   have q2 := (hb.cell (p := ⟨g, 2, none⟩) hgw).trans p2
   have q3 := (hb.cell (p := ⟨g, 3, none⟩) hgw).trans p3
   have hsz := hb.size
   have HLS := Lib.hid (show so.length ≤ n + 1 by
    have h1 := H.fold_len x (l.take n) ([], false)
    rw [HF.out, List.length_take] at h1
    simp at h1
    omega)
   cases sd with
   | true =>
    have HPV := Lib.hid (show H.putE l x = so from HPU.out)
    obtain ⟨B, d, rfl, hd, hs⟩ := HO.out.seenN (show so.length = m by rw [← HPV.out]; exact HM.out)
    go_wp2
    go_ret
    exact ⟨B, d, rfl, hd, (by rw [HPV.out]; exact hs), bthen HB1.out hb⟩
   | false =>
    have HPV := Lib.hid (show H.putE l x = so ++ [x] from HPU.out)
    have HML := Lib.hid (show (so ++ [x]).length = m by rw [← HPV.out]; exact HM.out)
    go_wp2_with (at_builtin; refine wpList_appG eEd _ rfl (.tmp 44) (.tmp 46) rfl w1.heap.size u5 so rfl HO.out x 1 _ rfl _ rfl rfl (by have := HLS.out; omega) hsz ?_; intro v5 w5 hown5 hb5; obtain ⟨B, d, rfl, hd, hs⟩ := hown5.seenN HML.out)
    go_ret
    exact ⟨B, d, rfl, hd, (by rw [HPV.out]; exact hs), bthen HB1.out (hb.trans hb5)⟩
end Go.Proofs.YtfcikfohmehmkaaGreatDoor
namespace Go.Proofs.YtfcikfohmehmkaaGreatDoor.T
set_option linter.unusedVariables false
end Go.Proofs.YtfcikfohmehmkaaGreatDoor.T
namespace Go.Proofs.YtfcikfohmehmkaaGreatDoor
open Go.RowKit
set_option linter.unusedVariables false
def MadeS (w : World) (l : List (List UInt8)) (e : Ending) (w' : World) : Prop := ∃ A c, e = .returned (.slice A l.length c) ∧ l.length ≤ c ∧ Seen eS w' A l ∧ Below w.heap.size w w'
theorem kidsN12 (A : Option Addr) (c n : Nat) (t : List T.Ln) (i : Int) (w : World) (hn : t.length = n) (hA : Seen eL w A t) (hl : n ≤ 1073741824) :
  Calls Tryz.prog 42 #[.slice A n c, .int .i64 i] w (SawG eI w (T.kidsL t i)) := by subst hn; exact refKids_any A c t i w hA hl
theorem findN12 {N : Nat} (A B : Option Addr) (c d n m : Nat) (t : List T.Ln) (p : T.Pth) (w : World) (hn : t.length = n) (hm : p.length = m) (hA : Seen eL w A t) (hB : Seen eS w B p) (hl : n ≤ 1073741824) (hl2 : m ≤ 1073741824) (hR : T.RightN N t) :
  Calls Tryz.prog 23 #[.slice A n c, .slice B m d] w (fun e w' => ((∃ i : Nat, i < t.length ∧ T.pathL t i = p ∧ e = .returned (.int .i64 (i : Int))) ∨ ((∀ i, i < t.length → T.pathL t i ≠ p) ∧ e = .returned (.int .i64 (-1)))) ∧ Below w.heap.size w w') := by
 subst hn; subst hm; exact refFind_any A B c d t p w hA hB hl hl2 hR
theorem Own.lower {α : Type} {E : Elem α} {w : World} {base b2 : Nat} {v : Value} {l : List α} (h : Own E w base v l) (hb : b2 ≤ base) : Own E w b2 v l := by
 refine ⟨h.1, ?_⟩
 rcases h.2 with hn | ⟨g, cap, cur, e, hbg, rest⟩
 ·exact .inl hn
 ·exact .inr ⟨g, cap, cur, e, Nat.le_trans hb hbg, rest⟩
def MadeO (w : World) (l : List (List UInt8)) (e : Ending) (w' : World) : Prop := ∃ v, e = .returned v ∧ Own eS w' w.heap.size v l ∧ Below w.heap.size w w'
set_option maxRecDepth 100000 in
set_option maxHeartbeats 4000000 in
theorem underO12 {N : Nat} (A : Option Addr) (c n : Nat) (t : List T.Ln) (B : Option Addr) (d m : Nat) (p : T.Pth) (w : World) (hn : t.length = n) (hm : p.length = m) (hA : Seen eL w A t) (hB : Seen eS w B p) (hl : n ≤ 1073741824) (hl2 : m ≤ 1073741824) (hR : T.RightN N t) :
  Calls Tryz.prog 20 #[.slice A n c, .slice B m d] w (MadeO w (T.underW t p)) := by
 have HA := Lib.hid hA
 have HN := Lib.hid hn
 have HR := Lib.hid hR
 have HM := Lib.hid hm
 have HKL := Lib.hid (show ∀ i, (T.kidsL t i).length ≤ n by intro i; rw [← hn]; exact T.filter_len t.length _)
 by_cases h0 : m = 0
 ·have hp : p = [] := List.eq_nil_of_length_eq_zero (by omega)
  have b1 : decide ((0 : Int) < (m : Int)) = false := decide_eq_false (by omega)
  have b1b : decide (0 < m) = false := decide_eq_false (by omega)
  obtain ⟨K, hK⟩ : ∃ K, T.kidsL t (-1) = K := ⟨_, rfl⟩
  have HK := Lib.hid hK
  have HU := Lib.hid (show K.map (T.wd t) = T.underW t p by rw [← hK, hp, T.kids_words hR ⟨by omega, by omega⟩, T.pathI_none])
  have HIN := Lib.hid (show ∀ k ∈ K, k < n by intro k hk; rw [← hK] at hk; have := ((T.mem_kids t (-1) k).1 hk).1; omega)
  replace HKL := Lib.hid (show K.length ≤ n by rw [← hK]; exact HKL.out _)
  clear hA hB hn hm hR hK hl2 hp h0
  go_enter Tryz.func20, Tryz.ntmps20
  go_wp2_with fail
  refine (kidsN12 A c n t (-1) _ HN.out (HA.out) hl).mono ?_
  rintro e w2 ⟨A2, c2, rfl, hc2, hs2, hb2⟩
  rw [HK.out] at hc2 hs2 ⊢
  have HB2 := Lib.hid (hb2)
  have HS2 := Lib.hid hs2
  obtain ⟨nk, hnk⟩ : ∃ k, K.length = k := ⟨_, rfl⟩
  rw [hnk]
  have HNK := Lib.hid hnk
  have hnk2 : nk ≤ 1073741824 := by have := HKL.out; have := HNK.out; omega
  clear hc2 hs2 hb2 hnk
  go_wp2
  go_loopg [6, 8] nk (fun g vo vi wr => ∃ i : Nat, Hid (i + g = nk) ∧ vi = .int .i64 (i : Int) ∧ Hid (Own eS wr w2.heap.size vo ((K.take i).map (T.wd t))) ∧ Hid (Below w2.heap.size w2 wr))
  case atStart => exact ⟨0, Nat.zero_add _, rfl, Own.nil _ _, Below.refl _ _⟩
  case round =>
   obtain ⟨i, HG, rfl, HO, HBR⟩ := hrel
   have hgk := HG.out
   by_cases hlt : i < nk
   ·have blt : decide ((i : Int) < (nk : Int)) = true := decide_eq_true (by omega)
    have blt2 : decide (i < nk) = true := decide_eq_true hlt
    have hiK : i < K.length := by rw [HNK.out]; exact hlt
    have hki : (i : Int) < (nk : Int) := by omega
    obtain ⟨q, hq⟩ : ∃ q, K[i] = q := ⟨_, rfl⟩
    have hqn : q < n := by rw [← hq]; exact HIN.out _ (List.getElem_mem hiK)
    have hqt : q < t.length := by rw [HN.out]; exact hqn
    have hqi : (q : Int) < (n : Int) := by omega
    obtain ⟨b3, o3, rfl, hw3, hL3⟩ := HS2.out (by omega)
    have c3 := (hL3.below HBR.out hw3).num hiK
    rw [hq] at c3
    obtain ⟨b4, o4, hA4, hw4, hL4⟩ := HA.out.lines (by rw [HN.out]; omega)
    subst hA4
    obtain ⟨_, c4, _⟩ := (hL4.below (HB2.out.trans (HBR.out.mono HB2.out.size)) hw4).line hqt
    have HNX := Lib.hid (show (K.take (i + 1)).map (T.wd t) = (K.take i).map (T.wd t) ++ [T.wd t q] by rw [List.take_succ_eq_append_getElem hiK, List.map_append, hq]; rfl)
    have HLN := Lib.hid (show ((K.take i).map (T.wd t)).length ≤ nk by rw [List.length_map, List.length_take]; omega)
    have hsz := HBR.out.size
    clear hq hqt hL3 hL4
    go_wp2_with (at_builtin; refine wpList_appG eS wr rfl (.tmp 26) (.tmp 35) rfl w2.heap.size u6 ((K.take i).map (T.wd t)) rfl HO.out (T.wd t q) 1 _ rfl wr.heap.size rfl rfl (by have := HLN.out; omega) hsz ?_; intro v5 w5 hown5 hb5)
    go_roundg (nk - (i + 1))
    case rel => exact ⟨i + 1, (by show _ = _; omega), by go_num, (by rw [HNX.out]; exact hown5), HBR.out.trans hb5⟩
    case measure => omega
   ·have blt : decide ((i : Int) < (nk : Int)) = false := decide_eq_false (by omega)
    have blt2 : decide (i < nk) = false := decide_eq_false hlt
    have HE := Lib.hid (show (K.take i).map (T.wd t) = T.underW t p by rw [List.take_of_length_le (by rw [HNK.out]; omega)]; exact HU.out)
    obtain ⟨A6, c6, rfl, hc6, hs6⟩ := HO.out.seen
    rw [HE.out] at hc6 hs6 ⊢
    go_wp2
    go_ret
    exact ⟨_, rfl, (by have h := HO.out; rw [HE.out] at h; exact h.lower HB2.out.size), HB2.out.trans (HBR.out.mono HB2.out.size)⟩
 ·have b1 : decide ((0 : Int) < (m : Int)) = true := decide_eq_true (by omega)
  have b1b : decide (0 < m) = true := decide_eq_true (by omega)
  have HB := Lib.hid hB
  clear hA hB hn hm hR
  go_enter Tryz.func20, Tryz.ntmps20
  go_wp2_with fail
  refine (findN12 A B c d n m t p _ HN.out HM.out HA.out HB.out hl hl2 HR.out).mono ?_
  rintro e w1 ⟨⟨i0, hi0, hp0, rfl⟩ | ⟨hno, rfl⟩, hb1⟩
  ·have HB1 := Lib.hid hb1
   obtain ⟨K, hK⟩ : ∃ K, T.kidsL t (i0 : Int) = K := ⟨_, rfl⟩
   have HK := Lib.hid hK
   have HU := Lib.hid (show K.map (T.wd t) = T.underW t p by rw [← hK, T.kids_words HR.out ⟨by omega, by omega⟩, T.pathI_nat, hp0])
   have HIN := Lib.hid (show ∀ k ∈ K, k < n by intro k hk; rw [← hK] at hk; have := ((T.mem_kids t _ k).1 hk).1; have := HN.out; omega)
   replace HKL := Lib.hid (show K.length ≤ n by rw [← hK]; exact HKL.out _)
   clear hK hp0 hi0 hb1
   go_wp2_with fail
   refine (kidsN12 A c n t (i0 : Int) _ HN.out (HA.out.below HB1.out) hl).mono ?_
   rintro e w2 ⟨A2, c2, rfl, hc2, hs2, hb2⟩
   rw [HK.out] at hc2 hs2 ⊢
   have HB2 := Lib.hid (bthen HB1.out hb2)
   have HS2 := Lib.hid hs2
   obtain ⟨nk, hnk⟩ : ∃ k, K.length = k := ⟨_, rfl⟩
   rw [hnk]
   have HNK := Lib.hid hnk
   have hnk2 : nk ≤ 1073741824 := by have := HKL.out; have := HNK.out; omega
   clear hc2 hs2 hb2 hnk
   go_wp2
   go_loopg [6, 8] nk (fun g vo vi wr => ∃ i : Nat, Hid (i + g = nk) ∧ vi = .int .i64 (i : Int) ∧ Hid (Own eS wr w2.heap.size vo ((K.take i).map (T.wd t))) ∧ Hid (Below w2.heap.size w2 wr))
   case atStart => exact ⟨0, Nat.zero_add _, rfl, Own.nil _ _, Below.refl _ _⟩
   case round =>
    obtain ⟨i, HG, rfl, HO, HBR⟩ := hrel
    have hgk := HG.out
    by_cases hlt : i < nk
    ·have blt : decide ((i : Int) < (nk : Int)) = true := decide_eq_true (by omega)
     have blt2 : decide (i < nk) = true := decide_eq_true hlt
     have hiK : i < K.length := by rw [HNK.out]; exact hlt
     have hki : (i : Int) < (nk : Int) := by omega
     obtain ⟨q, hq⟩ : ∃ q, K[i] = q := ⟨_, rfl⟩
     have hqn : q < n := by rw [← hq]; exact HIN.out _ (List.getElem_mem hiK)
     have hqt : q < t.length := by rw [HN.out]; exact hqn
     have hqi : (q : Int) < (n : Int) := by omega
     obtain ⟨b3, o3, rfl, hw3, hL3⟩ := HS2.out (by omega)
     have c3 := (hL3.below HBR.out hw3).num hiK
     rw [hq] at c3
     obtain ⟨b4, o4, hA4, hw4, hL4⟩ := HA.out.lines (by rw [HN.out]; omega)
     subst hA4
     obtain ⟨_, c4, _⟩ := (hL4.below (HB2.out.trans (HBR.out.mono HB2.out.size)) hw4).line hqt
     have HNX := Lib.hid (show (K.take (i + 1)).map (T.wd t) = (K.take i).map (T.wd t) ++ [T.wd t q] by rw [List.take_succ_eq_append_getElem hiK, List.map_append, hq]; rfl)
     have HLN := Lib.hid (show ((K.take i).map (T.wd t)).length ≤ nk by rw [List.length_map, List.length_take]; omega)
     have hsz := HBR.out.size
     clear hq hqt hL3 hL4
     go_wp2_with (at_builtin; refine wpList_appG eS wr rfl (.tmp 26) (.tmp 35) rfl w2.heap.size u6 ((K.take i).map (T.wd t)) rfl HO.out (T.wd t q) 1 _ rfl wr.heap.size rfl rfl (by have := HLN.out; omega) hsz ?_; intro v5 w5 hown5 hb5)
     go_roundg (nk - (i + 1))
     case rel => exact ⟨i + 1, (by show _ = _; omega), by go_num, (by rw [HNX.out]; exact hown5), HBR.out.trans hb5⟩
     case measure => omega
    ·have blt : decide ((i : Int) < (nk : Int)) = false := decide_eq_false (by omega)
     have blt2 : decide (i < nk) = false := decide_eq_false hlt
     have HE := Lib.hid (show (K.take i).map (T.wd t) = T.underW t p by rw [List.take_of_length_le (by rw [HNK.out]; omega)]; exact HU.out)
     obtain ⟨A6, c6, rfl, hc6, hs6⟩ := HO.out.seen
     rw [HE.out] at hc6 hs6 ⊢
     go_wp2
     go_ret
     exact ⟨_, rfl, (by have h := HO.out; rw [HE.out] at h; exact h.lower HB2.out.size), HB2.out.trans (HBR.out.mono HB2.out.size)⟩
  ·have HE := Lib.hid (show T.underW t p = [] from T.underW_out HR.out (fun e => h0 (by rw [← HM.out, e]; rfl)) (fun ⟨i, hi, e⟩ => hno i hi e))
   clear hno
   go_wp2
   go_ret
   rw [HE.out]
   exact ⟨_, rfl, Own.nil _ _, hb1⟩
theorem underR12 {N : Nat} (A : Option Addr) (c n : Nat) (t : List T.Ln) (B : Option Addr) (d m : Nat) (p : T.Pth) (w : World) (hn : t.length = n) (hm : p.length = m) (hA : Seen eL w A t) (hB : Seen eS w B p) (hl : n ≤ 1073741824) (hl2 : m ≤ 1073741824) (hR : T.RightN N t) :
  Calls Tryz.prog 20 #[.slice A n c, .slice B m d] w (MadeS w (T.underW t p)) :=
 (underO12 A c n t B d m p w hn hm hA hB hl hl2 hR).mono fun e w' ⟨v, he, ho, hb⟩ => by
  obtain ⟨A2, c2, rfl, h2, h3⟩ := ho.seen
  exact ⟨A2, c2, he, h2, h3, hb⟩
end Go.Proofs.YtfcikfohmehmkaaGreatDoor
namespace Go.Proofs.YtfcikfohmehmkaaGreatDoor.H
theorem ins_len (e : En) : ∀ l : List En, (insE e l).length = l.length + 1
 | [] => rfl
 | y :: l => by
  unfold insE
  split
  ·rfl
  ·rw [List.length_cons, ins_len e l, List.length_cons]
theorem put_len (l : List En) (e : En) : (putE l e).length ≤ l.length + 1 := by
 unfold putE
 split
 ·omega
 ·rw [ins_len]; omega
end Go.Proofs.YtfcikfohmehmkaaGreatDoor.H
namespace Go.Proofs.YtfcikfohmehmkaaGreatDoor
open Go.RowKit
set_option linter.unusedVariables false
set_option maxRecDepth 100000 in
set_option maxHeartbeats 4000000 in
theorem setR (A : Option Addr) (c n m : Nat) (l : List H.En) (w : World) (hn : l.length = n) (hl : n ≤ 33554431) (hA : Seen eEd w A l) (hm : (H.setE l).length = m) :
  Calls Tryz.prog 18 #[.slice A n c] w (fun e w' => ∃ B d, e = .returned (.slice B m d) ∧ m ≤ d ∧ Seen eEd w' B (H.setE l) ∧ Below w.heap.size w w') := by
 have HN := Lib.hid hn
 have HM := Lib.hid hm
 have HA := Lib.hid hA
 clear hA hn hm
 go_enter Tryz.func18, Tryz.ntmps18
 go_wp2
 go_loopg [3, 4] n (fun gk vo vi wr => ∃ (k q d : Nat) (B : Option Addr) (s : List H.En), Hid (k + gk = n) ∧ k ≤ n ∧ vi = .int .i64 (k : Int) ∧ vo = .slice B q d ∧ Hid ((l.take k).foldl H.putE [] = s) ∧ Hid (s.length = q) ∧ q ≤ k ∧ q ≤ d ∧ Hid (Seen eEd wr B s) ∧ Below w.heap.size w wr)
 case atStart => exact ⟨0, 0, 0, none, [], Nat.zero_add _, Nat.zero_le _, rfl, rfl, rfl, rfl, Nat.le_refl _, Nat.le_refl _, Seen.nil, Below.refl _ _⟩
 case round =>
  obtain ⟨k, q, d, B, s, HG, hk, rfl, rfl, HF, HQ, hqk, hqd, HS, hb⟩ := hrel
  have hgk := HG.out
  by_cases hlt : k < n
  ·have blt : decide ((k : Int) < (n : Int)) = true := decide_eq_true (by omega)
   have blt2 : decide (k < n) = true := decide_eq_true hlt
   have hki : (k : Int) < (n : Int) := by omega
   have hkl : k < l.length := by have := HN.out; omega
   obtain ⟨b, o, rfl, hwb, hL⟩ := HA.out (by omega)
   obtain ⟨d0, d1, d2, d3⟩ := (hL.below hb hwb).entry rfl rfl hkl
   have HX := Lib.hid (List.take_succ_eq_append_getElem hkl)
   generalize l[k] = y at d0 d1 d2 d3 HX
   obtain ⟨q2, hq2⟩ : ∃ q2, (H.putE s y).length = q2 := ⟨_, rfl⟩
   have hq2k : q2 ≤ k + 1 := by have := H.put_len s y; have := HQ.out; omega
   have HQ2 := Lib.hid hq2
   have HF2 := Lib.hid (show (l.take (k + 1)).foldl H.putE [] = H.putE s y by rw [HX.out, List.foldl_append, HF.out]; rfl)
   clear hL hq2
   go_wp2_with fail
   refine (putR B d q q2 s y _ HQ.out (by omega) hqd HS.out HQ2.out).mono ?_
   rintro e w2 ⟨B2, d2', rfl, hd2, hs2, hx⟩
   have hbn := bthen hb hx
   have HS2 := Lib.hid hs2
   clear hx hs2
   go_wp2
   go_roundg (n - (k + 1))
   case rel => exact ⟨k + 1, q2, d2', B2, H.putE s y, (by show _ = _; omega), by omega, by go_num, rfl, HF2, HQ2, hq2k, hd2, HS2, hbn⟩
   case measure => omega
  ·have blt : decide ((k : Int) < (n : Int)) = false := decide_eq_false (by omega)
   have blt2 : decide (k < n) = false := decide_eq_false hlt
   have HE := Lib.hid (show s = H.setE l by
    have := HF.out
    rw [List.take_of_length_le (by have := HN.out; omega)] at this
    exact this.symm)
   have hqm : q = m := by rw [← HQ.out, HE.out, HM.out]
   subst hqm
   go_wp2
   go_ret
   exact ⟨B, d, rfl, hqd, (by rw [← HE.out]; exact HS.out), hb⟩
set_option maxRecDepth 100000 in
set_option maxHeartbeats 4000000 in
theorem refsO14 (A : Option Addr) (c n : Nat) (l : List H.En) (w : World) (hn : l.length = n) (hl : n ≤ 1073741824) (hA : Seen eEc w A l) :
  Calls Tryz.prog 15 #[.slice A n c] w (OwnS eEd w l) := by
 have HA := Lib.hid hA
 have HN := Lib.hid hn
 clear hA hn
 go_enter Tryz.func15, Tryz.ntmps15
 go_wp2
 go_loopg [3, 8] n (fun gk vo vi wr => ∃ k : Nat, Hid (k + gk = n) ∧ k ≤ n ∧ vi = .int .i64 (k : Int) ∧ Hid (Own eEd wr w.heap.size vo (l.take k)) ∧ Below w.heap.size w wr)
 case atStart => exact ⟨0, Nat.zero_add _, Nat.zero_le _, rfl, Own.nil _ _, Below.refl _ _⟩
 case round =>
  obtain ⟨k, HG, hk, rfl, HO, hb⟩ := hrel
  have hgk := HG.out
  by_cases hlt : k < n
  ·have blt : decide ((k : Int) < (n : Int)) = true := decide_eq_true (by omega)
   have blt2 : decide (k < n) = true := decide_eq_true hlt
   have hki : (k : Int) < (n : Int) := by omega
   have hkl : k < l.length := by have := HN.out; omega
   obtain ⟨b, o, rfl, hwb, hL⟩ := HA.out (by omega)
   obtain ⟨q0, q1, q2, q3⟩ := (hL.below hb hwb).entry rfl rfl hkl
   have HX := Lib.hid (List.take_succ_eq_append_getElem hkl)
   generalize l[k] = y at q0 q1 q2 q3 HX
   have hb1 := up wr (.cells #[.string (sB y.host), .int .i64 y.kind, .string (sB y.key), .string (sB y.val)] 35)
   have HO1 := Lib.hid (HO.out.keep hb1)
   have hbw := bthen hb hb1
   have HLN := Lib.hid (show (l.take k).length + 1 ≤ 1099511627776 by rw [List.length_take]; omega)
   have hszx := hbw.size
   have y0 : (wr.alloc (.cells #[.string (sB y.host), .int .i64 y.kind, .string (sB y.key), .string (sB y.val)] 35)).cell? ⟨wr.heap.size, 0, none⟩ = some (.string (sB y.host)) := World.cell?_alloc_mark wr _ _ (0, 0) 0
   have y1 : (wr.alloc (.cells #[.string (sB y.host), .int .i64 y.kind, .string (sB y.key), .string (sB y.val)] 35)).cell? ⟨wr.heap.size, 1, none⟩ = some (.int .i64 y.kind) := World.cell?_alloc_mark wr _ _ (0, 0) 1
   have y2 : (wr.alloc (.cells #[.string (sB y.host), .int .i64 y.kind, .string (sB y.key), .string (sB y.val)] 35)).cell? ⟨wr.heap.size, 2, none⟩ = some (.string (sB y.key)) := World.cell?_alloc_mark wr _ _ (0, 0) 2
   have y3 : (wr.alloc (.cells #[.string (sB y.host), .int .i64 y.kind, .string (sB y.key), .string (sB y.val)] 35)).cell? ⟨wr.heap.size, 3, none⟩ = some (.string (sB y.val)) := World.cell?_alloc_mark wr _ _ (0, 0) 3
   have HBW := Lib.hid hbw
   clear hL hb1 hbw
   go_wp2_with (at_builtin; refine wpList_appG eEd _ rfl (.tmp 12) (.tmp 14) rfl w.heap.size u3 (l.take k) rfl HO1.out y 1 _ rfl (wr.heap.size + 1) (by simp) rfl HLN.out hszx ?_; intro v5 w5 hown5 hb5)
   go_roundg (n - (k + 1))
   case rel => exact ⟨k + 1, (by show _ = _; omega), by omega, by go_num, (by rw [HX.out]; exact hown5), HBW.out.trans hb5⟩
   case measure => omega
  ·have blt : decide ((k : Int) < (n : Int)) = false := decide_eq_false (by omega)
   have blt2 : decide (k < n) = false := decide_eq_false hlt
   have HE := Lib.hid (show l.take k = l from List.take_of_length_le (by have := HN.out; omega))
   go_wp2
   go_ret
   exact ⟨_, rfl, (by rw [← HE.out]; exact HO.out), hb⟩
theorem refs14 (A : Option Addr) (c n : Nat) (l : List H.En) (w : World) (hn : l.length = n) (hl : n ≤ 1073741824) (hA : Seen eEc w A l) :
  Calls Tryz.prog 15 #[.slice A n c] w (fun e w' => ∃ B d, e = .returned (.slice B n d) ∧ n ≤ d ∧ Seen eEd w' B l ∧ Below w.heap.size w w') := by
 refine (refsO14 A c n l w hn hl hA).mono ?_
 rintro e w' ⟨v, rfl, ho, hb⟩
 obtain ⟨B, d, rfl, hd, hs⟩ := ho.seenN hn
 exact ⟨B, d, rfl, hd, hs, hb⟩
theorem underM14 {Z : Nat} (A : Option Addr) (c n : Nat) (t : List T.Ln) (B : Option Addr) (d m k : Nat) (p : T.Pth) (l : List (List UInt8)) (w : World) (hn : t.length = n) (hm : p.length = m) (hA : Seen eL w A t) (hB : Seen eS w B p) (hl : n ≤ 1073741824) (hl2 : m ≤ 1073741824) (hR : T.RightN Z t) (hu : T.underW t p = l) (hk : l.length = k) :
  Calls Tryz.prog 20 #[.slice A n c, .slice B m d] w (fun e w' => ∃ C1 d1, e = .returned (.slice C1 k d1) ∧ k ≤ d1 ∧ Seen eS w' C1 l ∧ Below w.heap.size w w') := by
 subst hu; subst hk; exact underR12 A c n t B d m p w hn hm hA hB hl hl2 hR
set_option maxHeartbeats 4000000 in
theorem wordR {Z : Nat} (A : Option Addr) (c n : Nat) (t : List T.Ln) (B : Option Addr) (d m : Nat) (p : T.Pth) (o r : List UInt8) (w : World) (hn : t.length = n) (hm : p.length = m) (hA : Seen eL w A t) (hB : Seen eS w B p) (hl : n ≤ 1073741824) (hl2 : m ≤ 1073741824) (hR : T.RightN Z t) (hr : H.wordH t p o = r) :
  Calls Tryz.prog 34 #[.slice A n c, .slice B m d, .string (sB o)] w (fun e w' => e = .returned (.string (sB r)) ∧ Below w.heap.size w w') := by
 unfold H.wordH at hr
 cases hu : T.underW t p with
 | nil =>
  rw [hu] at hr
  have HU := Lib.hid (underM14 A c n t B d m 0 p [] w hn hm hA hB hl hl2 hR hu rfl)
  have HR := Lib.hid (show o = r from hr)
  clear hr hu hA hB hn hm
  go_enter Tryz.func34, Tryz.ntmps34
  go_wp2_with fail
  refine HU.out.mono ?_
  rintro e w1 ⟨C1, d1, rfl, hd1, hs1, hb⟩
  go_wp2
  go_ret
  exact ⟨by rw [HR.out]; rfl, hb⟩
 | cons x l =>
  rw [hu] at hr
  have HR := Lib.hid (show x = r from hr)
  obtain ⟨q1, hq1⟩ : ∃ q1, (x :: l).length = q1 := ⟨_, rfl⟩
  have HU := Lib.hid (underM14 A c n t B d m q1 p (x :: l) w hn hm hA hB hl hl2 hR hu hq1)
  have hq0 : 0 < q1 := by rw [← hq1]; simp
  have b4 : ((q1 : Int) == 0) = false := by simp; omega
  have b5 : decide ((0 : Int) < (q1 : Int)) = true := decide_eq_true (by omega)
  clear hr hu hA hB hn hm hq1
  go_enter Tryz.func34, Tryz.ntmps34
  go_wp2_with fail
  refine HU.out.mono ?_
  rintro e w1 ⟨C1, d1, rfl, hd1, hs1, hb⟩
  obtain ⟨b, o1, rfl, hwb, hL⟩ := hs1 (by simp)
  have c0 := hL.str (i := 0) (by simp)
  simp only [List.getElem_cons_zero, Nat.add_zero] at c0
  clear hL
  go_wp2
  go_ret
  exact ⟨by rw [HR.out]; rfl, hb⟩
set_option maxRecDepth 100000 in
set_option maxHeartbeats 4000000 in
theorem inR {Z : Nat} (A : Option Addr) (c n : Nat) (t : List T.Ln) (h v : List UInt8) (r : Bool) (w : World) (hn : t.length = n) (hA : Seen eL w A t) (hl : n ≤ 1073741824) (hR : T.RightN Z t) (hr : H.inH t h v = r) :
  Calls Tryz.prog 68 #[.slice A n c, .string (sB h), .string (sB v)] w (fun e w' => e = .returned (.bool r) ∧ Below w.heap.size w w') := by
 have HN := Lib.hid hn
 have HA := Lib.hid hA
 have HR := Lib.hid hR
 unfold H.inH at hr
 obtain ⟨l, hu⟩ : ∃ l, T.underW t [C.wHosts, h, C.wVnis] = l := ⟨_, rfl⟩
 rw [hu] at hr
 have HU := Lib.hid hu
 have HV := Lib.hid hr
 obtain ⟨m, hm⟩ : ∃ m, l.length = m := ⟨_, rfl⟩
 have hmn : m ≤ n := by
  have h1 := T.underW_len hR [C.wHosts, h, C.wVnis]
  rw [hu] at h1
  omega
 have HM := Lib.hid hm
 clear hn hA hR hr hu hm
 go_enter Tryz.func68, Tryz.ntmps68
 go_wp2_with fail
 refine (underM14 A c n t _ 3 3 m [C.wHosts, h, C.wVnis] l _ HN.out rfl (HA.out.below (up w _)) (lit_seen eS w [C.wHosts, h, C.wVnis] _ rfl (by simp)) hl (by omega) HR.out HU.out HM.out).mono ?_
 rintro e w1 ⟨C1, d1, rfl, hd1, hs1, hx⟩
 have hb1 := bthen (up w _) hx
 have HS := Lib.hid hs1
 clear hs1 hx
 go_wp2
 go_loopg [8] m (fun gk vi wr => ∃ k : Nat, Hid (k + gk = m) ∧ k ≤ m ∧ vi = .int .i64 (k : Int) ∧ Hid (v ∉ l.take k) ∧ Below w1.heap.size w1 wr)
 case atStart => exact ⟨0, Nat.zero_add _, Nat.zero_le _, rfl, (by show v ∉ _; simp), Below.refl _ _⟩
 case round =>
  obtain ⟨k, HG, hk, rfl, HNI, hb⟩ := hrel
  have hgk := HG.out
  by_cases hlt : k < m
  ·have blt : decide ((k : Int) < (m : Int)) = true := decide_eq_true (by omega)
   have blt2 : decide (k < m) = true := decide_eq_true hlt
   have hki : (k : Int) < (m : Int) := by omega
   have hkl : k < l.length := by have := HM.out; omega
   obtain ⟨b, o, rfl, hwb, hL⟩ := HS.out (by omega)
   have c0 := (hL.below hb hwb).str hkl
   have HX := Lib.hid (List.take_succ_eq_append_getElem hkl)
   have HMI := Lib.hid (List.getElem_mem hkl)
   generalize l[k] = y at c0 HX HMI
   clear hL
   by_cases he : y = v
   ·have n0 := sB_eq he
    have HE := Lib.hid (show r = true by rw [← HV.out]; exact decide_eq_true (he ▸ HMI.out))
    clear he
    go_wp2
    go_ret
    exact ⟨by rw [HE.out]; rfl, bthen hb1 hb⟩
   ·have n0 := sB_ne he
    have HNX := Lib.hid (show v ∉ l.take (k + 1) by
     rw [HX.out]
     intro q
     rcases List.mem_append.1 q with q | q
     ·exact HNI.out q
     ·exact he (List.mem_singleton.1 q).symm)
    clear he
    go_wp2
    go_roundg (m - (k + 1))
    case rel => exact ⟨k + 1, (by show _ = _; omega), by omega, by go_num, HNX, hb⟩
    case measure => omega
  ·have blt : decide ((k : Int) < (m : Int)) = false := decide_eq_false (by omega)
   have blt2 : decide (k < m) = false := decide_eq_false hlt
   have HE := Lib.hid (show r = false by
    rw [← HV.out]
    have := HNI.out
    rw [List.take_of_length_le (by have := HM.out; omega)] at this
    exact decide_eq_false this)
   go_wp2
   go_ret
   exact ⟨by rw [HE.out]; rfl, bthen hb1 hb⟩
end Go.Proofs.YtfcikfohmehmkaaGreatDoor
