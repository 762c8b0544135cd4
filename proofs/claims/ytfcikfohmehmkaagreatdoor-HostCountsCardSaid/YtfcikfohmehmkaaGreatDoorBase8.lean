/-
  The document's Put, Set of entries, walked; what the law's Refs makes. Condition: at most 2^25 entries.
  The document's side of layer 12 (ferryslipref12): star, Under, Fill. Condition: trees.
  The document's Set of entries, the first word under a path, is a host in a network; what the law's Refs makes. Conditions: at most 2^24 entries, a tree.
  Plain laws for layer 14: the tables of a tree without a route or a policy. No conditions.
-/
import Derived.Test.YtfcikfohmehmkaaGreatDoorBase7
import Derived.Deep.RegionHeld3
import Derived.Deep.RegionWith
import Derived.StillTailTactics

namespace Go.Proofs.YtfcikfohmehmkaaGreatDoor.H
/-- An entry, and an element more, one step of Put: what is made so far, and whether the entry is in it. -/
def stepE (e : En) (s : List En × Bool) (y : En) : List En × Bool := if s.2 = false ∧ aheadE e y = true then (s.1 ++ [e] ++ [y], true) else (s.1 ++ [y], s.2)
def finE (e : En) (s : List En × Bool) : List En := if s.2 = true then s.1 else s.1 ++ [e]
theorem fold_in (e : En) : ∀ (l o : List En), l.foldl (stepE e) (o, true) = (o ++ l, true)
  | [], o => by simp
  | y :: l, o => by
    rw [List.foldl_cons, show stepE e (o, true) y = (o ++ [y], true) from if_neg (fun h => by cases h.1), fold_in e l]
    simp
theorem fold_ins (e : En) : ∀ (l o : List En), finE e (l.foldl (stepE e) (o, false)) = o ++ insE e l
  | [], o => rfl
  | y :: l, o => by
    rw [List.foldl_cons]
    unfold insE
    by_cases h : aheadE e y = true
    · rw [show stepE e (o, false) y = (o ++ [e] ++ [y], true) from if_pos ⟨rfl, h⟩, fold_in, if_pos h]
      simp [finE]
    · rw [show stepE e (o, false) y = (o ++ [y], false) from if_neg (fun k => h k.2), fold_ins e l, if_neg h]
      simp
theorem fold_len (e : En) : ∀ (l : List En) (s : List En × Bool), (l.foldl (stepE e) s).1.length ≤ s.1.length + l.length + (if s.2 = true then 0 else 1)
  | [], s => by simp
  | y :: l, s => by
    rw [List.foldl_cons]
    have h := fold_len e l (stepE e s y)
    obtain ⟨o, d⟩ := s
    unfold stepE at h ⊢
    simp only at h ⊢
    rw [List.length_cons]
    split at h
    · next k =>
      rw [if_pos k]
      obtain ⟨rfl, _⟩ := k
      simp only [List.length_append, List.length_singleton, if_true] at h
      simp only [Bool.false_eq_true, if_false]
      omega
    · next k =>
      rw [if_neg k]
      simp only [List.length_append, List.length_singleton] at h
      omega
theorem ne_cases {y x : En} (h : y ≠ x) : y.host ≠ x.host ∨ (y.host = x.host ∧ (y.kind ≠ x.kind ∨ (y.kind = x.kind ∧ (y.key ≠ x.key ∨ (y.key = x.key ∧ y.val ≠ x.val))))) := by
  by_cases h0 : y.host = x.host
  · by_cases h1 : y.kind = x.kind
    · by_cases h2 : y.key = x.key
      · exact .inr ⟨h0, .inr ⟨h1, .inr ⟨h2, fun h3 => h (by cases y; cases x; simp only at h0 h1 h2 h3; subst h0 h1 h2 h3; rfl)⟩⟩⟩
      · exact .inr ⟨h0, .inr ⟨h1, .inl h2⟩⟩
    · exact .inr ⟨h0, .inl h1⟩
  · exact .inl h0
end Go.Proofs.YtfcikfohmehmkaaGreatDoor.H

namespace Go.Proofs.YtfcikfohmehmkaaGreatDoor
open Go.RowKit
open F
set_option linter.unusedVariables false
set_option linter.unusedSimpArgs false

/-- An entry in a block of its own, and an element of a slice, in a world above one. -/
structure TwoE (w1 w : World) (g : Nat) (x : H.En) (b o k : Nat) (y : H.En) : Prop where
  below : Below w1.heap.size w1 w
  x0 : w.cell? ⟨g, 0, none⟩ = some (.string (sB x.host))
  x1 : w.cell? ⟨g, 1, none⟩ = some (.int .i64 x.kind)
  x2 : w.cell? ⟨g, 2, none⟩ = some (.string (sB x.key))
  x3 : w.cell? ⟨g, 3, none⟩ = some (.string (sB x.val))
  y0 : w.cell? ⟨b, o + k * 4, none⟩ = some (.string (sB y.host))
  y1 : w.cell? ⟨b, o + k * 4 + 1, none⟩ = some (.int .i64 y.kind)
  y2 : w.cell? ⟨b, o + k * 4 + 2, none⟩ = some (.string (sB y.key))
  y3 : w.cell? ⟨b, o + k * 4 + 3, none⟩ = some (.string (sB y.val))
theorem TwoE.more {w1 w w2 : World} {g : Nat} {x : H.En} {b o k : Nat} {y : H.En} (h : TwoE w1 w g x b o k y) (hg : g < w1.heap.size) (hb : b < w1.heap.size) (hx : Below w1.heap.size w w2) : TwoE w1 w2 g x b o k y :=
  ⟨h.below.trans hx, (hx.cell (p := ⟨g, 0, none⟩) hg).trans h.x0, (hx.cell (p := ⟨g, 1, none⟩) hg).trans h.x1, (hx.cell (p := ⟨g, 2, none⟩) hg).trans h.x2, (hx.cell (p := ⟨g, 3, none⟩) hg).trans h.x3,
    (hx.cell (p := ⟨b, o + k * 4, none⟩) hb).trans h.y0, (hx.cell (p := ⟨b, o + k * 4 + 1, none⟩) hb).trans h.y1, (hx.cell (p := ⟨b, o + k * 4 + 2, none⟩) hb).trans h.y2, (hx.cell (p := ⟨b, o + k * 4 + 3, none⟩) hb).trans h.y3⟩

theorem Own.seenN {α : Type} {E : Elem α} {w : World} {base m : Nat} {v : Value} {l : List α} (h : Own E w base v l) (hm : l.length = m) : ∃ A cap, v = .slice A m cap ∧ m ≤ cap ∧ Seen E w A l := by
  subst hm; exact h.seen
set_option maxRecDepth 100000 in
set_option maxHeartbeats 16000000 in
theorem putR (A : Option Addr) (c n m : Nat) (l : List H.En) (x : H.En) (w : World) (hn : l.length = n) (hl : n ≤ 33554432) (hc : n ≤ c) (hA : Seen eEd w A l) (hm : (H.putE l x).length = m) :
    Calls Tryz.prog 38 #[.slice A n c, enV x] w (fun e w' => ∃ B d, e = .returned (.slice B m d) ∧ m ≤ d ∧ Seen eEd w' B (H.putE l x) ∧ Below w.heap.size w w') := by
  have HN := Lib.hid hn
  have HM := Lib.hid hm
  obtain ⟨w1, hw1⟩ : ∃ w1, w.alloc (.cells #[.string (sB x.host), .int .i64 x.kind, .string (sB x.key), .string (sB x.val)] 36) = w1 := ⟨_, rfl⟩
  have hb1 : Below w.heap.size w w1 := by rw [← hw1]; exact up _ _
  have hs1 : w1.heap.size = w.heap.size + 1 := by rw [← hw1]; simp
  obtain ⟨g, hg⟩ : ∃ g, w.heap.size = g := ⟨_, rfl⟩
  have p0 : w1.cell? ⟨g, 0, none⟩ = some (.string (sB x.host)) := by rw [← hw1, ← hg]; exact World.cell?_alloc_mark w _ _ (0, 0) 0
  have p1 : w1.cell? ⟨g, 1, none⟩ = some (.int .i64 x.kind) := by rw [← hw1, ← hg]; exact World.cell?_alloc_mark w _ _ (0, 0) 1
  have p2 : w1.cell? ⟨g, 2, none⟩ = some (.string (sB x.key)) := by rw [← hw1, ← hg]; exact World.cell?_alloc_mark w _ _ (0, 0) 2
  have p3 : w1.cell? ⟨g, 3, none⟩ = some (.string (sB x.val)) := by rw [← hw1, ← hg]; exact World.cell?_alloc_mark w _ _ (0, 0) 3
  have hgw : g < w1.heap.size := by omega
  have hszw : w.heap.size ≤ w1.heap.size := by omega
  have HA := Lib.hid (hA.below hb1)
  have HA2 := Lib.hid (fun w' (h : Below w1.heap.size w1 w') => (hA.below (bthen hb1 h)))
  have HW1 := Lib.hid hw1
  have HG0 := Lib.hid hg
  have HB1 := Lib.hid hb1
  clear hA hn hm hw1 hb1 hs1 hg
  unfold enV
  go_enter Tryz.func38, Tryz.ntmps38
  go_wp2
  rw [HW1.out, HG0.out]
  go_loopg [5, 6, 7] n (fun gk vo vd vi wr => ∃ (k : Nat) (s : List H.En × Bool), Hid (k + gk = n) ∧ k ≤ n ∧ vi = .int .i64 (k : Int) ∧ Hid ((l.take k).foldl (H.stepE x) ([], false) = s) ∧ vd = .bool s.2 ∧ Hid (Own eEd wr w1.heap.size vo s.1) ∧ Hid (x ∉ l.take k) ∧ Below w1.heap.size w1 wr)
  case atStart => exact ⟨0, ([], false), Nat.zero_add _, Nat.zero_le _, rfl, rfl, rfl, Own.nil _ _, (by show x ∉ _; simp), Below.refl _ _⟩
  case round =>
    obtain ⟨k, s, HG, hk, rfl, HF, rfl, HO, HNI, hb⟩ := hrel
    have hgk := HG.out
    obtain ⟨so, sd⟩ := s
    by_cases hlt : k < n
    · have blt : decide ((k : Int) < (n : Int)) = true := decide_eq_true (by omega)
      have blt2 : decide (k < n) = true := decide_eq_true hlt
      have hki : (k : Int) < (n : Int) := by omega
      have hkl : k < l.length := by have := HN.out; omega
      obtain ⟨b, o, rfl, hwb, hL⟩ := HA.out (by omega)
      obtain ⟨d0, d1, d2, d3⟩ := hL.entry rfl rfl hkl
      have HX := Lib.hid (List.take_succ_eq_append_getElem hkl)
      have HMI := Lib.hid (List.getElem_mem hkl)
      generalize l[k] = y at d0 d1 d2 d3 HX HMI
      obtain ⟨_, q0, q1, q2, q3, e0, e1, e2, e3⟩ := TwoE.more (w1 := w1) ⟨Below.refl _ _, p0, p1, p2, p3, d0, d1, d2, d3⟩ hgw hwb hb
      have HDS := Lib.hid (fun w' (h : Below wr.heap.size wr w') => TwoE.more (w1 := wr) ⟨Below.refl _ _, q0, q1, q2, q3, e0, e1, e2, e3⟩ (Nat.lt_of_lt_of_le hgw hb.size) (Nat.lt_of_lt_of_le hwb hb.size) h)
      clear d0 d1 d2 d3 hL
      have HFS := Lib.hid (show (l.take (k + 1)).foldl (H.stepE x) ([], false) = H.stepE x (so, sd) y by rw [HX.out, List.foldl_append, HF.out]; rfl)
      have HLS := Lib.hid (show so.length ≤ n + 1 by
        have h1 := H.fold_len x (l.take k) ([], false)
        rw [HF.out, List.length_take] at h1
        simp at h1
        omega)
      by_cases he : y = x
      · subst he
        have HPU := Lib.hid (show H.putE l y = l from if_pos HMI.out)
        have hmn : m = n := by rw [← HM.out, HPU.out, HN.out]
        subst hmn
        have HSE := Lib.hid (HA2.out _ hb.drew)
        go_wp2
        go_region
        go_wp2
        go_ret
        exact ⟨_, c, rfl, hc, (by rw [HPU.out]; exact HSE.out), bthen HB1.out hb.drew⟩
      · have HNX := Lib.hid (show x ∉ l.take (k + 1) by
          rw [HX.out]
          intro q
          rcases List.mem_append.1 q with q | q
          · exact HNI.out q
          · exact he (List.mem_singleton.1 q).symm)
        rcases H.ne_cases he with j | ⟨j0, j | ⟨j1, j | ⟨j2, j⟩⟩⟩
        · have n3 := sB_ne j
          clear he j
          cases sd with
          | true =>
            have HST := Lib.hid (show H.stepE x (so, true) y = (so ++ [y], true) from if_neg (fun h => by cases h.1))
            go_wp2
            go_region
            go_wp2
            refine wp_region_held_drew (S := fun w' => TwoE wr w' g x b o k y) (by kernel_rfl) (HDS.out _ ((Below.refl _ _).drew.drew)) (fun hHeld => ?_)
            refine takeD13 (i := 0) (v := ?vd00) (d := some 21) rfl rfl (by kernel_rfl) (by kernel_rfl) (by kernel_rfl) (fun _ _ _ h => h) (Or.inl ⟨by rfl, ?hd00⟩) (by assumption) ?rd00
            case hd00 => intro w hSw; obtain ⟨_, x0, x1, x2, x3, y0, y1, y2, y3⟩ := hSw; go_simp; try (with_reducible rfl)
            try simp only [Act.put, List.setIfInBounds_toArray, List.set_cons_zero, List.set_cons_succ]
            refine takeD13 (i := 1) (v := ?vd01) (d := some 22) rfl rfl (by kernel_rfl) (by kernel_rfl) (by kernel_rfl) (fun _ _ _ h => h) (Or.inl ⟨by rfl, ?hd01⟩) (by assumption) ?rd01
            case hd01 => intro w hSw; obtain ⟨_, x0, x1, x2, x3, y0, y1, y2, y3⟩ := hSw; go_simp; try (with_reducible rfl)
            try simp only [Act.put, List.setIfInBounds_toArray, List.set_cons_zero, List.set_cons_succ]
            refine takeD13 (i := 2) (v := ?vd02) (d := some 23) rfl rfl (by kernel_rfl) (by kernel_rfl) (by kernel_rfl) (fun _ _ _ h => h) (Or.inl ⟨by rfl, ?hd02⟩) (by assumption) ?rd02
            case hd02 => intro w hSw; obtain ⟨_, x0, x1, x2, x3, y0, y1, y2, y3⟩ := hSw; go_simp; try (with_reducible rfl)
            try simp only [Act.put, List.setIfInBounds_toArray, List.set_cons_zero, List.set_cons_succ]
            refine takeD13 (i := 3) (v := undef) (d := some 24) rfl rfl (by kernel_rfl) (by kernel_rfl) (by kernel_rfl) (fun _ _ _ h => h) (Or.inr ⟨by rfl, rfl⟩) (by assumption) ?rd03
            try simp only [Act.put, List.setIfInBounds_toArray, List.set_cons_zero, List.set_cons_succ]
            refine takeD13 (i := 4) (v := undef) (d := some 25) rfl rfl (by kernel_rfl) (by kernel_rfl) (by kernel_rfl) (fun _ _ _ h => h) (Or.inr ⟨by rfl, rfl⟩) (by assumption) ?rd04
            try simp only [Act.put, List.setIfInBounds_toArray, List.set_cons_zero, List.set_cons_succ]
            refine takeD13 (i := 5) (v := undef) (d := some 26) rfl rfl (by kernel_rfl) (by kernel_rfl) (by kernel_rfl) (fun _ _ _ h => h) (Or.inr ⟨by rfl, rfl⟩) (by assumption) ?rd05
            try simp only [Act.put, List.setIfInBounds_toArray, List.set_cons_zero, List.set_cons_succ]
            refine takeD13 (i := 6) (v := undef) (d := some 27) rfl rfl (by kernel_rfl) (by kernel_rfl) (by kernel_rfl) (fun _ _ _ h => h) (Or.inr ⟨by rfl, rfl⟩) (by assumption) ?rd06
            try simp only [Act.put, List.setIfInBounds_toArray, List.set_cons_zero, List.set_cons_succ]
            refine takeD13 (i := 7) (v := undef) (d := some 28) rfl rfl (by kernel_rfl) (by kernel_rfl) (by kernel_rfl) (fun _ _ _ h => h) (Or.inr ⟨by rfl, rfl⟩) (by assumption) ?rd07
            try simp only [Act.put, List.setIfInBounds_toArray, List.set_cons_zero, List.set_cons_succ]
            refine takeD13 (i := 8) (v := undef) (d := some 29) rfl rfl (by kernel_rfl) (by kernel_rfl) (by kernel_rfl) (fun _ _ _ h => h) (Or.inr ⟨by rfl, rfl⟩) (by assumption) ?rd08
            try simp only [Act.put, List.setIfInBounds_toArray, List.set_cons_zero, List.set_cons_succ]
            refine takeD13 (i := 9) (v := ?vd09) (d := some 30) rfl rfl (by kernel_rfl) (by kernel_rfl) (by kernel_rfl) (fun _ _ _ h => h) (Or.inl ⟨by rfl, ?hd09⟩) (by assumption) ?rd09
            case hd09 => intro w hSw; obtain ⟨_, x0, x1, x2, x3, y0, y1, y2, y3⟩ := hSw; go_simp; try (with_reducible rfl)
            try simp only [Act.put, List.setIfInBounds_toArray, List.set_cons_zero, List.set_cons_succ]
            refine wpAnyH_done (by kernel_rfl) ?_ _
            obtain ⟨hbq, z0, z1, z2, z3, y0, y1, y2, y3⟩ := hHeld
            have hsz := hb.size
            go_wp2_with (at_builtin; refine wpList_appG eEd (wr.drew.drew) rfl (.tmp 35) (.tmp 40) rfl w1.heap.size u5 so rfl HO.out y 1 _ rfl _ rfl rfl (by have := HLS.out; omega) hsz ?_; intro v5 w5 hown5 hb5)
            go_roundg (n - (k + 1))
            case rel => exact ⟨k + 1, (so ++ [y], true), (by show _ = _; omega), by omega, by go_num, Lib.hid (HFS.out.trans HST.out), rfl, Lib.hid hown5, HNX, hb.drew.drew.trans hb5⟩
            case measure => omega
          | false =>
            obtain ⟨r, hr⟩ : ∃ r, H.aheadE x y = r := ⟨_, rfl⟩
            cases r with
            | true =>
              have HR := Lib.hid hr
              have HST := Lib.hid (show H.stepE x (so, false) y = (so ++ [x] ++ [y], true) from if_pos ⟨rfl, hr⟩)
              clear hr
              go_wp2
              go_region
              go_wp2
              refine wp_region_held_drew (S := fun w' => TwoE wr w' g x b o k y) (by kernel_rfl) (HDS.out _ ((Below.refl _ _).drew.drew)) (fun hHeld => ?_)
              refine takeD13 (i := 0) (v := ?vt00) (d := some 21) rfl rfl (by kernel_rfl) (by kernel_rfl) (by kernel_rfl) (fun _ _ _ h => h) (Or.inl ⟨by rfl, ?ht00⟩) (by assumption) ?rt00
              case ht00 => intro w hSw; obtain ⟨_, x0, x1, x2, x3, y0, y1, y2, y3⟩ := hSw; go_simp; try (with_reducible rfl)
              try simp only [Act.put, List.setIfInBounds_toArray, List.set_cons_zero, List.set_cons_succ]
              refine takeD13 (i := 1) (v := ?vt01) (d := some 22) rfl rfl (by kernel_rfl) (by kernel_rfl) (by kernel_rfl) (fun _ _ _ h => h) (Or.inl ⟨by rfl, ?ht01⟩) (by assumption) ?rt01
              case ht01 => intro w hSw; obtain ⟨_, x0, x1, x2, x3, y0, y1, y2, y3⟩ := hSw; go_simp; try (with_reducible rfl)
              try simp only [Act.put, List.setIfInBounds_toArray, List.set_cons_zero, List.set_cons_succ]
              refine takeD13 (i := 2) (v := ?vt02) (d := some 23) rfl rfl (by kernel_rfl) (by kernel_rfl) (by kernel_rfl) (fun _ _ _ h => h) (Or.inl ⟨by rfl, ?ht02⟩) (by assumption) ?rt02
              case ht02 => intro w hSw; obtain ⟨_, x0, x1, x2, x3, y0, y1, y2, y3⟩ := hSw; go_simp; try (with_reducible rfl)
              try simp only [Act.put, List.setIfInBounds_toArray, List.set_cons_zero, List.set_cons_succ]
              refine takeD13 (i := 3) (v := ?vt03) (d := some 24) rfl rfl (by kernel_rfl) (by kernel_rfl) (by kernel_rfl) (fun _ _ _ h => h) (Or.inl ⟨by rfl, ?ht03⟩) (by assumption) ?rt03
              case ht03 => intro w hSw; obtain ⟨_, x0, x1, x2, x3, y0, y1, y2, y3⟩ := hSw; go_simp; try (with_reducible rfl)
              try simp only [Act.put, List.setIfInBounds_toArray, List.set_cons_zero, List.set_cons_succ]
              refine takeD13 (i := 4) (v := ?vt04) (d := some 25) rfl rfl (by kernel_rfl) (by kernel_rfl) (by kernel_rfl) (fun _ _ _ h => h) (Or.inl ⟨by rfl, ?ht04⟩) (by assumption) ?rt04
              case ht04 => intro w hSw; obtain ⟨_, x0, x1, x2, x3, y0, y1, y2, y3⟩ := hSw; go_simp; try (with_reducible rfl)
              try simp only [Act.put, List.setIfInBounds_toArray, List.set_cons_zero, List.set_cons_succ]
              refine takeD13 (i := 5) (v := ?vt05) (d := some 26) rfl rfl (by kernel_rfl) (by kernel_rfl) (by kernel_rfl) (fun _ _ _ h => h) (Or.inl ⟨by rfl, ?ht05⟩) (by assumption) ?rt05
              case ht05 => intro w hSw; obtain ⟨_, x0, x1, x2, x3, y0, y1, y2, y3⟩ := hSw; go_simp; try (with_reducible rfl)
              try simp only [Act.put, List.setIfInBounds_toArray, List.set_cons_zero, List.set_cons_succ]
              refine takeD13 (i := 6) (v := ?vt06) (d := some 27) rfl rfl (by kernel_rfl) (by kernel_rfl) (by kernel_rfl) (fun _ _ _ h => h) (Or.inl ⟨by rfl, ?ht06⟩) (by assumption) ?rt06
              case ht06 => intro w hSw; obtain ⟨_, x0, x1, x2, x3, y0, y1, y2, y3⟩ := hSw; go_simp; try (with_reducible rfl)
              try simp only [Act.put, List.setIfInBounds_toArray, List.set_cons_zero, List.set_cons_succ]
              refine takeD13 (i := 7) (v := ?vt07) (d := some 28) rfl rfl (by kernel_rfl) (by kernel_rfl) (by kernel_rfl) (fun _ _ _ h => h) (Or.inl ⟨by rfl, ?ht07⟩) (by assumption) ?rt07
              case ht07 => intro w hSw; obtain ⟨_, x0, x1, x2, x3, y0, y1, y2, y3⟩ := hSw; go_simp; try (with_reducible rfl)
              try simp only [Act.put, List.setIfInBounds_toArray, List.set_cons_zero, List.set_cons_succ]
              refine wpAnyH_ready (rs := [8]) (by kernel_rfl) (by simp) ?_
              refine AllReadyH.cons rfl (fun K hK => ?_) AllReadyH.nil
              go_simp
              go_at_call 16
              refine (aheadR x y true _ HR.out).mono ?_
              rintro e wq ⟨rfl, hx⟩
              have hbx := bthen hHeld.below hx
              have hHq := HDS.out _ hbx
              clear hHeld hx
              refine hK.out _ _ hHq (fun hHeld => ?_)
              clear hK K
              try simp only [Act.put, List.setIfInBounds_toArray, List.set_cons_zero, List.set_cons_succ]
              refine takeD13 (i := 9) (v := ?vt09) (d := some 30) rfl rfl (by kernel_rfl) (by kernel_rfl) (by kernel_rfl) (fun _ _ _ h => h) (Or.inl ⟨by rfl, ?ht09⟩) (by assumption) ?rt09
              case ht09 => intro w hSw; obtain ⟨_, x0, x1, x2, x3, y0, y1, y2, y3⟩ := hSw; go_simp; try (with_reducible rfl)
              try simp only [Act.put, List.setIfInBounds_toArray, List.set_cons_zero, List.set_cons_succ]
              refine wpAnyH_done (by kernel_rfl) ?_ _
              obtain ⟨hbq, z0, z1, z2, z3, y0, y1, y2, y3⟩ := hHq
              have HOQ := Lib.hid (HO.out.keep hbq)
              have hbw := bthen hb hbq
              have hsz := hbw.size
              have hwq : wr.heap.size ≤ wq.heap.size := hbq.size
              have HKY := Lib.hid (fun w' (h : Below w1.heap.size wq w') => show (w'.cell? ⟨b, o + k * 4, none⟩ = some (.string (sB y.host)) ∧ w'.cell? ⟨b, o + k * 4 + 1, none⟩ = some (.int .i64 y.kind)) ∧ w'.cell? ⟨b, o + k * 4 + 2, none⟩ = some (.string (sB y.key)) ∧ w'.cell? ⟨b, o + k * 4 + 3, none⟩ = some (.string (sB y.val)) from
                ⟨⟨(h.cell (p := ⟨b, o + k * 4, none⟩) hwb).trans y0, (h.cell (p := ⟨b, o + k * 4 + 1, none⟩) hwb).trans y1⟩, (h.cell (p := ⟨b, o + k * 4 + 2, none⟩) hwb).trans y2, (h.cell (p := ⟨b, o + k * 4 + 3, none⟩) hwb).trans y3⟩)
              go_wp2_with (first | (at_builtin; refine wpList_appG eEd _ rfl (.tmp 31) (.tmp 33) rfl w1.heap.size u5 so rfl HOQ.out x 1 _ rfl _ rfl rfl (by have := HLS.out; omega) hsz ?_; intro v5 w5 hown5 hb5; obtain ⟨⟨r0, r1⟩, r2, r3⟩ := HKY.out _ hb5; have hsz5 := Nat.le_trans hsz hb5.size; have HO5 := Lib.hid hown5; have hl5 : (so ++ [x]).length + 1 ≤ 1099511627776 := (by have := HLS.out; simp; omega)) | (at_builtin; refine wpList_appG eEd _ rfl (.tmp 35) (.tmp 40) rfl w1.heap.size v5 (so ++ [x]) rfl HO5.out y 1 _ rfl _ rfl rfl hl5 hsz5 ?_; intro v6 w6 hown6 hb6))
              go_roundg (n - (k + 1))
              case rel => exact ⟨k + 1, (so ++ [x] ++ [y], true), (by show _ = _; omega), by omega, by go_num, Lib.hid (HFS.out.trans HST.out), rfl, Lib.hid hown6, HNX, (hbw.trans hb5).trans hb6⟩
              case measure => omega
            | false =>
              have HR := Lib.hid hr
              have HST := Lib.hid (show H.stepE x (so, false) y = (so ++ [y], false) from if_neg (fun h => by rw [hr] at h; cases h.2))
              clear hr
              go_wp2
              go_region
              go_wp2
              refine wp_region_held_drew (S := fun w' => TwoE wr w' g x b o k y) (by kernel_rfl) (HDS.out _ ((Below.refl _ _).drew.drew)) (fun hHeld => ?_)
              refine takeD13 (i := 0) (v := ?vf00) (d := some 21) rfl rfl (by kernel_rfl) (by kernel_rfl) (by kernel_rfl) (fun _ _ _ h => h) (Or.inl ⟨by rfl, ?hf00⟩) (by assumption) ?rf00
              case hf00 => intro w hSw; obtain ⟨_, x0, x1, x2, x3, y0, y1, y2, y3⟩ := hSw; go_simp; try (with_reducible rfl)
              try simp only [Act.put, List.setIfInBounds_toArray, List.set_cons_zero, List.set_cons_succ]
              refine takeD13 (i := 1) (v := ?vf01) (d := some 22) rfl rfl (by kernel_rfl) (by kernel_rfl) (by kernel_rfl) (fun _ _ _ h => h) (Or.inl ⟨by rfl, ?hf01⟩) (by assumption) ?rf01
              case hf01 => intro w hSw; obtain ⟨_, x0, x1, x2, x3, y0, y1, y2, y3⟩ := hSw; go_simp; try (with_reducible rfl)
              try simp only [Act.put, List.setIfInBounds_toArray, List.set_cons_zero, List.set_cons_succ]
              refine takeD13 (i := 2) (v := ?vf02) (d := some 23) rfl rfl (by kernel_rfl) (by kernel_rfl) (by kernel_rfl) (fun _ _ _ h => h) (Or.inl ⟨by rfl, ?hf02⟩) (by assumption) ?rf02
              case hf02 => intro w hSw; obtain ⟨_, x0, x1, x2, x3, y0, y1, y2, y3⟩ := hSw; go_simp; try (with_reducible rfl)
              try simp only [Act.put, List.setIfInBounds_toArray, List.set_cons_zero, List.set_cons_succ]
              refine takeD13 (i := 3) (v := ?vf03) (d := some 24) rfl rfl (by kernel_rfl) (by kernel_rfl) (by kernel_rfl) (fun _ _ _ h => h) (Or.inl ⟨by rfl, ?hf03⟩) (by assumption) ?rf03
              case hf03 => intro w hSw; obtain ⟨_, x0, x1, x2, x3, y0, y1, y2, y3⟩ := hSw; go_simp; try (with_reducible rfl)
              try simp only [Act.put, List.setIfInBounds_toArray, List.set_cons_zero, List.set_cons_succ]
              refine takeD13 (i := 4) (v := ?vf04) (d := some 25) rfl rfl (by kernel_rfl) (by kernel_rfl) (by kernel_rfl) (fun _ _ _ h => h) (Or.inl ⟨by rfl, ?hf04⟩) (by assumption) ?rf04
              case hf04 => intro w hSw; obtain ⟨_, x0, x1, x2, x3, y0, y1, y2, y3⟩ := hSw; go_simp; try (with_reducible rfl)
              try simp only [Act.put, List.setIfInBounds_toArray, List.set_cons_zero, List.set_cons_succ]
              refine takeD13 (i := 5) (v := ?vf05) (d := some 26) rfl rfl (by kernel_rfl) (by kernel_rfl) (by kernel_rfl) (fun _ _ _ h => h) (Or.inl ⟨by rfl, ?hf05⟩) (by assumption) ?rf05
              case hf05 => intro w hSw; obtain ⟨_, x0, x1, x2, x3, y0, y1, y2, y3⟩ := hSw; go_simp; try (with_reducible rfl)
              try simp only [Act.put, List.setIfInBounds_toArray, List.set_cons_zero, List.set_cons_succ]
              refine takeD13 (i := 6) (v := ?vf06) (d := some 27) rfl rfl (by kernel_rfl) (by kernel_rfl) (by kernel_rfl) (fun _ _ _ h => h) (Or.inl ⟨by rfl, ?hf06⟩) (by assumption) ?rf06
              case hf06 => intro w hSw; obtain ⟨_, x0, x1, x2, x3, y0, y1, y2, y3⟩ := hSw; go_simp; try (with_reducible rfl)
              try simp only [Act.put, List.setIfInBounds_toArray, List.set_cons_zero, List.set_cons_succ]
              refine takeD13 (i := 7) (v := ?vf07) (d := some 28) rfl rfl (by kernel_rfl) (by kernel_rfl) (by kernel_rfl) (fun _ _ _ h => h) (Or.inl ⟨by rfl, ?hf07⟩) (by assumption) ?rf07
              case hf07 => intro w hSw; obtain ⟨_, x0, x1, x2, x3, y0, y1, y2, y3⟩ := hSw; go_simp; try (with_reducible rfl)
              try simp only [Act.put, List.setIfInBounds_toArray, List.set_cons_zero, List.set_cons_succ]
              refine wpAnyH_ready (rs := [8]) (by kernel_rfl) (by simp) ?_
              refine AllReadyH.cons rfl (fun K hK => ?_) AllReadyH.nil
              go_simp
              go_at_call 16
              refine (aheadR x y false _ HR.out).mono ?_
              rintro e wq ⟨rfl, hx⟩
              have hbx := bthen hHeld.below hx
              have hHq := HDS.out _ hbx
              clear hHeld hx
              refine hK.out _ _ hHq (fun hHeld => ?_)
              clear hK K
              try simp only [Act.put, List.setIfInBounds_toArray, List.set_cons_zero, List.set_cons_succ]
              refine takeD13 (i := 9) (v := ?vf09) (d := some 30) rfl rfl (by kernel_rfl) (by kernel_rfl) (by kernel_rfl) (fun _ _ _ h => h) (Or.inl ⟨by rfl, ?hf09⟩) (by assumption) ?rf09
              case hf09 => intro w hSw; obtain ⟨_, x0, x1, x2, x3, y0, y1, y2, y3⟩ := hSw; go_simp; try (with_reducible rfl)
              try simp only [Act.put, List.setIfInBounds_toArray, List.set_cons_zero, List.set_cons_succ]
              refine wpAnyH_done (by kernel_rfl) ?_ _
              obtain ⟨hbq, z0, z1, z2, z3, y0, y1, y2, y3⟩ := hHq
              have HOQ := Lib.hid (HO.out.keep hbq)
              have hbw := bthen hb hbq
              have hsz := hbw.size
              go_wp2_with (at_builtin; refine wpList_appG eEd _ rfl (.tmp 35) (.tmp 40) rfl w1.heap.size u5 so rfl HOQ.out y 1 _ rfl _ rfl rfl (by have := HLS.out; omega) hsz ?_; intro v5 w5 hown5 hb5)
              go_roundg (n - (k + 1))
              case rel => exact ⟨k + 1, (so ++ [y], false), (by show _ = _; omega), by omega, by go_num, Lib.hid (HFS.out.trans HST.out), rfl, Lib.hid hown5, HNX, hbw.trans hb5⟩
              case measure => omega
        · have n0 := sB_eq j0
          have n3 : (y.kind == x.kind) = false := beq_eq_false_iff_ne.2 j
          clear he j j0
          cases sd with
          | true =>
            have HST := Lib.hid (show H.stepE x (so, true) y = (so ++ [y], true) from if_neg (fun h => by cases h.1))
            go_wp2
            go_region
            go_wp2
            refine wp_region_held_drew (S := fun w' => TwoE wr w' g x b o k y) (by kernel_rfl) (HDS.out _ ((Below.refl _ _).drew.drew)) (fun hHeld => ?_)
            refine takeD13 (i := 0) (v := ?vd10) (d := some 21) rfl rfl (by kernel_rfl) (by kernel_rfl) (by kernel_rfl) (fun _ _ _ h => h) (Or.inl ⟨by rfl, ?hd10⟩) (by assumption) ?rd10
            case hd10 => intro w hSw; obtain ⟨_, x0, x1, x2, x3, y0, y1, y2, y3⟩ := hSw; go_simp; try (with_reducible rfl)
            try simp only [Act.put, List.setIfInBounds_toArray, List.set_cons_zero, List.set_cons_succ]
            refine takeD13 (i := 1) (v := ?vd11) (d := some 22) rfl rfl (by kernel_rfl) (by kernel_rfl) (by kernel_rfl) (fun _ _ _ h => h) (Or.inl ⟨by rfl, ?hd11⟩) (by assumption) ?rd11
            case hd11 => intro w hSw; obtain ⟨_, x0, x1, x2, x3, y0, y1, y2, y3⟩ := hSw; go_simp; try (with_reducible rfl)
            try simp only [Act.put, List.setIfInBounds_toArray, List.set_cons_zero, List.set_cons_succ]
            refine takeD13 (i := 2) (v := ?vd12) (d := some 23) rfl rfl (by kernel_rfl) (by kernel_rfl) (by kernel_rfl) (fun _ _ _ h => h) (Or.inl ⟨by rfl, ?hd12⟩) (by assumption) ?rd12
            case hd12 => intro w hSw; obtain ⟨_, x0, x1, x2, x3, y0, y1, y2, y3⟩ := hSw; go_simp; try (with_reducible rfl)
            try simp only [Act.put, List.setIfInBounds_toArray, List.set_cons_zero, List.set_cons_succ]
            refine takeD13 (i := 3) (v := undef) (d := some 24) rfl rfl (by kernel_rfl) (by kernel_rfl) (by kernel_rfl) (fun _ _ _ h => h) (Or.inr ⟨by rfl, rfl⟩) (by assumption) ?rd13
            try simp only [Act.put, List.setIfInBounds_toArray, List.set_cons_zero, List.set_cons_succ]
            refine takeD13 (i := 4) (v := undef) (d := some 25) rfl rfl (by kernel_rfl) (by kernel_rfl) (by kernel_rfl) (fun _ _ _ h => h) (Or.inr ⟨by rfl, rfl⟩) (by assumption) ?rd14
            try simp only [Act.put, List.setIfInBounds_toArray, List.set_cons_zero, List.set_cons_succ]
            refine takeD13 (i := 5) (v := undef) (d := some 26) rfl rfl (by kernel_rfl) (by kernel_rfl) (by kernel_rfl) (fun _ _ _ h => h) (Or.inr ⟨by rfl, rfl⟩) (by assumption) ?rd15
            try simp only [Act.put, List.setIfInBounds_toArray, List.set_cons_zero, List.set_cons_succ]
            refine takeD13 (i := 6) (v := undef) (d := some 27) rfl rfl (by kernel_rfl) (by kernel_rfl) (by kernel_rfl) (fun _ _ _ h => h) (Or.inr ⟨by rfl, rfl⟩) (by assumption) ?rd16
            try simp only [Act.put, List.setIfInBounds_toArray, List.set_cons_zero, List.set_cons_succ]
            refine takeD13 (i := 7) (v := undef) (d := some 28) rfl rfl (by kernel_rfl) (by kernel_rfl) (by kernel_rfl) (fun _ _ _ h => h) (Or.inr ⟨by rfl, rfl⟩) (by assumption) ?rd17
            try simp only [Act.put, List.setIfInBounds_toArray, List.set_cons_zero, List.set_cons_succ]
            refine takeD13 (i := 8) (v := undef) (d := some 29) rfl rfl (by kernel_rfl) (by kernel_rfl) (by kernel_rfl) (fun _ _ _ h => h) (Or.inr ⟨by rfl, rfl⟩) (by assumption) ?rd18
            try simp only [Act.put, List.setIfInBounds_toArray, List.set_cons_zero, List.set_cons_succ]
            refine takeD13 (i := 9) (v := ?vd19) (d := some 30) rfl rfl (by kernel_rfl) (by kernel_rfl) (by kernel_rfl) (fun _ _ _ h => h) (Or.inl ⟨by rfl, ?hd19⟩) (by assumption) ?rd19
            case hd19 => intro w hSw; obtain ⟨_, x0, x1, x2, x3, y0, y1, y2, y3⟩ := hSw; go_simp; try (with_reducible rfl)
            try simp only [Act.put, List.setIfInBounds_toArray, List.set_cons_zero, List.set_cons_succ]
            refine wpAnyH_done (by kernel_rfl) ?_ _
            obtain ⟨hbq, z0, z1, z2, z3, y0, y1, y2, y3⟩ := hHeld
            have hsz := hb.size
            go_wp2_with (at_builtin; refine wpList_appG eEd (wr.drew.drew) rfl (.tmp 35) (.tmp 40) rfl w1.heap.size u5 so rfl HO.out y 1 _ rfl _ rfl rfl (by have := HLS.out; omega) hsz ?_; intro v5 w5 hown5 hb5)
            go_roundg (n - (k + 1))
            case rel => exact ⟨k + 1, (so ++ [y], true), (by show _ = _; omega), by omega, by go_num, Lib.hid (HFS.out.trans HST.out), rfl, Lib.hid hown5, HNX, hb.drew.drew.trans hb5⟩
            case measure => omega
          | false =>
            obtain ⟨r, hr⟩ : ∃ r, H.aheadE x y = r := ⟨_, rfl⟩
            cases r with
            | true =>
              have HR := Lib.hid hr
              have HST := Lib.hid (show H.stepE x (so, false) y = (so ++ [x] ++ [y], true) from if_pos ⟨rfl, hr⟩)
              clear hr
              go_wp2
              go_region
              go_wp2
              refine wp_region_held_drew (S := fun w' => TwoE wr w' g x b o k y) (by kernel_rfl) (HDS.out _ ((Below.refl _ _).drew.drew)) (fun hHeld => ?_)
              refine takeD13 (i := 0) (v := ?vt10) (d := some 21) rfl rfl (by kernel_rfl) (by kernel_rfl) (by kernel_rfl) (fun _ _ _ h => h) (Or.inl ⟨by rfl, ?ht10⟩) (by assumption) ?rt10
              case ht10 => intro w hSw; obtain ⟨_, x0, x1, x2, x3, y0, y1, y2, y3⟩ := hSw; go_simp; try (with_reducible rfl)
              try simp only [Act.put, List.setIfInBounds_toArray, List.set_cons_zero, List.set_cons_succ]
              refine takeD13 (i := 1) (v := ?vt11) (d := some 22) rfl rfl (by kernel_rfl) (by kernel_rfl) (by kernel_rfl) (fun _ _ _ h => h) (Or.inl ⟨by rfl, ?ht11⟩) (by assumption) ?rt11
              case ht11 => intro w hSw; obtain ⟨_, x0, x1, x2, x3, y0, y1, y2, y3⟩ := hSw; go_simp; try (with_reducible rfl)
              try simp only [Act.put, List.setIfInBounds_toArray, List.set_cons_zero, List.set_cons_succ]
              refine takeD13 (i := 2) (v := ?vt12) (d := some 23) rfl rfl (by kernel_rfl) (by kernel_rfl) (by kernel_rfl) (fun _ _ _ h => h) (Or.inl ⟨by rfl, ?ht12⟩) (by assumption) ?rt12
              case ht12 => intro w hSw; obtain ⟨_, x0, x1, x2, x3, y0, y1, y2, y3⟩ := hSw; go_simp; try (with_reducible rfl)
              try simp only [Act.put, List.setIfInBounds_toArray, List.set_cons_zero, List.set_cons_succ]
              refine takeD13 (i := 3) (v := ?vt13) (d := some 24) rfl rfl (by kernel_rfl) (by kernel_rfl) (by kernel_rfl) (fun _ _ _ h => h) (Or.inl ⟨by rfl, ?ht13⟩) (by assumption) ?rt13
              case ht13 => intro w hSw; obtain ⟨_, x0, x1, x2, x3, y0, y1, y2, y3⟩ := hSw; go_simp; try (with_reducible rfl)
              try simp only [Act.put, List.setIfInBounds_toArray, List.set_cons_zero, List.set_cons_succ]
              refine takeD13 (i := 4) (v := ?vt14) (d := some 25) rfl rfl (by kernel_rfl) (by kernel_rfl) (by kernel_rfl) (fun _ _ _ h => h) (Or.inl ⟨by rfl, ?ht14⟩) (by assumption) ?rt14
              case ht14 => intro w hSw; obtain ⟨_, x0, x1, x2, x3, y0, y1, y2, y3⟩ := hSw; go_simp; try (with_reducible rfl)
              try simp only [Act.put, List.setIfInBounds_toArray, List.set_cons_zero, List.set_cons_succ]
              refine takeD13 (i := 5) (v := ?vt15) (d := some 26) rfl rfl (by kernel_rfl) (by kernel_rfl) (by kernel_rfl) (fun _ _ _ h => h) (Or.inl ⟨by rfl, ?ht15⟩) (by assumption) ?rt15
              case ht15 => intro w hSw; obtain ⟨_, x0, x1, x2, x3, y0, y1, y2, y3⟩ := hSw; go_simp; try (with_reducible rfl)
              try simp only [Act.put, List.setIfInBounds_toArray, List.set_cons_zero, List.set_cons_succ]
              refine takeD13 (i := 6) (v := ?vt16) (d := some 27) rfl rfl (by kernel_rfl) (by kernel_rfl) (by kernel_rfl) (fun _ _ _ h => h) (Or.inl ⟨by rfl, ?ht16⟩) (by assumption) ?rt16
              case ht16 => intro w hSw; obtain ⟨_, x0, x1, x2, x3, y0, y1, y2, y3⟩ := hSw; go_simp; try (with_reducible rfl)
              try simp only [Act.put, List.setIfInBounds_toArray, List.set_cons_zero, List.set_cons_succ]
              refine takeD13 (i := 7) (v := ?vt17) (d := some 28) rfl rfl (by kernel_rfl) (by kernel_rfl) (by kernel_rfl) (fun _ _ _ h => h) (Or.inl ⟨by rfl, ?ht17⟩) (by assumption) ?rt17
              case ht17 => intro w hSw; obtain ⟨_, x0, x1, x2, x3, y0, y1, y2, y3⟩ := hSw; go_simp; try (with_reducible rfl)
              try simp only [Act.put, List.setIfInBounds_toArray, List.set_cons_zero, List.set_cons_succ]
              refine wpAnyH_ready (rs := [8]) (by kernel_rfl) (by simp) ?_
              refine AllReadyH.cons rfl (fun K hK => ?_) AllReadyH.nil
              go_simp
              go_at_call 16
              refine (aheadR x y true _ HR.out).mono ?_
              rintro e wq ⟨rfl, hx⟩
              have hbx := bthen hHeld.below hx
              have hHq := HDS.out _ hbx
              clear hHeld hx
              refine hK.out _ _ hHq (fun hHeld => ?_)
              clear hK K
              try simp only [Act.put, List.setIfInBounds_toArray, List.set_cons_zero, List.set_cons_succ]
              refine takeD13 (i := 9) (v := ?vt19) (d := some 30) rfl rfl (by kernel_rfl) (by kernel_rfl) (by kernel_rfl) (fun _ _ _ h => h) (Or.inl ⟨by rfl, ?ht19⟩) (by assumption) ?rt19
              case ht19 => intro w hSw; obtain ⟨_, x0, x1, x2, x3, y0, y1, y2, y3⟩ := hSw; go_simp; try (with_reducible rfl)
              try simp only [Act.put, List.setIfInBounds_toArray, List.set_cons_zero, List.set_cons_succ]
              refine wpAnyH_done (by kernel_rfl) ?_ _
              obtain ⟨hbq, z0, z1, z2, z3, y0, y1, y2, y3⟩ := hHq
              have HOQ := Lib.hid (HO.out.keep hbq)
              have hbw := bthen hb hbq
              have hsz := hbw.size
              have hwq : wr.heap.size ≤ wq.heap.size := hbq.size
              have HKY := Lib.hid (fun w' (h : Below w1.heap.size wq w') => show (w'.cell? ⟨b, o + k * 4, none⟩ = some (.string (sB y.host)) ∧ w'.cell? ⟨b, o + k * 4 + 1, none⟩ = some (.int .i64 y.kind)) ∧ w'.cell? ⟨b, o + k * 4 + 2, none⟩ = some (.string (sB y.key)) ∧ w'.cell? ⟨b, o + k * 4 + 3, none⟩ = some (.string (sB y.val)) from
                ⟨⟨(h.cell (p := ⟨b, o + k * 4, none⟩) hwb).trans y0, (h.cell (p := ⟨b, o + k * 4 + 1, none⟩) hwb).trans y1⟩, (h.cell (p := ⟨b, o + k * 4 + 2, none⟩) hwb).trans y2, (h.cell (p := ⟨b, o + k * 4 + 3, none⟩) hwb).trans y3⟩)
              go_wp2_with (first | (at_builtin; refine wpList_appG eEd _ rfl (.tmp 31) (.tmp 33) rfl w1.heap.size u5 so rfl HOQ.out x 1 _ rfl _ rfl rfl (by have := HLS.out; omega) hsz ?_; intro v5 w5 hown5 hb5; obtain ⟨⟨r0, r1⟩, r2, r3⟩ := HKY.out _ hb5; have hsz5 := Nat.le_trans hsz hb5.size; have HO5 := Lib.hid hown5; have hl5 : (so ++ [x]).length + 1 ≤ 1099511627776 := (by have := HLS.out; simp; omega)) | (at_builtin; refine wpList_appG eEd _ rfl (.tmp 35) (.tmp 40) rfl w1.heap.size v5 (so ++ [x]) rfl HO5.out y 1 _ rfl _ rfl rfl hl5 hsz5 ?_; intro v6 w6 hown6 hb6))
              go_roundg (n - (k + 1))
              case rel => exact ⟨k + 1, (so ++ [x] ++ [y], true), (by show _ = _; omega), by omega, by go_num, Lib.hid (HFS.out.trans HST.out), rfl, Lib.hid hown6, HNX, (hbw.trans hb5).trans hb6⟩
              case measure => omega
            | false =>
              have HR := Lib.hid hr
              have HST := Lib.hid (show H.stepE x (so, false) y = (so ++ [y], false) from if_neg (fun h => by rw [hr] at h; cases h.2))
              clear hr
              go_wp2
              go_region
              go_wp2
              refine wp_region_held_drew (S := fun w' => TwoE wr w' g x b o k y) (by kernel_rfl) (HDS.out _ ((Below.refl _ _).drew.drew)) (fun hHeld => ?_)
              refine takeD13 (i := 0) (v := ?vf10) (d := some 21) rfl rfl (by kernel_rfl) (by kernel_rfl) (by kernel_rfl) (fun _ _ _ h => h) (Or.inl ⟨by rfl, ?hf10⟩) (by assumption) ?rf10
              case hf10 => intro w hSw; obtain ⟨_, x0, x1, x2, x3, y0, y1, y2, y3⟩ := hSw; go_simp; try (with_reducible rfl)
              try simp only [Act.put, List.setIfInBounds_toArray, List.set_cons_zero, List.set_cons_succ]
              refine takeD13 (i := 1) (v := ?vf11) (d := some 22) rfl rfl (by kernel_rfl) (by kernel_rfl) (by kernel_rfl) (fun _ _ _ h => h) (Or.inl ⟨by rfl, ?hf11⟩) (by assumption) ?rf11
              case hf11 => intro w hSw; obtain ⟨_, x0, x1, x2, x3, y0, y1, y2, y3⟩ := hSw; go_simp; try (with_reducible rfl)
              try simp only [Act.put, List.setIfInBounds_toArray, List.set_cons_zero, List.set_cons_succ]
              refine takeD13 (i := 2) (v := ?vf12) (d := some 23) rfl rfl (by kernel_rfl) (by kernel_rfl) (by kernel_rfl) (fun _ _ _ h => h) (Or.inl ⟨by rfl, ?hf12⟩) (by assumption) ?rf12
              case hf12 => intro w hSw; obtain ⟨_, x0, x1, x2, x3, y0, y1, y2, y3⟩ := hSw; go_simp; try (with_reducible rfl)
              try simp only [Act.put, List.setIfInBounds_toArray, List.set_cons_zero, List.set_cons_succ]
              refine takeD13 (i := 3) (v := ?vf13) (d := some 24) rfl rfl (by kernel_rfl) (by kernel_rfl) (by kernel_rfl) (fun _ _ _ h => h) (Or.inl ⟨by rfl, ?hf13⟩) (by assumption) ?rf13
              case hf13 => intro w hSw; obtain ⟨_, x0, x1, x2, x3, y0, y1, y2, y3⟩ := hSw; go_simp; try (with_reducible rfl)
              try simp only [Act.put, List.setIfInBounds_toArray, List.set_cons_zero, List.set_cons_succ]
              refine takeD13 (i := 4) (v := ?vf14) (d := some 25) rfl rfl (by kernel_rfl) (by kernel_rfl) (by kernel_rfl) (fun _ _ _ h => h) (Or.inl ⟨by rfl, ?hf14⟩) (by assumption) ?rf14
              case hf14 => intro w hSw; obtain ⟨_, x0, x1, x2, x3, y0, y1, y2, y3⟩ := hSw; go_simp; try (with_reducible rfl)
              try simp only [Act.put, List.setIfInBounds_toArray, List.set_cons_zero, List.set_cons_succ]
              refine takeD13 (i := 5) (v := ?vf15) (d := some 26) rfl rfl (by kernel_rfl) (by kernel_rfl) (by kernel_rfl) (fun _ _ _ h => h) (Or.inl ⟨by rfl, ?hf15⟩) (by assumption) ?rf15
              case hf15 => intro w hSw; obtain ⟨_, x0, x1, x2, x3, y0, y1, y2, y3⟩ := hSw; go_simp; try (with_reducible rfl)
              try simp only [Act.put, List.setIfInBounds_toArray, List.set_cons_zero, List.set_cons_succ]
              refine takeD13 (i := 6) (v := ?vf16) (d := some 27) rfl rfl (by kernel_rfl) (by kernel_rfl) (by kernel_rfl) (fun _ _ _ h => h) (Or.inl ⟨by rfl, ?hf16⟩) (by assumption) ?rf16
              case hf16 => intro w hSw; obtain ⟨_, x0, x1, x2, x3, y0, y1, y2, y3⟩ := hSw; go_simp; try (with_reducible rfl)
              try simp only [Act.put, List.setIfInBounds_toArray, List.set_cons_zero, List.set_cons_succ]
              refine takeD13 (i := 7) (v := ?vf17) (d := some 28) rfl rfl (by kernel_rfl) (by kernel_rfl) (by kernel_rfl) (fun _ _ _ h => h) (Or.inl ⟨by rfl, ?hf17⟩) (by assumption) ?rf17
              case hf17 => intro w hSw; obtain ⟨_, x0, x1, x2, x3, y0, y1, y2, y3⟩ := hSw; go_simp; try (with_reducible rfl)
              try simp only [Act.put, List.setIfInBounds_toArray, List.set_cons_zero, List.set_cons_succ]
              refine wpAnyH_ready (rs := [8]) (by kernel_rfl) (by simp) ?_
              refine AllReadyH.cons rfl (fun K hK => ?_) AllReadyH.nil
              go_simp
              go_at_call 16
              refine (aheadR x y false _ HR.out).mono ?_
              rintro e wq ⟨rfl, hx⟩
              have hbx := bthen hHeld.below hx
              have hHq := HDS.out _ hbx
              clear hHeld hx
              refine hK.out _ _ hHq (fun hHeld => ?_)
              clear hK K
              try simp only [Act.put, List.setIfInBounds_toArray, List.set_cons_zero, List.set_cons_succ]
              refine takeD13 (i := 9) (v := ?vf19) (d := some 30) rfl rfl (by kernel_rfl) (by kernel_rfl) (by kernel_rfl) (fun _ _ _ h => h) (Or.inl ⟨by rfl, ?hf19⟩) (by assumption) ?rf19
              case hf19 => intro w hSw; obtain ⟨_, x0, x1, x2, x3, y0, y1, y2, y3⟩ := hSw; go_simp; try (with_reducible rfl)
              try simp only [Act.put, List.setIfInBounds_toArray, List.set_cons_zero, List.set_cons_succ]
              refine wpAnyH_done (by kernel_rfl) ?_ _
              obtain ⟨hbq, z0, z1, z2, z3, y0, y1, y2, y3⟩ := hHq
              have HOQ := Lib.hid (HO.out.keep hbq)
              have hbw := bthen hb hbq
              have hsz := hbw.size
              go_wp2_with (at_builtin; refine wpList_appG eEd _ rfl (.tmp 35) (.tmp 40) rfl w1.heap.size u5 so rfl HOQ.out y 1 _ rfl _ rfl rfl (by have := HLS.out; omega) hsz ?_; intro v5 w5 hown5 hb5)
              go_roundg (n - (k + 1))
              case rel => exact ⟨k + 1, (so ++ [y], false), (by show _ = _; omega), by omega, by go_num, Lib.hid (HFS.out.trans HST.out), rfl, Lib.hid hown5, HNX, hbw.trans hb5⟩
              case measure => omega
        · have n0 := sB_eq j0
          have n1 : (y.kind == x.kind) = true := beq_iff_eq.2 j1
          have n3 := sB_ne j
          clear he j j0 j1
          cases sd with
          | true =>
            have HST := Lib.hid (show H.stepE x (so, true) y = (so ++ [y], true) from if_neg (fun h => by cases h.1))
            go_wp2
            go_region
            go_wp2
            refine wp_region_held_drew (S := fun w' => TwoE wr w' g x b o k y) (by kernel_rfl) (HDS.out _ ((Below.refl _ _).drew.drew)) (fun hHeld => ?_)
            refine takeD13 (i := 0) (v := ?vd20) (d := some 21) rfl rfl (by kernel_rfl) (by kernel_rfl) (by kernel_rfl) (fun _ _ _ h => h) (Or.inl ⟨by rfl, ?hd20⟩) (by assumption) ?rd20
            case hd20 => intro w hSw; obtain ⟨_, x0, x1, x2, x3, y0, y1, y2, y3⟩ := hSw; go_simp; try (with_reducible rfl)
            try simp only [Act.put, List.setIfInBounds_toArray, List.set_cons_zero, List.set_cons_succ]
            refine takeD13 (i := 1) (v := ?vd21) (d := some 22) rfl rfl (by kernel_rfl) (by kernel_rfl) (by kernel_rfl) (fun _ _ _ h => h) (Or.inl ⟨by rfl, ?hd21⟩) (by assumption) ?rd21
            case hd21 => intro w hSw; obtain ⟨_, x0, x1, x2, x3, y0, y1, y2, y3⟩ := hSw; go_simp; try (with_reducible rfl)
            try simp only [Act.put, List.setIfInBounds_toArray, List.set_cons_zero, List.set_cons_succ]
            refine takeD13 (i := 2) (v := ?vd22) (d := some 23) rfl rfl (by kernel_rfl) (by kernel_rfl) (by kernel_rfl) (fun _ _ _ h => h) (Or.inl ⟨by rfl, ?hd22⟩) (by assumption) ?rd22
            case hd22 => intro w hSw; obtain ⟨_, x0, x1, x2, x3, y0, y1, y2, y3⟩ := hSw; go_simp; try (with_reducible rfl)
            try simp only [Act.put, List.setIfInBounds_toArray, List.set_cons_zero, List.set_cons_succ]
            refine takeD13 (i := 3) (v := undef) (d := some 24) rfl rfl (by kernel_rfl) (by kernel_rfl) (by kernel_rfl) (fun _ _ _ h => h) (Or.inr ⟨by rfl, rfl⟩) (by assumption) ?rd23
            try simp only [Act.put, List.setIfInBounds_toArray, List.set_cons_zero, List.set_cons_succ]
            refine takeD13 (i := 4) (v := undef) (d := some 25) rfl rfl (by kernel_rfl) (by kernel_rfl) (by kernel_rfl) (fun _ _ _ h => h) (Or.inr ⟨by rfl, rfl⟩) (by assumption) ?rd24
            try simp only [Act.put, List.setIfInBounds_toArray, List.set_cons_zero, List.set_cons_succ]
            refine takeD13 (i := 5) (v := undef) (d := some 26) rfl rfl (by kernel_rfl) (by kernel_rfl) (by kernel_rfl) (fun _ _ _ h => h) (Or.inr ⟨by rfl, rfl⟩) (by assumption) ?rd25
            try simp only [Act.put, List.setIfInBounds_toArray, List.set_cons_zero, List.set_cons_succ]
            refine takeD13 (i := 6) (v := undef) (d := some 27) rfl rfl (by kernel_rfl) (by kernel_rfl) (by kernel_rfl) (fun _ _ _ h => h) (Or.inr ⟨by rfl, rfl⟩) (by assumption) ?rd26
            try simp only [Act.put, List.setIfInBounds_toArray, List.set_cons_zero, List.set_cons_succ]
            refine takeD13 (i := 7) (v := undef) (d := some 28) rfl rfl (by kernel_rfl) (by kernel_rfl) (by kernel_rfl) (fun _ _ _ h => h) (Or.inr ⟨by rfl, rfl⟩) (by assumption) ?rd27
            try simp only [Act.put, List.setIfInBounds_toArray, List.set_cons_zero, List.set_cons_succ]
            refine takeD13 (i := 8) (v := undef) (d := some 29) rfl rfl (by kernel_rfl) (by kernel_rfl) (by kernel_rfl) (fun _ _ _ h => h) (Or.inr ⟨by rfl, rfl⟩) (by assumption) ?rd28
            try simp only [Act.put, List.setIfInBounds_toArray, List.set_cons_zero, List.set_cons_succ]
            refine takeD13 (i := 9) (v := ?vd29) (d := some 30) rfl rfl (by kernel_rfl) (by kernel_rfl) (by kernel_rfl) (fun _ _ _ h => h) (Or.inl ⟨by rfl, ?hd29⟩) (by assumption) ?rd29
            case hd29 => intro w hSw; obtain ⟨_, x0, x1, x2, x3, y0, y1, y2, y3⟩ := hSw; go_simp; try (with_reducible rfl)
            try simp only [Act.put, List.setIfInBounds_toArray, List.set_cons_zero, List.set_cons_succ]
            refine wpAnyH_done (by kernel_rfl) ?_ _
            obtain ⟨hbq, z0, z1, z2, z3, y0, y1, y2, y3⟩ := hHeld
            have hsz := hb.size
            go_wp2_with (at_builtin; refine wpList_appG eEd (wr.drew.drew) rfl (.tmp 35) (.tmp 40) rfl w1.heap.size u5 so rfl HO.out y 1 _ rfl _ rfl rfl (by have := HLS.out; omega) hsz ?_; intro v5 w5 hown5 hb5)
            go_roundg (n - (k + 1))
            case rel => exact ⟨k + 1, (so ++ [y], true), (by show _ = _; omega), by omega, by go_num, Lib.hid (HFS.out.trans HST.out), rfl, Lib.hid hown5, HNX, hb.drew.drew.trans hb5⟩
            case measure => omega
          | false =>
            obtain ⟨r, hr⟩ : ∃ r, H.aheadE x y = r := ⟨_, rfl⟩
            cases r with
            | true =>
              have HR := Lib.hid hr
              have HST := Lib.hid (show H.stepE x (so, false) y = (so ++ [x] ++ [y], true) from if_pos ⟨rfl, hr⟩)
              clear hr
              go_wp2
              go_region
              go_wp2
              refine wp_region_held_drew (S := fun w' => TwoE wr w' g x b o k y) (by kernel_rfl) (HDS.out _ ((Below.refl _ _).drew.drew)) (fun hHeld => ?_)
              refine takeD13 (i := 0) (v := ?vt20) (d := some 21) rfl rfl (by kernel_rfl) (by kernel_rfl) (by kernel_rfl) (fun _ _ _ h => h) (Or.inl ⟨by rfl, ?ht20⟩) (by assumption) ?rt20
              case ht20 => intro w hSw; obtain ⟨_, x0, x1, x2, x3, y0, y1, y2, y3⟩ := hSw; go_simp; try (with_reducible rfl)
              try simp only [Act.put, List.setIfInBounds_toArray, List.set_cons_zero, List.set_cons_succ]
              refine takeD13 (i := 1) (v := ?vt21) (d := some 22) rfl rfl (by kernel_rfl) (by kernel_rfl) (by kernel_rfl) (fun _ _ _ h => h) (Or.inl ⟨by rfl, ?ht21⟩) (by assumption) ?rt21
              case ht21 => intro w hSw; obtain ⟨_, x0, x1, x2, x3, y0, y1, y2, y3⟩ := hSw; go_simp; try (with_reducible rfl)
              try simp only [Act.put, List.setIfInBounds_toArray, List.set_cons_zero, List.set_cons_succ]
              refine takeD13 (i := 2) (v := ?vt22) (d := some 23) rfl rfl (by kernel_rfl) (by kernel_rfl) (by kernel_rfl) (fun _ _ _ h => h) (Or.inl ⟨by rfl, ?ht22⟩) (by assumption) ?rt22
              case ht22 => intro w hSw; obtain ⟨_, x0, x1, x2, x3, y0, y1, y2, y3⟩ := hSw; go_simp; try (with_reducible rfl)
              try simp only [Act.put, List.setIfInBounds_toArray, List.set_cons_zero, List.set_cons_succ]
              refine takeD13 (i := 3) (v := ?vt23) (d := some 24) rfl rfl (by kernel_rfl) (by kernel_rfl) (by kernel_rfl) (fun _ _ _ h => h) (Or.inl ⟨by rfl, ?ht23⟩) (by assumption) ?rt23
              case ht23 => intro w hSw; obtain ⟨_, x0, x1, x2, x3, y0, y1, y2, y3⟩ := hSw; go_simp; try (with_reducible rfl)
              try simp only [Act.put, List.setIfInBounds_toArray, List.set_cons_zero, List.set_cons_succ]
              refine takeD13 (i := 4) (v := ?vt24) (d := some 25) rfl rfl (by kernel_rfl) (by kernel_rfl) (by kernel_rfl) (fun _ _ _ h => h) (Or.inl ⟨by rfl, ?ht24⟩) (by assumption) ?rt24
              case ht24 => intro w hSw; obtain ⟨_, x0, x1, x2, x3, y0, y1, y2, y3⟩ := hSw; go_simp; try (with_reducible rfl)
              try simp only [Act.put, List.setIfInBounds_toArray, List.set_cons_zero, List.set_cons_succ]
              refine takeD13 (i := 5) (v := ?vt25) (d := some 26) rfl rfl (by kernel_rfl) (by kernel_rfl) (by kernel_rfl) (fun _ _ _ h => h) (Or.inl ⟨by rfl, ?ht25⟩) (by assumption) ?rt25
              case ht25 => intro w hSw; obtain ⟨_, x0, x1, x2, x3, y0, y1, y2, y3⟩ := hSw; go_simp; try (with_reducible rfl)
              try simp only [Act.put, List.setIfInBounds_toArray, List.set_cons_zero, List.set_cons_succ]
              refine takeD13 (i := 6) (v := ?vt26) (d := some 27) rfl rfl (by kernel_rfl) (by kernel_rfl) (by kernel_rfl) (fun _ _ _ h => h) (Or.inl ⟨by rfl, ?ht26⟩) (by assumption) ?rt26
              case ht26 => intro w hSw; obtain ⟨_, x0, x1, x2, x3, y0, y1, y2, y3⟩ := hSw; go_simp; try (with_reducible rfl)
              try simp only [Act.put, List.setIfInBounds_toArray, List.set_cons_zero, List.set_cons_succ]
              refine takeD13 (i := 7) (v := ?vt27) (d := some 28) rfl rfl (by kernel_rfl) (by kernel_rfl) (by kernel_rfl) (fun _ _ _ h => h) (Or.inl ⟨by rfl, ?ht27⟩) (by assumption) ?rt27
              case ht27 => intro w hSw; obtain ⟨_, x0, x1, x2, x3, y0, y1, y2, y3⟩ := hSw; go_simp; try (with_reducible rfl)
              try simp only [Act.put, List.setIfInBounds_toArray, List.set_cons_zero, List.set_cons_succ]
              refine wpAnyH_ready (rs := [8]) (by kernel_rfl) (by simp) ?_
              refine AllReadyH.cons rfl (fun K hK => ?_) AllReadyH.nil
              go_simp
              go_at_call 16
              refine (aheadR x y true _ HR.out).mono ?_
              rintro e wq ⟨rfl, hx⟩
              have hbx := bthen hHeld.below hx
              have hHq := HDS.out _ hbx
              clear hHeld hx
              refine hK.out _ _ hHq (fun hHeld => ?_)
              clear hK K
              try simp only [Act.put, List.setIfInBounds_toArray, List.set_cons_zero, List.set_cons_succ]
              refine takeD13 (i := 9) (v := ?vt29) (d := some 30) rfl rfl (by kernel_rfl) (by kernel_rfl) (by kernel_rfl) (fun _ _ _ h => h) (Or.inl ⟨by rfl, ?ht29⟩) (by assumption) ?rt29
              case ht29 => intro w hSw; obtain ⟨_, x0, x1, x2, x3, y0, y1, y2, y3⟩ := hSw; go_simp; try (with_reducible rfl)
              try simp only [Act.put, List.setIfInBounds_toArray, List.set_cons_zero, List.set_cons_succ]
              refine wpAnyH_done (by kernel_rfl) ?_ _
              obtain ⟨hbq, z0, z1, z2, z3, y0, y1, y2, y3⟩ := hHq
              have HOQ := Lib.hid (HO.out.keep hbq)
              have hbw := bthen hb hbq
              have hsz := hbw.size
              have hwq : wr.heap.size ≤ wq.heap.size := hbq.size
              have HKY := Lib.hid (fun w' (h : Below w1.heap.size wq w') => show (w'.cell? ⟨b, o + k * 4, none⟩ = some (.string (sB y.host)) ∧ w'.cell? ⟨b, o + k * 4 + 1, none⟩ = some (.int .i64 y.kind)) ∧ w'.cell? ⟨b, o + k * 4 + 2, none⟩ = some (.string (sB y.key)) ∧ w'.cell? ⟨b, o + k * 4 + 3, none⟩ = some (.string (sB y.val)) from
                ⟨⟨(h.cell (p := ⟨b, o + k * 4, none⟩) hwb).trans y0, (h.cell (p := ⟨b, o + k * 4 + 1, none⟩) hwb).trans y1⟩, (h.cell (p := ⟨b, o + k * 4 + 2, none⟩) hwb).trans y2, (h.cell (p := ⟨b, o + k * 4 + 3, none⟩) hwb).trans y3⟩)
              go_wp2_with (first | (at_builtin; refine wpList_appG eEd _ rfl (.tmp 31) (.tmp 33) rfl w1.heap.size u5 so rfl HOQ.out x 1 _ rfl _ rfl rfl (by have := HLS.out; omega) hsz ?_; intro v5 w5 hown5 hb5; obtain ⟨⟨r0, r1⟩, r2, r3⟩ := HKY.out _ hb5; have hsz5 := Nat.le_trans hsz hb5.size; have HO5 := Lib.hid hown5; have hl5 : (so ++ [x]).length + 1 ≤ 1099511627776 := (by have := HLS.out; simp; omega)) | (at_builtin; refine wpList_appG eEd _ rfl (.tmp 35) (.tmp 40) rfl w1.heap.size v5 (so ++ [x]) rfl HO5.out y 1 _ rfl _ rfl rfl hl5 hsz5 ?_; intro v6 w6 hown6 hb6))
              go_roundg (n - (k + 1))
              case rel => exact ⟨k + 1, (so ++ [x] ++ [y], true), (by show _ = _; omega), by omega, by go_num, Lib.hid (HFS.out.trans HST.out), rfl, Lib.hid hown6, HNX, (hbw.trans hb5).trans hb6⟩
              case measure => omega
            | false =>
              have HR := Lib.hid hr
              have HST := Lib.hid (show H.stepE x (so, false) y = (so ++ [y], false) from if_neg (fun h => by rw [hr] at h; cases h.2))
              clear hr
              go_wp2
              go_region
              go_wp2
              refine wp_region_held_drew (S := fun w' => TwoE wr w' g x b o k y) (by kernel_rfl) (HDS.out _ ((Below.refl _ _).drew.drew)) (fun hHeld => ?_)
              refine takeD13 (i := 0) (v := ?vf20) (d := some 21) rfl rfl (by kernel_rfl) (by kernel_rfl) (by kernel_rfl) (fun _ _ _ h => h) (Or.inl ⟨by rfl, ?hf20⟩) (by assumption) ?rf20
              case hf20 => intro w hSw; obtain ⟨_, x0, x1, x2, x3, y0, y1, y2, y3⟩ := hSw; go_simp; try (with_reducible rfl)
              try simp only [Act.put, List.setIfInBounds_toArray, List.set_cons_zero, List.set_cons_succ]
              refine takeD13 (i := 1) (v := ?vf21) (d := some 22) rfl rfl (by kernel_rfl) (by kernel_rfl) (by kernel_rfl) (fun _ _ _ h => h) (Or.inl ⟨by rfl, ?hf21⟩) (by assumption) ?rf21
              case hf21 => intro w hSw; obtain ⟨_, x0, x1, x2, x3, y0, y1, y2, y3⟩ := hSw; go_simp; try (with_reducible rfl)
              try simp only [Act.put, List.setIfInBounds_toArray, List.set_cons_zero, List.set_cons_succ]
              refine takeD13 (i := 2) (v := ?vf22) (d := some 23) rfl rfl (by kernel_rfl) (by kernel_rfl) (by kernel_rfl) (fun _ _ _ h => h) (Or.inl ⟨by rfl, ?hf22⟩) (by assumption) ?rf22
              case hf22 => intro w hSw; obtain ⟨_, x0, x1, x2, x3, y0, y1, y2, y3⟩ := hSw; go_simp; try (with_reducible rfl)
              try simp only [Act.put, List.setIfInBounds_toArray, List.set_cons_zero, List.set_cons_succ]
              refine takeD13 (i := 3) (v := ?vf23) (d := some 24) rfl rfl (by kernel_rfl) (by kernel_rfl) (by kernel_rfl) (fun _ _ _ h => h) (Or.inl ⟨by rfl, ?hf23⟩) (by assumption) ?rf23
              case hf23 => intro w hSw; obtain ⟨_, x0, x1, x2, x3, y0, y1, y2, y3⟩ := hSw; go_simp; try (with_reducible rfl)
              try simp only [Act.put, List.setIfInBounds_toArray, List.set_cons_zero, List.set_cons_succ]
              refine takeD13 (i := 4) (v := ?vf24) (d := some 25) rfl rfl (by kernel_rfl) (by kernel_rfl) (by kernel_rfl) (fun _ _ _ h => h) (Or.inl ⟨by rfl, ?hf24⟩) (by assumption) ?rf24
              case hf24 => intro w hSw; obtain ⟨_, x0, x1, x2, x3, y0, y1, y2, y3⟩ := hSw; go_simp; try (with_reducible rfl)
              try simp only [Act.put, List.setIfInBounds_toArray, List.set_cons_zero, List.set_cons_succ]
              refine takeD13 (i := 5) (v := ?vf25) (d := some 26) rfl rfl (by kernel_rfl) (by kernel_rfl) (by kernel_rfl) (fun _ _ _ h => h) (Or.inl ⟨by rfl, ?hf25⟩) (by assumption) ?rf25
              case hf25 => intro w hSw; obtain ⟨_, x0, x1, x2, x3, y0, y1, y2, y3⟩ := hSw; go_simp; try (with_reducible rfl)
              try simp only [Act.put, List.setIfInBounds_toArray, List.set_cons_zero, List.set_cons_succ]
              refine takeD13 (i := 6) (v := ?vf26) (d := some 27) rfl rfl (by kernel_rfl) (by kernel_rfl) (by kernel_rfl) (fun _ _ _ h => h) (Or.inl ⟨by rfl, ?hf26⟩) (by assumption) ?rf26
              case hf26 => intro w hSw; obtain ⟨_, x0, x1, x2, x3, y0, y1, y2, y3⟩ := hSw; go_simp; try (with_reducible rfl)
              try simp only [Act.put, List.setIfInBounds_toArray, List.set_cons_zero, List.set_cons_succ]
              refine takeD13 (i := 7) (v := ?vf27) (d := some 28) rfl rfl (by kernel_rfl) (by kernel_rfl) (by kernel_rfl) (fun _ _ _ h => h) (Or.inl ⟨by rfl, ?hf27⟩) (by assumption) ?rf27
              case hf27 => intro w hSw; obtain ⟨_, x0, x1, x2, x3, y0, y1, y2, y3⟩ := hSw; go_simp; try (with_reducible rfl)
              try simp only [Act.put, List.setIfInBounds_toArray, List.set_cons_zero, List.set_cons_succ]
              refine wpAnyH_ready (rs := [8]) (by kernel_rfl) (by simp) ?_
              refine AllReadyH.cons rfl (fun K hK => ?_) AllReadyH.nil
              go_simp
              go_at_call 16
              refine (aheadR x y false _ HR.out).mono ?_
              rintro e wq ⟨rfl, hx⟩
              have hbx := bthen hHeld.below hx
              have hHq := HDS.out _ hbx
              clear hHeld hx
              refine hK.out _ _ hHq (fun hHeld => ?_)
              clear hK K
              try simp only [Act.put, List.setIfInBounds_toArray, List.set_cons_zero, List.set_cons_succ]
              refine takeD13 (i := 9) (v := ?vf29) (d := some 30) rfl rfl (by kernel_rfl) (by kernel_rfl) (by kernel_rfl) (fun _ _ _ h => h) (Or.inl ⟨by rfl, ?hf29⟩) (by assumption) ?rf29
              case hf29 => intro w hSw; obtain ⟨_, x0, x1, x2, x3, y0, y1, y2, y3⟩ := hSw; go_simp; try (with_reducible rfl)
              try simp only [Act.put, List.setIfInBounds_toArray, List.set_cons_zero, List.set_cons_succ]
              refine wpAnyH_done (by kernel_rfl) ?_ _
              obtain ⟨hbq, z0, z1, z2, z3, y0, y1, y2, y3⟩ := hHq
              have HOQ := Lib.hid (HO.out.keep hbq)
              have hbw := bthen hb hbq
              have hsz := hbw.size
              go_wp2_with (at_builtin; refine wpList_appG eEd _ rfl (.tmp 35) (.tmp 40) rfl w1.heap.size u5 so rfl HOQ.out y 1 _ rfl _ rfl rfl (by have := HLS.out; omega) hsz ?_; intro v5 w5 hown5 hb5)
              go_roundg (n - (k + 1))
              case rel => exact ⟨k + 1, (so ++ [y], false), (by show _ = _; omega), by omega, by go_num, Lib.hid (HFS.out.trans HST.out), rfl, Lib.hid hown5, HNX, hbw.trans hb5⟩
              case measure => omega
        · have n0 := sB_eq j0
          have n1 : (y.kind == x.kind) = true := beq_iff_eq.2 j1
          have n2 := sB_eq j2
          have n3 := sB_ne j
          clear he j j0 j1 j2
          cases sd with
          | true =>
            have HST := Lib.hid (show H.stepE x (so, true) y = (so ++ [y], true) from if_neg (fun h => by cases h.1))
            go_wp2
            go_region
            go_wp2
            refine wp_region_held_drew (S := fun w' => TwoE wr w' g x b o k y) (by kernel_rfl) (HDS.out _ ((Below.refl _ _).drew.drew)) (fun hHeld => ?_)
            refine takeD13 (i := 0) (v := ?vd30) (d := some 21) rfl rfl (by kernel_rfl) (by kernel_rfl) (by kernel_rfl) (fun _ _ _ h => h) (Or.inl ⟨by rfl, ?hd30⟩) (by assumption) ?rd30
            case hd30 => intro w hSw; obtain ⟨_, x0, x1, x2, x3, y0, y1, y2, y3⟩ := hSw; go_simp; try (with_reducible rfl)
            try simp only [Act.put, List.setIfInBounds_toArray, List.set_cons_zero, List.set_cons_succ]
            refine takeD13 (i := 1) (v := ?vd31) (d := some 22) rfl rfl (by kernel_rfl) (by kernel_rfl) (by kernel_rfl) (fun _ _ _ h => h) (Or.inl ⟨by rfl, ?hd31⟩) (by assumption) ?rd31
            case hd31 => intro w hSw; obtain ⟨_, x0, x1, x2, x3, y0, y1, y2, y3⟩ := hSw; go_simp; try (with_reducible rfl)
            try simp only [Act.put, List.setIfInBounds_toArray, List.set_cons_zero, List.set_cons_succ]
            refine takeD13 (i := 2) (v := ?vd32) (d := some 23) rfl rfl (by kernel_rfl) (by kernel_rfl) (by kernel_rfl) (fun _ _ _ h => h) (Or.inl ⟨by rfl, ?hd32⟩) (by assumption) ?rd32
            case hd32 => intro w hSw; obtain ⟨_, x0, x1, x2, x3, y0, y1, y2, y3⟩ := hSw; go_simp; try (with_reducible rfl)
            try simp only [Act.put, List.setIfInBounds_toArray, List.set_cons_zero, List.set_cons_succ]
            refine takeD13 (i := 3) (v := undef) (d := some 24) rfl rfl (by kernel_rfl) (by kernel_rfl) (by kernel_rfl) (fun _ _ _ h => h) (Or.inr ⟨by rfl, rfl⟩) (by assumption) ?rd33
            try simp only [Act.put, List.setIfInBounds_toArray, List.set_cons_zero, List.set_cons_succ]
            refine takeD13 (i := 4) (v := undef) (d := some 25) rfl rfl (by kernel_rfl) (by kernel_rfl) (by kernel_rfl) (fun _ _ _ h => h) (Or.inr ⟨by rfl, rfl⟩) (by assumption) ?rd34
            try simp only [Act.put, List.setIfInBounds_toArray, List.set_cons_zero, List.set_cons_succ]
            refine takeD13 (i := 5) (v := undef) (d := some 26) rfl rfl (by kernel_rfl) (by kernel_rfl) (by kernel_rfl) (fun _ _ _ h => h) (Or.inr ⟨by rfl, rfl⟩) (by assumption) ?rd35
            try simp only [Act.put, List.setIfInBounds_toArray, List.set_cons_zero, List.set_cons_succ]
            refine takeD13 (i := 6) (v := undef) (d := some 27) rfl rfl (by kernel_rfl) (by kernel_rfl) (by kernel_rfl) (fun _ _ _ h => h) (Or.inr ⟨by rfl, rfl⟩) (by assumption) ?rd36
            try simp only [Act.put, List.setIfInBounds_toArray, List.set_cons_zero, List.set_cons_succ]
            refine takeD13 (i := 7) (v := undef) (d := some 28) rfl rfl (by kernel_rfl) (by kernel_rfl) (by kernel_rfl) (fun _ _ _ h => h) (Or.inr ⟨by rfl, rfl⟩) (by assumption) ?rd37
            try simp only [Act.put, List.setIfInBounds_toArray, List.set_cons_zero, List.set_cons_succ]
            refine takeD13 (i := 8) (v := undef) (d := some 29) rfl rfl (by kernel_rfl) (by kernel_rfl) (by kernel_rfl) (fun _ _ _ h => h) (Or.inr ⟨by rfl, rfl⟩) (by assumption) ?rd38
            try simp only [Act.put, List.setIfInBounds_toArray, List.set_cons_zero, List.set_cons_succ]
            refine takeD13 (i := 9) (v := ?vd39) (d := some 30) rfl rfl (by kernel_rfl) (by kernel_rfl) (by kernel_rfl) (fun _ _ _ h => h) (Or.inl ⟨by rfl, ?hd39⟩) (by assumption) ?rd39
            case hd39 => intro w hSw; obtain ⟨_, x0, x1, x2, x3, y0, y1, y2, y3⟩ := hSw; go_simp; try (with_reducible rfl)
            try simp only [Act.put, List.setIfInBounds_toArray, List.set_cons_zero, List.set_cons_succ]
            refine wpAnyH_done (by kernel_rfl) ?_ _
            obtain ⟨hbq, z0, z1, z2, z3, y0, y1, y2, y3⟩ := hHeld
            have hsz := hb.size
            go_wp2_with (at_builtin; refine wpList_appG eEd (wr.drew.drew) rfl (.tmp 35) (.tmp 40) rfl w1.heap.size u5 so rfl HO.out y 1 _ rfl _ rfl rfl (by have := HLS.out; omega) hsz ?_; intro v5 w5 hown5 hb5)
            go_roundg (n - (k + 1))
            case rel => exact ⟨k + 1, (so ++ [y], true), (by show _ = _; omega), by omega, by go_num, Lib.hid (HFS.out.trans HST.out), rfl, Lib.hid hown5, HNX, hb.drew.drew.trans hb5⟩
            case measure => omega
          | false =>
            obtain ⟨r, hr⟩ : ∃ r, H.aheadE x y = r := ⟨_, rfl⟩
            cases r with
            | true =>
              have HR := Lib.hid hr
              have HST := Lib.hid (show H.stepE x (so, false) y = (so ++ [x] ++ [y], true) from if_pos ⟨rfl, hr⟩)
              clear hr
              go_wp2
              go_region
              go_wp2
              refine wp_region_held_drew (S := fun w' => TwoE wr w' g x b o k y) (by kernel_rfl) (HDS.out _ ((Below.refl _ _).drew.drew)) (fun hHeld => ?_)
              refine takeD13 (i := 0) (v := ?vt30) (d := some 21) rfl rfl (by kernel_rfl) (by kernel_rfl) (by kernel_rfl) (fun _ _ _ h => h) (Or.inl ⟨by rfl, ?ht30⟩) (by assumption) ?rt30
              case ht30 => intro w hSw; obtain ⟨_, x0, x1, x2, x3, y0, y1, y2, y3⟩ := hSw; go_simp; try (with_reducible rfl)
              try simp only [Act.put, List.setIfInBounds_toArray, List.set_cons_zero, List.set_cons_succ]
              refine takeD13 (i := 1) (v := ?vt31) (d := some 22) rfl rfl (by kernel_rfl) (by kernel_rfl) (by kernel_rfl) (fun _ _ _ h => h) (Or.inl ⟨by rfl, ?ht31⟩) (by assumption) ?rt31
              case ht31 => intro w hSw; obtain ⟨_, x0, x1, x2, x3, y0, y1, y2, y3⟩ := hSw; go_simp; try (with_reducible rfl)
              try simp only [Act.put, List.setIfInBounds_toArray, List.set_cons_zero, List.set_cons_succ]
              refine takeD13 (i := 2) (v := ?vt32) (d := some 23) rfl rfl (by kernel_rfl) (by kernel_rfl) (by kernel_rfl) (fun _ _ _ h => h) (Or.inl ⟨by rfl, ?ht32⟩) (by assumption) ?rt32
              case ht32 => intro w hSw; obtain ⟨_, x0, x1, x2, x3, y0, y1, y2, y3⟩ := hSw; go_simp; try (with_reducible rfl)
              try simp only [Act.put, List.setIfInBounds_toArray, List.set_cons_zero, List.set_cons_succ]
              refine takeD13 (i := 3) (v := ?vt33) (d := some 24) rfl rfl (by kernel_rfl) (by kernel_rfl) (by kernel_rfl) (fun _ _ _ h => h) (Or.inl ⟨by rfl, ?ht33⟩) (by assumption) ?rt33
              case ht33 => intro w hSw; obtain ⟨_, x0, x1, x2, x3, y0, y1, y2, y3⟩ := hSw; go_simp; try (with_reducible rfl)
              try simp only [Act.put, List.setIfInBounds_toArray, List.set_cons_zero, List.set_cons_succ]
              refine takeD13 (i := 4) (v := ?vt34) (d := some 25) rfl rfl (by kernel_rfl) (by kernel_rfl) (by kernel_rfl) (fun _ _ _ h => h) (Or.inl ⟨by rfl, ?ht34⟩) (by assumption) ?rt34
              case ht34 => intro w hSw; obtain ⟨_, x0, x1, x2, x3, y0, y1, y2, y3⟩ := hSw; go_simp; try (with_reducible rfl)
              try simp only [Act.put, List.setIfInBounds_toArray, List.set_cons_zero, List.set_cons_succ]
              refine takeD13 (i := 5) (v := ?vt35) (d := some 26) rfl rfl (by kernel_rfl) (by kernel_rfl) (by kernel_rfl) (fun _ _ _ h => h) (Or.inl ⟨by rfl, ?ht35⟩) (by assumption) ?rt35
              case ht35 => intro w hSw; obtain ⟨_, x0, x1, x2, x3, y0, y1, y2, y3⟩ := hSw; go_simp; try (with_reducible rfl)
              try simp only [Act.put, List.setIfInBounds_toArray, List.set_cons_zero, List.set_cons_succ]
              refine takeD13 (i := 6) (v := ?vt36) (d := some 27) rfl rfl (by kernel_rfl) (by kernel_rfl) (by kernel_rfl) (fun _ _ _ h => h) (Or.inl ⟨by rfl, ?ht36⟩) (by assumption) ?rt36
              case ht36 => intro w hSw; obtain ⟨_, x0, x1, x2, x3, y0, y1, y2, y3⟩ := hSw; go_simp; try (with_reducible rfl)
              try simp only [Act.put, List.setIfInBounds_toArray, List.set_cons_zero, List.set_cons_succ]
              refine takeD13 (i := 7) (v := ?vt37) (d := some 28) rfl rfl (by kernel_rfl) (by kernel_rfl) (by kernel_rfl) (fun _ _ _ h => h) (Or.inl ⟨by rfl, ?ht37⟩) (by assumption) ?rt37
              case ht37 => intro w hSw; obtain ⟨_, x0, x1, x2, x3, y0, y1, y2, y3⟩ := hSw; go_simp; try (with_reducible rfl)
              try simp only [Act.put, List.setIfInBounds_toArray, List.set_cons_zero, List.set_cons_succ]
              refine wpAnyH_ready (rs := [8]) (by kernel_rfl) (by simp) ?_
              refine AllReadyH.cons rfl (fun K hK => ?_) AllReadyH.nil
              go_simp
              go_at_call 16
              refine (aheadR x y true _ HR.out).mono ?_
              rintro e wq ⟨rfl, hx⟩
              have hbx := bthen hHeld.below hx
              have hHq := HDS.out _ hbx
              clear hHeld hx
              refine hK.out _ _ hHq (fun hHeld => ?_)
              clear hK K
              try simp only [Act.put, List.setIfInBounds_toArray, List.set_cons_zero, List.set_cons_succ]
              refine takeD13 (i := 9) (v := ?vt39) (d := some 30) rfl rfl (by kernel_rfl) (by kernel_rfl) (by kernel_rfl) (fun _ _ _ h => h) (Or.inl ⟨by rfl, ?ht39⟩) (by assumption) ?rt39
              case ht39 => intro w hSw; obtain ⟨_, x0, x1, x2, x3, y0, y1, y2, y3⟩ := hSw; go_simp; try (with_reducible rfl)
              try simp only [Act.put, List.setIfInBounds_toArray, List.set_cons_zero, List.set_cons_succ]
              refine wpAnyH_done (by kernel_rfl) ?_ _
              obtain ⟨hbq, z0, z1, z2, z3, y0, y1, y2, y3⟩ := hHq
              have HOQ := Lib.hid (HO.out.keep hbq)
              have hbw := bthen hb hbq
              have hsz := hbw.size
              have hwq : wr.heap.size ≤ wq.heap.size := hbq.size
              have HKY := Lib.hid (fun w' (h : Below w1.heap.size wq w') => show (w'.cell? ⟨b, o + k * 4, none⟩ = some (.string (sB y.host)) ∧ w'.cell? ⟨b, o + k * 4 + 1, none⟩ = some (.int .i64 y.kind)) ∧ w'.cell? ⟨b, o + k * 4 + 2, none⟩ = some (.string (sB y.key)) ∧ w'.cell? ⟨b, o + k * 4 + 3, none⟩ = some (.string (sB y.val)) from
                ⟨⟨(h.cell (p := ⟨b, o + k * 4, none⟩) hwb).trans y0, (h.cell (p := ⟨b, o + k * 4 + 1, none⟩) hwb).trans y1⟩, (h.cell (p := ⟨b, o + k * 4 + 2, none⟩) hwb).trans y2, (h.cell (p := ⟨b, o + k * 4 + 3, none⟩) hwb).trans y3⟩)
              go_wp2_with (first | (at_builtin; refine wpList_appG eEd _ rfl (.tmp 31) (.tmp 33) rfl w1.heap.size u5 so rfl HOQ.out x 1 _ rfl _ rfl rfl (by have := HLS.out; omega) hsz ?_; intro v5 w5 hown5 hb5; obtain ⟨⟨r0, r1⟩, r2, r3⟩ := HKY.out _ hb5; have hsz5 := Nat.le_trans hsz hb5.size; have HO5 := Lib.hid hown5; have hl5 : (so ++ [x]).length + 1 ≤ 1099511627776 := (by have := HLS.out; simp; omega)) | (at_builtin; refine wpList_appG eEd _ rfl (.tmp 35) (.tmp 40) rfl w1.heap.size v5 (so ++ [x]) rfl HO5.out y 1 _ rfl _ rfl rfl hl5 hsz5 ?_; intro v6 w6 hown6 hb6))
              go_roundg (n - (k + 1))
              case rel => exact ⟨k + 1, (so ++ [x] ++ [y], true), (by show _ = _; omega), by omega, by go_num, Lib.hid (HFS.out.trans HST.out), rfl, Lib.hid hown6, HNX, (hbw.trans hb5).trans hb6⟩
              case measure => omega
            | false =>
              have HR := Lib.hid hr
              have HST := Lib.hid (show H.stepE x (so, false) y = (so ++ [y], false) from if_neg (fun h => by rw [hr] at h; cases h.2))
              clear hr
              go_wp2
              go_region
              go_wp2
              refine wp_region_held_drew (S := fun w' => TwoE wr w' g x b o k y) (by kernel_rfl) (HDS.out _ ((Below.refl _ _).drew.drew)) (fun hHeld => ?_)
              refine takeD13 (i := 0) (v := ?vf30) (d := some 21) rfl rfl (by kernel_rfl) (by kernel_rfl) (by kernel_rfl) (fun _ _ _ h => h) (Or.inl ⟨by rfl, ?hf30⟩) (by assumption) ?rf30
              case hf30 => intro w hSw; obtain ⟨_, x0, x1, x2, x3, y0, y1, y2, y3⟩ := hSw; go_simp; try (with_reducible rfl)
              try simp only [Act.put, List.setIfInBounds_toArray, List.set_cons_zero, List.set_cons_succ]
              refine takeD13 (i := 1) (v := ?vf31) (d := some 22) rfl rfl (by kernel_rfl) (by kernel_rfl) (by kernel_rfl) (fun _ _ _ h => h) (Or.inl ⟨by rfl, ?hf31⟩) (by assumption) ?rf31
              case hf31 => intro w hSw; obtain ⟨_, x0, x1, x2, x3, y0, y1, y2, y3⟩ := hSw; go_simp; try (with_reducible rfl)
              try simp only [Act.put, List.setIfInBounds_toArray, List.set_cons_zero, List.set_cons_succ]
              refine takeD13 (i := 2) (v := ?vf32) (d := some 23) rfl rfl (by kernel_rfl) (by kernel_rfl) (by kernel_rfl) (fun _ _ _ h => h) (Or.inl ⟨by rfl, ?hf32⟩) (by assumption) ?rf32
              case hf32 => intro w hSw; obtain ⟨_, x0, x1, x2, x3, y0, y1, y2, y3⟩ := hSw; go_simp; try (with_reducible rfl)
              try simp only [Act.put, List.setIfInBounds_toArray, List.set_cons_zero, List.set_cons_succ]
              refine takeD13 (i := 3) (v := ?vf33) (d := some 24) rfl rfl (by kernel_rfl) (by kernel_rfl) (by kernel_rfl) (fun _ _ _ h => h) (Or.inl ⟨by rfl, ?hf33⟩) (by assumption) ?rf33
              case hf33 => intro w hSw; obtain ⟨_, x0, x1, x2, x3, y0, y1, y2, y3⟩ := hSw; go_simp; try (with_reducible rfl)
              try simp only [Act.put, List.setIfInBounds_toArray, List.set_cons_zero, List.set_cons_succ]
              refine takeD13 (i := 4) (v := ?vf34) (d := some 25) rfl rfl (by kernel_rfl) (by kernel_rfl) (by kernel_rfl) (fun _ _ _ h => h) (Or.inl ⟨by rfl, ?hf34⟩) (by assumption) ?rf34
              case hf34 => intro w hSw; obtain ⟨_, x0, x1, x2, x3, y0, y1, y2, y3⟩ := hSw; go_simp; try (with_reducible rfl)
              try simp only [Act.put, List.setIfInBounds_toArray, List.set_cons_zero, List.set_cons_succ]
              refine takeD13 (i := 5) (v := ?vf35) (d := some 26) rfl rfl (by kernel_rfl) (by kernel_rfl) (by kernel_rfl) (fun _ _ _ h => h) (Or.inl ⟨by rfl, ?hf35⟩) (by assumption) ?rf35
              case hf35 => intro w hSw; obtain ⟨_, x0, x1, x2, x3, y0, y1, y2, y3⟩ := hSw; go_simp; try (with_reducible rfl)
              try simp only [Act.put, List.setIfInBounds_toArray, List.set_cons_zero, List.set_cons_succ]
              refine takeD13 (i := 6) (v := ?vf36) (d := some 27) rfl rfl (by kernel_rfl) (by kernel_rfl) (by kernel_rfl) (fun _ _ _ h => h) (Or.inl ⟨by rfl, ?hf36⟩) (by assumption) ?rf36
              case hf36 => intro w hSw; obtain ⟨_, x0, x1, x2, x3, y0, y1, y2, y3⟩ := hSw; go_simp; try (with_reducible rfl)
              try simp only [Act.put, List.setIfInBounds_toArray, List.set_cons_zero, List.set_cons_succ]
              refine takeD13 (i := 7) (v := ?vf37) (d := some 28) rfl rfl (by kernel_rfl) (by kernel_rfl) (by kernel_rfl) (fun _ _ _ h => h) (Or.inl ⟨by rfl, ?hf37⟩) (by assumption) ?rf37
              case hf37 => intro w hSw; obtain ⟨_, x0, x1, x2, x3, y0, y1, y2, y3⟩ := hSw; go_simp; try (with_reducible rfl)
              try simp only [Act.put, List.setIfInBounds_toArray, List.set_cons_zero, List.set_cons_succ]
              refine wpAnyH_ready (rs := [8]) (by kernel_rfl) (by simp) ?_
              refine AllReadyH.cons rfl (fun K hK => ?_) AllReadyH.nil
              go_simp
              go_at_call 16
              refine (aheadR x y false _ HR.out).mono ?_
              rintro e wq ⟨rfl, hx⟩
              have hbx := bthen hHeld.below hx
              have hHq := HDS.out _ hbx
              clear hHeld hx
              refine hK.out _ _ hHq (fun hHeld => ?_)
              clear hK K
              try simp only [Act.put, List.setIfInBounds_toArray, List.set_cons_zero, List.set_cons_succ]
              refine takeD13 (i := 9) (v := ?vf39) (d := some 30) rfl rfl (by kernel_rfl) (by kernel_rfl) (by kernel_rfl) (fun _ _ _ h => h) (Or.inl ⟨by rfl, ?hf39⟩) (by assumption) ?rf39
              case hf39 => intro w hSw; obtain ⟨_, x0, x1, x2, x3, y0, y1, y2, y3⟩ := hSw; go_simp; try (with_reducible rfl)
              try simp only [Act.put, List.setIfInBounds_toArray, List.set_cons_zero, List.set_cons_succ]
              refine wpAnyH_done (by kernel_rfl) ?_ _
              obtain ⟨hbq, z0, z1, z2, z3, y0, y1, y2, y3⟩ := hHq
              have HOQ := Lib.hid (HO.out.keep hbq)
              have hbw := bthen hb hbq
              have hsz := hbw.size
              go_wp2_with (at_builtin; refine wpList_appG eEd _ rfl (.tmp 35) (.tmp 40) rfl w1.heap.size u5 so rfl HOQ.out y 1 _ rfl _ rfl rfl (by have := HLS.out; omega) hsz ?_; intro v5 w5 hown5 hb5)
              go_roundg (n - (k + 1))
              case rel => exact ⟨k + 1, (so ++ [y], false), (by show _ = _; omega), by omega, by go_num, Lib.hid (HFS.out.trans HST.out), rfl, Lib.hid hown5, HNX, hbw.trans hb5⟩
              case measure => omega
    · have blt : decide ((k : Int) < (n : Int)) = false := decide_eq_false (by omega)
      have blt2 : decide (k < n) = false := decide_eq_false hlt
      obtain rfl : n = k := by omega
      have HTK := Lib.hid (show l.take n = l from List.take_of_length_le (by have := HN.out; omega))
      have HPU := Lib.hid (show H.putE l x = H.finE x (so, sd) by
        have h1 := HNI.out
        have h2 := HF.out
        rw [HTK.out] at h1 h2
        unfold H.putE
        rw [if_neg h1, ← h2, H.fold_ins]
        rfl)
      have q0 := (hb.cell (p := ⟨g, 0, none⟩) hgw).trans p0
      have q1 := (hb.cell (p := ⟨g, 1, none⟩) hgw).trans p1
      have q2 := (hb.cell (p := ⟨g, 2, none⟩) hgw).trans p2
      have q3 := (hb.cell (p := ⟨g, 3, none⟩) hgw).trans p3
      have hsz := hb.size
      have HLS := Lib.hid (show so.length ≤ n + 1 by
        have h1 := H.fold_len x (l.take n) ([], false)
        rw [HF.out, List.length_take] at h1
        simp at h1
        omega)
      cases sd with
      | true =>
        have HPV := Lib.hid (show H.putE l x = so from HPU.out)
        obtain ⟨B, d, rfl, hd, hs⟩ := HO.out.seenN (show so.length = m by rw [← HPV.out]; exact HM.out)
        go_wp2
        go_ret
        exact ⟨B, d, rfl, hd, (by rw [HPV.out]; exact hs), bthen HB1.out hb⟩
      | false =>
        have HPV := Lib.hid (show H.putE l x = so ++ [x] from HPU.out)
        have HML := Lib.hid (show (so ++ [x]).length = m by rw [← HPV.out]; exact HM.out)
        go_wp2_with (at_builtin; refine wpList_appG eEd _ rfl (.tmp 44) (.tmp 46) rfl w1.heap.size u5 so rfl HO.out x 1 _ rfl _ rfl rfl (by have := HLS.out; omega) hsz ?_; intro v5 w5 hown5 hb5; obtain ⟨B, d, rfl, hd, hs⟩ := hown5.seenN HML.out)
        go_ret
        exact ⟨B, d, rfl, hd, (by rw [HPV.out]; exact hs), bthen HB1.out (hb.trans hb5)⟩
end Go.Proofs.YtfcikfohmehmkaaGreatDoor

namespace Go.Proofs.YtfcikfohmehmkaaGreatDoor.T
set_option linter.unusedVariables false
end Go.Proofs.YtfcikfohmehmkaaGreatDoor.T
namespace Go.Proofs.YtfcikfohmehmkaaGreatDoor
open Go.RowKit
set_option linter.unusedVariables false

/-- What a call has made: words. -/
def MadeS (w : World) (l : List (List UInt8)) (e : Ending) (w' : World) : Prop := ∃ A c, e = .returned (.slice A l.length c) ∧ l.length ≤ c ∧ Seen eS w' A l ∧ Below w.heap.size w w'
theorem kidsN12 (A : Option Addr) (c n : Nat) (t : List T.Ln) (i : Int) (w : World) (hn : t.length = n) (hA : Seen eL w A t) (hl : n ≤ 1073741824) :
    Calls Tryz.prog 42 #[.slice A n c, .int .i64 i] w (SawG eI w (T.kidsL t i)) := by subst hn; exact refKids_any A c t i w hA hl
theorem findN12 {N : Nat} (A B : Option Addr) (c d n m : Nat) (t : List T.Ln) (p : T.Pth) (w : World) (hn : t.length = n) (hm : p.length = m) (hA : Seen eL w A t) (hB : Seen eS w B p) (hl : n ≤ 1073741824) (hl2 : m ≤ 1073741824) (hR : T.RightN N t) :
    Calls Tryz.prog 23 #[.slice A n c, .slice B m d] w (fun e w' => ((∃ i : Nat, i < t.length ∧ T.pathL t i = p ∧ e = .returned (.int .i64 (i : Int))) ∨ ((∀ i, i < t.length → T.pathL t i ≠ p) ∧ e = .returned (.int .i64 (-1)))) ∧ Below w.heap.size w w') := by
  subst hn; subst hm; exact refFind_any A B c d t p w hA hB hl hl2 hR
/-- What is owned from a block on is owned from an elder one on. -/
theorem Own.lower {α : Type} {E : Elem α} {w : World} {base b2 : Nat} {v : Value} {l : List α} (h : Own E w base v l) (hb : b2 ≤ base) : Own E w b2 v l := by
  refine ⟨h.1, ?_⟩
  rcases h.2 with hn | ⟨g, cap, cur, e, hbg, rest⟩
  · exact .inl hn
  · exact .inr ⟨g, cap, cur, e, Nat.le_trans hb hbg, rest⟩
/-- A slice of the call's own. -/
def MadeO (w : World) (l : List (List UInt8)) (e : Ending) (w' : World) : Prop := ∃ v, e = .returned v ∧ Own eS w' w.heap.size v l ∧ Below w.heap.size w w'
set_option maxRecDepth 100000 in
set_option maxHeartbeats 4000000 in
theorem underO12 {N : Nat} (A : Option Addr) (c n : Nat) (t : List T.Ln) (B : Option Addr) (d m : Nat) (p : T.Pth) (w : World) (hn : t.length = n) (hm : p.length = m) (hA : Seen eL w A t) (hB : Seen eS w B p) (hl : n ≤ 1073741824) (hl2 : m ≤ 1073741824) (hR : T.RightN N t) :
    Calls Tryz.prog 20 #[.slice A n c, .slice B m d] w (MadeO w (T.underW t p)) := by
  have HA := Lib.hid hA
  have HN := Lib.hid hn
  have HR := Lib.hid hR
  have HM := Lib.hid hm
  have HKL := Lib.hid (show ∀ i, (T.kidsL t i).length ≤ n by intro i; rw [← hn]; exact T.filter_len t.length _)
  by_cases h0 : m = 0
  · have hp : p = [] := List.eq_nil_of_length_eq_zero (by omega)
    have b1 : decide ((0 : Int) < (m : Int)) = false := decide_eq_false (by omega)
    have b1b : decide (0 < m) = false := decide_eq_false (by omega)
    obtain ⟨K, hK⟩ : ∃ K, T.kidsL t (-1) = K := ⟨_, rfl⟩
    have HK := Lib.hid hK
    have HU := Lib.hid (show K.map (T.wd t) = T.underW t p by rw [← hK, hp, T.kids_words hR ⟨by omega, by omega⟩, T.pathI_none])
    have HIN := Lib.hid (show ∀ k ∈ K, k < n by intro k hk; rw [← hK] at hk; have := ((T.mem_kids t (-1) k).1 hk).1; omega)
    replace HKL := Lib.hid (show K.length ≤ n by rw [← hK]; exact HKL.out _)
    clear hA hB hn hm hR hK hl2 hp h0
    go_enter Tryz.func20, Tryz.ntmps20
    go_wp2_with fail
    refine (kidsN12 A c n t (-1) _ HN.out (HA.out) hl).mono ?_
    rintro e w2 ⟨A2, c2, rfl, hc2, hs2, hb2⟩
    rw [HK.out] at hc2 hs2 ⊢
    have HB2 := Lib.hid (hb2)
    have HS2 := Lib.hid hs2
    obtain ⟨nk, hnk⟩ : ∃ k, K.length = k := ⟨_, rfl⟩
    rw [hnk]
    have HNK := Lib.hid hnk
    have hnk2 : nk ≤ 1073741824 := by have := HKL.out; have := HNK.out; omega
    clear hc2 hs2 hb2 hnk
    go_wp2
    go_loopg [6, 8] nk (fun g vo vi wr => ∃ i : Nat, Hid (i + g = nk) ∧ vi = .int .i64 (i : Int) ∧ Hid (Own eS wr w2.heap.size vo ((K.take i).map (T.wd t))) ∧ Hid (Below w2.heap.size w2 wr))
    case atStart => exact ⟨0, Nat.zero_add _, rfl, Own.nil _ _, Below.refl _ _⟩
    case round =>
      obtain ⟨i, HG, rfl, HO, HBR⟩ := hrel
      have hgk := HG.out
      by_cases hlt : i < nk
      · have blt : decide ((i : Int) < (nk : Int)) = true := decide_eq_true (by omega)
        have blt2 : decide (i < nk) = true := decide_eq_true hlt
        have hiK : i < K.length := by rw [HNK.out]; exact hlt
        have hki : (i : Int) < (nk : Int) := by omega
        obtain ⟨q, hq⟩ : ∃ q, K[i] = q := ⟨_, rfl⟩
        have hqn : q < n := by rw [← hq]; exact HIN.out _ (List.getElem_mem hiK)
        have hqt : q < t.length := by rw [HN.out]; exact hqn
        have hqi : (q : Int) < (n : Int) := by omega
        obtain ⟨b3, o3, rfl, hw3, hL3⟩ := HS2.out (by omega)
        have c3 := (hL3.below HBR.out hw3).num hiK
        rw [hq] at c3
        obtain ⟨b4, o4, hA4, hw4, hL4⟩ := HA.out.lines (by rw [HN.out]; omega)
        subst hA4
        obtain ⟨_, c4, _⟩ := (hL4.below (HB2.out.trans (HBR.out.mono HB2.out.size)) hw4).line hqt
        have HNX := Lib.hid (show (K.take (i + 1)).map (T.wd t) = (K.take i).map (T.wd t) ++ [T.wd t q] by rw [List.take_succ_eq_append_getElem hiK, List.map_append, hq]; rfl)
        have HLN := Lib.hid (show ((K.take i).map (T.wd t)).length ≤ nk by rw [List.length_map, List.length_take]; omega)
        have hsz := HBR.out.size
        clear hq hqt hL3 hL4
        go_wp2_with (at_builtin; refine wpList_appG eS wr rfl (.tmp 26) (.tmp 35) rfl w2.heap.size u6 ((K.take i).map (T.wd t)) rfl HO.out (T.wd t q) 1 _ rfl wr.heap.size rfl rfl (by have := HLN.out; omega) hsz ?_; intro v5 w5 hown5 hb5)
        go_roundg (nk - (i + 1))
        case rel => exact ⟨i + 1, (by show _ = _; omega), by go_num, (by rw [HNX.out]; exact hown5), HBR.out.trans hb5⟩
        case measure => omega
      · have blt : decide ((i : Int) < (nk : Int)) = false := decide_eq_false (by omega)
        have blt2 : decide (i < nk) = false := decide_eq_false hlt
        have HE := Lib.hid (show (K.take i).map (T.wd t) = T.underW t p by rw [List.take_of_length_le (by rw [HNK.out]; omega)]; exact HU.out)
        obtain ⟨A6, c6, rfl, hc6, hs6⟩ := HO.out.seen
        rw [HE.out] at hc6 hs6 ⊢
        go_wp2
        go_ret
        exact ⟨_, rfl, (by have h := HO.out; rw [HE.out] at h; exact h.lower HB2.out.size), HB2.out.trans (HBR.out.mono HB2.out.size)⟩
  · have b1 : decide ((0 : Int) < (m : Int)) = true := decide_eq_true (by omega)
    have b1b : decide (0 < m) = true := decide_eq_true (by omega)
    have HB := Lib.hid hB
    clear hA hB hn hm hR
    go_enter Tryz.func20, Tryz.ntmps20
    go_wp2_with fail
    refine (findN12 A B c d n m t p _ HN.out HM.out HA.out HB.out hl hl2 HR.out).mono ?_
    rintro e w1 ⟨⟨i0, hi0, hp0, rfl⟩ | ⟨hno, rfl⟩, hb1⟩
    · have HB1 := Lib.hid hb1
      obtain ⟨K, hK⟩ : ∃ K, T.kidsL t (i0 : Int) = K := ⟨_, rfl⟩
      have HK := Lib.hid hK
      have HU := Lib.hid (show K.map (T.wd t) = T.underW t p by rw [← hK, T.kids_words HR.out ⟨by omega, by omega⟩, T.pathI_nat, hp0])
      have HIN := Lib.hid (show ∀ k ∈ K, k < n by intro k hk; rw [← hK] at hk; have := ((T.mem_kids t _ k).1 hk).1; have := HN.out; omega)
      replace HKL := Lib.hid (show K.length ≤ n by rw [← hK]; exact HKL.out _)
      clear hK hp0 hi0 hb1
      go_wp2_with fail
      refine (kidsN12 A c n t (i0 : Int) _ HN.out (HA.out.below HB1.out) hl).mono ?_
      rintro e w2 ⟨A2, c2, rfl, hc2, hs2, hb2⟩
      rw [HK.out] at hc2 hs2 ⊢
      have HB2 := Lib.hid (bthen HB1.out hb2)
      have HS2 := Lib.hid hs2
      obtain ⟨nk, hnk⟩ : ∃ k, K.length = k := ⟨_, rfl⟩
      rw [hnk]
      have HNK := Lib.hid hnk
      have hnk2 : nk ≤ 1073741824 := by have := HKL.out; have := HNK.out; omega
      clear hc2 hs2 hb2 hnk
      go_wp2
      go_loopg [6, 8] nk (fun g vo vi wr => ∃ i : Nat, Hid (i + g = nk) ∧ vi = .int .i64 (i : Int) ∧ Hid (Own eS wr w2.heap.size vo ((K.take i).map (T.wd t))) ∧ Hid (Below w2.heap.size w2 wr))
      case atStart => exact ⟨0, Nat.zero_add _, rfl, Own.nil _ _, Below.refl _ _⟩
      case round =>
        obtain ⟨i, HG, rfl, HO, HBR⟩ := hrel
        have hgk := HG.out
        by_cases hlt : i < nk
        · have blt : decide ((i : Int) < (nk : Int)) = true := decide_eq_true (by omega)
          have blt2 : decide (i < nk) = true := decide_eq_true hlt
          have hiK : i < K.length := by rw [HNK.out]; exact hlt
          have hki : (i : Int) < (nk : Int) := by omega
          obtain ⟨q, hq⟩ : ∃ q, K[i] = q := ⟨_, rfl⟩
          have hqn : q < n := by rw [← hq]; exact HIN.out _ (List.getElem_mem hiK)
          have hqt : q < t.length := by rw [HN.out]; exact hqn
          have hqi : (q : Int) < (n : Int) := by omega
          obtain ⟨b3, o3, rfl, hw3, hL3⟩ := HS2.out (by omega)
          have c3 := (hL3.below HBR.out hw3).num hiK
          rw [hq] at c3
          obtain ⟨b4, o4, hA4, hw4, hL4⟩ := HA.out.lines (by rw [HN.out]; omega)
          subst hA4
          obtain ⟨_, c4, _⟩ := (hL4.below (HB2.out.trans (HBR.out.mono HB2.out.size)) hw4).line hqt
          have HNX := Lib.hid (show (K.take (i + 1)).map (T.wd t) = (K.take i).map (T.wd t) ++ [T.wd t q] by rw [List.take_succ_eq_append_getElem hiK, List.map_append, hq]; rfl)
          have HLN := Lib.hid (show ((K.take i).map (T.wd t)).length ≤ nk by rw [List.length_map, List.length_take]; omega)
          have hsz := HBR.out.size
          clear hq hqt hL3 hL4
          go_wp2_with (at_builtin; refine wpList_appG eS wr rfl (.tmp 26) (.tmp 35) rfl w2.heap.size u6 ((K.take i).map (T.wd t)) rfl HO.out (T.wd t q) 1 _ rfl wr.heap.size rfl rfl (by have := HLN.out; omega) hsz ?_; intro v5 w5 hown5 hb5)
          go_roundg (nk - (i + 1))
          case rel => exact ⟨i + 1, (by show _ = _; omega), by go_num, (by rw [HNX.out]; exact hown5), HBR.out.trans hb5⟩
          case measure => omega
        · have blt : decide ((i : Int) < (nk : Int)) = false := decide_eq_false (by omega)
          have blt2 : decide (i < nk) = false := decide_eq_false hlt
          have HE := Lib.hid (show (K.take i).map (T.wd t) = T.underW t p by rw [List.take_of_length_le (by rw [HNK.out]; omega)]; exact HU.out)
          obtain ⟨A6, c6, rfl, hc6, hs6⟩ := HO.out.seen
          rw [HE.out] at hc6 hs6 ⊢
          go_wp2
          go_ret
          exact ⟨_, rfl, (by have h := HO.out; rw [HE.out] at h; exact h.lower HB2.out.size), HB2.out.trans (HBR.out.mono HB2.out.size)⟩
    · have HE := Lib.hid (show T.underW t p = [] from T.underW_out HR.out (fun e => h0 (by rw [← HM.out, e]; rfl)) (fun ⟨i, hi, e⟩ => hno i hi e))
      clear hno
      go_wp2
      go_ret
      rw [HE.out]
      exact ⟨_, rfl, Own.nil _ _, hb1⟩
theorem underR12 {N : Nat} (A : Option Addr) (c n : Nat) (t : List T.Ln) (B : Option Addr) (d m : Nat) (p : T.Pth) (w : World) (hn : t.length = n) (hm : p.length = m) (hA : Seen eL w A t) (hB : Seen eS w B p) (hl : n ≤ 1073741824) (hl2 : m ≤ 1073741824) (hR : T.RightN N t) :
    Calls Tryz.prog 20 #[.slice A n c, .slice B m d] w (MadeS w (T.underW t p)) :=
  (underO12 A c n t B d m p w hn hm hA hB hl hl2 hR).mono fun e w' ⟨v, he, ho, hb⟩ => by
    obtain ⟨A2, c2, rfl, h2, h3⟩ := ho.seen
    exact ⟨A2, c2, he, h2, h3, hb⟩
end Go.Proofs.YtfcikfohmehmkaaGreatDoor

namespace Go.Proofs.YtfcikfohmehmkaaGreatDoor.H
theorem ins_len (e : En) : ∀ l : List En, (insE e l).length = l.length + 1
  | [] => rfl
  | y :: l => by
    unfold insE
    split
    · rfl
    · rw [List.length_cons, ins_len e l, List.length_cons]
theorem put_len (l : List En) (e : En) : (putE l e).length ≤ l.length + 1 := by
  unfold putE
  split
  · omega
  · rw [ins_len]; omega
end Go.Proofs.YtfcikfohmehmkaaGreatDoor.H

namespace Go.Proofs.YtfcikfohmehmkaaGreatDoor
open Go.RowKit
set_option linter.unusedVariables false

set_option maxRecDepth 100000 in
set_option maxHeartbeats 4000000 in
theorem setR (A : Option Addr) (c n m : Nat) (l : List H.En) (w : World) (hn : l.length = n) (hl : n ≤ 33554431) (hA : Seen eEd w A l) (hm : (H.setE l).length = m) :
    Calls Tryz.prog 18 #[.slice A n c] w (fun e w' => ∃ B d, e = .returned (.slice B m d) ∧ m ≤ d ∧ Seen eEd w' B (H.setE l) ∧ Below w.heap.size w w') := by
  have HN := Lib.hid hn
  have HM := Lib.hid hm
  have HA := Lib.hid hA
  clear hA hn hm
  go_enter Tryz.func18, Tryz.ntmps18
  go_wp2
  go_loopg [3, 4] n (fun gk vo vi wr => ∃ (k q d : Nat) (B : Option Addr) (s : List H.En), Hid (k + gk = n) ∧ k ≤ n ∧ vi = .int .i64 (k : Int) ∧ vo = .slice B q d ∧ Hid ((l.take k).foldl H.putE [] = s) ∧ Hid (s.length = q) ∧ q ≤ k ∧ q ≤ d ∧ Hid (Seen eEd wr B s) ∧ Below w.heap.size w wr)
  case atStart => exact ⟨0, 0, 0, none, [], Nat.zero_add _, Nat.zero_le _, rfl, rfl, rfl, rfl, Nat.le_refl _, Nat.le_refl _, Seen.nil, Below.refl _ _⟩
  case round =>
    obtain ⟨k, q, d, B, s, HG, hk, rfl, rfl, HF, HQ, hqk, hqd, HS, hb⟩ := hrel
    have hgk := HG.out
    by_cases hlt : k < n
    · have blt : decide ((k : Int) < (n : Int)) = true := decide_eq_true (by omega)
      have blt2 : decide (k < n) = true := decide_eq_true hlt
      have hki : (k : Int) < (n : Int) := by omega
      have hkl : k < l.length := by have := HN.out; omega
      obtain ⟨b, o, rfl, hwb, hL⟩ := HA.out (by omega)
      obtain ⟨d0, d1, d2, d3⟩ := (hL.below hb hwb).entry rfl rfl hkl
      have HX := Lib.hid (List.take_succ_eq_append_getElem hkl)
      generalize l[k] = y at d0 d1 d2 d3 HX
      obtain ⟨q2, hq2⟩ : ∃ q2, (H.putE s y).length = q2 := ⟨_, rfl⟩
      have hq2k : q2 ≤ k + 1 := by have := H.put_len s y; have := HQ.out; omega
      have HQ2 := Lib.hid hq2
      have HF2 := Lib.hid (show (l.take (k + 1)).foldl H.putE [] = H.putE s y by rw [HX.out, List.foldl_append, HF.out]; rfl)
      clear hL hq2
      go_wp2_with fail
      refine (putR B d q q2 s y _ HQ.out (by omega) hqd HS.out HQ2.out).mono ?_
      rintro e w2 ⟨B2, d2', rfl, hd2, hs2, hx⟩
      have hbn := bthen hb hx
      have HS2 := Lib.hid hs2
      clear hx hs2
      go_wp2
      go_roundg (n - (k + 1))
      case rel => exact ⟨k + 1, q2, d2', B2, H.putE s y, (by show _ = _; omega), by omega, by go_num, rfl, HF2, HQ2, hq2k, hd2, HS2, hbn⟩
      case measure => omega
    · have blt : decide ((k : Int) < (n : Int)) = false := decide_eq_false (by omega)
      have blt2 : decide (k < n) = false := decide_eq_false hlt
      have HE := Lib.hid (show s = H.setE l by
        have := HF.out
        rw [List.take_of_length_le (by have := HN.out; omega)] at this
        exact this.symm)
      have hqm : q = m := by rw [← HQ.out, HE.out, HM.out]
      subst hqm
      go_wp2
      go_ret
      exact ⟨B, d, rfl, hqd, (by rw [← HE.out]; exact HS.out), hb⟩
set_option maxRecDepth 100000 in
set_option maxHeartbeats 4000000 in
theorem refsO14 (A : Option Addr) (c n : Nat) (l : List H.En) (w : World) (hn : l.length = n) (hl : n ≤ 1073741824) (hA : Seen eEc w A l) :
    Calls Tryz.prog 15 #[.slice A n c] w (OwnS eEd w l) := by
  have HA := Lib.hid hA
  have HN := Lib.hid hn
  clear hA hn
  go_enter Tryz.func15, Tryz.ntmps15
  go_wp2
  go_loopg [3, 8] n (fun gk vo vi wr => ∃ k : Nat, Hid (k + gk = n) ∧ k ≤ n ∧ vi = .int .i64 (k : Int) ∧ Hid (Own eEd wr w.heap.size vo (l.take k)) ∧ Below w.heap.size w wr)
  case atStart => exact ⟨0, Nat.zero_add _, Nat.zero_le _, rfl, Own.nil _ _, Below.refl _ _⟩
  case round =>
    obtain ⟨k, HG, hk, rfl, HO, hb⟩ := hrel
    have hgk := HG.out
    by_cases hlt : k < n
    · have blt : decide ((k : Int) < (n : Int)) = true := decide_eq_true (by omega)
      have blt2 : decide (k < n) = true := decide_eq_true hlt
      have hki : (k : Int) < (n : Int) := by omega
      have hkl : k < l.length := by have := HN.out; omega
      obtain ⟨b, o, rfl, hwb, hL⟩ := HA.out (by omega)
      obtain ⟨q0, q1, q2, q3⟩ := (hL.below hb hwb).entry rfl rfl hkl
      have HX := Lib.hid (List.take_succ_eq_append_getElem hkl)
      generalize l[k] = y at q0 q1 q2 q3 HX
      have hb1 := up wr (.cells #[.string (sB y.host), .int .i64 y.kind, .string (sB y.key), .string (sB y.val)] 35)
      have HO1 := Lib.hid (HO.out.keep hb1)
      have hbw := bthen hb hb1
      have HLN := Lib.hid (show (l.take k).length + 1 ≤ 1099511627776 by rw [List.length_take]; omega)
      have hszx := hbw.size
      have y0 : (wr.alloc (.cells #[.string (sB y.host), .int .i64 y.kind, .string (sB y.key), .string (sB y.val)] 35)).cell? ⟨wr.heap.size, 0, none⟩ = some (.string (sB y.host)) := World.cell?_alloc_mark wr _ _ (0, 0) 0
      have y1 : (wr.alloc (.cells #[.string (sB y.host), .int .i64 y.kind, .string (sB y.key), .string (sB y.val)] 35)).cell? ⟨wr.heap.size, 1, none⟩ = some (.int .i64 y.kind) := World.cell?_alloc_mark wr _ _ (0, 0) 1
      have y2 : (wr.alloc (.cells #[.string (sB y.host), .int .i64 y.kind, .string (sB y.key), .string (sB y.val)] 35)).cell? ⟨wr.heap.size, 2, none⟩ = some (.string (sB y.key)) := World.cell?_alloc_mark wr _ _ (0, 0) 2
      have y3 : (wr.alloc (.cells #[.string (sB y.host), .int .i64 y.kind, .string (sB y.key), .string (sB y.val)] 35)).cell? ⟨wr.heap.size, 3, none⟩ = some (.string (sB y.val)) := World.cell?_alloc_mark wr _ _ (0, 0) 3
      have HBW := Lib.hid hbw
      clear hL hb1 hbw
      go_wp2_with (at_builtin; refine wpList_appG eEd _ rfl (.tmp 12) (.tmp 14) rfl w.heap.size u3 (l.take k) rfl HO1.out y 1 _ rfl (wr.heap.size + 1) (by simp) rfl HLN.out hszx ?_; intro v5 w5 hown5 hb5)
      go_roundg (n - (k + 1))
      case rel => exact ⟨k + 1, (by show _ = _; omega), by omega, by go_num, (by rw [HX.out]; exact hown5), HBW.out.trans hb5⟩
      case measure => omega
    · have blt : decide ((k : Int) < (n : Int)) = false := decide_eq_false (by omega)
      have blt2 : decide (k < n) = false := decide_eq_false hlt
      have HE := Lib.hid (show l.take k = l from List.take_of_length_le (by have := HN.out; omega))
      go_wp2
      go_ret
      exact ⟨_, rfl, (by rw [← HE.out]; exact HO.out), hb⟩
theorem refs14 (A : Option Addr) (c n : Nat) (l : List H.En) (w : World) (hn : l.length = n) (hl : n ≤ 1073741824) (hA : Seen eEc w A l) :
    Calls Tryz.prog 15 #[.slice A n c] w (fun e w' => ∃ B d, e = .returned (.slice B n d) ∧ n ≤ d ∧ Seen eEd w' B l ∧ Below w.heap.size w w') := by
  refine (refsO14 A c n l w hn hl hA).mono ?_
  rintro e w' ⟨v, rfl, ho, hb⟩
  obtain ⟨B, d, rfl, hd, hs⟩ := ho.seenN hn
  exact ⟨B, d, rfl, hd, hs, hb⟩
theorem underM14 {Z : Nat} (A : Option Addr) (c n : Nat) (t : List T.Ln) (B : Option Addr) (d m k : Nat) (p : T.Pth) (l : List (List UInt8)) (w : World) (hn : t.length = n) (hm : p.length = m) (hA : Seen eL w A t) (hB : Seen eS w B p) (hl : n ≤ 1073741824) (hl2 : m ≤ 1073741824) (hR : T.RightN Z t) (hu : T.underW t p = l) (hk : l.length = k) :
    Calls Tryz.prog 20 #[.slice A n c, .slice B m d] w (fun e w' => ∃ C1 d1, e = .returned (.slice C1 k d1) ∧ k ≤ d1 ∧ Seen eS w' C1 l ∧ Below w.heap.size w w') := by
  subst hu; subst hk; exact underR12 A c n t B d m p w hn hm hA hB hl hl2 hR
end Go.Proofs.YtfcikfohmehmkaaGreatDoor

namespace Go.Proofs.YtfcikfohmehmkaaGreatDoor.H
set_option linter.unusedVariables false
open T (Pth RightN RightT isIn underW Ln pathL entries)
open C (Wd wHosts wVnis wBindings wRoutes wPolicy wIp wMac wHost wVni wVia wMetric wAction wFrom wTo pths checkP faultsP knownP kidsP liveP atP meantP thirdK needsW hasP key mem_pths twiceP outP sameAd isKid)

/-- Not of this part. -/
def offP (a w : Wd) (q : Pth) : Bool := decide (q.take 2 ≠ [a, w])
/-- One tree is another one without the part of a path of two words. -/
structure Less (t u : List Ln) (a w : Wd) : Prop where
  left : RightT t
  right : RightT u
  mem : ∀ x, x ∈ entries u ↔ x ∈ entries t ∧ offP a w x.1 = true
theorem less_cut {t : List Ln} (h : RightT t) {a w : Wd} {i : Nat} (hi : i < t.length) (e : pathL t i = [a, w]) : Less t (T.cutL t i) a w := by
  obtain ⟨h1, h2⟩ := h.cut_entries hi
  refine ⟨h, h1, fun x => ?_⟩
  rw [h2 x, e]
  unfold offP T.pre
  rw [decide_eq_true_eq]
  exact Iff.rfl
theorem Less.same {t u : List Ln} {a w : Wd} (h : Less t u a w) : entries u = (entries t).filter fun x => offP a w x.1 := by
  have := T.filter_same h.right h.left (fun _ => true) (fun x => offP a w x.1) fun x => by rw [h.mem x]; simp
  rwa [List.filter_eq_self.2 (fun _ _ => rfl)] at this
theorem Less.paths {t u : List Ln} {a w : Wd} (h : Less t u a w) : pths u = (pths t).filter (offP a w) := by
  rw [C.pths_entries, C.pths_entries, h.same, List.filter_map]
  rfl
theorem Less.under {t u : List Ln} {a w : Wd} (h : Less t u a w) {p : Pth} (hp : ∀ z, offP a w (p ++ [z]) = true) : underW u p = underW t p := by
  unfold underW
  rw [T.filter_same h.right h.left _ _ fun x => ?_]
  rw [h.mem x]
  constructor
  · rintro ⟨h1, h2⟩
    exact ⟨h1.1, h2⟩
  · rintro ⟨h1, h2⟩
    refine ⟨⟨h1, ?_⟩, h2⟩
    obtain ⟨q, z, hq⟩ := T.snoc_of (T.entry_ne h1)
    have h3 := of_decide_eq_true h2
    rw [hq, List.dropLast_concat] at h3
    rw [hq, h3]
    exact hp z
theorem off_head {a w b : Wd} {r : Pth} (h : b ≠ a) (z : Wd) : offP a w (b :: r ++ [z]) = true := by
  unfold offP
  rw [decide_eq_true_eq]
  intro e
  injection e with e1 e2
  exact h e1
theorem off_two {a w b : Wd} {r : Pth} (h : b ≠ w) (z : Wd) : offP a w (a :: b :: r ++ [z]) = true := by
  unfold offP
  rw [decide_eq_true_eq]
  intro e
  have e2 : b = w := by
    simp at e
    exact e
  exact h e2
theorem Less.head {t u : List Ln} {a w : Wd} (h : Less t u a w) {b : Wd} {r : Pth} (hb : b ≠ a) : underW u (b :: r) = underW t (b :: r) := h.under fun z => off_head hb z
theorem Less.two {t u : List Ln} {a w : Wd} (h : Less t u a w) {b : Wd} {r : Pth} (hb : b ≠ w) : underW u (a :: b :: r) = underW t (a :: b :: r) := h.under fun z => off_two hb z
theorem Less.first {t u : List Ln} {a w : Wd} (h : Less t u a w) {z : Wd} : z ∈ underW u [a] ↔ z ∈ underW t [a] ∧ z ≠ w := by
  rw [T.mem_underW, T.mem_underW, T.isIn_entries, T.isIn_entries]
  have e : offP a w ([a] ++ [z]) = true ↔ z ≠ w := by
    unfold offP
    rw [decide_eq_true_eq]
    constructor
    · intro k e; exact k (by rw [e]; rfl)
    · intro k e
      have e2 : z = w := by simpa using e
      exact k e2
  constructor
  · rintro ⟨m, hm⟩
    obtain ⟨h1, h2⟩ := (h.mem _).1 hm
    exact ⟨⟨m, h1⟩, e.1 h2⟩
  · rintro ⟨⟨m, hm⟩, h2⟩
    exact ⟨m, (h.mem _).2 ⟨hm, e.2 h2⟩⟩

-- NO FAULT COMES
theorem kids_off {P : List Pth} {a w : Wd} {p : Pth} (h : ∀ z, offP a w (p ++ [z]) = true) : kidsP (P.filter (offP a w)) p = kidsP P p := by
  unfold kidsP
  rw [List.filter_filter]
  refine List.filter_congr fun q _ => ?_
  cases hk : isKid p q with
  | false => rfl
  | true =>
    unfold isKid at hk
    obtain ⟨h1, h2⟩ := of_decide_eq_true hk
    obtain ⟨q1, z, hq⟩ := T.snoc_of h1
    rw [hq, List.dropLast_concat] at h2
    rw [hq, h2, h z]
    rfl
theorem twice_off {P : List Pth} {a w : Wd} (ha : wHosts ≠ a) (p : Pth) (x : Wd) : twiceP (P.filter (offP a w)) p x = twiceP P p x := by
  unfold twiceP
  rw [List.any_filter]
  congr 1
  funext q
  cases h : sameAd x q with
  | false => simp
  | true =>
    obtain ⟨r, rfl⟩ := C.sameAd_head h
    have : offP a w (wHosts :: r) = true := by
      unfold offP
      rw [decide_eq_true_eq]
      intro e
      cases r with
      | nil => simp at e
      | cons b s => simp at e; exact ha e.1
    simp [this]
theorem mem_off {P : List Pth} {a w b d : Wd} (hb : b ≠ a) : [b, d] ∈ P.filter (offP a w) ↔ [b, d] ∈ P := by
  rw [List.mem_filter]
  exact ⟨fun h => h.1, fun h => ⟨h, off_head (r := []) hb d⟩⟩
theorem out_off {P : List Pth} {a w : Wd} (ha : wVnis ≠ a) (b d : Wd) : outP (P.filter (offP a w)) b d = outP P b d := by
  unfold outP
  rw [kids_off fun z => off_head ha z]
theorem meant_off {P : List Pth} {a w : Wd} (ha : wHosts ≠ a) (hv : wVnis ≠ a) (p : Pth) : meantP (P.filter (offP a w)) p = meantP P p := by
  unfold meantP
  split
  · simp only [twice_off ha, out_off hv, mem_off ha, mem_off hv]
  · rfl
theorem off_kid {a w : Wd} {p : Pth} (h : offP a w p = true) (hl : 2 ≤ p.length) (z : Wd) : offP a w (p ++ [z]) = true := by
  unfold offP at h ⊢
  rwa [List.take_append_of_le_length hl]
theorem faults_off {P : List Pth} {a w : Wd} (ha : wHosts ≠ a) (hv : wVnis ≠ a) {p : Pth} (hp : offP a w p = true) (h : faultsP P p = []) : faultsP (P.filter (offP a w)) p = [] := by
  have hk := faults_known h
  rw [← h]
  unfold faultsP
  split
  · rfl
  · split
    · have e : ∀ x, hasP (P.filter (offP a w)) _ x = hasP P _ x := fun x => by
        unfold hasP
        rw [kids_off (off_kid hp (by simp))]
      simp only [e]
    · simp only [kids_off (off_kid hp (by simp))]
    · simp only [meant_off ha hv]
    · rfl
theorem Less.clean {t u : List Ln} {a w : Wd} (h : Less t u a w) (ha : wHosts ≠ a) (hv : wVnis ≠ a) (hc : checkP (pths t) = []) : checkP (pths u) = [] := by
  rw [h.paths]
  unfold checkP
  rw [List.flatMap_eq_nil_iff]
  intro p hp
  obtain ⟨h1, h2⟩ := List.mem_filter.1 hp
  unfold atP
  split
  · exact faults_off ha hv h2 (H.clean h.left hc _ p (Nat.le_refl _) (mem_pths.1 h1))
  · rfl

-- THE TABLES
theorem Less.word {t u : List Ln} {a w : Wd} (h : Less t u a w) {b : Wd} {r : Pth} (hb : b ≠ a) (o : Wd) : wordH u (b :: r) o = wordH t (b :: r) o := by unfold wordH; rw [h.head hb]
theorem Less.word2 {t u : List Ln} {a w : Wd} (h : Less t u a w) {b : Wd} {r : Pth} (hb : b ≠ w) (o : Wd) : wordH u (a :: b :: r) o = wordH t (a :: b :: r) o := by unfold wordH; rw [h.two hb]
theorem Less.inn {t u : List Ln} {a w : Wd} (h : Less t u a w) (ha : wHosts ≠ a) (g v : Wd) : inH u g v = inH t g v := by unfold inH; rw [h.head ha]
theorem Less.flood {t u : List Ln} {a w : Wd} (h : Less t u a w) (ha : wHosts ≠ a) (hv : wVnis ≠ a) (g k : Wd) : floodL u g k = floodL t g k := by
  unfold floodL ipH
  simp only [h.head hv, h.inn ha, h.word ha]
theorem Less.bind {t u : List Ln} {a w : Wd} (h : Less t u a w) (ha : wHosts ≠ a) (hb : wBindings ≠ a) (g k : Wd) : bindL u g k = bindL t g k := by
  have e : ∀ i, bindOne u g k i = bindOne t g k i := fun i => by
    unfold bindOne ipH
    simp only [h.word hb, h.inn ha, h.word ha]
  unfold bindL
  rw [h.head hb, C.flat_same fun i _ => e i]
/-- Tables without a route's, or a policy's, entries. -/
def wantL (l : List En) (k : Int) (w : Wd) : List En := l.filter fun x => !(decide (x.kind = k) && decide (x.key = w))
theorem less_route {t u : List Ln} {w : Wd} (h : Less t u wRoutes w) (hc : checkP (pths t) = []) : tablesL u = wantL (tablesL t) 4 w := by
  have hu := h.clean (by decide) (by decide) hc
  refine sort_ext (set_sort _) (sort_filter (set_sort _) _) fun x => ?_
  unfold wantL
  rw [List.mem_filter]
  show x ∈ tablesL u ↔ x ∈ tablesL t ∧ _
  have hh : underW u [wHosts] = underW t [wHosts] := h.head (by decide)
  by_cases h4 : x.kind = 4
  · rw [tables_route h.right hu h4, tables_route h.left hc h4, hh, and_assoc]
    refine and_congr_right fun _ => ?_
    have e : ∀ p, p ≠ w → routeE u x.host p = routeE t x.host p := fun p hp => by
      unfold routeE ipH
      rw [h.word2 hp, h.word2 hp, h.word (by decide)]
    constructor
    · rintro ⟨p, hp, hx⟩
      obtain ⟨h1, h2⟩ := h.first.1 hp
      rw [e p h2] at hx
      refine ⟨⟨p, h1, hx⟩, ?_⟩
      have : x.key = p := by rw [hx]; rfl
      simp [this, h2]
    · rintro ⟨⟨p, hp, hx⟩, hn⟩
      have hk : x.key = p := by rw [hx]; rfl
      have h2 : p ≠ w := by
        intro q
        rw [hk, q, h4] at hn
        simp at hn
      exact ⟨p, h.first.2 ⟨hp, h2⟩, by rw [e p h2]; exact hx⟩
  · have ht : (!(decide (x.kind = 4) && decide (x.key = w))) = true := by simp [h4]
    rw [ht, and_iff_left rfl]
    by_cases h5 : x.kind = 5
    · rw [tables_pol h5, tables_pol h5, hh, h.head (b := wPolicy) (by decide)]
      unfold polOne
      simp only [h.word (b := wPolicy) (by decide)]
    · rw [tables_rest h4 h5, tables_rest h4 h5, hh]
      simp only [h.flood (by decide) (by decide), h.bind (by decide) (by decide)]
theorem less_pol {t u : List Ln} {w : Wd} (h : Less t u wPolicy w) (hc : checkP (pths t) = []) : tablesL u = wantL (tablesL t) 5 w := by
  have hu := h.clean (by decide) (by decide) hc
  refine sort_ext (set_sort _) (sort_filter (set_sort _) _) fun x => ?_
  unfold wantL
  rw [List.mem_filter]
  show x ∈ tablesL u ↔ x ∈ tablesL t ∧ _
  have hh : underW u [wHosts] = underW t [wHosts] := h.head (by decide)
  by_cases h5 : x.kind = 5
  · rw [tables_pol h5, tables_pol h5, hh, and_assoc]
    refine and_congr_right fun _ => ?_
    have e : ∀ p, p ≠ w → polOne u x.host p = polOne t x.host p := fun p hp => by
      unfold polOne
      rw [h.word2 hp, h.word2 hp, h.word2 hp]
    constructor
    · rintro ⟨p, hp, hx⟩
      obtain ⟨h1, h2⟩ := h.first.1 hp
      rw [e p h2] at hx
      refine ⟨⟨p, h1, hx⟩, ?_⟩
      have : x.key = p := by rw [hx]; rfl
      simp [this, h2]
    · rintro ⟨⟨p, hp, hx⟩, hn⟩
      have hk : x.key = p := by rw [hx]; rfl
      have h2 : p ≠ w := by
        intro q
        rw [hk, q, h5] at hn
        simp at hn
      exact ⟨p, h.first.2 ⟨hp, h2⟩, by rw [e p h2]; exact hx⟩
  · have ht : (!(decide (x.kind = 5) && decide (x.key = w))) = true := by simp [h5]
    rw [ht, and_iff_left rfl]
    by_cases h4 : x.kind = 4
    · rw [tables_route h.right hu h4, tables_route h.left hc h4, hh, h.head (b := wRoutes) (by decide)]
      have e : ∀ p, routeE u x.host p = routeE t x.host p := fun p => by
        unfold routeE ipH
        rw [h.word (b := wRoutes) (by decide), h.word (b := wRoutes) (by decide), h.word (b := wHosts) (by decide)]
      simp only [e]
    · rw [tables_rest h4 h5, tables_rest h4 h5, hh]
      simp only [h.flood (by decide) (by decide), h.bind (by decide) (by decide)]
end Go.Proofs.YtfcikfohmehmkaaGreatDoor.H
