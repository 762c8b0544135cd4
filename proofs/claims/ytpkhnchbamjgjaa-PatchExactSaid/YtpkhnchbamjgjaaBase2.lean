/-
  The document's Put, Set of entries, walked; what the law's Refs makes. Condition: at most 2^25 entries.
  The document's Set of entries, the first word under a path, is a host in a network; what the law's Refs makes. Conditions: at most 2^24 entries, a tree.
  Patches of tables: what is between two lists, what a patch does to a list, of which hosts it is. Plain. No conditions.
-/
import Derived.Test.YtpkhnchbamjgjaaBase1
import Derived.Deep.RegionHeld3
import Derived.Deep.RegionWith
import Derived.StillTailTactics

namespace Go.Proofs.Ytpkhnchbamjgjaa.H
/-- An entry, and an element more, one step of Put: what is made so far, and whether the entry is in it. -/
def stepE (e : En) (s : List En × Bool) (y : En) : List En × Bool := if s.2 = false ∧ aheadE e y = true then (s.1 ++ [e] ++ [y], true) else (s.1 ++ [y], s.2)
def finE (e : En) (s : List En × Bool) : List En := if s.2 = true then s.1 else s.1 ++ [e]
theorem fold_in (e : En) : ∀ (l o : List En), l.foldl (stepE e) (o, true) = (o ++ l, true)
  | [], o => by simp
  | y :: l, o => by
    rw [List.foldl_cons, show stepE e (o, true) y = (o ++ [y], true) from if_neg (fun h => by cases h.1), fold_in e l]
    simp
theorem fold_ins (e : En) : ∀ (l o : List En), finE e (l.foldl (stepE e) (o, false)) = o ++ insE e l
  | [], o => rfl
  | y :: l, o => by
    rw [List.foldl_cons]
    unfold insE
    by_cases h : aheadE e y = true
    · rw [show stepE e (o, false) y = (o ++ [e] ++ [y], true) from if_pos ⟨rfl, h⟩, fold_in, if_pos h]
      simp [finE]
    · rw [show stepE e (o, false) y = (o ++ [y], false) from if_neg (fun k => h k.2), fold_ins e l, if_neg h]
      simp
theorem fold_len (e : En) : ∀ (l : List En) (s : List En × Bool), (l.foldl (stepE e) s).1.length ≤ s.1.length + l.length + (if s.2 = true then 0 else 1)
  | [], s => by simp
  | y :: l, s => by
    rw [List.foldl_cons]
    have h := fold_len e l (stepE e s y)
    obtain ⟨o, d⟩ := s
    unfold stepE at h ⊢
    simp only at h ⊢
    rw [List.length_cons]
    split at h
    · next k =>
      rw [if_pos k]
      obtain ⟨rfl, _⟩ := k
      simp only [List.length_append, List.length_singleton, if_true] at h
      simp only [Bool.false_eq_true, if_false]
      omega
    · next k =>
      rw [if_neg k]
      simp only [List.length_append, List.length_singleton] at h
      omega
theorem ne_cases {y x : En} (h : y ≠ x) : y.host ≠ x.host ∨ (y.host = x.host ∧ (y.kind ≠ x.kind ∨ (y.kind = x.kind ∧ (y.key ≠ x.key ∨ (y.key = x.key ∧ y.val ≠ x.val))))) := by
  by_cases h0 : y.host = x.host
  · by_cases h1 : y.kind = x.kind
    · by_cases h2 : y.key = x.key
      · exact .inr ⟨h0, .inr ⟨h1, .inr ⟨h2, fun h3 => h (by cases y; cases x; simp only at h0 h1 h2 h3; subst h0 h1 h2 h3; rfl)⟩⟩⟩
      · exact .inr ⟨h0, .inr ⟨h1, .inl h2⟩⟩
    · exact .inr ⟨h0, .inl h1⟩
  · exact .inl h0
end Go.Proofs.Ytpkhnchbamjgjaa.H

namespace Go.Proofs.Ytpkhnchbamjgjaa
open Go.RowKit
open F
set_option linter.unusedVariables false
set_option linter.unusedSimpArgs false

/-- An entry in a block of its own, and an element of a slice, in a world above one. -/
structure TwoE (w1 w : World) (g : Nat) (x : H.En) (b o k : Nat) (y : H.En) : Prop where
  below : Below w1.heap.size w1 w
  x0 : w.cell? ⟨g, 0, none⟩ = some (.string (sB x.host))
  x1 : w.cell? ⟨g, 1, none⟩ = some (.int .i64 x.kind)
  x2 : w.cell? ⟨g, 2, none⟩ = some (.string (sB x.key))
  x3 : w.cell? ⟨g, 3, none⟩ = some (.string (sB x.val))
  y0 : w.cell? ⟨b, o + k * 4, none⟩ = some (.string (sB y.host))
  y1 : w.cell? ⟨b, o + k * 4 + 1, none⟩ = some (.int .i64 y.kind)
  y2 : w.cell? ⟨b, o + k * 4 + 2, none⟩ = some (.string (sB y.key))
  y3 : w.cell? ⟨b, o + k * 4 + 3, none⟩ = some (.string (sB y.val))
theorem TwoE.more {w1 w w2 : World} {g : Nat} {x : H.En} {b o k : Nat} {y : H.En} (h : TwoE w1 w g x b o k y) (hg : g < w1.heap.size) (hb : b < w1.heap.size) (hx : Below w1.heap.size w w2) : TwoE w1 w2 g x b o k y :=
  ⟨h.below.trans hx, (hx.cell (p := ⟨g, 0, none⟩) hg).trans h.x0, (hx.cell (p := ⟨g, 1, none⟩) hg).trans h.x1, (hx.cell (p := ⟨g, 2, none⟩) hg).trans h.x2, (hx.cell (p := ⟨g, 3, none⟩) hg).trans h.x3,
    (hx.cell (p := ⟨b, o + k * 4, none⟩) hb).trans h.y0, (hx.cell (p := ⟨b, o + k * 4 + 1, none⟩) hb).trans h.y1, (hx.cell (p := ⟨b, o + k * 4 + 2, none⟩) hb).trans h.y2, (hx.cell (p := ⟨b, o + k * 4 + 3, none⟩) hb).trans h.y3⟩

theorem Own.seenN {α : Type} {E : Elem α} {w : World} {base m : Nat} {v : Value} {l : List α} (h : Own E w base v l) (hm : l.length = m) : ∃ A cap, v = .slice A m cap ∧ m ≤ cap ∧ Seen E w A l := by
  subst hm; exact h.seen
set_option maxRecDepth 100000 in
set_option maxHeartbeats 16000000 in
theorem putR (A : Option Addr) (c n m : Nat) (l : List H.En) (x : H.En) (w : World) (hn : l.length = n) (hl : n ≤ 33554432) (hc : n ≤ c) (hA : Seen eEd w A l) (hm : (H.putE l x).length = m) :
    Calls Try.prog 28 #[.slice A n c, enV x] w (fun e w' => ∃ B d, e = .returned (.slice B m d) ∧ m ≤ d ∧ Seen eEd w' B (H.putE l x) ∧ Below w.heap.size w w') := by
  have HN := Lib.hid hn
  have HM := Lib.hid hm
  obtain ⟨w1, hw1⟩ : ∃ w1, w.alloc (.cells #[.string (sB x.host), .int .i64 x.kind, .string (sB x.key), .string (sB x.val)] 46) = w1 := ⟨_, rfl⟩
  have hb1 : Below w.heap.size w w1 := by rw [← hw1]; exact up _ _
  have hs1 : w1.heap.size = w.heap.size + 1 := by rw [← hw1]; simp
  obtain ⟨g, hg⟩ : ∃ g, w.heap.size = g := ⟨_, rfl⟩
  have p0 : w1.cell? ⟨g, 0, none⟩ = some (.string (sB x.host)) := by rw [← hw1, ← hg]; exact World.cell?_alloc_mark w _ _ (0, 0) 0
  have p1 : w1.cell? ⟨g, 1, none⟩ = some (.int .i64 x.kind) := by rw [← hw1, ← hg]; exact World.cell?_alloc_mark w _ _ (0, 0) 1
  have p2 : w1.cell? ⟨g, 2, none⟩ = some (.string (sB x.key)) := by rw [← hw1, ← hg]; exact World.cell?_alloc_mark w _ _ (0, 0) 2
  have p3 : w1.cell? ⟨g, 3, none⟩ = some (.string (sB x.val)) := by rw [← hw1, ← hg]; exact World.cell?_alloc_mark w _ _ (0, 0) 3
  have hgw : g < w1.heap.size := by omega
  have hszw : w.heap.size ≤ w1.heap.size := by omega
  have HA := Lib.hid (hA.below hb1)
  have HA2 := Lib.hid (fun w' (h : Below w1.heap.size w1 w') => (hA.below (bthen hb1 h)))
  have HW1 := Lib.hid hw1
  have HG0 := Lib.hid hg
  have HB1 := Lib.hid hb1
  clear hA hn hm hw1 hb1 hs1 hg
  unfold enV
  go_enter Try.func28, Try.ntmps28
  go_wp2
  rw [HW1.out, HG0.out]
  go_loopg [5, 6, 7] n (fun gk vo vd vi wr => ∃ (k : Nat) (s : List H.En × Bool), Hid (k + gk = n) ∧ k ≤ n ∧ vi = .int .i64 (k : Int) ∧ Hid ((l.take k).foldl (H.stepE x) ([], false) = s) ∧ vd = .bool s.2 ∧ Hid (Own eEd wr w1.heap.size vo s.1) ∧ Hid (x ∉ l.take k) ∧ Below w1.heap.size w1 wr)
  case atStart => exact ⟨0, ([], false), Nat.zero_add _, Nat.zero_le _, rfl, rfl, rfl, Own.nil _ _, (by show x ∉ _; simp), Below.refl _ _⟩
  case round =>
    obtain ⟨k, s, HG, hk, rfl, HF, rfl, HO, HNI, hb⟩ := hrel
    have hgk := HG.out
    obtain ⟨so, sd⟩ := s
    by_cases hlt : k < n
    · have blt : decide ((k : Int) < (n : Int)) = true := decide_eq_true (by omega)
      have blt2 : decide (k < n) = true := decide_eq_true hlt
      have hki : (k : Int) < (n : Int) := by omega
      have hkl : k < l.length := by have := HN.out; omega
      obtain ⟨b, o, rfl, hwb, hL⟩ := HA.out (by omega)
      obtain ⟨d0, d1, d2, d3⟩ := hL.entry rfl rfl hkl
      have HX := Lib.hid (List.take_succ_eq_append_getElem hkl)
      have HMI := Lib.hid (List.getElem_mem hkl)
      generalize l[k] = y at d0 d1 d2 d3 HX HMI
      obtain ⟨_, q0, q1, q2, q3, e0, e1, e2, e3⟩ := TwoE.more (w1 := w1) ⟨Below.refl _ _, p0, p1, p2, p3, d0, d1, d2, d3⟩ hgw hwb hb
      have HDS := Lib.hid (fun w' (h : Below wr.heap.size wr w') => TwoE.more (w1 := wr) ⟨Below.refl _ _, q0, q1, q2, q3, e0, e1, e2, e3⟩ (Nat.lt_of_lt_of_le hgw hb.size) (Nat.lt_of_lt_of_le hwb hb.size) h)
      clear d0 d1 d2 d3 hL
      have HFS := Lib.hid (show (l.take (k + 1)).foldl (H.stepE x) ([], false) = H.stepE x (so, sd) y by rw [HX.out, List.foldl_append, HF.out]; rfl)
      have HLS := Lib.hid (show so.length ≤ n + 1 by
        have h1 := H.fold_len x (l.take k) ([], false)
        rw [HF.out, List.length_take] at h1
        simp at h1
        omega)
      by_cases he : y = x
      · subst he
        have HPU := Lib.hid (show H.putE l y = l from if_pos HMI.out)
        have hmn : m = n := by rw [← HM.out, HPU.out, HN.out]
        subst hmn
        have HSE := Lib.hid (HA2.out _ hb.drew)
        go_wp2
        go_region
        go_wp2
        go_ret
        exact ⟨_, c, rfl, hc, (by rw [HPU.out]; exact HSE.out), bthen HB1.out hb.drew⟩
      · have HNX := Lib.hid (show x ∉ l.take (k + 1) by
          rw [HX.out]
          intro q
          rcases List.mem_append.1 q with q | q
          · exact HNI.out q
          · exact he (List.mem_singleton.1 q).symm)
        rcases H.ne_cases he with j | ⟨j0, j | ⟨j1, j | ⟨j2, j⟩⟩⟩
        · have n3 := sB_ne j
          clear he j
          cases sd with
          | true =>
            have HST := Lib.hid (show H.stepE x (so, true) y = (so ++ [y], true) from if_neg (fun h => by cases h.1))
            go_wp2
            go_region
            go_wp2
            refine wp_region_held_drew (S := fun w' => TwoE wr w' g x b o k y) (by kernel_rfl) (HDS.out _ ((Below.refl _ _).drew.drew)) (fun hHeld => ?_)
            refine takeD13 (i := 0) (v := ?vd00) (d := some 21) rfl rfl (by kernel_rfl) (by kernel_rfl) (by kernel_rfl) (fun _ _ _ h => h) (Or.inl ⟨by rfl, ?hd00⟩) (by assumption) ?rd00
            case hd00 => intro w hSw; obtain ⟨_, x0, x1, x2, x3, y0, y1, y2, y3⟩ := hSw; go_simp; try (with_reducible rfl)
            try simp only [Act.put, List.setIfInBounds_toArray, List.set_cons_zero, List.set_cons_succ]
            refine takeD13 (i := 1) (v := ?vd01) (d := some 22) rfl rfl (by kernel_rfl) (by kernel_rfl) (by kernel_rfl) (fun _ _ _ h => h) (Or.inl ⟨by rfl, ?hd01⟩) (by assumption) ?rd01
            case hd01 => intro w hSw; obtain ⟨_, x0, x1, x2, x3, y0, y1, y2, y3⟩ := hSw; go_simp; try (with_reducible rfl)
            try simp only [Act.put, List.setIfInBounds_toArray, List.set_cons_zero, List.set_cons_succ]
            refine takeD13 (i := 2) (v := ?vd02) (d := some 23) rfl rfl (by kernel_rfl) (by kernel_rfl) (by kernel_rfl) (fun _ _ _ h => h) (Or.inl ⟨by rfl, ?hd02⟩) (by assumption) ?rd02
            case hd02 => intro w hSw; obtain ⟨_, x0, x1, x2, x3, y0, y1, y2, y3⟩ := hSw; go_simp; try (with_reducible rfl)
            try simp only [Act.put, List.setIfInBounds_toArray, List.set_cons_zero, List.set_cons_succ]
            refine takeD13 (i := 3) (v := undef) (d := some 24) rfl rfl (by kernel_rfl) (by kernel_rfl) (by kernel_rfl) (fun _ _ _ h => h) (Or.inr ⟨by rfl, rfl⟩) (by assumption) ?rd03
            try simp only [Act.put, List.setIfInBounds_toArray, List.set_cons_zero, List.set_cons_succ]
            refine takeD13 (i := 4) (v := undef) (d := some 25) rfl rfl (by kernel_rfl) (by kernel_rfl) (by kernel_rfl) (fun _ _ _ h => h) (Or.inr ⟨by rfl, rfl⟩) (by assumption) ?rd04
            try simp only [Act.put, List.setIfInBounds_toArray, List.set_cons_zero, List.set_cons_succ]
            refine takeD13 (i := 5) (v := undef) (d := some 26) rfl rfl (by kernel_rfl) (by kernel_rfl) (by kernel_rfl) (fun _ _ _ h => h) (Or.inr ⟨by rfl, rfl⟩) (by assumption) ?rd05
            try simp only [Act.put, List.setIfInBounds_toArray, List.set_cons_zero, List.set_cons_succ]
            refine takeD13 (i := 6) (v := undef) (d := some 27) rfl rfl (by kernel_rfl) (by kernel_rfl) (by kernel_rfl) (fun _ _ _ h => h) (Or.inr ⟨by rfl, rfl⟩) (by assumption) ?rd06
            try simp only [Act.put, List.setIfInBounds_toArray, List.set_cons_zero, List.set_cons_succ]
            refine takeD13 (i := 7) (v := undef) (d := some 28) rfl rfl (by kernel_rfl) (by kernel_rfl) (by kernel_rfl) (fun _ _ _ h => h) (Or.inr ⟨by rfl, rfl⟩) (by assumption) ?rd07
            try simp only [Act.put, List.setIfInBounds_toArray, List.set_cons_zero, List.set_cons_succ]
            refine takeD13 (i := 8) (v := undef) (d := some 29) rfl rfl (by kernel_rfl) (by kernel_rfl) (by kernel_rfl) (fun _ _ _ h => h) (Or.inr ⟨by rfl, rfl⟩) (by assumption) ?rd08
            try simp only [Act.put, List.setIfInBounds_toArray, List.set_cons_zero, List.set_cons_succ]
            refine takeD13 (i := 9) (v := ?vd09) (d := some 30) rfl rfl (by kernel_rfl) (by kernel_rfl) (by kernel_rfl) (fun _ _ _ h => h) (Or.inl ⟨by rfl, ?hd09⟩) (by assumption) ?rd09
            case hd09 => intro w hSw; obtain ⟨_, x0, x1, x2, x3, y0, y1, y2, y3⟩ := hSw; go_simp; try (with_reducible rfl)
            try simp only [Act.put, List.setIfInBounds_toArray, List.set_cons_zero, List.set_cons_succ]
            refine wpAnyH_done (by kernel_rfl) ?_ _
            obtain ⟨hbq, z0, z1, z2, z3, y0, y1, y2, y3⟩ := hHeld
            have hsz := hb.size
            go_wp2_with (at_builtin; refine wpList_appG eEd (wr.drew.drew) rfl (.tmp 35) (.tmp 40) rfl w1.heap.size u5 so rfl HO.out y 1 _ rfl _ rfl rfl (by have := HLS.out; omega) hsz ?_; intro v5 w5 hown5 hb5)
            go_roundg (n - (k + 1))
            case rel => exact ⟨k + 1, (so ++ [y], true), (by show _ = _; omega), by omega, by go_num, Lib.hid (HFS.out.trans HST.out), rfl, Lib.hid hown5, HNX, hb.drew.drew.trans hb5⟩
            case measure => omega
          | false =>
            obtain ⟨r, hr⟩ : ∃ r, H.aheadE x y = r := ⟨_, rfl⟩
            cases r with
            | true =>
              have HR := Lib.hid hr
              have HST := Lib.hid (show H.stepE x (so, false) y = (so ++ [x] ++ [y], true) from if_pos ⟨rfl, hr⟩)
              clear hr
              go_wp2
              go_region
              go_wp2
              refine wp_region_held_drew (S := fun w' => TwoE wr w' g x b o k y) (by kernel_rfl) (HDS.out _ ((Below.refl _ _).drew.drew)) (fun hHeld => ?_)
              refine takeD13 (i := 0) (v := ?vt00) (d := some 21) rfl rfl (by kernel_rfl) (by kernel_rfl) (by kernel_rfl) (fun _ _ _ h => h) (Or.inl ⟨by rfl, ?ht00⟩) (by assumption) ?rt00
              case ht00 => intro w hSw; obtain ⟨_, x0, x1, x2, x3, y0, y1, y2, y3⟩ := hSw; go_simp; try (with_reducible rfl)
              try simp only [Act.put, List.setIfInBounds_toArray, List.set_cons_zero, List.set_cons_succ]
              refine takeD13 (i := 1) (v := ?vt01) (d := some 22) rfl rfl (by kernel_rfl) (by kernel_rfl) (by kernel_rfl) (fun _ _ _ h => h) (Or.inl ⟨by rfl, ?ht01⟩) (by assumption) ?rt01
              case ht01 => intro w hSw; obtain ⟨_, x0, x1, x2, x3, y0, y1, y2, y3⟩ := hSw; go_simp; try (with_reducible rfl)
              try simp only [Act.put, List.setIfInBounds_toArray, List.set_cons_zero, List.set_cons_succ]
              refine takeD13 (i := 2) (v := ?vt02) (d := some 23) rfl rfl (by kernel_rfl) (by kernel_rfl) (by kernel_rfl) (fun _ _ _ h => h) (Or.inl ⟨by rfl, ?ht02⟩) (by assumption) ?rt02
              case ht02 => intro w hSw; obtain ⟨_, x0, x1, x2, x3, y0, y1, y2, y3⟩ := hSw; go_simp; try (with_reducible rfl)
              try simp only [Act.put, List.setIfInBounds_toArray, List.set_cons_zero, List.set_cons_succ]
              refine takeD13 (i := 3) (v := ?vt03) (d := some 24) rfl rfl (by kernel_rfl) (by kernel_rfl) (by kernel_rfl) (fun _ _ _ h => h) (Or.inl ⟨by rfl, ?ht03⟩) (by assumption) ?rt03
              case ht03 => intro w hSw; obtain ⟨_, x0, x1, x2, x3, y0, y1, y2, y3⟩ := hSw; go_simp; try (with_reducible rfl)
              try simp only [Act.put, List.setIfInBounds_toArray, List.set_cons_zero, List.set_cons_succ]
              refine takeD13 (i := 4) (v := ?vt04) (d := some 25) rfl rfl (by kernel_rfl) (by kernel_rfl) (by kernel_rfl) (fun _ _ _ h => h) (Or.inl ⟨by rfl, ?ht04⟩) (by assumption) ?rt04
              case ht04 => intro w hSw; obtain ⟨_, x0, x1, x2, x3, y0, y1, y2, y3⟩ := hSw; go_simp; try (with_reducible rfl)
              try simp only [Act.put, List.setIfInBounds_toArray, List.set_cons_zero, List.set_cons_succ]
              refine takeD13 (i := 5) (v := ?vt05) (d := some 26) rfl rfl (by kernel_rfl) (by kernel_rfl) (by kernel_rfl) (fun _ _ _ h => h) (Or.inl ⟨by rfl, ?ht05⟩) (by assumption) ?rt05
              case ht05 => intro w hSw; obtain ⟨_, x0, x1, x2, x3, y0, y1, y2, y3⟩ := hSw; go_simp; try (with_reducible rfl)
              try simp only [Act.put, List.setIfInBounds_toArray, List.set_cons_zero, List.set_cons_succ]
              refine takeD13 (i := 6) (v := ?vt06) (d := some 27) rfl rfl (by kernel_rfl) (by kernel_rfl) (by kernel_rfl) (fun _ _ _ h => h) (Or.inl ⟨by rfl, ?ht06⟩) (by assumption) ?rt06
              case ht06 => intro w hSw; obtain ⟨_, x0, x1, x2, x3, y0, y1, y2, y3⟩ := hSw; go_simp; try (with_reducible rfl)
              try simp only [Act.put, List.setIfInBounds_toArray, List.set_cons_zero, List.set_cons_succ]
              refine takeD13 (i := 7) (v := ?vt07) (d := some 28) rfl rfl (by kernel_rfl) (by kernel_rfl) (by kernel_rfl) (fun _ _ _ h => h) (Or.inl ⟨by rfl, ?ht07⟩) (by assumption) ?rt07
              case ht07 => intro w hSw; obtain ⟨_, x0, x1, x2, x3, y0, y1, y2, y3⟩ := hSw; go_simp; try (with_reducible rfl)
              try simp only [Act.put, List.setIfInBounds_toArray, List.set_cons_zero, List.set_cons_succ]
              refine wpAnyH_ready (rs := [8]) (by kernel_rfl) (by simp) ?_
              refine AllReadyH.cons rfl (fun K hK => ?_) AllReadyH.nil
              go_simp
              go_at_call 37
              refine (aheadR x y true _ HR.out).mono ?_
              rintro e wq ⟨rfl, hx⟩
              have hbx := bthen hHeld.below hx
              have hHq := HDS.out _ hbx
              clear hHeld hx
              refine hK.out _ _ hHq (fun hHeld => ?_)
              clear hK K
              try simp only [Act.put, List.setIfInBounds_toArray, List.set_cons_zero, List.set_cons_succ]
              refine takeD13 (i := 9) (v := ?vt09) (d := some 30) rfl rfl (by kernel_rfl) (by kernel_rfl) (by kernel_rfl) (fun _ _ _ h => h) (Or.inl ⟨by rfl, ?ht09⟩) (by assumption) ?rt09
              case ht09 => intro w hSw; obtain ⟨_, x0, x1, x2, x3, y0, y1, y2, y3⟩ := hSw; go_simp; try (with_reducible rfl)
              try simp only [Act.put, List.setIfInBounds_toArray, List.set_cons_zero, List.set_cons_succ]
              refine wpAnyH_done (by kernel_rfl) ?_ _
              obtain ⟨hbq, z0, z1, z2, z3, y0, y1, y2, y3⟩ := hHq
              have HOQ := Lib.hid (HO.out.keep hbq)
              have hbw := bthen hb hbq
              have hsz := hbw.size
              have hwq : wr.heap.size ≤ wq.heap.size := hbq.size
              have HKY := Lib.hid (fun w' (h : Below w1.heap.size wq w') => show (w'.cell? ⟨b, o + k * 4, none⟩ = some (.string (sB y.host)) ∧ w'.cell? ⟨b, o + k * 4 + 1, none⟩ = some (.int .i64 y.kind)) ∧ w'.cell? ⟨b, o + k * 4 + 2, none⟩ = some (.string (sB y.key)) ∧ w'.cell? ⟨b, o + k * 4 + 3, none⟩ = some (.string (sB y.val)) from
                ⟨⟨(h.cell (p := ⟨b, o + k * 4, none⟩) hwb).trans y0, (h.cell (p := ⟨b, o + k * 4 + 1, none⟩) hwb).trans y1⟩, (h.cell (p := ⟨b, o + k * 4 + 2, none⟩) hwb).trans y2, (h.cell (p := ⟨b, o + k * 4 + 3, none⟩) hwb).trans y3⟩)
              go_wp2_with (first | (at_builtin; refine wpList_appG eEd _ rfl (.tmp 31) (.tmp 33) rfl w1.heap.size u5 so rfl HOQ.out x 1 _ rfl _ rfl rfl (by have := HLS.out; omega) hsz ?_; intro v5 w5 hown5 hb5; obtain ⟨⟨r0, r1⟩, r2, r3⟩ := HKY.out _ hb5; have hsz5 := Nat.le_trans hsz hb5.size; have HO5 := Lib.hid hown5; have hl5 : (so ++ [x]).length + 1 ≤ 1099511627776 := (by have := HLS.out; simp; omega)) | (at_builtin; refine wpList_appG eEd _ rfl (.tmp 35) (.tmp 40) rfl w1.heap.size v5 (so ++ [x]) rfl HO5.out y 1 _ rfl _ rfl rfl hl5 hsz5 ?_; intro v6 w6 hown6 hb6))
              go_roundg (n - (k + 1))
              case rel => exact ⟨k + 1, (so ++ [x] ++ [y], true), (by show _ = _; omega), by omega, by go_num, Lib.hid (HFS.out.trans HST.out), rfl, Lib.hid hown6, HNX, (hbw.trans hb5).trans hb6⟩
              case measure => omega
            | false =>
              have HR := Lib.hid hr
              have HST := Lib.hid (show H.stepE x (so, false) y = (so ++ [y], false) from if_neg (fun h => by rw [hr] at h; cases h.2))
              clear hr
              go_wp2
              go_region
              go_wp2
              refine wp_region_held_drew (S := fun w' => TwoE wr w' g x b o k y) (by kernel_rfl) (HDS.out _ ((Below.refl _ _).drew.drew)) (fun hHeld => ?_)
              refine takeD13 (i := 0) (v := ?vf00) (d := some 21) rfl rfl (by kernel_rfl) (by kernel_rfl) (by kernel_rfl) (fun _ _ _ h => h) (Or.inl ⟨by rfl, ?hf00⟩) (by assumption) ?rf00
              case hf00 => intro w hSw; obtain ⟨_, x0, x1, x2, x3, y0, y1, y2, y3⟩ := hSw; go_simp; try (with_reducible rfl)
              try simp only [Act.put, List.setIfInBounds_toArray, List.set_cons_zero, List.set_cons_succ]
              refine takeD13 (i := 1) (v := ?vf01) (d := some 22) rfl rfl (by kernel_rfl) (by kernel_rfl) (by kernel_rfl) (fun _ _ _ h => h) (Or.inl ⟨by rfl, ?hf01⟩) (by assumption) ?rf01
              case hf01 => intro w hSw; obtain ⟨_, x0, x1, x2, x3, y0, y1, y2, y3⟩ := hSw; go_simp; try (with_reducible rfl)
              try simp only [Act.put, List.setIfInBounds_toArray, List.set_cons_zero, List.set_cons_succ]
              refine takeD13 (i := 2) (v := ?vf02) (d := some 23) rfl rfl (by kernel_rfl) (by kernel_rfl) (by kernel_rfl) (fun _ _ _ h => h) (Or.inl ⟨by rfl, ?hf02⟩) (by assumption) ?rf02
              case hf02 => intro w hSw; obtain ⟨_, x0, x1, x2, x3, y0, y1, y2, y3⟩ := hSw; go_simp; try (with_reducible rfl)
              try simp only [Act.put, List.setIfInBounds_toArray, List.set_cons_zero, List.set_cons_succ]
              refine takeD13 (i := 3) (v := ?vf03) (d := some 24) rfl rfl (by kernel_rfl) (by kernel_rfl) (by kernel_rfl) (fun _ _ _ h => h) (Or.inl ⟨by rfl, ?hf03⟩) (by assumption) ?rf03
              case hf03 => intro w hSw; obtain ⟨_, x0, x1, x2, x3, y0, y1, y2, y3⟩ := hSw; go_simp; try (with_reducible rfl)
              try simp only [Act.put, List.setIfInBounds_toArray, List.set_cons_zero, List.set_cons_succ]
              refine takeD13 (i := 4) (v := ?vf04) (d := some 25) rfl rfl (by kernel_rfl) (by kernel_rfl) (by kernel_rfl) (fun _ _ _ h => h) (Or.inl ⟨by rfl, ?hf04⟩) (by assumption) ?rf04
              case hf04 => intro w hSw; obtain ⟨_, x0, x1, x2, x3, y0, y1, y2, y3⟩ := hSw; go_simp; try (with_reducible rfl)
              try simp only [Act.put, List.setIfInBounds_toArray, List.set_cons_zero, List.set_cons_succ]
              refine takeD13 (i := 5) (v := ?vf05) (d := some 26) rfl rfl (by kernel_rfl) (by kernel_rfl) (by kernel_rfl) (fun _ _ _ h => h) (Or.inl ⟨by rfl, ?hf05⟩) (by assumption) ?rf05
              case hf05 => intro w hSw; obtain ⟨_, x0, x1, x2, x3, y0, y1, y2, y3⟩ := hSw; go_simp; try (with_reducible rfl)
              try simp only [Act.put, List.setIfInBounds_toArray, List.set_cons_zero, List.set_cons_succ]
              refine takeD13 (i := 6) (v := ?vf06) (d := some 27) rfl rfl (by kernel_rfl) (by kernel_rfl) (by kernel_rfl) (fun _ _ _ h => h) (Or.inl ⟨by rfl, ?hf06⟩) (by assumption) ?rf06
              case hf06 => intro w hSw; obtain ⟨_, x0, x1, x2, x3, y0, y1, y2, y3⟩ := hSw; go_simp; try (with_reducible rfl)
              try simp only [Act.put, List.setIfInBounds_toArray, List.set_cons_zero, List.set_cons_succ]
              refine takeD13 (i := 7) (v := ?vf07) (d := some 28) rfl rfl (by kernel_rfl) (by kernel_rfl) (by kernel_rfl) (fun _ _ _ h => h) (Or.inl ⟨by rfl, ?hf07⟩) (by assumption) ?rf07
              case hf07 => intro w hSw; obtain ⟨_, x0, x1, x2, x3, y0, y1, y2, y3⟩ := hSw; go_simp; try (with_reducible rfl)
              try simp only [Act.put, List.setIfInBounds_toArray, List.set_cons_zero, List.set_cons_succ]
              refine wpAnyH_ready (rs := [8]) (by kernel_rfl) (by simp) ?_
              refine AllReadyH.cons rfl (fun K hK => ?_) AllReadyH.nil
              go_simp
              go_at_call 37
              refine (aheadR x y false _ HR.out).mono ?_
              rintro e wq ⟨rfl, hx⟩
              have hbx := bthen hHeld.below hx
              have hHq := HDS.out _ hbx
              clear hHeld hx
              refine hK.out _ _ hHq (fun hHeld => ?_)
              clear hK K
              try simp only [Act.put, List.setIfInBounds_toArray, List.set_cons_zero, List.set_cons_succ]
              refine takeD13 (i := 9) (v := ?vf09) (d := some 30) rfl rfl (by kernel_rfl) (by kernel_rfl) (by kernel_rfl) (fun _ _ _ h => h) (Or.inl ⟨by rfl, ?hf09⟩) (by assumption) ?rf09
              case hf09 => intro w hSw; obtain ⟨_, x0, x1, x2, x3, y0, y1, y2, y3⟩ := hSw; go_simp; try (with_reducible rfl)
              try simp only [Act.put, List.setIfInBounds_toArray, List.set_cons_zero, List.set_cons_succ]
              refine wpAnyH_done (by kernel_rfl) ?_ _
              obtain ⟨hbq, z0, z1, z2, z3, y0, y1, y2, y3⟩ := hHq
              have HOQ := Lib.hid (HO.out.keep hbq)
              have hbw := bthen hb hbq
              have hsz := hbw.size
              go_wp2_with (at_builtin; refine wpList_appG eEd _ rfl (.tmp 35) (.tmp 40) rfl w1.heap.size u5 so rfl HOQ.out y 1 _ rfl _ rfl rfl (by have := HLS.out; omega) hsz ?_; intro v5 w5 hown5 hb5)
              go_roundg (n - (k + 1))
              case rel => exact ⟨k + 1, (so ++ [y], false), (by show _ = _; omega), by omega, by go_num, Lib.hid (HFS.out.trans HST.out), rfl, Lib.hid hown5, HNX, hbw.trans hb5⟩
              case measure => omega
        · have n0 := sB_eq j0
          have n3 : (y.kind == x.kind) = false := beq_eq_false_iff_ne.2 j
          clear he j j0
          cases sd with
          | true =>
            have HST := Lib.hid (show H.stepE x (so, true) y = (so ++ [y], true) from if_neg (fun h => by cases h.1))
            go_wp2
            go_region
            go_wp2
            refine wp_region_held_drew (S := fun w' => TwoE wr w' g x b o k y) (by kernel_rfl) (HDS.out _ ((Below.refl _ _).drew.drew)) (fun hHeld => ?_)
            refine takeD13 (i := 0) (v := ?vd10) (d := some 21) rfl rfl (by kernel_rfl) (by kernel_rfl) (by kernel_rfl) (fun _ _ _ h => h) (Or.inl ⟨by rfl, ?hd10⟩) (by assumption) ?rd10
            case hd10 => intro w hSw; obtain ⟨_, x0, x1, x2, x3, y0, y1, y2, y3⟩ := hSw; go_simp; try (with_reducible rfl)
            try simp only [Act.put, List.setIfInBounds_toArray, List.set_cons_zero, List.set_cons_succ]
            refine takeD13 (i := 1) (v := ?vd11) (d := some 22) rfl rfl (by kernel_rfl) (by kernel_rfl) (by kernel_rfl) (fun _ _ _ h => h) (Or.inl ⟨by rfl, ?hd11⟩) (by assumption) ?rd11
            case hd11 => intro w hSw; obtain ⟨_, x0, x1, x2, x3, y0, y1, y2, y3⟩ := hSw; go_simp; try (with_reducible rfl)
            try simp only [Act.put, List.setIfInBounds_toArray, List.set_cons_zero, List.set_cons_succ]
            refine takeD13 (i := 2) (v := ?vd12) (d := some 23) rfl rfl (by kernel_rfl) (by kernel_rfl) (by kernel_rfl) (fun _ _ _ h => h) (Or.inl ⟨by rfl, ?hd12⟩) (by assumption) ?rd12
            case hd12 => intro w hSw; obtain ⟨_, x0, x1, x2, x3, y0, y1, y2, y3⟩ := hSw; go_simp; try (with_reducible rfl)
            try simp only [Act.put, List.setIfInBounds_toArray, List.set_cons_zero, List.set_cons_succ]
            refine takeD13 (i := 3) (v := undef) (d := some 24) rfl rfl (by kernel_rfl) (by kernel_rfl) (by kernel_rfl) (fun _ _ _ h => h) (Or.inr ⟨by rfl, rfl⟩) (by assumption) ?rd13
            try simp only [Act.put, List.setIfInBounds_toArray, List.set_cons_zero, List.set_cons_succ]
            refine takeD13 (i := 4) (v := undef) (d := some 25) rfl rfl (by kernel_rfl) (by kernel_rfl) (by kernel_rfl) (fun _ _ _ h => h) (Or.inr ⟨by rfl, rfl⟩) (by assumption) ?rd14
            try simp only [Act.put, List.setIfInBounds_toArray, List.set_cons_zero, List.set_cons_succ]
            refine takeD13 (i := 5) (v := undef) (d := some 26) rfl rfl (by kernel_rfl) (by kernel_rfl) (by kernel_rfl) (fun _ _ _ h => h) (Or.inr ⟨by rfl, rfl⟩) (by assumption) ?rd15
            try simp only [Act.put, List.setIfInBounds_toArray, List.set_cons_zero, List.set_cons_succ]
            refine takeD13 (i := 6) (v := undef) (d := some 27) rfl rfl (by kernel_rfl) (by kernel_rfl) (by kernel_rfl) (fun _ _ _ h => h) (Or.inr ⟨by rfl, rfl⟩) (by assumption) ?rd16
            try simp only [Act.put, List.setIfInBounds_toArray, List.set_cons_zero, List.set_cons_succ]
            refine takeD13 (i := 7) (v := undef) (d := some 28) rfl rfl (by kernel_rfl) (by kernel_rfl) (by kernel_rfl) (fun _ _ _ h => h) (Or.inr ⟨by rfl, rfl⟩) (by assumption) ?rd17
            try simp only [Act.put, List.setIfInBounds_toArray, List.set_cons_zero, List.set_cons_succ]
            refine takeD13 (i := 8) (v := undef) (d := some 29) rfl rfl (by kernel_rfl) (by kernel_rfl) (by kernel_rfl) (fun _ _ _ h => h) (Or.inr ⟨by rfl, rfl⟩) (by assumption) ?rd18
            try simp only [Act.put, List.setIfInBounds_toArray, List.set_cons_zero, List.set_cons_succ]
            refine takeD13 (i := 9) (v := ?vd19) (d := some 30) rfl rfl (by kernel_rfl) (by kernel_rfl) (by kernel_rfl) (fun _ _ _ h => h) (Or.inl ⟨by rfl, ?hd19⟩) (by assumption) ?rd19
            case hd19 => intro w hSw; obtain ⟨_, x0, x1, x2, x3, y0, y1, y2, y3⟩ := hSw; go_simp; try (with_reducible rfl)
            try simp only [Act.put, List.setIfInBounds_toArray, List.set_cons_zero, List.set_cons_succ]
            refine wpAnyH_done (by kernel_rfl) ?_ _
            obtain ⟨hbq, z0, z1, z2, z3, y0, y1, y2, y3⟩ := hHeld
            have hsz := hb.size
            go_wp2_with (at_builtin; refine wpList_appG eEd (wr.drew.drew) rfl (.tmp 35) (.tmp 40) rfl w1.heap.size u5 so rfl HO.out y 1 _ rfl _ rfl rfl (by have := HLS.out; omega) hsz ?_; intro v5 w5 hown5 hb5)
            go_roundg (n - (k + 1))
            case rel => exact ⟨k + 1, (so ++ [y], true), (by show _ = _; omega), by omega, by go_num, Lib.hid (HFS.out.trans HST.out), rfl, Lib.hid hown5, HNX, hb.drew.drew.trans hb5⟩
            case measure => omega
          | false =>
            obtain ⟨r, hr⟩ : ∃ r, H.aheadE x y = r := ⟨_, rfl⟩
            cases r with
            | true =>
              have HR := Lib.hid hr
              have HST := Lib.hid (show H.stepE x (so, false) y = (so ++ [x] ++ [y], true) from if_pos ⟨rfl, hr⟩)
              clear hr
              go_wp2
              go_region
              go_wp2
              refine wp_region_held_drew (S := fun w' => TwoE wr w' g x b o k y) (by kernel_rfl) (HDS.out _ ((Below.refl _ _).drew.drew)) (fun hHeld => ?_)
              refine takeD13 (i := 0) (v := ?vt10) (d := some 21) rfl rfl (by kernel_rfl) (by kernel_rfl) (by kernel_rfl) (fun _ _ _ h => h) (Or.inl ⟨by rfl, ?ht10⟩) (by assumption) ?rt10
              case ht10 => intro w hSw; obtain ⟨_, x0, x1, x2, x3, y0, y1, y2, y3⟩ := hSw; go_simp; try (with_reducible rfl)
              try simp only [Act.put, List.setIfInBounds_toArray, List.set_cons_zero, List.set_cons_succ]
              refine takeD13 (i := 1) (v := ?vt11) (d := some 22) rfl rfl (by kernel_rfl) (by kernel_rfl) (by kernel_rfl) (fun _ _ _ h => h) (Or.inl ⟨by rfl, ?ht11⟩) (by assumption) ?rt11
              case ht11 => intro w hSw; obtain ⟨_, x0, x1, x2, x3, y0, y1, y2, y3⟩ := hSw; go_simp; try (with_reducible rfl)
              try simp only [Act.put, List.setIfInBounds_toArray, List.set_cons_zero, List.set_cons_succ]
              refine takeD13 (i := 2) (v := ?vt12) (d := some 23) rfl rfl (by kernel_rfl) (by kernel_rfl) (by kernel_rfl) (fun _ _ _ h => h) (Or.inl ⟨by rfl, ?ht12⟩) (by assumption) ?rt12
              case ht12 => intro w hSw; obtain ⟨_, x0, x1, x2, x3, y0, y1, y2, y3⟩ := hSw; go_simp; try (with_reducible rfl)
              try simp only [Act.put, List.setIfInBounds_toArray, List.set_cons_zero, List.set_cons_succ]
              refine takeD13 (i := 3) (v := ?vt13) (d := some 24) rfl rfl (by kernel_rfl) (by kernel_rfl) (by kernel_rfl) (fun _ _ _ h => h) (Or.inl ⟨by rfl, ?ht13⟩) (by assumption) ?rt13
              case ht13 => intro w hSw; obtain ⟨_, x0, x1, x2, x3, y0, y1, y2, y3⟩ := hSw; go_simp; try (with_reducible rfl)
              try simp only [Act.put, List.setIfInBounds_toArray, List.set_cons_zero, List.set_cons_succ]
              refine takeD13 (i := 4) (v := ?vt14) (d := some 25) rfl rfl (by kernel_rfl) (by kernel_rfl) (by kernel_rfl) (fun _ _ _ h => h) (Or.inl ⟨by rfl, ?ht14⟩) (by assumption) ?rt14
              case ht14 => intro w hSw; obtain ⟨_, x0, x1, x2, x3, y0, y1, y2, y3⟩ := hSw; go_simp; try (with_reducible rfl)
              try simp only [Act.put, List.setIfInBounds_toArray, List.set_cons_zero, List.set_cons_succ]
              refine takeD13 (i := 5) (v := ?vt15) (d := some 26) rfl rfl (by kernel_rfl) (by kernel_rfl) (by kernel_rfl) (fun _ _ _ h => h) (Or.inl ⟨by rfl, ?ht15⟩) (by assumption) ?rt15
              case ht15 => intro w hSw; obtain ⟨_, x0, x1, x2, x3, y0, y1, y2, y3⟩ := hSw; go_simp; try (with_reducible rfl)
              try simp only [Act.put, List.setIfInBounds_toArray, List.set_cons_zero, List.set_cons_succ]
              refine takeD13 (i := 6) (v := ?vt16) (d := some 27) rfl rfl (by kernel_rfl) (by kernel_rfl) (by kernel_rfl) (fun _ _ _ h => h) (Or.inl ⟨by rfl, ?ht16⟩) (by assumption) ?rt16
              case ht16 => intro w hSw; obtain ⟨_, x0, x1, x2, x3, y0, y1, y2, y3⟩ := hSw; go_simp; try (with_reducible rfl)
              try simp only [Act.put, List.setIfInBounds_toArray, List.set_cons_zero, List.set_cons_succ]
              refine takeD13 (i := 7) (v := ?vt17) (d := some 28) rfl rfl (by kernel_rfl) (by kernel_rfl) (by kernel_rfl) (fun _ _ _ h => h) (Or.inl ⟨by rfl, ?ht17⟩) (by assumption) ?rt17
              case ht17 => intro w hSw; obtain ⟨_, x0, x1, x2, x3, y0, y1, y2, y3⟩ := hSw; go_simp; try (with_reducible rfl)
              try simp only [Act.put, List.setIfInBounds_toArray, List.set_cons_zero, List.set_cons_succ]
              refine wpAnyH_ready (rs := [8]) (by kernel_rfl) (by simp) ?_
              refine AllReadyH.cons rfl (fun K hK => ?_) AllReadyH.nil
              go_simp
              go_at_call 37
              refine (aheadR x y true _ HR.out).mono ?_
              rintro e wq ⟨rfl, hx⟩
              have hbx := bthen hHeld.below hx
              have hHq := HDS.out _ hbx
              clear hHeld hx
              refine hK.out _ _ hHq (fun hHeld => ?_)
              clear hK K
              try simp only [Act.put, List.setIfInBounds_toArray, List.set_cons_zero, List.set_cons_succ]
              refine takeD13 (i := 9) (v := ?vt19) (d := some 30) rfl rfl (by kernel_rfl) (by kernel_rfl) (by kernel_rfl) (fun _ _ _ h => h) (Or.inl ⟨by rfl, ?ht19⟩) (by assumption) ?rt19
              case ht19 => intro w hSw; obtain ⟨_, x0, x1, x2, x3, y0, y1, y2, y3⟩ := hSw; go_simp; try (with_reducible rfl)
              try simp only [Act.put, List.setIfInBounds_toArray, List.set_cons_zero, List.set_cons_succ]
              refine wpAnyH_done (by kernel_rfl) ?_ _
              obtain ⟨hbq, z0, z1, z2, z3, y0, y1, y2, y3⟩ := hHq
              have HOQ := Lib.hid (HO.out.keep hbq)
              have hbw := bthen hb hbq
              have hsz := hbw.size
              have hwq : wr.heap.size ≤ wq.heap.size := hbq.size
              have HKY := Lib.hid (fun w' (h : Below w1.heap.size wq w') => show (w'.cell? ⟨b, o + k * 4, none⟩ = some (.string (sB y.host)) ∧ w'.cell? ⟨b, o + k * 4 + 1, none⟩ = some (.int .i64 y.kind)) ∧ w'.cell? ⟨b, o + k * 4 + 2, none⟩ = some (.string (sB y.key)) ∧ w'.cell? ⟨b, o + k * 4 + 3, none⟩ = some (.string (sB y.val)) from
                ⟨⟨(h.cell (p := ⟨b, o + k * 4, none⟩) hwb).trans y0, (h.cell (p := ⟨b, o + k * 4 + 1, none⟩) hwb).trans y1⟩, (h.cell (p := ⟨b, o + k * 4 + 2, none⟩) hwb).trans y2, (h.cell (p := ⟨b, o + k * 4 + 3, none⟩) hwb).trans y3⟩)
              go_wp2_with (first | (at_builtin; refine wpList_appG eEd _ rfl (.tmp 31) (.tmp 33) rfl w1.heap.size u5 so rfl HOQ.out x 1 _ rfl _ rfl rfl (by have := HLS.out; omega) hsz ?_; intro v5 w5 hown5 hb5; obtain ⟨⟨r0, r1⟩, r2, r3⟩ := HKY.out _ hb5; have hsz5 := Nat.le_trans hsz hb5.size; have HO5 := Lib.hid hown5; have hl5 : (so ++ [x]).length + 1 ≤ 1099511627776 := (by have := HLS.out; simp; omega)) | (at_builtin; refine wpList_appG eEd _ rfl (.tmp 35) (.tmp 40) rfl w1.heap.size v5 (so ++ [x]) rfl HO5.out y 1 _ rfl _ rfl rfl hl5 hsz5 ?_; intro v6 w6 hown6 hb6))
              go_roundg (n - (k + 1))
              case rel => exact ⟨k + 1, (so ++ [x] ++ [y], true), (by show _ = _; omega), by omega, by go_num, Lib.hid (HFS.out.trans HST.out), rfl, Lib.hid hown6, HNX, (hbw.trans hb5).trans hb6⟩
              case measure => omega
            | false =>
              have HR := Lib.hid hr
              have HST := Lib.hid (show H.stepE x (so, false) y = (so ++ [y], false) from if_neg (fun h => by rw [hr] at h; cases h.2))
              clear hr
              go_wp2
              go_region
              go_wp2
              refine wp_region_held_drew (S := fun w' => TwoE wr w' g x b o k y) (by kernel_rfl) (HDS.out _ ((Below.refl _ _).drew.drew)) (fun hHeld => ?_)
              refine takeD13 (i := 0) (v := ?vf10) (d := some 21) rfl rfl (by kernel_rfl) (by kernel_rfl) (by kernel_rfl) (fun _ _ _ h => h) (Or.inl ⟨by rfl, ?hf10⟩) (by assumption) ?rf10
              case hf10 => intro w hSw; obtain ⟨_, x0, x1, x2, x3, y0, y1, y2, y3⟩ := hSw; go_simp; try (with_reducible rfl)
              try simp only [Act.put, List.setIfInBounds_toArray, List.set_cons_zero, List.set_cons_succ]
              refine takeD13 (i := 1) (v := ?vf11) (d := some 22) rfl rfl (by kernel_rfl) (by kernel_rfl) (by kernel_rfl) (fun _ _ _ h => h) (Or.inl ⟨by rfl, ?hf11⟩) (by assumption) ?rf11
              case hf11 => intro w hSw; obtain ⟨_, x0, x1, x2, x3, y0, y1, y2, y3⟩ := hSw; go_simp; try (with_reducible rfl)
              try simp only [Act.put, List.setIfInBounds_toArray, List.set_cons_zero, List.set_cons_succ]
              refine takeD13 (i := 2) (v := ?vf12) (d := some 23) rfl rfl (by kernel_rfl) (by kernel_rfl) (by kernel_rfl) (fun _ _ _ h => h) (Or.inl ⟨by rfl, ?hf12⟩) (by assumption) ?rf12
              case hf12 => intro w hSw; obtain ⟨_, x0, x1, x2, x3, y0, y1, y2, y3⟩ := hSw; go_simp; try (with_reducible rfl)
              try simp only [Act.put, List.setIfInBounds_toArray, List.set_cons_zero, List.set_cons_succ]
              refine takeD13 (i := 3) (v := ?vf13) (d := some 24) rfl rfl (by kernel_rfl) (by kernel_rfl) (by kernel_rfl) (fun _ _ _ h => h) (Or.inl ⟨by rfl, ?hf13⟩) (by assumption) ?rf13
              case hf13 => intro w hSw; obtain ⟨_, x0, x1, x2, x3, y0, y1, y2, y3⟩ := hSw; go_simp; try (with_reducible rfl)
              try simp only [Act.put, List.setIfInBounds_toArray, List.set_cons_zero, List.set_cons_succ]
              refine takeD13 (i := 4) (v := ?vf14) (d := some 25) rfl rfl (by kernel_rfl) (by kernel_rfl) (by kernel_rfl) (fun _ _ _ h => h) (Or.inl ⟨by rfl, ?hf14⟩) (by assumption) ?rf14
              case hf14 => intro w hSw; obtain ⟨_, x0, x1, x2, x3, y0, y1, y2, y3⟩ := hSw; go_simp; try (with_reducible rfl)
              try simp only [Act.put, List.setIfInBounds_toArray, List.set_cons_zero, List.set_cons_succ]
              refine takeD13 (i := 5) (v := ?vf15) (d := some 26) rfl rfl (by kernel_rfl) (by kernel_rfl) (by kernel_rfl) (fun _ _ _ h => h) (Or.inl ⟨by rfl, ?hf15⟩) (by assumption) ?rf15
              case hf15 => intro w hSw; obtain ⟨_, x0, x1, x2, x3, y0, y1, y2, y3⟩ := hSw; go_simp; try (with_reducible rfl)
              try simp only [Act.put, List.setIfInBounds_toArray, List.set_cons_zero, List.set_cons_succ]
              refine takeD13 (i := 6) (v := ?vf16) (d := some 27) rfl rfl (by kernel_rfl) (by kernel_rfl) (by kernel_rfl) (fun _ _ _ h => h) (Or.inl ⟨by rfl, ?hf16⟩) (by assumption) ?rf16
              case hf16 => intro w hSw; obtain ⟨_, x0, x1, x2, x3, y0, y1, y2, y3⟩ := hSw; go_simp; try (with_reducible rfl)
              try simp only [Act.put, List.setIfInBounds_toArray, List.set_cons_zero, List.set_cons_succ]
              refine takeD13 (i := 7) (v := ?vf17) (d := some 28) rfl rfl (by kernel_rfl) (by kernel_rfl) (by kernel_rfl) (fun _ _ _ h => h) (Or.inl ⟨by rfl, ?hf17⟩) (by assumption) ?rf17
              case hf17 => intro w hSw; obtain ⟨_, x0, x1, x2, x3, y0, y1, y2, y3⟩ := hSw; go_simp; try (with_reducible rfl)
              try simp only [Act.put, List.setIfInBounds_toArray, List.set_cons_zero, List.set_cons_succ]
              refine wpAnyH_ready (rs := [8]) (by kernel_rfl) (by simp) ?_
              refine AllReadyH.cons rfl (fun K hK => ?_) AllReadyH.nil
              go_simp
              go_at_call 37
              refine (aheadR x y false _ HR.out).mono ?_
              rintro e wq ⟨rfl, hx⟩
              have hbx := bthen hHeld.below hx
              have hHq := HDS.out _ hbx
              clear hHeld hx
              refine hK.out _ _ hHq (fun hHeld => ?_)
              clear hK K
              try simp only [Act.put, List.setIfInBounds_toArray, List.set_cons_zero, List.set_cons_succ]
              refine takeD13 (i := 9) (v := ?vf19) (d := some 30) rfl rfl (by kernel_rfl) (by kernel_rfl) (by kernel_rfl) (fun _ _ _ h => h) (Or.inl ⟨by rfl, ?hf19⟩) (by assumption) ?rf19
              case hf19 => intro w hSw; obtain ⟨_, x0, x1, x2, x3, y0, y1, y2, y3⟩ := hSw; go_simp; try (with_reducible rfl)
              try simp only [Act.put, List.setIfInBounds_toArray, List.set_cons_zero, List.set_cons_succ]
              refine wpAnyH_done (by kernel_rfl) ?_ _
              obtain ⟨hbq, z0, z1, z2, z3, y0, y1, y2, y3⟩ := hHq
              have HOQ := Lib.hid (HO.out.keep hbq)
              have hbw := bthen hb hbq
              have hsz := hbw.size
              go_wp2_with (at_builtin; refine wpList_appG eEd _ rfl (.tmp 35) (.tmp 40) rfl w1.heap.size u5 so rfl HOQ.out y 1 _ rfl _ rfl rfl (by have := HLS.out; omega) hsz ?_; intro v5 w5 hown5 hb5)
              go_roundg (n - (k + 1))
              case rel => exact ⟨k + 1, (so ++ [y], false), (by show _ = _; omega), by omega, by go_num, Lib.hid (HFS.out.trans HST.out), rfl, Lib.hid hown5, HNX, hbw.trans hb5⟩
              case measure => omega
        · have n0 := sB_eq j0
          have n1 : (y.kind == x.kind) = true := beq_iff_eq.2 j1
          have n3 := sB_ne j
          clear he j j0 j1
          cases sd with
          | true =>
            have HST := Lib.hid (show H.stepE x (so, true) y = (so ++ [y], true) from if_neg (fun h => by cases h.1))
            go_wp2
            go_region
            go_wp2
            refine wp_region_held_drew (S := fun w' => TwoE wr w' g x b o k y) (by kernel_rfl) (HDS.out _ ((Below.refl _ _).drew.drew)) (fun hHeld => ?_)
            refine takeD13 (i := 0) (v := ?vd20) (d := some 21) rfl rfl (by kernel_rfl) (by kernel_rfl) (by kernel_rfl) (fun _ _ _ h => h) (Or.inl ⟨by rfl, ?hd20⟩) (by assumption) ?rd20
            case hd20 => intro w hSw; obtain ⟨_, x0, x1, x2, x3, y0, y1, y2, y3⟩ := hSw; go_simp; try (with_reducible rfl)
            try simp only [Act.put, List.setIfInBounds_toArray, List.set_cons_zero, List.set_cons_succ]
            refine takeD13 (i := 1) (v := ?vd21) (d := some 22) rfl rfl (by kernel_rfl) (by kernel_rfl) (by kernel_rfl) (fun _ _ _ h => h) (Or.inl ⟨by rfl, ?hd21⟩) (by assumption) ?rd21
            case hd21 => intro w hSw; obtain ⟨_, x0, x1, x2, x3, y0, y1, y2, y3⟩ := hSw; go_simp; try (with_reducible rfl)
            try simp only [Act.put, List.setIfInBounds_toArray, List.set_cons_zero, List.set_cons_succ]
            refine takeD13 (i := 2) (v := ?vd22) (d := some 23) rfl rfl (by kernel_rfl) (by kernel_rfl) (by kernel_rfl) (fun _ _ _ h => h) (Or.inl ⟨by rfl, ?hd22⟩) (by assumption) ?rd22
            case hd22 => intro w hSw; obtain ⟨_, x0, x1, x2, x3, y0, y1, y2, y3⟩ := hSw; go_simp; try (with_reducible rfl)
            try simp only [Act.put, List.setIfInBounds_toArray, List.set_cons_zero, List.set_cons_succ]
            refine takeD13 (i := 3) (v := undef) (d := some 24) rfl rfl (by kernel_rfl) (by kernel_rfl) (by kernel_rfl) (fun _ _ _ h => h) (Or.inr ⟨by rfl, rfl⟩) (by assumption) ?rd23
            try simp only [Act.put, List.setIfInBounds_toArray, List.set_cons_zero, List.set_cons_succ]
            refine takeD13 (i := 4) (v := undef) (d := some 25) rfl rfl (by kernel_rfl) (by kernel_rfl) (by kernel_rfl) (fun _ _ _ h => h) (Or.inr ⟨by rfl, rfl⟩) (by assumption) ?rd24
            try simp only [Act.put, List.setIfInBounds_toArray, List.set_cons_zero, List.set_cons_succ]
            refine takeD13 (i := 5) (v := undef) (d := some 26) rfl rfl (by kernel_rfl) (by kernel_rfl) (by kernel_rfl) (fun _ _ _ h => h) (Or.inr ⟨by rfl, rfl⟩) (by assumption) ?rd25
            try simp only [Act.put, List.setIfInBounds_toArray, List.set_cons_zero, List.set_cons_succ]
            refine takeD13 (i := 6) (v := undef) (d := some 27) rfl rfl (by kernel_rfl) (by kernel_rfl) (by kernel_rfl) (fun _ _ _ h => h) (Or.inr ⟨by rfl, rfl⟩) (by assumption) ?rd26
            try simp only [Act.put, List.setIfInBounds_toArray, List.set_cons_zero, List.set_cons_succ]
            refine takeD13 (i := 7) (v := undef) (d := some 28) rfl rfl (by kernel_rfl) (by kernel_rfl) (by kernel_rfl) (fun _ _ _ h => h) (Or.inr ⟨by rfl, rfl⟩) (by assumption) ?rd27
            try simp only [Act.put, List.setIfInBounds_toArray, List.set_cons_zero, List.set_cons_succ]
            refine takeD13 (i := 8) (v := undef) (d := some 29) rfl rfl (by kernel_rfl) (by kernel_rfl) (by kernel_rfl) (fun _ _ _ h => h) (Or.inr ⟨by rfl, rfl⟩) (by assumption) ?rd28
            try simp only [Act.put, List.setIfInBounds_toArray, List.set_cons_zero, List.set_cons_succ]
            refine takeD13 (i := 9) (v := ?vd29) (d := some 30) rfl rfl (by kernel_rfl) (by kernel_rfl) (by kernel_rfl) (fun _ _ _ h => h) (Or.inl ⟨by rfl, ?hd29⟩) (by assumption) ?rd29
            case hd29 => intro w hSw; obtain ⟨_, x0, x1, x2, x3, y0, y1, y2, y3⟩ := hSw; go_simp; try (with_reducible rfl)
            try simp only [Act.put, List.setIfInBounds_toArray, List.set_cons_zero, List.set_cons_succ]
            refine wpAnyH_done (by kernel_rfl) ?_ _
            obtain ⟨hbq, z0, z1, z2, z3, y0, y1, y2, y3⟩ := hHeld
            have hsz := hb.size
            go_wp2_with (at_builtin; refine wpList_appG eEd (wr.drew.drew) rfl (.tmp 35) (.tmp 40) rfl w1.heap.size u5 so rfl HO.out y 1 _ rfl _ rfl rfl (by have := HLS.out; omega) hsz ?_; intro v5 w5 hown5 hb5)
            go_roundg (n - (k + 1))
            case rel => exact ⟨k + 1, (so ++ [y], true), (by show _ = _; omega), by omega, by go_num, Lib.hid (HFS.out.trans HST.out), rfl, Lib.hid hown5, HNX, hb.drew.drew.trans hb5⟩
            case measure => omega
          | false =>
            obtain ⟨r, hr⟩ : ∃ r, H.aheadE x y = r := ⟨_, rfl⟩
            cases r with
            | true =>
              have HR := Lib.hid hr
              have HST := Lib.hid (show H.stepE x (so, false) y = (so ++ [x] ++ [y], true) from if_pos ⟨rfl, hr⟩)
              clear hr
              go_wp2
              go_region
              go_wp2
              refine wp_region_held_drew (S := fun w' => TwoE wr w' g x b o k y) (by kernel_rfl) (HDS.out _ ((Below.refl _ _).drew.drew)) (fun hHeld => ?_)
              refine takeD13 (i := 0) (v := ?vt20) (d := some 21) rfl rfl (by kernel_rfl) (by kernel_rfl) (by kernel_rfl) (fun _ _ _ h => h) (Or.inl ⟨by rfl, ?ht20⟩) (by assumption) ?rt20
              case ht20 => intro w hSw; obtain ⟨_, x0, x1, x2, x3, y0, y1, y2, y3⟩ := hSw; go_simp; try (with_reducible rfl)
              try simp only [Act.put, List.setIfInBounds_toArray, List.set_cons_zero, List.set_cons_succ]
              refine takeD13 (i := 1) (v := ?vt21) (d := some 22) rfl rfl (by kernel_rfl) (by kernel_rfl) (by kernel_rfl) (fun _ _ _ h => h) (Or.inl ⟨by rfl, ?ht21⟩) (by assumption) ?rt21
              case ht21 => intro w hSw; obtain ⟨_, x0, x1, x2, x3, y0, y1, y2, y3⟩ := hSw; go_simp; try (with_reducible rfl)
              try simp only [Act.put, List.setIfInBounds_toArray, List.set_cons_zero, List.set_cons_succ]
              refine takeD13 (i := 2) (v := ?vt22) (d := some 23) rfl rfl (by kernel_rfl) (by kernel_rfl) (by kernel_rfl) (fun _ _ _ h => h) (Or.inl ⟨by rfl, ?ht22⟩) (by assumption) ?rt22
              case ht22 => intro w hSw; obtain ⟨_, x0, x1, x2, x3, y0, y1, y2, y3⟩ := hSw; go_simp; try (with_reducible rfl)
              try simp only [Act.put, List.setIfInBounds_toArray, List.set_cons_zero, List.set_cons_succ]
              refine takeD13 (i := 3) (v := ?vt23) (d := some 24) rfl rfl (by kernel_rfl) (by kernel_rfl) (by kernel_rfl) (fun _ _ _ h => h) (Or.inl ⟨by rfl, ?ht23⟩) (by assumption) ?rt23
              case ht23 => intro w hSw; obtain ⟨_, x0, x1, x2, x3, y0, y1, y2, y3⟩ := hSw; go_simp; try (with_reducible rfl)
              try simp only [Act.put, List.setIfInBounds_toArray, List.set_cons_zero, List.set_cons_succ]
              refine takeD13 (i := 4) (v := ?vt24) (d := some 25) rfl rfl (by kernel_rfl) (by kernel_rfl) (by kernel_rfl) (fun _ _ _ h => h) (Or.inl ⟨by rfl, ?ht24⟩) (by assumption) ?rt24
              case ht24 => intro w hSw; obtain ⟨_, x0, x1, x2, x3, y0, y1, y2, y3⟩ := hSw; go_simp; try (with_reducible rfl)
              try simp only [Act.put, List.setIfInBounds_toArray, List.set_cons_zero, List.set_cons_succ]
              refine takeD13 (i := 5) (v := ?vt25) (d := some 26) rfl rfl (by kernel_rfl) (by kernel_rfl) (by kernel_rfl) (fun _ _ _ h => h) (Or.inl ⟨by rfl, ?ht25⟩) (by assumption) ?rt25
              case ht25 => intro w hSw; obtain ⟨_, x0, x1, x2, x3, y0, y1, y2, y3⟩ := hSw; go_simp; try (with_reducible rfl)
              try simp only [Act.put, List.setIfInBounds_toArray, List.set_cons_zero, List.set_cons_succ]
              refine takeD13 (i := 6) (v := ?vt26) (d := some 27) rfl rfl (by kernel_rfl) (by kernel_rfl) (by kernel_rfl) (fun _ _ _ h => h) (Or.inl ⟨by rfl, ?ht26⟩) (by assumption) ?rt26
              case ht26 => intro w hSw; obtain ⟨_, x0, x1, x2, x3, y0, y1, y2, y3⟩ := hSw; go_simp; try (with_reducible rfl)
              try simp only [Act.put, List.setIfInBounds_toArray, List.set_cons_zero, List.set_cons_succ]
              refine takeD13 (i := 7) (v := ?vt27) (d := some 28) rfl rfl (by kernel_rfl) (by kernel_rfl) (by kernel_rfl) (fun _ _ _ h => h) (Or.inl ⟨by rfl, ?ht27⟩) (by assumption) ?rt27
              case ht27 => intro w hSw; obtain ⟨_, x0, x1, x2, x3, y0, y1, y2, y3⟩ := hSw; go_simp; try (with_reducible rfl)
              try simp only [Act.put, List.setIfInBounds_toArray, List.set_cons_zero, List.set_cons_succ]
              refine wpAnyH_ready (rs := [8]) (by kernel_rfl) (by simp) ?_
              refine AllReadyH.cons rfl (fun K hK => ?_) AllReadyH.nil
              go_simp
              go_at_call 37
              refine (aheadR x y true _ HR.out).mono ?_
              rintro e wq ⟨rfl, hx⟩
              have hbx := bthen hHeld.below hx
              have hHq := HDS.out _ hbx
              clear hHeld hx
              refine hK.out _ _ hHq (fun hHeld => ?_)
              clear hK K
              try simp only [Act.put, List.setIfInBounds_toArray, List.set_cons_zero, List.set_cons_succ]
              refine takeD13 (i := 9) (v := ?vt29) (d := some 30) rfl rfl (by kernel_rfl) (by kernel_rfl) (by kernel_rfl) (fun _ _ _ h => h) (Or.inl ⟨by rfl, ?ht29⟩) (by assumption) ?rt29
              case ht29 => intro w hSw; obtain ⟨_, x0, x1, x2, x3, y0, y1, y2, y3⟩ := hSw; go_simp; try (with_reducible rfl)
              try simp only [Act.put, List.setIfInBounds_toArray, List.set_cons_zero, List.set_cons_succ]
              refine wpAnyH_done (by kernel_rfl) ?_ _
              obtain ⟨hbq, z0, z1, z2, z3, y0, y1, y2, y3⟩ := hHq
              have HOQ := Lib.hid (HO.out.keep hbq)
              have hbw := bthen hb hbq
              have hsz := hbw.size
              have hwq : wr.heap.size ≤ wq.heap.size := hbq.size
              have HKY := Lib.hid (fun w' (h : Below w1.heap.size wq w') => show (w'.cell? ⟨b, o + k * 4, none⟩ = some (.string (sB y.host)) ∧ w'.cell? ⟨b, o + k * 4 + 1, none⟩ = some (.int .i64 y.kind)) ∧ w'.cell? ⟨b, o + k * 4 + 2, none⟩ = some (.string (sB y.key)) ∧ w'.cell? ⟨b, o + k * 4 + 3, none⟩ = some (.string (sB y.val)) from
                ⟨⟨(h.cell (p := ⟨b, o + k * 4, none⟩) hwb).trans y0, (h.cell (p := ⟨b, o + k * 4 + 1, none⟩) hwb).trans y1⟩, (h.cell (p := ⟨b, o + k * 4 + 2, none⟩) hwb).trans y2, (h.cell (p := ⟨b, o + k * 4 + 3, none⟩) hwb).trans y3⟩)
              go_wp2_with (first | (at_builtin; refine wpList_appG eEd _ rfl (.tmp 31) (.tmp 33) rfl w1.heap.size u5 so rfl HOQ.out x 1 _ rfl _ rfl rfl (by have := HLS.out; omega) hsz ?_; intro v5 w5 hown5 hb5; obtain ⟨⟨r0, r1⟩, r2, r3⟩ := HKY.out _ hb5; have hsz5 := Nat.le_trans hsz hb5.size; have HO5 := Lib.hid hown5; have hl5 : (so ++ [x]).length + 1 ≤ 1099511627776 := (by have := HLS.out; simp; omega)) | (at_builtin; refine wpList_appG eEd _ rfl (.tmp 35) (.tmp 40) rfl w1.heap.size v5 (so ++ [x]) rfl HO5.out y 1 _ rfl _ rfl rfl hl5 hsz5 ?_; intro v6 w6 hown6 hb6))
              go_roundg (n - (k + 1))
              case rel => exact ⟨k + 1, (so ++ [x] ++ [y], true), (by show _ = _; omega), by omega, by go_num, Lib.hid (HFS.out.trans HST.out), rfl, Lib.hid hown6, HNX, (hbw.trans hb5).trans hb6⟩
              case measure => omega
            | false =>
              have HR := Lib.hid hr
              have HST := Lib.hid (show H.stepE x (so, false) y = (so ++ [y], false) from if_neg (fun h => by rw [hr] at h; cases h.2))
              clear hr
              go_wp2
              go_region
              go_wp2
              refine wp_region_held_drew (S := fun w' => TwoE wr w' g x b o k y) (by kernel_rfl) (HDS.out _ ((Below.refl _ _).drew.drew)) (fun hHeld => ?_)
              refine takeD13 (i := 0) (v := ?vf20) (d := some 21) rfl rfl (by kernel_rfl) (by kernel_rfl) (by kernel_rfl) (fun _ _ _ h => h) (Or.inl ⟨by rfl, ?hf20⟩) (by assumption) ?rf20
              case hf20 => intro w hSw; obtain ⟨_, x0, x1, x2, x3, y0, y1, y2, y3⟩ := hSw; go_simp; try (with_reducible rfl)
              try simp only [Act.put, List.setIfInBounds_toArray, List.set_cons_zero, List.set_cons_succ]
              refine takeD13 (i := 1) (v := ?vf21) (d := some 22) rfl rfl (by kernel_rfl) (by kernel_rfl) (by kernel_rfl) (fun _ _ _ h => h) (Or.inl ⟨by rfl, ?hf21⟩) (by assumption) ?rf21
              case hf21 => intro w hSw; obtain ⟨_, x0, x1, x2, x3, y0, y1, y2, y3⟩ := hSw; go_simp; try (with_reducible rfl)
              try simp only [Act.put, List.setIfInBounds_toArray, List.set_cons_zero, List.set_cons_succ]
              refine takeD13 (i := 2) (v := ?vf22) (d := some 23) rfl rfl (by kernel_rfl) (by kernel_rfl) (by kernel_rfl) (fun _ _ _ h => h) (Or.inl ⟨by rfl, ?hf22⟩) (by assumption) ?rf22
              case hf22 => intro w hSw; obtain ⟨_, x0, x1, x2, x3, y0, y1, y2, y3⟩ := hSw; go_simp; try (with_reducible rfl)
              try simp only [Act.put, List.setIfInBounds_toArray, List.set_cons_zero, List.set_cons_succ]
              refine takeD13 (i := 3) (v := ?vf23) (d := some 24) rfl rfl (by kernel_rfl) (by kernel_rfl) (by kernel_rfl) (fun _ _ _ h => h) (Or.inl ⟨by rfl, ?hf23⟩) (by assumption) ?rf23
              case hf23 => intro w hSw; obtain ⟨_, x0, x1, x2, x3, y0, y1, y2, y3⟩ := hSw; go_simp; try (with_reducible rfl)
              try simp only [Act.put, List.setIfInBounds_toArray, List.set_cons_zero, List.set_cons_succ]
              refine takeD13 (i := 4) (v := ?vf24) (d := some 25) rfl rfl (by kernel_rfl) (by kernel_rfl) (by kernel_rfl) (fun _ _ _ h => h) (Or.inl ⟨by rfl, ?hf24⟩) (by assumption) ?rf24
              case hf24 => intro w hSw; obtain ⟨_, x0, x1, x2, x3, y0, y1, y2, y3⟩ := hSw; go_simp; try (with_reducible rfl)
              try simp only [Act.put, List.setIfInBounds_toArray, List.set_cons_zero, List.set_cons_succ]
              refine takeD13 (i := 5) (v := ?vf25) (d := some 26) rfl rfl (by kernel_rfl) (by kernel_rfl) (by kernel_rfl) (fun _ _ _ h => h) (Or.inl ⟨by rfl, ?hf25⟩) (by assumption) ?rf25
              case hf25 => intro w hSw; obtain ⟨_, x0, x1, x2, x3, y0, y1, y2, y3⟩ := hSw; go_simp; try (with_reducible rfl)
              try simp only [Act.put, List.setIfInBounds_toArray, List.set_cons_zero, List.set_cons_succ]
              refine takeD13 (i := 6) (v := ?vf26) (d := some 27) rfl rfl (by kernel_rfl) (by kernel_rfl) (by kernel_rfl) (fun _ _ _ h => h) (Or.inl ⟨by rfl, ?hf26⟩) (by assumption) ?rf26
              case hf26 => intro w hSw; obtain ⟨_, x0, x1, x2, x3, y0, y1, y2, y3⟩ := hSw; go_simp; try (with_reducible rfl)
              try simp only [Act.put, List.setIfInBounds_toArray, List.set_cons_zero, List.set_cons_succ]
              refine takeD13 (i := 7) (v := ?vf27) (d := some 28) rfl rfl (by kernel_rfl) (by kernel_rfl) (by kernel_rfl) (fun _ _ _ h => h) (Or.inl ⟨by rfl, ?hf27⟩) (by assumption) ?rf27
              case hf27 => intro w hSw; obtain ⟨_, x0, x1, x2, x3, y0, y1, y2, y3⟩ := hSw; go_simp; try (with_reducible rfl)
              try simp only [Act.put, List.setIfInBounds_toArray, List.set_cons_zero, List.set_cons_succ]
              refine wpAnyH_ready (rs := [8]) (by kernel_rfl) (by simp) ?_
              refine AllReadyH.cons rfl (fun K hK => ?_) AllReadyH.nil
              go_simp
              go_at_call 37
              refine (aheadR x y false _ HR.out).mono ?_
              rintro e wq ⟨rfl, hx⟩
              have hbx := bthen hHeld.below hx
              have hHq := HDS.out _ hbx
              clear hHeld hx
              refine hK.out _ _ hHq (fun hHeld => ?_)
              clear hK K
              try simp only [Act.put, List.setIfInBounds_toArray, List.set_cons_zero, List.set_cons_succ]
              refine takeD13 (i := 9) (v := ?vf29) (d := some 30) rfl rfl (by kernel_rfl) (by kernel_rfl) (by kernel_rfl) (fun _ _ _ h => h) (Or.inl ⟨by rfl, ?hf29⟩) (by assumption) ?rf29
              case hf29 => intro w hSw; obtain ⟨_, x0, x1, x2, x3, y0, y1, y2, y3⟩ := hSw; go_simp; try (with_reducible rfl)
              try simp only [Act.put, List.setIfInBounds_toArray, List.set_cons_zero, List.set_cons_succ]
              refine wpAnyH_done (by kernel_rfl) ?_ _
              obtain ⟨hbq, z0, z1, z2, z3, y0, y1, y2, y3⟩ := hHq
              have HOQ := Lib.hid (HO.out.keep hbq)
              have hbw := bthen hb hbq
              have hsz := hbw.size
              go_wp2_with (at_builtin; refine wpList_appG eEd _ rfl (.tmp 35) (.tmp 40) rfl w1.heap.size u5 so rfl HOQ.out y 1 _ rfl _ rfl rfl (by have := HLS.out; omega) hsz ?_; intro v5 w5 hown5 hb5)
              go_roundg (n - (k + 1))
              case rel => exact ⟨k + 1, (so ++ [y], false), (by show _ = _; omega), by omega, by go_num, Lib.hid (HFS.out.trans HST.out), rfl, Lib.hid hown5, HNX, hbw.trans hb5⟩
              case measure => omega
        · have n0 := sB_eq j0
          have n1 : (y.kind == x.kind) = true := beq_iff_eq.2 j1
          have n2 := sB_eq j2
          have n3 := sB_ne j
          clear he j j0 j1 j2
          cases sd with
          | true =>
            have HST := Lib.hid (show H.stepE x (so, true) y = (so ++ [y], true) from if_neg (fun h => by cases h.1))
            go_wp2
            go_region
            go_wp2
            refine wp_region_held_drew (S := fun w' => TwoE wr w' g x b o k y) (by kernel_rfl) (HDS.out _ ((Below.refl _ _).drew.drew)) (fun hHeld => ?_)
            refine takeD13 (i := 0) (v := ?vd30) (d := some 21) rfl rfl (by kernel_rfl) (by kernel_rfl) (by kernel_rfl) (fun _ _ _ h => h) (Or.inl ⟨by rfl, ?hd30⟩) (by assumption) ?rd30
            case hd30 => intro w hSw; obtain ⟨_, x0, x1, x2, x3, y0, y1, y2, y3⟩ := hSw; go_simp; try (with_reducible rfl)
            try simp only [Act.put, List.setIfInBounds_toArray, List.set_cons_zero, List.set_cons_succ]
            refine takeD13 (i := 1) (v := ?vd31) (d := some 22) rfl rfl (by kernel_rfl) (by kernel_rfl) (by kernel_rfl) (fun _ _ _ h => h) (Or.inl ⟨by rfl, ?hd31⟩) (by assumption) ?rd31
            case hd31 => intro w hSw; obtain ⟨_, x0, x1, x2, x3, y0, y1, y2, y3⟩ := hSw; go_simp; try (with_reducible rfl)
            try simp only [Act.put, List.setIfInBounds_toArray, List.set_cons_zero, List.set_cons_succ]
            refine takeD13 (i := 2) (v := ?vd32) (d := some 23) rfl rfl (by kernel_rfl) (by kernel_rfl) (by kernel_rfl) (fun _ _ _ h => h) (Or.inl ⟨by rfl, ?hd32⟩) (by assumption) ?rd32
            case hd32 => intro w hSw; obtain ⟨_, x0, x1, x2, x3, y0, y1, y2, y3⟩ := hSw; go_simp; try (with_reducible rfl)
            try simp only [Act.put, List.setIfInBounds_toArray, List.set_cons_zero, List.set_cons_succ]
            refine takeD13 (i := 3) (v := undef) (d := some 24) rfl rfl (by kernel_rfl) (by kernel_rfl) (by kernel_rfl) (fun _ _ _ h => h) (Or.inr ⟨by rfl, rfl⟩) (by assumption) ?rd33
            try simp only [Act.put, List.setIfInBounds_toArray, List.set_cons_zero, List.set_cons_succ]
            refine takeD13 (i := 4) (v := undef) (d := some 25) rfl rfl (by kernel_rfl) (by kernel_rfl) (by kernel_rfl) (fun _ _ _ h => h) (Or.inr ⟨by rfl, rfl⟩) (by assumption) ?rd34
            try simp only [Act.put, List.setIfInBounds_toArray, List.set_cons_zero, List.set_cons_succ]
            refine takeD13 (i := 5) (v := undef) (d := some 26) rfl rfl (by kernel_rfl) (by kernel_rfl) (by kernel_rfl) (fun _ _ _ h => h) (Or.inr ⟨by rfl, rfl⟩) (by assumption) ?rd35
            try simp only [Act.put, List.setIfInBounds_toArray, List.set_cons_zero, List.set_cons_succ]
            refine takeD13 (i := 6) (v := undef) (d := some 27) rfl rfl (by kernel_rfl) (by kernel_rfl) (by kernel_rfl) (fun _ _ _ h => h) (Or.inr ⟨by rfl, rfl⟩) (by assumption) ?rd36
            try simp only [Act.put, List.setIfInBounds_toArray, List.set_cons_zero, List.set_cons_succ]
            refine takeD13 (i := 7) (v := undef) (d := some 28) rfl rfl (by kernel_rfl) (by kernel_rfl) (by kernel_rfl) (fun _ _ _ h => h) (Or.inr ⟨by rfl, rfl⟩) (by assumption) ?rd37
            try simp only [Act.put, List.setIfInBounds_toArray, List.set_cons_zero, List.set_cons_succ]
            refine takeD13 (i := 8) (v := undef) (d := some 29) rfl rfl (by kernel_rfl) (by kernel_rfl) (by kernel_rfl) (fun _ _ _ h => h) (Or.inr ⟨by rfl, rfl⟩) (by assumption) ?rd38
            try simp only [Act.put, List.setIfInBounds_toArray, List.set_cons_zero, List.set_cons_succ]
            refine takeD13 (i := 9) (v := ?vd39) (d := some 30) rfl rfl (by kernel_rfl) (by kernel_rfl) (by kernel_rfl) (fun _ _ _ h => h) (Or.inl ⟨by rfl, ?hd39⟩) (by assumption) ?rd39
            case hd39 => intro w hSw; obtain ⟨_, x0, x1, x2, x3, y0, y1, y2, y3⟩ := hSw; go_simp; try (with_reducible rfl)
            try simp only [Act.put, List.setIfInBounds_toArray, List.set_cons_zero, List.set_cons_succ]
            refine wpAnyH_done (by kernel_rfl) ?_ _
            obtain ⟨hbq, z0, z1, z2, z3, y0, y1, y2, y3⟩ := hHeld
            have hsz := hb.size
            go_wp2_with (at_builtin; refine wpList_appG eEd (wr.drew.drew) rfl (.tmp 35) (.tmp 40) rfl w1.heap.size u5 so rfl HO.out y 1 _ rfl _ rfl rfl (by have := HLS.out; omega) hsz ?_; intro v5 w5 hown5 hb5)
            go_roundg (n - (k + 1))
            case rel => exact ⟨k + 1, (so ++ [y], true), (by show _ = _; omega), by omega, by go_num, Lib.hid (HFS.out.trans HST.out), rfl, Lib.hid hown5, HNX, hb.drew.drew.trans hb5⟩
            case measure => omega
          | false =>
            obtain ⟨r, hr⟩ : ∃ r, H.aheadE x y = r := ⟨_, rfl⟩
            cases r with
            | true =>
              have HR := Lib.hid hr
              have HST := Lib.hid (show H.stepE x (so, false) y = (so ++ [x] ++ [y], true) from if_pos ⟨rfl, hr⟩)
              clear hr
              go_wp2
              go_region
              go_wp2
              refine wp_region_held_drew (S := fun w' => TwoE wr w' g x b o k y) (by kernel_rfl) (HDS.out _ ((Below.refl _ _).drew.drew)) (fun hHeld => ?_)
              refine takeD13 (i := 0) (v := ?vt30) (d := some 21) rfl rfl (by kernel_rfl) (by kernel_rfl) (by kernel_rfl) (fun _ _ _ h => h) (Or.inl ⟨by rfl, ?ht30⟩) (by assumption) ?rt30
              case ht30 => intro w hSw; obtain ⟨_, x0, x1, x2, x3, y0, y1, y2, y3⟩ := hSw; go_simp; try (with_reducible rfl)
              try simp only [Act.put, List.setIfInBounds_toArray, List.set_cons_zero, List.set_cons_succ]
              refine takeD13 (i := 1) (v := ?vt31) (d := some 22) rfl rfl (by kernel_rfl) (by kernel_rfl) (by kernel_rfl) (fun _ _ _ h => h) (Or.inl ⟨by rfl, ?ht31⟩) (by assumption) ?rt31
              case ht31 => intro w hSw; obtain ⟨_, x0, x1, x2, x3, y0, y1, y2, y3⟩ := hSw; go_simp; try (with_reducible rfl)
              try simp only [Act.put, List.setIfInBounds_toArray, List.set_cons_zero, List.set_cons_succ]
              refine takeD13 (i := 2) (v := ?vt32) (d := some 23) rfl rfl (by kernel_rfl) (by kernel_rfl) (by kernel_rfl) (fun _ _ _ h => h) (Or.inl ⟨by rfl, ?ht32⟩) (by assumption) ?rt32
              case ht32 => intro w hSw; obtain ⟨_, x0, x1, x2, x3, y0, y1, y2, y3⟩ := hSw; go_simp; try (with_reducible rfl)
              try simp only [Act.put, List.setIfInBounds_toArray, List.set_cons_zero, List.set_cons_succ]
              refine takeD13 (i := 3) (v := ?vt33) (d := some 24) rfl rfl (by kernel_rfl) (by kernel_rfl) (by kernel_rfl) (fun _ _ _ h => h) (Or.inl ⟨by rfl, ?ht33⟩) (by assumption) ?rt33
              case ht33 => intro w hSw; obtain ⟨_, x0, x1, x2, x3, y0, y1, y2, y3⟩ := hSw; go_simp; try (with_reducible rfl)
              try simp only [Act.put, List.setIfInBounds_toArray, List.set_cons_zero, List.set_cons_succ]
              refine takeD13 (i := 4) (v := ?vt34) (d := some 25) rfl rfl (by kernel_rfl) (by kernel_rfl) (by kernel_rfl) (fun _ _ _ h => h) (Or.inl ⟨by rfl, ?ht34⟩) (by assumption) ?rt34
              case ht34 => intro w hSw; obtain ⟨_, x0, x1, x2, x3, y0, y1, y2, y3⟩ := hSw; go_simp; try (with_reducible rfl)
              try simp only [Act.put, List.setIfInBounds_toArray, List.set_cons_zero, List.set_cons_succ]
              refine takeD13 (i := 5) (v := ?vt35) (d := some 26) rfl rfl (by kernel_rfl) (by kernel_rfl) (by kernel_rfl) (fun _ _ _ h => h) (Or.inl ⟨by rfl, ?ht35⟩) (by assumption) ?rt35
              case ht35 => intro w hSw; obtain ⟨_, x0, x1, x2, x3, y0, y1, y2, y3⟩ := hSw; go_simp; try (with_reducible rfl)
              try simp only [Act.put, List.setIfInBounds_toArray, List.set_cons_zero, List.set_cons_succ]
              refine takeD13 (i := 6) (v := ?vt36) (d := some 27) rfl rfl (by kernel_rfl) (by kernel_rfl) (by kernel_rfl) (fun _ _ _ h => h) (Or.inl ⟨by rfl, ?ht36⟩) (by assumption) ?rt36
              case ht36 => intro w hSw; obtain ⟨_, x0, x1, x2, x3, y0, y1, y2, y3⟩ := hSw; go_simp; try (with_reducible rfl)
              try simp only [Act.put, List.setIfInBounds_toArray, List.set_cons_zero, List.set_cons_succ]
              refine takeD13 (i := 7) (v := ?vt37) (d := some 28) rfl rfl (by kernel_rfl) (by kernel_rfl) (by kernel_rfl) (fun _ _ _ h => h) (Or.inl ⟨by rfl, ?ht37⟩) (by assumption) ?rt37
              case ht37 => intro w hSw; obtain ⟨_, x0, x1, x2, x3, y0, y1, y2, y3⟩ := hSw; go_simp; try (with_reducible rfl)
              try simp only [Act.put, List.setIfInBounds_toArray, List.set_cons_zero, List.set_cons_succ]
              refine wpAnyH_ready (rs := [8]) (by kernel_rfl) (by simp) ?_
              refine AllReadyH.cons rfl (fun K hK => ?_) AllReadyH.nil
              go_simp
              go_at_call 37
              refine (aheadR x y true _ HR.out).mono ?_
              rintro e wq ⟨rfl, hx⟩
              have hbx := bthen hHeld.below hx
              have hHq := HDS.out _ hbx
              clear hHeld hx
              refine hK.out _ _ hHq (fun hHeld => ?_)
              clear hK K
              try simp only [Act.put, List.setIfInBounds_toArray, List.set_cons_zero, List.set_cons_succ]
              refine takeD13 (i := 9) (v := ?vt39) (d := some 30) rfl rfl (by kernel_rfl) (by kernel_rfl) (by kernel_rfl) (fun _ _ _ h => h) (Or.inl ⟨by rfl, ?ht39⟩) (by assumption) ?rt39
              case ht39 => intro w hSw; obtain ⟨_, x0, x1, x2, x3, y0, y1, y2, y3⟩ := hSw; go_simp; try (with_reducible rfl)
              try simp only [Act.put, List.setIfInBounds_toArray, List.set_cons_zero, List.set_cons_succ]
              refine wpAnyH_done (by kernel_rfl) ?_ _
              obtain ⟨hbq, z0, z1, z2, z3, y0, y1, y2, y3⟩ := hHq
              have HOQ := Lib.hid (HO.out.keep hbq)
              have hbw := bthen hb hbq
              have hsz := hbw.size
              have hwq : wr.heap.size ≤ wq.heap.size := hbq.size
              have HKY := Lib.hid (fun w' (h : Below w1.heap.size wq w') => show (w'.cell? ⟨b, o + k * 4, none⟩ = some (.string (sB y.host)) ∧ w'.cell? ⟨b, o + k * 4 + 1, none⟩ = some (.int .i64 y.kind)) ∧ w'.cell? ⟨b, o + k * 4 + 2, none⟩ = some (.string (sB y.key)) ∧ w'.cell? ⟨b, o + k * 4 + 3, none⟩ = some (.string (sB y.val)) from
                ⟨⟨(h.cell (p := ⟨b, o + k * 4, none⟩) hwb).trans y0, (h.cell (p := ⟨b, o + k * 4 + 1, none⟩) hwb).trans y1⟩, (h.cell (p := ⟨b, o + k * 4 + 2, none⟩) hwb).trans y2, (h.cell (p := ⟨b, o + k * 4 + 3, none⟩) hwb).trans y3⟩)
              go_wp2_with (first | (at_builtin; refine wpList_appG eEd _ rfl (.tmp 31) (.tmp 33) rfl w1.heap.size u5 so rfl HOQ.out x 1 _ rfl _ rfl rfl (by have := HLS.out; omega) hsz ?_; intro v5 w5 hown5 hb5; obtain ⟨⟨r0, r1⟩, r2, r3⟩ := HKY.out _ hb5; have hsz5 := Nat.le_trans hsz hb5.size; have HO5 := Lib.hid hown5; have hl5 : (so ++ [x]).length + 1 ≤ 1099511627776 := (by have := HLS.out; simp; omega)) | (at_builtin; refine wpList_appG eEd _ rfl (.tmp 35) (.tmp 40) rfl w1.heap.size v5 (so ++ [x]) rfl HO5.out y 1 _ rfl _ rfl rfl hl5 hsz5 ?_; intro v6 w6 hown6 hb6))
              go_roundg (n - (k + 1))
              case rel => exact ⟨k + 1, (so ++ [x] ++ [y], true), (by show _ = _; omega), by omega, by go_num, Lib.hid (HFS.out.trans HST.out), rfl, Lib.hid hown6, HNX, (hbw.trans hb5).trans hb6⟩
              case measure => omega
            | false =>
              have HR := Lib.hid hr
              have HST := Lib.hid (show H.stepE x (so, false) y = (so ++ [y], false) from if_neg (fun h => by rw [hr] at h; cases h.2))
              clear hr
              go_wp2
              go_region
              go_wp2
              refine wp_region_held_drew (S := fun w' => TwoE wr w' g x b o k y) (by kernel_rfl) (HDS.out _ ((Below.refl _ _).drew.drew)) (fun hHeld => ?_)
              refine takeD13 (i := 0) (v := ?vf30) (d := some 21) rfl rfl (by kernel_rfl) (by kernel_rfl) (by kernel_rfl) (fun _ _ _ h => h) (Or.inl ⟨by rfl, ?hf30⟩) (by assumption) ?rf30
              case hf30 => intro w hSw; obtain ⟨_, x0, x1, x2, x3, y0, y1, y2, y3⟩ := hSw; go_simp; try (with_reducible rfl)
              try simp only [Act.put, List.setIfInBounds_toArray, List.set_cons_zero, List.set_cons_succ]
              refine takeD13 (i := 1) (v := ?vf31) (d := some 22) rfl rfl (by kernel_rfl) (by kernel_rfl) (by kernel_rfl) (fun _ _ _ h => h) (Or.inl ⟨by rfl, ?hf31⟩) (by assumption) ?rf31
              case hf31 => intro w hSw; obtain ⟨_, x0, x1, x2, x3, y0, y1, y2, y3⟩ := hSw; go_simp; try (with_reducible rfl)
              try simp only [Act.put, List.setIfInBounds_toArray, List.set_cons_zero, List.set_cons_succ]
              refine takeD13 (i := 2) (v := ?vf32) (d := some 23) rfl rfl (by kernel_rfl) (by kernel_rfl) (by kernel_rfl) (fun _ _ _ h => h) (Or.inl ⟨by rfl, ?hf32⟩) (by assumption) ?rf32
              case hf32 => intro w hSw; obtain ⟨_, x0, x1, x2, x3, y0, y1, y2, y3⟩ := hSw; go_simp; try (with_reducible rfl)
              try simp only [Act.put, List.setIfInBounds_toArray, List.set_cons_zero, List.set_cons_succ]
              refine takeD13 (i := 3) (v := ?vf33) (d := some 24) rfl rfl (by kernel_rfl) (by kernel_rfl) (by kernel_rfl) (fun _ _ _ h => h) (Or.inl ⟨by rfl, ?hf33⟩) (by assumption) ?rf33
              case hf33 => intro w hSw; obtain ⟨_, x0, x1, x2, x3, y0, y1, y2, y3⟩ := hSw; go_simp; try (with_reducible rfl)
              try simp only [Act.put, List.setIfInBounds_toArray, List.set_cons_zero, List.set_cons_succ]
              refine takeD13 (i := 4) (v := ?vf34) (d := some 25) rfl rfl (by kernel_rfl) (by kernel_rfl) (by kernel_rfl) (fun _ _ _ h => h) (Or.inl ⟨by rfl, ?hf34⟩) (by assumption) ?rf34
              case hf34 => intro w hSw; obtain ⟨_, x0, x1, x2, x3, y0, y1, y2, y3⟩ := hSw; go_simp; try (with_reducible rfl)
              try simp only [Act.put, List.setIfInBounds_toArray, List.set_cons_zero, List.set_cons_succ]
              refine takeD13 (i := 5) (v := ?vf35) (d := some 26) rfl rfl (by kernel_rfl) (by kernel_rfl) (by kernel_rfl) (fun _ _ _ h => h) (Or.inl ⟨by rfl, ?hf35⟩) (by assumption) ?rf35
              case hf35 => intro w hSw; obtain ⟨_, x0, x1, x2, x3, y0, y1, y2, y3⟩ := hSw; go_simp; try (with_reducible rfl)
              try simp only [Act.put, List.setIfInBounds_toArray, List.set_cons_zero, List.set_cons_succ]
              refine takeD13 (i := 6) (v := ?vf36) (d := some 27) rfl rfl (by kernel_rfl) (by kernel_rfl) (by kernel_rfl) (fun _ _ _ h => h) (Or.inl ⟨by rfl, ?hf36⟩) (by assumption) ?rf36
              case hf36 => intro w hSw; obtain ⟨_, x0, x1, x2, x3, y0, y1, y2, y3⟩ := hSw; go_simp; try (with_reducible rfl)
              try simp only [Act.put, List.setIfInBounds_toArray, List.set_cons_zero, List.set_cons_succ]
              refine takeD13 (i := 7) (v := ?vf37) (d := some 28) rfl rfl (by kernel_rfl) (by kernel_rfl) (by kernel_rfl) (fun _ _ _ h => h) (Or.inl ⟨by rfl, ?hf37⟩) (by assumption) ?rf37
              case hf37 => intro w hSw; obtain ⟨_, x0, x1, x2, x3, y0, y1, y2, y3⟩ := hSw; go_simp; try (with_reducible rfl)
              try simp only [Act.put, List.setIfInBounds_toArray, List.set_cons_zero, List.set_cons_succ]
              refine wpAnyH_ready (rs := [8]) (by kernel_rfl) (by simp) ?_
              refine AllReadyH.cons rfl (fun K hK => ?_) AllReadyH.nil
              go_simp
              go_at_call 37
              refine (aheadR x y false _ HR.out).mono ?_
              rintro e wq ⟨rfl, hx⟩
              have hbx := bthen hHeld.below hx
              have hHq := HDS.out _ hbx
              clear hHeld hx
              refine hK.out _ _ hHq (fun hHeld => ?_)
              clear hK K
              try simp only [Act.put, List.setIfInBounds_toArray, List.set_cons_zero, List.set_cons_succ]
              refine takeD13 (i := 9) (v := ?vf39) (d := some 30) rfl rfl (by kernel_rfl) (by kernel_rfl) (by kernel_rfl) (fun _ _ _ h => h) (Or.inl ⟨by rfl, ?hf39⟩) (by assumption) ?rf39
              case hf39 => intro w hSw; obtain ⟨_, x0, x1, x2, x3, y0, y1, y2, y3⟩ := hSw; go_simp; try (with_reducible rfl)
              try simp only [Act.put, List.setIfInBounds_toArray, List.set_cons_zero, List.set_cons_succ]
              refine wpAnyH_done (by kernel_rfl) ?_ _
              obtain ⟨hbq, z0, z1, z2, z3, y0, y1, y2, y3⟩ := hHq
              have HOQ := Lib.hid (HO.out.keep hbq)
              have hbw := bthen hb hbq
              have hsz := hbw.size
              go_wp2_with (at_builtin; refine wpList_appG eEd _ rfl (.tmp 35) (.tmp 40) rfl w1.heap.size u5 so rfl HOQ.out y 1 _ rfl _ rfl rfl (by have := HLS.out; omega) hsz ?_; intro v5 w5 hown5 hb5)
              go_roundg (n - (k + 1))
              case rel => exact ⟨k + 1, (so ++ [y], false), (by show _ = _; omega), by omega, by go_num, Lib.hid (HFS.out.trans HST.out), rfl, Lib.hid hown5, HNX, hbw.trans hb5⟩
              case measure => omega
    · have blt : decide ((k : Int) < (n : Int)) = false := decide_eq_false (by omega)
      have blt2 : decide (k < n) = false := decide_eq_false hlt
      obtain rfl : n = k := by omega
      have HTK := Lib.hid (show l.take n = l from List.take_of_length_le (by have := HN.out; omega))
      have HPU := Lib.hid (show H.putE l x = H.finE x (so, sd) by
        have h1 := HNI.out
        have h2 := HF.out
        rw [HTK.out] at h1 h2
        unfold H.putE
        rw [if_neg h1, ← h2, H.fold_ins]
        rfl)
      have q0 := (hb.cell (p := ⟨g, 0, none⟩) hgw).trans p0
      have q1 := (hb.cell (p := ⟨g, 1, none⟩) hgw).trans p1
      have q2 := (hb.cell (p := ⟨g, 2, none⟩) hgw).trans p2
      have q3 := (hb.cell (p := ⟨g, 3, none⟩) hgw).trans p3
      have hsz := hb.size
      have HLS := Lib.hid (show so.length ≤ n + 1 by
        have h1 := H.fold_len x (l.take n) ([], false)
        rw [HF.out, List.length_take] at h1
        simp at h1
        omega)
      cases sd with
      | true =>
        have HPV := Lib.hid (show H.putE l x = so from HPU.out)
        obtain ⟨B, d, rfl, hd, hs⟩ := HO.out.seenN (show so.length = m by rw [← HPV.out]; exact HM.out)
        go_wp2
        go_ret
        exact ⟨B, d, rfl, hd, (by rw [HPV.out]; exact hs), bthen HB1.out hb⟩
      | false =>
        have HPV := Lib.hid (show H.putE l x = so ++ [x] from HPU.out)
        have HML := Lib.hid (show (so ++ [x]).length = m by rw [← HPV.out]; exact HM.out)
        go_wp2_with (at_builtin; refine wpList_appG eEd _ rfl (.tmp 44) (.tmp 46) rfl w1.heap.size u5 so rfl HO.out x 1 _ rfl _ rfl rfl (by have := HLS.out; omega) hsz ?_; intro v5 w5 hown5 hb5; obtain ⟨B, d, rfl, hd, hs⟩ := hown5.seenN HML.out)
        go_ret
        exact ⟨B, d, rfl, hd, (by rw [HPV.out]; exact hs), bthen HB1.out (hb.trans hb5)⟩
end Go.Proofs.Ytpkhnchbamjgjaa

namespace Go.Proofs.Ytpkhnchbamjgjaa.H
theorem ins_len (e : En) : ∀ l : List En, (insE e l).length = l.length + 1
  | [] => rfl
  | y :: l => by
    unfold insE
    split
    · rfl
    · rw [List.length_cons, ins_len e l, List.length_cons]
theorem put_len (l : List En) (e : En) : (putE l e).length ≤ l.length + 1 := by
  unfold putE
  split
  · omega
  · rw [ins_len]; omega
end Go.Proofs.Ytpkhnchbamjgjaa.H

namespace Go.Proofs.Ytpkhnchbamjgjaa
open Go.RowKit
set_option linter.unusedVariables false

set_option maxRecDepth 100000 in
set_option maxHeartbeats 4000000 in
theorem setR (A : Option Addr) (c n m : Nat) (l : List H.En) (w : World) (hn : l.length = n) (hl : n ≤ 33554431) (hA : Seen eEd w A l) (hm : (H.setE l).length = m) :
    Calls Try.prog 23 #[.slice A n c] w (fun e w' => ∃ B d, e = .returned (.slice B m d) ∧ m ≤ d ∧ Seen eEd w' B (H.setE l) ∧ Below w.heap.size w w') := by
  have HN := Lib.hid hn
  have HM := Lib.hid hm
  have HA := Lib.hid hA
  clear hA hn hm
  go_enter Try.func23, Try.ntmps23
  go_wp2
  go_loopg [3, 4] n (fun gk vo vi wr => ∃ (k q d : Nat) (B : Option Addr) (s : List H.En), Hid (k + gk = n) ∧ k ≤ n ∧ vi = .int .i64 (k : Int) ∧ vo = .slice B q d ∧ Hid ((l.take k).foldl H.putE [] = s) ∧ Hid (s.length = q) ∧ q ≤ k ∧ q ≤ d ∧ Hid (Seen eEd wr B s) ∧ Below w.heap.size w wr)
  case atStart => exact ⟨0, 0, 0, none, [], Nat.zero_add _, Nat.zero_le _, rfl, rfl, rfl, rfl, Nat.le_refl _, Nat.le_refl _, Seen.nil, Below.refl _ _⟩
  case round =>
    obtain ⟨k, q, d, B, s, HG, hk, rfl, rfl, HF, HQ, hqk, hqd, HS, hb⟩ := hrel
    have hgk := HG.out
    by_cases hlt : k < n
    · have blt : decide ((k : Int) < (n : Int)) = true := decide_eq_true (by omega)
      have blt2 : decide (k < n) = true := decide_eq_true hlt
      have hki : (k : Int) < (n : Int) := by omega
      have hkl : k < l.length := by have := HN.out; omega
      obtain ⟨b, o, rfl, hwb, hL⟩ := HA.out (by omega)
      obtain ⟨d0, d1, d2, d3⟩ := (hL.below hb hwb).entry rfl rfl hkl
      have HX := Lib.hid (List.take_succ_eq_append_getElem hkl)
      generalize l[k] = y at d0 d1 d2 d3 HX
      obtain ⟨q2, hq2⟩ : ∃ q2, (H.putE s y).length = q2 := ⟨_, rfl⟩
      have hq2k : q2 ≤ k + 1 := by have := H.put_len s y; have := HQ.out; omega
      have HQ2 := Lib.hid hq2
      have HF2 := Lib.hid (show (l.take (k + 1)).foldl H.putE [] = H.putE s y by rw [HX.out, List.foldl_append, HF.out]; rfl)
      clear hL hq2
      go_wp2_with fail
      refine (putR B d q q2 s y _ HQ.out (by omega) hqd HS.out HQ2.out).mono ?_
      rintro e w2 ⟨B2, d2', rfl, hd2, hs2, hx⟩
      have hbn := bthen hb hx
      have HS2 := Lib.hid hs2
      clear hx hs2
      go_wp2
      go_roundg (n - (k + 1))
      case rel => exact ⟨k + 1, q2, d2', B2, H.putE s y, (by show _ = _; omega), by omega, by go_num, rfl, HF2, HQ2, hq2k, hd2, HS2, hbn⟩
      case measure => omega
    · have blt : decide ((k : Int) < (n : Int)) = false := decide_eq_false (by omega)
      have blt2 : decide (k < n) = false := decide_eq_false hlt
      have HE := Lib.hid (show s = H.setE l by
        have := HF.out
        rw [List.take_of_length_le (by have := HN.out; omega)] at this
        exact this.symm)
      have hqm : q = m := by rw [← HQ.out, HE.out, HM.out]
      subst hqm
      go_wp2
      go_ret
      exact ⟨B, d, rfl, hqd, (by rw [← HE.out]; exact HS.out), hb⟩
set_option maxRecDepth 100000 in
set_option maxHeartbeats 4000000 in
theorem refsO14 (A : Option Addr) (c n : Nat) (l : List H.En) (w : World) (hn : l.length = n) (hl : n ≤ 1073741824) (hA : Seen eEc w A l) :
    Calls Try.prog 12 #[.slice A n c] w (OwnS eEd w l) := by
  have HA := Lib.hid hA
  have HN := Lib.hid hn
  clear hA hn
  go_enter Try.func12, Try.ntmps12
  go_wp2
  go_loopg [3, 8] n (fun gk vo vi wr => ∃ k : Nat, Hid (k + gk = n) ∧ k ≤ n ∧ vi = .int .i64 (k : Int) ∧ Hid (Own eEd wr w.heap.size vo (l.take k)) ∧ Below w.heap.size w wr)
  case atStart => exact ⟨0, Nat.zero_add _, Nat.zero_le _, rfl, Own.nil _ _, Below.refl _ _⟩
  case round =>
    obtain ⟨k, HG, hk, rfl, HO, hb⟩ := hrel
    have hgk := HG.out
    by_cases hlt : k < n
    · have blt : decide ((k : Int) < (n : Int)) = true := decide_eq_true (by omega)
      have blt2 : decide (k < n) = true := decide_eq_true hlt
      have hki : (k : Int) < (n : Int) := by omega
      have hkl : k < l.length := by have := HN.out; omega
      obtain ⟨b, o, rfl, hwb, hL⟩ := HA.out (by omega)
      obtain ⟨q0, q1, q2, q3⟩ := (hL.below hb hwb).entry rfl rfl hkl
      have HX := Lib.hid (List.take_succ_eq_append_getElem hkl)
      generalize l[k] = y at q0 q1 q2 q3 HX
      have hb1 := up wr (.cells #[.string (sB y.host), .int .i64 y.kind, .string (sB y.key), .string (sB y.val)] 44)
      have HO1 := Lib.hid (HO.out.keep hb1)
      have hbw := bthen hb hb1
      have HLN := Lib.hid (show (l.take k).length + 1 ≤ 1099511627776 by rw [List.length_take]; omega)
      have hszx := hbw.size
      have y0 : (wr.alloc (.cells #[.string (sB y.host), .int .i64 y.kind, .string (sB y.key), .string (sB y.val)] 44)).cell? ⟨wr.heap.size, 0, none⟩ = some (.string (sB y.host)) := World.cell?_alloc_mark wr _ _ (0, 0) 0
      have y1 : (wr.alloc (.cells #[.string (sB y.host), .int .i64 y.kind, .string (sB y.key), .string (sB y.val)] 44)).cell? ⟨wr.heap.size, 1, none⟩ = some (.int .i64 y.kind) := World.cell?_alloc_mark wr _ _ (0, 0) 1
      have y2 : (wr.alloc (.cells #[.string (sB y.host), .int .i64 y.kind, .string (sB y.key), .string (sB y.val)] 44)).cell? ⟨wr.heap.size, 2, none⟩ = some (.string (sB y.key)) := World.cell?_alloc_mark wr _ _ (0, 0) 2
      have y3 : (wr.alloc (.cells #[.string (sB y.host), .int .i64 y.kind, .string (sB y.key), .string (sB y.val)] 44)).cell? ⟨wr.heap.size, 3, none⟩ = some (.string (sB y.val)) := World.cell?_alloc_mark wr _ _ (0, 0) 3
      have HBW := Lib.hid hbw
      clear hL hb1 hbw
      go_wp2_with (at_builtin; refine wpList_appG eEd _ rfl (.tmp 12) (.tmp 14) rfl w.heap.size u3 (l.take k) rfl HO1.out y 1 _ rfl (wr.heap.size + 1) (by simp) rfl HLN.out hszx ?_; intro v5 w5 hown5 hb5)
      go_roundg (n - (k + 1))
      case rel => exact ⟨k + 1, (by show _ = _; omega), by omega, by go_num, (by rw [HX.out]; exact hown5), HBW.out.trans hb5⟩
      case measure => omega
    · have blt : decide ((k : Int) < (n : Int)) = false := decide_eq_false (by omega)
      have blt2 : decide (k < n) = false := decide_eq_false hlt
      have HE := Lib.hid (show l.take k = l from List.take_of_length_le (by have := HN.out; omega))
      go_wp2
      go_ret
      exact ⟨_, rfl, (by rw [← HE.out]; exact HO.out), hb⟩
theorem refs14 (A : Option Addr) (c n : Nat) (l : List H.En) (w : World) (hn : l.length = n) (hl : n ≤ 1073741824) (hA : Seen eEc w A l) :
    Calls Try.prog 12 #[.slice A n c] w (fun e w' => ∃ B d, e = .returned (.slice B n d) ∧ n ≤ d ∧ Seen eEd w' B l ∧ Below w.heap.size w w') := by
  refine (refsO14 A c n l w hn hl hA).mono ?_
  rintro e w' ⟨v, rfl, ho, hb⟩
  obtain ⟨B, d, rfl, hd, hs⟩ := ho.seenN hn
  exact ⟨B, d, rfl, hd, hs, hb⟩
end Go.Proofs.Ytpkhnchbamjgjaa

namespace Go.Proofs.Ytpkhnchbamjgjaa.Pt
open C (Wd)
open H (En setE putE SortE)

/-- What is in one list, and not in another one. -/
def lessE (a b : List En) : List En := setE (a.filter fun x => decide (x ∉ b))
def applyE (l d p : List En) : List En := p.foldl putE (lessE l d)
def onlyE (l : List En) (h : Wd) : List En := l.filter fun x => decide (x.host = h)
/-- A list without what stands twice in a row. -/
def sqH : List Wd → List Wd
  | [] => []
  | [x] => [x]
  | x :: y :: r => if x = y then sqH (y :: r) else x :: sqH (y :: r)
def hostsE (l : List En) : List Wd := sqH ((setE l).map fun x => x.host)
theorem mem_less {a b : List En} {x : En} : x ∈ lessE a b ↔ x ∈ a ∧ x ∉ b := by
  unfold lessE; rw [H.mem_set, List.mem_filter, decide_eq_true_eq]
theorem less_sort (a b : List En) : SortE (lessE a b) := H.set_sort _
theorem mem_apply {l d p : List En} {x : En} : x ∈ applyE l d p ↔ (x ∈ l ∧ x ∉ d) ∨ x ∈ p := by
  unfold applyE; rw [(H.fold_put p _ (less_sort l d)).2, mem_less]
theorem apply_sort (l d p : List En) : SortE (applyE l d p) := (H.fold_put p _ (less_sort l d)).1
theorem mem_only {l : List En} {h : Wd} {x : En} : x ∈ onlyE l h ↔ x ∈ l ∧ x.host = h := by
  unfold onlyE; rw [List.mem_filter, decide_eq_true_eq]
/-- The first list, with the patch between applied, is the second one. -/
theorem makes (a b : List En) : applyE a (lessE a b) (lessE b a) = setE b := by
  refine H.set_ext (apply_sort _ _ _) fun x => ?_
  rw [mem_apply, mem_less, mem_less]
  constructor
  · rintro (⟨h1, h2⟩ | h)
    · exact Decidable.byContradiction fun k => h2 ⟨h1, k⟩
    · exact h.1
  · intro hb
    by_cases ha : x ∈ a
    · exact .inl ⟨ha, fun k => k.2 hb⟩
    · exact .inr ⟨hb, ha⟩
/-- Any patch that does so has each of its entries. -/
theorem least {a b d p : List En} (h : applyE a d p = setE b) : (∀ x ∈ lessE a b, x ∈ d) ∧ ∀ x ∈ lessE b a, x ∈ p := by
  have hm : ∀ x, ((x ∈ a ∧ x ∉ d) ∨ x ∈ p) ↔ x ∈ b := fun x => by rw [← mem_apply, h, H.mem_set]
  refine ⟨fun x hx => ?_, fun x hx => ?_⟩
  · obtain ⟨h1, h2⟩ := mem_less.1 hx
    exact Decidable.byContradiction fun k => h2 ((hm x).1 (.inl ⟨h1, k⟩))
  · obtain ⟨h1, h2⟩ := mem_less.1 hx
    rcases (hm x).2 h1 with k | k
    · exact absurd k.1 h2
    · exact k
theorem twice (l d p : List En) : applyE (applyE l d p) d p = applyE l d p := by
  refine H.sort_ext (apply_sort _ _ _) (apply_sort _ _ _) fun x => ?_
  rw [mem_apply, mem_apply]
  constructor
  · rintro (⟨h, _⟩ | h)
    · exact h
    · exact .inr h
  · rintro (⟨h1, h2⟩ | h)
    · exact .inl ⟨.inl ⟨h1, h2⟩, h2⟩
    · exact .inr h
theorem less_self (l : List En) : lessE l l = [] := by
  cases h : lessE l l with
  | nil => rfl
  | cons x r =>
    have : x ∈ lessE l l := by rw [h]; exact List.mem_cons_self
    exact absurd (mem_less.1 this).1 (mem_less.1 this).2
theorem chain (a b c : List En) : applyE (applyE a (lessE a b) (lessE b a)) (lessE b c) (lessE c b) = applyE a (lessE a c) (lessE c a) := by
  rw [makes a b, makes a c]
  refine H.set_ext (apply_sort _ _ _) fun x => ?_
  rw [mem_apply, mem_less, mem_less, H.mem_set]
  constructor
  · rintro (⟨h1, h2⟩ | h)
    · exact Decidable.byContradiction fun k => h2 ⟨h1, k⟩
    · exact h.1
  · intro hc
    by_cases hb : x ∈ b
    · exact .inl ⟨hb, fun k => k.2 hc⟩
    · exact .inr ⟨hc, hb⟩
theorem less_len (a b : List En) : (lessE a b).length ≤ a.length := Nat.le_trans (H.set_len _) (List.length_filter_le _ _)
theorem put_len (l : List En) (e : En) : (putE l e).length ≤ l.length + 1 := by
  have h : ∀ l : List En, (H.insE e l).length = l.length + 1 := by
    intro l
    induction l with
    | nil => rfl
    | cons y r ih =>
      unfold H.insE
      split
      · simp
      · rw [List.length_cons, ih, List.length_cons]
  unfold H.putE
  split
  · omega
  · rw [h]; exact Nat.le_refl _
theorem fold_len : ∀ (p l : List En), (p.foldl putE l).length ≤ l.length + p.length
  | [], l => by simp
  | e :: p, l => by
    rw [List.foldl_cons, List.length_cons]
    have h1 := fold_len p (putE l e)
    have h2 := put_len l e
    omega
theorem apply_len (l d p : List En) : (applyE l d p).length ≤ l.length + p.length := Nat.le_trans (fold_len p _) (Nat.add_le_add_right (less_len l d) _)

/-! ### Hosts -/
theorem mem_sq : ∀ {l : List Wd} {x : Wd}, x ∈ sqH l ↔ x ∈ l
  | [], x => by simp [sqH]
  | [y], x => by simp [sqH]
  | y :: z :: r, x => by
    unfold sqH
    split
    · next h => rw [mem_sq, h]; simp
    · rw [List.mem_cons, mem_sq, List.mem_cons (a := x) (b := y)]
theorem mem_hosts {l : List En} {h : Wd} : h ∈ hostsE l ↔ ∃ x ∈ l, x.host = h := by
  unfold hostsE
  rw [mem_sq, List.mem_map]
  constructor
  · rintro ⟨x, hx, e⟩; exact ⟨x, H.mem_set.1 hx, e⟩
  · rintro ⟨x, hx, e⟩; exact ⟨x, H.mem_set.2 hx, e⟩
/-- Words that don't fall, squeezed, rise. -/
theorem sq_rise : ∀ {l : List Wd}, (l.Pairwise fun a b => a = b ∨ Op.bytesLess a b = true) → (sqH l).Pairwise fun a b => Op.bytesLess a b = true
  | [], _ => List.Pairwise.nil
  | [x], _ => by simp [sqH]
  | x :: y :: r, h => by
    obtain ⟨h1, h2⟩ := List.pairwise_cons.1 h
    unfold sqH
    split
    · exact sq_rise h2
    · next hne =>
      refine List.pairwise_cons.2 ⟨fun z hz => ?_, sq_rise h2⟩
      have hz2 := mem_sq.1 hz
      rcases h1 z hz2 with e | k
      · subst e
        -- x is told again further on: then y stands between x and x
        rcases List.mem_cons.1 hz2 with e | hr
        · exact absurd e hne
        · obtain ⟨h3, _⟩ := List.pairwise_cons.1 h2
          rcases h1 y List.mem_cons_self with e | k
          · exact absurd e hne
          · rcases h3 x hr with e | k2
            · exact absurd e.symm hne
            · have := T.less_trans _ _ _ k k2
              rw [T.less_irr] at this; cases this
      · exact k
theorem set_hosts {l : List En} (h : SortE l) : (l.map fun x => x.host).Pairwise fun a b => a = b ∨ Op.bytesLess a b = true := by
  rw [List.pairwise_map]
  refine h.imp fun {a b} k => ?_
  rcases (H.ahead_iff a b).1 k with k | k
  · exact .inr k
  · exact .inl k.1
theorem hosts_rise (l : List En) : (hostsE l).Pairwise fun a b => Op.bytesLess a b = true := sq_rise (set_hosts (H.set_sort l))
theorem rise_nodup {l : List Wd} (h : l.Pairwise fun a b => Op.bytesLess a b = true) : l.Nodup := h.imp fun {a b} k e => by subst e; rw [T.less_irr] at k; cases k
theorem hosts_nodup (l : List En) : (hostsE l).Nodup := rise_nodup (hosts_rise l)
theorem hosts_len (l : List En) : (hostsE l).length ≤ l.length := by
  have h : ∀ l : List Wd, (sqH l).length ≤ l.length := by
    intro l
    induction l with
    | nil => simp [sqH]
    | cons x r ih =>
      cases r with
      | nil => simp [sqH]
      | cons y r =>
        unfold sqH
        split
        · exact Nat.le_trans ih (by simp)
        · rw [List.length_cons, List.length_cons]; omega
  exact Nat.le_trans (h _) (by rw [List.length_map]; exact H.set_len l)
/-- The parts of a list, host by host, together. -/
theorem parts_len (l : List En) : ∀ (hs : List Wd), hs.Nodup → (hs.map fun h => (onlyE l h).length).sum = (l.filter fun x => decide (x.host ∈ hs)).length
  | [], _ => by rw [List.filter_eq_nil_iff.2 (fun x _ => by simp)]; rfl
  | h :: hs, hn => by
    obtain ⟨h1, h2⟩ := List.nodup_cons.1 hn
    rw [List.map_cons, List.sum_cons, parts_len l hs h2]
    unfold onlyE
    induction l with
    | nil => rfl
    | cons y r ih =>
      rw [List.filter_cons, List.filter_cons, List.filter_cons]
      by_cases e1 : y.host = h
      · have e2 : y.host ∉ hs := by rw [e1]; exact h1
        have e3 : y.host ∈ h :: hs := by rw [e1]; exact List.mem_cons_self
        rw [if_pos (by simpa using e1), if_neg (by simpa using e2), if_pos (by simpa using e3), List.length_cons, List.length_cons]
        omega
      · by_cases e2 : y.host ∈ hs
        · have e3 : y.host ∈ h :: hs := List.mem_cons_of_mem _ e2
          rw [if_neg (by simpa using e1), if_pos (by simpa using e2), if_pos (by simpa using e3), List.length_cons, List.length_cons]
          omega
        · have e3 : y.host ∉ h :: hs := fun k => by
            rcases List.mem_cons.1 k with k | k
            · exact e1 k
            · exact e2 k
          rw [if_neg (by simpa using e1), if_neg (by simpa using e2), if_neg (by simpa using e3)]
          exact ih
theorem parts_all {l m : List En} (hs : ∀ x ∈ l, x ∈ m) : ((hostsE m).map fun h => (onlyE l h).length).sum = l.length := by
  rw [parts_len l _ (hosts_nodup m)]
  congr 1
  rw [List.filter_eq_self]
  intro x hx
  rw [decide_eq_true_eq]
  exact mem_hosts.2 ⟨x, hs x hx, rfl⟩
theorem part_some {d p : List En} {h : Wd} (hh : h ∈ hostsE (d ++ p)) : 0 < (onlyE d h).length + (onlyE p h).length := by
  obtain ⟨x, hx, e⟩ := mem_hosts.1 hh
  rcases List.mem_append.1 hx with k | k
  · have := List.length_pos_of_mem (mem_only.2 ⟨k, e⟩); omega
  · have := List.length_pos_of_mem (mem_only.2 ⟨k, e⟩); omega
/-! ### Host by host -/
/-- The patches of these hosts alone, one behind the other. -/
def byHost (d p : List En) (l : List En) (hs : List Wd) : List En := hs.foldl (fun l h => applyE l (onlyE d h) (onlyE p h)) l
/-- What goes doesn't come. -/
theorem mem_byHost {d p : List En} (hdp : ∀ x ∈ d, x ∉ p) : ∀ (hs : List Wd) (l : List En) (x : En), x ∈ byHost d p l hs ↔ if x.host ∈ hs then (x ∈ l ∧ x ∉ d) ∨ x ∈ p else x ∈ l
  | [], l, x => by simp [byHost]
  | h :: hs, l, x => by
    have h1 := mem_byHost hdp hs (applyE l (onlyE d h) (onlyE p h)) x
    rw [show byHost d p l (h :: hs) = byHost d p (applyE l (onlyE d h) (onlyE p h)) hs from rfl, h1, mem_apply, mem_only, mem_only]
    by_cases e1 : x.host = h
    · rw [if_pos (show x.host ∈ h :: hs by rw [e1]; exact List.mem_cons_self)]
      by_cases e2 : x.host ∈ hs
      · rw [if_pos e2]
        constructor
        · rintro (⟨h2 | h2, h3⟩ | h2)
          · exact .inl ⟨h2.1, h3⟩
          · exact .inr h2.1
          · exact .inr h2
        · rintro (⟨h2, h3⟩ | h2)
          · exact .inl ⟨.inl ⟨h2, fun k => h3 k.1⟩, h3⟩
          · exact .inr h2
      · rw [if_neg e2]
        constructor
        · rintro (⟨h2, h3⟩ | h2)
          · exact .inl ⟨h2, fun k => h3 ⟨k, e1⟩⟩
          · exact .inr h2.1
        · rintro (⟨h2, h3⟩ | h2)
          · exact .inl ⟨h2, fun k => h3 k.1⟩
          · exact .inr ⟨h2, e1⟩
    · have e4 : ((x ∈ l ∧ ¬ (x ∈ d ∧ x.host = h)) ∨ x ∈ p ∧ x.host = h) ↔ x ∈ l :=
        ⟨fun k => k.elim (fun k => k.1) (fun k => absurd k.2 e1), fun k => .inl ⟨k, fun q => e1 q.2⟩⟩
      by_cases e2 : x.host ∈ hs
      · rw [if_pos e2, if_pos (List.mem_cons_of_mem _ e2), e4]
      · rw [if_neg e2, if_neg (fun k => by
          rcases List.mem_cons.1 k with k | k
          · exact e1 k
          · exact e2 k), e4]
theorem byHost_all {a b : List En} {hs : List Wd} (hh : ∀ h, h ∈ hostsE (lessE a b ++ lessE b a) → h ∈ hs) : setE (byHost (lessE a b) (lessE b a) a hs) = setE b := by
  refine H.sort_ext (H.set_sort _) (H.set_sort _) fun x => ?_
  rw [H.mem_set, H.mem_set, mem_byHost (fun y h1 h2 => (mem_less.1 h1).2 (mem_less.1 h2).1)]
  have hm : ∀ y, y ∈ lessE a b ++ lessE b a → y.host ∈ hs := fun y hy => hh _ (mem_hosts.2 ⟨y, hy, rfl⟩)
  by_cases e : x.host ∈ hs
  · rw [if_pos e, ← mem_apply, makes, H.mem_set]
  · rw [if_neg e]
    have h1 : x ∉ lessE a b := fun k => e (hm x (List.mem_append_left _ k))
    have h2 : x ∉ lessE b a := fun k => e (hm x (List.mem_append_right _ k))
    rw [mem_less] at h1 h2
    by_cases ha : x ∈ a
    · by_cases hb : x ∈ b
      · simp [ha, hb]
      · exact absurd ⟨ha, hb⟩ h1
    · by_cases hb : x ∈ b
      · exact absurd ⟨hb, ha⟩ h2
      · simp [ha, hb]
end Go.Proofs.Ytpkhnchbamjgjaa.Pt
