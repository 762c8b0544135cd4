/-
  merge's state and decided; slices of paths of the call's own whose paths are new, too (OwnN). Condition: at most 2^30 lines.
-/
import Derived.Test.YtfajfjocpgbmeaaMergeC
namespace Go.Proofs.Ytfajfjocpgbmeaa
open Go.RowKit
set_option linter.unusedVariables false

theorem findA (A B : Option Addr) (c d n m : Nat) (t : List T.Ln) (p : T.Pth) (w : World) (hA : TArg w A c n t) (hm : p.length = m) (hB : Seen eS w B p) (hp : m ≤ 1073741824) (hR : T.RightT t) :
    Calls Try.prog 18 #[.slice A n c, .slice B m d] w (FindS w t p) := by
  obtain ⟨rfl, hl, hc, hs, hN⟩ := hA
  subst hm
  exact find_any A B c d t p w hs hB hl hp hR
theorem pathN (A : Option Addr) (c n i q : Nat) (t : List T.Ln) (p : T.Pth) (w : World) (hA : TArg w A c n t) (hi : i < n) (hR : T.RightT t) (hp : T.pathL t i = p) (hq : p.length = q + 1) :
    Calls Try.prog 17 #[.slice A n c, .int .i64 i] w (fun e w' => ∃ b o cap, e = .returned (.tuple #[.slice (some ⟨b, o, none⟩) (q + 1) cap, .int .i64 0]) ∧ q + 1 ≤ cap ∧ w.heap.size ≤ b ∧ b < w'.heap.size ∧ Holds eS w' b o p ∧ Below w.heap.size w w') := by
  obtain ⟨rfl, hl, hc, hs, hN⟩ := hA
  refine (Path_new A c t i w hs hl hi hR).mono ?_
  rintro e w1 ⟨B, cap, rfl, h2, h3, h4, h5⟩
  rw [hp] at h2 h3
  rw [hp]
  obtain ⟨b, o, rfl, hb, hH⟩ := h3 (by omega)
  exact ⟨b, o, cap, by rw [hq], by omega, h4 _ rfl, hb, hH, h5⟩

set_option maxRecDepth 100000 in
theorem state_any (A B : Option Addr) (c d n m : Nat) (t : List T.Ln) (p : T.Pth) (s : Int) (w : World) (hA : TArg w A c n t) (hm : p.length = m) (hp : m ≤ 1073741824) (hB : Seen eS w B p) (hR : T.RightT t) (hs : T.stO t p = s) :
    Calls Try.prog 25 #[.slice A n c, .slice B m d] w (IntS w s) := by
  have HA := Lib.hid hA
  have HS := Lib.hid hs
  have HR := Lib.hid hR
  have hcall := findA A B c d n m t p w hA hm hB hp hR
  clear hA hB hm hR hs
  go_enter Try.func25, Try.ntmps25
  go_wp2_with fail
  refine hcall.mono ?_
  rintro e w1 ⟨⟨i, hi, hpi, rfl⟩ | ⟨hno, rfl⟩, hx⟩
  · have hin : i < n := by rw [← HA.out.hn]; exact hi
    have hii : (i : Int) < (n : Int) := by omega
    have b0 : decide ((i : Int) < 0) = false := decide_eq_false (by omega)
    obtain ⟨mk, hmk⟩ : ∃ mk, (T.at_ t i).mark = mk := ⟨_, rfl⟩
    have HV := Lib.hid (show s = mk by rw [← HS.out, ← hmk]; exact HR.out.st_at ((T.mem_entries t p _).2 ⟨i, hi, hpi, rfl⟩))
    obtain ⟨b, o, rfl, hbw, hH⟩ := (HA.out.hA.below hx).lines (by omega)
    have c2 := (hH.line hi).2.2
    rw [hmk] at c2
    clear hH hmk hpi
    go_wp2
    go_ret
    exact ⟨by rw [HV.out]; rfl, hx⟩
  · have HV := Lib.hid (show s = -1 by rw [← HS.out]; exact T.st_no fun ⟨j, hj, ej⟩ => hno j hj ej)
    clear hno
    go_wp2
    go_ret
    exact ⟨by rw [HV.out]; rfl, hx⟩
set_option maxRecDepth 100000 in
theorem decided_any (x y z r : Int) (w : World) (hr : T.dec3 x y z = r) : Calls Try.prog 24 #[.int .i64 x, .int .i64 y, .int .i64 z] w (fun e w' => e = .returned (.int .i64 r) ∧ w' = w) := by
  have HR := Lib.hid hr
  unfold T.dec3 at hr
  by_cases h1 : y = z
  · have b1 : (y == z) = true := beq_iff_eq.2 h1
    have HV := Lib.hid (show r = y by rw [if_pos h1] at hr; exact hr.symm)
    clear hr h1
    go_enter Try.func24, Try.ntmps24
    go_wp2
    go_ret
    exact ⟨by rw [HV.out]; rfl, rfl⟩
  · have b1 : (y == z) = false := beq_eq_false_iff_ne.2 h1
    rw [if_neg h1] at hr
    by_cases h3 : z = x
    · have b3 : (z == x) = true := beq_iff_eq.2 h3
      have HV := Lib.hid (show r = y by
        by_cases h2 : y = x
        · exact absurd (h2.trans h3.symm) h1
        · rw [if_neg h2, if_pos h3] at hr; exact hr.symm)
      clear hr h1 h3
      go_enter Try.func24, Try.ntmps24
      go_wp2
      go_ret
      exact ⟨by rw [HV.out]; rfl, rfl⟩
    · have b3 : (z == x) = false := beq_eq_false_iff_ne.2 h3
      by_cases h2 : y = x
      · have b2 : (y == x) = true := beq_iff_eq.2 h2
        have HV := Lib.hid (show r = z by rw [if_pos h2] at hr; exact hr.symm)
        clear hr h1 h2 h3
        go_enter Try.func24, Try.ntmps24
        go_wp2
        go_ret
        exact ⟨by rw [HV.out]; rfl, rfl⟩
      · have b2 : (y == x) = false := beq_eq_false_iff_ne.2 h2
        have HV := Lib.hid (show r = -2 by rw [if_neg h2, if_neg h3] at hr; exact hr.symm)
        clear hr h1 h2 h3
        go_enter Try.func24, Try.ntmps24
        go_wp2
        go_ret
        exact ⟨by rw [HV.out]; rfl, rfl⟩

/-- A slice value owns these paths; they lie elsewhere, in memory of the call's own, too. -/
structure OwnN (w : World) (base : Nat) (v : Value) (X : List (PtM × T.Pth)) : Prop where
  own : Own eQ w base v (X.map Prod.fst)
  pts : ∀ x ∈ X, PtS w x.1 x.2
  aside : ∀ x ∈ X, FreeQ v x.1 x.2
  young : ∀ x ∈ X, ∀ a, x.1.A = some a → base ≤ a.block
theorem OwnN.zero (w : World) (base : Nat) : OwnN w base (.slice none 0 0) [] := ⟨Own.nil _ _, (fun x hx => by cases hx), (fun x hx => by cases hx), (fun x hx => by cases hx)⟩
theorem OwnN.kept {w w1 : World} {base : Nat} {v : Value} {X : List (PtM × T.Pth)} (h : OwnN w base v X) (hb : Below w.heap.size w w1) : OwnN w1 base v X := ⟨h.own.keep hb, fun x hx => (h.pts x hx).below hb, h.aside, h.young⟩
theorem OwnN.plus {w w' : World} {base : Nat} {v v' : Value} {X : List (PtM × T.Pth)} {m : PtM} {x : T.Pth} (h : OwnN w base v X) (hx : PtS w m x) (hf : FreeQ v m x) (hy : ∀ a, m.A = some a → base ≤ a.block) (hg : Grew eQ w w' base v v' (X.map Prod.fst ++ [m])) : OwnN w' base v' (X ++ [(m, x)]) := by
  have step : ∀ (m : PtM) (x : T.Pth), PtS w m x → FreeQ v m x → PtS w' m x ∧ FreeQ v' m x := by
    intro m x hx hf
    refine ⟨⟨hx.len, hx.cap, fun hp => ?_⟩, fun hp a ha e => ?_⟩
    · obtain ⟨b, o, e, hb, hH⟩ := hx.seen hp
      have hne := hf hp _ e
      exact ⟨b, o, e, Nat.lt_of_lt_of_le hb hg.grown.size, holds_of_block hH (hg.grown.block b hb (fun e => hne e.symm))⟩
    · obtain ⟨b, o, e2, hb, _⟩ := hx.seen hp
      have hne := hf hp a ha
      have eb : a.block = b := by rw [e2] at ha; injection ha with ha; rw [← ha]
      rcases hg.at_ with h | ⟨g, h, h4⟩
      · rw [h] at e; exact hne e
      · rw [h] at e; injection e with e; omega
  refine ⟨by rw [List.map_append]; exact hg.own, fun y hy2 => ?_, fun y hy2 => ?_, fun y hy2 => ?_⟩
  · rcases List.mem_append.1 hy2 with h1 | h1
    · exact (step _ _ (h.pts y h1) (h.aside y h1)).1
    · rw [List.mem_singleton.1 h1]; exact (step _ _ hx hf).1
  · rcases List.mem_append.1 hy2 with h1 | h1
    · exact (step _ _ (h.pts y h1) (h.aside y h1)).2
    · rw [List.mem_singleton.1 h1]; exact (step _ _ hx hf).2
  · rcases List.mem_append.1 hy2 with h1 | h1
    · exact h.young y h1
    · rw [List.mem_singleton.1 h1]; exact hy
theorem OwnN.born {w : World} {base k : Nat} {v : Value} {X : List (PtM × T.Pth)} {m : PtM} {x : T.Pth} (h : OwnN w base v X) (hk : w.heap.size ≤ k) (hm : ∀ a, m.A = some a → k ≤ a.block) : FreeQ v m x := by
  intro _ a ha e
  have := (h.own.lt _ e).2
  have := hm a ha
  omega
/-- append of one path to such a slice. -/
theorem wpList_appN {ops : Array Oper} {rest : List Oper} {o : Oper} {a : Act} {Q : Exit → Act → World → Prop} (w : World) (hgd : o.guard = none) (s x : Operand)
    (ho : o.op = .call { callee := .builtin .append, args := #[s, x], argTypes := #[eQ.st, eQ.st] })
    (base : Nat) (v : Value) (X : List (PtM × T.Pth)) (hs : a.eval s = v) (hown : OwnN w base v X) (y : T.Pth) (m : PtM) (hy : PtS w m y) (hf : FreeQ v m y) (hyg : ∀ a, m.A = some a → base ≤ a.block) (cap : Nat) (cs : Array Value) (hcs : cs.toList = eQ.C m)
    (g : Nat) (hg : w.heap.size = g) (hx : a.eval x = .slice (some ⟨g, 0, none⟩) 1 cap) (hlen : X.length + 1 ≤ 1099511627776) (hb : base ≤ w.heap.size)
    (h : ∀ v' w', OwnN w' base v' (X ++ [(m, y)]) → Below base w w' → wpList Try.prog ops Q rest (a.put o.dst v') w') : wpList Try.prog ops Q (o :: rest) a (w.alloc (.cells cs eQ.T)) :=
  wpList_app3 eQ w hgd s x ho base v (X.map Prod.fst) hs hown.own m cap cs hcs g hg hx (by rw [List.length_map]; exact hlen) hb fun v' w' hG => h v' w' (hown.plus hy hf hyg hG) (hG.below hown.own hb)
theorem RowAt.of {w : World} {base g n cap : Nat} {M : List PtM} (h : Own eQ w base (.slice (some ⟨g, 0, none⟩) n cap) M) : RowAt w g M := by
  obtain ⟨cur, h1, h2, h3, h4, h5, h6, h7⟩ := h.parts
  have e : (eQ.sz : Nat) = 1 := rfl
  rw [e, Nat.mul_one] at h6 h7
  refine ⟨cur, _, h3, by omega, fun j hj => ?_⟩
  have h8 := cellsG_at eQ M j 0 hj (by rw [e]; exact Nat.one_pos)
  rw [e, Nat.mul_one, Nat.add_zero, ← h7, List.getElem?_take_of_lt (by omega), Array.getElem?_toList] at h8
  rw [h8]; rfl
theorem compact_none (A : Option Addr) (cap : Nat) (v : Value) (w : World) :
    Calls Try.prog 41 #[.slice A 0 cap, v] w (fun e w' => e = .returned (.slice A 0 cap) ∧ w' = w) := by
  go_enter Try.func41, Try.ntmps41
  go_wp2
  go_ret
  exact ⟨rfl, rfl⟩
end Go.Proofs.Ytfajfjocpgbmeaa
