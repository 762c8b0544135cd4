/-
  Part 12 of what the proofs of this claim stand on. No conditions but those that each theorem states.
-/
import Derived.Test.YtfcikfohmehmkaaGreatDoorTabs11
import Derived.Shelf.SlSortCmp.NoneTotal
import Derived.Shelf.Small.Strs
import Derived.Laws.IdiomCopy

namespace Go.Proofs.YtfcikfohmehmkaaGreatDoor.H
set_option linter.unusedVariables false
open T (Pth RightN RightT isIn underW Ln pathL entries)
open C (Wd wHosts wVnis wBindings wRoutes wPolicy wIp wMac wHost wVni wVia wMetric wAction wFrom wTo pths checkP faultsP knownP kidsP meantP thirdK key mem_pths)
structure Nd where
 name : Wd
 addr : Wd
 vn : List Wd
def ndOf (t : List Ln) (h : Wd) : Nd := ⟨h, ipH t h, underW t [wHosts, h, wVnis]⟩
def nodesL (t : List Ln) : List Nd := (underW t [wHosts]).map (ndOf t)
def inN (n : Nd) (v : Wd) : Bool := decide (v ∈ n.vn)
def namedN (N : List Nd) (x : Wd) : Nd := (N.find? fun n => decide (n.name = x)).getD ⟨[], [], []⟩
def floodOne (h g : Nd) (v : Wd) : List En := if g.name ≠ h.name ∧ inN g v = true then [⟨h.name, 1, v, g.addr⟩] else []
def floodsC (N : List Nd) : List En := N.flatMap fun h => h.vn.flatMap fun v => N.flatMap fun g => floodOne h g v
def boundTo (h g : Nd) (v i mac : Wd) : List En := if inN h v = true then ⟨h.name, 2, v ++ 32 :: i, mac⟩ :: (if g.name = h.name then [] else [⟨h.name, 3, v ++ 32 :: mac, g.addr⟩]) else []
def boundAt (t : List Ln) (N : List Nd) (i : Wd) : List En := N.flatMap fun h => boundTo h (namedN N (wordH t [wBindings, i, wHost] [])) (wordH t [wBindings, i, wVni] []) i (wordH t [wBindings, i, wMac] [])
def boundC (t : List Ln) (N : List Nd) : List En := (underW t [wBindings]).flatMap (boundAt t N)
def routeTo (h g : Nd) (p m : Wd) : En := ⟨h.name, 4, p, (if g.name = h.name then wLocal else g.addr) ++ 32 :: m⟩
def routeAt (t : List Ln) (N : List Nd) (p : Wd) : List En := N.map fun h => routeTo h (namedN N (wordH t [wRoutes, p, wVia] [])) p (wordH t [wRoutes, p, wMetric] [48])
def routesC (t : List Ln) (N : List Nd) : List En := (underW t [wRoutes]).flatMap (routeAt t N)
def polAt (t : List Ln) (N : List Nd) (n : Wd) : List En := N.map fun h => polOne t h.name n
def polsC (t : List Ln) (N : List Nd) : List En := (underW t [wPolicy]).flatMap (polAt t N)
def allC (t : List Ln) : List En := floodsC (nodesL t) ++ boundC t (nodesL t) ++ routesC t (nodesL t) ++ polsC t (nodesL t)
theorem mem_nodes {t : List Ln} {n : Nd} : n ∈ nodesL t ↔ ∃ h ∈ underW t [wHosts], ndOf t h = n := List.mem_map
theorem named_there {t : List Ln} {x : Wd} (h : x ∈ underW t [wHosts]) : namedN (nodesL t) x = ndOf t x := by
 unfold namedN nodesL
 cases hf : ((underW t [wHosts]).map (ndOf t)).find? (fun n => decide (n.name = x)) with
 | none =>
  rw [List.find?_eq_none] at hf
  exact absurd (decide_eq_true rfl) (hf (ndOf t x) (List.mem_map.2 ⟨x, h, rfl⟩))
 | some n =>
  have h1 : n.name = x := of_decide_eq_true (List.find?_some (p := fun n : Nd => decide (n.name = x)) hf)
  obtain ⟨z, _, rfl⟩ := List.mem_map.1 (List.mem_of_find?_eq_some hf)
  have : z = x := h1
  subst this
  rfl
theorem vni_there {Z : Nat} {t : List Ln} (hR : RightN Z t) (h : checkP (pths t) = []) {b d : Wd} (hi : d ∈ underW t [wHosts, b, wVnis]) : d ∈ underW t [wVnis] := by
 have hf := clean hR h 4 _ (by simp) (T.mem_underW.1 hi)
 have hkn := faults_known hf
 unfold faultsP at hf
 rw [if_neg (fun k => k hkn)] at hf
 have hm : meantP (pths t) [wHosts, b, wVnis, d] = false := by
  cases hm : meantP (pths t) [wHosts, b, wVnis, d] with
  | false => rfl
  | true =>
   simp only [List.cons_append, List.nil_append] at hf
   rw [if_pos hm] at hf
   cases hf
 unfold meantP at hm
 simp only at hm
 rw [if_neg (by decide), if_neg (by decide), if_pos trivial, Bool.not_eq_false', decide_eq_true_eq] at hm
 exact T.mem_underW.2 (mem_pths.1 hm)
theorem mem_floodsC {Z : Nat} {t : List Ln} (hR : RightN Z t) (hc : checkP (pths t) = []) {x : En} : x ∈ floodsC (nodesL t) ↔ ∃ h ∈ underW t [wHosts], ∃ g ∈ underW t [wHosts], x ∈ floodL t h g := by
 unfold floodsC
 rw [List.mem_flatMap]
 constructor
 ·rintro ⟨n, hn, hx⟩
  obtain ⟨h, hh, rfl⟩ := mem_nodes.1 hn
  obtain ⟨v, hv, hx⟩ := List.mem_flatMap.1 hx
  obtain ⟨m, hm, hx⟩ := List.mem_flatMap.1 hx
  obtain ⟨g, hg, rfl⟩ := mem_nodes.1 hm
  unfold floodOne at hx
  split at hx
  ·next k =>
   rw [List.mem_singleton] at hx
   exact ⟨h, hh, g, hg, mem_flood.2 ⟨v, vni_there hR hc hv, fun e => k.1 e.symm, decide_eq_true hv, k.2, hx⟩⟩
  ·cases hx
 ·rintro ⟨h, hh, g, hg, hx⟩
  obtain ⟨v, _, h1, h2, h3, e⟩ := mem_flood.1 hx
  refine ⟨_, mem_nodes.2 ⟨h, hh, rfl⟩, List.mem_flatMap.2 ⟨v, of_decide_eq_true h2, List.mem_flatMap.2 ⟨_, mem_nodes.2 ⟨g, hg, rfl⟩, ?_⟩⟩⟩
  unfold floodOne
  rw [if_pos ⟨fun e => h1 e.symm, h3⟩, e]
  exact List.mem_singleton.2 rfl
theorem mem_boundC {Z : Nat} {t : List Ln} (hR : RightN Z t) (hc : checkP (pths t) = []) {x : En} : x ∈ boundC t (nodesL t) ↔ ∃ h ∈ underW t [wHosts], ∃ g ∈ underW t [wHosts], x ∈ bindL t h g := by
 unfold boundC bindL
 rw [List.mem_flatMap]
 constructor
 ·rintro ⟨i, hi, hx⟩
  obtain ⟨n, hn, hx⟩ := List.mem_flatMap.1 hx
  obtain ⟨h, hh, rfl⟩ := mem_nodes.1 hn
  have hb := bound_host hR hc hi
  rw [named_there hb] at hx
  refine ⟨h, hh, _, hb, List.mem_flatMap.2 ⟨i, hi, ?_⟩⟩
  unfold boundTo at hx
  unfold bindOne
  split at hx
  ·next k => rw [if_pos ⟨rfl, k⟩]; exact hx
  ·cases hx
 ·rintro ⟨h, hh, g, hg, hx⟩
  obtain ⟨i, hi, hx⟩ := List.mem_flatMap.1 hx
  unfold bindOne at hx
  split at hx
  ·next k =>
   refine ⟨i, hi, List.mem_flatMap.2 ⟨_, mem_nodes.2 ⟨h, hh, rfl⟩, ?_⟩⟩
   rw [k.1, named_there hg]
   unfold boundTo
   rw [if_pos (show inN (ndOf t h) (wordH t [wBindings, i, wVni] []) = true from k.2)]
   exact hx
  ·cases hx
theorem mem_routesC {Z : Nat} {t : List Ln} (hR : RightN Z t) (hc : checkP (pths t) = []) {x : En} : x ∈ routesC t (nodesL t) ↔ ∃ h ∈ underW t [wHosts], ∃ g ∈ underW t [wHosts], x ∈ routeL t h g := by
 unfold routesC
 rw [List.mem_flatMap]
 constructor
 ·rintro ⟨p, hp, hx⟩
  obtain ⟨n, hn, rfl⟩ := List.mem_map.1 hx
  obtain ⟨h, hh, rfl⟩ := mem_nodes.1 hn
  have hb := via_host hR hc hp
  refine ⟨h, hh, _, hb, mem_route.2 ⟨p, hp, rfl, ?_⟩⟩
  rw [named_there hb]
  rfl
 ·rintro ⟨h, hh, g, hg, hx⟩
  obtain ⟨p, hp, k, e⟩ := mem_route.1 hx
  refine ⟨p, hp, List.mem_map.2 ⟨_, mem_nodes.2 ⟨h, hh, rfl⟩, ?_⟩⟩
  rw [named_there (via_host hR hc hp), e]
  rfl
theorem mem_polsC {t : List Ln} {x : En} : x ∈ polsC t (nodesL t) ↔ ∃ h ∈ underW t [wHosts], x ∈ polL t h := by
 unfold polsC polL
 rw [List.mem_flatMap]
 constructor
 ·rintro ⟨p, hp, hx⟩
  obtain ⟨n, hn, rfl⟩ := List.mem_map.1 hx
  obtain ⟨h, hh, rfl⟩ := mem_nodes.1 hn
  exact ⟨h, hh, List.mem_map.2 ⟨p, hp, rfl⟩⟩
 ·rintro ⟨h, hh, hx⟩
  obtain ⟨p, hp, rfl⟩ := List.mem_map.1 hx
  exact ⟨p, hp, List.mem_map.2 ⟨_, mem_nodes.2 ⟨h, hh, rfl⟩, rfl⟩⟩
theorem code_tables {Z : Nat} {t : List Ln} (hR : RightN Z t) (hc : checkP (pths t) = []) : setE (allC t) = tablesL t := by
 refine (set_ext (set_sort _) fun x => ?_).symm
 show x ∈ setE (allL t) ↔ _
 rw [mem_set]
 unfold allC allL
 rw [List.mem_append, List.mem_append, List.mem_append, mem_floodsC hR hc, mem_boundC hR hc, mem_routesC hR hc, mem_polsC, List.mem_flatMap]
 constructor
 ·rintro ⟨h, hh, hx⟩
  rcases mem_host.1 hx with ⟨g, hg, k⟩ | k
  ·rcases mem_pairs.1 k with k | k | k
   ·exact .inl (.inl (.inl ⟨h, hh, g, hg, k⟩))
   ·exact .inl (.inl (.inr ⟨h, hh, g, hg, k⟩))
   ·exact .inl (.inr ⟨h, hh, g, hg, k⟩)
  ·exact .inr ⟨h, hh, k⟩
 ·rintro (((⟨h, hh, g, hg, k⟩ | ⟨h, hh, g, hg, k⟩) | ⟨h, hh, g, hg, k⟩) | ⟨h, hh, k⟩)
  ·exact ⟨h, hh, mem_host.2 (.inl ⟨g, hg, mem_pairs.2 (.inl k)⟩)⟩
  ·exact ⟨h, hh, mem_host.2 (.inl ⟨g, hg, mem_pairs.2 (.inr (.inl k))⟩)⟩
  ·exact ⟨h, hh, mem_host.2 (.inl ⟨g, hg, mem_pairs.2 (.inr (.inr k))⟩)⟩
  ·exact ⟨h, hh, mem_host.2 (.inr k)⟩
-- HOW MANY THERE ARE
theorem flat_le {α β : Type} (f : α → List β) (k : Nat) (l : List α) (h : ∀ x ∈ l, (f x).length ≤ k) {q : Nat} (hq : l.length ≤ q) : (l.flatMap f).length ≤ k * q := Nat.le_trans (flat_most f k l h) (Nat.mul_le_mul_left k hq)
theorem floodOne_few (h g : Nd) (v : Wd) : (floodOne h g v).length ≤ 1 := by unfold floodOne; split <;> simp
theorem boundTo_few (h g : Nd) (v i m : Wd) : (boundTo h g v i m).length ≤ 2 := by
 unfold boundTo
 split
 ·split <;> simp
 ·simp
theorem nodes_few {Z : Nat} {t : List Ln} (h : RightN Z t) (hl : t.length ≤ 200) : (nodesL t).length ≤ 200 := by unfold nodesL; rw [List.length_map]; exact under_few h hl _
theorem vn_few {Z : Nat} {t : List Ln} (h : RightN Z t) (hl : t.length ≤ 200) : ∀ n ∈ nodesL t, n.vn.length ≤ 200 := fun n hn => by
 obtain ⟨z, _, rfl⟩ := mem_nodes.1 hn
 exact under_few h hl _
theorem floodsC_few {N : List Nd} (h1 : N.length ≤ 200) (h2 : ∀ n ∈ N, n.vn.length ≤ 200) : (floodsC N).length ≤ 8000000 :=
 flat_le _ 40000 N (fun n hn => flat_le _ 200 n.vn (fun v _ => Nat.le_trans (flat_le _ 1 N (fun g _ => floodOne_few n g v) h1) (by decide)) (h2 n hn)) h1
theorem boundAt_few (t : List Ln) {N : List Nd} (h1 : N.length ≤ 200) (i : Wd) : (boundAt t N i).length ≤ 400 := flat_le _ 2 N (fun h _ => boundTo_few _ _ _ _ _) h1
theorem boundC_few {t : List Ln} {N : List Nd} (h1 : N.length ≤ 200) (h2 : (underW t [wBindings]).length ≤ 200) : (boundC t N).length ≤ 80000 := flat_le _ 400 _ (fun i _ => boundAt_few t h1 i) h2
theorem routesC_few {t : List Ln} {N : List Nd} (h1 : N.length ≤ 200) (h2 : (underW t [wRoutes]).length ≤ 200) : (routesC t N).length ≤ 40000 := flat_le _ 200 _ (fun i _ => by unfold routeAt; rw [List.length_map]; exact h1) h2
theorem polsC_few {t : List Ln} {N : List Nd} (h1 : N.length ≤ 200) (h2 : (underW t [wPolicy]).length ≤ 200) : (polsC t N).length ≤ 40000 := flat_le _ 200 _ (fun i _ => by unfold polAt; rw [List.length_map]; exact h1) h2
-- THE ORDER
def Low (x y : En) : Prop := aheadE y x = false
def sqE : List En → List En
 | [] => []
 | [x] => [x]
 | x :: y :: l => if x = y then sqE (y :: l) else x :: sqE (y :: l)
theorem mem_sqE {x : En} : ∀ {l : List En}, x ∈ sqE l ↔ x ∈ l
 | [] => Iff.rfl
 | [y] => Iff.rfl
 | y :: z :: l => by
  unfold sqE
  split
  ·next e =>
   subst e
   rw [mem_sqE (l := y :: l), List.mem_cons (l := y :: l)]
   exact ⟨.inr, fun h => h.elim (fun e => e ▸ List.mem_cons_self) id⟩
  ·rw [List.mem_cons, List.mem_cons (l := z :: l), mem_sqE (l := z :: l)]
theorem sort_sqE : ∀ {l : List En}, l.Pairwise Low → SortE (sqE l)
 | [], _ => List.Pairwise.nil
 | [y], _ => List.pairwise_singleton _ _
 | y :: z :: l, h => by
  unfold sqE
  have h2 := List.Pairwise.of_cons h
  split
  ·exact sort_sqE h2
  ·next ne =>
   refine List.Pairwise.cons (fun a ha => ?_) (sort_sqE h2)
   have ha := mem_sqE.1 ha
   have hyz : aheadE y z = true := by
    have h1 : aheadE z y = false := (List.pairwise_cons.1 h).1 z List.mem_cons_self
    rcases ahead_tri y z with k | k | k
    ·exact k
    ·exact absurd k ne
    ·rw [h1] at k; cases k
   rcases List.mem_cons.1 ha with rfl | ha
   ·exact hyz
   ·have h3 : aheadE a z = false := (List.pairwise_cons.1 h2).1 a ha
    rcases ahead_tri z a with k | k | k
    ·exact ahead_trans hyz k
    ·exact k ▸ hyz
    ·rw [h3] at k; cases k
theorem sq_set {l s : List En} (hp : s.Perm l) (ho : s.Pairwise Low) : sqE s = setE l := set_ext (sort_sqE ho) fun x => mem_sqE.trans hp.mem_iff
theorem sqE_next : ∀ (s : List En) (x y : En), sqE (s ++ [x, y]) = if x = y then sqE (s ++ [x]) else sqE (s ++ [x]) ++ [y]
 | [], x, y => by
  show sqE [x, y] = if x = y then [x] else [x, y]
  unfold sqE
  split
  ·next e => rw [e]; rfl
  ·rfl
 | [a], x, y => by
  have ih := sqE_next [] x y
  simp only [List.nil_append] at ih
  show sqE (a :: x :: [y]) = if x = y then sqE (a :: [x]) else sqE (a :: [x]) ++ [y]
  rw [sqE, ih]
  rw [show sqE [a, x] = if a = x then [x] else [a, x] by unfold sqE; rfl]
  split <;> split <;> rfl
 | a :: b :: s, x, y => by
  have ih := sqE_next (b :: s) x y
  simp only [List.cons_append] at ih ⊢
  rw [sqE, ih, show sqE (a :: b :: (s ++ [x])) = if a = b then sqE (b :: (s ++ [x])) else a :: sqE (b :: (s ++ [x])) by rw [sqE]]
  split <;> split <;> rfl
theorem sqE_step (l : List En) (k j : Nat) (p q : En) (hk : k = j + 1) (hp : l[k]? = some p) (hq : l[j]? = some q) :
  (decide (p = q) = false → sqE (l.take (k + 1)) = sqE (l.take k) ++ [p]) ∧ l.take k ++ [p] = l.take (k + 1) ∧ (decide (p = q) = true → sqE (l.take (k + 1)) = sqE (l.take k)) := by
 subst hk
 obtain ⟨h1, rfl⟩ := List.getElem?_eq_some_iff.1 hp
 obtain ⟨h2, rfl⟩ := List.getElem?_eq_some_iff.1 hq
 have e1 := List.take_succ_eq_append_getElem h1
 have e2 := List.take_succ_eq_append_getElem h2
 have key := sqE_next (l.take j) l[j] l[j + 1]
 rw [show l.take j ++ [l[j], l[j + 1]] = l.take (j + 1 + 1) by rw [e1, e2, List.append_assoc]; rfl, ← e2] at key
 refine ⟨fun e => ?_, e1.symm, fun e => ?_⟩
 ·rw [key, if_neg (fun h => of_decide_eq_false e h.symm)]
 ·rw [key, if_pos (of_decide_eq_true e).symm]
end Go.Proofs.YtfcikfohmehmkaaGreatDoor.H
namespace Go.Proofs.YtfcikfohmehmkaaGreatDoor
open Go.Shelf Go.RowKit
set_option linter.unusedVariables false
def renSortE : Go.Shelf.Ren := ⟨fun | 6 => 36 | 14 => 69 | 15 => 70 | 20 => 102 | 21 => 103 | 22 => 104 | 23 => 105 | 24 => 106 | 25 => 107 | 26 => 108 | 27 => 109 | 28 => 110 | 29 => 111 | 46 => 141 | 47 => 142 | 48 => 143 | 49 => 144 | 50 => 145 | 57 => 169 | n => n, fun | 0 => 0 | 3 => 3 | 4 => 4 | 5 => 5 | 9 => 9 | 22 => 25 | 24 => 35 | 25 => 40 | 39 => 112 | 45 => 145 | 46 => 146 | 50 => 115 | 53 => 152 | 55 => 154 | 66 => 174 | 70 => 178 | 76 => 195 | 77 => 75 | n => n, fun n => n⟩
theorem laysSortE : Go.Proofs.SlLaysF0.n6 Tryz.prog renSortE := {
 mixed := by kernel_rfl
 f6 := ⟨Tryz.f36.name, by decide, Tryz.func36.trans (congrArg some (by kernel_rfl))⟩
 f14 := ⟨Tryz.f69.name, by decide, Tryz.func69.trans (congrArg some (by kernel_rfl))⟩
 f15 := Tryz.func70.trans (congrArg some (by kernel_rfl))
 f20 := ⟨Tryz.f102.name, by decide, Tryz.func102.trans (congrArg some (by kernel_rfl))⟩
 f21 := ⟨Tryz.f103.name, by decide, Tryz.func103.trans (congrArg some (by kernel_rfl))⟩
 f22 := ⟨Tryz.f104.name, by decide, Tryz.func104.trans (congrArg some (by kernel_rfl))⟩
 f23 := ⟨Tryz.f105.name, by decide, Tryz.func105.trans (congrArg some (by kernel_rfl))⟩
 f24 := ⟨Tryz.f106.name, by decide, Tryz.func106.trans (congrArg some (by kernel_rfl))⟩
 f25 := ⟨Tryz.f107.name, by decide, Tryz.func107.trans (congrArg some (by kernel_rfl))⟩
 f26 := ⟨Tryz.f108.name, by decide, Tryz.func108.trans (congrArg some (by kernel_rfl))⟩
 f27 := ⟨Tryz.f109.name, by decide, Tryz.func109.trans (congrArg some (by kernel_rfl))⟩
 f28 := Tryz.func110.trans (congrArg some (by kernel_rfl))
 f29 := Tryz.func111.trans (congrArg some (by kernel_rfl))
 f46 := ⟨Tryz.f141.name, by decide, Tryz.func141.trans (congrArg some (by kernel_rfl))⟩
 f47 := Tryz.func142.trans (congrArg some (by kernel_rfl))
 f48 := Tryz.func143.trans (congrArg some (by kernel_rfl))
 f49 := ⟨Tryz.f144.name, by decide, Tryz.func144.trans (congrArg some (by kernel_rfl))⟩
 f50 := ⟨Tryz.f145.name, by decide, Tryz.func145.trans (congrArg some (by kernel_rfl))⟩
 f57 := ⟨Tryz.f169.name, by decide, Tryz.func169.trans (congrArg some (by kernel_rfl))⟩
 t0 := Tryz.underlying0
 a0 := Tryz.isAgg0
 z0 := Tryz.sizeOf0
 v0 := Tryz.zeroValue0
 t3 := Tryz.underlying3
 a3 := Tryz.isAgg3
 z3 := Tryz.sizeOf3
 v3 := Tryz.zeroValue3
 t4 := Tryz.underlying4
 a4 := Tryz.isAgg4
 z4 := Tryz.sizeOf4
 v4 := Tryz.zeroValue4
 t5 := Tryz.underlying5
 a5 := Tryz.isAgg5
 z5 := Tryz.sizeOf5
 v5 := Tryz.zeroValue5
 t9 := Tryz.underlying9
 a9 := Tryz.isAgg9
 z9 := Tryz.sizeOf9
 v9 := Tryz.zeroValue9
 t22 := Tryz.underlying25
 a22 := Tryz.isAgg25
 z22 := Tryz.sizeOf25
 v22 := Tryz.zeroValue25
 t25 := Tryz.underlying40
 a25 := Tryz.isAgg40
 z25 := Tryz.sizeOf40
 v25 := Tryz.zeroValue40
 t39 := Tryz.underlying112
 a39 := Tryz.isAgg112
 z39 := Tryz.sizeOf112
 v39 := Tryz.zeroValue112
 t45 := Tryz.underlying145
 a45 := Tryz.isAgg145
 z45 := Tryz.sizeOf145
 v45 := Tryz.zeroValue145
 t46 := Tryz.underlying146
 a46 := Tryz.isAgg146
 z46 := Tryz.sizeOf146
 v46 := Tryz.zeroValue146
 t50 := Tryz.underlying115
 a50 := Tryz.isAgg115
 z50 := Tryz.sizeOf115
 v50 := Tryz.zeroValue115
 t53 := Tryz.underlying152
 a53 := Tryz.isAgg152
 z53 := Tryz.sizeOf152
 v53 := Tryz.zeroValue152
 t55 := Tryz.underlying154
 a55 := Tryz.isAgg154
 z55 := Tryz.sizeOf154
 v55 := Tryz.zeroValue154
 t66 := Tryz.underlying174
 a66 := Tryz.isAgg174
 z66 := Tryz.sizeOf174
 v66 := Tryz.zeroValue174
 t70 := Tryz.underlying178
 a70 := Tryz.isAgg178
 z70 := Tryz.sizeOf178
 v70 := Tryz.zeroValue178
 t76 := Tryz.underlying195
 a76 := Tryz.isAgg195
 z76 := Tryz.sizeOf195
 v76 := Tryz.zeroValue195
 t77 := Tryz.underlying75
 a77 := Tryz.isAgg75
 z77 := Tryz.sizeOf75
 v77 := Tryz.zeroValue75 }
end Go.Proofs.YtfcikfohmehmkaaGreatDoor
namespace Go.Proofs.YtfcikfohmehmkaaGreatDoor
open Go.RowKit
theorem ltH (x y : H.En) : ltOf H.cmpE x y = H.aheadE x y := by
 unfold ltOf H.cmpE
 cases h : H.aheadE x y with
 | true => simp
 | false =>
  cases k : H.aheadE y x with
  | true => simp
  | false => simp
theorem swoH : Go.Sort.SWO (ltOf H.cmpE) where
 irrefl x := by rw [ltH]; exact H.ahead_irr _
 trans x y z h1 h2 := by rw [ltH] at *; exact H.ahead_trans h1 h2
 ntrans x y z h1 h2 := by
  rw [ltH] at *
  cases h : H.aheadE x z with
  | false => rfl
  | true =>
   rcases H.ahead_tri x y with h3 | h3 | h3
   ·rw [h1] at h3; cases h3
   ·rw [← h3, h] at h2; cases h2
   ·rcases H.ahead_tri y z with h4 | h4 | h4
    ·rw [h2] at h4; cases h4
    ·rw [h4] at h3; rw [H.ahead_asymm h3] at h; cases h
    ·have := H.ahead_trans h4 h3; rw [H.ahead_asymm this] at h; cases h
def GrewD (w w' : World) : Prop := Below w.heap.size w w' ∧ w.drawn ≤ w'.drawn
theorem GrewD.grow {w w' : World} (h : GrewD w w') : ∃ n os, w' = Go.Sort.grow (w.drewN n) os := by
 obtain ⟨⟨h1, h2, h3, h4, h5⟩, h6⟩ := h
 refine ⟨w'.drawn - w.drawn, w'.heap.extract w.heap.size w'.heap.size, ?_⟩
 obtain ⟨hp, tp, dr, os, ot⟩ := w'
 obtain ⟨hp0, tp0, dr0, os0, ot0⟩ := w
 simp only at h1 h2 h3 h4 h5 h6
 subst h1; subst h2; subst h3
 unfold Go.Sort.grow World.drewN
 simp only [World.mk.injEq, true_and, and_true]
 refine ⟨?_, by omega⟩
 apply Array.ext_getElem?
 intro i
 by_cases hi : i < hp0.size
 ·rw [Array.getElem?_append_left hi, h5 i hi]
 ·rw [Array.getElem?_append_right (by omega), Array.getElem?_extract]
  by_cases hk : i < hp.size
  ·rw [if_pos (by omega)]; congr 1; omega
  ·rw [if_neg (by omega), Array.getElem?_eq_none (by omega)]
section
variable {α : Type} [Inhabited α]
theorem sortE_below (enc : α → List Value) (k : Nat) (w : World) (blk off m : Nat) (dk : Array α) (os : Array Obj) (g : Nat) (hg : g ≤ blk) (hb : blk < w.heap.size) : Below g w (sortWorldK enc k w blk off m dk os) := by
 refine ⟨rfl, rfl, rfl, size_sortWorldK_c enc k w blk off m dk os, fun c hc => ?_⟩
 unfold sortWorldK
 rw [Go.Sort.heap_grow_old _ _ (by rw [Go.Sort.size_putRowK]; show c < w.heap.size; omega)]
 show (w.heap.modify blk _)[c]? = _
 rw [Array.getElem?_modify, if_neg (by omega)]
end
structure RowE (w : World) (g : Nat) (l : List H.En) : Prop where
 lt : g < w.heap.size
 cells : Holds eEc w g 0 l
 thaw : ∀ j, w.frozen? ⟨g, j, none⟩ = false
theorem RowE.keep {w w1 : World} {B g : Nat} {l : List H.En} (h : RowE w g l) (hb : Below B w w1) (hg : g < B) : RowE w1 g l :=
 ⟨Nat.lt_of_lt_of_le h.lt hb.size, fun i hi j u hu => (hb.cell (p := ⟨g, 0 + i * eEc.sz + j, none⟩) hg).trans (h.cells i hi j u hu), fun j => by
  have := h.thaw j
  unfold World.frozen? at this ⊢
  rw [show w1.heap[(⟨g, j, none⟩ : Addr).block]? = w.heap[(⟨g, j, none⟩ : Addr).block]? from hb.block g hg]
  exact this⟩
theorem RowE.own {w : World} {base g n cap : Nat} {l : List H.En} (h : Own eEc w base (.slice (some ⟨g, 0, none⟩) n cap) l) (hl : 0 < l.length) : RowE w g l := by
 obtain ⟨b, e, h1, h2, h3⟩ := h.block hl
 injection e with e
 injection e with e
 subst e
 exact ⟨h2, h3, fun j => (h.frozenNo j).1⟩
theorem RowE.seen {w : World} {g : Nat} {l : List H.En} (h : RowE w g l) : Seen eEc w (some ⟨g, 0, none⟩) l := fun _ => ⟨g, 0, rfl, h.lt, h.cells⟩
theorem sortE_any (f : Nat) (hf : ∀ args w, (callFunc f args).run Tryz.prog w = .ok (.enter f args) w) (HC : ∀ (x y : H.En) (w : World), Calls Tryz.prog f #[enV x, enV y] w (fun e w' => e = .returned (.int .i64 (H.cmpE x y)) ∧ GrewD w w'))
  (g n cap : Nat) (l : List H.En) (w : World) (hn : l.length = n) (h0 : 0 < n) (hO : RowE w g l) (hl : n ≤ 1073741824) :
  Calls Tryz.prog 36 #[.slice (some ⟨g, 0, none⟩) n cap, .func (.func f) #[] #[]] w (fun e w' => e = .returned (.tuple #[]) ∧ ∃ s, s.Perm l ∧ s.Pairwise H.Low ∧ RowE w' g s ∧ Below g w w') := by
 haveI : Inhabited H.En := ⟨⟨[], 0, [], []⟩⟩
 obtain ⟨d, hd⟩ : ∃ d : Array H.En, d = l.toArray := ⟨_, rfl⟩
 have hsz : d.size = n := by rw [hd]; exact hn
 have hgetb : ∀ i (h : i < l.length), d[i]! = l[i] := fun i h => by rw [getElem!_pos d i (by omega)]; subst hd; simp
 have hHK : Go.Sort.HoldsK enC 4 w g 0 d := by
  intro j hj
  rw [Go.Sort.size_flatK, hsz] at hj
  refine ⟨?_, by rw [Nat.zero_add]; exact hO.thaw j⟩
  rw [Go.Sort.get_flatK _ _ _ _ (by rw [hsz]; exact hj)]
  have hi : j / 4 < l.length := by omega
  have hj2 : j % 4 < 4 := Nat.mod_lt _ (by decide)
  have := hO.cells (j / 4) hi (j % 4) ((enC l[j / 4])[j % 4]'(by show j % 4 < 4; exact hj2)) (List.getElem?_eq_getElem _)
  rw [show 0 + j / 4 * eEc.sz + j % 4 = 0 + j by show 0 + j / 4 * 4 + j % 4 = 0 + j; omega] at this
  rw [this, hgetb _ hi, getElem!_pos _ _ (by show j % 4 < 4; exact hj2)]
  rfl
 have hcmp : CmpLays Tryz.prog f #[] enC 4 H.cmpE g 0 d.size w := by
  intro m os dk _ x y
  exact (HC x y _).mono fun e w' ⟨he, hg⟩ => ⟨he, hg.grow⟩
 have hcon := AnyQ.slices_SortFunc (P := Tryz.prog) (ρ := renSortE) laysSortE 4 Tryz.isAgg35 Tryz.sizeOf35 enC (fun x => rfl) enC_one H.cmpE swoH f #[] g 0 cap d w hf hcmp hHK hO.lt (by omega)
 rw [hsz] at hcon
 refine hcon.mono ?_
 rintro e w' ⟨he, d', m, os, hp, hs, rfl⟩
 have hsz' : d'.size = n := by rw [hp.1, hsz]
 have ext : ∀ (x : Array H.En), x.size = n → (x.extract 0 n).toList = x.toList := fun x hx => by rw [← hx]; simp
 have hperm : d'.toList.Perm d.toList := by
  have := hp.2.2
  rwa [ext d' hsz', ext d hsz] at this
 have hHK' := holdsK_sortWorldK_c enC 4 w g 0 d d' m os hHK hO.lt (by omega)
 have hws := size_sortWorldK_c enC 4 w g 0 m d' os
 have hl' : d'.toList.length = n := (Array.length_toList (xs := d')).trans hsz'
 refine ⟨he, d'.toList, by rw [hd] at hperm; exact hperm, ?_, ⟨by have := hO.lt; omega, fun i hi j u hu => ?_, fun j => ?_⟩, sortE_below _ _ _ _ _ _ _ _ g (Nat.le_refl _) hO.lt⟩
 ·rw [List.pairwise_iff_getElem]
  intro i j hi hj hij
  rw [Array.length_toList] at hi hj
  have := hs i j (Nat.zero_le _) hij (by omega)
  rw [ltH, getElem!_pos d' i hi, getElem!_pos d' j hj] at this
  exact this
 ·have hi2 : i < d'.size := by simpa using hi
  have hj : j < 4 := (List.getElem?_eq_some_iff.1 hu).1
  show (sortWorldK enC 4 w g 0 m d' os).cell? ⟨g, 0 + i * 4 + j, none⟩ = some u
  rw [(Go.Sort.HoldsK.cell hHK' hi2 hj).1, getElem!_pos d' i hi2]
  have hu : (enC d'[i])[j]? = some u := hu
  rw [List.getElem?_eq_getElem (by show j < 4; exact hj)] at hu
  rw [getElem!_pos _ _ (by show j < 4; exact hj)]
  exact hu
 ·show (Go.Sort.grow (Go.Sort.putRowK enC 4 (Go.Sort.ahead w m) g 0 d') os).frozen? ⟨g, j, none⟩ = false
  rw [Go.Sort.frozen?_grow _ _ _ (by rw [Go.Sort.size_putRowK]; exact hO.lt)]
  unfold Go.Sort.putRowK
  rw [Go.Sort.frozen?_putRow]
  exact hO.thaw j
end Go.Proofs.YtfcikfohmehmkaaGreatDoor
namespace Go.Proofs.YtfcikfohmehmkaaGreatDoor
open Go.Shelf Go.RowKit
set_option linter.unusedVariables false
def ren106 : Go.Shelf.Ren := ⟨fun | 106 => 40 | 213 => 71 | 265 => 112 | n => n, fun | 3 => 3 | 9 => 9 | n => n, fun  n => n⟩
set_option maxRecDepth 100000 in
theorem lays106 : Go.Proofs.Lays.n106 Tryz.prog ren106 := {
 mixed := by kernel_rfl
 f106 := Tryz.func40.trans (congrArg some (by kernel_rfl))
 f213 := Tryz.func71.trans (congrArg some (by kernel_rfl))
 f265 := Tryz.func112.trans (congrArg some (by kernel_rfl))
 t3 := Tryz.underlying3
 a3 := Tryz.isAgg3
 z3 := Tryz.sizeOf3
 v3 := Tryz.zeroValue3
 t9 := Tryz.underlying9
 a9 := Tryz.isAgg9
 z9 := Tryz.sizeOf9
 v9 := Tryz.zeroValue9 }
theorem cmpW_is : ∀ a b : List UInt8, Lib.compareBytes a b = cmpW a b
 | [], [] => rfl
 | [], _ :: _ => rfl
 | _ :: _, [] => rfl
 | x :: a, y :: b => by
  have ih := cmpW_is a b
  unfold Lib.compareBytes
  unfold cmpW at ih ⊢
  unfold Op.bytesLess
  by_cases h1 : x < y
  ·simp [h1]
  ·by_cases h2 : y < x
   ·have hne : ¬ x = y := fun e => by subst e; exact h1 h2
    simp [h1, h2, hne]
   ·have e : x = y := UInt8.le_antisymm (UInt8.not_lt.1 h2) (UInt8.not_lt.1 h1)
    subst e
    simp only [h1, if_false, ih]
    simp
theorem strCmp (a b : List UInt8) (r : Int) (w : World) (h : cmpW a b = r) : Calls Tryz.prog 40 #[.string (sB a), .string (sB b)] w (fun e w' => e = .returned (.int .i64 r) ∧ w' = w) := by
 subst h
 rw [← cmpW_is]
 exact Any.strings_Compare (P := Tryz.prog) (ρ := ren106) lays106 (sB a) (sB b) w
end Go.Proofs.YtfcikfohmehmkaaGreatDoor
namespace Go.Proofs.YtfcikfohmehmkaaGreatDoor.H
def cmpI (a b : Int) : Int := if a < b then -1 else if b < a then 1 else 0
theorem cmpI_zero {a b : Int} : cmpI a b = 0 ↔ a = b := by
 unfold cmpI
 constructor
 ·intro h
  by_cases h1 : a < b
  ·rw [if_pos h1] at h; omega
  ·by_cases h2 : b < a
   ·rw [if_neg h1, if_pos h2] at h; omega
   ·omega
 ·rintro rfl
  rw [if_neg (by omega), if_neg (by omega)]
def orZ : List Int → Int
 | [] => 0
 | x :: l => if x = 0 then orZ l else x
theorem orZ_at {l : List Int} {k : Nat} (h : k < l.length) : orZ (l.drop k) = if l[k] = 0 then orZ (l.drop (k + 1)) else l[k] := by
 rw [List.drop_eq_getElem_cons h, orZ]
theorem cmp_or (x y : En) : orZ [cmpW x.host y.host, cmpI x.kind y.kind, cmpW x.key y.key, cmpW x.val y.val] = cmpE x y := by
 by_cases h1 : x.host = y.host
 ·by_cases h2 : x.kind = y.kind
  ·by_cases h3 : x.key = y.key
   ·have a1 : aheadE x y = Op.bytesLess x.val y.val := by unfold aheadE; rw [if_neg (fun h => h h1), if_neg (fun h => h h2), if_neg (fun h => h h3)]
    have a2 : aheadE y x = Op.bytesLess y.val x.val := by unfold aheadE; rw [if_neg (fun h => h h1.symm), if_neg (fun h => h h2.symm), if_neg (fun h => h h3.symm)]
    unfold cmpE
    rw [a1, a2, orZ, if_pos (cmpW_zero.2 h1), orZ, if_pos (cmpI_zero.2 h2), orZ, if_pos (cmpW_zero.2 h3), orZ, orZ]
    by_cases h4 : cmpW x.val y.val = 0
    ·rw [if_pos h4]; exact h4.symm
    ·rw [if_neg h4]; rfl
   ·have a1 : aheadE x y = Op.bytesLess x.key y.key := by unfold aheadE; rw [if_neg (fun h => h h1), if_neg (fun h => h h2), if_pos h3]
    have a2 : aheadE y x = Op.bytesLess y.key x.key := by unfold aheadE; rw [if_neg (fun h => h h1.symm), if_neg (fun h => h h2.symm), if_pos (fun h => h3 h.symm)]
    unfold cmpE
    rw [a1, a2, orZ, if_pos (cmpW_zero.2 h1), orZ, if_pos (cmpI_zero.2 h2), orZ, if_neg (fun h => h3 (cmpW_zero.1 h))]
    rfl
  ·have a1 : aheadE x y = decide (x.kind < y.kind) := by unfold aheadE; rw [if_neg (fun h => h h1), if_pos h2]
   have a2 : aheadE y x = decide (y.kind < x.kind) := by unfold aheadE; rw [if_neg (fun h => h h1.symm), if_pos (fun h => h2 h.symm)]
   unfold cmpE
   rw [a1, a2, orZ, if_pos (cmpW_zero.2 h1), orZ, if_neg (fun h => h2 (cmpI_zero.1 h))]
   unfold cmpI
   simp only [decide_eq_true_eq]
 ·have a1 : aheadE x y = Op.bytesLess x.host y.host := by unfold aheadE; rw [if_pos h1]
  have a2 : aheadE y x = Op.bytesLess y.host x.host := by unfold aheadE; rw [if_pos (fun h => h1 h.symm)]
  unfold cmpE
  rw [a1, a2, orZ, if_neg (fun h => h1 (cmpW_zero.1 h))]
  rfl
end Go.Proofs.YtfcikfohmehmkaaGreatDoor.H
namespace Go.Proofs.YtfcikfohmehmkaaGreatDoor
open Go.RowKit
set_option linter.unusedVariables false
theorem nanI (k : Int) (w : World) : Calls Tryz.prog 72 #[.int .i64 k] w (fun e w' => e = .returned (.bool false) ∧ w = w') := by
 go_enter Tryz.func72, Tryz.ntmps72
 go_wp2
 go_ret
 exact ⟨rfl, rfl⟩
theorem cmpInt (a b r : Int) (w : World) (h : H.cmpI a b = r) : Calls Tryz.prog 41 #[.int .i64 a, .int .i64 b] w (fun e w' => e = .returned (.int .i64 r) ∧ w' = w) := by
 by_cases h1 : a < b
 ·have e : -1 = r := by rw [← h]; exact (if_pos h1).symm
  have b1 : decide (a < b) = true := decide_eq_true h1
  subst e
  clear h1 h
  go_enter Tryz.func41, Tryz.ntmps41
  go_wp2_with fail
  refine (nanI _ _).mono ?_
  rintro e w1 ⟨rfl, rfl⟩
  go_wp2_with fail
  refine (nanI _ _).mono ?_
  rintro e w1 ⟨rfl, rfl⟩
  go_wp2
  go_ret
  exact ⟨rfl, rfl⟩
 ·have b1 : decide (a < b) = false := decide_eq_false h1
  by_cases h2 : b < a
  ·have e : 1 = r := by rw [← h]; unfold H.cmpI; rw [if_neg h1, if_pos h2]
   have b2 : decide (b < a) = true := decide_eq_true h2
   subst e
   clear h1 h2 h
   go_enter Tryz.func41, Tryz.ntmps41
   go_wp2_with fail
   refine (nanI _ _).mono ?_
   rintro e w1 ⟨rfl, rfl⟩
   go_wp2_with fail
   refine (nanI _ _).mono ?_
   rintro e w1 ⟨rfl, rfl⟩
   go_wp2
   go_ret
   exact ⟨rfl, rfl⟩
  ·have e : 0 = r := by rw [← h]; unfold H.cmpI; rw [if_neg h1, if_neg h2]
   have b2 : decide (b < a) = false := decide_eq_false h2
   subst e
   clear h1 h2 h
   go_enter Tryz.func41, Tryz.ntmps41
   go_wp2_with fail
   refine (nanI _ _).mono ?_
   rintro e w1 ⟨rfl, rfl⟩
   go_wp2_with fail
   refine (nanI _ _).mono ?_
   rintro e w1 ⟨rfl, rfl⟩
   go_wp2
   go_ret
   exact ⟨rfl, rfl⟩
set_option maxHeartbeats 4000000 in
theorem orC (g n c : Nat) (l : List Int) (r : Int) (w : World) (hn : l.length = n) (hA : ∀ i (h : i < l.length), w.cell? ⟨g, i, none⟩ = some (.int .i64 l[i])) (hl : n ≤ 1073741824) (hr : H.orZ l = r) :
  Calls Tryz.prog 39 #[.slice (some ⟨g, 0, none⟩) n c] w (fun e w' => e = .returned (.int .i64 r) ∧ w' = w) := by
 have HN := Lib.hid hn
 have HA := Lib.hid hA
 have HR := Lib.hid (show H.orZ (l.drop 0) = r from hr)
 clear hn hA hr
 go_enter Tryz.func39, Tryz.ntmps39
 go_wp2
 go_loopg [5, 8] n (fun gk vx vi wr => ∃ k : Nat, Hid (k + gk = n) ∧ k ≤ n ∧ vi = .int .i64 (k : Int) ∧ Hid (H.orZ (l.drop k) = r) ∧ wr = w)
 case atStart => exact ⟨0, Nat.zero_add _, Nat.zero_le _, rfl, HR.out, rfl⟩
 case round =>
  obtain ⟨k, HG, hk, rfl, HF, rfl⟩ := hrel
  have hgk := HG.out
  by_cases hlt : k < n
  ·have blt : decide ((k : Int) < (n : Int)) = true := decide_eq_true (by omega)
   have blt2 : decide (k < n) = true := decide_eq_true hlt
   have hki : (k : Int) < (n : Int) := by omega
   have hkl : k < l.length := by have := HN.out; omega
   have c0 := HA.out k hkl
   have HX := Lib.hid (H.orZ_at hkl)
   generalize l[k] = y at c0 HX
   by_cases he : y = 0
   ·subst he
    have HNX := Lib.hid (show H.orZ (l.drop (k + 1)) = r by rw [← HF.out, HX.out, if_pos rfl])
    go_wp2
    go_roundg (n - (k + 1))
    case rel => exact ⟨k + 1, (by show _ = _; omega), by omega, by go_num, HNX, rfl⟩
    case measure => omega
   ·have n0 : (y != 0) = true := bne_iff_ne.2 he
    have n1 : (y == 0) = false := beq_eq_false_iff_ne.2 he
    have HE := Lib.hid (show y = r by rw [← HF.out, HX.out, if_neg he])
    clear he
    go_wp2
    go_ret
    exact ⟨by rw [HE.out]; rfl, rfl⟩
  ·have blt : decide ((k : Int) < (n : Int)) = false := decide_eq_false (by omega)
   have blt2 : decide (k < n) = false := decide_eq_false hlt
   have HE := Lib.hid (show (0 : Int) = r by
    rw [← HF.out, List.drop_of_length_le (by have := HN.out; omega)]; rfl)
   go_wp2
   go_ret
   exact ⟨by rw [HE.out]; rfl, rfl⟩
set_option maxRecDepth 100000 in
set_option maxHeartbeats 4000000 in
theorem compareC (x y : H.En) (w : World) : Calls Tryz.prog 19 #[enV x, enV y] w (fun e w' => e = .returned (.int .i64 (H.cmpE x y)) ∧ GrewD w w') := by
 obtain ⟨r1, h1⟩ : ∃ r, cmpW x.host y.host = r := ⟨_, rfl⟩
 obtain ⟨r2, h2⟩ : ∃ r, H.cmpI x.kind y.kind = r := ⟨_, rfl⟩
 obtain ⟨r3, h3⟩ : ∃ r, cmpW x.key y.key = r := ⟨_, rfl⟩
 obtain ⟨r4, h4⟩ : ∃ r, cmpW x.val y.val = r := ⟨_, rfl⟩
 have HE := Lib.hid (show H.orZ [r1, r2, r3, r4] = H.cmpE x y by rw [← h1, ← h2, ← h3, ← h4]; exact H.cmp_or x y)
 obtain ⟨W1, hW1⟩ : ∃ W1, (w.alloc (.cells #[.string (sB x.host), .int .i64 x.kind, .string (sB x.key), .string (sB x.val)] 35)).alloc (.cells #[.string (sB y.host), .int .i64 y.kind, .string (sB y.key), .string (sB y.val)] 35) = W1 := ⟨_, rfl⟩
 have hb : Below w.heap.size w W1 := by rw [← hW1]; exact (up w _).alloc (by simp) _
 have hd : W1.drawn = w.drawn := by rw [← hW1]; rfl
 obtain ⟨x0, x1, x2, x3⟩ : W1.cell? ⟨w.heap.size, 0, none⟩ = some (.string (sB x.host)) ∧ W1.cell? ⟨w.heap.size, 1, none⟩ = some (.int .i64 x.kind) ∧ W1.cell? ⟨w.heap.size, 2, none⟩ = some (.string (sB x.key)) ∧ W1.cell? ⟨w.heap.size, 3, none⟩ = some (.string (sB x.val)) := by
  rw [← hW1]; exact (ent_below (ent_laid w x.host x.kind x.key x.val) (up _ _)).cells
 obtain ⟨y0, y1, y2, y3⟩ : W1.cell? ⟨w.heap.size + 1, 0, none⟩ = some (.string (sB y.host)) ∧ W1.cell? ⟨w.heap.size + 1, 1, none⟩ = some (.int .i64 y.kind) ∧ W1.cell? ⟨w.heap.size + 1, 2, none⟩ = some (.string (sB y.key)) ∧ W1.cell? ⟨w.heap.size + 1, 3, none⟩ = some (.string (sB y.val)) := by
  have h := (ent_laid (w.alloc (.cells #[.string (sB x.host), .int .i64 x.kind, .string (sB x.key), .string (sB x.val)] 35)) y.host y.kind y.key y.val).cells
  rw [hW1] at h
  simpa using h
 have HW1 := Lib.hid hW1
 have HB := Lib.hid hb
 have HD := Lib.hid hd
 have H1 := Lib.hid h1
 have H2 := Lib.hid h2
 have H3 := Lib.hid h3
 have H4 := Lib.hid h4
 clear hW1 hb hd h1 h2 h3 h4
 unfold enV
 go_enter Tryz.func19, Tryz.ntmps19
 go_wp2
 rw [HW1.out]
 go_still_tail 20, (by kernel_rfl)
 still_call (strCmp _ _ _ _ H1.out)
 repeat still_step
 still_call (cmpInt _ _ _ _ H2.out)
 repeat still_step
 still_call (strCmp _ _ _ _ H3.out)
 repeat still_step
 still_call (strCmp _ _ _ _ H4.out)
 repeat still_step
 refine wpStill_nil ?_
 change wpList _ _ _ _ _ W1.drew
 go_wp2_with fail
 refine (orC W1.heap.size 4 4 [r1, r2, r3, r4] _ _ rfl (fun i hi => ?_) (by omega) HE.out).mono ?_
 ·match i, hi with
  | 0, _ => exact World.cell?_alloc_mark W1.drew _ _ (0, 0) 0
  | 1, _ => exact World.cell?_alloc_mark W1.drew _ _ (0, 0) 1
  | 2, _ => exact World.cell?_alloc_mark W1.drew _ _ (0, 0) 2
  | 3, _ => exact World.cell?_alloc_mark W1.drew _ _ (0, 0) 3
 rintro e w2 ⟨rfl, rfl⟩
 go_wp2
 go_ret
 exact ⟨rfl, HB.out.drew.alloc HB.out.size _, by show w.drawn ≤ W1.drawn + 1; rw [HD.out]; omega⟩
end Go.Proofs.YtfcikfohmehmkaaGreatDoor
namespace Go.Proofs.YtfcikfohmehmkaaGreatDoor.H
theorem sqE_short {l : List En} (h : l.length < 2) : sqE l = l := by
 match l, h with
 | [], _ => rfl
 | [x], _ => rfl
 | x :: y :: r, h => simp at h; omega
theorem ent_apart {a b : En} (h : a ≠ b) : a.host ≠ b.host ∨ (a.host = b.host ∧ a.kind ≠ b.kind) ∨ (a.host = b.host ∧ a.kind = b.kind ∧ a.key ≠ b.key) ∨ (a.host = b.host ∧ a.kind = b.kind ∧ a.key = b.key ∧ a.val ≠ b.val) := by
 obtain ⟨a1, a2, a3, a4⟩ := a
 obtain ⟨b1, b2, b3, b4⟩ := b
 simp only
 by_cases h1 : a1 = b1
 ·by_cases h2 : a2 = b2
  ·by_cases h3 : a3 = b3
   ·exact .inr (.inr (.inr ⟨h1, h2, h3, fun h4 => h (by rw [h1, h2, h3, h4])⟩))
   ·exact .inr (.inr (.inl ⟨h1, h2, h3⟩))
  ·exact .inr (.inl ⟨h1, h2⟩)
 ·exact .inl h1
end Go.Proofs.YtfcikfohmehmkaaGreatDoor.H
namespace Go.Proofs.YtfcikfohmehmkaaGreatDoor
open Go.RowKit
set_option linter.unusedVariables false
theorem wrapE (x : Int) (h : -9223372036854775808 ≤ x ∧ x ≤ 9223372036854775807) : IntKind.i64.wrap x = x := by rw [IntKind.wrap_i64]; omega
theorem RowE.at_ {w : World} {g : Nat} {l : List H.En} (h : RowE w g l) {i o : Nat} {x : H.En} (hx : l[i]? = some x) (ho : o = i * 4) : w.cell? ⟨g, o, none⟩ = some (.string (sB x.host)) ∧ w.cell? ⟨g, o + 1, none⟩ = some (.int .i64 x.kind) ∧ w.cell? ⟨g, o + 2, none⟩ = some (.string (sB x.key)) ∧ w.cell? ⟨g, o + 3, none⟩ = some (.string (sB x.val)) := by
 subst ho
 obtain ⟨h1, rfl⟩ := List.getElem?_eq_some_iff.1 hx
 have := h.cells.entry rfl rfl h1
 simpa using this
theorem RowE.first {w : World} {g : Nat} {a b : List H.En} (h : RowE w g (a ++ b)) : RowE w g a :=
 ⟨h.lt, fun i hi j u hu => h.cells i (by rw [List.length_append]; omega) j u (by rw [List.getElem_append_left hi]; exact hu), h.thaw⟩
theorem RowE.put {w : World} {g k : Nat} {l : List H.En} (h : RowE w g l) (hk : k < l.length) (x : H.En) : RowE (w.setCells g (k * 4) (enC x)) g (l.set k x) := by
 have some4 : ∀ j, j < (enC x).length → (w.cell? ⟨g, k * 4 + j, none⟩).isSome = true := fun j hj => by
  have hj : j < 4 := hj
  have := h.cells k hk j ((enC l[k])[j]'hj) (List.getElem?_eq_getElem _)
  rw [show 0 + k * eEc.sz + j = k * 4 + j by show 0 + k * 4 + j = _; omega] at this
  rw [this]; rfl
 refine ⟨Nat.lt_of_lt_of_le h.lt (below_cells g (Nat.le_refl _) (enC x) (k * 4) (Below.refl g w)).size, fun i hi j u hu => ?_, fun j => by rw [World.frozen?_setCells]; exact h.thaw j⟩
 rw [List.length_set] at hi
 have hj : j < 4 := by
  have := (List.getElem?_eq_some_iff.1 hu).1
  rw [eEc.len] at this; exact this
 show (w.setCells g (k * 4) (enC x)).cell? ⟨g, 0 + i * 4 + j, none⟩ = some u
 by_cases e : i = k
 ·subst e
  rw [List.getElem_set_self] at hu
  have := World.cell?_setCells_in g (enC x) (i * 4) w some4 j hj
  rw [show 0 + i * 4 + j = i * 4 + j by omega, this, ← hu]
  exact (List.getElem?_eq_getElem _).symm
 ·rw [List.getElem_set_ne (fun e2 => e e2.symm)] at hu
  rw [World.cell?_setCells_out g (enC x) (k * 4) w _ (fun _ _ => by show 0 + i * 4 + j < k * 4 ∨ k * 4 + 4 ≤ 0 + i * 4 + j; omega)]
  exact h.cells i hi j u hu
theorem RowE.behind {w : World} {g o : Nat} {l : List H.En} (h : RowE w g l) (vs : List Value) (ho : l.length * 4 ≤ o) : RowE (w.setCells g o vs) g l := by
 refine ⟨Nat.lt_of_lt_of_le h.lt (below_cells g (Nat.le_refl _) vs o (Below.refl g w)).size, fun i hi j u hu => ?_, fun j => by rw [World.frozen?_setCells]; exact h.thaw j⟩
 have hj : j < 4 := by
  have := (List.getElem?_eq_some_iff.1 hu).1
  rw [eEc.len] at this; exact this
 show (w.setCells g o vs).cell? ⟨g, 0 + i * 4 + j, none⟩ = some u
 rw [World.cell?_setCells_out g vs o w _ (fun _ _ => by show 0 + i * 4 + j < o ∨ _; omega)]
 exact h.cells i hi j u hu
theorem run_clear_ent (w : World) (g o n c : Nat) (hn : 0 < n) (hc : ∀ j, j < n * 4 → (w.cell? ⟨g, o + j, none⟩).isSome = true) (hf : ∀ j, j < n * 4 → w.frozen? ⟨g, o + j, none⟩ = false) :
  ∃ vs : List Value, vs.length = n * 4 ∧ ∀ ty : TypeId, (Builtin.clear_ #[25] ty #[.slice (some ⟨g, o, none⟩) n c]).run Tryz.prog w = .ok (.tuple #[]) (w.setCells g o vs) := by
 obtain ⟨i0, hi0, hz0, hz1, hz2⟩ := info_parts eEc.hin
 have hv : ∀ w, (zeroValue 35).run Tryz.prog w = .ok zeroEn w := fun w => by
  have e : Tryz.prog.info? 35 = some i0 := hi0
  have e2 : i0.zero = some zeroEn := hz0
  simp [zeroValue, typeInfo, e, e2]
 have hu : Tryz.prog.underlying 25 = some (.slice 35) := Tryz.underlying25
 obtain ⟨vs, hvs⟩ : ∃ vs, (Builtin.zeroCells zeroEn.cells n).toList = vs := ⟨_, rfl⟩
 have hl : vs.length = n * 4 := by rw [← hvs, Array.length_toList, size_zeroCells]; rfl
 have h1 : ∀ v ∈ vs, v.oneCell' = true := by
  rw [← hvs]
  refine zeroCells_one _ ?_ n
  decide +kernel
 have hst := run_storeCells_cells (P := Tryz.prog) g o vs 0 w (by rw [hl]; simpa using hc) (by rw [hl]; simpa using hf) h1
 simp only [Nat.add_zero] at hst
 obtain ⟨m, rfl⟩ : ∃ m, n = m + 1 := ⟨n - 1, by omega⟩
 refine ⟨vs, hl, fun ty => ?_⟩
 simp [Builtin.clear_, run_underlying hu, hv, hvs, hst]
structure InE (w : World) (g : Nat) (X Y : List H.En) (wr : World) (q kk : Nat) : Prop where
 len : Y.length = kk
 sq : Y = H.sqE (X.take q)
 row : RowE wr g (Y ++ X.drop kk)
 low : Below g w wr
theorem InE.at_ {w wr : World} {g q kk : Nat} {X Y : List H.En} (h : InE w g X Y wr q kk) {a : Nat} (ha : kk ≤ a) : (Y ++ X.drop kk)[a]? = X[a]? := by
 rw [List.getElem?_append_right (by rw [h.len]; exact ha), List.getElem?_drop, h.len, Nat.add_sub_cancel' ha]
theorem InE.full {w wr : World} {g q kk : Nat} {X Y : List H.En} (h : InE w g X Y wr q kk) (hk : kk ≤ X.length) : (Y ++ X.drop kk).length = X.length := by
 rw [List.length_append, h.len, List.length_drop]; omega
theorem InE.skip {w wr w' : World} {g q kk : Nat} {X Y : List H.En} (h : InE w g X Y wr q kk) (hb : Below wr.heap.size wr w') {q' : Nat} (hq : H.sqE (X.take q') = H.sqE (X.take q)) : InE w g X Y w' q' kk :=
 ⟨h.len, h.sq.trans hq.symm, h.row.keep hb h.row.lt, h.low.trans (hb.mono (Nat.le_of_lt h.row.lt))⟩
theorem setE_drop {α : Type} (Y X : List α) (k : Nat) (hY : Y.length = k) (hk : k < X.length) (x : α) : (Y ++ X.drop k).set k x = (Y ++ [x]) ++ X.drop (k + 1) := by
 subst hY
 obtain ⟨r, hr⟩ : ∃ r, X.drop (Y.length + 1) = r := ⟨_, rfl⟩
 obtain ⟨y, hy⟩ : ∃ y, X[Y.length] = y := ⟨_, rfl⟩
 rw [show X.drop Y.length = y :: r by rw [← hr, ← hy]; exact (List.getElem_cons_drop hk).symm, hr]
 simp
theorem InE.put {w wr w' : World} {g q kk : Nat} {X Y : List H.En} (h : InE w g X Y wr q kk) (hb : Below wr.heap.size wr w') {q' : Nat} {p : H.En} (hk : kk < X.length) (hq : H.sqE (X.take q') = H.sqE (X.take q) ++ [p]) : InE w g X (Y ++ [p]) (w'.setCells g (kk * 4) (enC p)) q' (kk + 1) := by
 have h2 := (h.row.keep hb h.row.lt).put (k := kk) (by rw [h.full (Nat.le_of_lt hk)]; exact hk) p
 rw [setE_drop _ _ _ h.len hk] at h2
 exact ⟨by rw [List.length_append, h.len]; rfl, by rw [hq, h.sq], h2, below_cells g (Nat.le_refl _) _ _ (h.low.trans (hb.mono (Nat.le_of_lt h.row.lt)))⟩
set_option maxRecDepth 100000 in
set_option maxHeartbeats 16000000 in
theorem compactE (g cap n : Nat) (X : List H.En) (w : World) (hn : X.length = n) (hc : n ≤ cap) (hl : n ≤ 1073741824) (hR : RowE w g X) :
  Calls Tryz.prog 37 #[.slice (some ⟨g, 0, none⟩) n cap] w (fun e w' => ∃ m, e = .returned (.slice (some ⟨g, 0, none⟩) m cap) ∧ (H.sqE X).length = m ∧ m ≤ n ∧ RowE w' g (H.sqE X) ∧ Below g w w') := by
 have HN := Lib.hid hn
 have HR := Lib.hid hR
 by_cases h2 : n < 2
 ·have b2 : decide ((n : Int) < 2) = true := decide_eq_true (by omega)
  have HY := Lib.hid (show H.sqE X = X from H.sqE_short (by omega))
  clear hn hR
  go_enter Tryz.func37, Tryz.ntmps37
  go_wp2
  go_ret
  exact ⟨n, rfl, by rw [HY.out]; exact HN.out, Nat.le_refl _, by rw [HY.out]; exact HR.out, Below.refl _ _⟩
 have b2 : decide ((n : Int) < 2) = false := decide_eq_false (by omega)
 have H1 := Lib.hid (show H.sqE (X.take 1) = X.take 1 from H.sqE_short (by rw [List.length_take]; omega))
 have HLT := Lib.hid hR.lt
 clear hR hn
 go_enter Tryz.func37, Tryz.ntmps37
 go_wp2
 go_loopg [3] (n - 1) (fun gk vi wr => ∃ k : Nat, Hid (k + gk = n) ∧ 1 ≤ k ∧ k ≤ n ∧ vi = .int .i64 (k : Int) ∧ Hid (H.sqE (X.take k) = X.take k) ∧ Below w.heap.size w wr)
 case atStart => exact ⟨1, (by show _ = _; omega), Nat.le_refl _, by omega, by go_num, H1.out, Below.refl _ _⟩
 case round =>
  obtain ⟨k, HG, hk1, hkn, rfl, HQ, hb⟩ := hrel
  by_cases hlt : k < n
  ·have blt : decide ((k : Int) < (n : Int)) = true := decide_eq_true (by omega)
   have blt2 : decide (k < n) = true := decide_eq_true hlt
   obtain ⟨j, hj⟩ : ∃ j, k = j + 1 := ⟨k - 1, by omega⟩
   have hkX : k < X.length := by have := HN.out; omega
   have hjX : j < X.length := by omega
   obtain ⟨p, hp⟩ : ∃ p, X[k]? = some p := ⟨_, List.getElem?_eq_getElem hkX⟩
   obtain ⟨q, hq⟩ : ∃ q, X[j]? = some q := ⟨_, List.getElem?_eq_getElem hjX⟩
   have HNX := Lib.hid (H.sqE_step X k j p q hj hp hq)
   obtain ⟨p0, p1, p2, p3⟩ := (HR.out.keep hb HLT.out).at_ hp rfl
   obtain ⟨q0, q1, q2, q3⟩ := (HR.out.keep hb HLT.out).at_ hq rfl
   have hw : IntKind.i64.wrap ((k : Int) - 1) = (j : Int) := by rw [wrapE _ (by omega)]; omega
   have hki : (k : Int) < (n : Int) := by omega
   have hji : (j : Int) < (n : Int) := by omega
   have hgk := HG.out
   have HJ := Lib.hid hj
   clear hp hq hj hkX hjX
   by_cases he : p = q
   ·subst he
    obtain ⟨nn, hnn⟩ : ∃ nn, n - k = nn := ⟨_, rfl⟩
    obtain ⟨cc, hcc⟩ : ∃ cc, cap - k = cc := ⟨_, rfl⟩
    have hkc : k ≤ cap := by omega
    have hkne : ¬ cap = k := by omega
    have hkn' : k ≤ n := by omega
    have HNN := Lib.hid hnn
    have HI0 := Lib.hid (fun w' (h : Below w.heap.size w w') => show InE w g X (X.take k) w' (k + 1) k from ⟨by rw [List.length_take, HN.out]; omega, by rw [HNX.out.2.2 (decide_eq_true rfl)]; exact HQ.out.symm, by rw [List.take_append_drop]; exact HR.out.keep h HLT.out, h.mono (Nat.le_of_lt HLT.out)⟩)
    go_wp2
    go_quiet (fail)
    all_goals go_wp2
    go_loopg [3, 5] (nn - 1) (fun gk v5 v7 wr => ∃ (k2 kk : Nat) (Y : List H.En), Hid (k2 + gk = nn) ∧ 1 ≤ k2 ∧ k2 ≤ nn ∧ v5 = .int .i64 (kk : Int) ∧ v7 = .int .i64 (k2 : Int) ∧ Hid (kk < k + k2) ∧ Hid (InE w g X Y wr (k + k2) kk))
    case atStart => exact ⟨1, k, X.take k, (by show _ = _; omega), Nat.le_refl _, by omega, rfl, by go_num, (by show _ < _; omega), HI0.out _ (bthen hb (drew_below _ _))⟩
    case round =>
     obtain ⟨k2, kk, Y, HG2, hk21, hk2n, rfl, rfl, HKK, HI⟩ := hrel
     by_cases hlt2 : k2 < nn
     ·have blt3 : decide ((k2 : Int) < (nn : Int)) = true := decide_eq_true (by omega)
      have blt4 : decide (k2 < nn) = true := decide_eq_true hlt2
      obtain ⟨j2, hj2⟩ : ∃ j2, k2 = j2 + 1 := ⟨k2 - 1, by omega⟩
      have hkk := HKK.out
      have hxl : X.length = n := HN.out
      have hnn2 : n - k = nn := HNN.out
      obtain ⟨p, hp⟩ : ∃ p, X[k + k2]? = some p := ⟨_, List.getElem?_eq_getElem (by omega)⟩
      obtain ⟨q, hq⟩ : ∃ q, X[k + j2]? = some q := ⟨_, List.getElem?_eq_getElem (by omega)⟩
      have HNX := Lib.hid (H.sqE_step X (k + k2) (k + j2) p q (by omega) hp hq)
      obtain ⟨p0, p1, p2, p3⟩ := HI.out.row.at_ (o := k * 4 + k2 * 4) ((HI.out.at_ (a := k + k2) (by omega)).trans hp) (by omega)
      obtain ⟨q0, q1, q2, q3⟩ := HI.out.row.at_ (o := k * 4 + j2 * 4) ((HI.out.at_ (a := k + j2) (by omega)).trans hq) (by omega)
      have hw : IntKind.i64.wrap ((k2 : Int) - 1) = (j2 : Int) := by rw [wrapE _ (by omega)]; omega
      have hki : (k2 : Int) < (nn : Int) := by omega
      have hji : (j2 : Int) < (nn : Int) := by omega
      have hkkn : kk < n := by omega
      have hkki : (kk : Int) < (n : Int) := by omega
      have hgk2 := HG2.out
      obtain ⟨z, hz⟩ : ∃ z, (Y ++ X.drop kk)[kk]? = some z := ⟨_, List.getElem?_eq_getElem (by rw [HI.out.full (by omega)]; omega)⟩
      obtain ⟨z0, z1, z2, z3⟩ := HI.out.row.at_ (o := kk * 4) hz rfl
      have f0 := HI.out.row.thaw (kk * 4)
      have f1 := HI.out.row.thaw (kk * 4 + 1)
      have f2 := HI.out.row.thaw (kk * 4 + 2)
      have f3 := HI.out.row.thaw (kk * 4 + 3)
      have HKX := Lib.hid (show kk < X.length by omega)
      clear hp hq hj2 hxl hnn2 hkk hz
      by_cases he : p = q
      ·subst he
       clear z0 z1 z2 z3 f0 f1 f2 f3
       go_wp2
       go_quiet (fail)
       all_goals go_wp2
       all_goals
        go_roundg (nn - (k2 + 1))
        case rel => exact ⟨k2 + 1, kk, Y, (by show _ = _; omega), by omega, by omega, rfl, by go_num, (by have := HKK.out; show _ < _; omega), HI.out.skip (drew_below _ _) (HNX.out.2.2 (by simp))⟩
        case measure => omega
      ·rcases H.ent_apart he with e1 | ⟨e1, e2⟩ | ⟨e1, e2, e3⟩ | ⟨e1, e2, e3, e4⟩
       ·have n1 := sB_ne e1
        have HD := Lib.hid he
        clear e1 he
        go_wp2
        go_quiet (fail)
        all_goals go_wp2
        all_goals
         go_roundg (nn - (k2 + 1))
         case rel => exact ⟨k2 + 1, kk + 1, Y ++ [p], (by show _ = _; omega), by omega, by omega, by go_num, by go_num, (by have := HKK.out; show _ < _; omega), HI.out.put (q' := k + (k2 + 1)) (drew_below _ _) HKX.out (HNX.out.1 (decide_eq_false HD.out))⟩
         case measure => omega
       ·have n1 := sB_eq e1
        have n2 : (p.kind == q.kind) = false := beq_eq_false_iff_ne.2 e2
        have HD := Lib.hid he
        clear e1 e2 he
        go_wp2
        go_quiet (fail)
        all_goals go_wp2
        all_goals
         go_roundg (nn - (k2 + 1))
         case rel => exact ⟨k2 + 1, kk + 1, Y ++ [p], (by show _ = _; omega), by omega, by omega, by go_num, by go_num, (by have := HKK.out; show _ < _; omega), HI.out.put (q' := k + (k2 + 1)) (drew_below _ _) HKX.out (HNX.out.1 (decide_eq_false HD.out))⟩
         case measure => omega
       ·have n1 := sB_eq e1
        have n2 : (p.kind == q.kind) = true := beq_iff_eq.2 e2
        have n3 := sB_ne e3
        have HD := Lib.hid he
        clear e1 e2 e3 he
        go_wp2
        go_quiet (fail)
        all_goals go_wp2
        all_goals
         go_roundg (nn - (k2 + 1))
         case rel => exact ⟨k2 + 1, kk + 1, Y ++ [p], (by show _ = _; omega), by omega, by omega, by go_num, by go_num, (by have := HKK.out; show _ < _; omega), HI.out.put (q' := k + (k2 + 1)) (drew_below _ _) HKX.out (HNX.out.1 (decide_eq_false HD.out))⟩
         case measure => omega
       ·have n1 := sB_eq e1
        have n2 : (p.kind == q.kind) = true := beq_iff_eq.2 e2
        have n3 := sB_eq e3
        have n4 := sB_ne e4
        have HD := Lib.hid he
        clear e1 e2 e3 e4 he
        go_wp2
        go_quiet (fail)
        all_goals go_wp2
        all_goals
         go_roundg (nn - (k2 + 1))
         case rel => exact ⟨k2 + 1, kk + 1, Y ++ [p], (by show _ = _; omega), by omega, by omega, by go_num, by go_num, (by have := HKK.out; show _ < _; omega), HI.out.put (q' := k + (k2 + 1)) (drew_below _ _) HKX.out (HNX.out.1 (decide_eq_false HD.out))⟩
         case measure => omega
     ·have blt3 : decide ((k2 : Int) < (nn : Int)) = false := decide_eq_false (by omega)
      have blt4 : decide (k2 < nn) = false := decide_eq_false hlt2
      have hkk := HKK.out
      have hxl : X.length = n := HN.out
      have hnn2 : n - k = nn := HNN.out
      have hkkn : kk ≤ n := by omega
      have hkkc : kk ≤ cap := by omega
      have hkkne : ¬ cap = kk := by omega
      obtain ⟨n3, hn3⟩ : ∃ n3, n - kk = n3 := ⟨_, rfl⟩
      obtain ⟨c3, hc3⟩ : ∃ c3, cap - kk = c3 := ⟨_, rfl⟩
      obtain ⟨vs, hvs, hcl⟩ := run_clear_ent wr g (kk * 4) n3 c3 (by omega) (fun x hx => by
       obtain ⟨z, hz⟩ : ∃ z, (Y ++ X.drop kk)[kk + x / 4]? = some z := ⟨_, List.getElem?_eq_getElem (by rw [HI.out.full (by omega)]; omega)⟩
       obtain ⟨h1, h2⟩ := List.getElem?_eq_some_iff.1 hz
       have hx4 : x % 4 < 4 := Nat.mod_lt _ (by decide)
       have h := HI.out.row.cells (kk + x / 4) h1 (x % 4) ((enC _)[x % 4]'hx4) (List.getElem?_eq_getElem _)
       rw [show 0 + (kk + x / 4) * eEc.sz + x % 4 = kk * 4 + x by show 0 + (kk + x / 4) * 4 + x % 4 = _; omega] at h
       rw [h]; rfl) (fun x hx => HI.out.row.thaw _)
      have HSQ := Lib.hid (show Y = H.sqE X by
       rw [HI.out.sq, List.take_of_length_le (by omega)])
      have HRW := Lib.hid (show RowE (wr.setCells g (kk * 4) vs) g Y from HI.out.row.first.behind vs (by rw [HI.out.len]; exact Nat.le_refl _))
      have HBT := Lib.hid (below_cells g (Nat.le_refl _) vs (kk * 4) HI.out.low)
      have HYL := Lib.hid HI.out.len
      clear hkk hvs
      go_wp2
      go_ret
      exact ⟨kk, rfl, by rw [← HSQ.out]; exact HYL.out, hkkn, by rw [← HSQ.out]; exact HRW.out, HBT.out⟩
   ·rcases H.ent_apart he with e1 | ⟨e1, e2⟩ | ⟨e1, e2, e3⟩ | ⟨e1, e2, e3, e4⟩
    ·have n1 := sB_ne e1
     have HD := Lib.hid he
     clear e1 he
     go_wp2
     go_quiet (fail)
     all_goals go_wp2
     all_goals
      go_roundg (n - (k + 1))
      case rel => exact ⟨k + 1, (by show _ = _; omega), by omega, by omega, by go_num, (HNX.out.1 (decide_eq_false HD.out)).trans (by rw [HQ.out]; exact HNX.out.2.1), bthen hb (drew_below _ _)⟩
      case measure => omega
    ·have n1 := sB_eq e1
     have n2 : (p.kind == q.kind) = false := beq_eq_false_iff_ne.2 e2
     have HD := Lib.hid he
     clear e1 e2 he
     go_wp2
     go_quiet (fail)
     all_goals go_wp2
     all_goals
      go_roundg (n - (k + 1))
      case rel => exact ⟨k + 1, (by show _ = _; omega), by omega, by omega, by go_num, (HNX.out.1 (decide_eq_false HD.out)).trans (by rw [HQ.out]; exact HNX.out.2.1), bthen hb (drew_below _ _)⟩
      case measure => omega
    ·have n1 := sB_eq e1
     have n2 : (p.kind == q.kind) = true := beq_iff_eq.2 e2
     have n3 := sB_ne e3
     have HD := Lib.hid he
     clear e1 e2 e3 he
     go_wp2
     go_quiet (fail)
     all_goals go_wp2
     all_goals
      go_roundg (n - (k + 1))
      case rel => exact ⟨k + 1, (by show _ = _; omega), by omega, by omega, by go_num, (HNX.out.1 (decide_eq_false HD.out)).trans (by rw [HQ.out]; exact HNX.out.2.1), bthen hb (drew_below _ _)⟩
      case measure => omega
    ·have n1 := sB_eq e1
     have n2 : (p.kind == q.kind) = true := beq_iff_eq.2 e2
     have n3 := sB_eq e3
     have n4 := sB_ne e4
     have HD := Lib.hid he
     clear e1 e2 e3 e4 he
     go_wp2
     go_quiet (fail)
     all_goals go_wp2
     all_goals
      go_roundg (n - (k + 1))
      case rel => exact ⟨k + 1, (by show _ = _; omega), by omega, by omega, by go_num, (HNX.out.1 (decide_eq_false HD.out)).trans (by rw [HQ.out]; exact HNX.out.2.1), bthen hb (drew_below _ _)⟩
      case measure => omega
  ·have blt : decide ((k : Int) < (n : Int)) = false := decide_eq_false (by omega)
   have blt2 : decide (k < n) = false := decide_eq_false hlt
   have HY := Lib.hid (show H.sqE X = X by
    have h := HQ.out
    rw [List.take_of_length_le (by rw [HN.out]; omega)] at h
    exact h)
   go_wp2
   go_ret
   exact ⟨n, rfl, by rw [HY.out]; exact HN.out, Nat.le_refl _, by rw [HY.out]; exact HR.out.keep hb HLT.out, hb.mono (Nat.le_of_lt HLT.out)⟩
set_option maxRecDepth 100000 in
theorem cloneEZ (c : Nat) (w : World) : Calls Tryz.prog 35 #[.slice none 0 c] w (OwnS eEc w []) := by
 have q := fun (w : World) (a : Option Addr) (n c : Nat) => Lib.run_eql_slice_nil (P := Tryz.prog) w 25 _ a n c 0 0 Tryz.underlying25
 go_enter Tryz.func35, Tryz.ntmps35
 go_wp2
 go_ret
 exact ⟨_, rfl, Own.nil _ _, Below.refl _ _⟩
set_option maxRecDepth 100000 in
theorem cloneES (ad : Addr) (cap n : Nat) (t : List H.En) (w : World) (hn : t.length = n) (hp : n ≤ 1073741824) (h : Seen eEc w (some ad) t) :
  Calls Tryz.prog 35 #[.slice (some ad) n cap] w (OwnS eEc w t) := by
 have HH := Lib.hid (h.below ((Below.refl _ _).alloc (Nat.le_refl _) (.cells #[] eEc.T)))
 have HO := Lib.hid (Own.empty eEc w)
 clear h
 have q := fun (w : World) (a : Option Addr) (n c : Nat) => Lib.run_eql_slice_nil (P := Tryz.prog) w 25 _ a n c 0 0 Tryz.underlying25
 have HN := Lib.hid hn
 clear hn
 go_enter Tryz.func35, Tryz.ntmps35
 go_wp2_with (first | (at_builtin; refine wpList_appSeen eEc (w.alloc (.cells #[] eEc.T)) rfl (.tmp 5) (.tmp 6) rfl w.heap.size _ [] rfl HO.out ad t n cap HN.out rfl HH.out (by simp; omega) (by simp) ?_; intro v3 w3 hown3 hb3))
 go_ret
 exact ⟨v3, rfl, hown3, ((Below.refl _ _).alloc (Nat.le_refl _) _).trans hb3⟩
theorem cloneE (A : Option Addr) (c n : Nat) (p : List H.En) (w : World) (hn : p.length = n) (hp : n ≤ 1073741824) (h : Seen eEc w A p) : Calls Tryz.prog 35 #[.slice A n c] w (OwnS eEc w p) := by
 cases A with
 | none =>
  have h0 : p = [] := by
   cases p with
   | nil => rfl
   | cons a r => obtain ⟨b, o, e, _⟩ := h (by simp); cases e
  subst h0
  obtain rfl : n = 0 := hn.symm
  exact cloneEZ c w
 | some ad => exact cloneES ad c n p w hn hp h
theorem enters_compare : ∀ args w, (callFunc 19 args).run Tryz.prog w = .ok (.enter 19 args) w := enters_of Tryz.func19 (by kernel_rfl) rfl
theorem compactZ (A : Option Addr) (c : Nat) (w : World) : Calls Tryz.prog 37 #[.slice A 0 c] w (fun e w' => e = .returned (.slice A 0 c) ∧ w = w') := by
 go_enter Tryz.func37, Tryz.ntmps37
 go_wp2
 go_ret
 exact ⟨rfl, rfl⟩
set_option maxRecDepth 100000 in
set_option maxHeartbeats 4000000 in
theorem setC (A : Option Addr) (c n m : Nat) (l : List H.En) (w : World) (hn : l.length = n) (hl : n ≤ 1073741824) (hA : Seen eEc w A l) (hm : (H.setE l).length = m) :
  Calls Tryz.prog 17 #[.slice A n c] w (fun e w' => ∃ B d, e = .returned (.slice B m d) ∧ m ≤ d ∧ Seen eEc w' B (H.setE l) ∧ Below w.heap.size w w') := by
 have HC := Lib.hid (cloneE A c n l w hn hl hA)
 have HN := Lib.hid hn
 have HM := Lib.hid hm
 clear hA hm hn
 by_cases h0 : n = 0
 ·have HL0 := Lib.hid (show l = [] from List.eq_nil_of_length_eq_zero (by have := HN.out; omega))
  obtain rfl : m = 0 := by rw [← HM.out, HL0.out]; rfl
  subst h0
  go_enter Tryz.func17, Tryz.ntmps17
  go_wp2_with fail
  refine HC.out.mono ?_
  rintro e w1 ⟨v, rfl, ho, hb1⟩
  rw [HL0.out] at ho
  obtain ⟨B, d, rfl, _, _⟩ := ho.seen
  have HB1 := Lib.hid hb1
  clear ho hb1
  simp only [List.length_nil]
  go_wp2_with fail
  refine (AnyF.slices_SortFunc_none (P := Tryz.prog) (ρ := renSortE) laysSortE B d (.func (.func 19) #[] #[]) w1).mono ?_
  rintro e w2 ⟨rfl, rfl⟩
  go_wp2_with fail
  refine (compactZ B d _).mono ?_
  rintro e w3 ⟨rfl, rfl⟩
  go_wp2
  go_ret
  refine ⟨B, d, rfl, Nat.zero_le _, ?_, HB1.out⟩
  rw [HL0.out]
  exact Seen.nil
 ·have hn0 : 0 < n := by omega
  go_enter Tryz.func17, Tryz.ntmps17
  go_wp2_with fail
  refine HC.out.mono ?_
  rintro e w1 ⟨v, rfl, ho, hb1⟩
  obtain ⟨B, d, rfl, hd, _⟩ := ho.seen
  rw [HN.out] at ho hd ⊢
  obtain ⟨g, rfl, hg1, hg2, _⟩ := ho.block (by have := HN.out; omega)
  have HR := Lib.hid (RowE.own ho (by have := HN.out; omega))
  have HB1 := Lib.hid hb1
  clear ho hb1
  go_wp2_with fail
  refine (sortE_any 19 enters_compare compareC g n d l w1 HN.out hn0 HR.out hl).mono ?_
  rintro e w2 ⟨rfl, s, hp, hso, hr, hb2⟩
  have HSQ := Lib.hid (H.sq_set hp hso)
  have HSL := Lib.hid (hp.length_eq.trans HN.out)
  have HR2 := Lib.hid hr
  have HB2 := Lib.hid (HB1.out.trans (hb2.mono hg1))
  clear hp hso hr hb2
  go_wp2_with fail
  refine (compactE g d n s _ HSL.out hd hl HR2.out).mono ?_
  rintro e w3 ⟨q, rfl, hq, hqn, hr3, hb3⟩
  have HR3 := Lib.hid hr3
  have HB3 := Lib.hid (HB2.out.trans (hb3.mono hg1))
  have hqm : q = m := by rw [← hq, HSQ.out, HM.out]
  subst hqm
  clear hr3 hb3 hq
  go_wp2
  go_ret
  refine ⟨_, d, rfl, by omega, ?_, HB3.out⟩
  rw [← HSQ.out]
  exact HR3.out.seen
abbrev NdM := PtM × (List UInt8 × List UInt8)
abbrev NdP := T.Pth × (List UInt8 × List UInt8)
def ndC (x : NdM) : List Value := [.string (sB x.2.1), .string (sB x.2.2), .slice x.1.A x.1.n x.1.c]
theorem ndC_one (x : NdM) (u : Value) (hu : u ∈ ndC x) : u.oneCell' = true := by
 simp [ndC] at hu
 rcases hu with rfl | rfl | rfl <;> rfl
def eNd : Elem NdM where
 st := 58
 T := 96
 sz := 3
 zero := .agg #[.string ⟨#[]⟩, .string ⟨#[]⟩, .slice none 0 0]
 by_ := 56
 C := ndC
 hst := Tryz.underlying58
 hin := by kernel_rfl
 hzs := rfl
 hsz := by decide
 hby := by decide
 len := fun _ => rfl
 one := ndC_one
structure NdK (w : World) (k : Nat) (m : NdM) (x : NdP) : Prop where
 pt : PtK w k m.1 x.1
 num : m.2 = x.2
theorem NdK.below {w w1 : World} {k : Nat} {m : NdM} {x : NdP} (h : NdK w k m x) (hb : Below w.heap.size w w1) : NdK w1 k m x := ⟨h.pt.below hb, h.num⟩
def OwnNd (E : Elem NdM) (w : World) (base k : Nat) (v : Value) (L : List NdP) : Prop := ∃ M : List NdM, M.length = L.length ∧ Own E w base v M ∧ ∀ i (h1 : i < M.length) (h2 : i < L.length), NdK w k M[i] L[i] ∧ FreeQ v M[i].1 L[i].1
theorem OwnNd.nil (E : Elem NdM) (w : World) (base k : Nat) : OwnNd E w base k (.slice none 0 0) [] := ⟨[], rfl, Own.nil _ _, fun i h => absurd h (Nat.not_lt_zero i)⟩
theorem OwnNd.keep {E : Elem NdM} {w w1 : World} {base k : Nat} {v : Value} {L : List NdP} (h : OwnNd E w base k v L) (hb : Below w.heap.size w w1) : OwnNd E w1 base k v L := by
 obtain ⟨M, h1, h2, h3⟩ := h
 exact ⟨M, h1, h2.keep hb, fun i h4 h5 => ⟨(h3 i h4 h5).1.below hb, (h3 i h4 h5).2⟩⟩
theorem OwnNd.ndBlock {E : Elem NdM} {w : World} {base k : Nat} {v : Value} {L : List NdP} (h : OwnNd E w base k v L) : ∀ b, v.ownBlock = some b → base ≤ b ∧ b < w.heap.size := by
 obtain ⟨M, _, h2, _⟩ := h
 exact h2.lt
theorem OwnNd.ndFree {E : Elem NdM} {w w1 : World} {base k j : Nat} {v : Value} {L : List NdP} {m : PtM} {x : T.Pth} (h : OwnNd E w base k v L) (hj : w.heap.size ≤ j) (hm : PtK w1 j m x) : FreeQ v m x := by
 intro _ a ha e
 have h5 := hm.from_ a ha
 have h6 := (h.ndBlock _ e).2
 omega
theorem OwnNd.snoc {E : Elem NdM} {w w' : World} {base k : Nat} {v v' : Value} {M : List NdM} {L : List NdP} {m : NdM} {x : NdP} (hl : M.length = L.length) (he : ∀ i (h1 : i < M.length) (h2 : i < L.length), NdK w k M[i] L[i] ∧ FreeQ v M[i].1 L[i].1)
  (hx : NdK w k m x) (hf : FreeQ v m.1 x.1) (hg : Grew E w w' base v v' (M ++ [m])) : OwnNd E w' base k v' (L ++ [x]) := by
 have step : ∀ (m : NdM) (x : NdP), NdK w k m x → FreeQ v m.1 x.1 → NdK w' k m x ∧ FreeQ v' m.1 x.1 := by
  intro m x hx hf
  refine ⟨⟨⟨⟨hx.pt.pt.len, hx.pt.pt.cap, fun hp => ?_⟩, hx.pt.from_⟩, hx.num⟩, fun hp a ha e => ?_⟩
  ·obtain ⟨b, o, e, hb, hH⟩ := hx.pt.pt.seen hp
   have hne := hf hp _ e
   exact ⟨b, o, e, Nat.lt_of_lt_of_le hb hg.grown.size, holds_of_block hH (hg.grown.block b hb (fun e => hne e.symm))⟩
  ·obtain ⟨b, o, e2, hb, _⟩ := hx.pt.pt.seen hp
   have hne := hf hp a ha
   have eb : a.block = b := by rw [e2] at ha; injection ha with ha; rw [← ha]
   rcases hg.at_ with h | ⟨g, h, h4⟩
   ·rw [h] at e; exact hne e
   ·rw [h] at e; injection e with e; omega
 refine ⟨M ++ [m], by rw [List.length_append, List.length_append, hl]; rfl, hg.own, fun i h1 h2 => ?_⟩
 rw [List.length_append, List.length_singleton] at h1
 by_cases hi : i < M.length
 ·rw [List.getElem_append_left hi, List.getElem_append_left (by omega)]
  exact step _ _ (he i hi (by omega)).1 (he i hi (by omega)).2
 ·obtain rfl : i = M.length := by omega
  have e1 : (M ++ [m])[M.length]'(by simp) = m := by simp
  have e2 : (L ++ [x])[M.length]'(by rw [List.length_append, hl]; simp) = x := by simp [hl]
  rw [e1, e2]
  exact step _ _ hx hf
theorem wpList_appNd (E : Elem NdM) {ops : Array Oper} {rest : List Oper} {o : Oper} {a : Act} {Q : Exit → Act → World → Prop} (w : World) (hgd : o.guard = none) (s x : Operand)
  (ho : o.op = .call { callee := .builtin .append, args := #[s, x], argTypes := #[E.st, E.st] })
  (base k : Nat) (v : Value) (L : List NdP) (hs : a.eval s = v) (hown : OwnNd E w base k v L) (y : NdP) (m : NdM) (hy : NdK w k m y) (hf : FreeQ v m.1 y.1) (cap : Nat) (cs : Array Value) (hcs : cs.toList = E.C m)
  (g : Nat) (hg : w.heap.size = g) (hx : a.eval x = .slice (some ⟨g, 0, none⟩) 1 cap) (hlen : L.length + 1 ≤ 1099511627776) (hb : base ≤ w.heap.size)
  (h : ∀ v' w', OwnNd E w' base k v' (L ++ [y]) → Below base w w' → wpList Tryz.prog ops Q rest (a.put o.dst v') w') : wpList Tryz.prog ops Q (o :: rest) a (w.alloc (.cells cs E.T)) := by
 obtain ⟨M, h1, h2, h3⟩ := hown
 exact wpList_app3 E w hgd s x ho base v M hs h2 m cap cs hcs g hg hx (by omega) hb fun v' w' hG => h v' w' (OwnNd.snoc h1 h3 hy hf hG) (hG.below h2 hb)
theorem Holds.node {w : World} {b o : Nat} {l : List NdM} (h : Holds eNd w b o l) {i : Nat} (hi : i < l.length) : w.cell? ⟨b, o + i * 3, none⟩ = some (.string (sB l[i].2.1)) ∧ w.cell? ⟨b, o + i * 3 + 1, none⟩ = some (.string (sB l[i].2.2)) ∧ w.cell? ⟨b, o + i * 3 + 2, none⟩ = some (.slice l[i].1.A l[i].1.n l[i].1.c) := by
 have e : ∀ j u, (ndC l[i])[j]? = some u → w.cell? ⟨b, o + i * 3 + j, none⟩ = some u := fun j u hu => h i hi j u hu
 exact ⟨e 0 _ rfl, e 1 _ rfl, e 2 _ rfl⟩
def ndP (x : H.Nd) : NdP := (x.vn, (x.name, x.addr))
def NdB (w : World) (g : Nat) (a b : List UInt8) (m : PtM) : Prop := w.heap[g]? = some (.cells #[.string (sB a), .string (sB b), .slice m.A m.n m.c] 96 (0, 0))
theorem NdB.cells {w : World} {g : Nat} {a b : List UInt8} {m : PtM} (h : NdB w g a b m) : w.cell? ⟨g, 0, none⟩ = some (.string (sB a)) ∧ w.cell? ⟨g, 1, none⟩ = some (.string (sB b)) ∧ w.cell? ⟨g, 2, none⟩ = some (.slice m.A m.n m.c) := by
 refine ⟨?_, ?_, ?_⟩ <;> simp [World.cell?, show w.heap[g]? = _ from h]
theorem NdB.fzn {w : World} {g : Nat} {a b : List UInt8} {m : PtM} (h : NdB w g a b m) (j : Nat) : w.frozen? ⟨g, j, none⟩ = false := by simp [World.frozen?, show w.heap[g]? = _ from h]
theorem NdB.keep {w w1 : World} {B g : Nat} {a b : List UInt8} {m : PtM} (h : NdB w g a b m) (hb : Below B w w1) (hg : g < B) : NdB w1 g a b m := (hb.block g hg).trans h
theorem NdB.lt {w : World} {g : Nat} {a b : List UInt8} {m : PtM} (h : NdB w g a b m) : g < w.heap.size := (Array.getElem?_eq_some_iff.1 h).1
theorem NdB.born (w : World) (a b : List UInt8) (m : PtM) : NdB (w.alloc (.cells #[.string (sB a), .string (sB b), .slice m.A m.n m.c] 96)) w.heap.size a b m := heap_alloc_new w _
theorem NdB.side {w w1 : World} {k g : Nat} {v : Value} {a b : List UInt8} {m : PtM} (h : NdB w g a b m) (hs : Side12 k w w1 v) (hk : k ≤ g) : NdB w1 g a b m := (hs.same g hk h.lt).trans h
theorem nd_store (w : World) (g j : Nat) (cs : Array Value) (ty : TypeId) (h : w.heap[g]? = some (.cells cs ty (0, 0))) (u : Value) : (w.setCell ⟨g, j, none⟩ u).heap[g]? = some (.cells (cs.setIfInBounds j u) ty (0, 0)) := by
 simp [World.setCell, Array.getElem?_modify, h]
theorem NdB.set {w : World} {g : Nat} {a b : List UInt8} {m : PtM} (h : NdB w g a b m) (a2 b2 : List UInt8) (m2 : PtM) : NdB (((w.setCell ⟨g, 0, none⟩ (.string (sB a2))).setCell ⟨g, 1, none⟩ (.string (sB b2))).setCell ⟨g, 2, none⟩ (.slice m2.A m2.n m2.c)) g a2 b2 m2 := by
 have h1 := nd_store w g 0 _ _ h (.string (sB a2))
 have h2 := nd_store _ g 1 _ _ h1 (.string (sB b2))
 exact nd_store _ g 2 _ _ h2 (.slice m2.A m2.n m2.c)
theorem below_set3 {B g : Nat} {w0 w : World} (h : Below B w0 w) (hg : B ≤ g) (v0 v1 v2 : Value) : Below B w0 (((w.setCell ⟨g, 0, none⟩ v0).setCell ⟨g, 1, none⟩ v1).setCell ⟨g, 2, none⟩ v2) :=
 ((h.setCell (p := ⟨g, 0, none⟩) hg v0).setCell (p := ⟨g, 1, none⟩) hg v1).setCell (p := ⟨g, 2, none⟩) hg v2
theorem findC14 (A B : Option Addr) (c d n m : Nat) (t : List T.Ln) (p : T.Pth) (w : World) (hn : t.length = n) (hm : p.length = m) (hA : Seen eL w A t) (hB : Seen eS w B p) (hl : n ≤ 1073741824) (hl2 : m ≤ 1073741824) (hR : T.RightT t) :
  Calls Tryz.prog 75 #[.slice A n c, .slice B m d] w (FindS w t p) := by subst hn; subst hm; exact find_any A B c d t p w hA hB hl hl2 hR
theorem kidsC14 (A : Option Addr) (c n m : Nat) (t : List T.Ln) (i : Int) (K : List Nat) (w : World) (hn : t.length = n) (hm : K.length = m) (hA : Seen eL w A t) (hl : n ≤ 1073741824) (hi : -1 ≤ i) (hil : i < n) (hR : T.RightT t) (h : T.kidsL t i = K) :
  Calls Tryz.prog 76 #[.slice A n c, .int .i64 i] w (fun e w' => ∃ B d, e = .returned (.slice B m d) ∧ m ≤ d ∧ Seen eI w' B K ∧ Below w.heap.size w w') := by
 subst hn; subst hm; exact kids_is A c t i K w hA hl hi hil hR h
set_option maxRecDepth 100000 in
set_option maxHeartbeats 8000000 in
theorem wordsC (A B : Option Addr) (c d n m k : Nat) (t : List T.Ln) (p : T.Pth) (l : List (List UInt8)) (w : World) (hn : t.length = n) (hm : p.length = m) (hA : Seen eL w A t) (hB : Seen eS w B p) (hl : n ≤ 1073741824) (hl2 : m ≤ 1073741824) (h0 : 0 < m) (hR : T.RightT t) (hu : T.underW t p = l) (hk : l.length = k) :
  Calls Tryz.prog 57 #[.slice A n c, .slice B m d] w (fun e w' => ∃ C1 d1, e = .returned (.slice C1 k d1) ∧ k ≤ d1 ∧ PtK w' w.heap.size ⟨C1, k, d1⟩ l ∧ Below w.heap.size w w') := by
 have HA := Lib.hid hA
 have HB := Lib.hid hB
 have HN := Lib.hid hn
 have HM := Lib.hid hm
 have HR := Lib.hid hR
 have HKL := Lib.hid (fun i => T.filter_len t.length (fun k => T.underL t k == i))
 have HUL := Lib.hid hu
 have HLK := Lib.hid hk
 clear hA hB hn hm hR hu hk
 go_enter Tryz.func57, Tryz.ntmps57
 go_wp2_with fail
 refine (findC14 A B c d n m t p _ HN.out HM.out HA.out HB.out hl hl2 HR.out).mono ?_
 rintro e w1 ⟨⟨i0, hi0, hp0, rfl⟩ | ⟨hno, rfl⟩, hb1⟩
 ·have HB1 := Lib.hid hb1
  obtain ⟨K, hK⟩ : ∃ K, T.kidsL t (i0 : Int) = K := ⟨_, rfl⟩
  obtain ⟨nk, hnk⟩ : ∃ k, K.length = k := ⟨_, rfl⟩
  have HK := Lib.hid hK
  have HNK := Lib.hid hnk
  have HU := Lib.hid (show K.map (T.wd t) = l by rw [← hK, T.kids_words HR.out ⟨by omega, by omega⟩, T.pathI_nat, hp0]; exact HUL.out)
  have HIN := Lib.hid (show ∀ k ∈ K, k < n by intro k hk; rw [← hK] at hk; have := ((T.mem_kids t _ k).1 hk).1; have := HN.out; omega)
  replace HKL := Lib.hid (show K.length ≤ n by rw [← hK, ← HN.out]; exact HKL.out _)
  have HI0 := Lib.hid (show (i0 : Int) < n by have := HN.out; omega)
  have hnk2 : nk ≤ 1073741824 := by have := HKL.out; omega
  clear hK hp0 hi0 hb1 hnk
  go_wp2_with fail
  refine (kidsC14 A c n nk t (i0 : Int) K _ HN.out HNK.out (HA.out.below HB1.out) hl (by omega) HI0.out HR.out HK.out).mono ?_
  rintro e w2 ⟨A2, c2, rfl, hc2, hs2, hb2⟩
  have HB2 := Lib.hid (bthen HB1.out hb2)
  have HS2 := Lib.hid hs2
  clear hs2 hb2
  go_wp2
  go_loopg [7, 22] nk (fun g vo vi wr => ∃ i : Nat, Hid (i + g = nk) ∧ vi = .int .i64 (i : Int) ∧ Hid (Own eS wr w2.heap.size vo ((K.take i).map (T.wd t))) ∧ Hid (Below w2.heap.size w2 wr))
  case atStart => exact ⟨0, Nat.zero_add _, rfl, Own.nil _ _, Below.refl _ _⟩
  case round =>
   obtain ⟨i, HG, rfl, HO, HBR⟩ := hrel
   have hgk := HG.out
   by_cases hlt : i < nk
   ·have blt : decide ((i : Int) < (nk : Int)) = true := decide_eq_true (by omega)
    have blt2 : decide (i < nk) = true := decide_eq_true hlt
    have hiK : i < K.length := by rw [HNK.out]; exact hlt
    have hki : (i : Int) < (nk : Int) := by omega
    obtain ⟨q, hq⟩ : ∃ q, K[i] = q := ⟨_, rfl⟩
    have hqn : q < n := by rw [← hq]; exact HIN.out _ (List.getElem_mem hiK)
    have hqt : q < t.length := by rw [HN.out]; exact hqn
    have hqi : (q : Int) < (n : Int) := by omega
    obtain ⟨b3, o3, rfl, hw3, hL3⟩ := HS2.out (by omega)
    have c3 := (hL3.below HBR.out hw3).num hiK
    rw [hq] at c3
    obtain ⟨b4, o4, hA4, hw4, hL4⟩ := HA.out.lines (by rw [HN.out]; omega)
    subst hA4
    obtain ⟨_, c4, _⟩ := (hL4.below (HB2.out.trans (HBR.out.mono HB2.out.size)) hw4).line hqt
    have HNX := Lib.hid (show (K.take (i + 1)).map (T.wd t) = (K.take i).map (T.wd t) ++ [T.wd t q] by rw [List.take_succ_eq_append_getElem hiK, List.map_append, hq]; rfl)
    have HLN := Lib.hid (show ((K.take i).map (T.wd t)).length ≤ nk by rw [List.length_map, List.length_take]; omega)
    have hsz := HBR.out.size
    clear hq hqt hL3 hL4
    go_wp2_with (at_builtin; refine wpList_appG eS wr rfl (.tmp 26) (.tmp 32) rfl w2.heap.size u7 ((K.take i).map (T.wd t)) rfl HO.out (T.wd t q) 1 _ rfl wr.heap.size rfl rfl (by have := HLN.out; omega) hsz ?_; intro v5 w5 hown5 hb5)
    go_roundg (nk - (i + 1))
    case rel => exact ⟨i + 1, (by show _ = _; omega), by go_num, (by rw [HNX.out]; exact hown5), HBR.out.trans hb5⟩
    case measure => omega
   ·have blt : decide ((i : Int) < (nk : Int)) = false := decide_eq_false (by omega)
    have blt2 : decide (i < nk) = false := decide_eq_false hlt
    have HE := Lib.hid (show (K.take i).map (T.wd t) = l by rw [List.take_of_length_le (by rw [HNK.out]; omega)]; exact HU.out)
    have hown := HO.out
    rw [HE.out] at hown
    obtain ⟨A6, c6, rfl, hp6⟩ := own_pt (hown.lower HB2.out.size)
    rw [HLK.out] at hp6 ⊢
    have HP6 := Lib.hid hp6
    clear hown hp6
    go_wp2
    go_ret
    exact ⟨A6, c6, rfl, HP6.out.pt.cap, HP6.out, HB2.out.trans (HBR.out.mono HB2.out.size)⟩
 ·have HE := Lib.hid (show l = [] from HUL.out.symm.trans (T.underW_out HR.out (fun e => by have := HM.out; rw [e] at this; simp at this; omega) (fun ⟨i, hi, e⟩ => hno i hi e)))
  obtain rfl : k = 0 := by rw [← HLK.out, HE.out]; rfl
  clear hno
  go_wp2
  go_ret
  refine ⟨none, 0, rfl, Nat.le_refl _, ⟨⟨by rw [HE.out]; rfl, Nat.le_refl _, by rw [HE.out]; exact Seen.nil⟩, fun a h => by cases h⟩, hb1⟩
set_option maxRecDepth 100000 in
set_option maxHeartbeats 4000000 in
theorem saidC (A B : Option Addr) (c d n m : Nat) (t : List T.Ln) (p : T.Pth) (o r : List UInt8) (w : World) (hn : t.length = n) (hm : p.length = m) (hA : Seen eL w A t) (hB : Seen eS w B p) (hl : n ≤ 1073741824) (hl2 : m ≤ 1073741824) (h0 : 0 < m) (hR : T.RightT t) (hr : H.wordH t p o = r) :
  Calls Tryz.prog 58 #[.slice A n c, .string (sB o), .slice B m d] w (fun e w' => e = .returned (.string (sB r)) ∧ Below w.heap.size w w') := by
 unfold H.wordH at hr
 cases hu : T.underW t p with
 | nil =>
  rw [hu] at hr
  have HU := Lib.hid (wordsC A B c d n m 0 t p [] w hn hm hA hB hl hl2 h0 hR hu rfl)
  have HR := Lib.hid (show o = r from hr)
  clear hr hu hA hB hn hm hR
  go_enter Tryz.func58, Tryz.ntmps58
  go_wp2_with fail
  refine HU.out.mono ?_
  rintro e w1 ⟨C1, d1, rfl, hd1, hs1, hb⟩
  clear hs1
  go_wp2
  go_ret
  exact ⟨by rw [HR.out]; rfl, hb⟩
 | cons x l =>
  rw [hu] at hr
  have HR := Lib.hid (show x = r from hr)
  obtain ⟨q1, hq1⟩ : ∃ q1, (x :: l).length = q1 := ⟨_, rfl⟩
  have HU := Lib.hid (wordsC A B c d n m q1 t p (x :: l) w hn hm hA hB hl hl2 h0 hR hu hq1)
  have hq0 : 0 < q1 := by rw [← hq1]; simp
  have b4 : ((q1 : Int) == 0) = false := by simp; omega
  have b5 : decide ((0 : Int) < (q1 : Int)) = true := decide_eq_true (by omega)
  clear hr hu hA hB hn hm hq1 hR
  go_enter Tryz.func58, Tryz.ntmps58
  go_wp2_with fail
  refine HU.out.mono ?_
  rintro e w1 ⟨C1, d1, rfl, hd1, hs1, hb⟩
  obtain ⟨b, o1, e1, hwb, hL⟩ := hs1.pt.seen (by simp)
  have e1 : C1 = some ⟨b, o1, none⟩ := e1
  subst e1
  have c0 := hL.str (i := 0) (by simp)
  simp only [List.getElem_cons_zero, Nat.add_zero] at c0
  clear hL hs1
  go_wp2
  go_ret
  exact ⟨by rw [HR.out]; rfl, hb⟩
set_option maxRecDepth 100000 in
set_option maxHeartbeats 4000000 in
theorem indexC14 (A : Option Addr) (c n : Nat) (l : List (List UInt8)) (v : List UInt8) (w : World) (hn : l.length = n) (hA : Seen eS w A l) (hl : n ≤ 1073741824) :
  Calls Tryz.prog 131 #[.slice A n c, .string (sB v)] w (fun e w' => ∃ q : Int, e = .returned (.int .i64 q) ∧ ((v ∈ l ∧ 0 ≤ q) ∨ (v ∉ l ∧ q = -1)) ∧ w' = w) := by
 have HN := Lib.hid hn
 have HA := Lib.hid hA
 clear hn hA
 go_enter Tryz.func131, Tryz.ntmps131
 go_wp2
 go_loopg [8] n (fun gk vi wr => ∃ k : Nat, Hid (k + gk = n) ∧ k ≤ n ∧ vi = .int .i64 (k : Int) ∧ Hid (v ∉ l.take k) ∧ wr = w)
 case atStart => exact ⟨0, Nat.zero_add _, Nat.zero_le _, rfl, (by show v ∉ _; simp), rfl⟩
 case round =>
  obtain ⟨k, HG, hk, rfl, HNI, rfl⟩ := hrel
  have hgk := HG.out
  by_cases hlt : k < n
  ·have blt : decide ((k : Int) < (n : Int)) = true := decide_eq_true (by omega)
   have blt2 : decide (k < n) = true := decide_eq_true hlt
   have hki : (k : Int) < (n : Int) := by omega
   have hkl : k < l.length := by have := HN.out; omega
   obtain ⟨b, o, rfl, hwb, hL⟩ := HA.out (by omega)
   have c0 := hL.str hkl
   have HX := Lib.hid (List.take_succ_eq_append_getElem hkl)
   have HMI := Lib.hid (List.getElem_mem hkl)
   generalize l[k] = y at c0 HX HMI
   clear hL
   by_cases he : v = y
   ·have n0 := sB_eq he
    have HE := Lib.hid (show v ∈ l from he ▸ HMI.out)
    clear he
    go_wp2
    go_ret
    exact ⟨_, rfl, .inl ⟨HE.out, by omega⟩, rfl⟩
   ·have n0 := sB_ne he
    have HNX := Lib.hid (show v ∉ l.take (k + 1) by
     rw [HX.out]
     intro q
     rcases List.mem_append.1 q with q | q
     ·exact HNI.out q
     ·exact he (List.mem_singleton.1 q))
    clear he
    go_wp2
    go_roundg (n - (k + 1))
    case rel => exact ⟨k + 1, (by show _ = _; omega), by omega, by go_num, HNX, rfl⟩
    case measure => omega
  ·have blt : decide ((k : Int) < (n : Int)) = false := decide_eq_false (by omega)
   have blt2 : decide (k < n) = false := decide_eq_false hlt
   have HE := Lib.hid (show v ∉ l by
    have := HNI.out
    rwa [List.take_of_length_le (by have := HN.out; omega)] at this)
   go_wp2
   go_ret
   exact ⟨_, rfl, .inr ⟨HE.out, rfl⟩, rfl⟩
set_option maxRecDepth 100000 in
theorem containsC14 (A : Option Addr) (c n : Nat) (l : List (List UInt8)) (v : List UInt8) (r : Bool) (w : World) (hn : l.length = n) (hA : Seen eS w A l) (hl : n ≤ 1073741824) (hr : decide (v ∈ l) = r) :
  Calls Tryz.prog 93 #[.slice A n c, .string (sB v)] w (fun e w' => e = .returned (.bool r) ∧ w' = w) := by
 have HI := Lib.hid (indexC14 A c n l v w hn hA hl)
 have HV := Lib.hid hr
 clear hn hA hr
 go_enter Tryz.func93, Tryz.ntmps93
 go_wp2_with fail
 refine HI.out.mono ?_
 rintro e w1 ⟨q, rfl, ⟨hin, hq⟩ | ⟨hout, rfl⟩, rfl⟩
 ·have bq : decide (0 ≤ q) = true := decide_eq_true hq
  have HE := Lib.hid (show r = true by rw [← HV.out]; exact decide_eq_true hin)
  clear hin
  go_wp2
  go_ret
  exact ⟨by rw [HE.out]; rfl, rfl⟩
 ·have HE := Lib.hid (show r = false by rw [← HV.out]; exact decide_eq_false hout)
  clear hout
  go_wp2
  go_ret
  exact ⟨by rw [HE.out]; rfl, rfl⟩
set_option maxRecDepth 100000 in
theorem inC14 (a b : List UInt8) (A : Option Addr) (c n : Nat) (l : List (List UInt8)) (v : List UInt8) (r : Bool) (w : World) (hn : l.length = n) (hA : Seen eS w A l) (hl : n ≤ 1073741824) (hr : decide (v ∈ l) = r) :
  Calls Tryz.prog 59 #[.agg #[.string (sB a), .string (sB b), .slice A n c], .string (sB v)] w (fun e w' => e = .returned (.bool r) ∧ Below w.heap.size w w') := by
 have hb1 := up w (.cells #[.string (sB a), .string (sB b), .slice A n c] 96)
 have HC := Lib.hid (containsC14 A c n l v r _ hn (hA.below hb1) hl hr)
 obtain ⟨c0, c1, c2⟩ := (NdB.born w a b ⟨A, n, c⟩).cells
 clear hn hA hr
 go_enter Tryz.func59, Tryz.ntmps59
 go_wp2_with fail
 refine HC.out.mono ?_
 rintro e w1 ⟨rfl, rfl⟩
 go_wp2
 go_ret
 exact ⟨rfl, hb1⟩
end Go.Proofs.YtfcikfohmehmkaaGreatDoor
namespace Go.Proofs.YtfcikfohmehmkaaGreatDoor.H
theorem nd_next {N : List Nd} {k : Nat} {y : Nd} {x : C.Wd} (hy : N[k]? = some y) (h : (N.take k).find? (fun n => decide (n.name = x)) = none) (hm : y.name ≠ x) : (N.take (k + 1)).find? (fun n => decide (n.name = x)) = none := by
 obtain ⟨h5, h6⟩ := List.getElem?_eq_some_iff.1 hy
 rw [List.take_succ_eq_append_getElem h5, h6, List.find?_append, h, List.find?_cons, decide_eq_false hm]; rfl
theorem nd_hit {N : List Nd} {k : Nat} {y : Nd} {x : C.Wd} (hy : N[k]? = some y) (h : (N.take k).find? (fun n => decide (n.name = x)) = none) (hm : y.name = x) : namedN N x = y := by
 obtain ⟨h5, h6⟩ := List.getElem?_eq_some_iff.1 hy
 unfold namedN
 rw [← List.take_append_drop k N, List.find?_append, h, List.drop_eq_getElem_cons h5, h6, List.find?_cons, decide_eq_true hm]; rfl
theorem nd_none {N : List Nd} {x : C.Wd} (h : N.find? (fun n => decide (n.name = x)) = none) : namedN N x = ⟨[], [], []⟩ := by
 unfold namedN
 rw [h]; rfl
end Go.Proofs.YtfcikfohmehmkaaGreatDoor.H
namespace Go.Proofs.YtfcikfohmehmkaaGreatDoor
open Go.RowKit
set_option linter.unusedVariables false
def SeenN (w : World) (A : Option Addr) (N : List H.Nd) : Prop := ∃ M : List NdM, M.length = N.length ∧ Seen eNd w A M ∧ ∀ i (h1 : i < M.length) (h2 : i < N.length), PtS w M[i].1 N[i].vn ∧ M[i].2 = (N[i].name, N[i].addr)
theorem SeenN.below {w w1 : World} {A : Option Addr} {N : List H.Nd} (h : SeenN w A N) (hb : Below w.heap.size w w1) : SeenN w1 A N := by
 obtain ⟨M, h1, h2, h3⟩ := h
 exact ⟨M, h1, h2.below hb, fun i h4 h5 => ⟨(h3 i h4 h5).1.below hb, (h3 i h4 h5).2⟩⟩
theorem SeenN.one {w : World} {A : Option Addr} {N : List H.Nd} (h : SeenN w A N) {i : Nat} (hi : i < N.length) : ∃ b o m, A = some ⟨b, o, none⟩ ∧ PtS w m N[i].vn ∧ ∀ w', Below w.heap.size w w' → w'.cell? ⟨b, o + i * 3, none⟩ = some (.string (sB N[i].name)) ∧ w'.cell? ⟨b, o + i * 3 + 1, none⟩ = some (.string (sB N[i].addr)) ∧ w'.cell? ⟨b, o + i * 3 + 2, none⟩ = some (.slice m.A m.n m.c) := by
 obtain ⟨M, h1, h2, h3⟩ := h
 obtain ⟨b, o, e, hb, hH⟩ := h2 (by omega)
 have hM : i < M.length := by omega
 obtain ⟨hp, he⟩ := h3 i hM hi
 refine ⟨b, o, M[i].1, e, hp, fun w' hw => ?_⟩
 have hc := (hH.below hw hb).node hM
 rw [he] at hc
 exact hc
set_option maxRecDepth 100000 in
set_option maxHeartbeats 8000000 in
theorem namedC (A : Option Addr) (c n : Nat) (N : List H.Nd) (x : List UInt8) (g : H.Nd) (w : World) (hn : N.length = n) (hA : SeenN w A N) (hl : n ≤ 1073741824) (hg : H.namedN N x = g) :
  Calls Tryz.prog 60 #[.slice A n c, .string (sB x)] w (fun e w' => ∃ m : PtM, e = .returned (.agg #[.string (sB g.name), .string (sB g.addr), .slice m.A m.n m.c]) ∧ PtS w' m g.vn ∧ Below w.heap.size w w') := by
 have HN := Lib.hid hn
 have HA := Lib.hid hA
 have HG := Lib.hid hg
 have hb0 := up w (.cells #[.string ⟨#[]⟩, .string ⟨#[]⟩, .slice none 0 0] 96)
 have HZ := Lib.hid (show NdB (w.alloc (.cells #[.string ⟨#[]⟩, .string ⟨#[]⟩, .slice none 0 0] 96)) w.heap.size [] [] ⟨none, 0, 0⟩ from NdB.born w [] [] ⟨none, 0, 0⟩)
 clear hn hA hg
 go_enter Tryz.func60, Tryz.ntmps60
 go_wp2
 go_loopg [9] n (fun gk vi wr => ∃ k : Nat, Hid (k + gk = n) ∧ k ≤ n ∧ vi = .int .i64 (k : Int) ∧ Hid ((N.take k).find? (fun n => decide (n.name = x)) = none) ∧ Hid (NdB wr w.heap.size [] [] ⟨none, 0, 0⟩) ∧ Below w.heap.size w wr)
 case atStart => exact ⟨0, Nat.zero_add _, Nat.zero_le _, rfl, rfl, HZ.out, hb0⟩
 case round =>
  obtain ⟨k, HGK, hk, rfl, HF, HB, hb⟩ := hrel
  have hgk := HGK.out
  by_cases hlt : k < n
  ·have blt : decide ((k : Int) < (n : Int)) = true := decide_eq_true (by omega)
   have blt2 : decide (k < n) = true := decide_eq_true hlt
   have hki : (k : Int) < (n : Int) := by omega
   have hkl : k < N.length := by have := HN.out; omega
   obtain ⟨b, o, m, rfl, hpt, hcs⟩ := HA.out.one hkl
   obtain ⟨x0, x1, x2⟩ := hcs wr hb
   have HY := Lib.hid (List.getElem?_eq_getElem hkl)
   have HPT := Lib.hid hpt
   clear hcs hpt
   generalize N[k] = y at x0 x1 x2 HY HPT
   have hbr := bthen hb (up wr (.cells #[.string (sB y.name), .string (sB y.addr), .slice m.A m.n m.c] 96))
   have HB2 := Lib.hid (HB.out.keep (up wr (.cells #[.string (sB y.name), .string (sB y.addr), .slice m.A m.n m.c] 96)) HB.out.lt)
   have HRB := Lib.hid (NdB.born wr y.name y.addr m)
   obtain ⟨y0, y1, y2⟩ := (NdB.born wr y.name y.addr m).cells
   by_cases he : y.name = x
   ·have n0 := sB_eq he
    have HE := Lib.hid ((H.nd_hit HY.out HF.out he).symm.trans HG.out)
    have f0 := HB2.out.fzn 0
    have f1 := HB2.out.fzn 1
    have f2 := HB2.out.fzn 2
    obtain ⟨z0, z1, z2⟩ := HB2.out.cells
    clear he
    go_wp2
    have HW := HB2.out.set y.name y.addr m
    obtain ⟨q0, q1, q2⟩ := HW.cells
    refine bodyPost_ret (v := .agg #[.string (sB y.name), .string (sB y.addr), .slice m.A m.n m.c]) (by simp [results, Tryz.results60, go_sem, q0, q1, q2]) rfl ⟨m, ?_, ?_, below_set3 hbr (Nat.le_refl _) _ _ _⟩
    ·rw [← HE.out]
    ·rw [← HE.out]
     exact HPT.out.below (below_set3 hbr (Nat.le_refl _) _ _ _)
   ·have n0 := sB_ne he
    have HF2 := Lib.hid (H.nd_next HY.out HF.out he)
    clear he
    go_wp2
    go_roundg (n - (k + 1))
    case rel => exact ⟨k + 1, (by show _ = _; omega), by omega, by go_num, HF2.out, HB2.out, hbr⟩
    case measure => omega
  ·have blt : decide ((k : Int) < (n : Int)) = false := decide_eq_false (by omega)
   have blt2 : decide (k < n) = false := decide_eq_false hlt
   have HE := Lib.hid (show g = ⟨[], [], []⟩ by
    have := HF.out
    rw [List.take_of_length_le (by have := HN.out; omega)] at this
    exact HG.out.symm.trans (H.nd_none this))
   obtain ⟨z0, z1, z2⟩ := HB.out.cells
   have f0 := HB.out.fzn 0
   have f1 := HB.out.fzn 1
   have f2 := HB.out.fzn 2
   go_wp2
   have HW := HB.out.set [] [] ⟨none, 0, 0⟩
   obtain ⟨q0, q1, q2⟩ := HW.cells
   have q0 : (((wr.setCell ⟨w.heap.size, 0, none⟩ (.string ⟨#[]⟩)).setCell ⟨w.heap.size, 1, none⟩ (.string ⟨#[]⟩)).setCell ⟨w.heap.size, 2, none⟩ (.slice none 0 0)).cell? ⟨w.heap.size, 0, none⟩ = some (.string ⟨#[]⟩) := q0
   have q1 : (((wr.setCell ⟨w.heap.size, 0, none⟩ (.string ⟨#[]⟩)).setCell ⟨w.heap.size, 1, none⟩ (.string ⟨#[]⟩)).setCell ⟨w.heap.size, 2, none⟩ (.slice none 0 0)).cell? ⟨w.heap.size, 1, none⟩ = some (.string ⟨#[]⟩) := q1
   have q2 : (((wr.setCell ⟨w.heap.size, 0, none⟩ (.string ⟨#[]⟩)).setCell ⟨w.heap.size, 1, none⟩ (.string ⟨#[]⟩)).setCell ⟨w.heap.size, 2, none⟩ (.slice none 0 0)).cell? ⟨w.heap.size, 2, none⟩ = some (.slice none 0 0) := q2
   refine bodyPost_ret (v := .agg #[.string ⟨#[]⟩, .string ⟨#[]⟩, .slice none 0 0]) (by simp [results, Tryz.results60, go_sem, q0, q1, q2]) rfl ⟨⟨none, 0, 0⟩, ?_, ?_, below_set3 hb (Nat.le_refl _) _ _ _⟩
   ·rw [HE.out]; rfl
   ·rw [HE.out]; exact ⟨rfl, Nat.le_refl _, Seen.nil⟩
set_option maxRecDepth 100000 in
set_option maxHeartbeats 8000000 in
theorem nodesC (A : Option Addr) (c n k : Nat) (t : List T.Ln) (N : List H.Nd) (w : World) (hn : t.length = n) (hA : Seen eL w A t) (hl : n ≤ 1073741824) (hR : T.RightT t) (hN : H.nodesL t = N) (hk : N.length = k) :
  Calls Tryz.prog 27 #[.slice A n c] w (fun e w' => ∃ B d, e = .returned (.slice B k d) ∧ SeenN w' B N ∧ Below w.heap.size w w') := by
 have HN := Lib.hid hn
 have HA := Lib.hid hA
 have HR := Lib.hid hR
 obtain ⟨l, hu⟩ : ∃ l, T.underW t [C.wHosts] = l := ⟨_, rfl⟩
 have HU := Lib.hid hu
 have HLK := Lib.hid (show l.length = k by rw [← hk, ← hN, ← hu]; unfold H.nodesL; rw [List.length_map])
 have HNL := Lib.hid (show l.map (H.ndOf t) = N by rw [← hN, ← hu]; rfl)
 have hkn : k ≤ n := by
  have h1 := T.underW_len hR [C.wHosts]
  rw [hu] at h1
  have := HLK.out
  omega
 clear hn hA hR hN hk hu
 go_enter Tryz.func27, Tryz.ntmps27
 go_wp2_with fail
 refine (wordsC A _ c 1 n 1 k t [C.wHosts] l _ HN.out rfl (HA.out.below (up w _)) (lit_seen eS w [C.wHosts] _ rfl (by simp)) hl (by omega) (by omega) HR.out HU.out HLK.out).mono ?_
 rintro e w1 ⟨C1, d1, rfl, hd1, hp1, hx⟩
 have hb1 := bthen (up w _) hx
 have HP1 := Lib.hid hp1
 clear hp1 hx
 go_wp2
 go_loopg [3, 10] k (fun gk vo vi wr => ∃ q : Nat, Hid (q + gk = k) ∧ q ≤ k ∧ vi = .int .i64 (q : Int) ∧ Hid (OwnNd eNd wr w1.heap.size w1.heap.size vo (((l.take q).map (H.ndOf t)).map ndP)) ∧ Below w1.heap.size w1 wr)
 case atStart => exact ⟨0, Nat.zero_add _, Nat.zero_le _, rfl, OwnNd.nil _ _ _ _, Below.refl _ _⟩
 case round =>
  obtain ⟨q, HGK, hq, rfl, HO, hb⟩ := hrel
  have hgk := HGK.out
  by_cases hlt : q < k
  ·have blt : decide ((q : Int) < (k : Int)) = true := decide_eq_true (by omega)
   have blt2 : decide (q < k) = true := decide_eq_true hlt
   have hki : (q : Int) < (k : Int) := by omega
   have hkl : q < l.length := by have := HLK.out; omega
   obtain ⟨b3, o3, e3, hw3, hL3⟩ := HP1.out.pt.seen (by omega)
   have e3 : C1 = some ⟨b3, o3, none⟩ := e3
   subst e3
   have c0 := (hL3.below hb hw3).str hkl
   have HX := Lib.hid (List.take_succ_eq_append_getElem hkl)
   generalize l[q] = y at c0 HX
   obtain ⟨va, hva⟩ : ∃ va, H.ipH t y = va := ⟨_, rfl⟩
   obtain ⟨vl, hvl⟩ : ∃ vl, T.underW t [C.wHosts, y, C.wVnis] = vl := ⟨_, rfl⟩
   obtain ⟨vk, hvk⟩ : ∃ vk, vl.length = vk := ⟨_, rfl⟩
   have HVA := Lib.hid hva
   have HVL := Lib.hid hvl
   have HVK := Lib.hid hvk
   have HSQ := Lib.hid (HA.out.below (hb1.trans (hb.mono hb1.size)))
   have hszr := hb.size
   clear hL3 hva hvl hvk
   go_wp2_with fail
   refine (saidC A _ c 3 n 3 t [C.wHosts, y, C.wIp] [] va _ HN.out rfl (HSQ.out.below (up wr _)) (lit_seen eS wr [C.wHosts, y, C.wIp] _ rfl (by simp)) hl (by omega) (by omega) HR.out HVA.out).mono ?_
   rintro e w2 ⟨rfl, hx⟩
   have hb2 := bthen (up wr _) hx
   clear hx
   go_wp2_with fail
   refine (wordsC A _ c 3 n 3 vk t [C.wHosts, y, C.wVnis] vl _ HN.out rfl (HSQ.out.below (bthen hb2 (up w2 _))) (lit_seen eS w2 [C.wHosts, y, C.wVnis] _ rfl (by simp)) hl (by omega) (by omega) HR.out HVL.out HVK.out).mono ?_
   rintro e w3 ⟨C3, d3, rfl, hd3, hp3, hx⟩
   have hb3 := bthen hb2 (bthen (up w2 _) hx)
   have hsz2 := hb2.size
   have HP3 := Lib.hid (show PtK w3 w1.heap.size ⟨C3, vk, d3⟩ vl from hp3.less (by simp; omega))
   have HFR := Lib.hid (HO.out.ndFree (by simp; omega) hp3)
   have HO3 := Lib.hid (HO.out.keep hb3)
   have HB3 := Lib.hid (hb.trans (hb3.mono hszr))
   have hsz3 := HB3.out.size
   have HLN := Lib.hid (show (((l.take q).map (H.ndOf t)).map ndP).length ≤ k by simp; omega)
   clear hp3 hx hb2 hb3
   go_wp2_with (at_builtin; refine wpList_appNd eNd _ rfl (.tmp 14) (.tmp 25) rfl w1.heap.size w1.heap.size u3 _ rfl HO3.out (vl, (y, va)) (⟨C3, vk, d3⟩, (y, va)) ⟨HP3.out, rfl⟩ HFR.out 1 _ rfl w3.heap.size rfl rfl (by have := HLN.out; omega) hsz3 ?_; intro v5 w5 hown5 hb5)
   go_roundg (k - (q + 1))
   case rel => exact ⟨q + 1, (by show _ = _; omega), by omega, by go_num, (by
    rw [HX.out, List.map_append, List.map_append]
    have e : [y].map (H.ndOf t) = [⟨y, va, vl⟩] := by rw [← HVA.out, ← HVL.out]; rfl
    rw [e]
    exact hown5), HB3.out.trans hb5⟩
   case measure => omega
  ·have blt : decide ((q : Int) < (k : Int)) = false := decide_eq_false (by omega)
   have blt2 : decide (q < k) = false := decide_eq_false hlt
   have HE := Lib.hid (show (l.take q).map (H.ndOf t) = N by rw [List.take_of_length_le (by have := HLK.out; omega)]; exact HNL.out)
   obtain ⟨M, hM1, hM2, hM3⟩ := HO.out
   rw [List.length_map, HE.out] at hM1
   have hNk : N.length = k := by rw [← HNL.out, List.length_map]; exact HLK.out
   obtain ⟨A6, c6, rfl, hc6, hs6⟩ := hM2.seen
   have hMk : M.length = k := hM1.trans hNk
   rw [hMk]
   have HSN := Lib.hid (show SeenN wr A6 N from ⟨M, hM1, hs6, fun i h1 h2 => by
    obtain ⟨hk3, _⟩ := hM3 i h1 (by rw [List.length_map, HE.out]; exact h2)
    have eg : (((l.take q).map (H.ndOf t)).map ndP)[i]'(by rw [List.length_map, HE.out]; exact h2) = ndP N[i] := by
     rw [List.getElem_map]
     congr 1
     simp only [HE.out]
    rw [eg] at hk3
    exact ⟨hk3.pt.pt, hk3.num⟩⟩)
   clear hM1 hM2 hM3 hs6 hNk hMk
   go_wp2
   go_ret
   exact ⟨A6, c6, rfl, HSN.out, hb1.trans (hb.mono hb1.size)⟩
end Go.Proofs.YtfcikfohmehmkaaGreatDoor
namespace Go.Proofs.YtfcikfohmehmkaaGreatDoor.H
theorem flat_next {α β : Type} (f : α → List β) {l : List α} {k : Nat} {x : α} (h : l[k]? = some x) : (l.take (k + 1)).flatMap f = (l.take k).flatMap f ++ f x := by
 obtain ⟨h1, rfl⟩ := List.getElem?_eq_some_iff.1 h
 rw [List.take_succ_eq_append_getElem h1, List.flatMap_append]
 simp
theorem flat_take {α β : Type} (f : α → List β) (b c k : Nat) (l : List α) (h : ∀ x ∈ l, (f x).length ≤ b) (hl : l.length ≤ c) : ((l.take k).flatMap f).length ≤ b * c :=
 flat_le f b (l.take k) (fun x hx => h x (List.mem_of_mem_take hx)) (by rw [List.length_take]; omega)
end Go.Proofs.YtfcikfohmehmkaaGreatDoor.H
namespace Go.Proofs.YtfcikfohmehmkaaGreatDoor
open Go.RowKit
set_option linter.unusedVariables false
set_option maxRecDepth 100000 in
set_option maxHeartbeats 16000000 in
theorem floodsC14 (A : Option Addr) (c n : Nat) (N : List H.Nd) (L : List H.En) (w : World) (hn : N.length = n) (hA : SeenN w A N) (hl : n ≤ 200) (hv : ∀ x ∈ N, x.vn.length ≤ 200) (hL : H.floodsC N = L) :
  Calls Tryz.prog 28 #[.slice A n c] w (fun e w' => ∃ v, e = .returned v ∧ Own eEc w' w.heap.size v L ∧ Below w.heap.size w w') := by
 have HN := Lib.hid hn
 have HA := Lib.hid hA
 have HV := Lib.hid hv
 obtain ⟨F0, hF0⟩ : ∃ F0 : H.Nd → List H.En, F0 = fun h => h.vn.flatMap fun v => N.flatMap fun g => H.floodOne h g v := ⟨_, rfl⟩
 have HL := Lib.hid (show N.flatMap F0 = L by rw [← hL, hF0]; rfl)
 have HF0 := Lib.hid hF0
 have HB0 := Lib.hid (show ∀ k, ((N.take k).flatMap F0).length ≤ 8000000 from fun k => by
  refine H.flat_take F0 40000 200 k N (fun h hh => ?_) (by omega)
  rw [hF0]
  exact H.flat_le _ 200 h.vn (q := 200) (fun v _ => H.flat_le _ 1 N (q := 200) (fun g _ => H.floodOne_few h g v) (by omega)) (hv h hh))
 clear hn hA hv hL hF0
 go_enter Tryz.func28, Tryz.ntmps28
 go_wp2
 go_loopg [3, 12] n (fun gk vo vi wr => ∃ k : Nat, Hid (k + gk = n) ∧ k ≤ n ∧ vi = .int .i64 (k : Int) ∧ Hid (Own eEc wr w.heap.size vo ((N.take k).flatMap F0)) ∧ Below w.heap.size w wr)
 case atStart => exact ⟨0, Nat.zero_add _, Nat.zero_le _, rfl, Own.nil _ _, Below.refl _ _⟩
 case round =>
  obtain ⟨k, HG, hk, rfl, HO, hb⟩ := hrel
  have hgk := HG.out
  by_cases hlt : k < n
  ·have blt : decide ((k : Int) < (n : Int)) = true := decide_eq_true (by omega)
   have blt2 : decide (k < n) = true := decide_eq_true hlt
   have hki : (k : Int) < (n : Int) := by omega
   have hkl : k < N.length := by have := HN.out; omega
   obtain ⟨b, o, m, rfl, hpt, hcs⟩ := HA.out.one hkl
   obtain ⟨x0, x1, x2⟩ := hcs wr hb
   have HXN := Lib.hid (H.flat_next F0 (List.getElem?_eq_getElem hkl))
   have HMV := Lib.hid (HV.out _ (List.getElem_mem hkl))
   have HPT := Lib.hid hpt
   clear hcs hpt
   generalize N[k] = h at x0 x1 x2 HXN HPT HMV
   obtain ⟨ha, hi, hvn⟩ := h
   obtain ⟨mA, mn, mc⟩ := m
   simp only at x0 x1 x2 HMV HPT
   have HMN := Lib.hid (show hvn.length = mn from HPT.out.len)
   have hmn : mn ≤ 200 := by have := HMN.out; have := HMV.out; omega
   obtain ⟨wo, hwo⟩ : ∃ wo, wo = wr := ⟨_, rfl⟩
   subst hwo
   obtain ⟨gh, hgh⟩ : ∃ gh, wo.heap.size = gh := ⟨_, rfl⟩
   obtain ⟨W1, hW1⟩ : ∃ W1, wo.alloc (.cells #[.string (sB ha), .string (sB hi), .slice mA mn mc] 96) = W1 := ⟨_, rfl⟩
   have HND := Lib.hid (show NdB W1 gh ha hi ⟨mA, mn, mc⟩ by rw [← hW1, ← hgh]; exact NdB.born wo ha hi ⟨mA, mn, mc⟩)
   have HB1 := Lib.hid (show Below w.heap.size w W1 by rw [← hW1]; exact bthen hb (up wo _))
   have HO1 := Lib.hid (show Own eEc W1 w.heap.size u3 ((N.take k).flatMap F0) by rw [← hW1]; exact HO.out.keep (up wo _))
   have HSD := Lib.hid (show Side12 gh W1 W1 u3 from side_start HO.out (by rw [hgh]; exact Nat.le_refl _))
   have HF1 := Lib.hid (show F0 ⟨ha, hi, hvn⟩ = hvn.flatMap fun v => N.flatMap fun g => H.floodOne ⟨ha, hi, hvn⟩ g v by rw [HF0.out])
   obtain ⟨p0, hp0⟩ : ∃ p0, (N.take k).flatMap F0 = p0 := ⟨_, rfl⟩
   have HP0 := Lib.hid (show p0.length ≤ 8000000 by rw [← hp0]; exact HB0.out k)
   rw [hp0] at HO1 HXN
   obtain ⟨F1, hF1⟩ : ∃ F1 : List UInt8 → List H.En, F1 = fun v => N.flatMap fun g => H.floodOne ⟨ha, hi, hvn⟩ g v := ⟨_, rfl⟩
   have HFF := Lib.hid (show F0 ⟨ha, hi, hvn⟩ = hvn.flatMap F1 by rw [HF1.out, hF1])
   have HF1 := Lib.hid hF1
   have HBF := Lib.hid (show ∀ q, ((hvn.take q).flatMap F1).length ≤ 40000 from fun q => by
    refine H.flat_take F1 200 200 q hvn (fun v _ => ?_) (HMV.out)
    rw [hF1]
    exact H.flat_le _ 1 N (q := 200) (fun g _ => H.floodOne_few _ g v) (by have := HN.out; omega))
   obtain ⟨y0, y1, y2⟩ := HND.out.cells
   have HGH := Lib.hid hgh
   have HW1 := Lib.hid hW1
   have y2' : (wo.alloc (.cells #[.string (sB ha), .string (sB hi), .slice mA mn mc] 96)).cell? ⟨wo.heap.size, 2, none⟩ = some (.slice mA mn mc) := by rw [HW1.out, HGH.out]; exact y2
   clear hgh hW1 hp0 hF1 y0 y1 y2
   go_wp2
   go_loopg [3, 19] mn (fun gk2 vo vi w2 => ∃ q : Nat, Hid (q + gk2 = mn) ∧ q ≤ mn ∧ vi = .int .i64 (q : Int) ∧ Hid (Own eEc w2 w.heap.size vo (p0 ++ (hvn.take q).flatMap F1)) ∧ Hid (Below w.heap.size w w2) ∧ Hid (Side12 gh W1 w2 vo))
   case atStart => exact ⟨0, Nat.zero_add _, Nat.zero_le _, rfl, (by show Own eEc _ _ _ _; rw [HW1.out]; simpa using HO1.out), (by show Below _ _ _; rw [HW1.out]; exact HB1.out), (by show Side12 _ _ _ _; rw [HW1.out]; exact HSD.out)⟩
   case round =>
    obtain ⟨q, HG2, hq, rfl, HO2, HB2, HS2⟩ := hrel
    have hgk2 := HG2.out
    by_cases hlq : q < mn
    ·have blq : decide ((q : Int) < (mn : Int)) = true := decide_eq_true (by omega)
     have blq2 : decide (q < mn) = true := decide_eq_true hlq
     have hqi : (q : Int) < (mn : Int) := by omega
     have hql : q < hvn.length := by have := HMN.out; omega
     obtain ⟨bv, ov, ev, hwv, hLV⟩ := (HPT.out.seen.below HB2.out) (by omega)
     have ev : mA = some ⟨bv, ov, none⟩ := ev
     subst ev
     have cv := hLV.str hql
     have HXV := Lib.hid (H.flat_next F1 (List.getElem?_eq_getElem hql))
     clear hLV
     generalize hvn[q] = v at cv HXV
     obtain ⟨p1, hp1⟩ : ∃ p1, p0 ++ (hvn.take q).flatMap F1 = p1 := ⟨_, rfl⟩
     have HP1 := Lib.hid (show p1.length ≤ 8040000 by rw [← hp1, List.length_append]; have := HBF.out q; have := HP0.out; omega)
     rw [hp1] at HO2
     have HPP := Lib.hid hp1
     obtain ⟨F2, hF2⟩ : ∃ F2 : H.Nd → List H.En, F2 = fun g => H.floodOne ⟨ha, hi, hvn⟩ g v := ⟨_, rfl⟩
     have HF2 := Lib.hid (show F1 v = N.flatMap F2 by rw [HF1.out, hF2])
     have HBF2 := Lib.hid (show ∀ j, ((N.take j).flatMap F2).length ≤ 200 from fun j => H.flat_take F2 1 200 j N (fun g _ => by rw [hF2]; exact H.floodOne_few _ g v) (by have := HN.out; omega))
     have HF2D := Lib.hid hF2
     obtain ⟨wq, hwq⟩ : ∃ wq, wq = wr := ⟨_, rfl⟩
     subst hwq
     clear hp1 hF2
     go_wp2
     go_loopg [3, 25] n (fun gk3 vo vi w3 => ∃ j : Nat, Hid (j + gk3 = n) ∧ j ≤ n ∧ vi = .int .i64 (j : Int) ∧ Hid (Own eEc w3 w.heap.size vo (p1 ++ (N.take j).flatMap F2)) ∧ Hid (Below w.heap.size w w3) ∧ Hid (Side12 gh W1 w3 vo))
     case atStart => exact ⟨0, Nat.zero_add _, Nat.zero_le _, rfl, (by show Own eEc _ _ _ _; simpa using HO2.out), HB2.out, HS2.out⟩
     case round =>
      obtain ⟨j, HG3, hj, rfl, HO3, HB3, HS3⟩ := hrel
      have hgk3 := HG3.out
      by_cases hlj : j < n
      ·have blj : decide ((j : Int) < (n : Int)) = true := decide_eq_true (by omega)
       have blj2 : decide (j < n) = true := decide_eq_true hlj
       have hji : (j : Int) < (n : Int) := by omega
       have hjl : j < N.length := by have := HN.out; omega
       obtain ⟨b9, o9, m9, e9, hpt9, hcs9⟩ := HA.out.one hjl
       injection e9 with e9
       injection e9 with e9a e9b
       subst e9a; subst e9b
       obtain ⟨g0, g1, g2⟩ := hcs9 wr HB3.out
       have HXJ := Lib.hid (H.flat_next F2 (List.getElem?_eq_getElem hjl))
       have HMV9 := Lib.hid (HV.out _ (List.getElem_mem hjl))
       have HPT9 := Lib.hid hpt9
       clear hcs9 hpt9
       generalize N[j] = g at g0 g1 g2 HXJ HPT9 HMV9
       obtain ⟨ga, gi, gvn⟩ := g
       obtain ⟨m9A, m9n, m9c⟩ := m9
       simp only at g0 g1 g2 HMV9 HPT9
       have HFG := Lib.hid (show F2 ⟨ga, gi, gvn⟩ = if ga ≠ ha ∧ decide (v ∈ gvn) = true then [⟨ha, 1, v, gi⟩] else [] by rw [HF2D.out]; rfl)
       obtain ⟨w4, hw4⟩ : ∃ w4, w4 = wr := ⟨_, rfl⟩
       subst hw4
       have hup := up w4 (.cells #[.string (sB ga), .string (sB gi), .slice m9A m9n m9c] 96)
       have HNG := Lib.hid (NdB.born w4 ga gi ⟨m9A, m9n, m9c⟩)
       have HNH := Lib.hid ((HND.out.side HS3.out (Nat.le_refl _)).keep hup (HND.out.side HS3.out (Nat.le_refl _)).lt)
       have HB4 := Lib.hid (bthen HB3.out hup)
       have HS4 := Lib.hid (side_grow HS3.out hup)
       have HO4 := Lib.hid (HO3.out.keep hup)
       obtain ⟨s0, s1, s2⟩ := HNG.out.cells
       obtain ⟨t0, t1, t2⟩ := HNH.out.cells
       have HLN := Lib.hid (show (p1 ++ (N.take j).flatMap F2).length ≤ 8040200 by rw [List.length_append]; have := HBF2.out j; have := HP1.out; omega)
       rw [← HGH.out] at t0 t1 t2
       have HUP := Lib.hid hup
       clear hup
       by_cases he : ga = ha
       ·have n0 := sB_eq he
        have HE := Lib.hid (show F2 ⟨ga, gi, gvn⟩ = [] by rw [HFG.out, if_neg (fun h => h.1 he)])
        clear he
        go_wp2
        go_roundg (n - (j + 1))
        case rel => exact ⟨j + 1, (by show _ = _; omega), by omega, by go_num, (by show Own eEc _ _ _ _; rw [HXJ.out, HE.out, List.append_nil]; exact HO4.out), HB4, HS4⟩
        case measure => omega
       ·have n0 := sB_ne he
        obtain ⟨r, hr⟩ : ∃ r, decide (v ∈ gvn) = r := ⟨_, rfl⟩
        have HRV := Lib.hid hr
        have HNE := Lib.hid he
        have HIN := Lib.hid (fun W (h : Below w.heap.size w W) => inC14 ga gi m9A m9c m9n gvn v r W HPT9.out.len (HPT9.out.seen.below h) (by have := HMV9.out; have : gvn.length = m9n := HPT9.out.len; omega) hr)
        clear hr he
        go_wp2_with fail
        refine (HIN.out _ HB4.out).mono ?_
        rintro e w5 ⟨rfl, hx⟩
        have HB5 := Lib.hid (bthen HB4.out hx)
        have HS5 := Lib.hid (side_grow HS4.out hx)
        have HO5 := Lib.hid (HO4.out.keep hx)
        obtain ⟨s0, s1, s2⟩ := (HNG.out.keep hx HNG.out.lt).cells
        obtain ⟨t0, t1, t2⟩ := (HNH.out.keep hx HNH.out.lt).cells
        rw [← HGH.out] at t0 t1 t2
        clear hx
        cases r with
        | false =>
         have HE := Lib.hid (show F2 ⟨ga, gi, gvn⟩ = [] by rw [HFG.out, if_neg (fun h => by rw [HRV.out] at h; exact absurd h.2 (by simp))])
         go_wp2
         go_roundg (n - (j + 1))
         case rel => exact ⟨j + 1, (by show _ = _; omega), by omega, by go_num, (by show Own eEc _ _ _ _; rw [HXJ.out, HE.out, List.append_nil]; exact HO5.out), HB5, HS5⟩
         case measure => omega
        | true =>
         have HE := Lib.hid (show F2 ⟨ga, gi, gvn⟩ = [⟨ha, 1, v, gi⟩] by rw [HFG.out, if_pos ⟨HNE.out, HRV.out⟩])
         have hsz5 := HB5.out.size
         go_wp2_with (at_builtin; refine wpList_appS eEc _ rfl (.tmp 39) (.tmp 46) rfl w.heap.size u3 _ rfl HO5.out ⟨ha, 1, v, gi⟩ 1 _ rfl w5.heap.size rfl rfl (by have := HLN.out; omega) hsz5 ?_; intro v6 w6 hown6 hb6 hG6)
         go_roundg (n - (j + 1))
         case rel => exact ⟨j + 1, (by show _ = _; omega), by omega, by go_num, (by show Own eEc _ _ _ _; rw [HXJ.out, HE.out, ← List.append_assoc]; exact hown6), HB5.out.trans hb6, side_app HS5.out hG6⟩
         case measure => omega
      ·have blj : decide ((j : Int) < (n : Int)) = false := decide_eq_false (by omega)
       have blj2 : decide (j < n) = false := decide_eq_false hlj
       have HE := Lib.hid (show p1 ++ (N.take j).flatMap F2 = p0 ++ (hvn.take (q + 1)).flatMap F1 by
        rw [List.take_of_length_le (by have := HN.out; omega), HXV.out, ← HPP.out, List.append_assoc, HF2.out])
       go_wp2
       go_roundg (mn - (q + 1))
       case rel => exact ⟨q + 1, (by show _ = _; omega), by omega, by go_num, (by show Own eEc _ _ _ _; rw [← HE.out]; exact HO3.out), HB3, HS3⟩
       case measure => omega
    ·have blq : decide ((q : Int) < (mn : Int)) = false := decide_eq_false (by omega)
     have blq2 : decide (q < mn) = false := decide_eq_false hlq
     have HE := Lib.hid (show p0 ++ (hvn.take q).flatMap F1 = (N.take (k + 1)).flatMap F0 by
      rw [List.take_of_length_le (by have := HMN.out; omega), HXN.out, HFF.out])
     go_wp2
     go_roundg (n - (k + 1))
     case rel => exact ⟨k + 1, (by show _ = _; omega), by omega, by go_num, (by show Own eEc _ _ _ _; rw [← HE.out]; exact HO2.out), HB2.out⟩
     case measure => omega
  ·have blt : decide ((k : Int) < (n : Int)) = false := decide_eq_false (by omega)
   have blt2 : decide (k < n) = false := decide_eq_false hlt
   have HE := Lib.hid (show (N.take k).flatMap F0 = L by rw [List.take_of_length_le (by have := HN.out; omega)]; exact HL.out)
   go_wp2
   go_ret
   exact ⟨_, rfl, by rw [← HE.out]; exact HO.out, hb⟩
end Go.Proofs.YtfcikfohmehmkaaGreatDoor
