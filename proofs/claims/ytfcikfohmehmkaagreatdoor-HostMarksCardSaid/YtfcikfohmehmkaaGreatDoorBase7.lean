/-
  Plain laws for layer 14: how many entries a host has; the tables of a tree without a route or a policy; a tree made anew of another one's paths. No conditions.
  Plain laws for layer 14's code: its lists of entries, from all hosts as they are read first, are those of the tables. Condition: a tree without faults.
  The document's own functions on entries, walked: which one stands ahead, an entry put where it belongs, a set of them, equal ones. Condition: at most 2^25 entries.
  slices.Delete and clear at lines of the call's own; elements stored over others. Condition: at most 2^30 lines.
  The document's side of layer 10 (ferryslipref10): Num, parts, IP, Power, Right, Prefix, value, MAC, Digits, IPText, hex, MACText, In. Condition: texts of at most 2^30 bytes.
  The document's side of layer 13 (ferryslipref13): Name. Condition: texts of at most 2^30 bytes.
  The document's side of layer 10 (ferryslipref10), last: MACText, Prefix, In, MAC. Condition: texts of at most 2^30 bytes.
  Layer 11, plain laws: IEEE 754's words of 64 bits: what a word stands for, in whole multiples of the least number; their order. No conditions.
  Layer 11, plain laws: rounding: the word nearest to a number; how far off it is. No conditions.
  Layer 11, plain laws: thousandths: a whole number as a float64, and divided by 1000. No conditions.
  The document's Nan, Rank, Ahead, Same of layer 11, on any words of 64 bits. No conditions.
  Plain laws for layer 11: sums of float64: signs, zeros, infinite ones; what is no number stays so. No conditions.
  Plain laws for layer 11: what a text means and the text of a metric, read back; the least of a list; sums. No conditions.
  The document's Read of layer 11: what a text means. Condition: at most 100 bytes.
  The document's side of layer 13: Type and Known. Condition: words of at most 100 bytes.
  The document's side of layer 13: has, there, twice, outside, meant. Condition: a tree.
  The document's side of layer 13: meant. Condition: a tree.
-/
import Derived.Test.YtfcikfohmehmkaaGreatDoorBase6
import Derived.Deep.QuietTactic
import Derived.RegionTactic
import Derived.StillTailTactics
import Derived.ArgAppend
import Derived.Lib.AppendZeros
import Derived.Lib.AppendZerosOnto
import Derived.Deep.LoopGhost
import Derived.WalkMore
import Derived.BigQuiet
import Derived.Deep.RegionHeld3
import Derived.Deep.RegionWith
import Derived.Laws.FloatArith
import Derived.Laws.Cover2
import Derived.Laws.Externs
import Derived.WalkLawsBesides
import Derived.Lib.Hide
import Derived.Lib.Strings

namespace Go.Proofs.YtfcikfohmehmkaaGreatDoor.H
set_option linter.unusedVariables false
open T (Pth RightN RightT isIn underW Ln pathL entries)
open C (Wd wHosts wVnis wBindings wRoutes wPolicy wIp wMac wHost wVni wVia wMetric wAction wFrom wTo pths checkP faultsP knownP kidsP liveP atP meantP thirdK needsW hasP key mem_pths twiceP outP sameAd)

-- A TREE MADE ANEW
theorem built_pths {t u : List Ln} (h : RightT t) {ps : List Pth} (hu : T.Built ps u) (hps : ∀ p, p ∈ ps ↔ isIn t p) : pths u = pths t := by
  have e : u = T.bareT t := by
    refine RightN.ext hu.right (T.bare_right h) fun x => ?_
    rw [hu.mem x]
    constructor
    · rintro ⟨p, hp, j, hj, rfl⟩
      obtain ⟨k, hk, rfl⟩ := (hps p).1 hp
      obtain ⟨i, hi, e⟩ := h.path_take k k (j + 1) (Nat.le_refl _) hk (by omega) (by omega)
      exact (T.mem_entries _ _ _).2 ⟨i, by rw [T.bare_len]; exact hi, by rw [T.bare_path]; exact e, by rw [T.bare_at]⟩
    · intro hx
      obtain ⟨i, hi, e1, e2⟩ := (T.mem_entries _ x.1 x.2).1 hx
      rw [T.bare_len] at hi
      rw [T.bare_path] at e1
      rw [T.bare_at] at e2
      have hl : 0 < (pathL t i).length := List.length_pos_iff.2 T.path_ne
      refine ⟨pathL t i, (hps _).2 ⟨i, hi, rfl⟩, (pathL t i).length - 1, by omega, ?_⟩
      rw [List.take_of_length_le (by omega), e1]
      exact Prod.ext rfl e2.symm
  rw [e]
  unfold pths
  rw [T.bare_len]
  exact List.map_congr_left fun i _ => T.bare_path t i

-- HOW MANY
theorem count_eq {a b : List En} (ha : a.Nodup) (hb : b.Nodup) (h : ∀ x, x ∈ a ↔ x ∈ b) : a.length = b.length :=
  Nat.le_antisymm (ha.length_le_of_subset fun x hx => (h x).1 hx) (hb.length_le_of_subset fun x hx => (h x).2 hx)
theorem nodup_map {f : Wd → En} : ∀ {l : List Wd}, l.Nodup → (∀ x ∈ l, ∀ y ∈ l, f x = f y → x = y) → (l.map f).Nodup := by
  intro l h hi
  refine List.pairwise_map.2 (h.imp_of_mem fun {a b} ha hb hab e => hab (hi a ha b hb e))
def routeE (t : List Ln) (h p : Wd) : En := ⟨h, 4, p, (if wordH t [wRoutes, p, wVia] [] = h then wLocal else ipH t (wordH t [wRoutes, p, wVia] [])) ++ 32 :: wordH t [wRoutes, p, wMetric] [48]⟩
def arpE (t : List Ln) (h i : Wd) : En := ⟨h, 2, wordH t [wBindings, i, wVni] [] ++ 32 :: i, wordH t [wBindings, i, wMac] []⟩
theorem mem_route {t : List Ln} {h g : Wd} {x : En} : x ∈ routeL t h g ↔ ∃ p ∈ underW t [wRoutes], wordH t [wRoutes, p, wVia] [] = g ∧ x = routeE t h p := by
  unfold routeL
  rw [List.mem_flatMap]
  constructor
  · rintro ⟨p, hp, hx⟩
    unfold routeOne at hx
    split at hx
    · next k =>
      rw [List.mem_singleton] at hx
      exact ⟨p, hp, k, by unfold routeE; rw [k]; exact hx⟩
    · cases hx
  · rintro ⟨p, hp, k, e⟩
    refine ⟨p, hp, ?_⟩
    unfold routeOne
    rw [if_pos k, List.mem_singleton, e]
    unfold routeE
    rw [k]
/-- The ARP entries among a binding's. -/
theorem mem_arp {t : List Ln} {h g : Wd} {x : En} (hk : x.kind = 2) : x ∈ bindL t h g ↔ ∃ i ∈ underW t [wBindings], wordH t [wBindings, i, wHost] [] = g ∧ inH t h (wordH t [wBindings, i, wVni] []) = true ∧ x = arpE t h i := by
  unfold bindL
  rw [List.mem_flatMap]
  constructor
  · rintro ⟨i, hi, hx⟩
    unfold bindOne at hx
    split at hx
    · next k =>
      rcases List.mem_cons.1 hx with e | hx
      · exact ⟨i, hi, k.1, k.2, e⟩
      · split at hx
        · cases hx
        · rw [List.mem_singleton] at hx
          rw [hx] at hk
          cases hk
    · cases hx
  · rintro ⟨i, hi, k1, k2, e⟩
    refine ⟨i, hi, ?_⟩
    unfold bindOne
    rw [if_pos ⟨k1, k2⟩, e]
    exact List.mem_cons_self
theorem tables_route {Z : Nat} {t : List Ln} (hR : RightN Z t) (hc : checkP (pths t) = []) {x : En} (hk : x.kind = 4) : x ∈ tablesL t ↔ x.host ∈ underW t [wHosts] ∧ ∃ p ∈ underW t [wRoutes], x = routeE t x.host p := by
  rw [mem_tables]
  refine and_congr_right fun hh => ?_
  rw [mem_host]
  constructor
  · rintro (⟨g, _, k⟩ | k)
    · rcases mem_pairs.1 k with k | k | k
      · obtain ⟨v, _, _, _, _, e⟩ := mem_flood.1 k; rw [e] at hk; cases hk
      · have := (bind_kind k).2; omega
      · obtain ⟨p, hp, _, e⟩ := mem_route.1 k
        exact ⟨p, hp, e⟩
    · have := (pol_kind k).2; omega
  · rintro ⟨p, hp, e⟩
    exact .inl ⟨_, via_host hR hc hp, mem_pairs.2 (.inr (.inr (mem_route.2 ⟨p, hp, rfl, e⟩)))⟩
theorem tables_pol {t : List Ln} {x : En} (hk : x.kind = 5) : x ∈ tablesL t ↔ x.host ∈ underW t [wHosts] ∧ ∃ p ∈ underW t [wPolicy], x = polOne t x.host p := by
  rw [mem_tables]
  refine and_congr_right fun hh => ?_
  rw [mem_host]
  constructor
  · rintro (⟨g, _, k⟩ | k)
    · rcases mem_pairs.1 k with k | k | k
      · obtain ⟨v, _, _, _, _, e⟩ := mem_flood.1 k; rw [e] at hk; cases hk
      · have := (bind_kind k).2; omega
      · have := (route_kind k).2; omega
    · obtain ⟨p, hp, e⟩ := List.mem_map.1 k
      exact ⟨p, hp, e.symm⟩
  · rintro ⟨p, hp, e⟩
    exact .inr (List.mem_map.2 ⟨p, hp, e.symm⟩)
theorem tables_arp {Z : Nat} {t : List Ln} (hR : RightN Z t) (hc : checkP (pths t) = []) {x : En} (hk : x.kind = 2) : x ∈ tablesL t ↔ x.host ∈ underW t [wHosts] ∧ ∃ i ∈ underW t [wBindings], inH t x.host (wordH t [wBindings, i, wVni] []) = true ∧ x = arpE t x.host i := by
  rw [mem_tables]
  refine and_congr_right fun hh => ?_
  rw [mem_host]
  constructor
  · rintro (⟨g, _, k⟩ | k)
    · rcases mem_pairs.1 k with k | k | k
      · obtain ⟨v, _, _, _, _, e⟩ := mem_flood.1 k; rw [e] at hk; cases hk
      · obtain ⟨i, hi, _, k2, e⟩ := (mem_arp hk).1 k
        exact ⟨i, hi, k2, e⟩
      · have := (route_kind k).2; omega
    · have := (pol_kind k).2; omega
  · rintro ⟨i, hi, k2, e⟩
    exact .inl ⟨_, bound_host hR hc hi, mem_pairs.2 (.inr (.inl ((mem_arp hk).2 ⟨i, hi, rfl, k2, e⟩)))⟩
/-- What is neither a route's nor a policy's. -/
theorem tables_rest {t : List Ln} {x : En} (h4 : x.kind ≠ 4) (h5 : x.kind ≠ 5) : x ∈ tablesL t ↔ x.host ∈ underW t [wHosts] ∧ ∃ g ∈ underW t [wHosts], x ∈ floodL t x.host g ∨ x ∈ bindL t x.host g := by
  rw [mem_tables]
  refine and_congr_right fun hh => ?_
  rw [mem_host]
  constructor
  · rintro (⟨g, hg, k⟩ | k)
    · rcases mem_pairs.1 k with k | k | k
      · exact ⟨g, hg, .inl k⟩
      · exact ⟨g, hg, .inr k⟩
      · exact absurd (route_kind k).2 h4
    · exact absurd (pol_kind k).2 h5
  · rintro ⟨g, hg, k | k⟩
    · exact .inl ⟨g, hg, mem_pairs.2 (.inl k)⟩
    · exact .inl ⟨g, hg, mem_pairs.2 (.inr (.inl k))⟩
/-- A host's entries of a kind. -/
def someE (h : Wd) (k : Int) (l : List En) : List En := l.filter fun x => decide (x.host = h) && decide (x.kind = k)
theorem mem_some {h : Wd} {k : Int} {l : List En} {x : En} : x ∈ someE h k l ↔ x ∈ l ∧ x.host = h ∧ x.kind = k := by
  unfold someE
  rw [List.mem_filter]
  simp
theorem some_nodup (t : List Ln) (h : Wd) (k : Int) : (someE h k (tablesL t)).Nodup := (sort_nodup (set_sort (allL t))).filter _
theorem routes_many {Z : Nat} {t : List Ln} (hR : RightN Z t) (hc : checkP (pths t) = []) {h : Wd} (hh : h ∈ underW t [wHosts]) : (someE h 4 (tablesL t)).length = (underW t [wRoutes]).length := by
  rw [← List.length_map (f := routeE t h) («as» := underW t [wRoutes])]
  refine count_eq (some_nodup t h 4) (nodup_map (T.underW_nodup hR _) fun x _ y _ e => congrArg En.key e) fun x => ?_
  rw [mem_some, List.mem_map]
  constructor
  · rintro ⟨h1, h2, h3⟩
    obtain ⟨_, p, hp, e⟩ := (tables_route hR hc h3).1 h1
    rw [h2] at e
    exact ⟨p, hp, e.symm⟩
  · rintro ⟨p, hp, rfl⟩
    exact ⟨(tables_route hR hc rfl).2 ⟨hh, p, hp, rfl⟩, rfl, rfl⟩
theorem policies_many {Z : Nat} {t : List Ln} (hR : RightN Z t) {h : Wd} (hh : h ∈ underW t [wHosts]) : (someE h 5 (tablesL t)).length = (underW t [wPolicy]).length := by
  rw [← List.length_map (f := polOne t h) («as» := underW t [wPolicy])]
  refine count_eq (some_nodup t h 5) (nodup_map (T.underW_nodup hR _) fun x _ y _ e => congrArg En.key e) fun x => ?_
  rw [mem_some, List.mem_map]
  constructor
  · rintro ⟨h1, h2, h3⟩
    obtain ⟨_, p, hp, e⟩ := (tables_pol h3).1 h1
    rw [h2] at e
    exact ⟨p, hp, e.symm⟩
  · rintro ⟨p, hp, rfl⟩
    exact ⟨(tables_pol rfl).2 ⟨hh, p, hp, rfl⟩, rfl, rfl⟩
theorem blank_split : ∀ {a b c d : Wd}, (32 : UInt8) ∉ a → (32 : UInt8) ∉ b → a ++ 32 :: c = b ++ 32 :: d → a = b ∧ c = d
  | [], [], c, d, _, _, e => ⟨rfl, by injection e⟩
  | [], y :: b, c, d, _, hb, e => by
    injection e with e1 e2
    exact absurd (by rw [e1]; exact List.mem_cons_self) hb
  | x :: a, [], c, d, ha, _, e => by
    injection e with e1 e2
    exact absurd (by rw [← e1]; exact List.mem_cons_self) ha
  | x :: a, y :: b, c, d, ha, hb, e => by
    injection e with e1 e2
    obtain ⟨h1, h2⟩ := blank_split (fun k => ha (List.mem_cons_of_mem _ k)) (fun k => hb (List.mem_cons_of_mem _ k)) e2
    exact ⟨by rw [e1, h1], h2⟩
theorem num_blank {s : Wd} (h : 1 ≤ N.numL s) : (32 : UInt8) ∉ s := by
  intro hm
  have : N.numL s = -1 := by
    unfold N.numL
    refine if_pos (.inr (.inr (.inr (Bool.eq_false_iff.2 fun ha => ?_))))
    have := List.all_eq_true.1 ha _ hm
    cases this
  omega
theorem vni_type (s : Wd) : C.typeB C.kVni s = (decide (1 ≤ N.numL s) && decide (N.numL s ≤ 16777215)) := by
  unfold C.typeB
  rw [if_neg (by decide), if_neg (by decide), if_neg (by decide), if_neg (by decide), if_pos rfl]
theorem in_blank {Z : Nat} {t : List Ln} (hR : RightN Z t) (hc : checkP (pths t) = []) {h v : Wd} (hv : inH t h v = true) : (32 : UInt8) ∉ v := by
  unfold inH at hv
  have hi := T.mem_underW.1 (of_decide_eq_true hv)
  have hk := faults_known (clean hR hc 4 _ (by simp) hi)
  have hk : (if C.typeB (thirdK (key wHosts wVnis)).1 v = true then (0 : Int) else 2) = 0 := hk
  rw [show (thirdK (key wHosts wVnis)).1 = C.kVni by decide] at hk
  have ht : C.typeB C.kVni v = true := Decidable.byContradiction fun k => by rw [if_neg k] at hk; cases hk
  rw [vni_type, Bool.and_eq_true, decide_eq_true_eq] at ht
  exact num_blank ht.1
def boundL (t : List Ln) (h : Wd) : List Wd := (underW t [wBindings]).filter fun i => inH t h (wordH t [wBindings, i, wVni] [])
theorem arps_many {Z : Nat} {t : List Ln} (hR : RightN Z t) (hc : checkP (pths t) = []) {h : Wd} (hh : h ∈ underW t [wHosts]) : (someE h 2 (tablesL t)).length = (boundL t h).length := by
  rw [← List.length_map (f := arpE t h) («as» := boundL t h)]
  refine count_eq (some_nodup t h 2) (nodup_map ((T.underW_nodup hR _).filter _) fun x hx y hy e => ?_) fun x => ?_
  · have e2 : wordH t [wBindings, x, wVni] [] ++ 32 :: x = wordH t [wBindings, y, wVni] [] ++ 32 :: y := congrArg En.key e
    exact (blank_split (in_blank hR hc (List.mem_filter.1 hx).2) (in_blank hR hc (List.mem_filter.1 hy).2) e2).2
  · rw [mem_some, List.mem_map]
    constructor
    · rintro ⟨h1, h2, h3⟩
      obtain ⟨_, p, hp, k, e⟩ := (tables_arp hR hc h3).1 h1
      rw [h2] at e k
      exact ⟨p, List.mem_filter.2 ⟨hp, k⟩, e.symm⟩
    · rintro ⟨p, hp, rfl⟩
      obtain ⟨q1, q2⟩ := List.mem_filter.1 hp
      exact ⟨(tables_arp hR hc rfl).2 ⟨hh, p, q1, q2, rfl⟩, rfl, rfl⟩
end Go.Proofs.YtfcikfohmehmkaaGreatDoor.H

namespace Go.Proofs.YtfcikfohmehmkaaGreatDoor.H
set_option linter.unusedVariables false
open T (Pth RightN RightT isIn underW Ln pathL entries)
open C (Wd wHosts wVnis wBindings wRoutes wPolicy wIp wMac wHost wVni wVia wMetric wAction wFrom wTo pths checkP faultsP knownP kidsP meantP thirdK key mem_pths)

/-- A host, as the code reads it. -/
structure Nd where
  name : Wd
  addr : Wd
  vn : List Wd
def ndOf (t : List Ln) (h : Wd) : Nd := ⟨h, ipH t h, underW t [wHosts, h, wVnis]⟩
def nodesL (t : List Ln) : List Nd := (underW t [wHosts]).map (ndOf t)
def inN (n : Nd) (v : Wd) : Bool := decide (v ∈ n.vn)
def namedN (N : List Nd) (x : Wd) : Nd := (N.find? fun n => decide (n.name = x)).getD ⟨[], [], []⟩
def floodOne (h g : Nd) (v : Wd) : List En := if g.name ≠ h.name ∧ inN g v = true then [⟨h.name, 1, v, g.addr⟩] else []
def floodsC (N : List Nd) : List En := N.flatMap fun h => h.vn.flatMap fun v => N.flatMap fun g => floodOne h g v
def boundTo (h g : Nd) (v i mac : Wd) : List En := if inN h v = true then ⟨h.name, 2, v ++ 32 :: i, mac⟩ :: (if g.name = h.name then [] else [⟨h.name, 3, v ++ 32 :: mac, g.addr⟩]) else []
def boundAt (t : List Ln) (N : List Nd) (i : Wd) : List En := N.flatMap fun h => boundTo h (namedN N (wordH t [wBindings, i, wHost] [])) (wordH t [wBindings, i, wVni] []) i (wordH t [wBindings, i, wMac] [])
def boundC (t : List Ln) (N : List Nd) : List En := (underW t [wBindings]).flatMap (boundAt t N)
def routeTo (h g : Nd) (p m : Wd) : En := ⟨h.name, 4, p, (if g.name = h.name then wLocal else g.addr) ++ 32 :: m⟩
def routeAt (t : List Ln) (N : List Nd) (p : Wd) : List En := N.map fun h => routeTo h (namedN N (wordH t [wRoutes, p, wVia] [])) p (wordH t [wRoutes, p, wMetric] [48])
def routesC (t : List Ln) (N : List Nd) : List En := (underW t [wRoutes]).flatMap (routeAt t N)
def polAt (t : List Ln) (N : List Nd) (n : Wd) : List En := N.map fun h => polOne t h.name n
def polsC (t : List Ln) (N : List Nd) : List En := (underW t [wPolicy]).flatMap (polAt t N)
def allC (t : List Ln) : List En := floodsC (nodesL t) ++ boundC t (nodesL t) ++ routesC t (nodesL t) ++ polsC t (nodesL t)

theorem mem_nodes {t : List Ln} {n : Nd} : n ∈ nodesL t ↔ ∃ h ∈ underW t [wHosts], ndOf t h = n := List.mem_map
theorem named_there {t : List Ln} {x : Wd} (h : x ∈ underW t [wHosts]) : namedN (nodesL t) x = ndOf t x := by
  unfold namedN nodesL
  cases hf : ((underW t [wHosts]).map (ndOf t)).find? (fun n => decide (n.name = x)) with
  | none =>
    rw [List.find?_eq_none] at hf
    exact absurd (decide_eq_true rfl) (hf (ndOf t x) (List.mem_map.2 ⟨x, h, rfl⟩))
  | some n =>
    have h1 : n.name = x := of_decide_eq_true (List.find?_some (p := fun n : Nd => decide (n.name = x)) hf)
    obtain ⟨z, _, rfl⟩ := List.mem_map.1 (List.mem_of_find?_eq_some hf)
    have : z = x := h1
    subst this
    rfl
/-- A host's network is there. -/
theorem vni_there {Z : Nat} {t : List Ln} (hR : RightN Z t) (h : checkP (pths t) = []) {b d : Wd} (hi : d ∈ underW t [wHosts, b, wVnis]) : d ∈ underW t [wVnis] := by
  have hf := clean hR h 4 _ (by simp) (T.mem_underW.1 hi)
  have hkn := faults_known hf
  unfold faultsP at hf
  rw [if_neg (fun k => k hkn)] at hf
  have hm : meantP (pths t) [wHosts, b, wVnis, d] = false := by
    cases hm : meantP (pths t) [wHosts, b, wVnis, d] with
    | false => rfl
    | true =>
      simp only [List.cons_append, List.nil_append] at hf
      rw [if_pos hm] at hf
      cases hf
  unfold meantP at hm
  simp only at hm
  rw [if_neg (by decide), if_neg (by decide), if_pos trivial, Bool.not_eq_false', decide_eq_true_eq] at hm
  exact T.mem_underW.2 (mem_pths.1 hm)
theorem mem_floodsC {Z : Nat} {t : List Ln} (hR : RightN Z t) (hc : checkP (pths t) = []) {x : En} : x ∈ floodsC (nodesL t) ↔ ∃ h ∈ underW t [wHosts], ∃ g ∈ underW t [wHosts], x ∈ floodL t h g := by
  unfold floodsC
  rw [List.mem_flatMap]
  constructor
  · rintro ⟨n, hn, hx⟩
    obtain ⟨h, hh, rfl⟩ := mem_nodes.1 hn
    obtain ⟨v, hv, hx⟩ := List.mem_flatMap.1 hx
    obtain ⟨m, hm, hx⟩ := List.mem_flatMap.1 hx
    obtain ⟨g, hg, rfl⟩ := mem_nodes.1 hm
    unfold floodOne at hx
    split at hx
    · next k =>
      rw [List.mem_singleton] at hx
      exact ⟨h, hh, g, hg, mem_flood.2 ⟨v, vni_there hR hc hv, fun e => k.1 e.symm, decide_eq_true hv, k.2, hx⟩⟩
    · cases hx
  · rintro ⟨h, hh, g, hg, hx⟩
    obtain ⟨v, _, h1, h2, h3, e⟩ := mem_flood.1 hx
    refine ⟨_, mem_nodes.2 ⟨h, hh, rfl⟩, List.mem_flatMap.2 ⟨v, of_decide_eq_true h2, List.mem_flatMap.2 ⟨_, mem_nodes.2 ⟨g, hg, rfl⟩, ?_⟩⟩⟩
    unfold floodOne
    rw [if_pos ⟨fun e => h1 e.symm, h3⟩, e]
    exact List.mem_singleton.2 rfl
theorem mem_boundC {Z : Nat} {t : List Ln} (hR : RightN Z t) (hc : checkP (pths t) = []) {x : En} : x ∈ boundC t (nodesL t) ↔ ∃ h ∈ underW t [wHosts], ∃ g ∈ underW t [wHosts], x ∈ bindL t h g := by
  unfold boundC bindL
  rw [List.mem_flatMap]
  constructor
  · rintro ⟨i, hi, hx⟩
    obtain ⟨n, hn, hx⟩ := List.mem_flatMap.1 hx
    obtain ⟨h, hh, rfl⟩ := mem_nodes.1 hn
    have hb := bound_host hR hc hi
    rw [named_there hb] at hx
    refine ⟨h, hh, _, hb, List.mem_flatMap.2 ⟨i, hi, ?_⟩⟩
    unfold boundTo at hx
    unfold bindOne
    split at hx
    · next k => rw [if_pos ⟨rfl, k⟩]; exact hx
    · cases hx
  · rintro ⟨h, hh, g, hg, hx⟩
    obtain ⟨i, hi, hx⟩ := List.mem_flatMap.1 hx
    unfold bindOne at hx
    split at hx
    · next k =>
      refine ⟨i, hi, List.mem_flatMap.2 ⟨_, mem_nodes.2 ⟨h, hh, rfl⟩, ?_⟩⟩
      rw [k.1, named_there hg]
      unfold boundTo
      rw [if_pos (show inN (ndOf t h) (wordH t [wBindings, i, wVni] []) = true from k.2)]
      exact hx
    · cases hx
theorem mem_routesC {Z : Nat} {t : List Ln} (hR : RightN Z t) (hc : checkP (pths t) = []) {x : En} : x ∈ routesC t (nodesL t) ↔ ∃ h ∈ underW t [wHosts], ∃ g ∈ underW t [wHosts], x ∈ routeL t h g := by
  unfold routesC
  rw [List.mem_flatMap]
  constructor
  · rintro ⟨p, hp, hx⟩
    obtain ⟨n, hn, rfl⟩ := List.mem_map.1 hx
    obtain ⟨h, hh, rfl⟩ := mem_nodes.1 hn
    have hb := via_host hR hc hp
    refine ⟨h, hh, _, hb, mem_route.2 ⟨p, hp, rfl, ?_⟩⟩
    rw [named_there hb]
    rfl
  · rintro ⟨h, hh, g, hg, hx⟩
    obtain ⟨p, hp, k, e⟩ := mem_route.1 hx
    refine ⟨p, hp, List.mem_map.2 ⟨_, mem_nodes.2 ⟨h, hh, rfl⟩, ?_⟩⟩
    rw [named_there (via_host hR hc hp), e]
    rfl
theorem mem_polsC {t : List Ln} {x : En} : x ∈ polsC t (nodesL t) ↔ ∃ h ∈ underW t [wHosts], x ∈ polL t h := by
  unfold polsC polL
  rw [List.mem_flatMap]
  constructor
  · rintro ⟨p, hp, hx⟩
    obtain ⟨n, hn, rfl⟩ := List.mem_map.1 hx
    obtain ⟨h, hh, rfl⟩ := mem_nodes.1 hn
    exact ⟨h, hh, List.mem_map.2 ⟨p, hp, rfl⟩⟩
  · rintro ⟨h, hh, hx⟩
    obtain ⟨p, hp, rfl⟩ := List.mem_map.1 hx
    exact ⟨p, hp, List.mem_map.2 ⟨_, mem_nodes.2 ⟨h, hh, rfl⟩, rfl⟩⟩
/-- What the code collects makes the tables. -/
theorem code_tables {Z : Nat} {t : List Ln} (hR : RightN Z t) (hc : checkP (pths t) = []) : setE (allC t) = tablesL t := by
  refine (set_ext (set_sort _) fun x => ?_).symm
  show x ∈ setE (allL t) ↔ _
  rw [mem_set]
  unfold allC allL
  rw [List.mem_append, List.mem_append, List.mem_append, mem_floodsC hR hc, mem_boundC hR hc, mem_routesC hR hc, mem_polsC, List.mem_flatMap]
  constructor
  · rintro ⟨h, hh, hx⟩
    rcases mem_host.1 hx with ⟨g, hg, k⟩ | k
    · rcases mem_pairs.1 k with k | k | k
      · exact .inl (.inl (.inl ⟨h, hh, g, hg, k⟩))
      · exact .inl (.inl (.inr ⟨h, hh, g, hg, k⟩))
      · exact .inl (.inr ⟨h, hh, g, hg, k⟩)
    · exact .inr ⟨h, hh, k⟩
  · rintro (((⟨h, hh, g, hg, k⟩ | ⟨h, hh, g, hg, k⟩) | ⟨h, hh, g, hg, k⟩) | ⟨h, hh, k⟩)
    · exact ⟨h, hh, mem_host.2 (.inl ⟨g, hg, mem_pairs.2 (.inl k)⟩)⟩
    · exact ⟨h, hh, mem_host.2 (.inl ⟨g, hg, mem_pairs.2 (.inr (.inl k))⟩)⟩
    · exact ⟨h, hh, mem_host.2 (.inl ⟨g, hg, mem_pairs.2 (.inr (.inr k))⟩)⟩
    · exact ⟨h, hh, mem_host.2 (.inr k)⟩

-- HOW MANY THERE ARE
theorem flat_le {α β : Type} (f : α → List β) (k : Nat) (l : List α) (h : ∀ x ∈ l, (f x).length ≤ k) {q : Nat} (hq : l.length ≤ q) : (l.flatMap f).length ≤ k * q := Nat.le_trans (flat_most f k l h) (Nat.mul_le_mul_left k hq)
theorem floodOne_few (h g : Nd) (v : Wd) : (floodOne h g v).length ≤ 1 := by unfold floodOne; split <;> simp
theorem boundTo_few (h g : Nd) (v i m : Wd) : (boundTo h g v i m).length ≤ 2 := by
  unfold boundTo
  split
  · split <;> simp
  · simp
theorem nodes_few {Z : Nat} {t : List Ln} (h : RightN Z t) (hl : t.length ≤ 200) : (nodesL t).length ≤ 200 := by unfold nodesL; rw [List.length_map]; exact under_few h hl _
theorem vn_few {Z : Nat} {t : List Ln} (h : RightN Z t) (hl : t.length ≤ 200) : ∀ n ∈ nodesL t, n.vn.length ≤ 200 := fun n hn => by
  obtain ⟨z, _, rfl⟩ := mem_nodes.1 hn
  exact under_few h hl _
theorem floodsC_few {N : List Nd} (h1 : N.length ≤ 200) (h2 : ∀ n ∈ N, n.vn.length ≤ 200) : (floodsC N).length ≤ 8000000 :=
  flat_le _ 40000 N (fun n hn => flat_le _ 200 n.vn (fun v _ => Nat.le_trans (flat_le _ 1 N (fun g _ => floodOne_few n g v) h1) (by decide)) (h2 n hn)) h1
theorem boundAt_few (t : List Ln) {N : List Nd} (h1 : N.length ≤ 200) (i : Wd) : (boundAt t N i).length ≤ 400 := flat_le _ 2 N (fun h _ => boundTo_few _ _ _ _ _) h1
theorem boundC_few {t : List Ln} {N : List Nd} (h1 : N.length ≤ 200) (h2 : (underW t [wBindings]).length ≤ 200) : (boundC t N).length ≤ 80000 := flat_le _ 400 _ (fun i _ => boundAt_few t h1 i) h2
theorem routesC_few {t : List Ln} {N : List Nd} (h1 : N.length ≤ 200) (h2 : (underW t [wRoutes]).length ≤ 200) : (routesC t N).length ≤ 40000 := flat_le _ 200 _ (fun i _ => by unfold routeAt; rw [List.length_map]; exact h1) h2
theorem polsC_few {t : List Ln} {N : List Nd} (h1 : N.length ≤ 200) (h2 : (underW t [wPolicy]).length ≤ 200) : (polsC t N).length ≤ 40000 := flat_le _ 200 _ (fun i _ => by unfold polAt; rw [List.length_map]; exact h1) h2

-- THE ORDER
def Low (x y : En) : Prop := aheadE y x = false
/-- Without those that stand right behind their like. -/
def sqE : List En → List En
  | [] => []
  | [x] => [x]
  | x :: y :: l => if x = y then sqE (y :: l) else x :: sqE (y :: l)
theorem mem_sqE {x : En} : ∀ {l : List En}, x ∈ sqE l ↔ x ∈ l
  | [] => Iff.rfl
  | [y] => Iff.rfl
  | y :: z :: l => by
    unfold sqE
    split
    · next e =>
      subst e
      rw [mem_sqE (l := y :: l), List.mem_cons (l := y :: l)]
      exact ⟨.inr, fun h => h.elim (fun e => e ▸ List.mem_cons_self) id⟩
    · rw [List.mem_cons, List.mem_cons (l := z :: l), mem_sqE (l := z :: l)]
theorem sort_sqE : ∀ {l : List En}, l.Pairwise Low → SortE (sqE l)
  | [], _ => List.Pairwise.nil
  | [y], _ => List.pairwise_singleton _ _
  | y :: z :: l, h => by
    unfold sqE
    have h2 := List.Pairwise.of_cons h
    split
    · exact sort_sqE h2
    · next ne =>
      refine List.Pairwise.cons (fun a ha => ?_) (sort_sqE h2)
      have ha := mem_sqE.1 ha
      have hyz : aheadE y z = true := by
        have h1 : aheadE z y = false := (List.pairwise_cons.1 h).1 z List.mem_cons_self
        rcases ahead_tri y z with k | k | k
        · exact k
        · exact absurd k ne
        · rw [h1] at k; cases k
      rcases List.mem_cons.1 ha with rfl | ha
      · exact hyz
      · have h3 : aheadE a z = false := (List.pairwise_cons.1 h2).1 a ha
        rcases ahead_tri z a with k | k | k
        · exact ahead_trans hyz k
        · exact k ▸ hyz
        · rw [h3] at k; cases k
/-- In order, and squeezed: each once, in order. -/
theorem sq_set {l s : List En} (hp : s.Perm l) (ho : s.Pairwise Low) : sqE s = setE l := set_ext (sort_sqE ho) fun x => mem_sqE.trans hp.mem_iff
theorem sqE_next : ∀ (s : List En) (x y : En), sqE (s ++ [x, y]) = if x = y then sqE (s ++ [x]) else sqE (s ++ [x]) ++ [y]
  | [], x, y => by
    show sqE [x, y] = if x = y then [x] else [x, y]
    unfold sqE
    split
    · next e => rw [e]; rfl
    · rfl
  | [a], x, y => by
    have ih := sqE_next [] x y
    simp only [List.nil_append] at ih
    show sqE (a :: x :: [y]) = if x = y then sqE (a :: [x]) else sqE (a :: [x]) ++ [y]
    rw [sqE, ih]
    rw [show sqE [a, x] = if a = x then [x] else [a, x] by unfold sqE; rfl]
    split <;> split <;> rfl
  | a :: b :: s, x, y => by
    have ih := sqE_next (b :: s) x y
    simp only [List.cons_append] at ih ⊢
    rw [sqE, ih, show sqE (a :: b :: (s ++ [x])) = if a = b then sqE (b :: (s ++ [x])) else a :: sqE (b :: (s ++ [x])) by rw [sqE]]
    split <;> split <;> rfl
theorem sqE_step (l : List En) (k j : Nat) (p q : En) (hk : k = j + 1) (hp : l[k]? = some p) (hq : l[j]? = some q) :
    (decide (p = q) = false → sqE (l.take (k + 1)) = sqE (l.take k) ++ [p]) ∧ l.take k ++ [p] = l.take (k + 1) ∧ (decide (p = q) = true → sqE (l.take (k + 1)) = sqE (l.take k)) := by
  subst hk
  obtain ⟨h1, rfl⟩ := List.getElem?_eq_some_iff.1 hp
  obtain ⟨h2, rfl⟩ := List.getElem?_eq_some_iff.1 hq
  have e1 := List.take_succ_eq_append_getElem h1
  have e2 := List.take_succ_eq_append_getElem h2
  have key := sqE_next (l.take j) l[j] l[j + 1]
  rw [show l.take j ++ [l[j], l[j + 1]] = l.take (j + 1 + 1) by rw [e1, e2, List.append_assoc]; rfl, ← e2] at key
  refine ⟨fun e => ?_, e1.symm, fun e => ?_⟩
  · rw [key, if_neg (fun h => of_decide_eq_false e h.symm)]
  · rw [key, if_pos (of_decide_eq_true e).symm]
end Go.Proofs.YtfcikfohmehmkaaGreatDoor.H

namespace Go.Proofs.YtfcikfohmehmkaaGreatDoor
open Go.RowKit
set_option linter.unusedVariables false

set_option maxHeartbeats 4000000 in
theorem aheadR (x y : H.En) (r : Bool) (w : World) (hr : H.aheadE x y = r) : Calls Tryz.prog 16 #[enV x, enV y] w (fun e w' => e = .returned (.bool r) ∧ Below w.heap.size w w') := by
  obtain ⟨h1, k1, q1, v1⟩ := x
  obtain ⟨h2, k2, q2, v2⟩ := y
  unfold H.aheadE at hr
  simp only at hr
  unfold enV
  simp only
  by_cases e1 : h1 = h2
  · rw [if_neg (fun h => h e1)] at hr
    have b1 : ((sB h1).toList == (sB h2).toList) = true := sB_eq e1
    clear e1
    by_cases e2 : k1 = k2
    · rw [if_neg (fun h => h e2)] at hr
      have b2 : (k1 == k2) = true := by simp [e2]
      clear e2
      by_cases e3 : q1 = q2
      · rw [if_neg (fun h => h e3)] at hr
        have b3 : ((sB q1).toList == (sB q2).toList) = true := sB_eq e3
        have b4 : Op.bytesLess (sB v1).toList (sB v2).toList = r := by rw [sB_toList, sB_toList]; exact hr
        clear e3 hr
        go_enter Tryz.func16, Tryz.ntmps16
        go_wp2
        go_ret
        exact ⟨rfl, bthen (up _ _) (up _ _)⟩
      · rw [if_pos e3] at hr
        have b3 : ((sB q1).toList == (sB q2).toList) = false := sB_ne e3
        have b4 : Op.bytesLess (sB q1).toList (sB q2).toList = r := by rw [sB_toList, sB_toList]; exact hr
        clear e3 hr
        go_enter Tryz.func16, Tryz.ntmps16
        go_wp2
        go_ret
        exact ⟨rfl, bthen (up _ _) (up _ _)⟩
    · rw [if_pos e2] at hr
      have b2 : (k1 == k2) = false := by simp [e2]
      clear e2
      go_enter Tryz.func16, Tryz.ntmps16
      go_wp2
      go_ret
      exact ⟨rfl, bthen (up _ _) (up _ _)⟩
  · rw [if_pos e1] at hr
    have b1 : ((sB h1).toList == (sB h2).toList) = false := sB_ne e1
    have b4 : Op.bytesLess (sB h1).toList (sB h2).toList = r := by rw [sB_toList, sB_toList]; exact hr
    clear e1 hr
    go_enter Tryz.func16, Tryz.ntmps16
    go_wp2
    go_ret
    exact ⟨rfl, bthen (up _ _) (up _ _)⟩

set_option maxRecDepth 100000 in
theorem sameR14 (A B : Option Addr) (c d n : Nat) (l : List H.En) (w : World) (hn : l.length = n) (hl : n ≤ 1073741824) (hA : Seen eEd w A l) (hB : Seen eEd w B l) :
    Calls Tryz.prog 14 #[.slice A n c, .slice B n d] w (TrueS w) := by
  have HA := Lib.hid hA
  have HB := Lib.hid hB
  have HN := Lib.hid hn
  clear hA hB hn
  go_enter Tryz.func14, Tryz.ntmps14
  go_wp2
  go_loopg [5] n (fun g i wr => ∃ k : Nat, Hid (k + g = n) ∧ k ≤ n ∧ i = .int .i64 k ∧ Below w.heap.size w wr)
  case atStart => exact ⟨0, Nat.zero_add _, Nat.zero_le _, rfl, Below.refl _ _⟩
  case round =>
    obtain ⟨k, HG, hk, rfl, hb⟩ := hrel
    by_cases hlt : k < n
    · have hkl : k < l.length := by have := HN.out; omega
      obtain ⟨b1, o1, rfl, hw1, hL1⟩ := HA.out (by omega)
      obtain ⟨b2, o2, rfl, hw2, hL2⟩ := HB.out (by omega)
      obtain ⟨c0, c1, c2, c3⟩ := (hL1.below hb hw1).entry rfl rfl hkl
      obtain ⟨d0, d1, d2, d3⟩ := (hL2.below hb hw2).entry rfl rfl hkl
      generalize l[k] = x at c0 c1 c2 c3 d0 d1 d2 d3
      clear hL1 hL2
      go_wp2
      go_region
      go_wp2
      go_roundg (n - (k + 1))
      case rel => exact ⟨k + 1, (by show _ = _; omega), by omega, by go_num, hb.drew⟩
      case measure => have := HG.out; omega
    · go_wp2
      go_ret
      exact ⟨rfl, hb⟩
end Go.Proofs.YtfcikfohmehmkaaGreatDoor

namespace Go.Proofs.YtfcikfohmehmkaaGreatDoor
open Go.RowKit
set_option linter.unusedVariables false

theorem Own.frozenNo {α : Type} {E : Elem α} {w : World} {base g n cap : Nat} {t : List α} (h : Own E w base (.slice (some ⟨g, 0, none⟩) n cap) t) (j : Nat) : w.frozen? ⟨g, j, none⟩ = false ∧ base ≤ g ∧ g < w.heap.size := by
  rcases h.2 with ⟨e, _⟩ | ⟨g2, cap2, cur, e, hbg, hgg, _⟩
  · cases e
  · injection e with e1 e2 e3
    injection e1 with e1
    injection e1 with e1
    subst e1
    exact ⟨Lib.frozen_of_heap hgg j, hbg, (Array.getElem?_eq_some_iff.1 hgg).1⟩
theorem below_cells {B : Nat} {a : World} (b : Nat) (hb : B ≤ b) : ∀ (vs : List Value) (o : Nat) {w : World}, Below B a w → Below B a (w.setCells b o vs)
  | [], _, _, h => h
  | v :: r, o, _, h => below_cells b hb r (o + 1) (h.setCell (p := ⟨b, o, none⟩) hb v)
theorem zeroCells_one (a : Array Value) (h : ∀ v ∈ a, v.oneCell' = true) (n : Nat) : ∀ v ∈ (Builtin.zeroCells a n).toList, v.oneCell' = true := by
  intro v hv
  unfold Builtin.zeroCells at hv
  rw [Array.toList_map] at hv
  obtain ⟨i, hi, rfl⟩ := List.mem_map.1 hv
  have hi2 : i < n * a.size := by simpa using hi
  have hpos : 0 < a.size := Nat.pos_of_ne_zero fun e => by rw [e] at hi2; omega
  have hm : i % a.size < a.size := Nat.mod_lt _ hpos
  rw [getElem!_pos a (i % a.size) hm]
  exact h _ (Array.getElem_mem hm)

end Go.Proofs.YtfcikfohmehmkaaGreatDoor

namespace Go.Proofs.YtfcikfohmehmkaaGreatDoor
open Go.RowKit
set_option linter.unusedVariables false

theorem num_bad {s : List UInt8} {c : UInt8} (hc : c ∈ s) (h : N.digB c = false) : N.numL s = -1 := by
  unfold N.numL
  rw [if_pos (.inr (.inr (.inr (List.all_eq_false.2 ⟨c, hc, by rw [h]; simp⟩))))]
theorem num_all {s : List UInt8} (h0 : s ≠ []) (h1 : ¬ 10 < s.length) (h2 : ¬ (s.head? = some 48 ∧ 1 < s.length)) (h3 : s.all N.digB = true) : N.numL s = N.valL s := by
  unfold N.numL
  rw [if_neg]
  rintro (e | e | e | e)
  · exact h0 e
  · exact h1 e
  · exact h2 e
  · rw [h3] at e; cases e
theorem head_is (s : ByteArray) (h : 0 < s.size) : s.data.toList.head? = some s[0] := by
  have e : s.data.toList.take 1 = s.data.toList.take 0 ++ [s[0]] := W.take_snoc s 0 h
  cases hl : s.data.toList with
  | nil => rw [hl] at e; simp at e
  | cons x r => rw [hl] at e; simp at e; rw [e]; rfl
theorem digB_lo {c : UInt8} (h : c.toNat < 48) : N.digB c = false := by unfold N.digB; rw [decide_eq_false (by omega)]; rfl
theorem digB_hi {c : UInt8} (h : 57 < c.toNat) : N.digB c = false := by unfold N.digB; rw [decide_eq_false (show ¬ c.toNat ≤ 57 by omega), Bool.and_false]
theorem digB_in {c : UInt8} (h : 48 ≤ c.toNat) (h2 : c.toNat ≤ 57) : N.digB c = true := by unfold N.digB; rw [decide_eq_true h, decide_eq_true h2]; rfl
end Go.Proofs.YtfcikfohmehmkaaGreatDoor

namespace Go.Proofs.YtfcikfohmehmkaaGreatDoor
open Go.RowKit
set_option linter.unusedVariables false

theorem name_long {s : List UInt8} (h : 16 < s.length) : C.nameB s = false := by
  cases s with
  | nil => rfl
  | cons c r =>
    rw [List.length_cons] at h
    show (decide (97 ≤ c.toNat) && decide (c.toNat ≤ 122) && decide (r.length < 16) && r.all C.okC) = false
    rw [decide_eq_false (show ¬ r.length < 16 by omega), Bool.and_false]
    rfl
theorem name_head {s : List UInt8} {c : UInt8} (h : s.head? = some c) (hc : c.toNat < 97 ∨ 122 < c.toNat) : C.nameB s = false := by
  cases s with
  | nil => rfl
  | cons x r =>
    injection h with h
    subst h
    show (decide (97 ≤ x.toNat) && decide (x.toNat ≤ 122) && decide (r.length < 16) && r.all C.okC) = false
    rcases hc with h | h
    · rw [decide_eq_false (show ¬ 97 ≤ x.toNat by omega)]
      rfl
    · rw [decide_eq_false (show ¬ x.toNat ≤ 122 by omega), Bool.and_false]
      rfl
theorem okC_az {c : UInt8} (h : 97 ≤ c.toNat) (h2 : c.toNat ≤ 122) : C.okC c = true := by unfold C.okC; rw [decide_eq_true h, decide_eq_true h2]; rfl
theorem okC_dig {c : UInt8} (h : 48 ≤ c.toNat) (h2 : c.toNat ≤ 57) : C.okC c = true := by unfold C.okC N.digB; rw [decide_eq_true h, decide_eq_true h2]; simp
theorem okC_dash {c : UInt8} (h : c.toNat = 45) : C.okC c = true := by unfold C.okC; rw [decide_eq_true h, Bool.or_true]
theorem okC_no {c : UInt8} (h : ¬ (97 ≤ c.toNat ∧ c.toNat ≤ 122)) (h2 : ¬ (48 ≤ c.toNat ∧ c.toNat ≤ 57)) (h3 : c.toNat ≠ 45) : C.okC c = false := by
  unfold C.okC N.digB
  rw [← Bool.decide_and, ← Bool.decide_and, decide_eq_false h, decide_eq_false h2, decide_eq_false h3]
  rfl
theorem name_bad {s : List UInt8} {c : UInt8} (hc : c ∈ s) (h : C.okC c = false) : C.nameB s = false := by
  cases s with
  | nil => cases hc
  | cons x r =>
    rcases List.mem_cons.1 hc with rfl | hr
    · refine name_head rfl ?_
      apply Decidable.byContradiction
      intro hn
      rw [okC_az (by omega) (by omega)] at h
      cases h
    · show (decide (97 ≤ x.toNat) && decide (x.toNat ≤ 122) && decide (r.length < 16) && r.all C.okC) = false
      rw [show r.all C.okC = false from List.all_eq_false.2 ⟨c, hr, by rw [h]; simp⟩, Bool.and_false]
theorem name_yes {s : List UInt8} {c : UInt8} (h : s.head? = some c) (h1 : 97 ≤ c.toNat) (h2 : c.toNat ≤ 122) (hl : s.length ≤ 16) (ha : s.all C.okC = true) : C.nameB s = true := by
  cases s with
  | nil => cases h
  | cons x r =>
    injection h with h
    subst h
    rw [List.length_cons] at hl
    rw [List.all_cons, Bool.and_eq_true] at ha
    show (decide (97 ≤ x.toNat) && decide (x.toNat ≤ 122) && decide (r.length < 16) && r.all C.okC) = true
    rw [decide_eq_true h1, decide_eq_true h2, decide_eq_true (show r.length < 16 by omega), ha.2]
    rfl
theorem sB_join13 (a b : List UInt8) : sB (a ++ b) = sB a ++ sB b := by
  apply ByteArray.ext
  unfold sB
  rw [ByteArray.data_append]
  simp
end Go.Proofs.YtfcikfohmehmkaaGreatDoor

namespace Go.Proofs.YtfcikfohmehmkaaGreatDoor
open Go.RowKit
set_option linter.unusedVariables false

theorem calls_sym {P : Program} {f : FuncId} {args : Array Value} {w : World} {v : Value} (h : Calls P f args w fun e w' => e = .returned v ∧ w = w') : Calls P f args w fun e w' => e = .returned v ∧ w' = w := h.mono fun _ _ ⟨a, b⟩ => ⟨a, b.symm⟩
theorem below_drawn10 {B : Nat} {a w : World} (h : Below B a w) (q : Nat) : Below B a (w.drewN q) := ⟨h.os, h.tape, h.output, h.size, h.block⟩
theorem right_nums {n bits : Int} (h : N.rightB n bits = true) : 0 ≤ n ∧ n < 4294967296 ∧ 0 ≤ bits ∧ bits ≤ 32 := by
  unfold N.rightB at h
  simp only [Bool.and_eq_true, decide_eq_true_eq] at h
  exact ⟨h.1.1.1.1, h.1.1.1.2, h.1.1.2, h.1.2⟩
end Go.Proofs.YtfcikfohmehmkaaGreatDoor

namespace Go.Proofs.YtfcikfohmehmkaaGreatDoor.F
set_option linter.unusedVariables false
open Ieee

/-- The magnitude of a rung, in multiples of the least number above 0. -/
def U (r : Nat) : Nat := if r < 4503599627370496 then r else (4503599627370496 + r % 4503599627370496) * 2 ^ (r / 4503599627370496 - 1)
theorem pow_pos3 (k : Nat) : 0 < 2 ^ k := Nat.pow_pos (by omega)
/-- Is the word's sign set; its rung. -/
def negB (x : Nat) : Bool := decide (9223372036854775808 ≤ x)
def rung (x : Nat) : Nat := x % 9223372036854775808
def nanB (x : Nat) : Bool := decide (9218868437227405312 < rung x)
theorem lit_sign : double.signWeight = 9223372036854775808 := by decide
theorem lit_binade : double.binade = 4503599627370496 := by decide
theorem lit_inf : double.infRung = 9218868437227405312 := by decide
theorem lit_least : double.leastPlace = -1074 := by decide
theorem neg_bit {x : Nat} (h : x < 18446744073709551616) : (x / 9223372036854775808 % 2 == 1) = negB x := by
  unfold negB
  by_cases h1 : 9223372036854775808 ≤ x
  · rw [decide_eq_true h1, beq_iff_eq]; omega
  · rw [decide_eq_false h1, beq_eq_false_iff_ne]; omega
-- THE ORDER
end Go.Proofs.YtfcikfohmehmkaaGreatDoor.F

namespace Go.Proofs.YtfcikfohmehmkaaGreatDoor.F
set_option linter.unusedVariables false
open Ieee

theorem U_rung (L k : Nat) (h : k ≤ 9007199254740992) (h2 : L = 0 ∨ 4503599627370496 ≤ k) : U (L * 4503599627370496 + k) = k * 2 ^ L := by
  by_cases hk : k < 4503599627370496
  · obtain rfl : L = 0 := by omega
    unfold U; rw [if_pos (by omega)]; omega
  · unfold U
    rw [if_neg (by omega)]
    by_cases hb : k = 9007199254740992
    · subst hb
      have e1 : (L * 4503599627370496 + 9007199254740992) % 4503599627370496 = 0 := by omega
      have e2 : (L * 4503599627370496 + 9007199254740992) / 4503599627370496 - 1 = L + 1 := by omega
      rw [e1, e2, Nat.pow_succ]; omega
    · have e1 : (L * 4503599627370496 + k) % 4503599627370496 = k - 4503599627370496 := by omega
      have e2 : (L * 4503599627370496 + k) / 4503599627370496 - 1 = L := by omega
      rw [e1, e2, Nat.add_sub_cancel' (show 4503599627370496 ≤ k by omega)]
/-- Rounded to the nearest whole number: at most half of one off. -/
theorem cut_near (neg : Bool) (n drop : Nat) (h : drop ≤ n.log2 + 2) : 2 * n ≤ 2 * (Toward.even.cut neg n drop * 2 ^ drop) + 2 ^ drop ∧ 2 * (Toward.even.cut neg n drop * 2 ^ drop) ≤ 2 * n + 2 ^ drop := by
  have hg : 1 <<< min drop (n.log2 + 2) = 2 ^ drop := by rw [Nat.min_eq_left h, Nat.shiftLeft_eq, Nat.one_mul]
  unfold Toward.cut
  simp only [hg]
  have hp := pow_pos3 drop
  generalize 2 ^ drop = g at hp
  have hd := Nat.div_add_mod n g
  have hm := Nat.mod_lt n hp
  rw [Nat.mul_comm] at hd
  generalize n / g = q at hd
  generalize n % g = r at hd hm
  generalize hq : q * g = qg at hd
  by_cases h1 : g < 2 * r
  · rw [decide_eq_true h1]
    show _ ≤ 2 * ((q + 1) * g) + g ∧ 2 * ((q + 1) * g) ≤ _
    rw [Nat.add_mul, hq]; omega
  · rw [decide_eq_false h1, Bool.false_or]
    by_cases h2 : g = 2 * r
    · cases (g == 2 * r && q % 2 == 1) with
      | true =>
        show _ ≤ 2 * ((q + 1) * g) + g ∧ 2 * ((q + 1) * g) ≤ _
        rw [Nat.add_mul, hq]; omega
      | false =>
        show _ ≤ 2 * ((q + 0) * g) + g ∧ 2 * ((q + 0) * g) ≤ _
        rw [Nat.add_zero, hq]; omega
    · rw [beq_eq_false_iff_ne.2 h2, Bool.false_and]
      show _ ≤ 2 * ((q + 0) * g) + g ∧ 2 * ((q + 0) * g) ≤ _
      rw [Nat.add_zero, hq]; omega
/-- Nothing dropped: exact. -/
theorem cut_zero (neg : Bool) (n : Nat) : Toward.even.cut neg n 0 = n := by
  have h := cut_near neg n 0 (by omega)
  simp only [Nat.pow_zero, Nat.mul_one] at h
  omega
theorem log_bounds {n : Nat} (h : n ≠ 0) : 2 ^ n.log2 ≤ n ∧ n < 2 ^ (n.log2 + 1) := ⟨Nat.log2_self_le h, Nat.lt_log2_self⟩
theorem nearest_pos (mag : Nat) (place : Int) (hm : mag ≠ 0) : double.nearest false mag place = min ((max (place + mag.log2 - 52) (-1074) + 1074).toNat * 4503599627370496 + Toward.even.cut false (mag <<< (place - max (place + mag.log2 - 52) (-1074)).toNat) (max (place + mag.log2 - 52) (-1074) - place).toNat) 9218868437227405312 := by
  unfold Format.nearest
  rw [if_neg hm]
  have hf : (double.fractionBits : Int) = 52 := rfl
  simp only [lit_binade, lit_inf, lit_least, hf]
  unfold Format.word
  rw [if_neg (by decide), Int.sub_neg]
/-- A number that needs no rounding: what stands for it. -/
theorem nearest_exact (mag : Nat) (place : Int) (k : Nat) (hk : mag.log2 = k) (h0 : mag ≠ 0) (h1 : k ≤ 52) (h2 : -1000 ≤ place) (h3 : place + k ≤ 1000) :
    double.nearest false mag place = (place + k - 52 + 1074).toNat * 4503599627370496 + mag * 2 ^ (52 - k) ∧ rung (double.nearest false mag place) = double.nearest false mag place ∧ double.nearest false mag place < 9218868437227405312 ∧ U (double.nearest false mag place) = mag * 2 ^ (place + 1074).toNat := by
  have hb := log_bounds h0
  rw [hk] at hb
  have e1 : max (place + (k : Int) - 52) (-1074) = place + k - 52 := by omega
  have e2 : (place - (place + (k : Int) - 52)).toNat = 52 - k := by omega
  have e3 : (place + (k : Int) - 52 - place).toNat = 0 := by omega
  have e4 : mag <<< (52 - k) = mag * 2 ^ (52 - k) := Nat.shiftLeft_eq ..
  have hp : (2 : Nat) ^ (k + 1) * 2 ^ (52 - k) = 9007199254740992 := by rw [← Nat.pow_add, show k + 1 + (52 - k) = 53 by omega]
  have hp2 : (2 : Nat) ^ k * 2 ^ (52 - k) = 4503599627370496 := by rw [← Nat.pow_add, show k + (52 - k) = 52 by omega]
  have hlo : 4503599627370496 ≤ mag * 2 ^ (52 - k) := by rw [← hp2]; exact Nat.mul_le_mul_right _ hb.1
  have hhi : mag * 2 ^ (52 - k) < 9007199254740992 := by rw [← hp]; exact Nat.mul_lt_mul_of_pos_right hb.2 (pow_pos3 _)
  obtain ⟨L, hL⟩ : ∃ L, (place + (k : Int) - 52 + 1074).toNat = L := ⟨_, rfl⟩
  have hE : double.nearest false mag place = L * 4503599627370496 + mag * 2 ^ (52 - k) := by
    rw [nearest_pos mag place h0, hk, e1, e2, e3, cut_zero, e4, hL]
    exact Nat.min_eq_left (by omega)
  refine ⟨by rw [hE, hL], ?_, ?_, ?_⟩
  · rw [hE]; unfold rung; exact Nat.mod_eq_of_lt (by omega)
  · rw [hE]; omega
  · rw [hE, U_rung _ _ (by omega) (.inr hlo), Nat.mul_assoc, ← Nat.pow_add]
    congr 2; omega
/-- A number of 53 digits or more: what stands for it is at most half of one of its last digits off. -/
theorem nearest_round (mag : Nat) (place : Int) (k d L : Nat) (hk : mag.log2 = k) (hd : k = 52 + d) (h0 : mag ≠ 0) (hL : place + (d : Int) + 1074 = (L : Int)) (h3 : place + k ≤ 1000) :
    ∃ K, double.nearest false mag place = L * 4503599627370496 + K ∧ rung (double.nearest false mag place) = double.nearest false mag place ∧ double.nearest false mag place < 9218868437227405312 ∧
      4503599627370496 ≤ K ∧ K ≤ 9007199254740992 ∧ U (double.nearest false mag place) = K * 2 ^ L ∧ 2 * mag ≤ 2 * (K * 2 ^ d) + 2 ^ d ∧ 2 * (K * 2 ^ d) ≤ 2 * mag + 2 ^ d := by
  have hb := log_bounds h0
  have hdl : d ≤ mag.log2 + 2 := by omega
  rw [hk, hd] at hb
  have e1 : max (place + (k : Int) - 52) (-1074) = place + d := by omega
  have e2 : (place - (place + (d : Int))).toNat = 0 := by omega
  have e3 : (place + (d : Int) - place).toNat = d := by omega
  have e4 : (place + (d : Int) + 1074).toNat = L := by omega
  have hc := cut_near false mag d hdl
  obtain ⟨K, hK⟩ : ∃ K, Toward.even.cut false mag d = K := ⟨_, rfl⟩
  rw [hK] at hc
  have hp := pow_pos3 d
  have hp1 : (2 : Nat) ^ (52 + d) = 4503599627370496 * 2 ^ d := by rw [Nat.pow_add]
  have hp2 : (2 : Nat) ^ (52 + d + 1) = 9007199254740992 * 2 ^ d := by rw [show 52 + d + 1 = 53 + d by omega, Nat.pow_add]
  rw [hp1, hp2] at hb
  have hlo : 4503599627370496 ≤ K := by
    apply Nat.le_of_not_lt
    intro h
    have h1 : (K + 1) * 2 ^ d ≤ 4503599627370496 * 2 ^ d := Nat.mul_le_mul_right _ (by omega)
    rw [Nat.add_mul] at h1
    omega
  have hhi : K ≤ 9007199254740992 := by
    apply Nat.le_of_not_lt
    intro h
    have h1 : (9007199254740992 + 1) * 2 ^ d ≤ K * 2 ^ d := Nat.mul_le_mul_right _ (by omega)
    rw [Nat.add_mul] at h1
    omega
  have hE : double.nearest false mag place = L * 4503599627370496 + K := by
    rw [nearest_pos mag place h0, hk, e1, e2, e3, e4, Nat.shiftLeft_zero, hK]
    exact Nat.min_eq_left (by omega)
  refine ⟨K, hE, ?_, ?_, hlo, hhi, ?_, hc⟩
  · rw [hE]; unfold rung; exact Nat.mod_eq_of_lt (by omega)
  · rw [hE]; omega
  · rw [hE, U_rung _ _ hhi (.inr hlo)]
end Go.Proofs.YtfcikfohmehmkaaGreatDoor.F

namespace Go.Proofs.YtfcikfohmehmkaaGreatDoor.F
set_option linter.unusedVariables false
open Ieee

/-- A word that stands for a number above 0 that is no small one: its digits. -/
theorem read_pos {x : Nat} (h1 : 4503599627370496 ≤ x) (h2 : x < 9218868437227405312) : ∃ (m k : Nat), double.read x = .number false m ((k : Int) - 1074) ∧ m * 2 ^ k = U x ∧ 4503599627370496 ≤ m ∧ m < 9007199254740992 := by
  have hr : rung x = x := Nat.mod_eq_of_lt (by omega)
  have hn : negB x = false := decide_eq_false (by omega)
  refine ⟨4503599627370496 + x % 4503599627370496, x / 4503599627370496 - 1, ?_, by unfold U; rw [if_neg (by omega)], by omega, by omega⟩
  unfold Format.read
  simp only [lit_sign, lit_binade, lit_inf, lit_least, neg_bit (show x < 18446744073709551616 by omega), hn]
  show (if rung x < 4503599627370496 then Datum.number false (rung x) (-1074) else if rung x < 9218868437227405312 then Datum.number false (4503599627370496 + rung x % 4503599627370496) (-1074 + ((rung x / 4503599627370496 - 1 : Nat) : Int)) else _) = _
  rw [hr, if_neg (by omega), if_pos h2]
  congr 1 <;> omega
/-- The place of the least number above 0, turned. -/
@[irreducible] def unitE : Nat := 1074
theorem unitE_is : unitE = 1074 := by unfold unitE; rfl
/-- A whole number as a float64: exact. -/
theorem whole_word (n : Nat) (h0 : n ≠ 0) (h : n < 9007199254740992) : 4503599627370496 ≤ double.nearest false n 0 ∧ double.nearest false n 0 < 9218868437227405312 ∧ U (double.nearest false n 0) = n * 2 ^ unitE := by
  have hl : n.log2 < 53 := (Nat.log2_lt h0).2 h
  obtain ⟨e, _, h2, h3⟩ := nearest_exact n 0 n.log2 rfl h0 (by omega) (by omega) (by omega)
  refine ⟨?_, h2, by rw [h3, show ((0 : Int) + 1074).toNat = unitE by rw [unitE_is]; rfl]⟩
  rw [e, show (0 + (n.log2 : Int) - 52 + 1074).toNat = n.log2 + 1022 by omega]
  generalize n * 2 ^ (52 - n.log2) = z
  generalize n.log2 = k
  omega
theorem read_1000 : double.read (double.nearest false 1000 0) = .number false 8796093022208000 (-43) := by decide +kernel
theorem pow_lt {a b : Nat} (h : 2 ^ a < 2 ^ b) : a < b := (Nat.pow_lt_pow_iff_right (by omega)).1 h
/-- A normal number, divided by 1000. -/
theorem quot_1000 (m i : Nat) (h1 : 4503599627370496 ≤ m) (h2 : m < 9007199254740992) : (Datum.number false m ((i : Int) - 1074)).quotient 54 (.number false 8796093022208000 (-43)) = some (.number false (2 * (m * 18014398509481984 / 8796093022208000) + (m * 18014398509481984 % 8796093022208000 != 0).toNat) ((i : Int) - 1086)) := by
  have hl : m.log2 = 52 := (Nat.log2_eq_iff (by omega)).2 ⟨h1, h2⟩
  have hk : Nat.log2 8796093022208000 = 52 := by decide +kernel
  have hs : m <<< 54 = m * 18014398509481984 := Nat.shiftLeft_eq ..
  unfold Datum.quotient
  simp only [hl, hk, hs]
  refine (if_neg (show ¬ (8796093022208000 = 0) by omega)).trans ?_
  rw [Bool.false_xor, show ((i : Int) - 1074 - -43 - ((54 + 52 - 52 : Nat) : Int) - 1) = (i : Int) - 1086 by omega]
/-- How far off the quotient is: less than one of 2^54. -/
theorem quot_near (m g b : Nat) (h1 : 4503599627370496 ≤ m) (h2 : m < 9007199254740992) (hg : 2 * (m * 18014398509481984 / 8796093022208000) + (m * 18014398509481984 % 8796093022208000 != 0).toNat = g) :
    g * 1000 ≤ m * 4096 + 2000 ∧ m * 4096 ≤ g * 1000 + 2000 ∧ 18014398509481984 ≤ g ∧ g < 72057594037927936 := by
  have hd := Nat.div_add_mod (m * 18014398509481984) 8796093022208000
  have hm := Nat.mod_lt (m * 18014398509481984) (show 0 < 8796093022208000 by omega)
  have hb : (m * 18014398509481984 % 8796093022208000 != 0).toNat ≤ 1 := by cases (m * 18014398509481984 % 8796093022208000 != 0) <;> decide
  generalize (m * 18014398509481984 % 8796093022208000 != 0).toNat = s at hg hb
  generalize m * 18014398509481984 / 8796093022208000 = q at hg hd
  generalize m * 18014398509481984 % 8796093022208000 = r at hd hm
  omega
theorem thou_arith {m g X D : Nat} (m1 : 4503599627370496 ≤ m) (b1 : g * 1000 ≤ m * 4096 + 2000) (b2 : m * 4096 ≤ g * 1000 + 2000) (k7 : 2 * g ≤ 2 * X + D) (k8 : 2 * X ≤ 2 * g + D) (hD : 4503599627370496 * D ≤ X) :
    X * 1000 * 4503599627370496 ≤ m * 4096 * 4503599627370497 ∧ m * 4096 * 4503599627370495 ≤ X * 1000 * 4503599627370496 := by omega
/-- A whole number divided by 1000: a normal number, at most one of 2^52 off. -/
theorem thou_div (n : Nat) (h0 : n ≠ 0) (h : n < 9007199254740992) : ∃ r, double.div (double.nearest false n 0) (double.nearest false 1000 0) = some r ∧ rung r = r ∧ 4503599627370496 ≤ r ∧ r < 9218868437227405312 ∧
    U r * 1000 * 4503599627370496 ≤ n * 2 ^ unitE * 4503599627370497 ∧ n * 2 ^ unitE * 4503599627370495 ≤ U r * 1000 * 4503599627370496 := by
  obtain ⟨w1, w2, w3⟩ := whole_word n h0 h
  obtain ⟨m, i, e1, e2, m1, m2⟩ := read_pos w1 w2
  rw [w3] at e2
  have hi1 : i < unitE + 1 := by
    have h1 : 2 ^ (52 + i) < 2 ^ (53 + unitE) := by
      rw [Nat.pow_add, Nat.pow_add]
      refine Nat.lt_of_le_of_lt (Nat.mul_le_mul_right _ m1) ?_
      rw [e2]
      exact Nat.mul_lt_mul_of_pos_right h (pow_pos3 _)
    have := pow_lt h1
    omega
  have hi2 : unitE < 53 + i := by
    refine pow_lt ?_
    rw [Nat.pow_add]
    refine Nat.lt_of_le_of_lt (?_ : _ ≤ m * 2 ^ i) (Nat.mul_lt_mul_of_pos_right m2 (pow_pos3 _))
    rw [e2]
    exact Nat.le_mul_of_pos_left _ (by omega)
  rw [unitE_is] at hi1 hi2
  obtain ⟨g, hg⟩ : ∃ g, 2 * (m * 18014398509481984 / 8796093022208000) + (m * 18014398509481984 % 8796093022208000 != 0).toNat = g := ⟨_, rfl⟩
  obtain ⟨b1, b2, b3, b4⟩ := quot_near m g 0 m1 m2 hg
  have hdiv : double.div (double.nearest false n 0) (double.nearest false 1000 0) = some (double.nearest false g ((i : Int) - 1086)) := by
    unfold Format.div
    rw [e1, read_1000]
    show ((Datum.number false m ((i : Int) - 1074)).quotient 54 (.number false 8796093022208000 (-43))).map double.write = _
    rw [quot_1000 m i m1 m2, hg]
    rfl
  obtain ⟨d, hd, hd3⟩ : ∃ d, g.log2 = 52 + d ∧ d ≤ 3 := by
    have l1 : 54 ≤ g.log2 := (Nat.le_log2 (by omega)).2 b3
    have l2 : g.log2 < 56 := (Nat.log2_lt (by omega)).2 b4
    exact ⟨g.log2 - 52, by omega, by omega⟩
  obtain ⟨K, k1, k2, k3, k4, k5, k6, k7, k8⟩ := nearest_round g ((i : Int) - 1086) _ d (i - 12 + d) hd rfl (by omega) (by omega) (by omega)
  obtain ⟨y, hy⟩ : ∃ y, i = y + 12 := ⟨i - 12, by omega⟩
  refine ⟨_, hdiv, k2, ?_, k3, ?_⟩
  · rw [k1]
    have : 1 ≤ i - 12 + d := by omega
    generalize i - 12 + d = L at this
    omega
  rw [k6, ← e2, show i - 12 + d = d + y by omega, Nat.pow_add, hy, Nat.pow_add, ← Nat.mul_assoc]
  have hD : 4503599627370496 * 2 ^ d ≤ K * 2 ^ d := Nat.mul_le_mul_right _ k4
  generalize K * 2 ^ d = X at k7 k8 hD
  generalize 2 ^ d = D at k7 k8 hD
  generalize 2 ^ y = Y
  obtain ⟨a1, a2⟩ := thou_arith m1 b1 b2 k7 k8 hD
  constructor
  · have := Nat.mul_le_mul_right Y a1
    rw [show (2 : Nat) ^ 12 = 4096 from rfl]
    calc X * Y * 1000 * 4503599627370496 = X * 1000 * 4503599627370496 * Y := by ac_rfl
      _ ≤ m * 4096 * 4503599627370497 * Y := this
      _ = m * (Y * 4096) * 4503599627370497 := by ac_rfl
  · have := Nat.mul_le_mul_right Y a2
    rw [show (2 : Nat) ^ 12 = 4096 from rfl]
    calc m * (Y * 4096) * 4503599627370495 = m * 4096 * 4503599627370495 * Y := by ac_rfl
      _ ≤ X * 1000 * 4503599627370496 * Y := this
      _ = X * Y * 1000 * 4503599627370496 := by ac_rfl
end Go.Proofs.YtfcikfohmehmkaaGreatDoor.F

namespace Go.Proofs.YtfcikfohmehmkaaGreatDoor
open Go.RowKit
open F
set_option linter.unusedVariables false

theorem ext_bits (x : Nat) (w : World) : (callFunc 180 #[.float .f64 x]).run Tryz.prog w = .ok (.value (.int .u64 x)) w := by
  rw [run_callFunc_extern (fn := Tryz.f180) (e := Extern.MathFloatBits.float64bits) (by kernel_rfl) (by kernel_rfl) (by kernel_rfl) (by kernel_rfl) (by kernel_rfl)]
  rfl
theorem ext_from (x : Nat) (w : World) : (callFunc 176 #[.int .u64 (x : Int)]).run Tryz.prog w = .ok (.value (.float .f64 x)) w := by
  rw [run_callFunc_extern (fn := Tryz.f176) (e := Extern.MathFloatBits.float64frombits) (by kernel_rfl) (by kernel_rfl) (by kernel_rfl) (by kernel_rfl) (by kernel_rfl)]
  rfl
/-- A plain answer; the world is as it was. -/
def Yes (w : World) (v : Value) (e : Ending) (w' : World) : Prop := e = .returned v ∧ w' = w
end Go.Proofs.YtfcikfohmehmkaaGreatDoor

namespace Go.Proofs.YtfcikfohmehmkaaGreatDoor.F
set_option linter.unusedVariables false
open Ieee

theorem word_no (r : Nat) : double.word false r = r := by unfold Format.word; rw [if_neg (by decide)]
theorem near_nought (neg : Bool) (place : Int) : double.nearest neg 0 place = double.word neg 0 := by unfold Format.nearest; rw [if_pos rfl]
end Go.Proofs.YtfcikfohmehmkaaGreatDoor.F

namespace Go.Proofs.YtfcikfohmehmkaaGreatDoor.F
set_option linter.unusedVariables false
open Ieee

theorem w_1000 : double.nearest false 1000 0 = 4652007308841189376 := by decide +kernel
/-- The word of thousandths. -/
def thouW (n : Nat) : Nat := if n = 0 then 0 else (double.div (double.nearest false n 0) (double.nearest false 1000 0)).getD 0
theorem ofint_nat (n : Nat) : floatOfInt .f64 (n : Int) = double.nearest false n 0 := by
  show double.nearest (decide ((n : Int) < 0)) (n : Int).natAbs 0 = _
  rw [decide_eq_false (by omega), Int.natAbs_natCast]
theorem thou_word {n : Nat} (h : n < 1000000000) : double.div (double.nearest false n 0) 4652007308841189376 = some (thouW n) ∧ thouW n < 9218868437227405312 ∧ (n ≠ 0 → 4503599627370496 ≤ thouW n) := by
  by_cases h0 : n = 0
  · subst h0
    rw [near_nought, word_no]
    refine ⟨by decide +kernel, by decide, fun h => absurd rfl h⟩
  · obtain ⟨r, h1, h2, h3, h4, _⟩ := thou_div n h0 (by omega)
    have e : thouW n = r := by unfold thouW; rw [if_neg h0, h1]; rfl
    rw [e, ← w_1000]
    exact ⟨h1, h4, fun _ => h3⟩
theorem thou_quo {n : Nat} (h : n < 1000000000) : floatBits .quo .f64 (floatOfInt .f64 (n : Int)) 4652007308841189376 = some (thouW n) := by
  rw [ofint_nat]; exact (thou_word h).1
/-- With the other sign. -/
def negW (x : Nat) : Nat := x ^^^ 9223372036854775808
theorem neg_parts {x : Nat} (hx : x < 18446744073709551616) : rung (negW x) = rung x ∧ negB (negW x) = !negB x ∧ negW x < 18446744073709551616 := by
  have e1 : (x ^^^ 2 ^ 63) % 2 ^ 63 = x % 2 ^ 63 := by rw [Nat.xor_mod_two_pow, Nat.mod_self, Nat.xor_zero]
  have e2 : (x ^^^ 2 ^ 63) / 2 ^ 63 = x / 2 ^ 63 ^^^ 1 := by rw [Nat.xor_div_two_pow, Nat.div_self (by omega)]
  have hn : negW x = x ^^^ 2 ^ 63 := rfl
  rw [← hn] at e1 e2
  have e3 : negW x % 9223372036854775808 = x % 9223372036854775808 := e1
  have e4 : negW x / 9223372036854775808 = x / 9223372036854775808 ^^^ 1 := e2
  have hq : x / 9223372036854775808 = 0 ∨ x / 9223372036854775808 = 1 := by omega
  unfold rung negB
  refine ⟨e3, ?_, ?_⟩
  · rcases hq with hq | hq
    · rw [hq] at e4
      have e5 : negW x / 9223372036854775808 = 1 := e4
      rw [decide_eq_true (by omega), decide_eq_false (by omega)]; rfl
    · rw [hq] at e4
      have e5 : negW x / 9223372036854775808 = 0 := e4
      rw [decide_eq_false (by omega), decide_eq_true (by omega)]; rfl
  · rcases hq with hq | hq
    · rw [hq] at e4
      have e5 : negW x / 9223372036854775808 = 1 := e4
      omega
    · rw [hq] at e4
      have e5 : negW x / 9223372036854775808 = 0 := e4
      omega
/-- What a text means: nothing, what is no number, or a word. -/
inductive RM where
  | no
  | nan
  | wd (x : Nat)
def posInf : Nat := 9218868437227405312
def negInf : Nat := 18442240474082181120
def readM (s : List UInt8) : RM :=
  if s = [110, 97, 110] then .nan else if s = [105, 110, 102] then .wd posInf else if s = [45, 105, 110, 102] then .wd negInf
  else if s.head? = some 45 then (match thoL s.tail with | none => .no | some n => .wd (negW (thouW n)))
  else match thoL s with | none => .no | some n => .wd (thouW n)
/-- A word, and whether there is one, are what a text means. -/
def ReadIs (s : List UInt8) (x : Nat) (ok : Bool) : Prop := x < 18446744073709551616 ∧ match readM s with
  | .no => x = 0 ∧ ok = false
  | .nan => nanB x = true ∧ ok = true
  | .wd y => x = y ∧ ok = true
end Go.Proofs.YtfcikfohmehmkaaGreatDoor.F

namespace Go.Proofs.YtfcikfohmehmkaaGreatDoor
open Go.RowKit
open F
open N (digB valL val_snoc val_lt)
set_option linter.unusedVariables false

/-- The digits ahead of place i are right ones. -/
structure F.At (L : List UInt8) (i : Nat) : Prop where
  pos : 1 ≤ i
  few : i ≤ 6
  len : i ≤ L.length
  dig : (L.take i).all digB = true
  head : ¬ (2 ≤ i ∧ L.head? = some 48)
theorem F.drop_at {L : List UInt8} {i : Nat} {c : UInt8} (hc : L[i]? = some c) : L.drop i = c :: L.drop (i + 1) := by
  obtain ⟨h1, h2⟩ := List.getElem?_eq_some_iff.1 hc
  rw [← List.getElem_cons_drop h1, h2]
theorem nanC (w : World) : Calls Tryz.prog 155 #[] w (Yes w (.float .f64 9221120237041090561)) := by
  have h : ∀ w : World, (callFunc 176 #[.int .u64 9221120237041090561]).run Tryz.prog w = .ok (.value (.float .f64 9221120237041090561)) w := fun w => ext_from 9221120237041090561 w
  go_enter Tryz.func155, Tryz.ntmps155
  go_wp2
  go_ret
  exact ⟨rfl, rfl⟩
theorem infC (w : World) : Calls Tryz.prog 156 #[.int .i64 1] w (Yes w (.float .f64 posInf)) := by
  have h : ∀ w : World, (callFunc 176 #[.int .u64 9218868437227405312]).run Tryz.prog w = .ok (.value (.float .f64 9218868437227405312)) w := fun w => ext_from 9218868437227405312 w
  go_enter Tryz.func156, Tryz.ntmps156
  go_wp2
  go_ret
  exact ⟨rfl, rfl⟩
theorem ninfC (w : World) : Calls Tryz.prog 156 #[.int .i64 (-1)] w (Yes w (.float .f64 negInf)) := by
  have h : ∀ w : World, (callFunc 176 #[.int .u64 18442240474082181120]).run Tryz.prog w = .ok (.value (.float .f64 18442240474082181120)) w := fun w => ext_from 18442240474082181120 w
  go_enter Tryz.func156, Tryz.ntmps156
  go_wp2
  go_ret
  exact ⟨rfl, rfl⟩
theorem at_of (q : ByteArray) (k : Nat) (h : k < q.size) : q.data.toList[k]? = some q[k] := by
  rw [List.getElem?_eq_getElem (by simpa using h)]; rfl
theorem digB_not {c : UInt8} (h : c.toNat < 48 ∨ 57 < c.toNat) : digB c = false := by
  unfold N.digB
  rcases h with h | h
  · rw [decide_eq_false (by omega)]; rfl
  · rw [decide_eq_false (show ¬ c.toNat ≤ 57 by omega), Bool.and_false]
theorem digB_yes {c : UInt8} (h : 48 ≤ c.toNat) (h2 : c.toNat ≤ 57) : digB c = true := by unfold N.digB; rw [decide_eq_true h, decide_eq_true h2]; rfl
theorem read_plain {s : List UInt8} (h1 : s ≠ [110, 97, 110]) (h2 : s ≠ [105, 110, 102]) (h3 : s ≠ [45, 105, 110, 102]) (h4 : s.head? ≠ some 45) : (thoL s = none → ReadIs s 0 false) ∧ ∀ n, n < 1000000000 → thoL s = some n → ReadIs s (thouW n) true := by
  have e : readM s = match thoL s with | none => .no | some n => .wd (thouW n) := by unfold readM; rw [if_neg h1, if_neg h2, if_neg h3, if_neg h4]; try (cases thoL s <;> rfl)
  refine ⟨fun h => ⟨by omega, ?_⟩, fun n hn h => ⟨by have := (thou_word hn).2.1; omega, ?_⟩⟩
  · rw [e, h]; exact ⟨rfl, rfl⟩
  · rw [e, h]; exact ⟨rfl, rfl⟩
theorem read_signed {s : List UInt8} (h1 : s ≠ [110, 97, 110]) (h2 : s ≠ [105, 110, 102]) (h3 : s ≠ [45, 105, 110, 102]) (h4 : s.head? = some 45) : (thoL s.tail = none → ReadIs s 0 false) ∧ ∀ n, n < 1000000000 → thoL s.tail = some n → ReadIs s (negW (thouW n)) true := by
  have e : readM s = match thoL s.tail with | none => .no | some n => .wd (negW (thouW n)) := by unfold readM; rw [if_neg h1, if_neg h2, if_neg h3, if_pos h4]; try (cases thoL s.tail <;> rfl)
  refine ⟨fun h => ⟨by omega, ?_⟩, fun n hn h => ⟨(neg_parts (show thouW n < 18446744073709551616 by have := (thou_word hn).2.1; omega)).2.2, ?_⟩⟩
  · rw [e, h]; exact ⟨rfl, rfl⟩
  · rw [e, h]; exact ⟨rfl, rfl⟩
end Go.Proofs.YtfcikfohmehmkaaGreatDoor

namespace Go.Proofs.YtfcikfohmehmkaaGreatDoor
open Go.RowKit
open F
set_option linter.unusedVariables false

theorem read_readB {s : List UInt8} {x : Nat} {ok : Bool} (h : ReadIs s x ok) : ok = C.readB s := by
  obtain ⟨_, h⟩ := h
  unfold readM at h
  unfold C.readB
  by_cases h1 : s = [110, 97, 110]
  · rw [if_pos h1] at h; rw [decide_eq_true h1]; exact h.2
  rw [if_neg h1] at h
  by_cases h2 : s = [105, 110, 102]
  · rw [if_pos h2] at h; rw [decide_eq_true h2, Bool.or_true]; exact h.2
  rw [if_neg h2] at h
  by_cases h3 : s = [45, 105, 110, 102]
  · rw [if_pos h3] at h; rw [decide_eq_true h3, Bool.or_true]; exact h.2
  rw [if_neg h3] at h
  rw [decide_eq_false h1, decide_eq_false h2, decide_eq_false h3, Bool.false_or, Bool.false_or, Bool.false_or]
  by_cases h4 : s.head? = some 45
  · rw [if_pos h4] at h; rw [if_pos h4]
    cases hh : thoL s.tail with
    | none => rw [hh] at h; exact h.2
    | some n => rw [hh] at h; exact h.2
  · rw [if_neg h4] at h; rw [if_neg h4]
    cases hh : thoL s with
    | none => rw [hh] at h; exact h.2
    | some n => rw [hh] at h; exact h.2
theorem beq_decW {x y : List UInt8} : (x == y) = decide (x = y) := by
  cases h : decide (x = y) with
  | true => exact beq_iff_eq.2 (of_decide_eq_true h)
  | false => exact beq_eq_false_iff_ne.2 (of_decide_eq_false h)
/-- The words of a path are short. -/
def ShortW (p : T.Pth) : Prop := ∀ x ∈ p, x.length ≤ 100
theorem cellS {w : World} {b o : Nat} {p : T.Pth} (h : Holds eS w b o p) {i : Nat} {x : List UInt8} (hx : p[i]? = some x) : w.cell? ⟨b, o + i, none⟩ = some (.string (sB x)) := by
  obtain ⟨h1, h2⟩ := List.getElem?_eq_some_iff.1 hx
  rw [← h2]; exact h.str h1
end Go.Proofs.YtfcikfohmehmkaaGreatDoor

namespace Go.Proofs.YtfcikfohmehmkaaGreatDoor
namespace C
open T (Pth pless RightN RightT pathL kidsL underL wd Ln isIn)
theorem out_off {Z : Nat} {t : List Ln} (h : RightN Z t) {x y : Wd} (hno : ¬ isIn t [wVnis, y, wSubnet]) : outP (pths t) x y = false := by
  unfold outP; rw [kids_off h (by simp) hno]
theorem out_bare {Z : Nat} {t : List Ln} (h : RightN Z t) {x y : Wd} {i : Nat} (hi : i < t.length) (hp : pathL t i = [wVnis, y, wSubnet]) (hk : kidsL t i = []) : outP (pths t) x y = false := by
  unfold outP; rw [← hp, kids_pths h hi, hk]; rfl
theorem out_kid {Z : Nat} {t : List Ln} (h : RightN Z t) {x y : Wd} {i k : Nat} {r : List Nat} (hi : i < t.length) (hp : pathL t i = [wVnis, y, wSubnet]) (hk : kidsL t i = k :: r) : outP (pths t) x y = (decide (0 ≤ (N.prefL (wd t k)).1) && !N.inB (N.prefL (wd t k)).1 (N.prefL (wd t k)).2 (N.ipL x)) := by
  unfold outP; rw [← hp, kids_pths h hi, hk, List.map_cons]
  have e : (pathL t k).getLastD [] = wd t k := by
    rw [kid_path (i := i) (by rw [hk]; exact List.mem_cons_self)]
    simp
  simp only [e]
theorem twice_is {Z : Nat} {t : List Ln} (h : RightN Z t) {i : Nat} (hi : i < t.length) (x : Wd) : twiceP (pths t) (pathL t i) x = (List.range i).any fun j => sameAd x (pathL t j) := by
  unfold twiceP pths
  rw [List.any_map, Bool.eq_iff_iff, List.any_eq_true, List.any_eq_true]
  constructor
  · rintro ⟨j, hj, e⟩
    have hj := List.mem_range.1 hj
    simp only [Function.comp_apply, Bool.and_eq_true] at e
    refine ⟨j, List.mem_range.2 ?_, e.2⟩
    rcases Nat.lt_trichotomy j i with k | k | k
    · exact k
    · subst k; rw [T.pless_irr] at e; cases e.1
    · have := h.path_less (i := i) j k hj
      rw [T.pless_asymm this] at e; cases e.1
  · rintro ⟨j, hj, e⟩
    have hj := List.mem_range.1 hj
    refine ⟨j, List.mem_range.2 (by omega), ?_⟩
    simp only [Function.comp_apply, Bool.and_eq_true]
    exact ⟨h.path_less (i := j) i hj hi, e⟩
theorem any_next (f : Nat → Bool) (k : Nat) : (List.range (k + 1)).any f = ((List.range k).any f || f k) := by
  rw [List.range_succ, List.any_append]; simp
end C
open Go.RowKit
open F
set_option linter.unusedVariables false

theorem path_short {Z : Nat} {t : List T.Ln} (h : T.RightN Z t) : ∀ (n i : Nat), i ≤ n → i < t.length → ∀ x ∈ T.pathL t i, x.length ≤ 40
  | n, i, hn, hi, x, hx => by
    rw [T.path_under t i] at hx
    rcases List.mem_append.1 hx with hx | hx
    · have hlt := T.under_lt t i
      by_cases h0 : T.underL t i < 0
      · rw [show T.underL t i = -1 by omega, T.pathI_none] at hx; cases hx
      · obtain ⟨j, hj⟩ := Int.eq_ofNat_of_zero_le (show 0 ≤ T.underL t i by omega)
        rw [hj, T.pathI_nat] at hx
        match n with
        | 0 => omega
        | n + 1 => exact path_short h n j (by omega) (by omega) x hx
    · rw [List.mem_singleton.1 hx]; exact h.long i hi
theorem findN13 {Z : Nat} (A B : Option Addr) (c d n m : Nat) (t : List T.Ln) (p : T.Pth) (w : World) (hn : t.length = n) (hm : p.length = m) (hA : Seen eL w A t) (hB : Seen eS w B p) (hl : n ≤ 1073741824) (hl2 : m ≤ 1073741824) (hR : T.RightN Z t) :
    Calls Tryz.prog 23 #[.slice A n c, .slice B m d] w (fun e w' => ((∃ i : Nat, i < t.length ∧ T.pathL t i = p ∧ e = .returned (.int .i64 (i : Int))) ∨ ((∀ i, i < t.length → T.pathL t i ≠ p) ∧ e = .returned (.int .i64 (-1)))) ∧ Below w.heap.size w w') := by
  subst hn; subst hm; exact refFind_any A B c d t p w hA hB hl hl2 hR
theorem pathN13 {Z : Nat} (A : Option Addr) (c n : Nat) (t : List T.Ln) (i : Nat) (w : World) (hn : t.length = n) (hA : Seen eL w A t) (hi : i < n) (hl : n ≤ 1073741824) (hR : T.RightN Z t) :
    Calls Tryz.prog 22 #[.slice A n c, .int .i64 i] w (FreshP w (T.pathL t i)) := by subst hn; exact refPath_new A c t i w hA hl hi hR
theorem endN13 (A : Option Addr) (c n : Nat) (t : List T.Ln) (i : Nat) (w : World) (hn : t.length = n) (hA : Seen eL w A t) (hi : i < n) (hl : n ≤ 1073741824) :
    Calls Tryz.prog 24 #[.slice A n c, .int .i64 i] w (IntS w (T.endL t i : Nat)) := by subst hn; exact refEnd_any A c t i w hA hi hl
theorem short_path {Z : Nat} {t : List T.Ln} (h : T.RightN Z t) {i : Nat} (hi : i < t.length) : ShortW (T.pathL t i) := fun x hx => Nat.le_trans (path_short h i i (Nat.le_refl _) hi x hx) (by omega)
end Go.Proofs.YtfcikfohmehmkaaGreatDoor

namespace Go.Proofs.YtfcikfohmehmkaaGreatDoor
open Go.RowKit
open F
set_option linter.unusedVariables false
set_option linter.unusedSimpArgs false

open Go.Region in
/-- 'wpAnyH_take', the operation's own slot named. -/
theorem takeD13 {P : Program} {ops : Array Oper} {Q : Exit → Act → World → Prop} {md : Region.Mode} {S : World → Prop} {i : Nat} {oi : Oper} {v : Value} {d : Option Nat} {fuel : Nat} {listed : Array Bool} {a : Act} {w : World} (hi : ops[i]? = some oi) (hd : oi.dst = d)
    (hs : Region.noSelect ops = true) (hf : free md ops listed i = true) (hr : (Region.ready md ops listed).contains i = true)
    (hQ : ∀ c a w, Q (.panic c) (a.put d v) w → Q (.panic c) a w) (hy : YieldsIf P ops S oi v a) (hS : S w)
    (h : wpAnyH P md ops Q S fuel (listed.setIfInBounds i true) (a.put d v) w) : wpAnyH P md ops Q S (fuel + 1) listed a w := by
  subst hd; exact wpAnyH_take hi hs hf hr hQ hy hS h
end Go.Proofs.YtfcikfohmehmkaaGreatDoor
