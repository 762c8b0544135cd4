/-
  What the library proves once of slices.SortFunc at structs, at this program's numbers. No conditions.
  Contract of layer 5's use of slices.SortFunc: the statements, in the order of their paths. Condition: at most 200 statements.
  Contract of layer 5's inOrder: the lines of what was found, in the order of their paths. Condition: at most 200 statements, each with a path of one word at least.
-/
import Derived.Shelf.SlSortCmp.NoneTotal
import Derived.Test.YtjgogjamkbmcjaaParseC

namespace Go.Proofs.Ytjgogjamkbmcjaa
open Go.Shelf Go.RowKit

def renSort : Go.Shelf.Ren := ⟨fun | 6 => 44 | 14 => 64 | 15 => 65 | 20 => 77 | 21 => 78 | 22 => 79 | 23 => 80 | 24 => 81 | 25 => 82 | 26 => 83 | 27 => 84 | 28 => 85 | 29 => 86 | 46 => 95 | 47 => 96 | 48 => 97 | 49 => 98 | 50 => 99 | 57 => 102 | n => n, fun | 0 => 0 | 3 => 3 | 4 => 4 | 5 => 5 | 9 => 9 | 22 => 48 | 24 => 84 | 25 => 86 | 39 => 104 | 45 => 112 | 46 => 113 | 50 => 71 | 53 => 119 | 55 => 121 | 66 => 126 | 70 => 130 | 76 => 134 | 77 => 135 | n => n, fun n => n⟩
theorem laysSort : Go.Proofs.SlLaysF0.n6 Try.prog renSort := {
  mixed := by kernel_rfl
  f6 := ⟨Try.f44.name, by decide, Try.func44.trans (congrArg some (by kernel_rfl))⟩
  f14 := ⟨Try.f64.name, by decide, Try.func64.trans (congrArg some (by kernel_rfl))⟩
  f15 := Try.func65.trans (congrArg some (by kernel_rfl))
  f20 := ⟨Try.f77.name, by decide, Try.func77.trans (congrArg some (by kernel_rfl))⟩
  f21 := ⟨Try.f78.name, by decide, Try.func78.trans (congrArg some (by kernel_rfl))⟩
  f22 := ⟨Try.f79.name, by decide, Try.func79.trans (congrArg some (by kernel_rfl))⟩
  f23 := ⟨Try.f80.name, by decide, Try.func80.trans (congrArg some (by kernel_rfl))⟩
  f24 := ⟨Try.f81.name, by decide, Try.func81.trans (congrArg some (by kernel_rfl))⟩
  f25 := ⟨Try.f82.name, by decide, Try.func82.trans (congrArg some (by kernel_rfl))⟩
  f26 := ⟨Try.f83.name, by decide, Try.func83.trans (congrArg some (by kernel_rfl))⟩
  f27 := ⟨Try.f84.name, by decide, Try.func84.trans (congrArg some (by kernel_rfl))⟩
  f28 := Try.func85.trans (congrArg some (by kernel_rfl))
  f29 := Try.func86.trans (congrArg some (by kernel_rfl))
  f46 := ⟨Try.f95.name, by decide, Try.func95.trans (congrArg some (by kernel_rfl))⟩
  f47 := Try.func96.trans (congrArg some (by kernel_rfl))
  f48 := Try.func97.trans (congrArg some (by kernel_rfl))
  f49 := ⟨Try.f98.name, by decide, Try.func98.trans (congrArg some (by kernel_rfl))⟩
  f50 := ⟨Try.f99.name, by decide, Try.func99.trans (congrArg some (by kernel_rfl))⟩
  f57 := ⟨Try.f102.name, by decide, Try.func102.trans (congrArg some (by kernel_rfl))⟩
  t0 := Try.underlying0
  a0 := Try.isAgg0
  z0 := Try.sizeOf0
  v0 := Try.zeroValue0
  t3 := Try.underlying3
  a3 := Try.isAgg3
  z3 := Try.sizeOf3
  v3 := Try.zeroValue3
  t4 := Try.underlying4
  a4 := Try.isAgg4
  z4 := Try.sizeOf4
  v4 := Try.zeroValue4
  t5 := Try.underlying5
  a5 := Try.isAgg5
  z5 := Try.sizeOf5
  v5 := Try.zeroValue5
  t9 := Try.underlying9
  a9 := Try.isAgg9
  z9 := Try.sizeOf9
  v9 := Try.zeroValue9
  t22 := Try.underlying48
  a22 := Try.isAgg48
  z22 := Try.sizeOf48
  v22 := Try.zeroValue48
  t25 := Try.underlying86
  a25 := Try.isAgg86
  z25 := Try.sizeOf86
  v25 := Try.zeroValue86
  t39 := Try.underlying104
  a39 := Try.isAgg104
  z39 := Try.sizeOf104
  v39 := Try.zeroValue104
  t45 := Try.underlying112
  a45 := Try.isAgg112
  z45 := Try.sizeOf112
  v45 := Try.zeroValue112
  t46 := Try.underlying113
  a46 := Try.isAgg113
  z46 := Try.sizeOf113
  v46 := Try.zeroValue113
  t50 := Try.underlying71
  a50 := Try.isAgg71
  z50 := Try.sizeOf71
  v50 := Try.zeroValue71
  t53 := Try.underlying119
  a53 := Try.isAgg119
  z53 := Try.sizeOf119
  v53 := Try.zeroValue119
  t55 := Try.underlying121
  a55 := Try.isAgg121
  z55 := Try.sizeOf121
  v55 := Try.zeroValue121
  t66 := Try.underlying126
  a66 := Try.isAgg126
  z66 := Try.sizeOf126
  v66 := Try.zeroValue126
  t70 := Try.underlying130
  a70 := Try.isAgg130
  z70 := Try.sizeOf130
  v70 := Try.zeroValue130
  t76 := Try.underlying134
  a76 := Try.isAgg134
  z76 := Try.sizeOf134
  v76 := Try.zeroValue134
  t77 := Try.underlying135
  a77 := Try.isAgg135
  z77 := Try.sizeOf135
  v77 := Try.zeroValue135 }
end Go.Proofs.Ytjgogjamkbmcjaa

namespace Go.Proofs.Ytjgogjamkbmcjaa
open Go.RowKit

/-- A statement, with its path, as it lies in the world w, outside the block blk. -/
def ElOk (w : World) (blk : Nat) (x : Stm × T.Pth) : Prop := x.1.b ≠ blk ∧ x.1.b < w.heap.size ∧ x.2.length = x.1.n ∧ x.2.length ≤ 16 ∧ Holds eS w x.1.b 0 x.2
abbrev El (w : World) (blk : Nat) : Type := { x : Stm × T.Pth // ElOk w blk x }
def encM (w : World) (blk : Nat) (x : El w blk) : List Value := eM.C x.1.1
def cfM (w : World) (blk : Nat) (x y : El w blk) : Int := cmpP x.1.2 y.1.2
theorem ltM (w : World) (blk : Nat) (x y : El w blk) : ltOf (cfM w blk) x y = T.pless x.1.2 y.1.2 := by
  unfold ltOf cfM
  rw [Bool.eq_iff_iff, decide_eq_true_iff]; exact cmpP_neg _ _
theorem swoM (w : World) (blk : Nat) : Go.Sort.SWO (ltOf (cfM w blk)) where
  irrefl x := by rw [ltM]; exact T.pless_irr _
  trans x y z h1 h2 := by rw [ltM] at *; exact T.pless_trans _ _ _ h1 h2
  ntrans x y z h1 h2 := by
    rw [ltM] at *
    cases h : T.pless x.1.2 z.1.2 with
    | false => rfl
    | true =>
      rcases T.pless_tri x.1.2 y.1.2 with h3 | h3 | h3
      · rw [h1] at h3; cases h3
      · rw [← h3, h] at h2; cases h2
      · rcases T.pless_tri y.1.2 z.1.2 with h4 | h4 | h4
        · rw [h2] at h4; cases h4
        · rw [h4] at h3; rw [T.pless_asymm h3] at h; cases h
        · have := T.pless_trans _ _ _ h4 h3; rw [T.pless_asymm this] at h; cases h

/-- The closure of inOrder, in whatever world. -/
theorem order_any (x y : Stm) (p q : T.Pth) (w : World) (hx : x.b < w.heap.size) (hy : y.b < w.heap.size) (hp : Holds eS w x.b 0 p) (hq : Holds eS w y.b 0 q) (lx : p.length = x.n) (ly : q.length = y.n) (dx : p.length ≤ 16) (dy : q.length ≤ 16) :
    Calls Try.prog 45 #[.agg #[.slice (some ⟨x.b, 0, none⟩) x.n x.cap, .int .i64 x.mark], .agg #[.slice (some ⟨y.b, 0, none⟩) y.n y.cap, .int .i64 y.mark]] w (fun e w' => e = .returned (.int .i64 (cmpP p q)) ∧ ∃ n os, w' = Go.Sort.grow (w.drewN n) os) := by
  have hb1 : Below w.heap.size w (w.alloc (.cells #[.slice (some ⟨x.b, 0, none⟩) x.n x.cap, .int .i64 x.mark] 84)) := (Below.refl _ _).alloc (Nat.le_refl _) _
  have hb2 : Below w.heap.size w ((w.alloc (.cells #[.slice (some ⟨x.b, 0, none⟩) x.n x.cap, .int .i64 x.mark] 84)).alloc (.cells #[.slice (some ⟨y.b, 0, none⟩) y.n y.cap, .int .i64 y.mark] 84)) := hb1.alloc (by simp) _
  have hc := compare_any (some ⟨x.b, 0, none⟩) (some ⟨y.b, 0, none⟩) x.cap y.cap p q _ ((Holds.seen hp hx).below hb2) ((Holds.seen hq hy).below hb2) (by omega) (by omega)
  rw [lx, ly] at hc
  clear hp hq hb1 hb2
  go_enter Try.func45, Try.ntmps45
  go_wp2_with fail
  refine hc.mono ?_
  rintro e w2 ⟨rfl, rfl⟩
  go_wp2
  go_ret
  exact ⟨rfl, 0, _, by rw [Go.Sort.alloc_eq_grow, Go.Sort.alloc_eq_grow, Go.Sort.grow_grow]; rfl⟩

section
variable {α : Type} [Inhabited α]
theorem sortW_cell (enc : α → List Value) (k : Nat) (w : World) (blk off m : Nat) (dk : Array α) (os : Array Obj) (c j : Nat) (hc : c ≠ blk) (hl : c < w.heap.size) : (sortWorldK enc k w blk off m dk os).cell? ⟨c, j, none⟩ = w.cell? ⟨c, j, none⟩ := by
  unfold sortWorldK
  rw [Go.Sort.cell?_grow _ _ _ (by rw [Go.Sort.size_putRowK]; exact hl), Go.Sort.cell?_putRowK_other enc k _ blk off dk _ hc]
  rfl
theorem sortW_below (enc : α → List Value) (k : Nat) (w : World) (blk off m : Nat) (dk : Array α) (os : Array Obj) (g : Nat) (hg : g ≤ blk) (hb : blk < w.heap.size) : Below g w (sortWorldK enc k w blk off m dk os) := by
  refine ⟨rfl, rfl, rfl, size_sortWorldK_c enc k w blk off m dk os, fun c hc => ?_⟩
  unfold sortWorldK
  rw [Go.Sort.heap_grow_old _ _ (by rw [Go.Sort.size_putRowK]; show c < w.heap.size; omega)]
  show (w.heap.modify blk _)[c]? = _
  rw [Array.getElem?_modify, if_neg (by omega)]
end
/-- The statements of vf, in order. -/
structure SortedS (w' : World) (vf : Value) (F : List (T.Pth × Int)) (l : List (Stm × T.Pth)) : Prop where
  seen : ∃ A cap, vf = .slice A l.length cap ∧ Seen eM w' A (l.map (·.1))
  each : ∀ x ∈ l, x.1.b < w'.heap.size ∧ x.2.length = x.1.n ∧ x.2 ≠ [] ∧ x.2.length ≤ 16 ∧ Holds eS w' x.1.b 0 x.2
  perm : (l.map fun x => (x.2, x.1.mark)).Perm F
  order : l.Pairwise fun x y => T.pless y.2 x.2 = false

theorem sortFunc_any (g : Nat) (vf : Value) (L : List Stm) (F : List (T.Pth × Int)) (w : World) (hF : Found w g vf L F) (hlen : F.length ≤ 200) (hne : ∀ x ∈ F, x.1 ≠ []) :
    Calls Try.prog 44 #[vf, .func (.func 45) #[] #[]] w (fun e w' => e = .returned (.tuple #[]) ∧ (∃ l, SortedS w' vf F l) ∧ Below g w w') := by
  obtain ⟨A, cap, rfl, hcap, hS⟩ := hF.own.seen
  have hl := hF.len
  by_cases h0 : L.length = 0
  · have hn := AnyF.slices_SortFunc_none (P := Try.prog) (ρ := renSort) laysSort A cap (.func (.func 45) #[] #[]) w
    rw [h0]
    refine hn.mono ?_
    rintro e w' ⟨he, rfl⟩
    have hF0 : F = [] := List.eq_nil_of_length_eq_zero (by omega)
    subst hF0
    exact ⟨he, ⟨[], ⟨⟨A, cap, rfl, Seen.nil⟩, (fun x hx => by cases hx), List.Perm.nil, List.Pairwise.nil⟩⟩, Below.refl _ _⟩
  · obtain ⟨b, rfl, hbg, hbw, hH⟩ := hF.own.block (by omega)
    have ok : ∀ i (h : i < L.length), ElOk w b (L[i], (F[i]'(by omega)).1) := fun i h => by
      have hs := hF.each i h (by omega)
      exact ⟨fun e => hs.apart (by rw [e]; rfl), hs.lt, hs.len, hs.deep, hs.holds⟩
    haveI : Inhabited (El w b) := ⟨⟨_, ok 0 (by omega)⟩⟩
    obtain ⟨d, hd⟩ : ∃ d : Array (El w b), d = Array.ofFn fun i : Fin L.length => ⟨(L[i], (F[i.1]'(by omega)).1), ok i.1 i.2⟩ := ⟨_, rfl⟩
    have hsz : d.size = L.length := by rw [hd]; simp
    have hget : ∀ i (h : i < L.length), (d[i]'(by omega)).1 = (L[i], (F[i]'(by omega)).1) := fun i h => by subst hd; simp
    have hgetb : ∀ i (h : i < L.length), (d[i]!).1 = (L[i], (F[i]'(by omega)).1) := fun i h => by rw [getElem!_pos d i (by omega)]; exact hget i h
    have hfz : ∀ j, w.frozen? ⟨b, j, none⟩ = false := fun j => by
      rcases hF.own.2 with ⟨e, _⟩ | ⟨g2, c2, cur, e, _, hh, _⟩
      · cases e
      · injection e with e; injection e with e; injection e with e
        subst e
        exact Lib.frozen_of_heap hh j
    have hHK : Go.Sort.HoldsK (encM w b) 2 w b 0 d := by
      intro j hj
      rw [Go.Sort.size_flatK, hsz] at hj
      refine ⟨?_, by rw [Nat.zero_add]; exact hfz j⟩
      rw [Go.Sort.get_flatK _ _ _ _ (by rw [hsz]; exact hj)]
      have hi : j / 2 < L.length := by omega
      have hj2 : j % 2 < 2 := Nat.mod_lt _ (by decide)
      have := hH (j / 2) hi (j % 2) ((eM.C L[j / 2])[j % 2]'(by rw [eM.len]; exact hj2)) (List.getElem?_eq_getElem _)
      rw [show 0 + j / 2 * eM.sz + j % 2 = 0 + j by show 0 + j / 2 * 2 + j % 2 = 0 + j; omega] at this
      rw [this]
      have e2 : encM w b d[j / 2]! = eM.C L[j / 2] := by unfold encM; rw [hgetb _ hi]
      rw [e2, getElem!_pos _ _ (by rw [eM.len]; exact hj2)]
      rfl
    have eg : ∀ args w, (callFunc 45 args).run Try.prog w = .ok (.enter 45 args) w := enters_of Try.func45 (by kernel_rfl) rfl
    have hcmp : CmpLays Try.prog 45 #[] (encM w b) 2 (cfM w b) b 0 d.size w := by
      intro m os dk _ x y
      obtain ⟨⟨x, p⟩, x1, x2, x3, x4, x5⟩ := x
      obtain ⟨⟨y, q⟩, y1, y2, y3, y4, y5⟩ := y
      have hws := size_sortWorldK_c (encM w b) 2 w b 0 m dk os
      simp only at x1 x2 x3 x4 x5 y1 y2 y3 y4 y5
      exact order_any x y p q _ (by omega) (by omega) (fun i hi j u hu => by rw [sortW_cell _ _ _ _ _ _ _ _ _ _ x1 x2]; exact x5 i hi j u hu) (fun i hi j u hu => by rw [sortW_cell _ _ _ _ _ _ _ _ _ _ y1 y2]; exact y5 i hi j u hu) x3 y3 x4 y4
    have hcon := AnyQ.slices_SortFunc (P := Try.prog) (ρ := renSort) laysSort 2 Try.isAgg84 Try.sizeOf84 (encM w b) (fun x => eM.len x.1.1) (fun x => eM.one x.1.1) (cfM w b) (swoM w b) 45 #[] b 0 cap d w eg hcmp hHK hbw (by omega)
    rw [hsz] at hcon
    refine hcon.mono ?_
    rintro e w' ⟨he, d', n, os, hp, hs, rfl⟩
    have hsz' : d'.size = L.length := by rw [hp.1, hsz]
    have ext : ∀ (x : Array (El w b)), x.size = L.length → (x.extract 0 L.length).toList = x.toList := fun x hx => by
      rw [← hx]; simp
    have hperm : d'.toList.Perm d.toList := by
      have := hp.2.2
      rwa [ext d' hsz', ext d hsz] at this
    have hmapF : d.toList.map (fun x => (x.1.2, x.1.1.mark)) = F := by
      refine List.ext_getElem (by rw [List.length_map, show d.toList.length = L.length from (Array.length_toList (xs := d)).trans hsz]; exact hl) fun i h1 h2 => ?_
      have hi : i < L.length := by omega
      have hg := hget i hi
      have hm := (hF.each i hi (by omega)).mark
      simp only [List.getElem_map, Array.getElem_toList]
      rw [hg]
      show (F[i].1, L[i].mark) = F[i]
      rw [hm]
    have hpF : (d'.toList.map fun x => (x.1.2, x.1.1.mark)).Perm F := by rw [← hmapF]; exact hperm.map _
    have hHK' := holdsK_sortWorldK_c (encM w b) 2 w b 0 d d' n os hHK hbw (by omega)
    have hws := size_sortWorldK_c (encM w b) 2 w b 0 n d' os
    refine ⟨he, ⟨d'.toList.map (·.1), ⟨⟨some ⟨b, 0, none⟩, cap, by rw [List.length_map, show d'.toList.length = L.length from (Array.length_toList (xs := d')).trans hsz'], fun _ => ⟨b, 0, rfl, by omega, fun i hi j u hu => ?_⟩⟩, fun x hx => ?_, ?_, ?_⟩⟩, sortW_below _ _ _ _ _ _ _ _ g (by omega) hbw⟩
    · have hi2 : i < d'.size := by simpa using hi
      have hj : j < 2 := by
        have := (List.getElem?_eq_some_iff.1 hu).1
        rw [eM.len] at this; exact this
      show (sortWorldK (encM w b) 2 w b 0 n d' os).cell? ⟨b, 0 + i * 2 + j, none⟩ = some u
      rw [(Go.Sort.HoldsK.cell hHK' hi2 hj).1]
      have e2 : encM w b d'[i]! = eM.C ((d'.toList.map (·.1)).map (·.1))[i] := by
        unfold encM; rw [getElem!_pos d' i hi2]; simp
      rw [e2]
      rw [List.getElem?_eq_getElem (by rw [eM.len]; exact hj)] at hu
      rw [getElem!_pos _ _ (by rw [eM.len]; exact hj)]
      exact hu
    · obtain ⟨y, hy, rfl⟩ := List.mem_map.1 hx
      obtain ⟨y1, y2, y3, y4, y5⟩ := y.2
      have hm : ((fun x : El w b => (x.1.2, x.1.1.mark)) y) ∈ F := hpF.mem_iff.1 (List.mem_map.2 ⟨y, hy, rfl⟩)
      exact ⟨by omega, y3, hne _ hm, y4, fun i hi j u hu => by rw [sortW_cell _ _ _ _ _ _ _ _ _ _ y1 y2]; exact y5 i hi j u hu⟩
    · rw [List.map_map]; exact hpF
    · rw [List.pairwise_map, List.pairwise_iff_getElem]
      intro i j hi hj hij
      rw [Array.length_toList] at hi hj
      have := hs i j (Nat.zero_le _) hij (by omega)
      rw [ltM, getElem!_pos d' i hi, getElem!_pos d' j hj] at this
      simpa using this
end Go.Proofs.Ytjgogjamkbmcjaa

namespace Go.Proofs.Ytjgogjamkbmcjaa
open Go.RowKit

theorem ofP_next (G : List (T.Pth × Int)) (k : Nat) (h : k < G.length) : T.ofP (G.take (k + 1)) = T.ofP (G.take k) ++ [T.lnOf G[k]] := by
  unfold T.ofP
  rw [List.take_succ_eq_append_getElem h, List.map_append]; rfl
theorem lnOf_at (p : T.Pth) (m : Int) (n : Nat) (h : p.length = n + 1) : T.lnOf (p, m) = ⟨(n : Int), p[n]'(by omega), m⟩ := by
  unfold T.lnOf
  have e : p.getLastD [] = p[n]'(by omega) := by
    have h2 : p[p.length - 1]? = some (p[n]'(by omega)) := by
      have h3 : p.length - 1 = n := by omega
      rw [h3]; exact List.getElem?_eq_getElem (by omega)
    rw [List.getLastD_eq_getLast?, List.getLast?_eq_getElem?, h2]; rfl
  rw [e]
  congr 1
  simp [h]
/-- What inOrder leaves: the lines of F's paths, in order. -/
def OrderS (w : World) (g : Nat) (F : List (T.Pth × Int)) (e : Ending) (w' : World) : Prop :=
  ∃ (G : List (T.Pth × Int)) (A : Option Addr) (cap : Nat), G.Perm F ∧ (G.Pairwise fun x y => T.pless y.1 x.1 = false) ∧ e = .returned (.slice A (T.ofP G).length cap) ∧ (T.ofP G).length ≤ cap ∧ Seen eL w' A (T.ofP G) ∧ Below g w w'

set_option maxRecDepth 100000 in
set_option maxHeartbeats 2000000 in
theorem inOrder_any (g : Nat) (vf : Value) (L : List Stm) (F : List (T.Pth × Int)) (w : World) (hF : Found w g vf L F) (hlen : F.length ≤ 200) (hne : ∀ x ∈ F, x.1 ≠ []) (hg : g ≤ w.heap.size) :
    Calls Try.prog 23 #[vf] w (OrderS w g F) := by
  have hs := sortFunc_any g vf L F w hF hlen hne
  obtain ⟨B, capB, rfl, _, _⟩ := hF.own.seen
  clear hF
  go_enter Try.func23, Try.ntmps23
  go_wp2_with fail
  refine hs.mono ?_
  rintro e w1 ⟨rfl, ⟨l, hS⟩, hb1⟩
  obtain ⟨A, cap, hv, hSeen⟩ := hS.seen
  injection hv with hv1 hv2 hv3
  subst hv1; subst hv3
  obtain ⟨G, hG⟩ : ∃ G, l.map (fun x => (x.2, x.1.mark)) = G := ⟨_, rfl⟩
  have hGl : G.length = l.length := by rw [← hG, List.length_map]
  have hl200 : l.length ≤ 200 := by have := hS.perm.length_eq; rw [List.length_map] at this; omega
  have hs1 := hb1.size
  have HS := Lib.hid hS
  have HV := Lib.hid hv2
  have HG := Lib.hid hG
  have HGL := Lib.hid hGl
  have HSN := Lib.hid hSeen
  clear hS hv2 hG hGl hSeen
  rw [HV.out]
  go_wp2
  go_loopg [3, 11] l.length (fun gk v i wr => ∃ k : Nat, Hid (k + gk = l.length) ∧ k ≤ l.length ∧ i = .int .i64 k ∧ Own eL wr w1.heap.size v (T.ofP (G.take k)) ∧ Below w1.heap.size w1 wr)
  case atStart => exact ⟨0, Nat.zero_add _, Nat.zero_le _, rfl, Own.nil _ _, Below.refl _ _⟩
  case round =>
    obtain ⟨k, HK, hk, rfl, hown, hb⟩ := hrel
    by_cases hlt : k < l.length
    · have blt : decide ((k : Int) < (l.length : Int)) = true := decide_eq_true (by omega)
      obtain ⟨b1, o1, rfl, hw1, hL1⟩ := HSN.out (by simpa using (show 0 < l.length by omega))
      obtain ⟨c0, c1⟩ := (hL1.below hb hw1).stm (i := k) (by simpa using hlt)
      simp only [List.getElem_map] at c0 c1
      obtain ⟨e1, e2, e3, e4, e5⟩ := HS.out.each l[k] (List.getElem_mem hlt)
      have hGk : G[k]'(by have := HGL.out; omega) = (l[k].2, l[k].1.mark) := by have := HG.out; subst this; simp
      obtain ⟨⟨x, p⟩, hx⟩ : ∃ x, l[k] = x := ⟨_, rfl⟩
      rw [hx] at c0 c1 e1 e2 e3 e4 e5 hGk
      simp only at c0 c1 e1 e2 e3 e4 e5 hGk
      obtain ⟨n, hn⟩ : ∃ n, p.length = n + 1 := ⟨p.length - 1, by have := List.length_pos_iff.2 e3; omega⟩
      have hpn : n < p.length := by omega
      have hnext := ofP_next G k (by have := HGL.out; omega)
      rw [hGk, lnOf_at p x.mark n hn] at hnext
      have c2 := ((e5.below hb e1).str hpn)
      rw [Nat.zero_add] at c2
      have hbb := hb.size
      have hxr : x.b < wr.heap.size := by omega
      rw [show x.n = n + 1 by omega] at c0
      have hb2 : Below wr.heap.size wr (wr.alloc (.cells #[.slice (some ⟨x.b, 0, none⟩) (n + 1) x.cap, .int .i64 x.mark] 84)) := (Below.refl _ _).alloc (Nat.le_refl _) _
      have c3 := (hb2.cell (p := ⟨x.b, n, none⟩) hxr).trans c2
      have w1' : IntKind.i64.wrap (n : Int) = (n : Int) := wrapI _ (by omega)
      have hlt1 : (n : Int) < (n : Int) + 1 := by omega
      have HN := Lib.hid hnext
      have HO := Lib.hid hown
      have hsz2 : w1.heap.size ≤ (wr.alloc (.cells #[.slice (some ⟨x.b, 0, none⟩) (n + 1) x.cap, .int .i64 x.mark] 84)).heap.size := by simp; omega
      have hal : (T.ofP (G.take k)).length + 1 ≤ 1099511627776 := by rw [T.ofP_len, List.length_take]; omega
      clear hL1 e1 e2 e3 e4 e5 hnext hGk hx hown
      go_wp2
      go_region_law (refine step_appG eL (wr.alloc (.cells #[.slice (some ⟨x.b, 0, none⟩) (n + 1) x.cap, .int .i64 x.mark] 84)) rfl (.tmp 19) (.tmp 29) rfl w1.heap.size _ (T.ofP (G.take k)) rfl (HO.out.alloc _) ⟨(n : Int), p[n], x.mark⟩ 1 _ rfl (wr.heap.size + 1) (by simp) rfl hal hsz2 ?_; intro v2 w3 hown3 hb3)
      all_goals
        go_wp2
        go_roundg (l.length - (k + 1))
        case rel => exact ⟨k + 1, (by show _ = _; omega), by omega, by go_num, by rw [HN.out]; exact hown3, (hb.trans (hb2.mono hbb)).trans hb3⟩
        case measure => have := HK.out; omega
    · have blt : decide ((k : Int) < (l.length : Int)) = false := decide_eq_false (by omega)
      have hG2 : G.take k = G := List.take_of_length_le (by have := HGL.out; omega)
      rw [hG2] at hown
      obtain ⟨A2, cap2, rfl, hcap2, hS2⟩ := hown.seen
      have hp := HS.out.perm
      have ho : G.Pairwise fun x y => T.pless y.1 x.1 = false := by
        have := HG.out; subst this; rw [List.pairwise_map]; exact HS.out.order
      rw [HG.out] at hp
      clear hown hG2
      go_wp2
      go_ret
      exact ⟨G, A2, cap2, hp, ho, rfl, hcap2, hS2, hb1.trans (hb.mono (by omega))⟩
end Go.Proofs.Ytjgogjamkbmcjaa
