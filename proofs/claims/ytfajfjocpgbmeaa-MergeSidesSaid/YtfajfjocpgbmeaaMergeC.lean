/-
  What the library proves once of slices.SortFunc at elements of one cell, at this program's numbers; paths, in the order that slices.Compare says. Condition: at most 2^30 paths, each of at most 2^30 words.
-/
import Derived.Shelf.SlSortCmp.Whole1
import Derived.Test.YtfajfjocpgbmeaaMergeB
namespace Go.Proofs.Ytfajfjocpgbmeaa
open Go.Shelf Go.RowKit
set_option linter.unusedVariables false

def renPaths : Go.Shelf.Ren := ⟨fun | 6 => 39 | 14 => 57 | 15 => 58 | 20 => 64 | 21 => 65 | 22 => 66 | 23 => 67 | 24 => 68 | 25 => 69 | 26 => 70 | 27 => 71 | 28 => 72 | 29 => 73 | 46 => 78 | 47 => 79 | 48 => 80 | 49 => 81 | 50 => 82 | 57 => 86 | n => n, fun | 0 => 0 | 3 => 3 | 4 => 4 | 5 => 5 | 9 => 9 | 22 => 25 | 24 => 36 | 25 => 68 | 39 => 82 | 45 => 86 | 46 => 87 | 50 => 39 | 53 => 93 | 55 => 95 | 66 => 101 | 70 => 105 | 76 => 108 | 77 => 98 | n => n, fun n => n⟩
theorem laysPaths : Go.Proofs.SlLaysF.n6 Try.prog renPaths := {
  mixed := by kernel_rfl
  f6 := ⟨Try.f39.name, by decide, Try.func39.trans (congrArg some (by kernel_rfl))⟩
  f14 := ⟨Try.f57.name, by decide, Try.func57.trans (congrArg some (by kernel_rfl))⟩
  f15 := Try.func58.trans (congrArg some (by kernel_rfl))
  f20 := ⟨Try.f64.name, by decide, Try.func64.trans (congrArg some (by kernel_rfl))⟩
  f21 := ⟨Try.f65.name, by decide, Try.func65.trans (congrArg some (by kernel_rfl))⟩
  f22 := ⟨Try.f66.name, by decide, Try.func66.trans (congrArg some (by kernel_rfl))⟩
  f23 := ⟨Try.f67.name, by decide, Try.func67.trans (congrArg some (by kernel_rfl))⟩
  f24 := ⟨Try.f68.name, by decide, Try.func68.trans (congrArg some (by kernel_rfl))⟩
  f25 := ⟨Try.f69.name, by decide, Try.func69.trans (congrArg some (by kernel_rfl))⟩
  f26 := ⟨Try.f70.name, by decide, Try.func70.trans (congrArg some (by kernel_rfl))⟩
  f27 := ⟨Try.f71.name, by decide, Try.func71.trans (congrArg some (by kernel_rfl))⟩
  f28 := Try.func72.trans (congrArg some (by kernel_rfl))
  f29 := Try.func73.trans (congrArg some (by kernel_rfl))
  f46 := ⟨Try.f78.name, by decide, Try.func78.trans (congrArg some (by kernel_rfl))⟩
  f47 := Try.func79.trans (congrArg some (by kernel_rfl))
  f48 := Try.func80.trans (congrArg some (by kernel_rfl))
  f49 := ⟨Try.f81.name, by decide, Try.func81.trans (congrArg some (by kernel_rfl))⟩
  f50 := ⟨Try.f82.name, by decide, Try.func82.trans (congrArg some (by kernel_rfl))⟩
  f57 := ⟨Try.f86.name, by decide, Try.func86.trans (congrArg some (by kernel_rfl))⟩
  t0 := Try.underlying0
  a0 := Try.isAgg0
  z0 := Try.sizeOf0
  v0 := Try.zeroValue0
  t3 := Try.underlying3
  a3 := Try.isAgg3
  z3 := Try.sizeOf3
  v3 := Try.zeroValue3
  t4 := Try.underlying4
  a4 := Try.isAgg4
  z4 := Try.sizeOf4
  v4 := Try.zeroValue4
  t5 := Try.underlying5
  a5 := Try.isAgg5
  z5 := Try.sizeOf5
  v5 := Try.zeroValue5
  t9 := Try.underlying9
  a9 := Try.isAgg9
  z9 := Try.sizeOf9
  v9 := Try.zeroValue9
  t22 := Try.underlying25
  a22 := Try.isAgg25
  z22 := Try.sizeOf25
  v22 := Try.zeroValue25
  a24 := Try.isAgg36
  z24 := Try.sizeOf36
  t25 := Try.underlying68
  a25 := Try.isAgg68
  z25 := Try.sizeOf68
  v25 := Try.zeroValue68
  t39 := Try.underlying82
  a39 := Try.isAgg82
  z39 := Try.sizeOf82
  v39 := Try.zeroValue82
  t45 := Try.underlying86
  a45 := Try.isAgg86
  z45 := Try.sizeOf86
  v45 := Try.zeroValue86
  t46 := Try.underlying87
  a46 := Try.isAgg87
  z46 := Try.sizeOf87
  v46 := Try.zeroValue87
  t50 := Try.underlying39
  a50 := Try.isAgg39
  z50 := Try.sizeOf39
  v50 := Try.zeroValue39
  t53 := Try.underlying93
  a53 := Try.isAgg93
  z53 := Try.sizeOf93
  v53 := Try.zeroValue93
  t55 := Try.underlying95
  a55 := Try.isAgg95
  z55 := Try.sizeOf95
  v55 := Try.zeroValue95
  t66 := Try.underlying101
  a66 := Try.isAgg101
  z66 := Try.sizeOf101
  v66 := Try.zeroValue101
  t70 := Try.underlying105
  a70 := Try.isAgg105
  z70 := Try.sizeOf105
  v70 := Try.zeroValue105
  t76 := Try.underlying108
  a76 := Try.isAgg108
  z76 := Try.sizeOf108
  v76 := Try.zeroValue108
  t77 := Try.underlying98
  a77 := Try.isAgg98
  z77 := Try.sizeOf98
  v77 := Try.zeroValue98 }
end Go.Proofs.Ytfajfjocpgbmeaa

namespace Go.Proofs.Ytfajfjocpgbmeaa
open Go.RowKit
set_option linter.unusedVariables false

/-- A path's slice, as it lies in the world w, outside the block g. -/
def ElP (w : World) (g : Nat) (x : PtM × T.Pth) : Prop := PtO w g x ∧ x.1.n ≤ 1073741824
abbrev ElQ (w : World) (g : Nat) : Type := { x : PtM × T.Pth // ElP w g x }
def encQ (w : World) (g : Nat) (x : ElQ w g) : Value := .slice x.1.1.A x.1.1.n x.1.1.c
def cfQ (w : World) (g : Nat) (x y : ElQ w g) : Int := cmpP x.1.2 y.1.2
theorem ltQ (w : World) (g : Nat) (x y : ElQ w g) : ltOf (cfQ w g) x y = T.pless x.1.2 y.1.2 := by
  unfold ltOf cfQ
  rw [Bool.eq_iff_iff, decide_eq_true_iff]; exact cmpP_neg _ _
theorem swoQ (w : World) (g : Nat) : Go.Sort.SWO (ltOf (cfQ w g)) where
  irrefl x := by rw [ltQ]; exact T.pless_irr _
  trans x y z h1 h2 := by rw [ltQ] at *; exact T.pless_trans _ _ _ h1 h2
  ntrans x y z h1 h2 := by
    rw [ltQ] at *
    cases h : T.pless x.1.2 z.1.2 with
    | false => rfl
    | true =>
      rcases T.pless_tri x.1.2 y.1.2 with h3 | h3 | h3
      · rw [h1] at h3; cases h3
      · rw [← h3, h] at h2; cases h2
      · rcases T.pless_tri y.1.2 z.1.2 with h4 | h4 | h4
        · rw [h2] at h4; cases h4
        · rw [h4] at h3; rw [T.pless_asymm h3] at h; cases h
        · have := T.pless_trans _ _ _ h4 h3; rw [T.pless_asymm this] at h; cases h
section
variable {α : Type} [Inhabited α]
theorem sort1_block (enc : α → Value) (w : World) (g m : Nat) (dk : Array α) (os : Array Obj) (c : Nat) (hc : c ≠ g) (hl : c < w.heap.size) : (sortWorld enc w g 0 m dk os).heap[c]? = w.heap[c]? := by
  unfold sortWorld
  rw [Go.Sort.heap_grow_old _ _ (by rw [Go.Sort.size_putRow]; exact hl)]
  show (w.heap.modify g _)[c]? = _
  rw [Array.getElem?_modify, if_neg (by omega)]
theorem sort1_size (enc : α → Value) (w : World) (g m : Nat) (dk : Array α) (os : Array Obj) : w.heap.size ≤ (sortWorld enc w g 0 m dk os).heap.size := by
  unfold sortWorld
  rw [Go.Sort.size_grow, Go.Sort.size_putRow]
  exact Nat.le_add_right _ _
theorem sort1_but (enc : α → Value) (w : World) (g m : Nat) (dk : Array α) (os : Array Obj) : But g w (sortWorld enc w g 0 m dk os) := ⟨rfl, rfl, rfl, sort1_size _ _ _ _ _ _, fun k hk hne => sort1_block enc w g m dk os k hne hk⟩
theorem sort1_row (enc : α → Value) (w : World) (g m : Nat) (dk : Array α) (os : Array Obj) (cur : Array Value) (ty : TypeId) (h : w.heap[g]? = some (.cells cur ty)) : (sortWorld enc w g 0 m dk os).heap[g]? = some (.cells (Go.Sort.putCells enc 0 dk cur) ty) := by
  have hlt := (Array.getElem?_eq_some_iff.1 h).1
  unfold sortWorld
  rw [Go.Sort.heap_grow_old _ _ (by rw [Go.Sort.size_putRow]; exact hlt)]
  show (w.heap.modify g _)[g]? = _
  rw [Array.getElem?_modify, if_pos rfl, h]
  rfl
end
/-- What slices.SortFunc leaves of X in the block g. -/
def SortS (w : World) (g : Nat) (X : List (PtM × T.Pth)) (e : Ending) (w' : World) : Prop :=
  ∃ Y : List (PtM × T.Pth), e = .returned (.tuple #[]) ∧ Y.Perm X ∧ T.RiseP (Y.map Prod.snd) ∧ RowAt w' g (Y.map Prod.fst) ∧ But g w w'
theorem sortP_any (g cap n : Nat) (X : List (PtM × T.Pth)) (w : World) (hn : X.length = n) (h0 : 0 < n) (hl : n ≤ 1073741824) (hR : RowAt w g (X.map Prod.fst)) (hO : ∀ x ∈ X, PtO w g x) (hs : ∀ x ∈ X, x.1.n ≤ 1073741824) :
    Calls Try.prog 39 #[.slice (some ⟨g, 0, none⟩) n cap, .func (.func 40) #[] #[]] w (SortS w g X) := by
  have ok : ∀ i (h : i < X.length), ElP w g X[i] := fun i h => ⟨hO _ (List.getElem_mem h), hs _ (List.getElem_mem h)⟩
  haveI : Inhabited (ElQ w g) := ⟨⟨_, ok 0 (by omega)⟩⟩
  obtain ⟨d, hd⟩ : ∃ d : Array (ElQ w g), d = Array.ofFn fun i : Fin X.length => ⟨X[i.1], ok i.1 i.2⟩ := ⟨_, rfl⟩
  have hsz : d.size = n := by rw [hd]; simp [hn]
  have hget : ∀ i (h : i < X.length), (d[i]'(by omega)).1 = X[i] := fun i h => by subst hd; simp
  have hgetb : ∀ i (h : i < X.length), (d[i]!).1 = X[i] := fun i h => by rw [getElem!_pos d i (by omega)]; exact hget i h
  obtain ⟨cur, ty, hblk, hcl, hcs⟩ := hR
  have hgw := (Array.getElem?_eq_some_iff.1 hblk).1
  rw [List.length_map] at hcl
  have hH : Go.Sort.Holds (encQ w g) w g 0 d := by
    intro j hj
    have hjX : j < X.length := by omega
    have h3 := hcs j (by rw [List.length_map]; exact hjX)
    refine ⟨?_, Lib.frozen_of_heap hblk _⟩
    unfold encQ
    rw [hgetb j hjX]
    simp only [List.getElem_map] at h3
    simp [World.cell?, hblk, h3]
  have eg : ∀ args w, (callFunc 40 args).run Try.prog w = .ok (.enter 40 args) w := enters_of Try.func40 (by kernel_rfl) rfl
  have hcmp : CmpLays1 Try.prog 40 #[] (encQ w g) (cfQ w g) g 0 d.size w := by
    intro m os dk _ x y
    obtain ⟨⟨x, p⟩, x1, x2⟩ := x
    obtain ⟨⟨y, q⟩, y1, y2⟩ := y
    have hb := sort1_but (encQ w g) w g m dk os
    have hx := (x1.but hb).pt
    have hy := (y1.but hb).pt
    have hxn := hx.len
    have hyn := hy.len
    simp only at x2 y2 hxn hyn
    have h := compare_any x.A y.A x.c y.c p q (sortWorld (encQ w g) w g 0 m dk os) hx.seen hy.seen (by omega) (by omega)
    rw [hxn, hyn] at h
    refine h.mono ?_
    rintro e w' ⟨rfl, rfl⟩
    exact ⟨rfl, 0, #[], by rw [Go.Sort.grow_empty]; rfl⟩
  have h1c : OneCell (encQ w g) := fun x => rfl
  have hcon := Any.slices_SortFunc (P := Try.prog) (ρ := renPaths) laysPaths (encQ w g) h1c (cfQ w g) (swoQ w g) 40 #[] g 0 cap d w eg hcmp hH hgw (by omega)
  rw [hsz] at hcon
  refine hcon.mono ?_
  rintro e w' ⟨he, d', m, os, hp, hso, rfl⟩
  have hsz' : d'.size = n := by rw [hp.1, hsz]
  have ext : ∀ (x : Array (ElQ w g)), x.size = n → (x.extract 0 n).toList = x.toList := fun x hx => by rw [← hx]; simp
  have hperm : d'.toList.Perm d.toList := by
    have h := hp.2.2
    rwa [ext d' hsz', ext d hsz] at h
  have hmapX : d.toList.map (·.1) = X := by
    refine List.ext_getElem (by rw [List.length_map, show d.toList.length = n from (Array.length_toList (xs := d)).trans hsz]; omega) fun i h1 h2 => ?_
    simp only [List.getElem_map, Array.getElem_toList]
    exact hget i h2
  have hl' : d'.toList.length = n := (Array.length_toList (xs := d')).trans hsz'
  refine ⟨d'.toList.map (·.1), he, by rw [← hmapX]; exact hperm.map _, ?_, ?_, sort1_but _ _ _ _ _ _⟩
  · unfold T.RiseP
    rw [List.map_map]
    refine List.pairwise_iff_getElem.2 fun i j hi hj hij => ?_
    simp only [List.length_map] at hi hj
    have h := hso i j (Nat.zero_le _) hij (by omega)
    rw [ltQ, getElem!_pos d' j (by omega), getElem!_pos d' i (by omega)] at h
    simp only [List.getElem_map, Array.getElem_toList, Function.comp]
    exact h
  · refine ⟨_, ty, sort1_row _ _ _ _ _ _ _ _ hblk, ?_, fun j hj => ?_⟩
    · rw [List.length_map, List.length_map, hl']
      simp [Go.Sort.putCells]; omega
    · simp only [List.length_map] at hj
      have hjd : j < d'.size := by omega
      have hjc : j < cur.size := by omega
      rw [Go.Sort.putCells, Array.getElem?_mapIdx, Array.getElem?_eq_getElem hjc]
      simp only [Option.map_some, List.getElem_map, Array.getElem_toList]
      rw [if_pos (by omega), Nat.sub_zero, getElem!_pos d' j hjd]
      rfl
end Go.Proofs.Ytfajfjocpgbmeaa

