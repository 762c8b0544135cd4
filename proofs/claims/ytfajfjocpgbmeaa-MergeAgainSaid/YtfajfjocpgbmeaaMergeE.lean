/-
  merge's paths: all paths of the trees that are handed over, in order, none twice. Condition: three trees.
-/
import Derived.Shelf.SlSortCmp.NoneTotal
import Derived.Test.YtfajfjocpgbmeaaMergeD
namespace Go.Proofs.Ytfajfjocpgbmeaa
open Go.RowKit
set_option linter.unusedVariables false

/-- A tree that is handed over. -/
structure VA where
  A : Option Addr
  n : Nat
  c : Nat
  t : List T.Ln
/-- It lies in the world w, and in each cell of the block g in order. -/
structure VArg (w : World) (g : Nat) (V : List VA) : Prop where
  lt : g < w.heap.size
  cell : ∀ i v, V[i]? = some v → w.cell? ⟨g, i, none⟩ = some (.slice v.A v.n v.c)
  arg : ∀ v ∈ V, TArg w v.A v.c v.n v.t
  right : ∀ v ∈ V, T.RightT v.t
/-- The paths of some trees, one behind the other. -/
def flatP (V : List VA) : List T.Pth := V.flatMap fun v => T.pathsL v.t
theorem flat_next (V : List VA) {i : Nat} {v : VA} (h : V[i]? = some v) : flatP (V.take (i + 1)) = flatP (V.take i) ++ T.pathsL v.t := by
  obtain ⟨h1, h2⟩ := List.getElem?_eq_some_iff.1 h
  unfold flatP
  rw [List.take_succ_eq_append_getElem h1, List.flatMap_append, h2]; simp
/-- Paths, none twice, in memory that is new since the world w0. -/
structure RowN (w0 w : World) (A : Option Addr) (Y : List (PtM × T.Pth)) : Prop where
  row : 0 < Y.length → ∃ g, A = some ⟨g, 0, none⟩ ∧ w0.heap.size ≤ g ∧ RowAt w g (Y.map Prod.fst)
  pts : ∀ y ∈ Y, PtS w y.1 y.2
  young : ∀ y ∈ Y, ∀ a, y.1.A = some a → w0.heap.size ≤ a.block
/-- What merge's paths answers. -/
def PathsS (w : World) (L : List T.Pth) (e : Ending) (w' : World) : Prop :=
  ∃ (Y : List (PtM × T.Pth)) (A : Option Addr) (cap : Nat), e = .returned (.slice A Y.length cap) ∧ Y.map Prod.snd = L ∧ RowN w w' A Y ∧ Below w.heap.size w w'

/-- The end of merge's paths: sorted, and squeezed. -/
theorem sorted_any (w0 : World) (A : Option Addr) (cap n : Nat) (X : List (PtM × T.Pth)) (w : World) (hn : X.length = n) (hl : n ≤ 1073741824) (hown : OwnN w w0.heap.size (.slice A n cap) X) (hs : ∀ x ∈ X, x.1.n ≤ 1073741824) (hb : Below w0.heap.size w0 w) (L : List T.Pth) (hL : ∀ l : List T.Pth, T.RiseP l → l.Perm (X.map Prod.snd) → T.sqT l = L) :
    Calls Try.prog 39 #[.slice A n cap, .func (.func 40) #[] #[]] w (fun e w' => e = .returned (.tuple #[]) ∧
      Calls Try.prog 41 #[.slice A n cap, .func (.func 42) #[] #[]] w' (fun e w'' => ∃ (Y : List (PtM × T.Pth)), e = .returned (.slice A Y.length cap) ∧ Y.map Prod.snd = L ∧ RowN w0 w'' A Y ∧ Below w0.heap.size w0 w'')) := by
  by_cases h0 : n = 0
  · subst h0
    have hX : X = [] := List.eq_nil_of_length_eq_zero hn
    subst hX
    have hsort := AnyF.slices_SortFunc_none (P := Try.prog) (ρ := renPaths) { laysPaths with } A cap (.func (.func 40) #[] #[]) w
    refine hsort.mono ?_
    rintro e w' ⟨rfl, rfl⟩
    refine ⟨rfl, (compact_none A cap _ w').mono ?_⟩
    rintro e w'' ⟨rfl, rfl⟩
    have hL0 := hL [] List.Pairwise.nil List.Perm.nil
    exact ⟨[], rfl, hL0, ⟨(fun h => absurd h (Nat.lt_irrefl 0)), (fun y hy => by cases hy), (fun y hy => by cases hy)⟩, hb⟩
  · have hcap : n ≤ cap := by
      obtain ⟨A2, c2, e, h1, _⟩ := hown.own.seen
      injection e with _ e2 e3
      rw [List.length_map] at e2 h1
      omega
    obtain ⟨g, rfl, hbg, hgw, _⟩ := hown.own.block (by rw [List.length_map]; omega)
    have hR := RowAt.of hown.own
    have hO : ∀ x ∈ X, PtO w g x := fun x hx => ⟨hown.pts x hx, fun hp a ha e => hown.aside x hx hp a ha (by rw [e]; rfl)⟩
    refine (sortP_any g cap n X w hn (by omega) hl hR hO hs).mono ?_
    rintro e w' ⟨Y, rfl, hperm, hrise, hR2, hB⟩
    have hO2 : ∀ y ∈ Y, PtO w' g y := fun y hy => (hO y (hperm.mem_iff.1 hy)).but hB
    refine ⟨rfl, (compact_any g cap n Y w' (hperm.length_eq.trans hn) hcap hl hR2 hO2 (fun y hy => hs y (hperm.mem_iff.1 hy))).mono ?_⟩
    rintro e w'' ⟨Z, rfl, hsq, hlen, hsub, hR3, hB2⟩
    refine ⟨Z, rfl, ?_, ⟨(fun _ => ⟨g, rfl, hbg, hR3⟩), (fun z hz => ((hO2 z (hsub z hz)).but hB2).pt), (fun z hz => hown.young z (hperm.mem_iff.1 (hsub z hz)))⟩, hb.trans ((hB.and hB2).fore hbg hb.size)⟩
    rw [hsq]
    exact hL _ hrise (hperm.map _)

set_option maxRecDepth 100000 in
set_option maxHeartbeats 4000000 in
theorem paths_any (gv : Nat) (V : List VA) (w : World) (L : List T.Pth) (hV : VArg w gv V) (h3 : V.length = 3) (hL : ∀ l : List T.Pth, T.RiseP l → l.Perm (flatP V) → T.sqT l = L) :
    Calls Try.prog 23 #[.slice (some ⟨gv, 0, none⟩) 3 3] w (PathsS w L) := by
  have HV := Lib.hid hV
  have H3 := Lib.hid h3
  have HL := Lib.hid hL
  clear hV h3 hL
  go_enter Try.func23, Try.ntmps23
  go_wp2
  go_loopg [3, 11] 3 (fun gk v3 vi wr => ∃ (i : Nat) (Ao : Option Addr) (co : Nat) (X : List (PtM × T.Pth)), Hid (i + gk = 3) ∧ i ≤ 3 ∧ vi = .int .i64 (i : Int) ∧ v3 = .slice Ao X.length co ∧ Hid (OwnN wr w.heap.size (.slice Ao X.length co) X) ∧ Hid (X.map Prod.snd = flatP (V.take i)) ∧ Hid (X.length ≤ 200 * i) ∧ Hid (∀ x ∈ X, x.1.n ≤ 1073741824) ∧ Below w.heap.size w wr)
  case atStart => exact ⟨0, none, 0, [], Nat.zero_add _, Nat.zero_le _, rfl, rfl, OwnN.zero _ _, rfl, Nat.le_refl _, (fun x hx => by cases hx), Below.refl _ _⟩
  case round =>
    obtain ⟨i, Ao, co, X, HG, hi, rfl, rfl, HOW, HE, HLE, HS, hb⟩ := hrel
    by_cases hlt : i < 3
    · have blt : decide ((i : Int) < 3) = true := decide_eq_true (by omega)
      have blt2 : decide (i < 3) = true := decide_eq_true hlt
      have hii : (i : Int) < 3 := by omega
      obtain ⟨v, hv⟩ : ∃ v, V[i]? = some v := ⟨_, List.getElem?_eq_getElem (by have := H3.out; omega)⟩
      have hvm := List.mem_of_getElem? hv
      have hc0 := (hb.cell (p := ⟨gv, i, none⟩) HV.out.lt).trans (HV.out.cell i v hv)
      have HFN := Lib.hid (flat_next V hv)
      have ha := HV.out.arg v hvm
      have hr := HV.out.right v hvm
      obtain ⟨A, n, c, t⟩ := v
      have HA : Hid (TArg w A c n t) := ha
      have HR : Hid (T.RightT t) := hr
      replace HFN : Hid (flatP (V.take (i + 1)) = flatP (V.take i) ++ T.pathsL t) := HFN
      simp only at hc0
      have hn200 : n ≤ 200 := by rw [← HA.out.hn]; exact HR.out.len
      have hb0 : decide ((i : Int) < 0) = false := decide_eq_false (by omega)
      have hgk := HG.out
      obtain ⟨x0, hx0⟩ : ∃ x0, X.length = x0 := ⟨_, rfl⟩
      have HX0 := Lib.hid hx0
      have hx600 : x0 ≤ 600 := by have := HLE.out; omega
      clear hv hvm ha hr hx0
      go_wp2
      go_loopg [3, 17] n (fun gk v3 vi wr => ∃ (j : Nat) (Ao : Option Addr) (co : Nat) (Z : List (PtM × T.Pth)), Hid (j + gk = n) ∧ j ≤ n ∧ vi = .int .i64 (j : Int) ∧ v3 = .slice Ao Z.length co ∧ Hid (OwnN wr w.heap.size (.slice Ao Z.length co) Z) ∧ Hid (Z.map Prod.snd = flatP (V.take i) ++ (T.pathsL t).take j) ∧ Hid (Z.length = x0 + j) ∧ Hid (∀ x ∈ Z, x.1.n ≤ 1073741824) ∧ Below w.heap.size w wr)
      case atStart => exact ⟨0, Ao, co, X, Nat.zero_add _, Nat.zero_le _, rfl, rfl, HOW.out, (by show _ = _; rw [List.take_zero, List.append_nil]; exact HE.out), HX0.out, HS.out, hb⟩
      case round =>
        obtain ⟨j, Ao2, co2, Z, HG2, hj, rfl, rfl, HOW2, HE2, HLE2, HS2, hb2⟩ := hrel
        by_cases hlt2 : j < n
        · have blt3 : decide ((j : Int) < (n : Int)) = true := decide_eq_true (by omega)
          have blt4 : decide (j < n) = true := decide_eq_true hlt2
          have hji : (j : Int) < (n : Int) := by omega
          have hjT : j < t.length := by have := HA.out.hn; omega
          obtain ⟨P, hP⟩ : ∃ P, T.pathL t j = P := ⟨_, rfl⟩
          have hdeep := S.RightN.path_deep HR.out hjT
          have HPN := Lib.hid (paths_next t hjT)
          rw [hP] at hdeep HPN
          obtain ⟨q, hq⟩ : ∃ q, P.length = q + 1 := ⟨P.length - 1, by omega⟩
          have hq16 : q + 1 ≤ 16 := by omega
          have HP := Lib.hid hP
          have HQ := Lib.hid hq
          have hgk2 := HG2.out
          have hz := HLE2.out
          have hz2 : Z.length + 1 ≤ 1099511627776 := by omega
          clear hP hq hdeep hz
          go_wp2_with fail
          refine (pathN A c n j q t P _ (HA.out.below hb2) hlt2 HR.out HP.out HQ.out).mono ?_
          rintro e w1 ⟨pb, po, pc, rfl, hpc, hnew, hpb, hH, hx⟩
          have HOW3 := Lib.hid (HOW2.out.kept hx)
          have hb3 := bthen hb2 hx
          have HPT := Lib.hid (show PtS w1 ⟨some ⟨pb, po, none⟩, q + 1, pc⟩ P from ⟨HQ.out, hpc, hH.seen hpb⟩)
          have HYG := Lib.hid (show ∀ a, (some ⟨pb, po, none⟩ : Option Addr) = some a → w.heap.size ≤ a.block from fun a ha => by injection ha with ha; rw [← ha]; exact Nat.le_trans hb2.size hnew)
          have HFR := Lib.hid (show FreeQ (.slice Ao2 Z.length co2) ⟨some ⟨pb, po, none⟩, q + 1, pc⟩ P from HOW2.out.born (Nat.le_refl _) (fun a ha => by
            have ha2 : (some ⟨pb, po, none⟩ : Option Addr) = some a := ha
            injection ha2 with ha2; rw [← ha2]; exact hnew))
          clear hH
          go_wp2_with (at_builtin; refine wpList_appN w1 rfl (.tmp 26) (.tmp 28) rfl w.heap.size (.slice Ao2 Z.length co2) Z rfl HOW3.out P ⟨some ⟨pb, po, none⟩, q + 1, pc⟩ HPT.out HFR.out HYG.out 1 _ rfl w1.heap.size rfl rfl hz2 hb3.size ?_; intro v4 w4 hown4 hb4)
          obtain ⟨A4, c4, hv4, _⟩ := hown4.own.seen
          rw [List.length_map] at hv4
          subst hv4
          have HOW4 := Lib.hid hown4
          have hb5 := hb3.trans hb4
          clear hown4
          go_wp2
          go_roundg (n - (j + 1))
          case rel => exact ⟨j + 1, A4, c4, Z ++ [((⟨some ⟨pb, po, none⟩, q + 1, pc⟩ : PtM), P)], (by show _ = _; omega), by omega, by go_num, rfl, HOW4.out, (by show _ = _; rw [List.map_append, HE2.out, HPN.out, List.append_assoc]; rfl), (by show _ = _; rw [List.length_append, HLE2.out]; rfl), (fun x hx => by
            rcases List.mem_append.1 hx with h | h
            · exact HS2.out x h
            · rw [List.mem_singleton.1 h]; show q + 1 ≤ _; omega), hb5⟩
          case measure => omega
        · have blt3 : decide ((j : Int) < (n : Int)) = false := decide_eq_false (by omega)
          have blt4 : decide (j < n) = false := decide_eq_false hlt2
          have HE3 := Lib.hid (show Z.map Prod.snd = flatP (V.take (i + 1)) by
            rw [HE2.out, HFN.out, paths_all t (by have := HA.out.hn; omega)])
          have HLE3 := Lib.hid (show Z.length ≤ 200 * (i + 1) by have := HLE2.out; have := HLE.out; have := HX0.out; omega)
          go_wp2
          go_roundg (3 - (i + 1))
          case rel => exact ⟨i + 1, Ao2, co2, Z, (by show _ = _; omega), by omega, by go_num, rfl, HOW2.out, HE3.out, HLE3.out, HS2.out, hb2⟩
          case measure => omega
    · have blt : decide ((i : Int) < 3) = false := decide_eq_false (by omega)
      have blt2 : decide (i < 3) = false := decide_eq_false hlt
      obtain rfl : i = 3 := by omega
      have hsort := sorted_any w Ao co X.length X wr rfl (by have := HLE.out; omega) HOW.out HS.out hb L (fun l h1 h2 => HL.out l h1 (by rw [HE.out, List.take_of_length_le (by have := H3.out; omega)] at h2; exact h2))
      go_wp2_with fail
      refine hsort.mono ?_
      rintro e w1 ⟨rfl, hcomp⟩
      go_wp2_with fail
      refine hcomp.mono ?_
      rintro e w2 ⟨Y, rfl, hY, hN, hB⟩
      have HY := Lib.hid hY
      clear hY hcomp
      go_wp2
      go_ret
      exact ⟨Y, Ao, co, rfl, HY.out, hN, hB⟩
end Go.Proofs.Ytfajfjocpgbmeaa
