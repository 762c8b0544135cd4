/-
  What the code of host does: HostOk. Conditions: at most 200 lines.
  What the rows' condition gives: the project's own table of statements (schema.rows) holds what it was laid with; a world that meets it. No conditions.
  Small laws for layer 13's walks: Right by its answer, short paths (Short), how long a fault's path is. No conditions.
  Contracts of the document's without and Set (layer 7). Condition: a tree; at most 2^30 words.
-/
import Derived.Test.YtfcikfohmehmkaaGreatDoorBase13
import Derived.Test.YtfcikfohmehmkaaGreatDoorRows
import Derived.LaidLaws
import Derived.LaidHandle
import Derived.LaidMore
import Derived.OpenShut
import Derived.Stop.LaidErr
import Derived.Stop.Joined

namespace Go.Proofs.YtfcikfohmehmkaaGreatDoor
open Go.RowKit
set_option linter.unusedVariables false

set_option maxRecDepth 100000 in
set_option maxHeartbeats 8000000 in
theorem compileC (A : Option Addr) (c n m : Nat) (t : List T.Ln) (L : List H.En) (er : Int) (w : World) (HTA : LArgS w A c n t) (HCI : CompIs t L er) (hLm : L.length = m) (HT : RowsOk w) :
    Calls Tryz.prog 11 #[.slice A n c] w (fun e w' => ∃ B d, e = .returned (.tuple #[.slice B m d, .int .i64 er]) ∧ m ≤ d ∧ Seen eEc w' B L ∧ Below w.heap.size w w') := by
  rcases HCI with ⟨hR, hC, hL, rfl⟩ | ⟨hR, hC, hL, rfl⟩ | ⟨hR, hL, rfl⟩
  · have hl := HTA.most
    have HTR := Lib.hid hR
    have HN := Lib.hid HTA.len
    have HA := Lib.hid HTA.seen
    have HCH := Lib.hid (checkC A c n 0 t [] 0 w HTA (.inl ⟨hR, hC.symm, rfl⟩) rfl HT)
    have HLM := Lib.hid hLm
    have HLT := Lib.hid hL
    have HCT := Lib.hid (H.code_tables hR hC)
    obtain ⟨N, hN⟩ : ∃ N, H.nodesL t = N := ⟨_, rfl⟩
    obtain ⟨k, hk⟩ : ∃ k, N.length = k := ⟨_, rfl⟩
    obtain ⟨L1, h1⟩ : ∃ l, H.floodsC N = l := ⟨_, rfl⟩
    obtain ⟨L2, h2⟩ : ∃ l, H.boundC t N = l := ⟨_, rfl⟩
    obtain ⟨L3, h3⟩ : ∃ l, H.routesC t N = l := ⟨_, rfl⟩
    obtain ⟨L4, h4⟩ : ∃ l, H.polsC t N = l := ⟨_, rfl⟩
    have ht200 : t.length ≤ 200 := by rw [HN.out]; exact hl
    have hk200 : k ≤ 200 := by rw [← hk, ← hN]; exact H.nodes_few hR ht200
    have HAL := Lib.hid (show H.setE (((L1 ++ L2) ++ L3) ++ L4) = L by rw [hL, ← H.code_tables hR hC, ← h1, ← h2, ← h3, ← h4, ← hN]; rfl)
    have HVN := Lib.hid (show ∀ x ∈ N, x.vn.length ≤ 200 by rw [← hN]; exact H.vn_few hR ht200)
    have HIP := Lib.hid (show ∀ x ∈ N, x.addr.length ≤ 40 from fun x hx => by
      rw [← hN] at hx
      obtain ⟨z, _, rfl⟩ := H.mem_nodes.1 hx
      exact H.word_long hR _ (by simp))
    have HL1 := Lib.hid (show L1.length ≤ 8000000 by rw [← h1]; exact H.floodsC_few (by omega) HVN.out)
    have HL2 := Lib.hid (show L2.length ≤ 80000 by rw [← h2]; exact H.boundC_few (by omega) (H.under_few hR ht200 _))
    have HL3 := Lib.hid (show L3.length ≤ 40000 by rw [← h3]; exact H.routesC_few (by omega) (H.under_few hR ht200 _))
    have HL4 := Lib.hid (show L4.length ≤ 40000 by rw [← h4]; exact H.polsC_few (by omega) (H.under_few hR ht200 _))
    obtain ⟨q9, hq9⟩ : ∃ q, (((L1 ++ L2) ++ L3) ++ L4).length = q := ⟨_, rfl⟩
    have HQ9 := Lib.hid hq9
    have hq30 : q9 ≤ 1073741824 := by
      rw [← hq9, List.length_append, List.length_append, List.length_append]
      have := HL1.out; have := HL2.out; have := HL3.out; have := HL4.out; omega
    clear hq9
    have HNN := Lib.hid hN
    have HK := Lib.hid hk
    have H1 := Lib.hid h1
    have H2 := Lib.hid h2
    have H3 := Lib.hid h3
    have H4 := Lib.hid h4
    clear HTA HT hR hC hL hLm hN hk h1 h2 h3 h4 ht200
    go_enter Tryz.func11, Tryz.ntmps11
    go_wp2_with fail
    refine HCH.out.mono ?_
    rintro e w1 ⟨B0, d0, rfl, _, hb1⟩
    have HB1 := Lib.hid hb1
    clear hb1
    go_wp2_with fail
    refine (nodesC A c n k t N _ HN.out (HA.out.below HB1.out) (by omega) HTR.out HNN.out HK.out).mono ?_
    rintro e w2 ⟨B, d, rfl, hsn, hx⟩
    have HB2 := Lib.hid (bthen HB1.out hx)
    have HSN := Lib.hid hsn
    clear hsn hx
    go_wp2_with fail
    refine (floodsC14 B d k N L1 _ HK.out HSN.out hk200 HVN.out H1.out).mono ?_
    rintro e w3 ⟨v3, rfl, ho3, hb3⟩
    have HO3 := Lib.hid ho3
    have HB3 := Lib.hid hb3
    clear ho3 hb3
    go_wp2_with fail
    refine (boundC14 A B c d n k t N L2 _ HN.out (HA.out.below (bthen HB2.out HB3.out)) hl HTR.out HK.out (HSN.out.below HB3.out) hk200 HVN.out H2.out).mono ?_
    rintro e w4 ⟨v4, rfl, ho4, hb4⟩
    obtain ⟨A4, c4, rfl, hc4, hs4⟩ := ho4.seen
    have HO4 := Lib.hid (HO3.out.keep hb4)
    have HB4 := Lib.hid (bthen HB3.out hb4)
    have hz4 := (bthen HB3.out hb4).size
    have HS4 := Lib.hid hs4
    have HNK4 := Lib.hid ho4.nilOk
    clear ho4 hb4 hs4
    go_wp2_with (first | (at_builtin; refine wpList_appL15 w4 rfl (.tmp 23) (.tmp 26) rfl w2.heap.size v3 L1 rfl HO4.out A4 L2.length c4 L2 rfl HNK4.out HS4.out rfl (by have := HL1.out; have := HL2.out; omega) hz4 ?_; intro v5 w5 ho5 hb5) | fail)
    have HO5 := Lib.hid ho5
    have HB5 := Lib.hid (HB4.out.trans hb5)
    clear ho5 hb5
    refine (routesC14 A B c d n k t N L3 _ HN.out (HA.out.below (bthen HB2.out HB5.out)) hl HTR.out HK.out (HSN.out.below HB5.out) hk200 HVN.out HIP.out H3.out).mono ?_
    rintro e w6 ⟨v6, rfl, ho6, hb6⟩
    obtain ⟨A6, c6, rfl, hc6, hs6⟩ := ho6.seen
    have HO6 := Lib.hid (HO5.out.keep hb6)
    have HB6 := Lib.hid (bthen HB5.out hb6)
    have hz6 := (bthen HB5.out hb6).size
    have HS6 := Lib.hid hs6
    have HNK6 := Lib.hid ho6.nilOk
    clear ho6 hb6 hs6
    go_wp2_with (first | (at_builtin; refine wpList_appL15 w6 rfl (.tmp 28) (.tmp 31) rfl w2.heap.size v5 (L1 ++ L2) rfl HO6.out A6 L3.length c6 L3 rfl HNK6.out HS6.out rfl (by rw [List.length_append]; have := HL1.out; have := HL2.out; have := HL3.out; omega) hz6 ?_; intro v7 w7 ho7 hb7) | fail)
    have HO7 := Lib.hid ho7
    have HB7 := Lib.hid (HB6.out.trans hb7)
    clear ho7 hb7
    refine (polsC14 A B c d n k t N L4 _ HN.out (HA.out.below (bthen HB2.out HB7.out)) hl HTR.out HK.out (HSN.out.below HB7.out) hk200 HVN.out H4.out).mono ?_
    rintro e w8 ⟨v8, rfl, ho8, hb8⟩
    obtain ⟨A8, c8, rfl, hc8, hs8⟩ := ho8.seen
    have HO8 := Lib.hid (HO7.out.keep hb8)
    have HB8 := Lib.hid (bthen HB7.out hb8)
    have hz8 := (bthen HB7.out hb8).size
    have HS8 := Lib.hid hs8
    have HNK8 := Lib.hid ho8.nilOk
    clear ho8 hb8 hs8
    go_wp2_with (first | (at_builtin; refine wpList_appL15 w8 rfl (.tmp 33) (.tmp 36) rfl w2.heap.size v7 ((L1 ++ L2) ++ L3) rfl HO8.out A8 L4.length c8 L4 rfl HNK8.out HS8.out rfl (by rw [List.length_append, List.length_append]; have := HL1.out; have := HL2.out; have := HL3.out; have := HL4.out; omega) hz8 ?_; intro v9 w9 ho9 hb9; obtain ⟨A9, c9, rfl, hc9, hs9⟩ := ho9.seenN HQ9.out) | fail)
    have HB9 := Lib.hid (bthen HB2.out (HB8.out.trans hb9))
    have HS9 := Lib.hid hs9
    clear ho9 hb9 hs9 hc9
    refine (setC A9 c9 q9 m _ w9 HQ9.out hq30 HS9.out (by rw [HAL.out]; exact HLM.out)).mono ?_
    rintro e w10 ⟨B10, d10, rfl, hd10, hs10, hb10⟩
    have HS10 := Lib.hid hs10
    have HB10 := Lib.hid (bthen HB9.out hb10)
    clear hs10 hb10
    go_wp2
    go_ret2
    exact ⟨B10, d10, rfl, hd10, by rw [← HAL.out]; exact HS10.out, HB10.out⟩
  · obtain ⟨q, hq⟩ : ∃ q, (C.checkP (C.pths t)).length = q := ⟨_, rfl⟩
    have HCH := Lib.hid (checkC A c n q t (C.checkP (C.pths t)) 0 w HTA (.inl ⟨hR, rfl, rfl⟩) hq HT)
    have hq0 : 0 < q := by rw [← hq]; exact Nat.pos_of_ne_zero (fun e => hC (List.eq_nil_of_length_eq_zero e))
    have b1 : decide ((0 : Int) < (q : Int)) = true := decide_eq_true (by omega)
    have HE := Lib.hid hL
    obtain rfl : m = 0 := by rw [← hLm, hL]; rfl
    clear HTA HT hR hC hL hLm hq
    go_enter Tryz.func11, Tryz.ntmps11
    go_wp2_with fail
    refine HCH.out.mono ?_
    rintro e w1 ⟨B0, d0, rfl, _, hb1⟩
    have HB1 := Lib.hid hb1
    clear hb1
    go_wp2
    go_ret2
    exact ⟨none, 0, rfl, Nat.le_refl _, by rw [HE.out]; exact Seen.nil, HB1.out⟩
  · have HCH := Lib.hid (checkC A c n 0 t [] 1 w HTA (.inr ⟨hR, rfl, rfl⟩) rfl HT)
    have HE := Lib.hid hL
    obtain rfl : m = 0 := by rw [← hLm, hL]; rfl
    clear HTA HT hR hL hLm
    go_enter Tryz.func11, Tryz.ntmps11
    go_wp2_with fail
    refine HCH.out.mono ?_
    rintro e w1 ⟨B0, d0, rfl, _, hb1⟩
    have HB1 := Lib.hid hb1
    clear hb1
    go_wp2
    go_ret2
    exact ⟨none, 0, rfl, Nat.le_refl _, by rw [HE.out]; exact Seen.nil, HB1.out⟩
/-- What host does. -/
theorem host_ok : HostOk where
  compareOf := fun x y r w _ _ hr => (compareC x y w).mono fun e w' ⟨he, hg⟩ => ⟨by rw [← hr]; exact he, hg.1⟩
  setOf := fun A c n m l w hn hl hc hf hA hm => setC A c n m l w hn (by omega) hA hm
  compileOf := fun A c n m t L er w h1 h2 h3 h4 => compileC A c n m t L er w h1 h2 h3 h4
end Go.Proofs.YtfcikfohmehmkaaGreatDoor

namespace Go.Proofs.YtfcikfohmehmkaaGreatDoor
open Go.ChangeShapes Go.WideShapes Go.ChangeAt Go.RowKit
set_option linter.unusedVariables false

/-- What the rows of this seat list. -/
def laidL : List (String × DataW Unit) := [("ferryslip/schema.rows", Rows.laid_ferryslip_schema_rows)]
def rowDat (r : C.Wd × C.Wd × Bool × Bool) : DataW Unit := .agg [.lit (.string r.1), .lit (.string r.2.1), .lit (.bool r.2.2.1), .lit (.bool r.2.2.2)]
theorem laid_rows : (Rows.laid_ferryslip_schema_rows : DataW Unit) = .agg (rowsL.map rowDat) := by kernel_rfl
theorem trod_bool13 {H : Type} {enc : TypeId × Value → H} {P : Program} {w : World} {base : Nat} {spare : Nat → Bool} {held : Bool} {fuel : Nat} {t : TypeId} {cs : List Value} {x : DataW H × List MemPlace} (ht : P.underlying t = some .bool) (h : DataW.trod enc P w base spare held fuel t cs = some x) : ∃ b, cs = [.bool b] ∧ x = (.lit (.bool b), []) := by
  cases fuel with
  | zero => simp [DataW.trod] at h
  | succ n =>
    simp only [DataW.trod, ht] at h
    split at h <;> simp_all
theorem sB_of13 (s : ByteArray) : sB s.data.toList = s := ByteArray.ext (Array.ext' (by simp [sB]))
set_option maxRecDepth 100000 in
theorem row_cells {w : World} {base : Nat} {spare : Nat → Bool} {held : Bool} {fuel : Nat} {cs : List Value} {r : C.Wd × C.Wd × Bool × Bool} {pl : List MemPlace} (h : DataW.trod (fun _ => ()) Tryz.prog w base spare held fuel 126 cs = some (rowDat r, pl)) : cs = rowV r := by
  obtain ⟨xs, q, hq, hxy, hcl, hxl, hff⟩ := DataW.trod_struct Tryz.underlying126 h
  rw [show Tryz.prog.cellsOf 126 = 4 by kernel_rfl] at hcl
  have z1 : Tryz.prog.cellsOf 9 = 1 := by kernel_rfl
  have z2 : Tryz.prog.cellsOf 4 = 1 := by kernel_rfl
  match xs, hxl, cs, hcl with
  | [y0, y1, y2, y3], _, [v0, v1, v2, v3], _ =>
    have g0 := hff 0 _ rfl
    have g1 := hff 1 _ rfl
    have g2 := hff 2 _ rfl
    have g3 := hff 3 _ rfl
    simp [z1, z2] at g0 g1 g2 g3
    obtain ⟨s0, q0, e0, _⟩ := DataW.trod_string Tryz.underlying9 g0
    obtain ⟨s1, q1, e1, _⟩ := DataW.trod_string Tryz.underlying9 g1
    obtain ⟨c2, q2, e2⟩ := trod_bool13 Tryz.underlying4 g2
    obtain ⟨c3, q3, e3⟩ := trod_bool13 Tryz.underlying4 g3
    subst e0; subst e1; subst e2; subst e3
    simp at q0 q1 q2 q3
    subst q0; subst q1; subst q2; subst q3
    have e := congrArg Prod.fst hxy
    obtain ⟨r1, r2, r3, r4⟩ := r
    simp [rowDat] at e
    obtain ⟨rfl, rfl, rfl, rfl⟩ := e
    simp [rowV, sB_of13]
theorem chunks13 : ∀ (R : List (C.Wd × C.Wd × Bool × Bool)) (cs : List Value), cs.length = R.length * 4 → (∀ i (hi : i < R.length), (cs.drop (i * 4)).take 4 = rowV R[i]) → cs = R.flatMap rowV
  | [], cs, hl, _ => List.eq_nil_of_length_eq_zero (by simpa using hl)
  | r :: R, cs, hl, h => by
    have h0 := h 0 (by simp)
    simp at h0
    have hr := chunks13 R (cs.drop 4) (by rw [List.length_drop, hl, List.length_cons]; omega) (fun i hi => by
      have := h (i + 1) (by rw [List.length_cons]; omega)
      rw [List.drop_drop, show 4 + i * 4 = (i + 1) * 4 by omega]
      simpa using this)
    rw [List.flatMap_cons, ← h0, ← hr, List.take_append_drop]
set_option maxRecDepth 100000 in
theorem tab_of_laid {W : World} (h : laidMetH Tryz.prog laidL W) : RowsOk W := by
  rw [MakeChecks.laidMetH_plain _ _ _ (by kernel_rfl)] at h
  obtain ⟨ps, ⟨g', t', cs, fuel, p, q, hg', ht', hvar, hd, _, _⟩, _⟩ := h
  rw [show Tryz.prog.globalNamed "ferryslip/schema.rows" = some 1 by kernel_rfl] at hg'
  obtain rfl := Option.some.inj hg'
  rw [show (Tryz.prog.globals[1]?).map (·.type) = some 161 by kernel_rfl] at ht'
  obtain rfl := Option.some.inj ht'
  rw [laid_rows] at hd
  obtain ⟨xs, m, _, hx, hl, hxl, hi⟩ := DataW.trod_array Tryz.underlying161 hd
  rw [show Tryz.prog.cellsOf 161 = 68 by kernel_rfl] at hl
  rw [show Tryz.prog.cellsOf 126 = 4 by kernel_rfl] at hi
  have hm : xs.map (·.1) = rowsL.map rowDat := by
    have := congrArg Prod.fst hx
    simp at this
    exact this.symm
  have e := chunks13 rowsL cs.toList (by rw [hl]; rfl) (fun i hi2 => by
    have h17 : i < 17 := hi2
    have hxi : i < xs.length := by omega
    have h1 := hi i h17
    rw [List.getElem?_eq_getElem hxi] at h1
    have h2 : (xs[i]).1 = rowDat rowsL[i] := by
      have := congrArg (·[i]?) hm
      simp only [List.getElem?_map, List.getElem?_eq_getElem hxi, List.getElem?_eq_getElem hi2, Option.map_some] at this
      exact Option.some.inj this
    exact row_cells (pl := (xs[i]).2) (h1.trans (congrArg some (Prod.ext h2 rfl))))
  unfold RowsOk
  rw [hvar, ← e]
theorem door_met (os : Os) (args : Array Value) : laidMetH Tryz.prog laidL ((World.doorLaid Tryz.prog 400 os).forCall (fun _ _ => 0) ⟨#[], args, []⟩).memory :=
  laidMetH_of_parts3 (fuel := 8) (laidMet_of_run' 8 (by kernel_rfl) (by kernel_rfl)) (by kernel_rfl) (by kernel_rfl)
end Go.Proofs.YtfcikfohmehmkaaGreatDoor

namespace Go.Proofs.YtfcikfohmehmkaaGreatDoor
open Go.RowKit
set_option linter.unusedVariables false

theorem right13 (A : Option Addr) (c n : Nat) (t : List T.Ln) (b : Bool) (w : World) (hn : t.length = n) (hA : Seen eL w A t) (hl : n ≤ 1073741824) (h : b = true ↔ T.RightT t) : Calls Tryz.prog 12 #[.slice A n c] w (BoolS w b) := by subst hn; exact rightR_is A c t b w hA hl h
theorem own_nil13 {α : Type} {E : Elem α} {w : World} {base n c : Nat} {A : Option Addr} {l : List α} (h : Own E w base (.slice A n c) l) : NilOk A c := by
  rintro rfl
  rcases h.2 with ⟨e, _⟩ | ⟨g, cap, cur, e, _⟩
  · injection e
  · injection e with e1; cases e1
theorem own_arg {w : World} {base n : Nat} {v : Value} {t : List T.Ln} (h : Own eL w base v t) (hn : t.length = n) (hl : n ≤ 200) : ∃ B d, v = .slice B n d ∧ LArgS w B d n t := by
  obtain ⟨B, d, e, hd, hs⟩ := h.seen
  subst hn
  refine ⟨B, d, e, rfl, hl, hd, fun hB => ?_, hs⟩
  subst e
  exact own_nil13 h hB
end Go.Proofs.YtfcikfohmehmkaaGreatDoor

namespace Go.Proofs.YtfcikfohmehmkaaGreatDoor
open Go.RowKit
set_option linter.unusedVariables false

theorem cutL_is (t : List T.Ln) (a e : Nat) (h : T.endL t a = e) : [] ++ t.take a ++ t.drop e = T.cutL t a := by rw [← h]; simp [T.cutL]
end Go.Proofs.YtfcikfohmehmkaaGreatDoor
