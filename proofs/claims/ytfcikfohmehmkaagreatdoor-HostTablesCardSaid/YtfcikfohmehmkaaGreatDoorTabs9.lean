/-
  Part 9 of what the proofs of this claim stand on. No conditions but those that each theorem states.
-/
import Derived.Test.YtfcikfohmehmkaaGreatDoorTabs8
import Derived.Lib.SmallJoins
import Derived.StillTailTactics
import Derived.RegionTactic
import Derived.WalkMore
import Derived.Deep.LoopGhost

namespace Go.Proofs.YtfcikfohmehmkaaGreatDoor.H
theorem filter_on {f : List UInt8 → Bool} {l : List (List UInt8)} {i : Nat} (hi : i < l.length) (h : f l[i] = true) : (l.take (i + 1)).filter f = (l.take i).filter f ++ [l[i]] := by
 rw [List.take_succ_eq_append_getElem hi, List.filter_append, List.filter_cons_of_pos h]; rfl
theorem filter_off {f : List UInt8 → Bool} {l : List (List UInt8)} {i : Nat} (hi : i < l.length) (h : f l[i] = false) : (l.take (i + 1)).filter f = (l.take i).filter f := by
 rw [List.take_succ_eq_append_getElem hi, List.filter_append, List.filter_cons_of_neg (by rw [h]; decide)]; simp
theorem flatMap_next {β : Type} {f : List UInt8 → List β} {l : List (List UInt8)} {i : Nat} (hi : i < l.length) : (l.take (i + 1)).flatMap f = (l.take i).flatMap f ++ f l[i] := by
 rw [List.take_succ_eq_append_getElem hi, List.flatMap_append]; simp
theorem take_few {β : Type} (f : List UInt8 → List β) (k : Nat) (l : List (List UInt8)) (i : Nat) (h : ∀ x ∈ l, (f x).length ≤ k) (hl : l.length ≤ 200) : ((l.take i).flatMap f).length ≤ k * 200 := by
 refine Nat.le_trans (flat_most f k _ fun x hx => h x (List.mem_of_mem_take hx)) (Nat.mul_le_mul_left k ?_)
 rw [List.length_take]; omega
theorem filter_few (f : List UInt8 → Bool) (l : List (List UInt8)) (i : Nat) (hl : l.length ≤ 200) : ((l.take i).filter f).length ≤ 200 := by
 refine Nat.le_trans (List.length_filter_le _ _) ?_
 rw [List.length_take]; omega
end Go.Proofs.YtfcikfohmehmkaaGreatDoor.H
namespace Go.Proofs.YtfcikfohmehmkaaGreatDoor
open Go.RowKit
set_option linter.unusedVariables false
set_option linter.unusedSimpArgs false
theorem underN14 {Z : Nat} (A : Option Addr) (c n : Nat) (t : List T.Ln) (B : Option Addr) (d m k : Nat) (p : T.Pth) (l : List (List UInt8)) (w : World) (hn : t.length = n) (hm : p.length = m) (hA : Seen eL w A t) (hB : Seen eS w B p) (hl : n ≤ 1073741824) (hl2 : m ≤ 1073741824) (hR : T.RightN Z t) (hu : T.underW t p = l) (hk : l.length = k) :
  Calls Tryz.prog 20 #[.slice A n c, .slice B m d] w (fun e w' => ∃ C1 d1, e = .returned (.slice C1 k d1) ∧ k ≤ d1 ∧ Seen eS w' C1 l ∧ (∀ a, C1 = some a → w.heap.size ≤ a.block) ∧ Below w.heap.size w w') := by
 subst hu; subst hk
 refine (underO12 A c n t B d m p w hn hm hA hB hl hl2 hR).mono ?_
 rintro e w' ⟨v, rfl, ho, hb⟩
 obtain ⟨C1, d1, rfl, hp⟩ := own_pt ho
 exact ⟨C1, d1, rfl, hp.pt.cap, hp.pt.seen, hp.from_, hb⟩
theorem g12_of {α : Type} {E : Elem α} {w w' : World} {base : Nat} {v v' : Value} {l : List α} (hG : Grew E w w' base v v' l) : G12 w w' v v' := by
 refine ⟨hG.grown.size, fun b hb hne => hG.grown.block b hb (fun e => hne e.symm), fun b e => ?_⟩
 rcases hG.at_ with h | ⟨g, h, h4⟩
 ·left; rw [← h]; exact e
 ·right; rw [h] at e; injection e with e; omega
theorem add14 (a b c : List UInt8) (w : World) (ha : a.length ≤ 1000) (hb : b.length ≤ 1000) (h : a ++ b = c) : Sem.run Tryz.prog (Op.stringOp .add (sB a) (sB b)) w = .ok (.string (sB c)) w := by
 rw [← h, sB_join13 a b]
 exact run_string_add_sum (P := Tryz.prog) (w := w) (sB a) (sB b) (by rw [sB_size, sB_size]; omega)
set_option maxRecDepth 100000 in
set_option maxHeartbeats 32000000 in
theorem pairsR {Z : Nat} (A : Option Addr) (c n : Nat) (t : List T.Ln) (h g : List UInt8) (L : List H.En) (w : World) (hn : t.length = n) (hl : n ≤ 200) (hA : Seen eL w A t) (hR : T.RightN Z t) (hL : H.pairsL t h g = L) :
  Calls Tryz.prog 33 #[.slice A n c, .string (sB h), .string (sB g)] w (fun e w' => ∃ v, e = .returned v ∧ Own eEd w' w.heap.size v L ∧ Below w.heap.size w w') := by
 have HA := Lib.hid hA
 have HN := Lib.hid hn
 have HR := Lib.hid hR
 have hl30 : n ≤ 1073741824 := by omega
 have HWL := Lib.hid (fun (p : T.Pth) (o : List UInt8) (ho : o.length ≤ 40) => H.word_long hR p ho)
 obtain ⟨ip, hip⟩ : ∃ z, H.wordH t [C.wHosts, g, C.wIp] [] = z := ⟨_, rfl⟩
 have HIP := Lib.hid hip
 obtain ⟨NS, hNS⟩ : ∃ z, T.underW t [C.wVnis] = z := ⟨_, rfl⟩
 obtain ⟨BS, hBS⟩ : ∃ z, T.underW t [C.wBindings] = z := ⟨_, rfl⟩
 obtain ⟨RS, hRS⟩ : ∃ z, T.underW t [C.wRoutes] = z := ⟨_, rfl⟩
 have HNS := Lib.hid hNS
 have HBS := Lib.hid hBS
 have HRS := Lib.hid hRS
 obtain ⟨f, hf⟩ : ∃ f : List UInt8 → Bool, f = fun v => decide (h ≠ g) && H.inH t h v && H.inH t g v := ⟨_, rfl⟩
 obtain ⟨mk, hmk⟩ : ∃ k : List UInt8 → H.En, k = fun v => ⟨h, 1, v, ip⟩ := ⟨_, rfl⟩
 have HF := Lib.hid (fun v => show f v = (decide (h ≠ g) && H.inH t h v && H.inH t g v) by rw [hf])
 have HMK := Lib.hid (fun v => show mk v = ⟨h, 1, v, ip⟩ by rw [hmk])
 have HL := Lib.hid (show ((NS.filter f).map mk ++ BS.flatMap (H.bindOne t h g)) ++ RS.flatMap (H.routeOne t h g) = L by
  rw [← hL, hf, hmk, ← hNS, ← hBS, ← hRS, ← hip]; rfl)
 have h200 : ∀ p, (T.underW t p).length ≤ 200 := fun p => H.under_few hR (by omega) p
 have HN2 := Lib.hid (show NS.length ≤ 200 by rw [← hNS]; exact h200 _)
 have HB2 := Lib.hid (show BS.length ≤ 200 by rw [← hBS]; exact h200 _)
 have HR2 := Lib.hid (show RS.length ≤ 200 by rw [← hRS]; exact h200 _)
 obtain ⟨nn, hnn⟩ : ∃ z, NS.length = z := ⟨_, rfl⟩
 obtain ⟨bn, hbn⟩ : ∃ z, BS.length = z := ⟨_, rfl⟩
 obtain ⟨rn, hrn⟩ : ∃ z, RS.length = z := ⟨_, rfl⟩
 have HNN := Lib.hid hnn
 have HBN := Lib.hid hbn
 have HRN := Lib.hid hrn
 have hnn2 : nn ≤ 200 := by rw [← hnn]; exact HN2.out
 have hbn2 : bn ≤ 200 := by rw [← hbn]; exact HB2.out
 have hrn2 : rn ≤ 200 := by rw [← hrn]; exact HR2.out
 have HF1 := Lib.hid (fun i => show (((NS.take i).filter f).map mk).length ≤ 200 by rw [List.length_map]; exact H.filter_few f NS i HN2.out)
 have HF2 := Lib.hid (fun i => show ((BS.take i).flatMap (H.bindOne t h g)).length ≤ 400 from H.take_few _ 2 BS i (fun x _ => H.bindOne_few t h g x) HB2.out)
 have HF3 := Lib.hid (fun i => show ((RS.take i).flatMap (H.routeOne t h g)).length ≤ 200 from H.take_few _ 1 RS i (fun x _ => H.routeOne_few t h g x) HR2.out)
 obtain ⟨q, hq⟩ : ∃ q : Bool, (decide (h = g)) = q := ⟨_, rfl⟩
 have HQ := Lib.hid hq
 clear hA hn hR hip hNS hBS hRS hf hmk hL h200 hnn hbn hrn hq
 go_enter Tryz.func33, Tryz.ntmps33
 go_wp2_with fail
 refine (wordR A c n t _ 3 3 [C.wHosts, g, C.wIp] [] ip _ HN.out rfl (HA.out.below (up _ _)) (lit_seen eS w [C.wHosts, g, C.wIp] _ rfl (by simp)) hl30 (by omega) HR.out HIP.out).mono ?_
 rintro e w1 ⟨rfl, hx1⟩
 have HX1 := Lib.hid (show Below w.heap.size w w1 from bthen (up _ _) hx1)
 clear hx1
 go_wp2_with fail
 refine (underM14 A c n t _ 1 1 nn [C.wVnis] NS _ HN.out rfl (HA.out.below (bthen HX1.out (up _ _))) (lit_seen eS w1 [C.wVnis] _ rfl (by simp)) hl30 (by omega) HR.out HNS.out HNN.out).mono ?_
 rintro e w2 ⟨C2, d2, rfl, hd2, hs2, hx2⟩
 have HX2 := Lib.hid (bthen HX1.out (bthen (up _ _) hx2))
 have HS2 := Lib.hid hs2
 clear hx2 hs2 hd2
 go_wp2
 go_loopg [7, 10, 11] nn (fun gk vo vi vv wr => ∃ i : Nat, Hid (i + gk = nn) ∧ vi = .int .i64 (i : Int) ∧ Hid (Own eEd wr w2.heap.size vo (((NS.take i).filter f).map mk)) ∧ Hid (Below w2.heap.size w2 wr))
 case atStart => exact ⟨0, Nat.zero_add _, rfl, Own.nil _ _, Below.refl _ _⟩
 case round =>
  obtain ⟨i, HG, rfl, HO, HB⟩ := hrel
  have hgk := HG.out
  by_cases hlt : i < nn
  ·have blt : decide ((i : Int) < (nn : Int)) = true := decide_eq_true (by omega)
   have blt2 : decide (i < nn) = true := decide_eq_true hlt
   have hiz : (i : Int) < (nn : Int) := by omega
   have hiN : i < NS.length := by rw [HNN.out]; exact hlt
   obtain ⟨b, o, rfl, hwb, hLn⟩ := HS2.out (by omega)
   have c0 := (hLn.below HB.out hwb).str hiN
   obtain ⟨v, hv⟩ : ∃ z, NS[i] = z := ⟨_, rfl⟩
   rw [hv] at c0
   have HON := Lib.hid (fun (k : f v = true) => show ((NS.take (i + 1)).filter f).map mk = ((NS.take i).filter f).map mk ++ [⟨h, 1, v, ip⟩] by
    rw [H.filter_on hiN (by rw [hv]; exact k), List.map_append, hv, List.map_cons, HMK.out]; rfl)
   have HOF := Lib.hid (fun (k : f v = false) => show ((NS.take (i + 1)).filter f).map mk = ((NS.take i).filter f).map mk by
    rw [H.filter_off hiN (by rw [hv]; exact k)])
   have HXW := Lib.hid (HX2.out.trans (HB.out.mono HX2.out.size))
   clear hLn hv
   by_cases he : h = g
   ·have n0 := sB_eq he
    have HNX := Lib.hid (HOF.out (by rw [HF.out, decide_eq_false (fun k => k he)]; rfl))
    clear he
    go_wp2
    go_roundg (nn - (i + 1))
    case rel => exact ⟨i + 1, (by show _ = _; omega), by go_num, (by rw [HNX.out]; exact HO.out), HB.out⟩
    case measure => omega
   ·have n0 := sB_ne he
    have HNE := Lib.hid he
    clear he
    cases r1 : H.inH t h v with
    | false =>
     have HI1 := Lib.hid r1
     have HNX := Lib.hid (HOF.out (by rw [HF.out, r1, Bool.and_false]; rfl))
     clear r1
     go_wp2_with fail
     refine (inR A c n t h v false _ HN.out (HA.out.below HXW.out) hl30 HR.out HI1.out).mono ?_
     rintro e w3 ⟨rfl, hx3⟩
     have HB3 := Lib.hid (HB.out.trans (hx3.mono HB.out.size))
     have HO3 := Lib.hid (HO.out.keep hx3)
     clear hx3
     go_wp2
     go_roundg (nn - (i + 1))
     case rel => exact ⟨i + 1, (by show _ = _; omega), by go_num, (by rw [HNX.out]; exact HO3.out), HB3.out⟩
     case measure => omega
    | true =>
     have HI1 := Lib.hid r1
     cases r2 : H.inH t g v with
     | false =>
      have HI2 := Lib.hid r2
      have HNX := Lib.hid (HOF.out (by rw [HF.out, r2, Bool.and_false]))
      clear r1 r2
      go_wp2_with fail
      refine (inR A c n t h v true _ HN.out (HA.out.below HXW.out) hl30 HR.out HI1.out).mono ?_
      rintro e w3 ⟨rfl, hx3⟩
      have HB3 := Lib.hid (HB.out.trans (hx3.mono HB.out.size))
      have HO3 := Lib.hid (HO.out.keep hx3)
      have HXW3 := Lib.hid (HXW.out.trans (hx3.mono HXW.out.size))
      clear hx3
      go_wp2_with fail
      refine (inR A c n t g v false _ HN.out (HA.out.below HXW3.out) hl30 HR.out HI2.out).mono ?_
      rintro e w4 ⟨rfl, hx4⟩
      have HB4 := Lib.hid (HB3.out.trans (hx4.mono HB3.out.size))
      have HO4 := Lib.hid (HO3.out.keep hx4)
      clear hx4
      go_wp2
      go_roundg (nn - (i + 1))
      case rel => exact ⟨i + 1, (by show _ = _; omega), by go_num, (by rw [HNX.out]; exact HO4.out), HB4.out⟩
      case measure => omega
     | true =>
      have HI2 := Lib.hid r2
      have HNX := Lib.hid (HON.out (by rw [HF.out, r1, r2, decide_eq_true HNE.out]; rfl))
      have HLN := Lib.hid (HF1.out i)
      clear r1 r2
      go_wp2_with fail
      refine (inR A c n t h v true _ HN.out (HA.out.below HXW.out) hl30 HR.out HI1.out).mono ?_
      rintro e w3 ⟨rfl, hx3⟩
      have HB3 := Lib.hid (HB.out.trans (hx3.mono HB.out.size))
      have HO3 := Lib.hid (HO.out.keep hx3)
      have HXW3 := Lib.hid (HXW.out.trans (hx3.mono HXW.out.size))
      clear hx3
      go_wp2_with fail
      refine (inR A c n t g v true _ HN.out (HA.out.below HXW3.out) hl30 HR.out HI2.out).mono ?_
      rintro e w4 ⟨rfl, hx4⟩
      have HB4 := Lib.hid (HB3.out.trans (hx4.mono HB3.out.size))
      have HO4 := Lib.hid (HO3.out.keep hx4)
      have hsz := HB4.out.size
      clear hx4
      go_wp2_with (at_builtin; refine wpList_appG eEd w4 rfl (.tmp 50) (.tmp 55) rfl w2.heap.size u7 (((NS.take i).filter f).map mk) rfl HO4.out ⟨h, 1, v, ip⟩ 1 #[.string (sB h), .int .i64 1, .string (sB v), .string (sB ip)] rfl w4.heap.size rfl rfl (by have := HLN.out; omega) hsz ?_; intro v5 w5 hown5 hb5; have HB5 := Lib.hid (HB4.out.trans hb5); have HO5 := Lib.hid hown5; clear hown5 hb5)
      go_roundg (nn - (i + 1))
      case rel => exact ⟨i + 1, (by show _ = _; omega), by go_num, (by rw [HNX.out]; exact HO5.out), HB5.out⟩
      case measure => omega
  ·have blt : decide ((i : Int) < (nn : Int)) = false := decide_eq_false (by omega)
   have blt2 : decide (i < nn) = false := decide_eq_false hlt
   have hown := HO.out
   rw [List.take_of_length_le (show NS.length ≤ i by rw [HNN.out]; omega)] at hown
   have HOA := Lib.hid hown
   have HFL := Lib.hid (show ((NS.filter f).map mk).length ≤ 200 by
    have := HF1.out nn
    rw [List.take_of_length_le (Nat.le_of_eq HNN.out)] at this
    exact this)
   obtain ⟨F, hFF⟩ : ∃ z, (NS.filter f).map mk = z := ⟨_, rfl⟩
   rw [hFF] at HOA HFL HL
   have HXW := Lib.hid (HX2.out.trans (HB.out.mono HX2.out.size))
   obtain ⟨wa, hwa⟩ : ∃ z, z = wr := ⟨_, rfl⟩
   subst hwa
   obtain ⟨ua, hua⟩ : ∃ z, z = u7 := ⟨_, rfl⟩
   subst hua
   clear hown hFF
   go_wp2_with fail
   refine (underN14 A c n t _ 1 1 bn [C.wBindings] BS _ HN.out rfl (HA.out.below (bthen HXW.out (up _ _))) (lit_seen eS wa [C.wBindings] _ rfl (by simp)) hl30 (by omega) HR.out HBS.out HBN.out).mono ?_
   rintro e w5 ⟨C5, d5, rfl, hd5, hs5, hf5, hx5⟩
   have HS5 := Lib.hid hs5
   have HK5 := Lib.hid (show ∀ a, C5 = some a → wa.heap.size ≤ a.block from fun a e => Nat.le_trans (up wa _).size (hf5 a e))
   have hx5 := bthen (up _ _) hx5
   have HO5 := Lib.hid (HOA.out.keep hx5)
   have HSD := Lib.hid (side_start (w := w5) HOA.out (Nat.le_refl _))
   have HB5 := Lib.hid (HB.out.trans (hx5.mono HB.out.size))
   clear hs5 hf5 hx5 hd5
   go_wp2
   go_loopg [7, 13, 14, 15] bn (fun gk vo vi vv vm wr => ∃ i : Nat, Hid (i + gk = bn) ∧ vi = .int .i64 (i : Int) ∧ Hid (Own eEd wr w2.heap.size vo (F ++ (BS.take i).flatMap (H.bindOne t h g))) ∧ Hid (Side12 wa.heap.size w5 wr vo) ∧ Hid (Below w2.heap.size w2 wr))
   case atStart => exact ⟨0, Nat.zero_add _, rfl, (by rw [List.take_zero, List.flatMap_nil, List.append_nil]; exact HO5.out), HSD.out, HB5.out⟩
   case round =>
    obtain ⟨i, HG, rfl, HO, HD, HB⟩ := hrel
    have hgk := HG.out
    by_cases hlt : i < bn
    ·have blt : decide ((i : Int) < (bn : Int)) = true := decide_eq_true (by omega)
     have blt2 : decide (i < bn) = true := decide_eq_true hlt
     have hiz : (i : Int) < (bn : Int) := by omega
     have hiN : i < BS.length := by rw [HBN.out]; exact hlt
     obtain ⟨b, o, rfl, hwb, hLn⟩ := side_seen HD.out HS5.out HK5.out (by omega)
     have c0 := hLn.str hiN
     obtain ⟨x, hx⟩ : ∃ z, BS[i] = z := ⟨_, rfl⟩
     rw [hx] at c0
     have HXL := Lib.hid (show x.length ≤ 40 by
      rw [← hx]
      have : BS[i] ∈ T.underW t [C.wBindings] := by rw [HBS.out]; exact List.getElem_mem hiN
      exact T.underW_word HR.out this)
     have HNXT := Lib.hid (show F ++ (BS.take (i + 1)).flatMap (H.bindOne t h g) = (F ++ (BS.take i).flatMap (H.bindOne t h g)) ++ H.bindOne t h g x by
      rw [H.flatMap_next hiN, hx, List.append_assoc])
     have HLN := Lib.hid (show (F ++ (BS.take i).flatMap (H.bindOne t h g)).length ≤ 600 by
      rw [List.length_append]; have := HFL.out; have := HF2.out i; omega)
     obtain ⟨v, hv⟩ : ∃ z, H.wordH t [C.wBindings, x, C.wVni] [] = z := ⟨_, rfl⟩
     obtain ⟨mc, hmc⟩ : ∃ z, H.wordH t [C.wBindings, x, C.wMac] [] = z := ⟨_, rfl⟩
     obtain ⟨ho, hho⟩ : ∃ z, H.wordH t [C.wBindings, x, C.wHost] [] = z := ⟨_, rfl⟩
     have HV := Lib.hid hv
     have HMC := Lib.hid hmc
     have HHO := Lib.hid hho
     have HVL := Lib.hid (show v.length ≤ 40 by rw [← hv]; exact HWL.out _ _ (by simp))
     have HML := Lib.hid (show mc.length ≤ 40 by rw [← hmc]; exact HWL.out _ _ (by simp))
     have HBO := Lib.hid (show H.bindOne t h g x = if ho = g ∧ H.inH t h v = true then ⟨h, 2, v ++ 32 :: x, mc⟩ :: (if g = h then [] else [⟨h, 3, v ++ 32 :: mc, ip⟩]) else [] by
      rw [← hv, ← hmc, ← hho, ← HIP.out]; rfl)
     have HXW := Lib.hid (HX2.out.trans (HB.out.mono HX2.out.size))
     obtain ⟨wb, hwb2⟩ : ∃ z, z = wr := ⟨_, rfl⟩
     subst hwb2
     clear hLn hx hv hmc hho
     go_wp2_with fail
     refine (wordR A c n t _ 3 3 [C.wBindings, x, C.wVni] [] v _ HN.out rfl (HA.out.below (bthen HXW.out (up _ _))) (lit_seen eS wb [C.wBindings, x, C.wVni] _ rfl (by simp)) hl30 (by omega) HR.out HV.out).mono ?_
     rintro e w6 ⟨rfl, hx6⟩
     have hx6 := bthen (up _ _) hx6
     have c6 := (hx6.cell (p := ⟨b, _, none⟩) hwb).trans c0
     have HX6 := Lib.hid hx6
     clear hx6 c0
     go_wp2_with fail
     refine (wordR A c n t _ 3 3 [C.wBindings, x, C.wMac] [] mc _ HN.out rfl (HA.out.below (bthen HXW.out (bthen HX6.out (up _ _)))) (lit_seen eS w6 [C.wBindings, x, C.wMac] _ rfl (by simp)) hl30 (by omega) HR.out HMC.out).mono ?_
     rintro e w7 ⟨rfl, hx7⟩
     have hx7 := bthen (up _ _) hx7
     have c7 := (hx7.cell (p := ⟨b, _, none⟩) (Nat.lt_of_lt_of_le hwb HX6.out.size)).trans c6
     have HX7 := Lib.hid (bthen HX6.out hx7)
     clear hx7 c6
     go_wp2_with fail
     refine (wordR A c n t _ 3 3 [C.wBindings, x, C.wHost] [] ho _ HN.out rfl (HA.out.below (bthen HXW.out (bthen HX7.out (up _ _)))) (lit_seen eS w7 [C.wBindings, x, C.wHost] _ rfl (by simp)) hl30 (by omega) HR.out HHO.out).mono ?_
     rintro e w8 ⟨rfl, hx8⟩
     have hx8 := bthen (up _ _) hx8
     have c8 := (hx8.cell (p := ⟨b, _, none⟩) (Nat.lt_of_lt_of_le hwb HX7.out.size)).trans c7
     have HX8 := Lib.hid (bthen HX7.out hx8)
     clear hx8 c7
     by_cases he : ho = g
     ·have n0 := sB_eq he
      have HEQ := Lib.hid he
      clear he
      cases r1 : H.inH t h v with
      | false =>
       have HI1 := Lib.hid r1
       have HNX := Lib.hid (show F ++ (BS.take (i + 1)).flatMap (H.bindOne t h g) = F ++ (BS.take i).flatMap (H.bindOne t h g) by rw [HNXT.out, HBO.out, if_neg (fun k => by rw [r1] at k; cases k.2), List.append_nil])
       clear r1
       go_wp2_with fail
       refine (inR A c n t h v false _ HN.out (HA.out.below (bthen HXW.out HX8.out)) hl30 HR.out HI1.out).mono ?_
       rintro e w9 ⟨rfl, hx9⟩
       have HX9 := Lib.hid (bthen HX8.out hx9)
       clear hx9
       go_wp2
       go_roundg (bn - (i + 1))
       case rel => exact ⟨i + 1, (by show _ = _; omega), by go_num, (by rw [HNX.out]; exact HO.out.keep HX9.out), side_grow HD.out HX9.out, HB.out.trans (HX9.out.mono HB.out.size)⟩
       case measure => omega
      | true =>
       have HI1 := Lib.hid r1
       obtain ⟨k2, hk2⟩ : ∃ z, v ++ 32 :: x = z := ⟨_, rfl⟩
       obtain ⟨k3, hk3⟩ : ∃ z, v ++ 32 :: mc = z := ⟨_, rfl⟩
       have a1 : ∀ w : World, Sem.run Tryz.prog (Op.stringOp .add (sB v) (⟨#[32]⟩ : ByteArray)) w = .ok (.string (sB (v ++ [32]))) w := fun w => add14 v [32] (v ++ [32]) w (Nat.le_trans HVL.out (by omega)) (by simp) rfl
       have a2 : ∀ w : World, Sem.run Tryz.prog (Op.stringOp .add (sB (v ++ [32])) (sB x)) w = .ok (.string (sB k2)) w := fun w => add14 (v ++ [32]) x k2 w (by rw [List.length_append, List.length_singleton]; have := HVL.out; omega) (Nat.le_trans HXL.out (by omega)) (by rw [← hk2]; simp)
       have a3 : ∀ w : World, Sem.run Tryz.prog (Op.stringOp .add (sB (v ++ [32])) (sB mc)) w = .ok (.string (sB k3)) w := fun w => add14 (v ++ [32]) mc k3 w (by rw [List.length_append, List.length_singleton]; have := HVL.out; omega) (Nat.le_trans HML.out (by omega)) (by rw [← hk3]; simp)
       rw [hk2, hk3] at HBO
       have hwb9 := Nat.lt_of_lt_of_le hwb HX8.out.size
       clear hk2 hk3
       by_cases hgh : g = h
       ·have n1 := sB_eq hgh
        have HNX := Lib.hid (show F ++ (BS.take (i + 1)).flatMap (H.bindOne t h g) = (F ++ (BS.take i).flatMap (H.bindOne t h g)) ++ [⟨h, 2, k2, mc⟩] by rw [HNXT.out, HBO.out, if_pos ⟨HEQ.out, r1⟩, if_pos hgh])
        clear r1 hgh
        go_wp2_with fail
        refine (inR A c n t h v true _ HN.out (HA.out.below (bthen HXW.out HX8.out)) hl30 HR.out HI1.out).mono ?_
        rintro e w9 ⟨rfl, hx9⟩
        have c9 := (hx9.cell (p := ⟨b, _, none⟩) hwb9).trans c8
        have HX9 := Lib.hid (bthen HX8.out hx9)
        have HO9 := Lib.hid (HO.out.keep HX9.out)
        have hsz := Nat.le_trans HB.out.size HX9.out.size
        clear hx9 c8
        go_wp2_with (at_builtin; refine wpList_appS eEd w9 rfl (.tmp 96) (.tmp 107) rfl w2.heap.size u7 (F ++ (BS.take i).flatMap (H.bindOne t h g)) rfl HO9.out ⟨h, 2, k2, mc⟩ 1 #[.string (sB h), .int .i64 2, .string (sB k2), .string (sB mc)] rfl w9.heap.size rfl rfl (by have := HLN.out; omega) hsz ?_; intro v10 w10 ho10 hb10 hg10; have HO10 := Lib.hid ho10; have HB10 := Lib.hid ((HB.out.trans (HX9.out.mono HB.out.size)).trans hb10); have HD10 := Lib.hid (side_app (side_grow HD.out HX9.out) hg10); clear ho10 hb10 hg10)
        go_roundg (bn - (i + 1))
        case rel => exact ⟨i + 1, (by show _ = _; omega), by go_num, (by rw [HNX.out]; exact HO10.out), HD10.out, HB10.out⟩
        case measure => omega
       ·have n1 := sB_ne hgh
        have HNX := Lib.hid (show F ++ (BS.take (i + 1)).flatMap (H.bindOne t h g) = ((F ++ (BS.take i).flatMap (H.bindOne t h g)) ++ [⟨h, 2, k2, mc⟩]) ++ [⟨h, 3, k3, ip⟩] by rw [HNXT.out, HBO.out, if_pos ⟨HEQ.out, r1⟩, if_neg hgh]; simp)
        clear r1 hgh
        go_wp2_with fail
        refine (inR A c n t h v true _ HN.out (HA.out.below (bthen HXW.out HX8.out)) hl30 HR.out HI1.out).mono ?_
        rintro e w9 ⟨rfl, hx9⟩
        have c9 := (hx9.cell (p := ⟨b, _, none⟩) hwb9).trans c8
        have HX9 := Lib.hid (bthen HX8.out hx9)
        have HO9 := Lib.hid (HO.out.keep HX9.out)
        have hsz := Nat.le_trans HB.out.size HX9.out.size
        clear hx9 c8
        go_wp2_with (first
         | (at_builtin; refine wpList_appS eEd w9 rfl (.tmp 96) (.tmp 107) rfl w2.heap.size u7 (F ++ (BS.take i).flatMap (H.bindOne t h g)) rfl HO9.out ⟨h, 2, k2, mc⟩ 1 #[.string (sB h), .int .i64 2, .string (sB k2), .string (sB mc)] rfl w9.heap.size rfl rfl (by have := HLN.out; omega) hsz ?_; intro v10 w10 ho10 hb10 hg10; have HO10 := Lib.hid ho10; have HB10 := Lib.hid ((HB.out.trans (HX9.out.mono HB.out.size)).trans hb10); have HD10 := Lib.hid (side_app (side_grow HD.out HX9.out) hg10); have hsz10 := HB10.out.size; clear ho10 hb10 hg10)
         | (at_builtin; refine wpList_appS eEd w10 rfl (.tmp 112) (.tmp 120) rfl w2.heap.size v10 _ rfl HO10.out ⟨h, 3, k3, ip⟩ 1 #[.string (sB h), .int .i64 3, .string (sB k3), .string (sB ip)] rfl w10.heap.size rfl rfl (by rw [List.length_append, List.length_singleton]; have := HLN.out; omega) hsz10 ?_; intro v11 w11 ho11 hb11 hg11; have HO11 := Lib.hid ho11; have HB11 := Lib.hid (HB10.out.trans hb11); have HD11 := Lib.hid (side_app HD10.out hg11); clear ho11 hb11 hg11))
        go_roundg (bn - (i + 1))
        case rel => exact ⟨i + 1, (by show _ = _; omega), by go_num, (by rw [HNX.out]; exact HO11.out), HD11.out, HB11.out⟩
        case measure => omega
     ·have n0 := sB_ne he
      have HNX := Lib.hid (show F ++ (BS.take (i + 1)).flatMap (H.bindOne t h g) = F ++ (BS.take i).flatMap (H.bindOne t h g) by rw [HNXT.out, HBO.out, if_neg (fun k => he k.1), List.append_nil])
      clear he
      go_wp2
      go_roundg (bn - (i + 1))
      case rel => exact ⟨i + 1, (by show _ = _; omega), by go_num, (by rw [HNX.out]; exact HO.out.keep HX8.out), side_grow HD.out HX8.out, HB.out.trans (HX8.out.mono HB.out.size)⟩
      case measure => omega
    ·have blt : decide ((i : Int) < (bn : Int)) = false := decide_eq_false (by omega)
     have blt2 : decide (i < bn) = false := decide_eq_false hlt
     have hown := HO.out
     rw [List.take_of_length_le (show BS.length ≤ i by rw [HBN.out]; omega)] at hown
     have HOA2 := Lib.hid hown
     have HGL := Lib.hid (show (F ++ BS.flatMap (H.bindOne t h g)).length ≤ 600 by
      have := HF2.out bn
      rw [List.take_of_length_le (Nat.le_of_eq HBN.out)] at this
      rw [List.length_append]
      have := HFL.out
      omega)
     obtain ⟨G, hG⟩ : ∃ z, F ++ BS.flatMap (H.bindOne t h g) = z := ⟨_, rfl⟩
     rw [hG] at HOA2 HGL HL
     have HXW := Lib.hid (HX2.out.trans (HB.out.mono HX2.out.size))
     obtain ⟨wc, hwc⟩ : ∃ z, z = wr := ⟨_, rfl⟩
     subst hwc
     clear hown hG
     go_wp2_with fail
     refine (underN14 A c n t _ 1 1 rn [C.wRoutes] RS _ HN.out rfl (HA.out.below (bthen HXW.out (up _ _))) (lit_seen eS wc [C.wRoutes] _ rfl (by simp)) hl30 (by omega) HR.out HRS.out HRN.out).mono ?_
     rintro e w6 ⟨C6, d6, rfl, hd6, hs6, hf6, hx6⟩
     have HS6 := Lib.hid hs6
     have HK6 := Lib.hid (show ∀ a, C6 = some a → wc.heap.size ≤ a.block from fun a e => Nat.le_trans (up wc _).size (hf6 a e))
     have hx6 := bthen (up _ _) hx6
     have HO6 := Lib.hid (HOA2.out.keep hx6)
     have HSD2 := Lib.hid (side_start (w := w6) HOA2.out (Nat.le_refl _))
     have HB6 := Lib.hid (HB.out.trans (hx6.mono HB.out.size))
     clear hs6 hf6 hx6 hd6
     go_wp2
     go_loopg [7, 16, 17] rn (fun gk vo vi vt wr => ∃ i : Nat, Hid (i + gk = rn) ∧ vi = .int .i64 (i : Int) ∧ Hid (Own eEd wr w2.heap.size vo (G ++ (RS.take i).flatMap (H.routeOne t h g))) ∧ Hid (Side12 wc.heap.size w6 wr vo) ∧ Hid (Below w2.heap.size w2 wr))
     case atStart => exact ⟨0, Nat.zero_add _, rfl, (by rw [List.take_zero, List.flatMap_nil, List.append_nil]; exact HO6.out), HSD2.out, HB6.out⟩
     case round =>
      obtain ⟨i, HG, rfl, HO, HD, HB⟩ := hrel
      have hgk := HG.out
      by_cases hlt : i < rn
      ·have blt : decide ((i : Int) < (rn : Int)) = true := decide_eq_true (by omega)
       have blt2 : decide (i < rn) = true := decide_eq_true hlt
       have hiz : (i : Int) < (rn : Int) := by omega
       have hiN : i < RS.length := by rw [HRN.out]; exact hlt
       obtain ⟨b, o, rfl, hwb, hLn⟩ := side_seen HD.out HS6.out HK6.out (by omega)
       have c0 := hLn.str hiN
       obtain ⟨x, hx⟩ : ∃ z, RS[i] = z := ⟨_, rfl⟩
       have HXI := Lib.hid hx
       rw [hx] at c0
       have HNXT := Lib.hid (show G ++ (RS.take (i + 1)).flatMap (H.routeOne t h g) = (G ++ (RS.take i).flatMap (H.routeOne t h g)) ++ H.routeOne t h g x by
        rw [H.flatMap_next hiN, hx, List.append_assoc])
       have HLN := Lib.hid (show (G ++ (RS.take i).flatMap (H.routeOne t h g)).length ≤ 800 by
        rw [List.length_append]; have := HGL.out; have := HF3.out i; omega)
       obtain ⟨via, hvia⟩ : ∃ z, H.wordH t [C.wRoutes, x, C.wVia] [] = z := ⟨_, rfl⟩
       obtain ⟨me, hme⟩ : ∃ z, H.wordH t [C.wRoutes, x, C.wMetric] [48] = z := ⟨_, rfl⟩
       have HVI := Lib.hid hvia
       have HME := Lib.hid hme
       have HEL := Lib.hid (show me.length ≤ 40 by rw [← hme]; exact HWL.out _ _ (by simp))
       have HIL := Lib.hid (show ip.length ≤ 40 by rw [← HIP.out]; exact HWL.out _ _ (by simp))
       have HRO := Lib.hid (show H.routeOne t h g x = if via = g then [⟨h, 4, x, (if g = h then H.wLocal else ip) ++ 32 :: me⟩] else [] by
        rw [← hvia, ← hme, ← HIP.out]; rfl)
       have HXW := Lib.hid (HX2.out.trans (HB.out.mono HX2.out.size))
       obtain ⟨wb, hwb2⟩ : ∃ z, z = wr := ⟨_, rfl⟩
       subst hwb2
       clear hLn hx hvia hme
       go_wp2_with fail
       refine (wordR A c n t _ 3 3 [C.wRoutes, x, C.wVia] [] via _ HN.out rfl (HA.out.below (bthen HXW.out (up _ _))) (lit_seen eS wb [C.wRoutes, x, C.wVia] _ rfl (by simp)) hl30 (by omega) HR.out HVI.out).mono ?_
       rintro e w7 ⟨rfl, hx7⟩
       have hx7 := bthen (up _ _) hx7
       have c7 := (hx7.cell (p := ⟨b, _, none⟩) hwb).trans c0
       have HX7 := Lib.hid hx7
       clear hx7 c0
       by_cases he : via = g
       ·have n0 := sB_eq he
        have HEQ := Lib.hid he
        clear he
        have HXW7 := Lib.hid (bthen HXW.out HX7.out.drew)
        by_cases hgh : g = h
        ·have n1 := sB_eq hgh
         obtain ⟨k4, hk4⟩ : ∃ z, H.wLocal ++ 32 :: me = z := ⟨_, rfl⟩
         have a1 : ∀ w : World, Sem.run Tryz.prog (Op.stringOp .add (⟨#[108, 111, 99, 97, 108]⟩ : ByteArray) (⟨#[32]⟩ : ByteArray)) w = .ok (.string (sB (H.wLocal ++ [32]))) w := fun w => add14 H.wLocal [32] (H.wLocal ++ [32]) w (by decide) (by simp) rfl
         have a2 : ∀ w : World, Sem.run Tryz.prog (Op.stringOp .add (sB (H.wLocal ++ [32])) (sB me)) w = .ok (.string (sB k4)) w := fun w => add14 (H.wLocal ++ [32]) me k4 w (by decide) (Nat.le_trans HEL.out (by omega)) (by rw [← hk4]; simp)
         have HNX := Lib.hid (show G ++ (RS.take (i + 1)).flatMap (H.routeOne t h g) = (G ++ (RS.take i).flatMap (H.routeOne t h g)) ++ [⟨h, 4, x, k4⟩] by rw [HNXT.out, HRO.out, if_pos HEQ.out, if_pos hgh, hk4])
         clear hgh hk4
         go_wp2
         refine wp_region_held_drew (S := fun w' => w'.cell? ⟨b, o + i, none⟩ = some (.string (sB x))) (by kernel_rfl) c7 (fun hHeld => ?_)
         refine takeZ (i := 0) (v := ?vy0) (d := some 144) ?hyy0 ?resty0
         case hyy0 => intro w hSw; go_simp; try (with_reducible rfl)
         try simp only [pq13]
         refine takeZ (i := 1) (v := ?vy1) (d := some 145) ?hyy1 ?resty1
         case hyy1 => intro w hSw; go_simp; try (with_reducible rfl)
         try simp only [pq13]
         refine takeZ (i := 2) (v := ?vy2) (d := some 146) ?hyy2 ?resty2
         case hyy2 => intro w hSw; go_simp; try (with_reducible rfl)
         try simp only [pq13]
         refine takeZ (i := 3) (v := ?vy3) (d := some 147) ?hyy3 ?resty3
         case hyy3 => intro w hSw; go_simp; try (with_reducible rfl)
         try simp only [pq13]
         refine takeZ (i := 4) (v := ?vy4) (d := some 148) ?hyy4 ?resty4
         case hyy4 => intro w hSw; go_simp; try (with_reducible rfl)
         try simp only [pq13]
         refine takeZ (i := 5) (v := ?vy5) (d := some 149) ?hyy5 ?resty5
         case hyy5 => intro w hSw; go_simp; try (with_reducible rfl)
         try simp only [pq13]
         refine takeZ (i := 6) (v := ?vy6) (d := some 150) ?hyy6 ?resty6
         case hyy6 => intro w hSw; go_simp; try (with_reducible rfl)
         try simp only [pq13]
         refine takeZ (i := 7) (v := ?vy7) (d := some 151) ?hyy7 ?resty7
         case hyy7 => intro w hSw; go_simp; try (with_reducible rfl); try exact a1 _
         try simp only [pq13]
         refine takeZ (i := 8) (v := ?vy8) (d := some 152) ?hyy8 ?resty8
         case hyy8 => intro w hSw; go_simp; try (with_reducible rfl)
         try simp only [pq13]
         refine takeZ (i := 9) (v := ?vy9) (d := some 153) ?hyy9 ?resty9
         case hyy9 => intro w hSw; go_simp; try (with_reducible rfl)
         try simp only [pq13]
         refine takeZ (i := 10) (v := ?vy10) (d := some 154) ?hyy10 ?resty10
         case hyy10 => intro w hSw; go_simp; try (with_reducible rfl)
         try simp only [pq13]
         refine takeZ (i := 11) (v := ?vy11) (d := some 155) ?hyy11 ?resty11
         case hyy11 => intro w hSw; go_simp; try (with_reducible rfl)
         try simp only [pq13]
         refine takeZ (i := 12) (v := ?vy12) (d := some 156) ?hyy12 ?resty12
         case hyy12 => intro w hSw; go_simp; try (with_reducible rfl)
         try simp only [pq13]
         refine wpAnyH_ready (rs := [13]) (by kernel_rfl) (by simp) ?_
         refine AllReadyH.cons rfl (fun K hK => ?_) AllReadyH.nil
         go_simp
         have c8 := ((up w7 (.cells #[.string ⟨#[114, 111, 117, 116, 101, 115]⟩, .string (sB x), .string ⟨#[109, 101, 116, 114, 105, 99]⟩] 9)).cell (p := ⟨b, o + i, none⟩) (Nat.lt_of_lt_of_le hwb HX7.out.size)).trans c7
         refine hK.out _ _ (c8) (fun hHeld => ?_)
         clear hK K
         try simp only [pq13]
         refine wpAnyH_ready (rs := [14]) (by kernel_rfl) (by simp) ?_
         refine AllReadyH.cons rfl (fun K hK => ?_) AllReadyH.nil
         go_simp
         go_at_call 34
         refine (wordR A c n t _ 3 3 [C.wRoutes, x, C.wMetric] [48] me _ HN.out rfl (HA.out.below (bthen (bthen HXW.out HX7.out) (up _ _).drew)) ((lit_seen eS w7 [C.wRoutes, x, C.wMetric] _ rfl (by simp)).below (Below.refl _ _).drew) hl30 (by omega) HR.out HME.out).mono ?_
         rintro e w8 ⟨rfl, hx8⟩
         have hx8 := bthen (up w7 _).drew hx8
         have c9 := (hx8.cell (p := ⟨b, o + i, none⟩) (Nat.lt_of_lt_of_le hwb HX7.out.size)).trans c7
         have HX8 := Lib.hid (bthen HX7.out hx8)
         have HO8 := Lib.hid (HO.out.keep HX8.out)
         have hsz := Nat.le_trans HB.out.size HX8.out.size
         clear hx8 hHeld
         refine hK.out _ _ (c9) (fun hHeld => ?_)
         clear hK K
         try simp only [pq13]
         refine takeZ (i := 15) (v := ?vy15) (d := some 159) ?hyy15 ?resty15
         case hyy15 => intro w hSw; go_simp; try (with_reducible rfl); try exact a2 _
         try simp only [pq13]
         refine takeZ (i := 16) (v := ?vy16) (d := some 160) ?hyy16 ?resty16
         case hyy16 => intro w hSw; go_simp; try (with_reducible rfl)
         try simp only [pq13]
         refine wpAnyH_ready (rs := [17]) (by kernel_rfl) (by simp) ?_
         refine AllReadyH.cons rfl (fun K hK => ?_) AllReadyH.nil
         go_simp
         have c10 := ((up w8 (.cells #[.string (sB h), .int .i64 4, .string (sB x), .string (sB k4)] 36)).cell (p := ⟨b, o + i, none⟩) (Nat.lt_of_lt_of_le hwb HX8.out.size)).trans c9
         refine hK.out _ _ (c10) (fun hHeld => ?_)
         clear hK K
         try simp only [pq13]
         refine wpAnyH_ready (rs := [18]) (by kernel_rfl) (by simp) ?_
         refine AllReadyH.cons rfl (fun K hK => ?_) AllReadyH.nil
         rw [if_pos (by rfl)]
         refine wp_app3 eEd w8 (.tmp 144) (.tmp 161) rfl w2.heap.size u7 (G ++ (RS.take i).flatMap (H.routeOne t h g)) rfl HO8.out ⟨h, 4, x, k4⟩ 1 #[.string (sB h), .int .i64 4, .string (sB x), .string (sB k4)] rfl w8.heap.size rfl rfl (by have := HLN.out; omega) hsz ?_
         intro v10 w10 hG10
         have hg10 := g12_of hG10
         have HO10 := Lib.hid hG10.own
         have HB10 := Lib.hid ((HB.out.trans (HX8.out.mono HB.out.size)).trans (hG10.below HO8.out hsz))
         have HD10 := Lib.hid (side_app (side_grow HD.out HX8.out) hg10)
         obtain ⟨b9, o9, e9, _, hL9⟩ := side_seen HD10.out HS6.out HK6.out (by omega)
         injection e9 with e9
         injection e9 with e9 e9b
         subst e9
         subst e9b
         have c11 := hL9.str hiN
         rw [HXI.out] at c11
         clear hG10 hg10 hHeld hL9
         refine hK.out _ _ (c11) (fun hHeld => ?_)
         clear hK K
         try simp only [pq13]
         refine takeZ (i := 19) (v := ?vy19) (d := some 7) ?hyy19 ?resty19
         case hyy19 => intro w hSw; go_simp; try (with_reducible rfl)
         try simp only [pq13]
         refine wpAnyH_done (by kernel_rfl) ?_ _
         go_wp2
         go_roundg (rn - (i + 1))
         case rel => exact ⟨i + 1, (by show _ = _; omega), by go_num, (by rw [HNX.out]; exact HO10.out), HD10.out, HB10.out⟩
         case measure => omega
        ·have n1 := sB_ne hgh
         obtain ⟨k4, hk4⟩ : ∃ z, ip ++ 32 :: me = z := ⟨_, rfl⟩
         have a1 : ∀ w : World, Sem.run Tryz.prog (Op.stringOp .add (sB ip) (⟨#[32]⟩ : ByteArray)) w = .ok (.string (sB (ip ++ [32]))) w := fun w => add14 ip [32] (ip ++ [32]) w (Nat.le_trans HIL.out (by omega)) (by simp) rfl
         have a2 : ∀ w : World, Sem.run Tryz.prog (Op.stringOp .add (sB (ip ++ [32])) (sB me)) w = .ok (.string (sB k4)) w := fun w => add14 (ip ++ [32]) me k4 w (by rw [List.length_append, List.length_singleton]; have := HIL.out; omega) (Nat.le_trans HEL.out (by omega)) (by rw [← hk4]; simp)
         have HNX := Lib.hid (show G ++ (RS.take (i + 1)).flatMap (H.routeOne t h g) = (G ++ (RS.take i).flatMap (H.routeOne t h g)) ++ [⟨h, 4, x, k4⟩] by rw [HNXT.out, HRO.out, if_pos HEQ.out, if_neg hgh, hk4])
         clear hgh hk4
         go_wp2
         refine wp_region_held_drew (S := fun w' => w'.cell? ⟨b, o + i, none⟩ = some (.string (sB x))) (by kernel_rfl) c7 (fun hHeld => ?_)
         refine takeZ (i := 0) (v := ?vn0) (d := some 144) ?hyn0 ?restn0
         case hyn0 => intro w hSw; go_simp; try (with_reducible rfl)
         try simp only [pq13]
         refine takeZ (i := 1) (v := ?vn1) (d := some 145) ?hyn1 ?restn1
         case hyn1 => intro w hSw; go_simp; try (with_reducible rfl)
         try simp only [pq13]
         refine takeZ (i := 2) (v := ?vn2) (d := some 146) ?hyn2 ?restn2
         case hyn2 => intro w hSw; go_simp; try (with_reducible rfl)
         try simp only [pq13]
         refine takeZ (i := 3) (v := ?vn3) (d := some 147) ?hyn3 ?restn3
         case hyn3 => intro w hSw; go_simp; try (with_reducible rfl)
         try simp only [pq13]
         refine takeZ (i := 4) (v := ?vn4) (d := some 148) ?hyn4 ?restn4
         case hyn4 => intro w hSw; go_simp; try (with_reducible rfl)
         try simp only [pq13]
         refine takeZ (i := 5) (v := ?vn5) (d := some 149) ?hyn5 ?restn5
         case hyn5 => intro w hSw; go_simp; try (with_reducible rfl)
         try simp only [pq13]
         refine takeZ (i := 6) (v := ?vn6) (d := some 150) ?hyn6 ?restn6
         case hyn6 => intro w hSw; go_simp; try (with_reducible rfl)
         try simp only [pq13]
         refine takeZ (i := 7) (v := ?vn7) (d := some 151) ?hyn7 ?restn7
         case hyn7 => intro w hSw; go_simp; try (with_reducible rfl); try exact a1 _
         try simp only [pq13]
         refine takeZ (i := 8) (v := ?vn8) (d := some 152) ?hyn8 ?restn8
         case hyn8 => intro w hSw; go_simp; try (with_reducible rfl)
         try simp only [pq13]
         refine takeZ (i := 9) (v := ?vn9) (d := some 153) ?hyn9 ?restn9
         case hyn9 => intro w hSw; go_simp; try (with_reducible rfl)
         try simp only [pq13]
         refine takeZ (i := 10) (v := ?vn10) (d := some 154) ?hyn10 ?restn10
         case hyn10 => intro w hSw; go_simp; try (with_reducible rfl)
         try simp only [pq13]
         refine takeZ (i := 11) (v := ?vn11) (d := some 155) ?hyn11 ?restn11
         case hyn11 => intro w hSw; go_simp; try (with_reducible rfl)
         try simp only [pq13]
         refine takeZ (i := 12) (v := ?vn12) (d := some 156) ?hyn12 ?restn12
         case hyn12 => intro w hSw; go_simp; try (with_reducible rfl)
         try simp only [pq13]
         refine wpAnyH_ready (rs := [13]) (by kernel_rfl) (by simp) ?_
         refine AllReadyH.cons rfl (fun K hK => ?_) AllReadyH.nil
         go_simp
         have c8 := ((up w7 (.cells #[.string ⟨#[114, 111, 117, 116, 101, 115]⟩, .string (sB x), .string ⟨#[109, 101, 116, 114, 105, 99]⟩] 9)).cell (p := ⟨b, o + i, none⟩) (Nat.lt_of_lt_of_le hwb HX7.out.size)).trans c7
         refine hK.out _ _ (c8) (fun hHeld => ?_)
         clear hK K
         try simp only [pq13]
         refine wpAnyH_ready (rs := [14]) (by kernel_rfl) (by simp) ?_
         refine AllReadyH.cons rfl (fun K hK => ?_) AllReadyH.nil
         go_simp
         go_at_call 34
         refine (wordR A c n t _ 3 3 [C.wRoutes, x, C.wMetric] [48] me _ HN.out rfl (HA.out.below (bthen (bthen HXW.out HX7.out) (up _ _).drew)) ((lit_seen eS w7 [C.wRoutes, x, C.wMetric] _ rfl (by simp)).below (Below.refl _ _).drew) hl30 (by omega) HR.out HME.out).mono ?_
         rintro e w8 ⟨rfl, hx8⟩
         have hx8 := bthen (up w7 _).drew hx8
         have c9 := (hx8.cell (p := ⟨b, o + i, none⟩) (Nat.lt_of_lt_of_le hwb HX7.out.size)).trans c7
         have HX8 := Lib.hid (bthen HX7.out hx8)
         have HO8 := Lib.hid (HO.out.keep HX8.out)
         have hsz := Nat.le_trans HB.out.size HX8.out.size
         clear hx8 hHeld
         refine hK.out _ _ (c9) (fun hHeld => ?_)
         clear hK K
         try simp only [pq13]
         refine takeZ (i := 15) (v := ?vn15) (d := some 159) ?hyn15 ?restn15
         case hyn15 => intro w hSw; go_simp; try (with_reducible rfl); try exact a2 _
         try simp only [pq13]
         refine takeZ (i := 16) (v := ?vn16) (d := some 160) ?hyn16 ?restn16
         case hyn16 => intro w hSw; go_simp; try (with_reducible rfl)
         try simp only [pq13]
         refine wpAnyH_ready (rs := [17]) (by kernel_rfl) (by simp) ?_
         refine AllReadyH.cons rfl (fun K hK => ?_) AllReadyH.nil
         go_simp
         have c10 := ((up w8 (.cells #[.string (sB h), .int .i64 4, .string (sB x), .string (sB k4)] 36)).cell (p := ⟨b, o + i, none⟩) (Nat.lt_of_lt_of_le hwb HX8.out.size)).trans c9
         refine hK.out _ _ (c10) (fun hHeld => ?_)
         clear hK K
         try simp only [pq13]
         refine wpAnyH_ready (rs := [18]) (by kernel_rfl) (by simp) ?_
         refine AllReadyH.cons rfl (fun K hK => ?_) AllReadyH.nil
         rw [if_pos (by rfl)]
         refine wp_app3 eEd w8 (.tmp 144) (.tmp 161) rfl w2.heap.size u7 (G ++ (RS.take i).flatMap (H.routeOne t h g)) rfl HO8.out ⟨h, 4, x, k4⟩ 1 #[.string (sB h), .int .i64 4, .string (sB x), .string (sB k4)] rfl w8.heap.size rfl rfl (by have := HLN.out; omega) hsz ?_
         intro v10 w10 hG10
         have hg10 := g12_of hG10
         have HO10 := Lib.hid hG10.own
         have HB10 := Lib.hid ((HB.out.trans (HX8.out.mono HB.out.size)).trans (hG10.below HO8.out hsz))
         have HD10 := Lib.hid (side_app (side_grow HD.out HX8.out) hg10)
         obtain ⟨b9, o9, e9, _, hL9⟩ := side_seen HD10.out HS6.out HK6.out (by omega)
         injection e9 with e9
         injection e9 with e9 e9b
         subst e9
         subst e9b
         have c11 := hL9.str hiN
         rw [HXI.out] at c11
         clear hG10 hg10 hHeld hL9
         refine hK.out _ _ (c11) (fun hHeld => ?_)
         clear hK K
         try simp only [pq13]
         refine takeZ (i := 19) (v := ?vn19) (d := some 7) ?hyn19 ?restn19
         case hyn19 => intro w hSw; go_simp; try (with_reducible rfl)
         try simp only [pq13]
         refine wpAnyH_done (by kernel_rfl) ?_ _
         go_wp2
         go_roundg (rn - (i + 1))
         case rel => exact ⟨i + 1, (by show _ = _; omega), by go_num, (by rw [HNX.out]; exact HO10.out), HD10.out, HB10.out⟩
         case measure => omega
       ·have n0 := sB_ne he
        have HNX := Lib.hid (show G ++ (RS.take (i + 1)).flatMap (H.routeOne t h g) = G ++ (RS.take i).flatMap (H.routeOne t h g) by rw [HNXT.out, HRO.out, if_neg he, List.append_nil])
        clear he
        go_wp2
        go_roundg (rn - (i + 1))
        case rel => exact ⟨i + 1, (by show _ = _; omega), by go_num, (by rw [HNX.out]; exact HO.out.keep HX7.out), side_grow HD.out HX7.out, HB.out.trans (HX7.out.mono HB.out.size)⟩
        case measure => omega
      ·have blt : decide ((i : Int) < (rn : Int)) = false := decide_eq_false (by omega)
       have blt2 : decide (i < rn) = false := decide_eq_false hlt
       have hown := HO.out
       rw [List.take_of_length_le (show RS.length ≤ i by rw [HRN.out]; omega), HL.out] at hown
       have HOZ := Lib.hid (hown.base HX2.out.size)
       clear hown
       go_wp2
       go_ret
       exact ⟨_, rfl, HOZ.out, HX2.out.trans (HB.out.mono HX2.out.size)⟩
end Go.Proofs.YtfcikfohmehmkaaGreatDoor
namespace Go.Proofs.YtfcikfohmehmkaaGreatDoor.H
set_option linter.unusedVariables false
open T (Pth RightN RightT isIn underW Ln pathL)
open C (Wd wHosts wVnis wBindings wRoutes wPolicy wIp wMac wHost wVni wVia wMetric wAction wFrom wTo pths checkP faultsP knownP kidsP liveP atP meantP thirdK needsW hasP key mem_pths)
-- A TREE WITHOUT FAULTS
theorem faults_known {P : List Pth} {p : Pth} (h : faultsP P p = []) : knownP p = 0 := Decidable.byContradiction fun k => by
 unfold faultsP at h
 rw [if_pos k] at h
 cases h
theorem clean {Z : Nat} {t : List Ln} (hR : RightN Z t) (h : checkP (pths t) = []) : ∀ (n : Nat) (p : Pth), p.length ≤ n → isIn t p → faultsP (pths t) p = []
 | 0, p, hn, hi => by
  obtain ⟨i, _, e⟩ := hi
  exact absurd (List.length_eq_zero_iff.1 (Nat.le_zero.1 hn)) (by rw [← e]; exact T.path_ne)
 | n + 1, p, hn, hi => by
  have hl : liveP p = true := by
   unfold liveP
   rw [List.all_eq_true]
   intro k hk
   have hk := List.mem_range.1 hk
   by_cases h0 : k = 0
   ·simp [h0]
   ·have hne : p.take k ≠ [] := fun e => by
     have := congrArg List.length e
     rw [List.length_take, List.length_nil] at this
     omega
    have := faults_known (clean hR h n (p.take k) (by rw [List.length_take]; omega) (hR.in_pre hne hi (T.pre_iff.2 ⟨p.drop k, (List.take_append_drop k p).symm⟩)))
    simp [this]
  unfold checkP at h
  have := List.flatMap_eq_nil_iff.1 h p (mem_pths.2 hi)
  unfold atP at this
  rwa [if_pos hl] at this
theorem under_count {Z : Nat} {t : List Ln} (hR : RightN Z t) {p : Pth} (h : isIn t p) : (underW t p).length = (kidsP (pths t) p).length := by
 obtain ⟨i, hi, rfl⟩ := h
 rw [C.kids_count hR hi, ← T.pathI_nat t i, ← T.kids_words hR (i := (i : Int)) ⟨by omega, by omega⟩, List.length_map]
theorem one_word {Z : Nat} {t : List Ln} (hR : RightN Z t) (h : checkP (pths t) = []) {a b c : Wd} (hi : isIn t [a, b, c]) (h1 : (thirdK (key a c)).2.1 = true) : ∃ x, underW t [a, b, c] = [x] := by
 have hf := clean hR h 3 _ (by simp) hi
 have hk := faults_known hf
 unfold faultsP at hf
 rw [if_neg (fun k => k hk)] at hf
 simp only at hf
 rw [if_pos h1] at hf
 have hc := under_count hR hi
 split at hf
 ·cases hf
 ·split at hf
  ·cases hf
  ·cases hu : underW t [a, b, c] with
   | nil => rw [hu] at hc; simp at hc; omega
   | cons x r =>
    rw [hu] at hc
    simp at hc
    exact ⟨x, by rw [List.length_eq_zero_iff.1 (show r.length = 0 by omega)]⟩
theorem needed {Z : Nat} {t : List Ln} (hR : RightN Z t) (h : checkP (pths t) = []) {a b c : Wd} (hi : isIn t [a, b]) (hc : c ∈ needsW a) : isIn t [a, b, c] := by
 have hf := clean hR h 2 _ (by simp) hi
 have hk := faults_known hf
 unfold faultsP at hf
 rw [if_neg (fun k => k hk)] at hf
 simp only at hf
 rw [List.map_eq_nil_iff, List.filter_eq_nil_iff] at hf
 have := hf c hc
 simp only [Bool.not_eq_true', Bool.not_eq_false] at this
 unfold hasP kidsP at this
 exact mem_pths.1 (List.mem_filter.1 (of_decide_eq_true this)).1
theorem under_one {Z : Nat} {t : List Ln} (hR : RightN Z t) (h : checkP (pths t) = []) {a b c : Wd} (hi : b ∈ underW t [a]) (hc : c ∈ needsW a) (h1 : (thirdK (key a c)).2.1 = true) : ∃ x, underW t [a, b, c] = [x] :=
 one_word hR h (needed hR h (T.mem_underW.1 hi) hc) h1
theorem bind_host {Z : Nat} {t : List Ln} (hR : RightN Z t) (h : checkP (pths t) = []) {b : Wd} (hi : b ∈ underW t [wBindings]) : ∃ x, underW t [wBindings, b, wHost] = [x] := under_one hR h hi (by decide) (by decide)
theorem route_via {Z : Nat} {t : List Ln} (hR : RightN Z t) (h : checkP (pths t) = []) {b : Wd} (hi : b ∈ underW t [wRoutes]) : ∃ x, underW t [wRoutes, b, wVia] = [x] := under_one hR h hi (by decide) (by decide)
theorem word_there {Z : Nat} {t : List Ln} (hR : RightN Z t) (h : checkP (pths t) = []) {a b c d : Wd} (hk : key a c = key wBindings wHost ∨ key a c = key wRoutes wVia) (hi : d ∈ underW t [a, b, c]) : d ∈ underW t [wHosts] := by
 have hf := clean hR h 4 _ (by simp) (T.mem_underW.1 hi)
 have hkn := faults_known hf
 unfold faultsP at hf
 rw [if_neg (fun k => k hkn)] at hf
 have hm : meantP (pths t) [a, b, c, d] = false := by
  cases hm : meantP (pths t) [a, b, c, d] with
  | false => rfl
  | true =>
   simp only [List.cons_append, List.nil_append] at hf
   rw [if_pos hm] at hf
   cases hf
 unfold meantP at hm
 simp only at hm
 rw [if_neg (by rcases hk with e | e <;> rw [e] <;> decide), if_pos hk, Bool.not_eq_false', decide_eq_true_eq] at hm
 exact T.mem_underW.2 (mem_pths.1 hm)
theorem word_is {t : List Ln} {p : Pth} {x o : Wd} (h : underW t p = [x]) : wordH t p o = x := by unfold wordH; rw [h]; rfl
theorem via_host {Z : Nat} {t : List Ln} (hR : RightN Z t) (h : checkP (pths t) = []) {b : Wd} (hi : b ∈ underW t [wRoutes]) : wordH t [wRoutes, b, wVia] [] ∈ underW t [wHosts] := by
 obtain ⟨x, hx⟩ := route_via hR h hi
 rw [word_is hx]
 exact word_there hR h (b := b) (c := wVia) (.inr rfl) (by rw [hx]; simp)
theorem bound_host {Z : Nat} {t : List Ln} (hR : RightN Z t) (h : checkP (pths t) = []) {b : Wd} (hi : b ∈ underW t [wBindings]) : wordH t [wBindings, b, wHost] [] ∈ underW t [wHosts] := by
 obtain ⟨x, hx⟩ := bind_host hR h hi
 rw [word_is hx]
 exact word_there hR h (b := b) (c := wHost) (.inl rfl) (by rw [hx]; simp)
-- ENTRIES ONE BY ONE
theorem mem_flood {t : List Ln} {h g : Wd} {x : En} : x ∈ floodL t h g ↔ ∃ v ∈ underW t [wVnis], h ≠ g ∧ inH t h v = true ∧ inH t g v = true ∧ x = ⟨h, 1, v, ipH t g⟩ := by
 unfold floodL
 rw [List.mem_map]
 constructor
 ·rintro ⟨v, hv, e⟩
  obtain ⟨h1, h2⟩ := List.mem_filter.1 hv
  simp only [Bool.and_eq_true, decide_eq_true_eq] at h2
  exact ⟨v, h1, h2.1.1, h2.1.2, h2.2, e.symm⟩
 ·rintro ⟨v, h1, h2, h3, h4, e⟩
  refine ⟨v, List.mem_filter.2 ⟨h1, ?_⟩, e.symm⟩
  simp only [Bool.and_eq_true, decide_eq_true_eq]
  exact ⟨⟨h2, h3⟩, h4⟩
theorem mem_pairs {t : List Ln} {h g : Wd} {x : En} : x ∈ pairsL t h g ↔ x ∈ floodL t h g ∨ x ∈ bindL t h g ∨ x ∈ routeL t h g := by
 unfold pairsL
 rw [List.mem_append, List.mem_append]
 exact or_assoc
theorem mem_host {t : List Ln} {h : Wd} {x : En} : x ∈ hostL t h ↔ (∃ g ∈ underW t [wHosts], x ∈ pairsL t h g) ∨ x ∈ polL t h := by
 unfold hostL
 rw [List.mem_append, List.mem_flatMap]
-- THE SAME PATHS, THE SAME TABLES
end Go.Proofs.YtfcikfohmehmkaaGreatDoor.H
namespace Go.Proofs.YtfcikfohmehmkaaGreatDoor.H
set_option linter.unusedVariables false
open T (Pth RightN RightT isIn underW Ln pathL entries)
open C (Wd wHosts wVnis wBindings wRoutes wPolicy wIp wMac wHost wVni wVia wMetric wAction wFrom wTo pths checkP faultsP knownP kidsP liveP atP meantP thirdK needsW hasP key mem_pths twiceP outP sameAd)
-- A TREE MADE ANEW
-- HOW MANY
def routeE (t : List Ln) (h p : Wd) : En := ⟨h, 4, p, (if wordH t [wRoutes, p, wVia] [] = h then wLocal else ipH t (wordH t [wRoutes, p, wVia] [])) ++ 32 :: wordH t [wRoutes, p, wMetric] [48]⟩
theorem mem_route {t : List Ln} {h g : Wd} {x : En} : x ∈ routeL t h g ↔ ∃ p ∈ underW t [wRoutes], wordH t [wRoutes, p, wVia] [] = g ∧ x = routeE t h p := by
 unfold routeL
 rw [List.mem_flatMap]
 constructor
 ·rintro ⟨p, hp, hx⟩
  unfold routeOne at hx
  split at hx
  ·next k =>
   rw [List.mem_singleton] at hx
   exact ⟨p, hp, k, by unfold routeE; rw [k]; exact hx⟩
  ·cases hx
 ·rintro ⟨p, hp, k, e⟩
  refine ⟨p, hp, ?_⟩
  unfold routeOne
  rw [if_pos k, List.mem_singleton, e]
  unfold routeE
  rw [k]
end Go.Proofs.YtfcikfohmehmkaaGreatDoor.H
namespace Go.Proofs.YtfcikfohmehmkaaGreatDoor.H
set_option linter.unusedVariables false
open T (Pth RightN RightT isIn underW Ln pathL entries)
open C (Wd wHosts wVnis wBindings wRoutes wPolicy wIp wMac wHost wVni wVia wMetric wAction wFrom wTo pths checkP faultsP knownP kidsP liveP atP meantP thirdK needsW hasP key mem_pths twiceP outP sameAd isKid)
def offP (a w : Wd) (q : Pth) : Bool := decide (q.take 2 ≠ [a, w])
theorem off_head {a w b : Wd} {r : Pth} (h : b ≠ a) (z : Wd) : offP a w (b :: r ++ [z]) = true := by
 unfold offP
 rw [decide_eq_true_eq]
 intro e
 injection e with e1 e2
 exact h e1
-- NO FAULT COMES
theorem kids_off {P : List Pth} {a w : Wd} {p : Pth} (h : ∀ z, offP a w (p ++ [z]) = true) : kidsP (P.filter (offP a w)) p = kidsP P p := by
 unfold kidsP
 rw [List.filter_filter]
 refine List.filter_congr fun q _ => ?_
 cases hk : isKid p q with
 | false => rfl
 | true =>
  unfold isKid at hk
  obtain ⟨h1, h2⟩ := of_decide_eq_true hk
  obtain ⟨q1, z, hq⟩ := T.snoc_of h1
  rw [hq, List.dropLast_concat] at h2
  rw [hq, h2, h z]
  rfl
theorem out_off {P : List Pth} {a w : Wd} (ha : wVnis ≠ a) (b d : Wd) : outP (P.filter (offP a w)) b d = outP P b d := by
 unfold outP
 rw [kids_off fun z => off_head ha z]
-- THE TABLES
end Go.Proofs.YtfcikfohmehmkaaGreatDoor.H
namespace Go.Proofs.YtfcikfohmehmkaaGreatDoor
open Go.RowKit
set_option linter.unusedVariables false
abbrev FlM := PtM × Int
abbrev Fl := T.Pth × Int
def flC (x : FlM) : List Value := [.slice x.1.A x.1.n x.1.c, .int .i64 x.2]
theorem flC_one (x : FlM) (u : Value) (hu : u ∈ flC x) : u.oneCell' = true := by
 simp [flC] at hu
 rcases hu with rfl | rfl <;> rfl
def eFd : Elem FlM where
 st := 62
 T := 102
 sz := 2
 zero := .agg #[.slice none 0 0, .int .i64 0]
 by_ := 32
 C := flC
 hst := Tryz.underlying62
 hin := by kernel_rfl
 hzs := rfl
 hsz := by decide
 hby := by decide
 len := fun _ => rfl
 one := flC_one
def eFc : Elem FlM where
 st := 55
 T := 91
 sz := 2
 zero := .agg #[.slice none 0 0, .int .i64 0]
 by_ := 32
 C := flC
 hst := Tryz.underlying55
 hin := by kernel_rfl
 hzs := rfl
 hsz := by decide
 hby := by decide
 len := fun _ => rfl
 one := flC_one
structure FlK (w : World) (k : Nat) (m : FlM) (x : Fl) : Prop where
 pt : PtK w k m.1 x.1
 num : m.2 = x.2
theorem FlK.below {w w1 : World} {k : Nat} {m : FlM} {x : Fl} (h : FlK w k m x) (hb : Below w.heap.size w w1) : FlK w1 k m x := ⟨h.pt.below hb, h.num⟩
theorem FlK.less {w : World} {k j : Nat} {m : FlM} {x : Fl} (h : FlK w k m x) (hj : j ≤ k) : FlK w j m x := ⟨h.pt.less hj, h.num⟩
def ManyF (E : Elem FlM) (w : World) (k : Nat) (v : Value) (L : List Fl) : Prop := ∃ M : List FlM, M.length = L.length ∧ VecAt E w v M ∧ ∀ i (h1 : i < M.length) (h2 : i < L.length), FlK w k M[i] L[i]
theorem ManyF.nil (E : Elem FlM) (w : World) (k : Nat) : ManyF E w k (.slice none 0 0) [] := ⟨[], rfl, VecAt.nil _ _, fun i h => absurd h (Nat.not_lt_zero i)⟩
def OwnF (E : Elem FlM) (w : World) (base k : Nat) (v : Value) (L : List Fl) : Prop := ∃ M : List FlM, M.length = L.length ∧ Own E w base v M ∧ ∀ i (h1 : i < M.length) (h2 : i < L.length), FlK w k M[i] L[i] ∧ FreeQ v M[i].1 L[i].1
theorem OwnF.nil (E : Elem FlM) (w : World) (base k : Nat) : OwnF E w base k (.slice none 0 0) [] := ⟨[], rfl, Own.nil _ _, fun i h => absurd h (Nat.not_lt_zero i)⟩
theorem OwnF.keep {E : Elem FlM} {w w1 : World} {base k : Nat} {v : Value} {L : List Fl} (h : OwnF E w base k v L) (hb : Below w.heap.size w w1) : OwnF E w1 base k v L := by
 obtain ⟨M, h1, h2, h3⟩ := h
 exact ⟨M, h1, h2.keep hb, fun i h4 h5 => ⟨(h3 i h4 h5).1.below hb, (h3 i h4 h5).2⟩⟩
theorem OwnF.flMany {E : Elem FlM} {w : World} {base k : Nat} {v : Value} {L : List Fl} (h : OwnF E w base k v L) : ManyF E w k v L := by
 obtain ⟨M, h1, h2, h3⟩ := h
 exact ⟨M, h1, VecAt.own h2, fun i h4 h5 => (h3 i h4 h5).1⟩
theorem OwnF.flBlock {E : Elem FlM} {w : World} {base k : Nat} {v : Value} {L : List Fl} (h : OwnF E w base k v L) : ∀ b, v.ownBlock = some b → base ≤ b ∧ b < w.heap.size := by
 obtain ⟨M, _, h2, _⟩ := h
 exact h2.lt
theorem OwnF.snoc {E : Elem FlM} {w w' : World} {base k : Nat} {v v' : Value} {M : List FlM} {L : List Fl} {m : FlM} {x : Fl} (hl : M.length = L.length) (he : ∀ i (h1 : i < M.length) (h2 : i < L.length), FlK w k M[i] L[i] ∧ FreeQ v M[i].1 L[i].1)
  (hx : FlK w k m x) (hf : FreeQ v m.1 x.1) (hg : Grew E w w' base v v' (M ++ [m])) : OwnF E w' base k v' (L ++ [x]) := by
 have step : ∀ (m : FlM) (x : Fl), FlK w k m x → FreeQ v m.1 x.1 → FlK w' k m x ∧ FreeQ v' m.1 x.1 := by
  intro m x hx hf
  refine ⟨⟨⟨⟨hx.pt.pt.len, hx.pt.pt.cap, fun hp => ?_⟩, hx.pt.from_⟩, hx.num⟩, fun hp a ha e => ?_⟩
  ·obtain ⟨b, o, e, hb, hH⟩ := hx.pt.pt.seen hp
   have hne := hf hp _ e
   exact ⟨b, o, e, Nat.lt_of_lt_of_le hb hg.grown.size, holds_of_block hH (hg.grown.block b hb (fun e => hne e.symm))⟩
  ·obtain ⟨b, o, e2, hb, _⟩ := hx.pt.pt.seen hp
   have hne := hf hp a ha
   have eb : a.block = b := by rw [e2] at ha; injection ha with ha; rw [← ha]
   rcases hg.at_ with h | ⟨g, h, h4⟩
   ·rw [h] at e; exact hne e
   ·rw [h] at e; injection e with e; omega
 refine ⟨M ++ [m], by rw [List.length_append, List.length_append, hl]; rfl, hg.own, fun i h1 h2 => ?_⟩
 rw [List.length_append, List.length_singleton] at h1
 by_cases hi : i < M.length
 ·rw [List.getElem_append_left hi, List.getElem_append_left (by omega)]
  exact step _ _ (he i hi (by omega)).1 (he i hi (by omega)).2
 ·obtain rfl : i = M.length := by omega
  have e1 : (M ++ [m])[M.length]'(by simp) = m := by simp
  have e2 : (L ++ [x])[M.length]'(by rw [List.length_append, hl]; simp) = x := by simp [hl]
  rw [e1, e2]
  exact step _ _ hx hf
theorem wpList_appF (E : Elem FlM) {ops : Array Oper} {rest : List Oper} {o : Oper} {a : Act} {Q : Exit → Act → World → Prop} (w : World) (hgd : o.guard = none) (s x : Operand)
  (ho : o.op = .call { callee := .builtin .append, args := #[s, x], argTypes := #[E.st, E.st] })
  (base k : Nat) (v : Value) (L : List Fl) (hs : a.eval s = v) (hown : OwnF E w base k v L) (y : Fl) (m : FlM) (hy : FlK w k m y) (hf : FreeQ v m.1 y.1) (cap : Nat) (cs : Array Value) (hcs : cs.toList = E.C m)
  (g : Nat) (hg : w.heap.size = g) (hx : a.eval x = .slice (some ⟨g, 0, none⟩) 1 cap) (hlen : L.length + 1 ≤ 1099511627776) (hb : base ≤ w.heap.size)
  (h : ∀ v' w', OwnF E w' base k v' (L ++ [y]) → Below base w w' → wpList Tryz.prog ops Q rest (a.put o.dst v') w') : wpList Tryz.prog ops Q (o :: rest) a (w.alloc (.cells cs E.T)) := by
 obtain ⟨M, h1, h2, h3⟩ := hown
 exact wpList_app3 E w hgd s x ho base v M hs h2 m cap cs hcs g hg hx (by omega) hb fun v' w' hG => h v' w' (OwnF.snoc h1 h3 hy hf hG) (hG.below h2 hb)
structure LArgS (w : World) (A : Option Addr) (c n : Nat) (t : List T.Ln) : Prop where
 len : t.length = n
 most : n ≤ 200
 cap : n ≤ c
 nil : NilOk A c
 seen : Seen eL w A t
theorem LArgS.below {w w1 : World} {A : Option Addr} {c n : Nat} {t : List T.Ln} (h : LArgS w A c n t) (hb : Below w.heap.size w w1) : LArgS w1 A c n t := ⟨h.len, h.most, h.cap, h.nil, h.seen.below hb⟩
def CheckIs (t : List T.Ln) (L : List Fl) (er : Int) : Prop := (T.RightT t ∧ L = C.checkP (C.pths t) ∧ er = 0) ∨ (¬ T.RightT t ∧ L = [] ∧ er = 1)
def needsL (p : T.Pth) : List C.Wd := match p with
 | [a, b] => if C.secondW a ≠ [] ∧ C.knownP [a, b] = 0 then C.needsW a else []
 | _ => []
def rowsL : List (C.Wd × C.Wd × Bool × Bool) := [([104, 111, 115, 116, 115], C.kName, false, false), ([104, 111, 115, 116, 115, 32, 36, 110, 97, 109, 101, 32, 105, 112], C.kIp, true, true), ([104, 111, 115, 116, 115, 32, 36, 110, 97, 109, 101, 32, 109, 97, 99], C.kMac, true, false), ([104, 111, 115, 116, 115, 32, 36, 110, 97, 109, 101, 32, 118, 110, 105, 115], C.kVni, false, false), ([118, 110, 105, 115], C.kVni, false, false), ([118, 110, 105, 115, 32, 36, 118, 110, 105, 32, 115, 117, 98, 110, 101, 116], C.kPrefix, true, true), ([98, 105, 110, 100, 105, 110, 103, 115], C.kIp, false, false), ([98, 105, 110, 100, 105, 110, 103, 115, 32, 36, 105, 112, 32, 104, 111, 115, 116], C.kName, true, true), ([98, 105, 110, 100, 105, 110, 103, 115, 32, 36, 105, 112, 32, 109, 97, 99], C.kMac, true, true), ([98, 105, 110, 100, 105, 110, 103, 115, 32, 36, 105, 112, 32, 118, 110, 105], C.kVni, true, true), ([114, 111, 117, 116, 101, 115], C.kPrefix, false, false), ([114, 111, 117, 116, 101, 115, 32, 36, 112, 114, 101, 102, 105, 120, 32, 118, 105, 97], C.kName, true, true), ([114, 111, 117, 116, 101, 115, 32, 36, 112, 114, 101, 102, 105, 120, 32, 109, 101, 116, 114, 105, 99], C.kMetric, true, false), ([112, 111, 108, 105, 99, 121], C.kNum, false, false), ([112, 111, 108, 105, 99, 121, 32, 36, 110, 117, 109, 32, 97, 99, 116, 105, 111, 110], C.kAction, true, true), ([112, 111, 108, 105, 99, 121, 32, 36, 110, 117, 109, 32, 102, 114, 111, 109], C.kPrefix, true, false), ([112, 111, 108, 105, 99, 121, 32, 36, 110, 117, 109, 32, 116, 111], C.kPrefix, true, false)]
def rowV (r : C.Wd × C.Wd × Bool × Bool) : List Value := [.string (sB r.1), .string (sB r.2.1), .bool r.2.2.1, .bool r.2.2.2]
def RowsOk (w : World) : Prop := w.var? Tryz.prog "ferryslip/schema.rows" = some (rowsL.flatMap rowV).toArray
theorem RowsOk.below {w w1 : World} (h : RowsOk w) (hb : Below w.heap.size w w1) : RowsOk w1 := Go.Joins.var_stays (g := 1) (by kernel_rfl) h hb (Nat.le_refl _)
theorem rowsAt {w w1 : World} (h : Hid (RowsOk w)) (hb : Below w.heap.size w w1) : RowsOk w1 := h.out.below hb
theorem below_drawn13 {B : Nat} {a w : World} (h : Below B a w) (q : Nat) : Below B a (w.drewN q) := ⟨h.os, h.tape, h.output, h.size, h.block⟩
def eT : Elem W.Tok where
 st := 79
 T := 86
 sz := 4
 zero := zeroTok
 by_ := 40
 C := tokC
 hst := Tryz.underlying79
 hin := by kernel_rfl
 hzs := rfl
 hsz := by decide
 hby := by decide
 len := fun _ => rfl
 one := fun x u hu => by simp [tokC] at hu; rcases hu with rfl | rfl | rfl | rfl <;> rfl
theorem Holds.tok {w : World} {b o : Nat} {l : List W.Tok} (h : Holds eT w b o l) {i : Nat} (hi : i < l.length) {kd : Int} {pos : Nat} {wd : List UInt8} {bt : Int} (ht : l[i] = ⟨kd, pos, wd, bt⟩) :
  w.cell? ⟨b, o + i * 4, none⟩ = some (.int .i64 kd) ∧ w.cell? ⟨b, o + i * 4 + 1, none⟩ = some (.int .i64 (pos : Int)) ∧ w.cell? ⟨b, o + i * 4 + 2, none⟩ = some (.string (sB wd)) ∧ w.cell? ⟨b, o + i * 4 + 3, none⟩ = some (.int .i64 bt) := by
 refine ⟨h i hi 0 _ ?_, h i hi 1 _ ?_, h i hi 2 _ ?_, h i hi 3 _ ?_⟩ <;> rw [ht] <;> rfl
theorem OwnT.elem {w : World} {base : Nat} {v : Value} {l : List W.Tok} (h : OwnT 86 w base v l) : Own eT w base v l := h
theorem verbQ (x v : List UInt8) (y : Bool) (h : decide (x = v) = y) : ((sB x).toList == v) = y := by
 rw [sB_toList, ← h, Bool.eq_iff_iff]; simp
theorem begins_any' (x : List UInt8) (w : World) : Calls Tryz.prog 80 #[.string (sB x)] w (fun e w' => e = .returned (.bool (S.beginsB x)) ∧ w = w') := by
 cases h1 : decide (x = S.setW) with
 | true =>
  have q1 : ((sB x).toList == [115, 101, 116]) = true := verbQ x S.setW true h1
  have e : S.beginsB x = true := decide_eq_true (.inl (of_decide_eq_true h1))
  rw [e]
  clear h1 e
  go_enter Tryz.func80, Tryz.ntmps80
  go_wp2
  go_ret
  exact ⟨rfl, rfl⟩
 | false =>
  have q1 : ((sB x).toList == [115, 101, 116]) = false := verbQ x S.setW false h1
  cases h2 : decide (x = S.deW) with
  | true =>
   have q2 : ((sB x).toList == [100, 101, 97, 99, 116, 105, 118, 97, 116, 101]) = true := verbQ x S.deW true h2
   have e : S.beginsB x = true := decide_eq_true (.inr (.inl (of_decide_eq_true h2)))
   rw [e]
   clear h1 h2 e
   go_enter Tryz.func80, Tryz.ntmps80
   go_wp2
   go_ret
   exact ⟨rfl, rfl⟩
  | false =>
   have q2 : ((sB x).toList == [100, 101, 97, 99, 116, 105, 118, 97, 116, 101]) = false := verbQ x S.deW false h2
   cases h3 : decide (x = S.prW) with
   | true =>
    have q3 : ((sB x).toList == [112, 114, 111, 116, 101, 99, 116]) = true := verbQ x S.prW true h3
    have e : S.beginsB x = true := decide_eq_true (.inr (.inr (of_decide_eq_true h3)))
    rw [e]
    clear h1 h2 h3 e
    go_enter Tryz.func80, Tryz.ntmps80
    go_wp2
    go_ret
    exact ⟨rfl, rfl⟩
   | false =>
    have q3 : ((sB x).toList == [112, 114, 111, 116, 101, 99, 116]) = false := verbQ x S.prW false h3
    have e : S.beginsB x = false := decide_eq_false fun h => h.elim (of_decide_eq_false h1) fun h => h.elim (of_decide_eq_false h2) (of_decide_eq_false h3)
    rw [e]
    clear h1 h2 h3 e
    go_enter Tryz.func80, Tryz.ntmps80
    go_wp2
    go_ret
    exact ⟨rfl, rfl⟩
theorem bit_any (x : List UInt8) (w : World) : Calls Tryz.prog 81 #[.string (sB x)] w (fun e w' => e = .returned (.int .i64 (S.bitOf x)) ∧ w' = w) := by
 cases h2 : decide (x = S.deW) with
 | true =>
  have q2 : ((sB x).toList == [100, 101, 97, 99, 116, 105, 118, 97, 116, 101]) = true := verbQ x S.deW true h2
  have e : S.bitOf x = 1 := if_pos (of_decide_eq_true h2)
  rw [e]
  clear h2 e
  go_enter Tryz.func81, Tryz.ntmps81
  go_wp2
  go_ret
  exact ⟨rfl, rfl⟩
 | false =>
  have q2 : ((sB x).toList == [100, 101, 97, 99, 116, 105, 118, 97, 116, 101]) = false := verbQ x S.deW false h2
  have e : S.bitOf x = 2 := if_neg (of_decide_eq_false h2)
  rw [e]
  clear h2 e
  go_enter Tryz.func81, Tryz.ntmps81
  go_wp2
  go_ret
  exact ⟨rfl, rfl⟩
def SizeS (w : World) (r : Nat ⊕ (Nat × Int)) (e : Ending) (w' : World) : Prop :=
 (match r with | .inl m => e = .returned (.tuple #[.int .i64 (m : Int), .int .i64 0, .int .i64 0]) | .inr x => e = .returned (.tuple #[.int .i64 0, .int .i64 (x.1 : Int), .int .i64 x.2])) ∧ Below w.heap.size w w'
theorem size_at (n k : Nat) (l : List W.Tok) (hk : k < l.length) {kd : Int} {ps : Nat} {wo : List UInt8} {bt : Int} (ht : l[k] = ⟨kd, ps, wo, bt⟩) : S.sizeT n k (l.drop k) = if kd = 4 ∧ 1 < k then .inl (k + 1) else if kd ≠ 1 ∨ (k = 0 ∧ S.beginsB wo = false) then .inr (ps, 2) else if 16 < k then .inr (ps, 6) else S.sizeT n (k + 1) (l.drop (k + 1)) := by
 rw [List.drop_eq_getElem_cons hk, ht]; rfl
set_option maxRecDepth 100000 in
set_option maxHeartbeats 4000000 in
theorem size_any (A : Option Addr) (cap : Nat) (l : List W.Tok) (n : Nat) (r : Nat ⊕ (Nat × Int)) (w : World) (hA : Seen eT w A l) (hl : l.length ≤ 1073741824) (hr : S.sizeT n 0 l = r) :
  Calls Tryz.prog 50 #[.slice A l.length cap, .int .i64 (n : Int)] w (SizeS w r) := by
 have HA := Lib.hid hA
 have HR := Lib.hid hr
 clear hA hr
 go_enter Tryz.func50, Tryz.ntmps50
 go_wp2
 go_loopg [11] l.length (fun gk x wr => ∃ k : Nat, Hid (k + gk = l.length) ∧ k ≤ l.length ∧ x = .int .i64 k ∧ Hid (S.sizeT n k (l.drop k) = r) ∧ Below w.heap.size w wr)
 case atStart => exact ⟨0, Nat.zero_add _, Nat.zero_le _, rfl, HR, Below.refl _ _⟩
 case round =>
  obtain ⟨k, HG, hk, rfl, HI, hb⟩ := hrel
  by_cases hlt : k < l.length
  ·have blt : decide ((k : Int) < (l.length : Int)) = true := decide_eq_true (by omega)
   obtain ⟨g, o, rfl, hgw, hL⟩ := HA.out (by omega)
   obtain ⟨⟨kd, ps, wo, bt⟩, ht⟩ : ∃ x, l[k] = x := ⟨_, rfl⟩
   obtain ⟨d0, d1, d2, d3⟩ := (hL.below hb hgw).tok hlt ht
   have hn := HI.out
   rw [size_at n k l hlt ht] at hn
   have hbz := hb.alloc hb.size (.cells #[.int .i64 kd, .int .i64 (ps : Int), .string (sB wo), .int .i64 bt] 86)
   have HBZ := Lib.hid hbz
   clear hL ht hbz
   by_cases h4 : kd = 4
   ·subst h4
    by_cases h1 : 1 < k
    ·have c1 : decide ((1 : Int) < (k : Int)) = true := decide_eq_true (by omega)
     have c2 : decide (1 < k) = true := decide_eq_true h1
     rw [if_pos ⟨rfl, h1⟩] at hn
     have HN := Lib.hid hn.symm
     clear hn h1
     go_wp2
     go_ret3
     rw [HN.out]
     exact ⟨rfl, HBZ.out⟩
    ·have c1 : decide ((1 : Int) < (k : Int)) = false := decide_eq_false (by omega)
     have c2 : decide (1 < k) = false := decide_eq_false h1
     rw [if_neg (fun h => h1 h.2), if_pos (.inl (by decide))] at hn
     have HN := Lib.hid hn.symm
     clear hn h1
     go_wp2
     go_region
     go_wp2
     go_ret3
     rw [HN.out]
     exact ⟨rfl, HBZ.out.drew⟩
   ·have e4 : (kd == 4) = false := beq_eq_false_iff_ne.2 h4
    rw [if_neg (fun h => h4 h.1)] at hn
    by_cases h1 : kd = 1
    ·subst h1
     by_cases h0 : k = 0
     ·have c0 : ((k : Int) == 0) = true := beq_iff_eq.2 (by omega)
      have c00 : (k == 0) = true := beq_iff_eq.2 h0
      have c16 : decide ((16 : Int) < (k : Int)) = false := decide_eq_false (by omega)
      have c17 : decide (16 < k) = false := decide_eq_false (by omega)
      have hbg := begins_any' wo
      cases hbe : S.beginsB wo with
      | false =>
       rw [hbe] at hn hbg
       rw [if_pos (.inr ⟨h0, rfl⟩)] at hn
       have HN := Lib.hid hn.symm
       clear hn hbe h4 h0
       go_wp2_with (refine (hbg _).mono ?_; rintro e w' ⟨rfl, rfl⟩)
       go_region
       go_wp2
       go_ret3
       rw [HN.out]
       exact ⟨rfl, HBZ.out.drew⟩
      | true =>
       rw [hbe] at hn hbg
       rw [if_neg (by simp), if_neg (by omega)] at hn
       have HN := Lib.hid hn
       clear hn hbe h4 h0
       go_wp2_with (refine (hbg _).mono ?_; rintro e w' ⟨rfl, rfl⟩)
       have hgk := HG.out
       go_roundg (l.length - (k + 1))
       case rel => exact ⟨k + 1, (by show _ = _; omega), by omega, by go_num, HN, HBZ.out⟩
       case measure => omega
     ·have c0 : ((k : Int) == 0) = false := beq_eq_false_iff_ne.2 (by omega)
      have c00 : (k == 0) = false := beq_eq_false_iff_ne.2 h0
      rw [if_neg (by rintro (h | ⟨h, _⟩) <;> omega)] at hn
      by_cases h16 : 16 < k
      ·have c1 : decide ((16 : Int) < (k : Int)) = true := decide_eq_true (by omega)
       have c2 : decide (16 < k) = true := decide_eq_true h16
       rw [if_pos h16] at hn
       have HN := Lib.hid hn.symm
       clear hn h4 h0 h16
       go_wp2
       go_region
       go_wp2
       go_ret3
       rw [HN.out]
       exact ⟨rfl, HBZ.out.drew⟩
      ·have c1 : decide ((16 : Int) < (k : Int)) = false := decide_eq_false (by omega)
       have c2 : decide (16 < k) = false := decide_eq_false h16
       rw [if_neg h16] at hn
       have HN := Lib.hid hn
       clear hn h4 h0 h16
       go_wp2
       have hgk := HG.out
       go_roundg (l.length - (k + 1))
       case rel => exact ⟨k + 1, (by show _ = _; omega), by omega, by go_num, HN, HBZ.out⟩
       case measure => omega
    ·have e1 : (kd == 1) = false := beq_eq_false_iff_ne.2 h1
     have e2 : (kd != 1) = true := bne_iff_ne.2 h1
     rw [if_pos (.inl h1)] at hn
     have HN := Lib.hid hn.symm
     clear hn h4 h1
     go_wp2
     go_region
     go_wp2
     go_ret3
     rw [HN.out]
     exact ⟨rfl, HBZ.out.drew⟩
  ·have hn := HI.out
   rw [List.drop_eq_nil_of_le (by omega)] at hn
   have HN := Lib.hid (show r = .inr (n, 2) from hn.symm)
   clear hn
   go_wp2
   go_ret3
   rw [HN.out]
   exact ⟨rfl, hb⟩
def DoS (base : Nat) (w : World) (r : List T.Ln ⊕ Int) (e : Ending) (w' : World) : Prop :=
 (match r with | .inr er => ∃ v, e = .returned (.tuple #[v, .int .i64 er]) | .inl u => ∃ v, e = .returned (.tuple #[v, .int .i64 0]) ∧ Own eL w' base v u) ∧ Below base w w'
theorem or_mark {m b : Int} (hm : m = 0 ∨ m = 1 ∨ m = 2 ∨ m = 3) (hb : b = 1 ∨ b = 2) : bits BinOp.or IntKind.i64 m b = S.orM m b := by
 rcases hm with rfl | rfl | rfl | rfl <;> rcases hb with rfl | rfl <;> decide +kernel
set_option maxRecDepth 100000 in
set_option maxHeartbeats 4000000 in
theorem do_any (base g o cap n : Nat) (v : Value) (t : List T.Ln) (k : W.Tok) (rest : List W.Tok) (r : List T.Ln ⊕ Int) (w : World) (hown : Own eL w base v t) (hbase : base ≤ w.heap.size) (hg : g < base) (hW : Holds eT w g o (k :: rest)) (hn : rest.length + 1 = n) (hcap : n ≤ cap)
  (hgood : S.GoodC (k.word, rest.map W.Tok.word)) (hR : T.RightT t) (hr : S.doT t k.word (rest.map W.Tok.word) = r) :
  Calls Tryz.prog 51 #[v, .slice (some ⟨g, o, none⟩) n cap] w (DoS base w r) := by
 obtain ⟨kd0, ps0, verb, bt0⟩ := k
 obtain ⟨p, hp⟩ : ∃ p, rest.map W.Tok.word = p := ⟨_, rfl⟩
 simp only at hgood hr
 rw [hp] at hgood hr
 have hpl : p.length = rest.length := by rw [← hp, List.length_map]
 have hp0 : 0 < p.length := List.length_pos_iff.2 hgood.ne
 have hp16 : p.length ≤ 16 := hgood.deep
 have hp40 : ∀ x ∈ p, x.length ≤ 40 := hgood.long
 obtain ⟨q, hq⟩ : ∃ q, rest.length = q := ⟨_, rfl⟩
 have hnq : n - 1 = q := by omega
 have hn1 : 1 ≤ n := by omega
 have hn2 : 1 < n := by omega
 have hc1 : 1 < cap := by omega
 have hn1i : (1 : Int) ≤ (n : Int) := by omega
 have hc1i : (1 : Int) ≤ (cap : Int) := by omega
 have hgw : g < w.heap.size := by omega
 have HW2 : Hid (Holds eT w g (o + 4) rest) := Lib.hid (hW.drop 1)
 have c2 : w.cell? ⟨g, o + 2, none⟩ = some (.string (sB verb)) := by
  have := (hW.tok (i := 0) (by simp) rfl).2.2.1
  rw [Nat.zero_mul, Nat.add_zero] at this
  exact this
 have HC2 := Lib.hid c2
 have HPQ := Lib.hid (show p.length = q by omega)
 have HQ := Lib.hid hq
 have HPE := Lib.hid hp
 have HOWN := Lib.hid hown
 obtain ⟨At, ct, e, htc, hsA⟩ := hown.seen
 subst e
 have HA := Lib.hid hsA
 have HR := Lib.hid hR
 have HP40 := Lib.hid hp40
 have hl200 : t.length ≤ 200 := hR.len
 have hq16 : q ≤ 16 := by omega
 have hq0 : 0 < q := by omega
 have HRR := Lib.hid hr
 have HVB := Lib.hid (S.verb_cases hgood.verb)
 have hqi : ((n - 1 : Nat) : Int) = (q : Int) := by omega
 clear hown hW hgood hR hr hp hpl hp0 hp16 hp40 hq hsA c2 hn
 go_enter Tryz.func51, Tryz.ntmps51
 go_wp2
 go_loopg [6, 14] q (fun gk vp vi wr => ∃ j : Nat, Hid (j + gk = q) ∧ j ≤ q ∧ Hid (Own eS wr w.heap.size vp (p.take j)) ∧ vi = .int .i64 j ∧ Below w.heap.size w wr)
 case atStart => exact ⟨0, Nat.zero_add _, Nat.zero_le _, Own.nil _ _, rfl, Below.refl _ _⟩
 case round =>
  obtain ⟨j, HG, hj, HOj, rfl, hb⟩ := hrel
  by_cases hlt : j < q
  ·have blt : decide ((j : Int) < (q : Int)) = true := decide_eq_true (by omega)
   have hjr : j < rest.length := by have := HQ.out; omega
   obtain ⟨⟨kd, ps, wo, bt⟩, ht⟩ : ∃ x, rest[j] = x := ⟨_, rfl⟩
   obtain ⟨d0, d1, d2, d3⟩ := (HW2.out.belowN hb hgw).tok hjr ht
   have hjp : j < p.length := by have := HPQ.out; omega
   have HN := Lib.hid (show p.take (j + 1) = p.take j ++ [wo] by
    have h1 : p[j] = wo := by
     have h2 : p[j]? = some wo := by rw [← HPE.out, List.getElem?_map, List.getElem?_eq_getElem hjr, ht]; rfl
     rw [List.getElem?_eq_getElem hjp] at h2
     exact Option.some.inj h2
    rw [List.take_succ_eq_append_getElem hjp, h1])
   have HLN := Lib.hid (show (p.take j).length = j by rw [List.length_take]; omega)
   have hsz := hb.size
   have hownj := HOj.out.alloc (.cells #[.int .i64 kd, .int .i64 (ps : Int), .string (sB wo), .int .i64 bt] 86)
   have HOW := Lib.hid hownj
   have HBA := Lib.hid (hb.alloc hb.size (.cells #[.int .i64 kd, .int .i64 (ps : Int), .string (sB wo), .int .i64 bt] 86))
   clear ht hjr hjp hownj
   go_wp2_with (at_builtin; refine wpList_appG eS (wr.alloc (.cells #[.int .i64 kd, .int .i64 (ps : Int), .string (sB wo), .int .i64 bt] 86)) rfl (.tmp 18) (.tmp 21) rfl w.heap.size u6 (p.take j) rfl HOW.out wo 1 _ rfl (wr.heap.size + 1) (by simp) rfl (by rw [HLN.out]; omega) (by simp; omega) ?_; intro v3 w3 hown3 hb3)
   have hgk := HG.out
   have HB4 := Lib.hid (HBA.out.trans hb3)
   go_roundg (q - (j + 1))
   case rel => exact ⟨j + 1, (by show _ = _; omega), by omega, (by show Own _ _ _ _ _; rw [HN.out]; exact hown3), by go_num, HB4.out⟩
   case measure => omega
  ·have blt : decide ((j : Int) < (q : Int)) = false := decide_eq_false (by omega)
   have hjo : j = q := by omega
   have HO5 := Lib.hid (show Own eS wr w.heap.size u6 p by have := HOj.out; rwa [List.take_of_length_le (by have := HPQ.out; omega)] at this)
   obtain ⟨Bp, cp, e, hcp, hsB⟩ := HO5.out.seen
   have HSB := Lib.hid hsB
   have HOW := Lib.hid (HOWN.out.keep hb)
   have HA5 := Lib.hid (HA.out.below hb)
   have c2 := (hb.cell (p := ⟨g, o + 2, none⟩) hgw).trans HC2.out
   have hplq := HPQ.out
   rw [hplq] at e hcp
   subst e
   have HBB := Lib.hid hb
   clear hsB HOj HG hjo hb
   cases hset : decide (verb = S.setW) with
   | true =>
    have q1 : ((sB verb).toList == [115, 101, 116]) = true := verbQ verb S.setW true hset
    have hr := HRR.out
    unfold S.doT at hr
    rw [if_pos (of_decide_eq_true hset)] at hr
    clear hset
    by_cases h200 : (T.addL t p).length ≤ 200
    ·rw [if_pos h200] at hr
     have HN := Lib.hid hr.symm
     have HAI := Lib.hid (AddIs.ok (by omega) HP40.out HR.out (by omega) h200)
     clear hr h200 hplq
     go_wp2_with fail
     refine (lines_add At Bp ct cp t.length q t _ p 0 _ rfl HPQ.out HA5.out HSB.out HOW.out.nilOk htc hcp (by omega) (by omega) HAI.out).mono ?_
     rintro e w5 ⟨v5, rfl, hown5, hb5⟩
     have HO5 := Lib.hid (hown5.base (Nat.le_trans hbase HBB.out.size))
     have HB5 := Lib.hid ((bthen HBB.out hb5).mono hbase)
     clear hown5 hb5
     go_wp2
     go_ret2
     rw [HN.out]
     exact ⟨⟨v5, rfl, HO5.out⟩, HB5.out⟩
    ·rw [if_neg h200] at hr
     have HN := Lib.hid hr.symm
     have HAI := Lib.hid (show AddIs t p t 5 from .inr ⟨⟨by omega, longB_of HP40.out, HR.out⟩, .inr ⟨by omega, .inl ⟨by omega, rfl, rfl⟩⟩⟩)
     clear hr h200 hplq
     go_wp2_with fail
     refine (lines_add At Bp ct cp t.length q t _ p 5 _ rfl HPQ.out HA5.out HSB.out HOW.out.nilOk htc hcp (by omega) (by omega) HAI.out).mono ?_
     rintro e w5 ⟨v5, rfl, hown5, hb5⟩
     have HB5 := Lib.hid ((bthen HBB.out hb5).mono hbase)
     clear hown5 hb5
     go_wp2
     go_ret2
     rw [HN.out]
     exact ⟨⟨v5, rfl⟩, HB5.out⟩
   | false =>
    have q1 : ((sB verb).toList == [115, 101, 116]) = false := verbQ verb S.setW false hset
    have hr := HRR.out
    unfold S.doT at hr
    rw [if_neg (of_decide_eq_false hset)] at hr
    have HRN := Lib.hid hr
    clear hset hr hplq
    go_wp2_with fail
    refine (findN_any At Bp ct cp q t p _ HPQ.out HA5.out HSB.out (by omega) (by omega) HR.out).mono ?_
    rintro e w5 ⟨hcase, hb5⟩
    have HB5 := Lib.hid (bthen HBB.out hb5)
    have HO6 := Lib.hid (HOW.out.keep hb5)
    replace c2 := (hb5.cell (p := ⟨g, o + 2, none⟩) (show g < wr.heap.size by have := HBB.out.size; omega)).trans c2
    clear hb5 HBB HOW
    rcases hcase with ⟨i, hi, hpi, rfl⟩ | ⟨hno, rfl⟩
    ·have hr := HRN.out
     rw [T.findI_some HR.out hi hpi, if_neg (by simp), Int.toNat_natCast] at hr
     obtain ⟨m, hm⟩ : ∃ m, (T.at_ t i).mark = m := ⟨_, rfl⟩
     rw [hm] at hr
     have hm03 := HR.out.mark i hi
     rw [hm] at hm03
     have HN := Lib.hid hr.symm
     have hit : (i : Int) < (t.length : Int) := by omega
     obtain ⟨tg, e, hbt, htg, hhT⟩ := HO6.out.block (by omega)
     subst e
     obtain ⟨_, _, e2⟩ := hhT.line hi
     rw [hm, Nat.zero_add] at e2
     obtain ⟨hfz, _, _⟩ := HO6.out.unfrozen (i * 3 + 2)
     have HM4 := Lib.hid (show m = 0 ∨ m = 1 ∨ m = 2 ∨ m = 3 by omega)
     have hor := or_mark HM4.out (S.bit_two verb)
     have HOR := Lib.hid (or_mark HM4.out (S.bit_two verb))
     have HBT := Lib.hid hbt
     clear hr hm hm03 hhT hpi hbt
     go_wp2
     have hn0 : 0 < n := by omega
     have hn0i : (0 : Int) < (n : Int) := by omega
     go_still_tail 13, (by kernel_rfl)
     still_call (bit_any verb _)
     repeat still_step
     refine wpStill_nil ?_
     change wpList _ _ _ _ _ w5.drew
     go_wp2
     go_ret2
     rw [HN.out]
     have hsm := HO6.out.drew.mark hi (S.orM m (S.bitOf verb))
     exact ⟨⟨_, rfl, hsm⟩, (HB5.out.mono hbase).drew.setCell HBT.out _⟩
    ·have hr := HRN.out
     rw [T.findI_none hno, if_pos (by omega)] at hr
     have HN := Lib.hid hr.symm
     clear hr hno
     go_wp2
     go_ret2
     rw [HN.out]
     exact ⟨⟨_, rfl⟩, HB5.out.mono hbase⟩
def ReadS (w : World) (r : S.RRes) (e : Ending) (w' : World) : Prop :=
 (match r with | .bad p er => e = .returned (.tuple #[.slice none 0 0, .int .i64 (p : Int), .int .i64 er]) | .ok t => ∃ v, e = .returned (.tuple #[v, .int .i64 0, .int .i64 0]) ∧ Own eL w' w.heap.size v t) ∧ Below w.heap.size w w'
theorem size_err (n : Nat) : ∀ (l : List W.Tok) (i : Nat) (x : Nat × Int), S.sizeT n i l = .inr x → x.2 ≠ 0 := by
 intro l
 induction l with
 | nil => intro i x hx; unfold S.sizeT at hx; injection hx with hx; rw [← hx]; simp
 | cons y l ih =>
  intro i x hx
  unfold S.sizeT at hx
  split at hx
  ·cases hx
  ·split at hx
   ·injection hx with hx; rw [← hx]; simp
   ·split at hx
    ·injection hx with hx; rw [← hx]; simp
    ·exact ih _ _ hx
theorem do_err {t : List T.Ln} {v : List UInt8} {p : T.Pth} {e : Int} (h : S.doT t v p = .inr e) : e ≠ 0 := by
 unfold S.doT at h
 split at h
 ·split at h
  ·cases h
  ·injection h with h; omega
 ·split at h
  ·injection h with h; omega
  ·cases h
theorem readF_nil (n f : Nat) (t : List T.Ln) : S.readF n f t [] = .ok t := by cases f <;> rfl
theorem sizeN_any (A : Option Addr) (cap : Nat) (l : List W.Tok) (n m : Nat) (r : Nat ⊕ (Nat × Int)) (w : World) (hm : l.length = m) (hA : Seen eT w A l) (hl : m ≤ 1073741824) (hr : S.sizeT n 0 l = r) :
  Calls Tryz.prog 50 #[.slice A m cap, .int .i64 (n : Int)] w (SizeS w r) := by subst hm; exact size_any A cap l n r w hA hl hr
set_option maxRecDepth 100000 in
set_option maxHeartbeats 4000000 in
theorem read_any (s : ByteArray) (w : World) (r : S.RRes) (hs : s.size ≤ 1073741824) (hr : S.readL s.data.toList = r) :
  Calls Tryz.prog 25 #[.string s] w (ReadS w r) := by
 have hall := all_any s w hs
 have hsl : s.data.toList.length = s.size := by simp
 unfold S.readL at hr
 rw [hsl] at hr
 cases hlx : W.lexL 0 s.data.toList with
 | bad p er =>
  rw [hlx] at hr hall
  have hne := (W.bad_lt s.data.toList 0 p er hlx).2.2
  have b0 : (er != 0) = true := bne_iff_ne.2 hne
  have HN := Lib.hid hr.symm
  clear hr hlx hne hsl
  go_enter Tryz.func25, Tryz.ntmps25
  go_wp2_with fail
  refine hall.mono ?_
  rintro e w1 ⟨v, rfl, _, hb1⟩
  simp only [W.Res.place, W.Res.err]
  clear hall
  go_wp2
  go_ret3
  rw [HN.out]
  exact ⟨rfl, hb1⟩
 | ok a =>
  rw [hlx] at hr hall
  have HGA := Lib.hid (W.lexL_good s.data.toList 0 a hlx)
  have hal : a.length ≤ s.size := by have := W.lexL_len s.data.toList 0 a hlx; omega
  have HR := Lib.hid hr
  clear hr hlx hsl
  go_enter Tryz.func25, Tryz.ntmps25
  go_wp2_with fail
  refine hall.mono ?_
  rintro e w1 ⟨v, rfl, hot, hb1⟩
  simp only [W.Res.place, W.Res.err, W.Res.toks] at hot ⊢
  obtain ⟨B0, c0, e, hc0, hs0⟩ := (OwnT.elem hot).seen
  subst e
  have HS0 := Lib.hid hs0
  have HB1 := Lib.hid hb1
  clear hall hot hs0 hb1
  go_wp2
  go_loopg [5, 8] a.length (fun gk vl vt wr => ∃ (l : List W.Tok) (B : Option Addr) (c : Nat) (t : List T.Ln) (f : Nat), vl = .slice B gk c ∧ Hid (l.length = gk) ∧ gk ≤ c ∧ gk ≤ a.length ∧ Hid (Seen eT w1 B l) ∧ Hid (∀ x ∈ l, W.GoodTok x) ∧ Hid (Own eL wr w1.heap.size vt t) ∧ Hid (T.RightT t) ∧ Hid (S.readF s.size f t l = r) ∧ gk ≤ f ∧ Below w1.heap.size w1 wr)
  case atStart => exact ⟨a, B0, c0, [], a.length, rfl, rfl, hc0, Nat.le_refl _, HS0, HGA, Own.nil _ _, S.right_nil, HR, Nat.le_refl _, Below.refl _ _⟩
  case round =>
   obtain ⟨l, B, c, t, f, rfl, HLN, hgc, hga, HS, HG, HO, HRT, HRF, hgf, hb⟩ := hrel
   by_cases h0 : gk = 0
   ·have hl0 : l = [] := List.eq_nil_of_length_eq_zero (by rw [HLN.out]; exact h0)
    have HN := Lib.hid (show r = .ok t by have := HRF.out; rw [hl0, readF_nil] at this; exact this.symm)
    have hgg : decide ((0 : Int) < (gk : Int)) = false := decide_eq_false (by omega)
    have hgg2 : decide (0 < gk) = false := decide_eq_false (by omega)
    clear hl0
    go_wp2
    go_ret3
    rw [HN.out]
    exact ⟨⟨u8, rfl, HO.out.base HB1.out.size⟩, HB1.out.trans (hb.mono HB1.out.size)⟩
   ·have hgg : decide ((0 : Int) < (gk : Int)) = true := decide_eq_true (by omega)
    have hgg2 : decide (0 < gk) = true := decide_eq_true (by omega)
    obtain ⟨g, o, rfl, hgw, hH⟩ := HS.out (by rw [HLN.out]; omega)
    have HH := Lib.hid hH
    obtain ⟨k, l', hl⟩ : ∃ k l', l = k :: l' := by
     cases l with
     | nil => have := HLN.out; simp at this; omega
     | cons k l' => exact ⟨k, l', rfl⟩
    obtain ⟨f', hf⟩ : ∃ f', f = f' + 1 := ⟨f - 1, by omega⟩
    subst hl
    subst hf
    have hrf := HRF.out
    unfold S.readF at hrf
    have hSr := HS.out.below hb
    obtain ⟨sz, hsz⟩ : ∃ sz, S.sizeT s.size 0 (k :: l') = sz := ⟨_, rfl⟩
    rw [hsz] at hrf
    have hcall := sizeN_any (some ⟨g, o, none⟩) c (k :: l') s.size gk sz wr HLN.out hSr (by omega) hsz
    cases sz with
    | inr x =>
     have b1 : (x.2 != 0) = true := bne_iff_ne.2 (size_err _ _ _ _ hsz)
     have HN := Lib.hid (show r = .bad x.1 x.2 from hrf.symm)
     clear hrf hsz hSr hH
     go_wp2_with fail
     refine hcall.mono ?_
     rintro e w2 ⟨rfl, hx⟩
     have HX := Lib.hid (hb.trans (hx.mono hb.size))
     clear hcall hx
     go_wp2
     go_ret3
     rw [HN.out]
     exact ⟨rfl, HB1.out.trans (HX.out.mono HB1.out.size)⟩
    | inl m =>
     obtain ⟨p, rr, e1, hgc2, e3⟩ := S.size_cmd_back s.size HG.out hsz
     obtain ⟨_, hpo, _⟩ := S.size_cmd s.size (k.word, p) (k :: l') rr hgc2 e1
     have hlen : (k :: l').length = p.length + 2 + rr.length := by
      have := congrArg List.length e1
      simp only [List.length_map, List.length_append, S.cmdK, List.length_cons, List.length_nil] at this ⊢
      omega
     subst e3
     have hpo2 : S.pathOf (k :: l') (p.length + 2) = p := hpo
     obtain ⟨q, hq⟩ : ∃ q, p.length = q := ⟨_, rfl⟩
     rw [hq] at hlen hpo2 hrf hcall
     have hqg : q + 2 ≤ gk := by rw [HLN.out] at hlen; omega
     have hq16 : q ≤ 16 := by have h16 : p.length ≤ 16 := hgc2.deep; omega
     simp only at hrf
     rw [hpo2] at hrf
     have hpw : (l'.take q).map W.Tok.word = p := by rw [← hpo2]; rfl
     have HGC := Lib.hid (show S.GoodC (k.word, (l'.take q).map W.Tok.word) by rw [hpw]; exact hgc2)
     have HPW := Lib.hid hpw
     have HW2 := Lib.hid (show Holds eT w1 g o (k :: l'.take q) from hH.take (q + 1))
     have HQL := Lib.hid (show (l'.take q).length + 1 = q + 1 by rw [List.length_take]; have := HLN.out; rw [List.length_cons] at this; omega)
     obtain ⟨dr, hdr⟩ : ∃ dr, S.doT t k.word p = dr := ⟨_, rfl⟩
     rw [hdr] at hrf
     have HDR := Lib.hid (show S.doT t k.word ((l'.take q).map W.Tok.word) = dr by rw [hpw]; exact hdr)
     have HDE := Lib.hid hdr
     have HRR := Lib.hid hrf
     have hq1c : q + 1 ≤ c := by omega
     have hq1ci : (q : Int) + 1 ≤ (c : Int) := by omega
     have hq2ci : (q : Int) + 2 ≤ (gk : Int) := by omega
     have hq2c : q + 2 ≤ c := by omega
     clear hrf hsz hSr hH e1 hgc2 hpo hpo2 hlen hpw hdr hq
     go_wp2_with fail
     refine hcall.mono ?_
     rintro e w2 ⟨rfl, hx⟩
     have HX := Lib.hid (hb.trans (hx.mono hb.size))
     have HO2 := Lib.hid (HO.out.keep hx)
     clear hcall hx
     go_wp2_with fail
     refine (do_any w1.heap.size g o c (q + 1) _ t k (l'.take q) dr _ HO2.out HX.out.size hgw (HW2.out.belowN HX.out hgw) HQL.out hq1c HGC.out HRT.out HDR.out).mono ?_
     rintro e w3 ⟨hd, hx3⟩
     have HX3 := Lib.hid (HX.out.trans hx3)
     clear hx3
     cases dr with
     | inr er =>
      obtain ⟨v3, rfl⟩ := hd
      have b2 : (er != 0) = true := bne_iff_ne.2 (do_err HDE.out)
      obtain ⟨kd, ps, wo, bt⟩ := k
      have HN := Lib.hid (show r = .bad ps er from HRR.out.symm)
      obtain ⟨d0, d1, d2, d3⟩ := (HH.out.belowN HX3.out hgw).tok (i := 0) (by simp) rfl
      rw [Nat.zero_mul, Nat.add_zero] at d0 d1 d2 d3
      have hgk0 : 0 < gk := by omega
      have hgk0i : (0 : Int) < (gk : Int) := by omega
      go_wp2
      go_region
      go_wp2
      go_ret3
      rw [HN.out]
      exact ⟨rfl, (HB1.out.trans (HX3.out.mono HB1.out.size)).drew⟩
     | inl u =>
      obtain ⟨v3, rfl, hown3⟩ := hd
      have HO3 := Lib.hid hown3
      have HRU := Lib.hid (show T.RightT u from S.do_right HRT.out HGC.out HDR.out)
      have HDL := Lib.hid (show ((k :: l').drop (q + 2)).length = gk - (q + 2) by rw [List.length_drop, HLN.out])
      have HGD := Lib.hid (show ∀ x ∈ (k :: l').drop (q + 2), W.GoodTok x from fun x hx => HG.out x (List.mem_of_mem_drop hx))
      have HSD := Lib.hid (show Seen eT w1 (some ⟨g, o + (q + 2) * 4, none⟩) ((k :: l').drop (q + 2)) from (HH.out.drop (q + 2)).seen hgw)
      have HSE := Lib.hid (show q + 2 = c → Seen eT w1 (some ⟨g, o, none⟩) ((k :: l').drop (q + 2)) from fun e => by
       rw [List.drop_eq_nil_of_le (by rw [HLN.out]; omega)]; exact Seen.nil)
      clear hown3
      rcases Nat.lt_or_ge (q + 2) c with hqc | hqc
      ·go_wp2
       go_roundg (gk - (q + 2))
       case rel => exact ⟨_, _, _, u, f', by first | rfl | (congr 1; omega), HDL, by omega, by omega, HSD, HGD, HO3, HRU, HRR, by omega, HX3.out⟩
       case measure => omega
      ·have hce : q + 2 = c := by omega
       have HSE2 := Lib.hid (HSE.out hce)
       have hgk : gk = q + 2 := by omega
       subst hce
       clear HSE
       go_wp2
       go_roundg (gk - (q + 2))
       case rel => exact ⟨_, _, _, u, f', by first | rfl | (congr 1; omega), HDL, by omega, by omega, HSE2, HGD, HO3, HRU, HRR, by omega, HX3.out⟩
       case measure => omega
theorem lread_ok (s : ByteArray) (t : List T.Ln) (n : Nat) (w : World) (hs : s.size ≤ 1073741824) (h : S.readL s.data.toList = .ok t) (hn : t.length = n) :
  Calls Tryz.prog 25 #[.string s] w (fun e w' => ∃ A cap, e = .returned (.tuple #[.slice A n cap, .int .i64 0, .int .i64 0]) ∧ n ≤ cap ∧ Own eL w' w.heap.size (.slice A n cap) t ∧ Below w.heap.size w w') :=
 (read_any s w _ hs h).mono fun e w' ⟨⟨v, he, ho⟩, hb⟩ => by
  subst hn
  obtain ⟨A, cap, rfl, hc, _⟩ := ho.seen
  exact ⟨A, cap, he, hc, ho, hb⟩
theorem Own.view {α : Type} {E : Elem α} {w : World} {base n cap : Nat} {A : Option Addr} {l : List α} (h : Own E w base (.slice A n cap) l) : Seen E w A l := by
 obtain ⟨A2, cap2, e, _, hs⟩ := h.seen
 injection e with e1
 subst e1
 exact hs
open F
set_option linter.unusedSimpArgs false
def FitE (x : H.En) : Prop := x.host.length ≤ 100 ∧ x.key.length ≤ 100 ∧ x.val.length ≤ 100
instance (x : H.En) : Decidable (FitE x) := by unfold FitE; infer_instance
def H.cmpE (x y : H.En) : Int := if H.aheadE x y = true then -1 else if H.aheadE y x = true then 1 else 0
def CompIs (t : List T.Ln) (L : List H.En) (er : Int) : Prop := (T.RightT t ∧ C.checkP (C.pths t) = [] ∧ L = H.tablesL t ∧ er = 0) ∨ (T.RightT t ∧ C.checkP (C.pths t) ≠ [] ∧ L = [] ∧ er = 7) ∨ (¬ T.RightT t ∧ L = [] ∧ er = 1)
theorem comp_ex (t : List T.Ln) : ∃ L er, CompIs t L er := by
 by_cases h : T.RightT t
 ·by_cases h2 : C.checkP (C.pths t) = []
  ·exact ⟨_, _, .inl ⟨h, h2, rfl, rfl⟩⟩
  ·exact ⟨_, _, .inr (.inl ⟨h, h2, rfl, rfl⟩)⟩
 ·exact ⟨_, _, .inr (.inr ⟨h, rfl, rfl⟩)⟩
structure HostOk : Prop where
 compareOf : ∀ (x y : H.En) (r : Int) (w : World), FitE x → FitE y → H.cmpE x y = r → Calls Tryz.prog 19 #[enV x, enV y] w (fun e w' => e = .returned (.int .i64 r) ∧ Below w.heap.size w w')
 setOf : ∀ (A : Option Addr) (c n m : Nat) (l : List H.En) (w : World), l.length = n → n ≤ 60 → n ≤ c → (∀ x ∈ l, FitE x) → Seen eEc w A l → (H.setE l).length = m → Calls Tryz.prog 17 #[.slice A n c] w (fun e w' => ∃ B d, e = .returned (.slice B m d) ∧ m ≤ d ∧ Seen eEc w' B (H.setE l) ∧ Below w.heap.size w w')
 compileOf : ∀ (A : Option Addr) (c n m : Nat) (t : List T.Ln) (L : List H.En) (er : Int) (w : World), LArgS w A c n t → CompIs t L er → L.length = m → RowsOk w → Calls Tryz.prog 11 #[.slice A n c] w (fun e w' => ∃ B d, e = .returned (.tuple #[.slice B m d, .int .i64 er]) ∧ m ≤ d ∧ Seen eEc w' B L ∧ Below w.heap.size w w')
def RefIs (t : List T.Ln) (L : List H.En) (er : Int) : Prop := (C.checkP (C.pths t) = [] ∧ L = H.tablesL t ∧ er = 0) ∨ (C.checkP (C.pths t) ≠ [] ∧ L = [] ∧ er = 7)
structure RefCompOk : Prop where
 of : ∀ (A : Option Addr) (c n m : Nat) (t : List T.Ln) (L : List H.En) (er : Int) (w : World), t.length = n → n ≤ 200 → Seen eL w A t → T.RightT t → RefIs t L er → L.length = m → Calls Tryz.prog 13 #[.slice A n c] w (fun e w' => ∃ B d, e = .returned (.tuple #[.slice B m d, .int .i64 er]) ∧ m ≤ d ∧ Seen eEd w' B L ∧ Below w.heap.size w w')
theorem comp_few {t : List T.Ln} {L : List H.En} {er : Int} (h : CompIs t L er) (hl : t.length ≤ 200) : L.length ≤ 32040000 := by
 rcases h with ⟨hR, _, rfl, _⟩ | ⟨_, _, rfl, _⟩ | ⟨_, rfl, _⟩
 ·exact Nat.le_trans (H.set_len _) (H.all_few hR hl)
 ·exact Nat.zero_le _
 ·exact Nat.zero_le _
def aw14T : List T.Ln := [⟨0, [104, 111, 115, 116, 115], 0⟩, ⟨1, [97], 0⟩, ⟨2, [105, 112], 0⟩, ⟨3, [49, 48, 46, 48, 46, 48, 46, 49], 0⟩, ⟨2, [118, 110, 105, 115], 0⟩, ⟨3, [53], 0⟩, ⟨1, [98], 0⟩, ⟨2, [105, 112], 0⟩, ⟨3, [49, 48, 46, 48, 46, 48, 46, 50], 0⟩, ⟨2, [118, 110, 105, 115], 0⟩, ⟨3, [53], 0⟩, ⟨0, [112, 111, 108, 105, 99, 121], 0⟩, ⟨1, [55], 0⟩, ⟨2, [97, 99, 116, 105, 111, 110], 0⟩, ⟨3, [100, 101, 110, 121], 0⟩, ⟨0, [118, 110, 105, 115], 0⟩, ⟨1, [53], 0⟩, ⟨2, [115, 117, 98, 110, 101, 116], 0⟩, ⟨3, [49, 48, 46, 49, 46, 48, 46, 48, 47, 49, 54], 0⟩]
def aw14E : List H.En := [⟨[97], 1, [53], [49, 48, 46, 48, 46, 48, 46, 50]⟩, ⟨[97], 5, [55], [100, 101, 110, 121, 32, 97, 110, 121, 32, 97, 110, 121]⟩, ⟨[98], 1, [53], [49, 48, 46, 48, 46, 48, 46, 49]⟩, ⟨[98], 5, [55], [100, 101, 110, 121, 32, 97, 110, 121, 32, 97, 110, 121]⟩]
def aw14X : List T.Ln := [⟨0, [120], 0⟩]
theorem aw14_check : C.checkP (C.pths aw14T) = [] := by decide +kernel
theorem aw14_tables : H.tablesL aw14T = aw14E := by decide +kernel
theorem aw14_right : T.RightT aw14X := by
 refine ⟨by decide, fun i hi => ?_, fun i hi => ?_, fun i hi => ?_, fun _ => by decide, fun i hi => ?_, fun i k h1 h2 => ?_⟩
 ·obtain rfl : i = 0 := by have : i < 1 := hi; omega
  decide
 ·obtain rfl : i = 0 := by have : i < 1 := hi; omega
  decide
 ·obtain rfl : i = 0 := by have : i < 1 := hi; omega
  decide
 ·have : i + 1 < 1 := hi; omega
 ·have : k < 1 := h2; omega
theorem aw14_bad : C.checkP (C.pths aw14X) ≠ [] := by decide +kernel
set_option maxRecDepth 100000 in
set_option maxHeartbeats 8000000 in
theorem awake14 (E : HostOk) (w : World) (HTAB : RowsOk w) : Calls Tryz.prog 10 #[] w (TrueS w) := by
 have TAB := Lib.hid HTAB
 clear HTAB
 go_enter Tryz.func10, Tryz.ntmps10
 go_wp2_with fail
 refine (lread_ok _ aw14T 19 _ (by decide) (by kernel_rfl) rfl).mono ?_
 rintro e w1 ⟨A, cap, rfl, hcap, hown, hb1⟩
 have HRT : T.RightT aw14T := by
  refine S.readL_right (s := [115, 101, 116, 32, 104, 111, 115, 116, 115, 32, 97, 32, 105, 112, 32, 49, 48, 46, 48, 46, 48, 46, 49, 59, 32, 115, 101, 116, 32, 104, 111, 115, 116, 115, 32, 97, 32, 118, 110, 105, 115, 32, 53, 59, 32, 115, 101, 116, 32, 104, 111, 115, 116, 115, 32, 98, 32, 105, 112, 32, 49, 48, 46, 48, 46, 48, 46, 50, 59, 32, 115, 101, 116, 32, 104, 111, 115, 116, 115, 32, 98, 32, 118, 110, 105, 115, 32, 53, 59, 32, 115, 101, 116, 32, 118, 110, 105, 115, 32, 53, 32, 115, 117, 98, 110, 101, 116, 32, 49, 48, 46, 49, 46, 48, 46, 48, 47, 49, 54, 59, 32, 115, 101, 116, 32, 112, 111, 108, 105, 99, 121, 32, 55, 32, 97, 99, 116, 105, 111, 110, 32, 100, 101, 110, 121, 59]) ?_
  kernel_rfl
 have HRT := Lib.hid HRT
 have HO := Lib.hid hown
 clear hown
 go_wp2_with fail
 refine (E.compileOf A cap 19 4 aw14T aw14E 0 _ ⟨rfl, by omega, hcap, HO.out.nilOk, HO.out.view⟩ (.inl ⟨HRT.out, aw14_check, aw14_tables.symm, rfl⟩) rfl (rowsAt TAB hb1)).mono ?_
 rintro e w2 ⟨B, d, rfl, hd, hs, hx⟩
 have hb2 := bthen hb1 hx
 have HS := Lib.hid hs
 clear hx hs hb1
 go_wp2_with fail
 refine (E.compileOf _ 1 1 0 aw14X [] 7 _ ⟨rfl, by omega, by omega, (by intro h; cases h), lit_seen eL w2 aw14X _ rfl (by decide)⟩ (.inr (.inl ⟨aw14_right, aw14_bad, rfl, rfl⟩)) rfl (rowsAt TAB (hb2.trans ((up w2 _).mono hb2.size)))).mono ?_
 rintro e w3 ⟨B3, d3, rfl, hd3, _, hx⟩
 have hx3 := (up w2 (.cells #[.int .i64 0, .string (sB [120]), .int .i64 0] 52)).trans (hx.mono (up w2 _).size)
 have hb3 := bthen hb2 hx3
 obtain ⟨b, o, rfl, hwb, hL⟩ := HS.out (by decide)
 obtain ⟨y0, y1, y2, y3⟩ := hL.entry rfl rfl (i := 0) (by decide)
 obtain ⟨z0, z1, z2, z3⟩ := hL.entry rfl rfl (i := 3) (by decide)
 have HBW : b < w3.heap.size := Nat.lt_of_lt_of_le hwb hx3.size
 have HKP := Lib.hid (fun w' (h : Below w3.heap.size w3 w') => show Below w3.heap.size w3 w' ∧ w'.cell? ⟨b, o, none⟩ = some (.string ⟨#[97]⟩) ∧ w'.cell? ⟨b, o + 1, none⟩ = some (.int .i64 1) ∧ w'.cell? ⟨b, o + 2, none⟩ = some (.string ⟨#[53]⟩) ∧ w'.cell? ⟨b, o + 3, none⟩ = some (.string ⟨#[49, 48, 46, 48, 46, 48, 46, 50]⟩) ∧ w'.cell? ⟨b, o + 12, none⟩ = some (.string ⟨#[98]⟩) ∧ w'.cell? ⟨b, o + 12 + 1, none⟩ = some (.int .i64 5) ∧ w'.cell? ⟨b, o + 12 + 2, none⟩ = some (.string ⟨#[55]⟩) ∧ w'.cell? ⟨b, o + 12 + 3, none⟩ = some (.string ⟨#[100, 101, 110, 121, 32, 97, 110, 121, 32, 97, 110, 121]⟩) from
  ⟨h, ((h.cell (p := ⟨b, o, none⟩) HBW).trans ((hx3.cell (p := ⟨b, o, none⟩) hwb).trans y0)), ((h.cell (p := ⟨b, o + 1, none⟩) HBW).trans ((hx3.cell (p := ⟨b, o + 1, none⟩) hwb).trans y1)), ((h.cell (p := ⟨b, o + 2, none⟩) HBW).trans ((hx3.cell (p := ⟨b, o + 2, none⟩) hwb).trans y2)), ((h.cell (p := ⟨b, o + 3, none⟩) HBW).trans ((hx3.cell (p := ⟨b, o + 3, none⟩) hwb).trans y3)), ((h.cell (p := ⟨b, o + 12, none⟩) HBW).trans ((hx3.cell (p := ⟨b, o + 12, none⟩) hwb).trans z0)), ((h.cell (p := ⟨b, o + 12 + 1, none⟩) HBW).trans ((hx3.cell (p := ⟨b, o + 12 + 1, none⟩) hwb).trans z1)), ((h.cell (p := ⟨b, o + 12 + 2, none⟩) HBW).trans ((hx3.cell (p := ⟨b, o + 12 + 2, none⟩) hwb).trans z2)), ((h.cell (p := ⟨b, o + 12 + 3, none⟩) HBW).trans ((hx3.cell (p := ⟨b, o + 12 + 3, none⟩) hwb).trans z3))⟩)
 clear y0 y1 y2 y3 z0 z1 z2 z3 hx hL
 go_wp2
 refine wp_region_held_drew (S := fun w' => Below w3.heap.size w3 w' ∧ w'.cell? ⟨b, o, none⟩ = some (.string ⟨#[97]⟩) ∧ w'.cell? ⟨b, o + 1, none⟩ = some (.int .i64 1) ∧ w'.cell? ⟨b, o + 2, none⟩ = some (.string ⟨#[53]⟩) ∧ w'.cell? ⟨b, o + 3, none⟩ = some (.string ⟨#[49, 48, 46, 48, 46, 48, 46, 50]⟩) ∧ w'.cell? ⟨b, o + 12, none⟩ = some (.string ⟨#[98]⟩) ∧ w'.cell? ⟨b, o + 12 + 1, none⟩ = some (.int .i64 5) ∧ w'.cell? ⟨b, o + 12 + 2, none⟩ = some (.string ⟨#[55]⟩) ∧ w'.cell? ⟨b, o + 12 + 3, none⟩ = some (.string ⟨#[100, 101, 110, 121, 32, 97, 110, 121, 32, 97, 110, 121]⟩)) (by kernel_rfl) (HKP.out _ (Below.refl _ _).drew) (fun hHeld => ?_)
 refine takeZ (i := 0) (v := ?v0) (d := some 24) ?h0 ?r0
 case h0 => intro w hSw; obtain ⟨_, p0, p1, p2, p3, q0, q1, q2, q3⟩ := hSw; go_simp; try (with_reducible rfl)
 try simp only [pq13]
 refine takeZ (i := 1) (v := ?v1) (d := some 25) ?h1 ?r1
 case h1 => intro w hSw; obtain ⟨_, p0, p1, p2, p3, q0, q1, q2, q3⟩ := hSw; go_simp; try (with_reducible rfl)
 try simp only [pq13]
 refine takeZ (i := 2) (v := ?v2) (d := some 26) ?h2 ?r2
 case h2 => intro w hSw; obtain ⟨_, p0, p1, p2, p3, q0, q1, q2, q3⟩ := hSw; go_simp; try (with_reducible rfl)
 try simp only [pq13]
 refine takeZ (i := 3) (v := ?v3) (d := some 27) ?h3 ?r3
 case h3 => intro w hSw; obtain ⟨_, p0, p1, p2, p3, q0, q1, q2, q3⟩ := hSw; go_simp; try (with_reducible rfl)
 try simp only [pq13]
 refine takeZ (i := 4) (v := ?v4) (d := some 28) ?h4 ?r4
 case h4 => intro w hSw; obtain ⟨_, p0, p1, p2, p3, q0, q1, q2, q3⟩ := hSw; go_simp; try (with_reducible rfl)
 try simp only [pq13]
 refine takeZ (i := 5) (v := ?v5) (d := some 29) ?h5 ?r5
 case h5 => intro w hSw; obtain ⟨_, p0, p1, p2, p3, q0, q1, q2, q3⟩ := hSw; go_simp; try (with_reducible rfl)
 try simp only [pq13]
 refine takeZ (i := 6) (v := ?v6) (d := some 30) ?h6 ?r6
 case h6 => intro w hSw; obtain ⟨_, p0, p1, p2, p3, q0, q1, q2, q3⟩ := hSw; go_simp; try (with_reducible rfl)
 try simp only [pq13]
 refine takeZ (i := 7) (v := ?v7) (d := some 31) ?h7 ?r7
 case h7 => intro w hSw; obtain ⟨_, p0, p1, p2, p3, q0, q1, q2, q3⟩ := hSw; go_simp; try (with_reducible rfl)
 try simp only [pq13]
 refine takeZ (i := 8) (v := ?v8) (d := some 32) ?h8 ?r8
 case h8 => intro w hSw; obtain ⟨_, p0, p1, p2, p3, q0, q1, q2, q3⟩ := hSw; go_simp; try (with_reducible rfl)
 try simp only [pq13]
 refine takeZ (i := 9) (v := ?v9) (d := some 33) ?h9 ?r9
 case h9 => intro w hSw; obtain ⟨_, p0, p1, p2, p3, q0, q1, q2, q3⟩ := hSw; go_simp; try (with_reducible rfl)
 try simp only [pq13]
 refine takeZ (i := 10) (v := ?v10) (d := some 34) ?h10 ?r10
 case h10 => intro w hSw; obtain ⟨_, p0, p1, p2, p3, q0, q1, q2, q3⟩ := hSw; go_simp; try (with_reducible rfl)
 try simp only [pq13]
 refine takeZ (i := 11) (v := ?v11) (d := some 35) ?h11 ?r11
 case h11 => intro w hSw; obtain ⟨_, p0, p1, p2, p3, q0, q1, q2, q3⟩ := hSw; go_simp; try (with_reducible rfl)
 try simp only [pq13]
 refine takeZ (i := 12) (v := ?v12) (d := some 36) ?h12 ?r12
 case h12 => intro w hSw; obtain ⟨_, p0, p1, p2, p3, q0, q1, q2, q3⟩ := hSw; go_simp; try (with_reducible rfl)
 try simp only [pq13]
 refine takeZ (i := 13) (v := ?v13) (d := some 37) ?h13 ?r13
 case h13 => intro w hSw; obtain ⟨_, p0, p1, p2, p3, q0, q1, q2, q3⟩ := hSw; go_simp; try (with_reducible rfl)
 try simp only [pq13]
 refine takeZ (i := 14) (v := ?v14) (d := some 38) ?h14 ?r14
 case h14 => intro w hSw; obtain ⟨_, p0, p1, p2, p3, q0, q1, q2, q3⟩ := hSw; go_simp; try (with_reducible rfl)
 try simp only [pq13]
 refine takeZ (i := 15) (v := ?v15) (d := some 39) ?h15 ?r15
 case h15 => intro w hSw; obtain ⟨_, p0, p1, p2, p3, q0, q1, q2, q3⟩ := hSw; go_simp; try (with_reducible rfl)
 try simp only [pq13]
 refine takeZ (i := 16) (v := ?v16) (d := some 40) ?h16 ?r16
 case h16 => intro w hSw; obtain ⟨_, p0, p1, p2, p3, q0, q1, q2, q3⟩ := hSw; go_simp; try (with_reducible rfl)
 try simp only [pq13]
 refine takeZ (i := 17) (v := ?v17) (d := some 41) ?h17 ?r17
 case h17 => intro w hSw; obtain ⟨_, p0, p1, p2, p3, q0, q1, q2, q3⟩ := hSw; go_simp; try (with_reducible rfl)
 try simp only [pq13]
 refine takeZ (i := 18) (v := ?v18) (d := some 42) ?h18 ?r18
 case h18 => intro w hSw; obtain ⟨_, p0, p1, p2, p3, q0, q1, q2, q3⟩ := hSw; go_simp; try (with_reducible rfl)
 try simp only [pq13]
 refine takeZ (i := 19) (v := ?v19) (d := some 43) ?h19 ?r19
 case h19 => intro w hSw; obtain ⟨_, p0, p1, p2, p3, q0, q1, q2, q3⟩ := hSw; go_simp; try (with_reducible rfl)
 try simp only [pq13]
 refine takeZ (i := 20) (v := ?v20) (d := some 44) ?h20 ?r20
 case h20 => intro w hSw; obtain ⟨_, p0, p1, p2, p3, q0, q1, q2, q3⟩ := hSw; go_simp; try (with_reducible rfl)
 try simp only [pq13]
 refine takeZ (i := 21) (v := ?v21) (d := some 45) ?h21 ?r21
 case h21 => intro w hSw; obtain ⟨_, p0, p1, p2, p3, q0, q1, q2, q3⟩ := hSw; go_simp; try (with_reducible rfl)
 try simp only [pq13]
 refine takeZ (i := 22) (v := ?v22) (d := some 46) ?h22 ?r22
 case h22 => intro w hSw; obtain ⟨_, p0, p1, p2, p3, q0, q1, q2, q3⟩ := hSw; go_simp; try (with_reducible rfl)
 try simp only [pq13]
 refine takeZ (i := 23) (v := ?v23) (d := some 47) ?h23 ?r23
 case h23 => intro w hSw; obtain ⟨_, p0, p1, p2, p3, q0, q1, q2, q3⟩ := hSw; go_simp; try (with_reducible rfl)
 try simp only [pq13]
 refine takeZ (i := 24) (v := ?v24) (d := some 48) ?h24 ?r24
 case h24 => intro w hSw; obtain ⟨_, p0, p1, p2, p3, q0, q1, q2, q3⟩ := hSw; go_simp; try (with_reducible rfl)
 try simp only [pq13]
 refine takeZ (i := 25) (v := ?v25) (d := some 49) ?h25 ?r25
 case h25 => intro w hSw; obtain ⟨_, p0, p1, p2, p3, q0, q1, q2, q3⟩ := hSw; go_simp; try (with_reducible rfl)
 try simp only [pq13]
 refine takeZ (i := 26) (v := ?v26) (d := some 50) ?h26 ?r26
 case h26 => intro w hSw; obtain ⟨_, p0, p1, p2, p3, q0, q1, q2, q3⟩ := hSw; go_simp; try (with_reducible rfl)
 try simp only [pq13]
 refine takeZ (i := 27) (v := ?v27) (d := some 51) ?h27 ?r27
 case h27 => intro w hSw; obtain ⟨_, p0, p1, p2, p3, q0, q1, q2, q3⟩ := hSw; go_simp; try (with_reducible rfl)
 try simp only [pq13]
 refine takeZ (i := 28) (v := ?v28) (d := some 52) ?h28 ?r28
 case h28 => intro w hSw; obtain ⟨_, p0, p1, p2, p3, q0, q1, q2, q3⟩ := hSw; go_simp; try (with_reducible rfl)
 try simp only [pq13]
 refine takeZ (i := 29) (v := ?v29) (d := some 53) ?h29 ?r29
 case h29 => intro w hSw; obtain ⟨_, p0, p1, p2, p3, q0, q1, q2, q3⟩ := hSw; go_simp; try (with_reducible rfl)
 try simp only [pq13]
 refine takeZ (i := 30) (v := ?v30) (d := some 54) ?h30 ?r30
 case h30 => intro w hSw; obtain ⟨_, p0, p1, p2, p3, q0, q1, q2, q3⟩ := hSw; go_simp; try (with_reducible rfl)
 try simp only [pq13]
 refine takeZ (i := 31) (v := ?v31) (d := some 55) ?h31 ?r31
 case h31 => intro w hSw; obtain ⟨_, p0, p1, p2, p3, q0, q1, q2, q3⟩ := hSw; go_simp; try (with_reducible rfl)
 try simp only [pq13]
 refine takeZ (i := 32) (v := ?v32) (d := some 56) ?h32 ?r32
 case h32 => intro w hSw; obtain ⟨_, p0, p1, p2, p3, q0, q1, q2, q3⟩ := hSw; go_simp; try (with_reducible rfl)
 try simp only [pq13]
 refine takeZ (i := 33) (v := ?v33) (d := some 57) ?h33 ?r33
 case h33 => intro w hSw; obtain ⟨_, p0, p1, p2, p3, q0, q1, q2, q3⟩ := hSw; go_simp; try (with_reducible rfl)
 try simp only [pq13]
 refine takeZ (i := 34) (v := ?v34) (d := some 58) ?h34 ?r34
 case h34 => intro w hSw; obtain ⟨_, p0, p1, p2, p3, q0, q1, q2, q3⟩ := hSw; go_simp; try (with_reducible rfl)
 try simp only [pq13]
 refine takeZ (i := 35) (v := ?v35) (d := some 59) ?h35 ?r35
 case h35 => intro w hSw; obtain ⟨_, p0, p1, p2, p3, q0, q1, q2, q3⟩ := hSw; go_simp; try (with_reducible rfl)
 try simp only [pq13]
 refine wpAnyH_ready (rs := [36]) (by kernel_rfl) (by simp) ?_
 refine AllReadyH.cons rfl (fun K hK => ?_) AllReadyH.nil
 go_simp
 go_at_call 19
 refine (E.compareOf ⟨[97], 1, [53], [49, 48, 46, 48, 46, 48, 46, 50]⟩ ⟨[98], 5, [55], [100, 101, 110, 121, 32, 97, 110, 121, 32, 97, 110, 121]⟩ (-1) _ (by decide) (by decide) (by decide +kernel)).mono ?_
 rintro e wq ⟨rfl, hx⟩
 have hHq := HKP.out _ (bthen hHeld.1 hx)
 clear hHeld hx
 refine hK.out _ _ hHq (fun hHeld => ?_)
 clear hK K
 try simp only [pq13]
 refine takeZ (i := 37) (v := ?v37) (d := some 61) ?h37 ?r37
 case h37 => intro w hSw; obtain ⟨_, p0, p1, p2, p3, q0, q1, q2, q3⟩ := hSw; go_simp; try (with_reducible rfl)
 try simp only [pq13]
 refine takeZ (i := 38) (v := ?v38) (d := some 62) ?h38 ?r38
 case h38 => intro w hSw; obtain ⟨_, p0, p1, p2, p3, q0, q1, q2, q3⟩ := hSw; go_simp; try (with_reducible rfl)
 try simp only [pq13]
 refine takeZ (i := 39) (v := ?v39) (d := some 0) ?h39 ?r39
 case h39 => intro w hSw; obtain ⟨_, p0, p1, p2, p3, q0, q1, q2, q3⟩ := hSw; go_simp; try (with_reducible rfl)
 try simp only [pq13]
 refine wpAnyH_done (by kernel_rfl) ?_ _
 go_wp2
 go_ret
 exact ⟨rfl, bthen hb3 hHq.1⟩
end Go.Proofs.YtfcikfohmehmkaaGreatDoor
