/-
  Part 13 of what the proofs of this claim stand on. No conditions but those that each theorem states.
-/
import Derived.Test.YtfcikfohmehmkaaGreatDoorTabs12
import Derived.Shelf.Strings.OnBuilder
import Derived.Shelf.Strconv.Itoa3
import Derived.Lib.AppendIntMem
import Derived.Lib.IndexLaws
import Derived.Laws.Bits64b
import Derived.Laws.BitsLemmas
import Derived.IntWalk
import Derived.Shelf.Strings.Search2
import Derived.Shelf.Strings.Trim
import Derived.Shelf.Small.Wraps
import Derived.Deep.QuietTactic
import Derived.BigQuiet
import Derived.Shelf.Strconv.AppendIntPublic10
import Derived.Shelf.Small.Strs

namespace Go.Proofs.YtfcikfohmehmkaaGreatDoor
open Go.RowKit
set_option linter.unusedVariables false
set_option maxRecDepth 100000 in
set_option maxHeartbeats 16000000 in
theorem boundC14 (A B : Option Addr) (c d n k : Nat) (t : List T.Ln) (N : List H.Nd) (L : List H.En) (w : World) (hn : t.length = n) (hA : Seen eL w A t) (hl : n ≤ 200) (hR : T.RightT t) (hk : N.length = k) (hB : SeenN w B N) (hkl : k ≤ 200) (hv : ∀ x ∈ N, x.vn.length ≤ 200) (hL : H.boundC t N = L) :
  Calls Tryz.prog 29 #[.slice A n c, .slice B k d] w (fun e w' => ∃ v, e = .returned v ∧ Own eEc w' w.heap.size v L ∧ Below w.heap.size w w') := by
 have HN := Lib.hid hn
 have HA := Lib.hid hA
 have HR := Lib.hid hR
 have HK := Lib.hid hk
 have HBN := Lib.hid hB
 have HV := Lib.hid hv
 obtain ⟨l, hu⟩ : ∃ l, T.underW t [C.wBindings] = l := ⟨_, rfl⟩
 obtain ⟨m, hm⟩ : ∃ m, l.length = m := ⟨_, rfl⟩
 have HU := Lib.hid hu
 have HM := Lib.hid hm
 have HL := Lib.hid (show l.flatMap (H.boundAt t N) = L by rw [← hL, ← hu]; rfl)
 have HLW := Lib.hid (show ∀ x ∈ l, x.length ≤ 40 from fun x hx => T.underW_word hR (by rw [hu]; exact hx))
 have hmn : m ≤ 200 := by
  have h1 := T.underW_len hR [C.wBindings]
  rw [hu] at h1
  omega
 have HBF := Lib.hid (show ∀ q, ((l.take q).flatMap (H.boundAt t N)).length ≤ 80000 from fun q => H.flat_take _ 400 200 q l (fun i _ => H.boundAt_few t (by omega) i) (by omega))
 have HWL := Lib.hid (fun (p : T.Pth) => H.word_long hR p (o := []) (by simp))
 clear hn hA hR hk hB hv hL hu hm
 go_enter Tryz.func29, Tryz.ntmps29
 go_wp2_with fail
 refine (wordsC A _ c 1 n 1 m t [C.wBindings] l _ HN.out rfl (HA.out.below (up w _)) (lit_seen eS w [C.wBindings] _ rfl (by simp)) (by omega) (by omega) (by omega) HR.out HU.out HM.out).mono ?_
 rintro e w1 ⟨C1, d1, rfl, hd1, hp1, hx⟩
 have hb1 := bthen (up w _) hx
 have HP1 := Lib.hid hp1
 clear hp1 hx
 go_wp2
 go_loopg [5, 17] m (fun gk vo vi wr => ∃ q : Nat, Hid (q + gk = m) ∧ q ≤ m ∧ vi = .int .i64 (q : Int) ∧ Hid (Own eEc wr w1.heap.size vo ((l.take q).flatMap (H.boundAt t N))) ∧ Hid (Below w1.heap.size w1 wr))
 case atStart => exact ⟨0, Nat.zero_add _, Nat.zero_le _, rfl, Own.nil _ _, Below.refl _ _⟩
 case round =>
  obtain ⟨q, HGK, hq, rfl, HO, HB⟩ := hrel
  have hgk := HGK.out
  by_cases hlt : q < m
  ·have blt : decide ((q : Int) < (m : Int)) = true := decide_eq_true (by omega)
   have blt2 : decide (q < m) = true := decide_eq_true hlt
   have hki : (q : Int) < (m : Int) := by omega
   have hql : q < l.length := by have := HM.out; omega
   obtain ⟨b3, o3, e3, hw3, hL3⟩ := HP1.out.pt.seen (by omega)
   have e3 : C1 = some ⟨b3, o3, none⟩ := e3
   subst e3
   have c0 := (hL3.below HB.out hw3).str hql
   have HXI := Lib.hid (H.flat_next (H.boundAt t N) (List.getElem?_eq_getElem hql))
   have HIL := Lib.hid (HLW.out _ (List.getElem_mem hql))
   clear hL3
   generalize l[q] = i at c0 HXI HIL
   obtain ⟨v, hvv⟩ : ∃ v, H.wordH t [C.wBindings, i, C.wVni] [] = v := ⟨_, rfl⟩
   obtain ⟨mac, hmac⟩ : ∃ v, H.wordH t [C.wBindings, i, C.wMac] [] = v := ⟨_, rfl⟩
   obtain ⟨ho, hho⟩ : ∃ v, H.wordH t [C.wBindings, i, C.wHost] [] = v := ⟨_, rfl⟩
   obtain ⟨g, hg⟩ : ∃ g, H.namedN N ho = g := ⟨_, rfl⟩
   have HVV := Lib.hid hvv
   have HMAC := Lib.hid hmac
   have HHO := Lib.hid hho
   have HGN := Lib.hid hg
   have HVL := Lib.hid (show v.length ≤ 40 by rw [← hvv]; exact HWL.out _)
   have HML := Lib.hid (show mac.length ≤ 40 by rw [← hmac]; exact HWL.out _)
   obtain ⟨F, hF⟩ : ∃ F : H.Nd → List H.En, F = fun h => H.boundTo h g v i mac := ⟨_, rfl⟩
   have HAT := Lib.hid (show H.boundAt t N i = N.flatMap F by rw [hF]; unfold H.boundAt; rw [hho, hg, hvv, hmac])
   have HFD := Lib.hid hF
   have HF := Lib.hid (show ∀ j, ((N.take j).flatMap F).length ≤ 400 from fun j => H.flat_take F 2 200 j N (fun h _ => by rw [hF]; exact H.boundTo_few _ _ _ _ _) (by have := HK.out; omega))
   have HSQ := Lib.hid (HA.out.below (hb1.trans (HB.out.mono hb1.size)))
   have HSN := Lib.hid (HBN.out.below (hb1.trans (HB.out.mono hb1.size)))
   have hszr := HB.out.size
   obtain ⟨wo, hwo⟩ : ∃ wo, wo = wr := ⟨_, rfl⟩
   subst hwo
   clear hvv hmac hho hg hF
   go_wp2_with fail
   refine (saidC A _ c 3 n 3 t [C.wBindings, i, C.wVni] [] v _ HN.out rfl (HSQ.out.below (up wo _)) (lit_seen eS wo [C.wBindings, i, C.wVni] _ rfl (by simp)) (by omega) (by omega) (by omega) HR.out HVV.out).mono ?_
   rintro e w2 ⟨rfl, hx⟩
   have hb2 := bthen (up wo _) hx
   clear hx
   go_wp2_with fail
   refine (saidC A _ c 3 n 3 t [C.wBindings, i, C.wMac] [] mac _ HN.out rfl (HSQ.out.below (bthen hb2 (up w2 _))) (lit_seen eS w2 [C.wBindings, i, C.wMac] _ rfl (by simp)) (by omega) (by omega) (by omega) HR.out HMAC.out).mono ?_
   rintro e w3 ⟨rfl, hx⟩
   have hb3 := bthen hb2 (bthen (up w2 _) hx)
   clear hx
   go_wp2_with fail
   refine (saidC A _ c 3 n 3 t [C.wBindings, i, C.wHost] [] ho _ HN.out rfl (HSQ.out.below (bthen hb3 (up w3 _))) (lit_seen eS w3 [C.wBindings, i, C.wHost] _ rfl (by simp)) (by omega) (by omega) (by omega) HR.out HHO.out).mono ?_
   rintro e w4 ⟨rfl, hx⟩
   have hb4 := bthen hb3 (bthen (up w3 _) hx)
   clear hx
   go_wp2_with fail
   refine (namedC B d k N ho g _ HK.out (HSN.out.below hb4) (by omega) HGN.out).mono ?_
   rintro e w5 ⟨gm, rfl, hgm, hx⟩
   obtain ⟨ga, gi, gvn⟩ := g
   obtain ⟨gA, gn, gc⟩ := gm
   have hb5 := bthen hb4 hx
   obtain ⟨gg, hgg⟩ : ∃ gg, w5.heap.size = gg := ⟨_, rfl⟩
   obtain ⟨W6, hW6⟩ : ∃ W6, w5.alloc (.cells #[.string (sB ga), .string (sB gi), .slice gA gn gc] 96) = W6 := ⟨_, rfl⟩
   have HND := Lib.hid (show NdB W6 gg ga gi ⟨gA, gn, gc⟩ by rw [← hW6, ← hgg]; exact NdB.born w5 ga gi ⟨gA, gn, gc⟩)
   have hb6 : Below wo.heap.size wo W6 := by rw [← hW6]; exact bthen hb5 (up w5 _)
   have HB6 := Lib.hid (show Below w1.heap.size w1 W6 from HB.out.trans (hb6.mono hszr))
   have HO6 := Lib.hid (HO.out.keep hb6)
   have HSD := Lib.hid (show Side12 gg W6 W6 u5 from side_start HO.out (by rw [← hgg]; exact hb5.size))
   obtain ⟨p0, hp0⟩ : ∃ p0, (l.take q).flatMap (H.boundAt t N) = p0 := ⟨_, rfl⟩
   have HP0 := Lib.hid (show p0.length ≤ 80000 by rw [← hp0]; exact HBF.out q)
   rw [hp0] at HO6 HXI
   have HGG := Lib.hid hgg
   have HW6 := Lib.hid hW6
   clear hgg hW6 hp0 hb2 hb3 hb4 hb5 hb6 hx hgm
   go_wp2
   go_loopg [5, 37] k (fun gk2 vo vi w2 => ∃ j : Nat, Hid (j + gk2 = k) ∧ j ≤ k ∧ vi = .int .i64 (j : Int) ∧ Hid (Own eEc w2 w1.heap.size vo (p0 ++ (N.take j).flatMap F)) ∧ Hid (Below w1.heap.size w1 w2) ∧ Hid (Side12 gg W6 w2 vo))
   case atStart => exact ⟨0, Nat.zero_add _, Nat.zero_le _, rfl, (by show Own eEc _ _ _ _; rw [HW6.out]; simpa using HO6.out), (by show Below _ _ _; rw [HW6.out]; exact HB6.out), (by show Side12 _ _ _ _; rw [HW6.out]; exact HSD.out)⟩
   case round =>
    obtain ⟨j, HG3, hj, rfl, HO3, HB3, HS3⟩ := hrel
    have hgk3 := HG3.out
    by_cases hlj : j < k
    ·have blj : decide ((j : Int) < (k : Int)) = true := decide_eq_true (by omega)
     have blj2 : decide (j < k) = true := decide_eq_true hlj
     have hji : (j : Int) < (k : Int) := by omega
     have hjl : j < N.length := by have := HK.out; omega
     have HBW := Lib.hid (hb1.trans (HB3.out.mono hb1.size))
     obtain ⟨b9, o9, m9, rfl, hpt9, hcs9⟩ := HBN.out.one hjl
     obtain ⟨x0, x1, x2⟩ := hcs9 wr HBW.out
     have HXJ := Lib.hid (H.flat_next F (List.getElem?_eq_getElem hjl))
     have HMV9 := Lib.hid (HV.out _ (List.getElem_mem hjl))
     have HPT9 := Lib.hid hpt9
     clear hcs9 hpt9
     generalize N[j] = h at x0 x1 x2 HXJ HPT9 HMV9
     obtain ⟨ha, hi, hvn⟩ := h
     obtain ⟨m9A, m9n, m9c⟩ := m9
     simp only at x0 x1 x2 HMV9 HPT9
     have HFG := Lib.hid (show F ⟨ha, hi, hvn⟩ = if decide (v ∈ hvn) = true then ⟨ha, 2, v ++ 32 :: i, mac⟩ :: (if ga = ha then [] else [⟨ha, 3, v ++ 32 :: mac, gi⟩]) else [] by rw [HFD.out]; rfl)
     obtain ⟨w7, hw7⟩ : ∃ w7, w7 = wr := ⟨_, rfl⟩
     subst hw7
     obtain ⟨gh, hgh⟩ : ∃ gh, w7.heap.size = gh := ⟨_, rfl⟩
     have hup := up w7 (.cells #[.string (sB ha), .string (sB hi), .slice m9A m9n m9c] 96)
     have HNH := Lib.hid (NdB.born w7 ha hi ⟨m9A, m9n, m9c⟩)
     have HSH := Lib.hid (show Side12 gh (w7.alloc (.cells #[.string (sB ha), .string (sB hi), .slice m9A m9n m9c] 96)) (w7.alloc (.cells #[.string (sB ha), .string (sB hi), .slice m9A m9n m9c] 96)) u5 from side_start HO3.out (by rw [hgh]; exact Nat.le_refl _))
     have HB4 := Lib.hid (HB3.out.trans (hup.mono HB3.out.size))
     have HBW4 := Lib.hid (bthen HBW.out hup)
     have HS4 := Lib.hid (side_grow HS3.out hup)
     have HO4 := Lib.hid (HO3.out.keep hup)
     obtain ⟨s0, s1, s2⟩ := HNH.out.cells
     have HLN := Lib.hid (show (p0 ++ (N.take j).flatMap F).length ≤ 80400 by rw [List.length_append]; have := HF.out j; have := HP0.out; omega)
     obtain ⟨r, hr⟩ : ∃ r, decide (v ∈ hvn) = r := ⟨_, rfl⟩
     have HRV := Lib.hid hr
     have HIN := Lib.hid (fun W (h : Below w.heap.size w W) => inC14 ha hi m9A m9c m9n hvn v r W HPT9.out.len (HPT9.out.seen.below h) (by have := HMV9.out; have : hvn.length = m9n := HPT9.out.len; omega) hr)
     have HGH := Lib.hid hgh
     clear hup hr hgh
     go_wp2_with fail
     refine (HIN.out _ HBW4.out).mono ?_
     rintro e w8 ⟨rfl, hx⟩
     have HB8 := Lib.hid (HB4.out.trans (hx.mono HB4.out.size))
     have HS8 := Lib.hid (side_grow HS4.out hx)
     have HO8 := Lib.hid (HO4.out.keep hx)
     have HSH8 := Lib.hid (side_grow HSH.out hx)
     have HNH8 := Lib.hid (HNH.out.keep hx HNH.out.lt)
     obtain ⟨s0, s1, s2⟩ := HNH8.out.cells
     clear hx
     cases r with
     | false =>
      have HE := Lib.hid (show F ⟨ha, hi, hvn⟩ = [] by rw [HFG.out, if_neg (fun h => by rw [HRV.out] at h; cases h)])
      go_wp2
      go_roundg (k - (j + 1))
      case rel => exact ⟨j + 1, (by show _ = _; omega), by omega, by go_num, (by show Own eEc _ _ _ _; rw [HXJ.out, HE.out, List.append_nil]; exact HO8.out), HB8, HS8⟩
      case measure => omega
     | true =>
      have HE := Lib.hid (show F ⟨ha, hi, hvn⟩ = ⟨ha, 2, v ++ 32 :: i, mac⟩ :: (if ga = ha then [] else [⟨ha, 3, v ++ 32 :: mac, gi⟩]) by rw [HFG.out, if_pos HRV.out])
      have hsz8 := HB8.out.size
      obtain ⟨k2, hk2⟩ : ∃ z, v ++ 32 :: i = z := ⟨_, rfl⟩
      obtain ⟨k3, hk3⟩ : ∃ z, v ++ 32 :: mac = z := ⟨_, rfl⟩
      have a1 : ∀ w : World, Sem.run Tryz.prog (Op.stringOp .add (sB v) (⟨#[32]⟩ : ByteArray)) w = .ok (.string (sB (v ++ [32]))) w := fun w => add14 v [32] (v ++ [32]) w (Nat.le_trans HVL.out (by omega)) (by simp) rfl
      have a2 : ∀ w : World, Sem.run Tryz.prog (Op.stringOp .add (sB (v ++ [32])) (sB i)) w = .ok (.string (sB k2)) w := fun w => add14 (v ++ [32]) i k2 w (by rw [List.length_append, List.length_singleton]; have := HVL.out; omega) (Nat.le_trans HIL.out (by omega)) (by rw [← hk2]; simp)
      have a3 : ∀ w : World, Sem.run Tryz.prog (Op.stringOp .add (sB (v ++ [32])) (sB mac)) w = .ok (.string (sB k3)) w := fun w => add14 (v ++ [32]) mac k3 w (by rw [List.length_append, List.length_singleton]; have := HVL.out; omega) (Nat.le_trans HML.out (by omega)) (by rw [← hk3]; simp)
      rw [hk2, hk3] at HE
      clear hk2 hk3
      by_cases he : ga = ha
      ·have n0 := sB_eq he
       have HE1 := Lib.hid (show F ⟨ha, hi, hvn⟩ = [⟨ha, 2, k2, mac⟩] by rw [HE.out, if_pos he])
       clear he
       go_wp2_with (at_builtin; refine wpList_appS eEc _ rfl (.tmp 45) (.tmp 54) rfl w1.heap.size u5 _ rfl HO8.out ⟨ha, 2, k2, mac⟩ 1 _ rfl w8.heap.size rfl rfl (by have := HLN.out; omega) hsz8 ?_; intro v9 w9 hown9 hb9 hG9; have HS9 := Lib.hid (side_app HS8.out hG9); obtain ⟨t0, t1, t2⟩ := (HNH.out.side (side_app HSH8.out hG9) (Nat.le_of_eq HGH.out.symm)).cells; obtain ⟨z0, z1, z2⟩ := (HND.out.side HS9.out (Nat.le_refl _)).cells; rw [← HGG.out] at z0 z1 z2)
       go_roundg (k - (j + 1))
       case rel => exact ⟨j + 1, (by show _ = _; omega), by omega, by go_num, (by show Own eEc _ _ _ _; rw [HXJ.out, HE1.out, ← List.append_assoc]; exact hown9), HB8.out.trans hb9, HS9⟩
       case measure => omega
      ·have n0 := sB_ne he
       have HE1 := Lib.hid (show F ⟨ha, hi, hvn⟩ = [⟨ha, 2, k2, mac⟩] ++ [⟨ha, 3, k3, gi⟩] by rw [HE.out, if_neg he]; rfl)
       clear he
       go_wp2_with (first | (at_builtin; refine wpList_appS eEc _ rfl (.tmp 45) (.tmp 54) rfl w1.heap.size u5 _ rfl HO8.out ⟨ha, 2, k2, mac⟩ 1 _ rfl w8.heap.size rfl rfl (by have := HLN.out; omega) hsz8 ?_; intro v9 w9 hown9 hb9 hG9; have HS9 := Lib.hid (side_app HS8.out hG9); have HO9 := Lib.hid hown9; have HB9 := Lib.hid (HB8.out.trans hb9); have hsz9 := (HB8.out.trans hb9).size; clear hown9 hb9; obtain ⟨t0, t1, t2⟩ := (HNH.out.side (side_app HSH8.out hG9) (Nat.le_of_eq HGH.out.symm)).cells; obtain ⟨z0, z1, z2⟩ := (HND.out.side HS9.out (Nat.le_refl _)).cells; rw [← HGG.out] at z0 z1 z2) | (at_builtin; refine wpList_appS eEc _ rfl (.tmp 61) (.tmp 71) rfl w1.heap.size v9 _ rfl HO9.out ⟨ha, 3, k3, gi⟩ 1 _ rfl w9.heap.size rfl rfl (by rw [List.length_append, List.length_singleton]; have := HLN.out; omega) hsz9 ?_; intro v10 w10 hown10 hb10 hG10))
       go_roundg (k - (j + 1))
       case rel => exact ⟨j + 1, (by show _ = _; omega), by omega, by go_num, (by show Own eEc _ _ _ _; rw [HXJ.out, HE1.out, ← List.append_assoc, ← List.append_assoc]; exact hown10), HB9.out.trans hb10, side_app HS9.out hG10⟩
       case measure => omega
    ·have blj : decide ((j : Int) < (k : Int)) = false := decide_eq_false (by omega)
     have blj2 : decide (j < k) = false := decide_eq_false hlj
     have HE := Lib.hid (show p0 ++ (N.take j).flatMap F = (l.take (q + 1)).flatMap (H.boundAt t N) by
      rw [List.take_of_length_le (by have := HK.out; omega), HXI.out, HAT.out])
     go_wp2
     go_roundg (m - (q + 1))
     case rel => exact ⟨q + 1, (by show _ = _; omega), by omega, by go_num, (by show Own eEc _ _ _ _; rw [← HE.out]; exact HO3.out), HB3⟩
     case measure => omega
  ·have blt : decide ((q : Int) < (m : Int)) = false := decide_eq_false (by omega)
   have blt2 : decide (q < m) = false := decide_eq_false hlt
   have HE := Lib.hid (show (l.take q).flatMap (H.boundAt t N) = L by rw [List.take_of_length_le (by have := HM.out; omega)]; exact HL.out)
   go_wp2
   go_ret
   exact ⟨_, rfl, by rw [← HE.out]; exact HO.out.lower hb1.size, hb1.trans (HB.out.mono hb1.size)⟩
namespace H
theorem map_next {α β : Type} (f : α → β) {l : List α} {k : Nat} {x : α} (h : l[k]? = some x) : (l.take (k + 1)).map f = (l.take k).map f ++ [f x] := by
 obtain ⟨h1, rfl⟩ := List.getElem?_eq_some_iff.1 h
 rw [List.take_succ_eq_append_getElem h1, List.map_append]
 simp
end H
set_option maxRecDepth 100000 in
set_option maxHeartbeats 16000000 in
theorem routesC14 (A B : Option Addr) (c d n k : Nat) (t : List T.Ln) (N : List H.Nd) (L : List H.En) (w : World) (hn : t.length = n) (hA : Seen eL w A t) (hl : n ≤ 200) (hR : T.RightT t) (hk : N.length = k) (hB : SeenN w B N) (hkl : k ≤ 200) (hv : ∀ x ∈ N, x.vn.length ≤ 200) (hip : ∀ x ∈ N, x.addr.length ≤ 40) (hL : H.routesC t N = L) :
  Calls Tryz.prog 30 #[.slice A n c, .slice B k d] w (fun e w' => ∃ v, e = .returned v ∧ Own eEc w' w.heap.size v L ∧ Below w.heap.size w w') := by
 have HN := Lib.hid hn
 have HA := Lib.hid hA
 have HR := Lib.hid hR
 have HK := Lib.hid hk
 have HBN := Lib.hid hB
 have HV := Lib.hid hv
 obtain ⟨l, hu⟩ : ∃ l, T.underW t [C.wRoutes] = l := ⟨_, rfl⟩
 obtain ⟨m, hm⟩ : ∃ m, l.length = m := ⟨_, rfl⟩
 have HU := Lib.hid hu
 have HM := Lib.hid hm
 have HL := Lib.hid (show l.flatMap (H.routeAt t N) = L by rw [← hL, ← hu]; rfl)
 have HLW := Lib.hid (show ∀ x ∈ l, x.length ≤ 40 from fun x hx => T.underW_word hR (by rw [hu]; exact hx))
 have hmn : m ≤ 200 := by
  have h1 := T.underW_len hR [C.wRoutes]
  rw [hu] at h1
  omega
 have HBF := Lib.hid (show ∀ q, ((l.take q).flatMap (H.routeAt t N)).length ≤ 40000 from fun q => H.flat_take _ 200 200 q l (fun i _ => by unfold H.routeAt; rw [List.length_map]; omega) (by omega))
 have HWL := Lib.hid (fun (p : T.Pth) (o : List UInt8) (ho : o.length ≤ 40) => H.word_long hR p ho)
 have HIPL := Lib.hid hip
 clear hn hA hR hk hB hv hip hL hu hm
 go_enter Tryz.func30, Tryz.ntmps30
 go_wp2_with fail
 refine (wordsC A _ c 1 n 1 m t [C.wRoutes] l _ HN.out rfl (HA.out.below (up w _)) (lit_seen eS w [C.wRoutes] _ rfl (by simp)) (by omega) (by omega) (by omega) HR.out HU.out HM.out).mono ?_
 rintro e w1 ⟨C1, d1, rfl, hd1, hp1, hx⟩
 have hb1 := bthen (up w _) hx
 have HP1 := Lib.hid hp1
 clear hp1 hx
 go_wp2
 go_loopg [5, 17] m (fun gk vo vi wr => ∃ q : Nat, Hid (q + gk = m) ∧ q ≤ m ∧ vi = .int .i64 (q : Int) ∧ Hid (Own eEc wr w1.heap.size vo ((l.take q).flatMap (H.routeAt t N))) ∧ Hid (Below w1.heap.size w1 wr))
 case atStart => exact ⟨0, Nat.zero_add _, Nat.zero_le _, rfl, Own.nil _ _, Below.refl _ _⟩
 case round =>
  obtain ⟨q, HGK, hq, rfl, HO, HB⟩ := hrel
  have hgk := HGK.out
  by_cases hlt : q < m
  ·have blt : decide ((q : Int) < (m : Int)) = true := decide_eq_true (by omega)
   have blt2 : decide (q < m) = true := decide_eq_true hlt
   have hki : (q : Int) < (m : Int) := by omega
   have hql : q < l.length := by have := HM.out; omega
   obtain ⟨b3, o3, e3, hw3, hL3⟩ := HP1.out.pt.seen (by omega)
   have e3 : C1 = some ⟨b3, o3, none⟩ := e3
   subst e3
   have c0 := (hL3.below HB.out hw3).str hql
   have HXI := Lib.hid (H.flat_next (H.routeAt t N) (List.getElem?_eq_getElem hql))
   have HIL := Lib.hid (HLW.out _ (List.getElem_mem hql))
   clear hL3
   generalize l[q] = i at c0 HXI HIL
   obtain ⟨ho, hho⟩ : ∃ v, H.wordH t [C.wRoutes, i, C.wVia] [] = v := ⟨_, rfl⟩
   obtain ⟨me, hme⟩ : ∃ v, H.wordH t [C.wRoutes, i, C.wMetric] [48] = v := ⟨_, rfl⟩
   obtain ⟨g, hg⟩ : ∃ g, H.namedN N ho = g := ⟨_, rfl⟩
   have HME := Lib.hid hme
   have HHO := Lib.hid hho
   have HGN := Lib.hid hg
   have HML := Lib.hid (show me.length ≤ 40 by rw [← hme]; exact HWL.out _ _ (by simp))
   obtain ⟨F, hF⟩ : ∃ F : H.Nd → H.En, F = fun h => H.routeTo h g i me := ⟨_, rfl⟩
   have HAT := Lib.hid (show H.routeAt t N i = N.map F by rw [hF]; unfold H.routeAt; rw [hho, hg, hme])
   have HFD := Lib.hid hF
   have HIL2 := Lib.hid (show g.addr.length ≤ 40 by
    rw [← hg]
    unfold H.namedN
    cases hf : N.find? (fun n => decide (n.name = ho)) with
    | none => simp
    | some n => exact HIPL.out _ (List.mem_of_find?_eq_some hf))
   have HSQ := Lib.hid (HA.out.below (hb1.trans (HB.out.mono hb1.size)))
   have HSN := Lib.hid (HBN.out.below (hb1.trans (HB.out.mono hb1.size)))
   have hszr := HB.out.size
   obtain ⟨wo, hwo⟩ : ∃ wo, wo = wr := ⟨_, rfl⟩
   subst hwo
   clear hme hho hg hF
   go_wp2_with fail
   refine (saidC A _ c 3 n 3 t [C.wRoutes, i, C.wVia] [] ho _ HN.out rfl (HSQ.out.below (up wo _)) (lit_seen eS wo [C.wRoutes, i, C.wVia] _ rfl (by simp)) (by omega) (by omega) (by omega) HR.out HHO.out).mono ?_
   rintro e w2 ⟨rfl, hx⟩
   have hb2 := bthen (up wo _) hx
   clear hx
   go_wp2_with fail
   refine (namedC B d k N ho g _ HK.out (HSN.out.below hb2) (by omega) HGN.out).mono ?_
   rintro e w3 ⟨gm, rfl, hgm, hx⟩
   obtain ⟨ga, gi, gvn⟩ := g
   obtain ⟨gA, gn, gc⟩ := gm
   have hb3 := bthen hb2 hx
   obtain ⟨gg, hgg⟩ : ∃ gg, w3.heap.size = gg := ⟨_, rfl⟩
   obtain ⟨W4, hW4⟩ : ∃ W4, w3.alloc (.cells #[.string (sB ga), .string (sB gi), .slice gA gn gc] 96) = W4 := ⟨_, rfl⟩
   have HND4 := Lib.hid (show NdB W4 gg ga gi ⟨gA, gn, gc⟩ by rw [← hW4, ← hgg]; exact NdB.born w3 ga gi ⟨gA, gn, gc⟩)
   have hb4 : Below wo.heap.size wo W4 := by rw [← hW4]; exact bthen hb3 (up w3 _)
   have hs34 : W4.heap.size = w3.heap.size + 1 := by rw [← hW4]; simp
   have HS34 := Lib.hid hs34
   have HGG := Lib.hid hgg
   have HW4 := Lib.hid hW4
   have hgb : wo.heap.size ≤ gg := by rw [← hgg]; exact hb3.size
   clear hgg hW4 hx hb2 hgm hs34
   go_wp2_with fail
   rw [HW4.out]
   refine (saidC A (some ⟨w3.heap.size + 1, 0, none⟩) c 3 n 3 t [C.wRoutes, i, C.wMetric] [48] me _ HN.out rfl (HSQ.out.below (bthen hb4 (up W4 _))) (lit_at14 W4 [C.wRoutes, i, C.wMetric] _ _ HS34.out rfl (by simp)) (by omega) (by omega) (by omega) HR.out HME.out).mono ?_
   rintro e W6 ⟨rfl, hx⟩
   have hb46 := bthen (up W4 _) hx
   have hb6 := bthen hb4 hb46
   have HND := Lib.hid (HND4.out.keep hb46 HND4.out.lt)
   have HB6 := Lib.hid (show Below w1.heap.size w1 W6 from HB.out.trans (hb6.mono hszr))
   have HO6 := Lib.hid (HO.out.keep hb6)
   have HSD := Lib.hid (show Side12 gg W6 W6 u5 from side_start HO.out hgb)
   obtain ⟨p0, hp0⟩ : ∃ p0, (l.take q).flatMap (H.routeAt t N) = p0 := ⟨_, rfl⟩
   have HP0 := Lib.hid (show p0.length ≤ 40000 by rw [← hp0]; exact HBF.out q)
   rw [hp0] at HO6 HXI
   clear hp0 hb3 hb4 hb6 hb46 hx
   go_wp2
   go_loopg [5, 33] k (fun gk2 vo vi w2 => ∃ j : Nat, Hid (j + gk2 = k) ∧ j ≤ k ∧ vi = .int .i64 (j : Int) ∧ Hid (Own eEc w2 w1.heap.size vo (p0 ++ (N.take j).map F)) ∧ Hid (Below w1.heap.size w1 w2) ∧ Hid (Side12 gg W6 w2 vo))
   case atStart => exact ⟨0, Nat.zero_add _, Nat.zero_le _, rfl, (by show Own eEc _ _ _ _; simpa using HO6.out), HB6.out, HSD.out⟩
   case round =>
    obtain ⟨j, HG3, hj, rfl, HO3, HB3, HS3⟩ := hrel
    have hgk3 := HG3.out
    by_cases hlj : j < k
    ·have blj : decide ((j : Int) < (k : Int)) = true := decide_eq_true (by omega)
     have blj2 : decide (j < k) = true := decide_eq_true hlj
     have hji : (j : Int) < (k : Int) := by omega
     have hjl : j < N.length := by have := HK.out; omega
     have HBW := Lib.hid (hb1.trans (HB3.out.mono hb1.size))
     obtain ⟨b9, o9, m9, rfl, hpt9, hcs9⟩ := HBN.out.one hjl
     obtain ⟨x0, x1, x2⟩ := hcs9 wr HBW.out
     have HXJ := Lib.hid (H.map_next F (List.getElem?_eq_getElem hjl))
     have HMV9 := Lib.hid (HV.out _ (List.getElem_mem hjl))
     have HPT9 := Lib.hid hpt9
     clear hcs9 hpt9
     generalize N[j] = h at x0 x1 x2 HXJ HPT9 HMV9
     obtain ⟨ha, hi, hvn⟩ := h
     obtain ⟨m9A, m9n, m9c⟩ := m9
     simp only at x0 x1 x2 HMV9 HPT9
     have HFG := Lib.hid (show F ⟨ha, hi, hvn⟩ = ⟨ha, 4, i, (if ga = ha then H.wLocal else gi) ++ 32 :: me⟩ by rw [HFD.out]; rfl)
     obtain ⟨w7, hw7⟩ : ∃ w7, w7 = wr := ⟨_, rfl⟩
     subst hw7
     have hup := up w7 (.cells #[.string (sB ha), .string (sB hi), .slice m9A m9n m9c] 96)
     have HNH := Lib.hid (NdB.born w7 ha hi ⟨m9A, m9n, m9c⟩)
     have HB4 := Lib.hid (HB3.out.trans (hup.mono HB3.out.size))
     have HS4 := Lib.hid (side_grow HS3.out hup)
     have HO4 := Lib.hid (HO3.out.keep hup)
     obtain ⟨s0, s1, s2⟩ := HNH.out.cells
     obtain ⟨z0, z1, z2⟩ := (HND.out.side HS4.out (Nat.le_refl _)).cells
     rw [← HGG.out] at z0 z1 z2
     have HLN := Lib.hid (show (p0 ++ (N.take j).map F).length ≤ 40200 by rw [List.length_append, List.length_map, List.length_take]; have := HP0.out; omega)
     have hsz4 := HB4.out.size
     have HGL := Lib.hid (show gi.length ≤ 40 from HIL2.out)
     clear hup
     by_cases he : ga = ha
     ·have n0 := sB_eq he
      obtain ⟨k4, hk4⟩ : ∃ z, H.wLocal ++ 32 :: me = z := ⟨_, rfl⟩
      have a1 : ∀ w : World, Sem.run Tryz.prog (Op.stringOp .add (⟨#[108, 111, 99, 97, 108]⟩ : ByteArray) (⟨#[32]⟩ : ByteArray)) w = .ok (.string (sB (H.wLocal ++ [32]))) w := fun w => add14 H.wLocal [32] (H.wLocal ++ [32]) w (by decide) (by simp) rfl
      have a2 : ∀ w : World, Sem.run Tryz.prog (Op.stringOp .add (sB (H.wLocal ++ [32])) (sB me)) w = .ok (.string (sB k4)) w := fun w => add14 (H.wLocal ++ [32]) me k4 w (by decide) (Nat.le_trans HML.out (by omega)) (by rw [← hk4]; simp)
      have HE1 := Lib.hid (show F ⟨ha, hi, hvn⟩ = ⟨ha, 4, i, k4⟩ by rw [HFG.out, if_pos he, hk4])
      clear he hk4
      go_wp2_with (at_builtin; refine wpList_appS eEc _ rfl (.tmp 44) (.tmp 53) rfl w1.heap.size u5 _ rfl HO4.out ⟨ha, 4, i, k4⟩ 1 _ rfl (w7.heap.size + 1) (by simp) rfl (by have := HLN.out; omega) hsz4 ?_; intro v9 w9 hown9 hb9 hG9)
      go_roundg (k - (j + 1))
      case rel => exact ⟨j + 1, (by show _ = _; omega), by omega, by go_num, (by show Own eEc _ _ _ _; rw [HXJ.out, HE1.out, ← List.append_assoc]; exact hown9), HB4.out.trans hb9, side_app HS4.out hG9⟩
      case measure => omega
     ·have n0 := sB_ne he
      obtain ⟨k4, hk4⟩ : ∃ z, gi ++ 32 :: me = z := ⟨_, rfl⟩
      have a1 : ∀ w : World, Sem.run Tryz.prog (Op.stringOp .add (sB gi) (⟨#[32]⟩ : ByteArray)) w = .ok (.string (sB (gi ++ [32]))) w := fun w => add14 gi [32] (gi ++ [32]) w (Nat.le_trans HGL.out (by omega)) (by simp) rfl
      have a2 : ∀ w : World, Sem.run Tryz.prog (Op.stringOp .add (sB (gi ++ [32])) (sB me)) w = .ok (.string (sB k4)) w := fun w => add14 (gi ++ [32]) me k4 w (by rw [List.length_append, List.length_singleton]; have := HGL.out; omega) (Nat.le_trans HML.out (by omega)) (by rw [← hk4]; simp)
      have HE1 := Lib.hid (show F ⟨ha, hi, hvn⟩ = ⟨ha, 4, i, k4⟩ by rw [HFG.out, if_neg he, hk4])
      clear he hk4
      go_wp2_with (at_builtin; refine wpList_appS eEc _ rfl (.tmp 44) (.tmp 53) rfl w1.heap.size u5 _ rfl HO4.out ⟨ha, 4, i, k4⟩ 1 _ rfl (w7.heap.size + 1) (by simp) rfl (by have := HLN.out; omega) hsz4 ?_; intro v9 w9 hown9 hb9 hG9)
      go_roundg (k - (j + 1))
      case rel => exact ⟨j + 1, (by show _ = _; omega), by omega, by go_num, (by show Own eEc _ _ _ _; rw [HXJ.out, HE1.out, ← List.append_assoc]; exact hown9), HB4.out.trans hb9, side_app HS4.out hG9⟩
      case measure => omega
    ·have blj : decide ((j : Int) < (k : Int)) = false := decide_eq_false (by omega)
     have blj2 : decide (j < k) = false := decide_eq_false hlj
     have HE := Lib.hid (show p0 ++ (N.take j).map F = (l.take (q + 1)).flatMap (H.routeAt t N) by
      rw [List.take_of_length_le (by have := HK.out; omega), HXI.out, HAT.out])
     go_wp2
     go_roundg (m - (q + 1))
     case rel => exact ⟨q + 1, (by show _ = _; omega), by omega, by go_num, (by show Own eEc _ _ _ _; rw [← HE.out]; exact HO3.out), HB3⟩
     case measure => omega
  ·have blt : decide ((q : Int) < (m : Int)) = false := decide_eq_false (by omega)
   have blt2 : decide (q < m) = false := decide_eq_false hlt
   have HE := Lib.hid (show (l.take q).flatMap (H.routeAt t N) = L by rw [List.take_of_length_le (by have := HM.out; omega)]; exact HL.out)
   go_wp2
   go_ret
   exact ⟨_, rfl, by rw [← HE.out]; exact HO.out.lower hb1.size, hb1.trans (HB.out.mono hb1.size)⟩
end Go.Proofs.YtfcikfohmehmkaaGreatDoor
namespace Go.Proofs.YtfcikfohmehmkaaGreatDoor
open Go.Shelf Go.RowKit
set_option linter.unusedVariables false
def ren156 : Go.Shelf.Ren := ⟨fun | 156 => 61 | 165 => 94 | 166 => 95 | 169 => 96 | 240 => 132 | 241 => 133 | 276 => 163 | 277 => 164 | n => n, fun | 0 => 0 | 3 => 3 | 4 => 4 | 5 => 5 | 9 => 9 | 20 => 20 | 31 => 42 | 37 => 134 | 70 => 133 | 72 => 136 | 75 => 139 | 76 => 140 | 80 => 142 | 127 => 171 | 164 => 190 | n => n, fun  n => n⟩
set_option maxRecDepth 100000 in
theorem lays156 : Go.Proofs.Lays.n156 Tryz.prog ren156 := {
 mixed := by kernel_rfl
 f156 := Tryz.func61.trans (congrArg some (by kernel_rfl))
 f165 := Tryz.func94.trans (congrArg some (by kernel_rfl))
 f166 := Tryz.func95.trans (congrArg some (by kernel_rfl))
 f169 := Tryz.func96.trans (congrArg some (by kernel_rfl))
 f240 := Tryz.func132.trans (congrArg some (by kernel_rfl))
 f241 := Tryz.func133.trans (congrArg some (by kernel_rfl))
 f276 := Tryz.func163.trans (congrArg some (by kernel_rfl))
 f277 := Tryz.func164.trans (congrArg some (by kernel_rfl))
 t0 := Tryz.underlying0
 a0 := Tryz.isAgg0
 z0 := Tryz.sizeOf0
 v0 := Tryz.zeroValue0
 t3 := Tryz.underlying3
 a3 := Tryz.isAgg3
 z3 := Tryz.sizeOf3
 v3 := Tryz.zeroValue3
 t4 := Tryz.underlying4
 a4 := Tryz.isAgg4
 z4 := Tryz.sizeOf4
 v4 := Tryz.zeroValue4
 t9 := Tryz.underlying9
 a9 := Tryz.isAgg9
 z9 := Tryz.sizeOf9
 v9 := Tryz.zeroValue9
 t20 := Tryz.underlying20
 a20 := Tryz.isAgg20
 z20 := Tryz.sizeOf20
 v20 := Tryz.zeroValue20
 t31 := Tryz.underlying42
 a31 := Tryz.isAgg42
 z31 := Tryz.sizeOf42
 v31 := Tryz.zeroValue42
 t37 := Tryz.underlying134
 a37 := Tryz.isAgg134
 z37 := Tryz.sizeOf134
 v37 := Tryz.zeroValue134
 t70 := Tryz.underlying133
 a70 := Tryz.isAgg133
 z70 := Tryz.sizeOf133
 v70 := Tryz.zeroValue133
 t72 := Tryz.underlying136
 a72 := Tryz.isAgg136
 z72 := Tryz.sizeOf136
 v72 := Tryz.zeroValue136
 t75 := Tryz.underlying139
 a75 := Tryz.isAgg139
 z75 := Tryz.sizeOf139
 v75 := Tryz.zeroValue139
 t76 := Tryz.underlying140
 a76 := Tryz.isAgg140
 z76 := Tryz.sizeOf140
 v76 := Tryz.zeroValue140
 t127 := Tryz.underlying171
 a127 := Tryz.isAgg171
 z127 := Tryz.sizeOf171
 v127 := Tryz.zeroValue171
 t164 := Tryz.underlying190
 a164 := Tryz.isAgg190
 z164 := Tryz.sizeOf190
 v164 := Tryz.zeroValue190 }
theorem extra156 : Builder.Extra Tryz.prog ren156 := { sizeBuilder := by kernel_rfl, liesBuilder := by kernel_rfl, t5 := Tryz.underlying5, a5 := Tryz.isAgg5, z5 := Tryz.sizeOf5, v5 := Tryz.zeroValue5, infoByte := by kernel_rfl, cellsByte := by kernel_rfl, sizeByte := by kernel_rfl, neB5 := by decide }
theorem join3 (g c : Nat) (x y z r : List UInt8) (w : World) (hA : Seen eS w (some ⟨g, 0, none⟩) [x, y, z]) (hc : 3 ≤ c) (hx : x.length ≤ 100) (hy : y.length ≤ 100) (hz : z.length ≤ 100) (hr : x ++ 32 :: (y ++ 32 :: z) = r) :
  Calls Tryz.prog 61 #[.slice (some ⟨g, 0, none⟩) 3 c, .string ⟨#[32]⟩] w (fun e w' => e = .returned (.string (sB r)) ∧ Below w.heap.size w w') := by
 obtain ⟨b, o, e, hb, hH⟩ := hA (by simp)
 injection e with e
 injection e with e1 e2
 subst e1; subst e2
 have hj : Lib.join ([sB x, sB y, sB z].map (·.data.toList)) (⟨#[32]⟩ : ByteArray).data.toList = r := by rw [← hr]; simp [Lib.join, sB]
 have h := Any.strings_Join (P := Tryz.prog) (ρ := ren156) lays156 extra156 g 0 c [sB x, sB y, sB z] ⟨#[32]⟩ w (fun j s hs => by
  match j, hs with
  | 0, hs => injection hs with hs; subst hs; exact hH.str (i := 0) (by simp)
  | 1, hs => injection hs with hs; subst hs; exact hH.str (i := 1) (by simp)
  | 2, hs => injection hs with hs; subst hs; exact hH.str (i := 2) (by simp)
  | _ + 3, hs => cases hs) hb (by simp) (by simpa using hc) (by rw [hj, ← hr]; simp; omega)
 rw [hj] at h
 exact h
end Go.Proofs.YtfcikfohmehmkaaGreatDoor
namespace Go.Proofs.YtfcikfohmehmkaaGreatDoor
open Go.RowKit
set_option linter.unusedVariables false
set_option linter.unusedSimpArgs false
theorem vec_ent (w : World) (x : H.En) : VecAt eEc (w.alloc (.cells #[.string (sB x.host), .int .i64 x.kind, .string (sB x.key), .string (sB x.val)] 35)) (.slice (some ⟨w.heap.size, 0, none⟩) 1 1) [x] := by
 refine .inr ⟨w.heap.size, 0, 1, rfl, Nat.le_refl _, by simp, fun i hi j u hu => ?_⟩
 have hi0 : i = 0 := by simpa using hi
 subst hi0
 have := new_cellsG eEc.T w #[.string (sB x.host), .int .i64 x.kind, .string (sB x.key), .string (sB x.val)] (eEc.C x) rfl j u hu
 rw [add_off, Nat.zero_add] at this
 rw [← this]; congr 2; omega
set_option maxRecDepth 100000 in
set_option maxHeartbeats 16000000 in
theorem polsC14 (A B : Option Addr) (c d n k : Nat) (t : List T.Ln) (N : List H.Nd) (L : List H.En) (w : World) (hn : t.length = n) (hA : Seen eL w A t) (hl : n ≤ 200) (hR : T.RightT t) (hk : N.length = k) (hB : SeenN w B N) (hkl : k ≤ 200) (hv : ∀ x ∈ N, x.vn.length ≤ 200) (hL : H.polsC t N = L) :
  Calls Tryz.prog 31 #[.slice A n c, .slice B k d] w (fun e w' => ∃ v, e = .returned v ∧ Own eEc w' w.heap.size v L ∧ Below w.heap.size w w') := by
 have HN := Lib.hid hn
 have HA := Lib.hid hA
 have HR := Lib.hid hR
 have HK := Lib.hid hk
 have HBN := Lib.hid hB
 have HV := Lib.hid hv
 obtain ⟨l, hu⟩ : ∃ l, T.underW t [C.wPolicy] = l := ⟨_, rfl⟩
 obtain ⟨m, hm⟩ : ∃ m, l.length = m := ⟨_, rfl⟩
 have HU := Lib.hid hu
 have HM := Lib.hid hm
 have HL := Lib.hid (show l.flatMap (H.polAt t N) = L by rw [← hL, ← hu]; rfl)
 have HLW := Lib.hid (show ∀ x ∈ l, x.length ≤ 40 from fun x hx => T.underW_word hR (by rw [hu]; exact hx))
 have hmn : m ≤ 200 := by
  have h1 := T.underW_len hR [C.wPolicy]
  rw [hu] at h1
  omega
 have HBF := Lib.hid (show ∀ q, ((l.take q).flatMap (H.polAt t N)).length ≤ 40000 from fun q => H.flat_take _ 200 200 q l (fun i _ => by unfold H.polAt; rw [List.length_map]; omega) (by omega))
 have HWL := Lib.hid (fun (p : T.Pth) (o : List UInt8) (ho : o.length ≤ 40) => H.word_long hR p ho)
 clear hn hA hR hk hB hv hL hu hm
 go_enter Tryz.func31, Tryz.ntmps31
 go_wp2_with fail
 refine (wordsC A _ c 1 n 1 m t [C.wPolicy] l _ HN.out rfl (HA.out.below (up w _)) (lit_seen eS w [C.wPolicy] _ rfl (by simp)) (by omega) (by omega) (by omega) HR.out HU.out HM.out).mono ?_
 rintro e w1 ⟨C1, d1, rfl, hd1, hp1, hx⟩
 have hb1 := bthen (up w _) hx
 have HP1 := Lib.hid hp1
 clear hp1 hx
 go_wp2
 go_loopg [5, 15] m (fun gk vo vi wr => ∃ q : Nat, Hid (q + gk = m) ∧ q ≤ m ∧ vi = .int .i64 (q : Int) ∧ Hid (Own eEc wr w1.heap.size vo ((l.take q).flatMap (H.polAt t N))) ∧ Hid (Below w1.heap.size w1 wr))
 case atStart => exact ⟨0, Nat.zero_add _, Nat.zero_le _, rfl, Own.nil _ _, Below.refl _ _⟩
 case round =>
  obtain ⟨q, HGK, hq, rfl, HO, HB⟩ := hrel
  have hgk := HGK.out
  by_cases hlt : q < m
  ·have blt : decide ((q : Int) < (m : Int)) = true := decide_eq_true (by omega)
   have blt2 : decide (q < m) = true := decide_eq_true hlt
   have hki : (q : Int) < (m : Int) := by omega
   have hql : q < l.length := by have := HM.out; omega
   obtain ⟨b3, o3, e3, hw3, hL3⟩ := HP1.out.pt.seen (by omega)
   have e3 : C1 = some ⟨b3, o3, none⟩ := e3
   subst e3
   have c0 := (hL3.below HB.out hw3).str hql
   have HXI := Lib.hid (H.flat_next (H.polAt t N) (List.getElem?_eq_getElem hql))
   have HIL := Lib.hid (HLW.out _ (List.getElem_mem hql))
   clear hL3
   generalize l[q] = i at c0 HXI HIL
   obtain ⟨ac, hac⟩ : ∃ v, H.wordH t [C.wPolicy, i, C.wAction] [] = v := ⟨_, rfl⟩
   obtain ⟨fr, hfr⟩ : ∃ v, H.wordH t [C.wPolicy, i, C.wFrom] H.wAny = v := ⟨_, rfl⟩
   obtain ⟨to, hto⟩ : ∃ v, H.wordH t [C.wPolicy, i, C.wTo] H.wAny = v := ⟨_, rfl⟩
   obtain ⟨jr, hjr⟩ : ∃ v, ac ++ 32 :: (fr ++ 32 :: to) = v := ⟨_, rfl⟩
   have HAC := Lib.hid hac
   have HFR := Lib.hid hfr
   have HTO := Lib.hid hto
   have HJR := Lib.hid hjr
   have HAL := Lib.hid (show ac.length ≤ 40 ∧ fr.length ≤ 40 ∧ to.length ≤ 40 from ⟨by rw [← hac]; exact HWL.out _ _ (by simp), by rw [← hfr]; exact HWL.out _ _ (by decide), by rw [← hto]; exact HWL.out _ _ (by decide)⟩)
   obtain ⟨F, hF⟩ : ∃ F : H.Nd → H.En, F = fun h => H.polOne t h.name i := ⟨_, rfl⟩
   have HAT := Lib.hid (show H.polAt t N i = N.map F by rw [hF]; rfl)
   have HFD := Lib.hid (show ∀ h, F h = ⟨h.name, 5, i, jr⟩ from fun h => by rw [hF, ← hjr, ← hac, ← hfr, ← hto]; rfl)
   have HSQ := Lib.hid (HA.out.below (hb1.trans (HB.out.mono hb1.size)))
   have hszr := HB.out.size
   obtain ⟨wo, hwo⟩ : ∃ wo, wo = wr := ⟨_, rfl⟩
   subst hwo
   clear hac hfr hto hjr hF
   go_wp2_with fail
   refine (saidC A _ c 3 n 3 t [C.wPolicy, i, C.wAction] [] ac _ HN.out rfl (HSQ.out.below (up wo _)) (lit_seen eS wo [C.wPolicy, i, C.wAction] _ rfl (by simp)) (by omega) (by omega) (by omega) HR.out HAC.out).mono ?_
   rintro e w2 ⟨rfl, hx⟩
   have hb2 := bthen (up wo _) hx
   clear hx
   go_wp2_with fail
   refine (saidC A _ c 3 n 3 t [C.wPolicy, i, C.wFrom] H.wAny fr _ HN.out rfl (HSQ.out.below (bthen hb2 (up w2 _))) (lit_seen eS w2 [C.wPolicy, i, C.wFrom] _ rfl (by simp)) (by omega) (by omega) (by omega) HR.out HFR.out).mono ?_
   rintro e w3 ⟨rfl, hx⟩
   have hb3 := bthen hb2 (bthen (up w2 _) hx)
   clear hx
   go_wp2_with fail
   refine (saidC A _ c 3 n 3 t [C.wPolicy, i, C.wTo] H.wAny to _ HN.out rfl (HSQ.out.below (bthen hb3 (up w3 _))) (lit_seen eS w3 [C.wPolicy, i, C.wTo] _ rfl (by simp)) (by omega) (by omega) (by omega) HR.out HTO.out).mono ?_
   rintro e w4 ⟨rfl, hx⟩
   have hb4 := bthen hb3 (bthen (up w3 _) hx)
   clear hx
   obtain ⟨gr, hgr⟩ : ∃ gr, w4.heap.size = gr := ⟨_, rfl⟩
   obtain ⟨W5, hW5⟩ : ∃ W5, w4.alloc (.cells #[.string (sB ac), .string (sB fr), .string (sB to)] 9) = W5 := ⟨_, rfl⟩
   have HRU := Lib.hid (show Seen eS W5 (some ⟨gr, 0, none⟩) [ac, fr, to] by rw [← hW5]; exact lit_at14 w4 [ac, fr, to] _ gr hgr rfl (by simp))
   have hb5 : Below wo.heap.size wo W5 := by rw [← hW5]; exact bthen hb4 (up w4 _)
   have HB5 := Lib.hid (show Below w1.heap.size w1 W5 from HB.out.trans (hb5.mono hszr))
   have HO5 := Lib.hid (HO.out.keep hb5)
   have HSD := Lib.hid (show Side12 gr W5 W5 u5 from side_start HO.out (by rw [← hgr]; exact hb4.size))
   have HGR := Lib.hid hgr
   have HW5 := Lib.hid hW5
   clear hgr hW5 hb2 hb3 hb4 hb5
   obtain ⟨p0, hp0⟩ : ∃ p0, (l.take q).flatMap (H.polAt t N) = p0 := ⟨_, rfl⟩
   have HP0 := Lib.hid (show p0.length ≤ 40000 by rw [← hp0]; exact HBF.out q)
   rw [hp0] at HO5 HXI
   clear hp0
   go_wp2
   go_loopg [5, 34] k (fun gk2 vo vi w2 => ∃ j : Nat, Hid (j + gk2 = k) ∧ j ≤ k ∧ vi = .int .i64 (j : Int) ∧ Hid (Own eEc w2 w1.heap.size vo (p0 ++ (N.take j).map F)) ∧ Hid (Below w1.heap.size w1 w2) ∧ Hid (Side12 gr W5 w2 vo))
   case atStart => exact ⟨0, Nat.zero_add _, Nat.zero_le _, rfl, (by show Own eEc _ _ _ _; rw [HW5.out]; simpa using HO5.out), (by show Below _ _ _; rw [HW5.out]; exact HB5.out), (by show Side12 _ _ _ _; rw [HW5.out]; exact HSD.out)⟩
   case round =>
    obtain ⟨j, HG3, hj, rfl, HO3, HB3, HS3⟩ := hrel
    have hgk3 := HG3.out
    by_cases hlj : j < k
    ·have blj : decide ((j : Int) < (k : Int)) = true := decide_eq_true (by omega)
     have blj2 : decide (j < k) = true := decide_eq_true hlj
     have hji : (j : Int) < (k : Int) := by omega
     have hjl : j < N.length := by have := HK.out; omega
     have HBW := Lib.hid (hb1.trans (HB3.out.mono hb1.size))
     obtain ⟨b9, o9, m9, rfl, hpt9, hcs9⟩ := HBN.out.one hjl
     obtain ⟨x0, x1, x2⟩ := hcs9 wr HBW.out
     have HXJ := Lib.hid (H.map_next F (List.getElem?_eq_getElem hjl))
     have HMV9 := Lib.hid (HV.out _ (List.getElem_mem hjl))
     have HPT9 := Lib.hid hpt9
     clear hcs9 hpt9
     generalize N[j] = h at x0 x1 x2 HXJ HPT9 HMV9
     obtain ⟨ha, hi, hvn⟩ := h
     obtain ⟨m9A, m9n, m9c⟩ := m9
     simp only at x0 x1 x2 HMV9 HPT9
     obtain ⟨w7, hw7⟩ : ∃ w7, w7 = wr := ⟨_, rfl⟩
     subst hw7
     obtain ⟨gh, hgh⟩ : ∃ gh, w7.heap.size = gh := ⟨_, rfl⟩
     obtain ⟨W8, hW8⟩ : ∃ W8, w7.alloc (.cells #[.string (sB ha), .string (sB hi), .slice m9A m9n m9c] 96) = W8 := ⟨_, rfl⟩
     have hup : Below w7.heap.size w7 W8 := by rw [← hW8]; exact up w7 _
     have HNH := Lib.hid (show NdB W8 gh ha hi ⟨m9A, m9n, m9c⟩ by rw [← hW8, ← hgh]; exact NdB.born w7 ha hi ⟨m9A, m9n, m9c⟩)
     have HSH := Lib.hid (show Side12 gh W8 W8 u5 from side_start HO3.out (by rw [hgh]; exact Nat.le_refl _))
     have HB8 := Lib.hid (HB3.out.trans (hup.mono HB3.out.size))
     have HS8 := Lib.hid (side_grow HS3.out hup)
     have HO8 := Lib.hid (HO3.out.keep hup)
     have HRW := Lib.hid (side_seen HS8.out HRU.out (fun a h => by injection h with h; rw [← h]; exact Nat.le_refl _))
     have HLN := Lib.hid (show (p0 ++ (N.take j).map F).length ≤ 40200 by rw [List.length_append, List.length_map, List.length_take]; have := HP0.out; omega)
     have HE1 := Lib.hid (HFD.out ⟨ha, hi, hvn⟩)
     have HW8 := Lib.hid hW8
     have HGH := Lib.hid hgh
     have c8 := HNH.out.cells.1
     clear hup hW8 hgh
     go_wp2
     rw [HGH.out, HW8.out]
     refine wp_region_held_drew (S := fun w' => w'.cell? ⟨gh, 0, none⟩ = some (.string (sB ha))) (by kernel_rfl) c8 (fun hHeld => ?_)
     refine takeZ (i := 0) (v := ?vm0) (d := some 38) ?hym0 ?restm0
     case hym0 => intro w hSw; go_simp; try (with_reducible rfl)
     try simp only [pq13]
     refine takeZ (i := 1) (v := ?vm1) (d := some 39) ?hym1 ?restm1
     case hym1 => intro w hSw; go_simp; try (with_reducible rfl)
     try simp only [pq13]
     refine takeZ (i := 2) (v := ?vm2) (d := some 40) ?hym2 ?restm2
     case hym2 => intro w hSw; go_simp; try (with_reducible rfl)
     try simp only [pq13]
     refine takeZ (i := 3) (v := ?vm3) (d := some 41) ?hym3 ?restm3
     case hym3 => intro w hSw; go_simp; try (with_reducible rfl)
     try simp only [pq13]
     refine takeZ (i := 4) (v := ?vm4) (d := some 42) ?hym4 ?restm4
     case hym4 => intro w hSw; go_simp; try (with_reducible rfl)
     try simp only [pq13]
     refine wpAnyH_ready (rs := [5]) (by kernel_rfl) (by simp) ?_
     refine AllReadyH.cons rfl (fun K hK => ?_) AllReadyH.nil
     go_simp
     go_at_call 61
     refine (join3 w4.heap.size 3 ac fr to jr W8.drew (by rw [HGR.out]; exact HRW.out) (by omega) (by have := HAL.out; omega) (by have := HAL.out; omega) (by have := HAL.out; omega) HJR.out).mono ?_
     rintro e y1 ⟨rfl, hx1⟩
     have hby : Below W8.heap.size W8 y1 := (Below.refl _ _).drew.trans hx1
     have HY1 := Lib.hid hby
     have HO9 := Lib.hid (HO8.out.keep hby)
     have HS9 := Lib.hid (side_grow HS8.out hby)
     have HSH9 := Lib.hid (side_grow HSH.out hby)
     have HB9 := Lib.hid (HB8.out.trans (hby.mono HB8.out.size))
     have c9 := (HNH.out.keep hby HNH.out.lt).cells.1
     clear hx1 hby
     refine hK.out _ _ c9 (fun hHeld => ?_)
     clear hK K
     try simp only [pq13]
     refine takeZ (i := 6) (v := ?vm6) (d := some 44) ?hym6 ?restm6
     case hym6 => intro w hSw; go_simp; try (with_reducible rfl)
     try simp only [pq13]
     refine wpAnyH_ready (rs := [7]) (by kernel_rfl) (by simp) ?_
     refine AllReadyH.cons rfl (fun K hK => ?_) AllReadyH.nil
     go_simp
     have hu1 := up y1 (.cells #[.string (sB ha), .int .i64 5, .string (sB i), .string (sB jr)] 35)
     have HO10 := Lib.hid (HO9.out.keep hu1)
     have HS10 := Lib.hid (side_grow HS9.out hu1)
     have HSH10 := Lib.hid (side_grow HSH9.out hu1)
     have HB10 := Lib.hid (HB9.out.trans (hu1.mono HB9.out.size))
     have c10 := ((HNH.out.side HSH10.out (Nat.le_refl _)).cells).1
     have hsz10 := HB10.out.size
     clear hu1
     refine hK.out _ _ c10 (fun hHeld => ?_)
     clear hK K
     try simp only [pq13]
     refine wpAnyH_ready (rs := [8]) (by kernel_rfl) (by simp) ?_
     refine AllReadyH.cons rfl (fun K hK => ?_) AllReadyH.nil
     rw [if_pos (by rfl)]
     refine wp_appMr eEc _ (.tmp 38) (.tmp 45) rfl w1.heap.size u5 (p0 ++ (N.take j).map F) rfl HO10.out _ [⟨ha, 5, i, jr⟩] rfl (vec_ent y1 ⟨ha, 5, i, jr⟩) (by have := HLN.out; rw [List.length_singleton]; omega) hsz10 ?_
     intro v11 w11 ho11 hb11 hg11
     have HO11 := Lib.hid ho11
     have HB11 := Lib.hid (HB10.out.trans hb11)
     have HS11 := Lib.hid (side_app HS10.out hg11)
     have c11 := ((HNH.out.side (side_app HSH10.out hg11) (Nat.le_refl _)).cells).1
     clear ho11 hb11 hg11
     refine hK.out _ _ c11 (fun hHeld => ?_)
     clear hK K
     try simp only [pq13]
     refine takeZ (i := 9) (v := ?vm9) (d := some 5) ?hym9 ?restm9
     case hym9 => intro w hSw; go_simp; try (with_reducible rfl)
     try simp only [Act.put, List.setIfInBounds_toArray, List.set_cons_succ]
     refine wpAnyH_done (by kernel_rfl) ?_ _
     go_wp2
     go_roundg (k - (j + 1))
     case rel => exact ⟨j + 1, (by show _ = _; omega), by omega, by go_num, (by show Own eEc _ _ _ _; rw [HXJ.out, HE1.out, ← List.append_assoc]; exact HO11.out), HB11.out, HS11.out⟩
     case measure => omega
    ·have blj : decide ((j : Int) < (k : Int)) = false := decide_eq_false (by omega)
     have blj2 : decide (j < k) = false := decide_eq_false hlj
     have HE := Lib.hid (show p0 ++ (N.take j).map F = (l.take (q + 1)).flatMap (H.polAt t N) by
      rw [List.take_of_length_le (by have := HK.out; omega), HXI.out, HAT.out])
     go_wp2
     go_roundg (m - (q + 1))
     case rel => exact ⟨q + 1, (by show _ = _; omega), by omega, by go_num, (by show Own eEc _ _ _ _; rw [← HE.out]; exact HO3.out), HB3⟩
     case measure => omega
  ·have blt : decide ((q : Int) < (m : Int)) = false := decide_eq_false (by omega)
   have blt2 : decide (q < m) = false := decide_eq_false hlt
   have HE := Lib.hid (show (l.take q).flatMap (H.polAt t N) = L by rw [List.take_of_length_le (by have := HM.out; omega)]; exact HL.out)
   go_wp2
   go_ret
   exact ⟨_, rfl, by rw [← HE.out]; exact HO.out.lower hb1.size, hb1.trans (HB.out.mono hb1.size)⟩
end Go.Proofs.YtfcikfohmehmkaaGreatDoor
namespace Go.Proofs.YtfcikfohmehmkaaGreatDoor
open C (Wd)
open T (Pth)
set_option linter.unusedVariables false
abbrev Rw := Wd × Wd × Bool × Bool
namespace C
def standsB (w s : Wd) : Bool := if s.head? = some 36 then typeB s w else decide (w = s)
def matchB : Pth → List Wd → Bool
 | [], [] => true
 | a :: p, s :: l => standsB a s && matchB p l
 | _, _ => false
def meetsB (p : Pth) (said : Wd) : Bool := matchB p (N.splitL 32 said)
theorem match_nil {l : List Wd} (h : l ≠ []) : matchB [] l = false := by cases l with | nil => exact absurd rfl h | cons => rfl
theorem match_none (p : Pth) : p ≠ [] → matchB p [] = false := by cases p with | nil => exact fun h => absurd rfl h | cons => exact fun _ => rfl
theorem meets_nil (s : Wd) : meetsB [] s = false := match_nil (N.split_ne 32 s)
def wordsS : List (List Wd × Rw) := [([wHosts], (wHosts, kName, false, false)), ([wHosts, kName, wIp], (wHosts ++ 32 :: (kName ++ 32 :: wIp), kIp, true, true)), ([wHosts, kName, wMac], (wHosts ++ 32 :: (kName ++ 32 :: wMac), kMac, true, false)), ([wHosts, kName, wVnis], (wHosts ++ 32 :: (kName ++ 32 :: wVnis), kVni, false, false)),
 ([wVnis], (wVnis, kVni, false, false)), ([wVnis, kVni, wSubnet], (wVnis ++ 32 :: (kVni ++ 32 :: wSubnet), kPrefix, true, true)),
 ([wBindings], (wBindings, kIp, false, false)), ([wBindings, kIp, wHost], (wBindings ++ 32 :: (kIp ++ 32 :: wHost), kName, true, true)), ([wBindings, kIp, wMac], (wBindings ++ 32 :: (kIp ++ 32 :: wMac), kMac, true, true)), ([wBindings, kIp, wVni], (wBindings ++ 32 :: (kIp ++ 32 :: wVni), kVni, true, true)),
 ([wRoutes], (wRoutes, kPrefix, false, false)), ([wRoutes, kPrefix, wVia], (wRoutes ++ 32 :: (kPrefix ++ 32 :: wVia), kName, true, true)), ([wRoutes, kPrefix, wMetric], (wRoutes ++ 32 :: (kPrefix ++ 32 :: wMetric), kMetric, true, false)),
 ([wPolicy], (wPolicy, kNum, false, false)), ([wPolicy, kNum, wAction], (wPolicy ++ 32 :: (kNum ++ 32 :: wAction), kAction, true, true)), ([wPolicy, kNum, wFrom], (wPolicy ++ 32 :: (kNum ++ 32 :: wFrom), kPrefix, true, false)), ([wPolicy, kNum, wTo], (wPolicy ++ 32 :: (kNum ++ 32 :: wTo), kPrefix, true, false))]
theorem rows_words : rowsL = wordsS.map (·.2) := by decide +kernel
theorem words_said : ∀ x ∈ wordsS, N.splitL 32 x.2.1 = x.1 := by decide +kernel
theorem find_words (p : Pth) : ∀ l : List (List Wd × Rw), (∀ x ∈ l, N.splitL 32 x.2.1 = x.1) → (l.map (·.2)).find? (fun r => meetsB p r.1) = (l.find? fun x => matchB p x.1).map (·.2)
 | [], _ => rfl
 | x :: l, h => by
  rw [List.map_cons, List.find?_cons, List.find?_cons]
  show (match meetsB p x.2.1 with | true => _ | false => _) = _
  unfold meetsB
  rw [h x List.mem_cons_self]
  cases matchB p x.1
  ·exact find_words p l fun y hy => h y (List.mem_cons_of_mem _ hy)
  ·rfl
def firstR (p : Pth) : Option Rw := rowsL.find? fun r => meetsB p r.1
theorem first_words (p : Pth) : firstR p = (wordsS.find? fun x => matchB p x.1).map (·.2) := by
 unfold firstR; rw [rows_words]; exact find_words p wordsS words_said
theorem st_hosts (a : Wd) : standsB a wHosts = decide (a = wHosts) := rfl
theorem st_vnis (a : Wd) : standsB a wVnis = decide (a = wVnis) := rfl
theorem st_bindings (a : Wd) : standsB a wBindings = decide (a = wBindings) := rfl
theorem st_routes (a : Wd) : standsB a wRoutes = decide (a = wRoutes) := rfl
theorem st_policy (a : Wd) : standsB a wPolicy = decide (a = wPolicy) := rfl
theorem st_ip (a : Wd) : standsB a wIp = decide (a = wIp) := rfl
theorem st_mac (a : Wd) : standsB a wMac = decide (a = wMac) := rfl
theorem st_subnet (a : Wd) : standsB a wSubnet = decide (a = wSubnet) := rfl
theorem st_host (a : Wd) : standsB a wHost = decide (a = wHost) := rfl
theorem st_vni (a : Wd) : standsB a wVni = decide (a = wVni) := rfl
theorem st_via (a : Wd) : standsB a wVia = decide (a = wVia) := rfl
theorem st_metric (a : Wd) : standsB a wMetric = decide (a = wMetric) := rfl
theorem st_action (a : Wd) : standsB a wAction = decide (a = wAction) := rfl
theorem st_from (a : Wd) : standsB a wFrom = decide (a = wFrom) := rfl
theorem st_to (a : Wd) : standsB a wTo = decide (a = wTo) := rfl
theorem sk_name (a : Wd) : standsB a kName = typeB kName a := rfl
theorem sk_ip (a : Wd) : standsB a kIp = typeB kIp a := rfl
theorem sk_prefix (a : Wd) : standsB a kPrefix = typeB kPrefix a := rfl
theorem sk_vni (a : Wd) : standsB a kVni = typeB kVni a := rfl
theorem sk_num (a : Wd) : standsB a kNum = typeB kNum a := rfl
theorem type_none (w : Wd) : typeB [] w = false := rfl
theorem mB1 (a s : Wd) : matchB [a] [s] = standsB a s := by show (standsB a s && true) = _; rw [Bool.and_true]
theorem mB13 (a s1 s2 s3 : Wd) : matchB [a] [s1, s2, s3] = false := by show (standsB a s1 && false) = _; rw [Bool.and_false]
theorem mB21 (a b s : Wd) : matchB [a, b] [s] = false := by show (standsB a s && false) = _; rw [Bool.and_false]
theorem mB23 (a b s1 s2 s3 : Wd) : matchB [a, b] [s1, s2, s3] = false := by show (standsB a s1 && (standsB b s2 && false)) = _; rw [Bool.and_false, Bool.and_false]
theorem mB31 (a b c s : Wd) : matchB [a, b, c] [s] = false := by show (standsB a s && false) = _; rw [Bool.and_false]
theorem mB33 (a b c s1 s2 s3 : Wd) : matchB [a, b, c] [s1, s2, s3] = (standsB a s1 && (standsB b s2 && standsB c s3)) := by show (standsB a s1 && (standsB b s2 && (standsB c s3 && true))) = _; rw [Bool.and_true]
theorem mB4 (a b c d : Wd) (r : Pth) (l : List Wd) (h : l.length ≤ 3) : matchB (a :: b :: c :: d :: r) l = false := by
 match l, h with
 | [], _ => rfl
 | [x], _ => show (standsB a x && false) = _; rw [Bool.and_false]
 | [x, y], _ => show (standsB a x && (standsB b y && false)) = _; rw [Bool.and_false, Bool.and_false]
 | [x, y, z], _ => show (standsB a x && (standsB b y && (standsB c z && false))) = _; rw [Bool.and_false, Bool.and_false, Bool.and_false]
theorem first_one (a : Wd) : firstR [a] = if secondW a = [] then none else some (a, secondW a, false, false) := by
 rw [first_words]
 by_cases h1 : a = wHosts
 ·subst h1; decide +kernel
 by_cases h2 : a = wVnis
 ·subst h2; decide +kernel
 by_cases h3 : a = wBindings
 ·subst h3; decide +kernel
 by_cases h4 : a = wRoutes
 ·subst h4; decide +kernel
 by_cases h5 : a = wPolicy
 ·subst h5; decide +kernel
 simp only [wordsS, List.find?_cons, List.find?_nil, mB1, mB13, st_hosts, st_vnis, st_bindings, st_routes, st_policy, decide_eq_false h1, decide_eq_false h2, decide_eq_false h3, decide_eq_false h4, decide_eq_false h5]
 unfold secondW
 rw [if_neg h1, if_neg h2, if_neg h3, if_neg h4, if_neg h5]; rfl
theorem first_two (a b : Wd) : firstR [a, b] = none := by
 rw [first_words]
 simp only [wordsS, List.find?_cons, List.find?_nil, mB21, mB23]; rfl
theorem first_many (a b c d : Wd) (r : Pth) : firstR (a :: b :: c :: d :: r) = none := by
 rw [first_words, List.find?_eq_none.2]
 ·rfl
 ·intro x hx
  rw [mB4 a b c d r x.1 ((show ∀ x ∈ wordsS, x.1.length ≤ 3 by decide +kernel) x hx)]; decide
theorem first_nil : firstR [] = none := by decide +kernel
theorem key_ne {x y z : Wd} (h : y ≠ z) : key x y ≠ key x z := fun e => h (by unfold key at e; have := List.append_cancel_left e; injection this)
theorem head_ne {x y u v : Wd} (h : x.take 4 ≠ y.take 4 ∧ 4 ≤ x.length ∧ 4 ≤ y.length) : key x u ≠ key y v := fun e => h.1 (by
 have := congrArg (List.take 4) e
 unfold key at this
 rwa [List.take_append_of_le_length h.2.1, List.take_append_of_le_length h.2.2] at this)
theorem third_none {z : Wd} (h : ∀ k ∈ [key wHosts wIp, key wHosts wMac, key wHosts wVnis, key wVnis wSubnet, key wBindings wHost, key wRoutes wVia, key wBindings wMac, key wBindings wVni, key wRoutes wMetric, key wPolicy wAction, key wPolicy wFrom, key wPolicy wTo], z ≠ k) : thirdK z = ([], false, false) := by
 simp only [List.forall_mem_cons] at h
 obtain ⟨h1, h2, h3, h4, h5, h6, h7, h8, h9, h10, h11, h12, _⟩ := h
 unfold thirdK
 rw [if_neg h1, if_neg h2, if_neg h3, if_neg h4, if_neg (by rintro (h | h); exact h5 h; exact h6 h), if_neg h7, if_neg h8, if_neg h9, if_neg h10, if_neg (by rintro (h | h); exact h11 h; exact h12 h)]
def said3 (a c : Wd) : Wd := a ++ 32 :: (secondW a ++ 32 :: c)
def row3 (a b c : Wd) : Option Rw := if typeB (secondW a) b = true then (if (thirdK (key a c)).1 = [] then none else some (said3 a c, thirdK (key a c))) else none
theorem first_three (a b c : Wd) : firstR [a, b, c] = row3 a b c := by
 rw [first_words]
 unfold row3
 by_cases h1 : a = wHosts
 ·subst h1
  rw [show secondW wHosts = kName from rfl]
  simp only [wordsS, List.find?_cons, List.find?_nil, mB31, mB33, st_hosts, st_vnis, st_bindings, st_routes, st_policy, sk_name, show decide (wHosts = wVnis) = false from rfl, show decide (wHosts = wBindings) = false from rfl, show decide (wHosts = wRoutes) = false from rfl, show decide (wHosts = wPolicy) = false from rfl, Bool.false_and, st_ip, st_mac, st_vnis]
  cases typeB kName b with
  | false => rfl
  | true =>
   by_cases g1 : c = wIp
   ·subst g1; decide +kernel
   by_cases g2 : c = wMac
   ·subst g2; decide +kernel
   by_cases g3 : c = wVnis
   ·subst g3; decide +kernel
   rw [third_none (by
    simp only [List.forall_mem_cons]
    refine ⟨key_ne g1, key_ne g2, key_ne g3, head_ne (by decide), head_ne (by decide), head_ne (by decide), head_ne (by decide), head_ne (by decide), head_ne (by decide), head_ne (by decide), head_ne (by decide), head_ne (by decide), fun _ h => by cases h⟩)]
   rw [decide_eq_false g1, decide_eq_false g2, decide_eq_false g3]; rfl
 by_cases h2 : a = wVnis
 ·subst h2
  rw [show secondW wVnis = kVni from rfl]
  simp only [wordsS, List.find?_cons, List.find?_nil, mB31, mB33, st_hosts, st_vnis, st_bindings, st_routes, st_policy, sk_vni, show decide (wVnis = wBindings) = false from rfl, show decide (wVnis = wRoutes) = false from rfl, show decide (wVnis = wPolicy) = false from rfl, show decide (wVnis = wHosts) = false from rfl, Bool.false_and, st_subnet]
  cases typeB kVni b with
  | false => rfl
  | true =>
   by_cases g1 : c = wSubnet
   ·subst g1; decide +kernel
   rw [third_none (by
    simp only [List.forall_mem_cons]
    refine ⟨head_ne (by decide), head_ne (by decide), head_ne (by decide), key_ne g1, head_ne (by decide), head_ne (by decide), head_ne (by decide), head_ne (by decide), head_ne (by decide), head_ne (by decide), head_ne (by decide), head_ne (by decide), fun _ h => by cases h⟩)]
   rw [decide_eq_false g1]; rfl
 by_cases h3 : a = wBindings
 ·subst h3
  rw [show secondW wBindings = kIp from rfl]
  simp only [wordsS, List.find?_cons, List.find?_nil, mB31, mB33, st_hosts, st_vnis, st_bindings, st_routes, st_policy, sk_ip, show decide (wBindings = wVnis) = false from rfl, show decide (wBindings = wRoutes) = false from rfl, show decide (wBindings = wPolicy) = false from rfl, show decide (wBindings = wHosts) = false from rfl, Bool.false_and, st_host, st_mac, st_vni]
  cases typeB kIp b with
  | false => rfl
  | true =>
   by_cases g1 : c = wHost
   ·subst g1; decide +kernel
   by_cases g2 : c = wMac
   ·subst g2; decide +kernel
   by_cases g3 : c = wVni
   ·subst g3; decide +kernel
   rw [third_none (by
    simp only [List.forall_mem_cons]
    refine ⟨head_ne (by decide), head_ne (by decide), head_ne (by decide), head_ne (by decide), key_ne g1, head_ne (by decide), key_ne g2, key_ne g3, head_ne (by decide), head_ne (by decide), head_ne (by decide), head_ne (by decide), fun _ h => by cases h⟩)]
   rw [decide_eq_false g1, decide_eq_false g2, decide_eq_false g3]; rfl
 by_cases h4 : a = wRoutes
 ·subst h4
  rw [show secondW wRoutes = kPrefix from rfl]
  simp only [wordsS, List.find?_cons, List.find?_nil, mB31, mB33, st_hosts, st_vnis, st_bindings, st_routes, st_policy, sk_prefix, show decide (wRoutes = wVnis) = false from rfl, show decide (wRoutes = wBindings) = false from rfl, show decide (wRoutes = wPolicy) = false from rfl, show decide (wRoutes = wHosts) = false from rfl, Bool.false_and, st_via, st_metric]
  cases typeB kPrefix b with
  | false => rfl
  | true =>
   by_cases g1 : c = wVia
   ·subst g1; decide +kernel
   by_cases g2 : c = wMetric
   ·subst g2; decide +kernel
   rw [third_none (by
    simp only [List.forall_mem_cons]
    refine ⟨head_ne (by decide), head_ne (by decide), head_ne (by decide), head_ne (by decide), head_ne (by decide), key_ne g1, head_ne (by decide), head_ne (by decide), key_ne g2, head_ne (by decide), head_ne (by decide), head_ne (by decide), fun _ h => by cases h⟩)]
   rw [decide_eq_false g1, decide_eq_false g2]; rfl
 by_cases h5 : a = wPolicy
 ·subst h5
  rw [show secondW wPolicy = kNum from rfl]
  simp only [wordsS, List.find?_cons, List.find?_nil, mB31, mB33, st_hosts, st_vnis, st_bindings, st_routes, st_policy, sk_num, show decide (wPolicy = wVnis) = false from rfl, show decide (wPolicy = wBindings) = false from rfl, show decide (wPolicy = wRoutes) = false from rfl, show decide (wPolicy = wHosts) = false from rfl, Bool.false_and, st_action, st_from, st_to]
  cases typeB kNum b with
  | false => rfl
  | true =>
   by_cases g1 : c = wAction
   ·subst g1; decide +kernel
   by_cases g2 : c = wFrom
   ·subst g2; decide +kernel
   by_cases g3 : c = wTo
   ·subst g3; decide +kernel
   rw [third_none (by
    simp only [List.forall_mem_cons]
    refine ⟨head_ne (by decide), head_ne (by decide), head_ne (by decide), head_ne (by decide), head_ne (by decide), head_ne (by decide), head_ne (by decide), head_ne (by decide), head_ne (by decide), key_ne g1, key_ne g2, key_ne g3, fun _ h => by cases h⟩)]
   rw [decide_eq_false g1, decide_eq_false g2, decide_eq_false g3]; rfl
 have e0 : secondW a = [] := by unfold secondW; rw [if_neg h1, if_neg h2, if_neg h3, if_neg h4, if_neg h5]
 rw [e0, type_none, if_neg (by decide)]
 simp only [wordsS, List.find?_cons, List.find?_nil, mB31, mB33, st_hosts, st_vnis, st_bindings, st_routes, st_policy, decide_eq_false h1, decide_eq_false h2, decide_eq_false h3, decide_eq_false h4, decide_eq_false h5, Bool.false_and]
 rfl
end C
end Go.Proofs.YtfcikfohmehmkaaGreatDoor
namespace Go.Proofs.YtfcikfohmehmkaaGreatDoor
open Go.RowKit
set_option linter.unusedVariables false
def I64 (n : Int) : Prop := -9223372036854775808 ≤ n ∧ n ≤ 9223372036854775807
def okA (z : Int) : Int × Bool := if 0 ≤ z then (z, true) else (0, false)
def numA (l : List UInt8) (least most : Int) : Int × Bool := if 0 ≤ N.numL l ∧ least ≤ N.numL l ∧ N.numL l ≤ most then (N.numL l, true) else (0, false)
def prefA (l : List UInt8) : Int × Int × Bool := if 0 ≤ (N.prefL l).1 then ((N.prefL l).1, (N.prefL l).2, true) else (0, 0, false)
end Go.Proofs.YtfcikfohmehmkaaGreatDoor
namespace Go.Proofs.YtfcikfohmehmkaaGreatDoor
namespace N
open T (decL)
-- CUT AT A BYTE
theorem index_cases (l : List UInt8) (c : UInt8) : (Lib.indexByte l c = -1 ∧ c ∉ l) ∨ (∃ i : Nat, Lib.indexByte l c = i ∧ i < l.length ∧ l = l.take i ++ c :: l.drop (i + 1) ∧ c ∉ l.take i) := by
 by_cases h : Lib.indexByte l c = -1
 ·left
  refine ⟨h, fun hm => ?_⟩
  obtain ⟨k, hk, e⟩ := List.getElem_of_mem hm
  exact Lib.indexByte_none h k (by rw [List.getElem?_eq_getElem hk, e])
 ·right
  have hge := Lib.indexByte_ge l c
  obtain ⟨i, hi⟩ := Int.eq_ofNat_of_zero_le (show 0 ≤ Lib.indexByte l c by omega)
  obtain ⟨h1, h2⟩ := Lib.indexByte_some hi
  obtain ⟨hlt, e⟩ := List.getElem?_eq_some_iff.1 h1
  refine ⟨i, hi, hlt, ?_, ?_⟩
  ·conv => lhs; rw [← List.take_append_drop i l]
   rw [List.drop_eq_getElem_cons hlt, e]
  ·intro hm
   obtain ⟨k, hk, e2⟩ := List.getElem_of_mem hm
   rw [List.length_take] at hk
   refine h2 k (by omega) ?_
   rw [List.getElem_take] at e2
   rw [List.getElem?_eq_getElem (by omega), e2]
theorem split_hit {l : List UInt8} {c : UInt8} {i : Nat} (e : l = l.take i ++ c :: l.drop (i + 1)) (h : c ∉ l.take i) : splitL c l = l.take i :: splitL c (l.drop (i + 1)) := by
 conv => lhs; rw [e]
 exact split_at h _
-- BITS
theorem bits_and_i64 (a b : Nat) (ha : a < 9223372036854775808) (hb : b < 9223372036854775808) : bits .and .i64 (a : Int) (b : Int) = ((a &&& b : Nat) : Int) := by
 have hx : a &&& b < 2 ^ 63 := Nat.and_lt_two_pow _ (by omega)
 have h1 : (BitVec.ofInt 64 (a : Int)).toNat = a := by
  rw [BitVec.ofInt_natCast, BitVec.toNat_ofNat]; exact Nat.mod_eq_of_lt (by omega)
 have h2 : (BitVec.ofInt 64 (b : Int)).toNat = b := by
  rw [BitVec.ofInt_natCast, BitVec.toNat_ofNat]; exact Nat.mod_eq_of_lt (by omega)
 show IntKind.i64.wrap ((BitVec.ofInt 64 (a : Int) &&& BitVec.ofInt 64 (b : Int)).toNat : Int) = _
 rw [BitVec.toNat_and, h1, h2, IntKind.wrap_i64]
 omega
theorem bits_or_i64 (a b : Nat) (ha : a < 9223372036854775808) (hb : b < 9223372036854775808) : bits .or .i64 (a : Int) (b : Int) = ((a ||| b : Nat) : Int) := by
 have hx : a ||| b < 2 ^ 63 := Nat.or_lt_two_pow (by omega) (by omega)
 have h1 : (BitVec.ofInt 64 (a : Int)).toNat = a := by
  rw [BitVec.ofInt_natCast, BitVec.toNat_ofNat]; exact Nat.mod_eq_of_lt (by omega)
 have h2 : (BitVec.ofInt 64 (b : Int)).toNat = b := by
  rw [BitVec.ofInt_natCast, BitVec.toNat_ofNat]; exact Nat.mod_eq_of_lt (by omega)
 show IntKind.i64.wrap ((BitVec.ofInt 64 (a : Int) ||| BitVec.ofInt 64 (b : Int)).toNat : Int) = _
 rw [BitVec.toNat_or, h1, h2, IntKind.wrap_i64]
 omega
theorem and_low (a k p : Nat) (hp : 2 ^ k = p) (ha : a < 9223372036854775808) (hk : p ≤ 9223372036854775808) : bits .and .i64 (a : Int) (((p - 1 : Nat) : Int)) = ((a % p : Nat) : Int) := by
 have h0 : 0 < p := by rw [← hp]; exact pow_pos2 k
 rw [bits_and_i64 a (p - 1) ha (by omega), ← hp, Nat.and_two_pow_sub_one_eq_mod]
theorem or_low (a b k p : Nat) (hp : 2 ^ k = p) (hb : b < p) (ha : p * a + b < 9223372036854775808) : bits .or .i64 ((p * a : Nat) : Int) (b : Int) = ((p * a + b : Nat) : Int) := by
 rw [bits_or_i64 (p * a) b (by omega) (by omega), ← hp, Nat.two_pow_add_eq_or_of_lt (by rw [hp]; exact hb)]
-- A HARDWARE ADDRESS, BYTE BY BYTE
def macStep (i n : Nat) (c : UInt8) : Option Nat := if i % 3 = 2 then (if c = 58 then some n else none) else if hexV c < 0 then none else some (16 * n + (hexV c).toNat)
def macRun (i n : Nat) : List UInt8 → Option Nat
 | [] => some n
 | c :: r => match macStep i n c with
  | none => none
  | some m => macRun (i + 1) m r
theorem mac_colon {i n : Nat} {c : UInt8} (h : i % 3 = 2) : macStep i n c = if c = 58 then some n else none := by unfold macStep; rw [if_pos h]
theorem mac_digit {i n : Nat} {c : UInt8} (h : i % 3 ≠ 2) : macStep i n c = if hexV c < 0 then none else some (16 * n + (hexV c).toNat) := by unfold macStep; rw [if_neg h]
theorem run_colon {i n m : Nat} {c : UInt8} {r : List UInt8} (h : i % 3 = 2) (e : macRun i n (c :: r) = some m) : c = 58 ∧ macRun (i + 1) n r = some m := by
 unfold macRun at e
 rw [mac_colon h] at e
 by_cases hc : c = 58
 ·rw [if_pos hc] at e; exact ⟨hc, e⟩
 ·rw [if_neg hc] at e; cases e
theorem run_digit {i n m : Nat} {c : UInt8} {r : List UInt8} (h : i % 3 ≠ 2) (e : macRun i n (c :: r) = some m) : ∃ d, d < 16 ∧ hexC d = c ∧ macRun (i + 1) (16 * n + d) r = some m := by
 unfold macRun at e
 rw [mac_digit h] at e
 rcases hex_cases c with hc | ⟨d, hc, hd, hx⟩
 ·rw [if_pos (by omega)] at e; cases e
 ·rw [if_neg (by omega), hc, Int.toNat_natCast] at e
  exact ⟨d, hd, hx, e⟩
theorem run_colon_to {i n : Nat} {r : List UInt8} (h : i % 3 = 2) : macRun i n (58 :: r) = macRun (i + 1) n r := by
 show (match macStep i n 58 with | none => none | some m => macRun (i + 1) m r) = _
 rw [mac_colon h, if_pos rfl]
theorem run_digit_to {i n d : Nat} {r : List UInt8} (h : i % 3 ≠ 2) (hd : d < 16) : macRun i n (hexC d :: r) = macRun (i + 1) (16 * n + d) r := by
 show (match macStep i n (hexC d) with | none => none | some m => macRun (i + 1) m r) = _
 rw [mac_digit h, hexV_C d hd, if_neg (by omega), Int.toNat_natCast]
theorem run_pair {i n k : Nat} {r : List UInt8} (h : i % 3 = 0) (hk : k < 256) : macRun i n (pairT k ++ r) = macRun (i + 2) (256 * n + k) r := by
 show macRun i n (hexC (k / 16) :: hexC (k % 16) :: r) = _
 rw [run_digit_to (by omega) (by omega), run_digit_to (by omega) (by omega), show 16 * (16 * n + k / 16) + k % 16 = 256 * n + k by omega]
theorem run_text (n : Nat) (h : n < 281474976710656) : macRun 0 0 (macT n) = some n := by
 unfold macT
 rw [run_pair rfl (by omega), run_colon_to rfl, run_pair rfl (by omega), run_colon_to rfl, run_pair rfl (by omega), run_colon_to rfl, run_pair rfl (by omega), run_colon_to rfl, run_pair rfl (by omega), run_colon_to rfl]
 rw [← List.append_nil (pairT (n % 256)), run_pair rfl (by omega)]
 show some _ = some n
 congr 1
 omega
theorem run_un {i n m : Nat} {r : List UInt8} (h : i % 3 = 0) (hl : 2 ≤ r.length) (e : macRun i n r = some m) : ∃ k s, k < 256 ∧ r = pairT k ++ s ∧ macRun (i + 2) (256 * n + k) s = some m := by
 match r, hl with
 | a :: b :: s, _ =>
  obtain ⟨d, hd, hx, e1⟩ := run_digit (by omega) e
  obtain ⟨d2, hd2, hx2, e2⟩ := run_digit (by omega) e1
  refine ⟨16 * d + d2, s, by omega, ?_, by rw [← e2]; congr 1; omega⟩
  show _ = hexC ((16 * d + d2) / 16) :: hexC ((16 * d + d2) % 16) :: s
  rw [show (16 * d + d2) / 16 = d by omega, show (16 * d + d2) % 16 = d2 by omega, hx, hx2]
theorem run_un2 {i n m : Nat} {r : List UInt8} (h : i % 3 = 0) (hl : 3 ≤ r.length) (e : macRun i n r = some m) : ∃ k s, k < 256 ∧ r = pairT k ++ 58 :: s ∧ macRun (i + 3) (256 * n + k) s = some m := by
 obtain ⟨k, s, hk, rfl, e1⟩ := run_un h (by omega) e
 match s, hl with
 | [], hl => exact absurd hl (by rw [List.append_nil]; show ¬ 3 ≤ 2; omega)
 | c :: t, _ =>
  obtain ⟨rfl, e2⟩ := run_colon (by omega) e1
  exact ⟨k, t, hk, rfl, e2⟩
theorem pair_len (k : Nat) : (pairT k).length = 2 := rfl
theorem run_mac {l : List UInt8} {m : Nat} (hl : l.length = 17) (e : macRun 0 0 l = some m) : macL l = m := by
 obtain ⟨a, r1, ha, rfl, e1⟩ := run_un2 rfl (by omega) e
 rw [List.length_append, List.length_cons, pair_len] at hl
 obtain ⟨b, r2, hb, rfl, e2⟩ := run_un2 rfl (by omega) e1
 rw [List.length_append, List.length_cons, pair_len] at hl
 obtain ⟨c, r3, hc, rfl, e3⟩ := run_un2 rfl (by omega) e2
 rw [List.length_append, List.length_cons, pair_len] at hl
 obtain ⟨d, r4, hd, rfl, e4⟩ := run_un2 rfl (by omega) e3
 rw [List.length_append, List.length_cons, pair_len] at hl
 obtain ⟨f, r5, hf, rfl, e5⟩ := run_un2 rfl (by omega) e4
 rw [List.length_append, List.length_cons, pair_len] at hl
 obtain ⟨g, r6, hg, rfl, e6⟩ := run_un rfl (by omega) e5
 rw [List.length_append, pair_len] at hl
 obtain rfl : r6 = [] := List.eq_nil_of_length_eq_zero (by omega)
 have ez : 256 * (256 * (256 * (256 * (256 * (256 * 0 + a) + b) + c) + d) + f) + g = m := Option.some.inj e6
 rw [List.append_nil]
 unfold macL
 rw [split_at (pair_no _ ha), split_at (pair_no _ hb), split_at (pair_no _ hc), split_at (pair_no _ hd), split_at (pair_no _ hf), split_one (pair_no _ hg)]
 simp only []
 rw [pair_text _ ha, pair_text _ hb, pair_text _ hc, pair_text _ hd, pair_text _ hf, pair_text _ hg, if_neg (by omega)]
 omega
theorem mac_len17 (n : Nat) : (macT n).length = 17 := rfl
theorem mac_short {l : List UInt8} (hl : l.length ≠ 17) : macL l = -1 := by
 rcases mac_cases l with h | ⟨n, _, _, e⟩
 ·exact h
 ·exact absurd (by rw [← e]; exact mac_len17 n) hl
theorem mac_none {l : List UInt8} (h : macRun 0 0 l = none) : macL l = -1 := by
 rcases mac_cases l with h2 | ⟨n, _, hn, e⟩
 ·exact h2
 ·rw [← e, run_text n hn] at h; cases h
theorem run_app (a b : List UInt8) : ∀ i n, macRun i n (a ++ b) = match macRun i n a with | none => none | some m => macRun (i + a.length) m b := by
 induction a with
 | nil => intro i n; rfl
 | cons c r ih =>
  intro i n
  show (match macStep i n c with | none => none | some m => macRun (i + 1) m (r ++ b)) = match (match macStep i n c with | none => none | some m => macRun (i + 1) m r) with | none => none | some m => macRun (i + (r.length + 1)) m b
  cases macStep i n c with
  | none => rfl
  | some m =>
   show macRun (i + 1) m (r ++ b) = match macRun (i + 1) m r with | none => none | some m => macRun (i + (r.length + 1)) m b
   rw [ih, show i + 1 + r.length = i + (r.length + 1) by omega]
theorem run_none_at {l : List UInt8} {i m : Nat} (hi : i < l.length) (h : macRun 0 0 (l.take i) = some m) (hs : macStep i m l[i] = none) : macL l = -1 := by
 refine mac_none ?_
 rw [← List.take_append_drop i l, run_app, h]
 show macRun (0 + (l.take i).length) m (l.drop i) = none
 rw [List.length_take, Nat.min_eq_left (by omega), Nat.zero_add, List.drop_eq_getElem_cons hi]
 unfold macRun
 rw [hs]
theorem run_snoc {l : List UInt8} {i m k : Nat} (hi : i < l.length) (h : macRun 0 0 (l.take i) = some m) (hs : macStep i m l[i] = some k) : macRun 0 0 (l.take (i + 1)) = some k := by
 rw [List.take_succ_eq_append_getElem hi, run_app, h]
 show macRun (0 + (l.take i).length) m [l[i]] = some k
 rw [List.length_take, Nat.min_eq_left (by omega), Nat.zero_add]
 unfold macRun
 rw [hs]
 rfl
-- THE DIGITS OF BASE 16, AS A TEXT
def hexDigs : List UInt8 := [48, 49, 50, 51, 52, 53, 54, 55, 56, 57, 97, 98, 99, 100, 101, 102]
theorem hexDigs_at : ∀ d, d < 16 → hexDigs[d]? = some (hexC d) := by decide +kernel
theorem hex_index (c : UInt8) : Lib.indexByte hexDigs c = hexV c := by
 rcases hex_cases c with h | ⟨d, h, hd, e⟩
 ·rw [h]
  rcases index_cases hexDigs c with ⟨h2, _⟩ | ⟨i, h2, h3, _, _⟩
  ·exact h2
  ·obtain ⟨h4, _⟩ := Lib.indexByte_some h2
   rw [hexDigs_at i h3] at h4
   have e2 : hexC i = c := Option.some.inj h4
   rw [← e2, hexV_C i h3] at h
   omega
 ·rw [h, ← e]
  have key : ∀ d, d < 16 → Lib.indexByte hexDigs (hexC d) = d := by decide +kernel
  exact key d hd
end N
end Go.Proofs.YtfcikfohmehmkaaGreatDoor
namespace Go.Proofs.YtfcikfohmehmkaaGreatDoor
open Go.RowKit
set_option linter.unusedVariables false
set_option maxRecDepth 100000 in
theorem belowIP (n : Int) (r : Bool) (w : World) (h : (decide (0 ≤ n) && decide (n < 4294967296)) = r) : Calls Tryz.prog 174 #[.int .i64 n, .int .i64 32] w (fun e w' => e = .returned (.bool r) ∧ w = w') := by
 by_cases h0 : 0 ≤ n
 ·have c0 : decide (0 ≤ n) = true := decide_eq_true h0
  rw [c0, Bool.true_and] at h
  go_enter Tryz.func174, Tryz.ntmps174
  go_wp2
  go_ret
  exact ⟨by rw [← h]; rfl, rfl⟩
 ·have c0 : decide (0 ≤ n) = false := decide_eq_false h0
  rw [c0, Bool.false_and] at h
  subst h
  go_enter Tryz.func174, Tryz.ntmps174
  go_wp2
  go_ret
  exact ⟨rfl, rfl⟩
theorem and_lowC (a k p : Nat) (hp : 2 ^ k = p) (ha : (a : Int) < 4294967296) (hk : p ≤ 4294967296) : Go.bits .and .i64 (a : Int) (((p - 1 : Nat) : Int)) = ((a % p : Nat) : Int) := by
 have h1 : a < 9223372036854775808 := by omega
 have h2 : p ≤ 9223372036854775808 := by omega
 exact N.and_low a k p hp h1 h2
theorem sub1C {p q : Nat} (h : 0 < p) (hq : p - 1 = q) : (p : Int) - 1 = (q : Int) := by omega
theorem subC {p q : Nat} (h : p ≤ 4294967296) (hq : p - 1 = q) : q ≤ 4294967296 := by omega
theorem wrapC {p : Nat} (h : p ≤ 4294967296) : wrap64 (p : Int) = (p : Int) := Go.IntWalk.wrap64_in _ (by omega)
set_option maxRecDepth 100000 in
set_option maxHeartbeats 2000000 in
theorem isPref_any10 (n bits : Int) (r : Bool) (w : World) (hr : N.rightB n bits = r) : Calls Tryz.prog 152 #[.int .i64 n, .int .i64 bits] w (fun e w' => e = .returned (.bool r) ∧ w = w') := by
 by_cases h0 : 0 ≤ n ∧ n < 4294967296
 ·have HB := Lib.hid (show (decide (0 ≤ n) && decide (n < 4294967296)) = true by rw [decide_eq_true h0.1, decide_eq_true h0.2]; rfl)
  by_cases h1 : 0 ≤ bits
  ·have c1 : decide (0 ≤ bits) = true := decide_eq_true h1
   by_cases h2 : bits ≤ 32
   ·have c2 : decide (bits ≤ 32) = true := decide_eq_true h2
    obtain ⟨k, hk⟩ : ∃ k : Nat, (32 - bits).toNat = k := ⟨_, rfl⟩
    have hk2 : 32 - bits = (k : Int) := by omega
    have hk3 : k ≤ 32 := by omega
    obtain ⟨nn, rfl⟩ := Int.eq_ofNat_of_zero_le h0.1
    obtain ⟨p, hp⟩ : ∃ p, 2 ^ k = p := ⟨_, rfl⟩
    have hpp : 0 < p := by rw [← hp]; exact N.pow_pos2 k
    have hpb : p ≤ 4294967296 := by rw [← hp]; exact Nat.le_trans (Nat.pow_le_pow_right (by omega) (show k ≤ 32 by omega)) (by decide)
    obtain ⟨q, hq⟩ : ∃ q, p - 1 = q := ⟨_, rfl⟩
    obtain ⟨d, hd⟩ : ∃ d, nn % p = d := ⟨_, rfl⟩
    have e1 : wrap64 (2 ^ (32 - bits).toNat) = (p : Int) := by
     rw [hk, show ((2 : Int) ^ k) = (p : Int) by rw [← hp, Int.natCast_pow]; rfl]; exact wrapC hpb
    have e0 : (p : Int) - 1 = (q : Int) := sub1C hpp hq
    have e2 : wrap64 ((p : Int) - 1) = (q : Int) := by rw [e0]; exact wrapC (subC hpb hq)
    have e3 : Go.bits .and .i64 (nn : Int) (q : Int) = (d : Int) := by rw [← hq, ← hd]; exact and_lowC nn k p hp h0.2 hpb
    have HR := Lib.hid (show (Go.bits .and .i64 (nn : Int) (wrap64 (wrap64 (2 ^ (32 - bits).toNat) - 1)) == 0) = r by
     rw [e1, e2, e3, ← hr]; unfold N.rightB
     rw [decide_eq_true (show (0 : Int) ≤ (nn : Int) by omega), decide_eq_true (show (nn : Int) < 4294967296 from h0.2), c1, c2, hk, hp]
     show _ = decide ((nn : Int) % (p : Int) = 0)
     rw [← Int.natCast_emod, hd, Bool.eq_iff_iff, decide_eq_true_eq, beq_iff_eq])
    clear hr hp hq hd h0 hk hk2 e0 e1 e2 e3 hpp hpb hk3
    go_enter Tryz.func152, Tryz.ntmps152
    go_wp2_with fail
    refine (belowIP _ true _ HB.out).mono ?_
    rintro e w1 ⟨rfl, rfl⟩
    go_wp2
    go_ret
    exact ⟨by rw [← HR.out]; rfl, rfl⟩
   ·have c2 : decide (bits ≤ 32) = false := decide_eq_false h2
    have HR := Lib.hid (show false = r by rw [← hr]; unfold N.rightB; rw [c2, Bool.and_false, Bool.false_and])
    clear hr h0
    go_enter Tryz.func152, Tryz.ntmps152
    go_wp2_with fail
    refine (belowIP _ true _ HB.out).mono ?_
    rintro e w1 ⟨rfl, rfl⟩
    go_wp2
    go_ret
    exact ⟨by rw [← HR.out]; rfl, rfl⟩
  ·have c1 : decide (0 ≤ bits) = false := decide_eq_false h1
   have HR := Lib.hid (show false = r by rw [← hr]; unfold N.rightB; rw [c1, Bool.and_false, Bool.false_and, Bool.false_and])
   clear hr h0
   go_enter Tryz.func152, Tryz.ntmps152
   go_wp2_with fail
   refine (belowIP _ true _ HB.out).mono ?_
   rintro e w1 ⟨rfl, rfl⟩
   go_wp2
   go_ret
   exact ⟨by rw [← HR.out]; rfl, rfl⟩
 ·have hz : (decide (0 ≤ n) && decide (n < 4294967296)) = false := by
   cases hz : (decide (0 ≤ n) && decide (n < 4294967296)) with
   | false => rfl
   | true => rw [Bool.and_eq_true, decide_eq_true_eq, decide_eq_true_eq] at hz; exact absurd hz h0
  have HB := Lib.hid hz
  have HR := Lib.hid (show false = r by rw [← hr]; unfold N.rightB; rw [hz, Bool.false_and, Bool.false_and, Bool.false_and])
  clear hr h0 hz
  go_enter Tryz.func152, Tryz.ntmps152
  go_wp2_with fail
  refine (belowIP _ false _ HB.out).mono ?_
  rintro e w1 ⟨rfl, rfl⟩
  go_wp2
  go_ret
  exact ⟨by rw [← HR.out]; rfl, rfl⟩
theorem okA_nat (n : Nat) : okA (n : Int) = ((n : Int), true) := by unfold okA; rw [if_pos (by omega)]
set_option maxRecDepth 100000 in
set_option maxHeartbeats 2000000 in
theorem number_any (s : ByteArray) (w : World) (hs : s.size ≤ 1073741824) : Calls Tryz.prog 154 #[.string s] w (fun e w' => e = .returned (.tuple #[.int .i64 (okA (N.numL s.data.toList)).1, .bool (okA (N.numL s.data.toList)).2]) ∧ w = w') := by
 have hsz : s.data.toList.length = s.size := by simp
 by_cases h0 : s.size = 0
 ·have HE := Lib.hid (show N.numL s.data.toList = -1 by rw [List.eq_nil_of_length_eq_zero (hsz.trans h0)]; rfl)
  have b1 : decide ((s.size : Int) < 1) = true := decide_eq_true (by omega)
  have b1b : decide (s.size < 1) = true := decide_eq_true (by omega)
  have b1c : decide (s.size = 0) = true := decide_eq_true h0
  have b1d : s.toList = [] := by rw [ByteArray.toList_eq, List.eq_nil_of_length_eq_zero (hsz.trans h0)]
  clear hsz h0
  go_enter Tryz.func154, Tryz.ntmps154
  go_wp2
  go_ret2
  exact ⟨by rw [HE.out]; rfl, rfl⟩
 have hpos : 0 < s.size := by omega
 have b1 : decide ((s.size : Int) < 1) = false := decide_eq_false (by omega)
 have b1b : decide (s.size < 1) = false := decide_eq_false (by omega)
 have b1c : decide (s.size = 0) = false := decide_eq_false h0
 have b1d : ¬ s.toList = [] := by rw [ByteArray.toList_eq]; exact fun e => h0 (by rw [← hsz, e]; rfl)
 have b1e : s.toList.isEmpty = false := by cases hx : s.toList with | nil => exact absurd hx b1d | cons => rfl
 by_cases h1 : 10 < s.size
 ·have HE := Lib.hid (show N.numL s.data.toList = -1 by unfold N.numL; rw [if_pos (.inr (.inl (by rw [hsz]; exact h1)))])
  have b2 : decide ((10 : Int) < (s.size : Int)) = true := decide_eq_true (by omega)
  have b2b : decide (10 < s.size) = true := decide_eq_true h1
  clear hsz h0 h1
  go_enter Tryz.func154, Tryz.ntmps154
  go_wp2
  go_ret2
  exact ⟨by rw [HE.out]; rfl, rfl⟩
 have b2 : decide ((10 : Int) < (s.size : Int)) = false := decide_eq_false (by omega)
 have b2b : decide (10 < s.size) = false := decide_eq_false h1
 have hhd := head_is s hpos
 by_cases h2 : s[0].toNat = 48 ∧ 1 < s.size
 ·have HE := Lib.hid (show N.numL s.data.toList = -1 by unfold N.numL; rw [if_pos (.inr (.inr (.inl ⟨by rw [hhd, show s[0] = 48 from UInt8.toNat_inj.1 h2.1], by rw [hsz]; exact h2.2⟩)))])
  have b3 : ((s[0].toNat : Int) == 48) = true := by simp; omega
  have b4 : decide ((1 : Int) < (s.size : Int)) = true := decide_eq_true (by omega)
  have b4b : decide (1 < s.size) = true := decide_eq_true h2.2
  clear hsz h0 h1 h2 hhd
  go_enter Tryz.func154, Tryz.ntmps154
  go_wp2
  go_ret2
  exact ⟨by rw [HE.out]; rfl, rfl⟩
 have HSZ := Lib.hid hsz
 have HNE := Lib.hid (show s.data.toList ≠ [] from fun e => h0 (by rw [← hsz, e]; rfl))
 have HH := Lib.hid (show ¬ (s.data.toList.head? = some 48 ∧ 1 < s.data.toList.length) by
  rintro ⟨e1, e2⟩
  rw [hhd] at e1
  injection e1 with e1
  exact h2 ⟨by rw [e1]; rfl, by omega⟩)
 by_cases h4 : 1 < s.size
 all_goals
  first
  | (have b3 : ((s[0].toNat : Int) == 48) = false := by (have : s[0].toNat ≠ 48 := fun e => h2 ⟨e, h4⟩; simp; omega)
     have b4 : decide ((1 : Int) < (s.size : Int)) = true := decide_eq_true (by omega)
     have b4b : decide (1 < s.size) = true := decide_eq_true (by omega))
  | (have b4 : decide ((1 : Int) < (s.size : Int)) = false := decide_eq_false (by omega)
     have b4b : decide (1 < s.size) = false := decide_eq_false (by omega))
  clear hsz h0 h2 h4 hhd
  go_enter Tryz.func154, Tryz.ntmps154
  go_wp2
  go_loopg [4, 5] s.size (fun gk vn vi wr => ∃ k v : Nat, Hid (k + gk = s.size) ∧ k ≤ s.size ∧ vi = .int .i64 (k : Int) ∧ vn = .int .i64 (v : Int) ∧ Hid (N.valL (s.data.toList.take k) = v) ∧ Hid ((s.data.toList.take k).all N.digB = true) ∧ w = wr)
  case atStart => exact ⟨0, 0, Nat.zero_add _, Nat.zero_le _, rfl, rfl, rfl, rfl, rfl⟩
  case round =>
   obtain ⟨k, v, HG, hk, rfl, rfl, HV, HD, rfl⟩ := hrel
   by_cases hlt : k < s.size
   ·have blt : decide ((k : Int) < (s.size : Int)) = true := decide_eq_true (by omega)
    have blt2 : decide (k < s.size) = true := decide_eq_true hlt
    have hki : (k : Int) < (s.size : Int) := by omega
    have hsn := W.take_snoc s k hlt
    have hmem : s[k] ∈ s.data.toList := List.mem_of_mem_take (i := k + 1) (by rw [hsn]; simp)
    have hv : v < 10000000000 := by
     rw [← HV.out]
     exact N.val_lt _ HD.out 10 (by rw [List.length_take]; omega)
    have hc := s[k].toNat_lt
    by_cases hlo : s[k].toNat < 48
    ·have c1 : decide ((s[k].toNat : Int) < 48) = true := decide_eq_true (by omega)
     have HE := Lib.hid (num_bad hmem (digB_lo hlo))
     clear hsn hmem hlo
     go_wp2
     go_ret2
     exact ⟨by rw [HE.out]; rfl, rfl⟩
    ·have c1 : decide ((s[k].toNat : Int) < 48) = false := decide_eq_false (by omega)
     by_cases hhi : 57 < s[k].toNat
     ·have c2 : decide ((57 : Int) < (s[k].toNat : Int)) = true := decide_eq_true (by omega)
      have c2b : decide (57 < s[k].toNat) = true := decide_eq_true hhi
      have HE := Lib.hid (num_bad hmem (digB_hi hhi))
      clear hsn hmem hlo hhi
      go_wp2
      go_ret2
      exact ⟨by rw [HE.out]; rfl, rfl⟩
     ·have c2 : decide ((57 : Int) < (s[k].toNat : Int)) = false := decide_eq_false (by omega)
      have c2b : decide (57 < s[k].toNat) = false := decide_eq_false hhi
      have HSN := Lib.hid hsn
      have HD2 := Lib.hid (show (s.data.toList.take (k + 1)).all N.digB = true by rw [hsn, List.all_append, HD.out]; show ([s[k]] : List UInt8).all N.digB = true; rw [List.all_cons, digB_in (by omega) (by omega)]; rfl)
      have HV2 := Lib.hid (show N.valL (s.data.toList.take (k + 1)) = 10 * v + (s[k].toNat - 48) by rw [hsn, N.val_snoc, HV.out])
      have hgk := HG.out
      have hu : IntKind.u8.wrap ((s[k].toNat : Int) - 48) = ((s[k].toNat - 48 : Nat) : Int) := by rw [IntKind.wrap_u8]; omega
      clear hsn hmem
      go_wp2
      go_roundg (s.size - (k + 1))
      case rel => exact ⟨k + 1, 10 * v + (s[k].toNat - 48), (by show _ = _; omega), by omega, by go_num, by go_num, HV2, HD2, rfl⟩
      case measure => omega
   ·have blt : decide ((k : Int) < (s.size : Int)) = false := decide_eq_false (by omega)
    have blt2 : decide (k < s.size) = false := decide_eq_false hlt
    have htk : s.data.toList.take k = s.data.toList := List.take_of_length_le (by have := HSZ.out; omega)
    have HE := Lib.hid (show N.numL s.data.toList = v by
     have h5 := HV.out
     have h6 := HD.out
     rw [htk] at h5 h6
     rw [num_all HNE.out (by rw [HSZ.out]; exact h1) HH.out h6, h5])
    clear htk
    go_wp2
    go_ret2
    exact ⟨by rw [HE.out, okA_nat]; rfl, rfl⟩
set_option maxRecDepth 100000 in
theorem num_any10 (s : ByteArray) (least most z : Int) (ok : Bool) (w : World) (hs : s.size ≤ 1073741824) (hz : numA s.data.toList least most = (z, ok)) : Calls Tryz.prog 125 #[.string s, .int .i64 least, .int .i64 most] w (fun e w' => e = .returned (.tuple #[.int .i64 z, .bool ok]) ∧ w = w') := by
 have HN := Lib.hid (number_any s w hs)
 rcases N.num_cases s.data.toList with h | ⟨n, h, _, _⟩
 ·have e1 : okA (N.numL s.data.toList) = (0, false) := by rw [h]; rfl
  have e2 : numA s.data.toList least most = (0, false) := by unfold numA; rw [if_neg (by omega)]
  rw [e1] at HN
  rw [e2] at hz
  cases hz
  clear e1 e2 h
  go_enter Tryz.func125, Tryz.ntmps125
  go_wp2_with fail
  refine (HN.out).mono ?_
  rintro e w1 ⟨rfl, rfl⟩
  go_wp2
  go_ret2
  exact ⟨rfl, rfl⟩
 ·have e1 : okA (N.numL s.data.toList) = ((n : Int), true) := by rw [h, okA_nat]
  rw [e1] at HN
  clear e1
  by_cases h1 : (n : Int) < least
  ·have c1 : decide ((n : Int) < least) = true := decide_eq_true h1
   have e2 : numA s.data.toList least most = (0, false) := by unfold numA; rw [if_neg (by omega)]
   rw [e2] at hz
   cases hz
   clear e2 h h1
   go_enter Tryz.func125, Tryz.ntmps125
   go_wp2_with fail
   refine (HN.out).mono ?_
   rintro e w1 ⟨rfl, rfl⟩
   go_wp2
   go_ret2
   exact ⟨rfl, rfl⟩
  ·have c1 : decide ((n : Int) < least) = false := decide_eq_false h1
   by_cases h2 : most < (n : Int)
   ·have c2 : decide (most < (n : Int)) = true := decide_eq_true h2
    have e2 : numA s.data.toList least most = (0, false) := by unfold numA; rw [if_neg (by omega)]
    rw [e2] at hz
    cases hz
    clear e2 h h1 h2
    go_enter Tryz.func125, Tryz.ntmps125
    go_wp2_with fail
    refine (HN.out).mono ?_
    rintro e w1 ⟨rfl, rfl⟩
    go_wp2
    go_ret2
    exact ⟨rfl, rfl⟩
   ·have c2 : decide (most < (n : Int)) = false := decide_eq_false h2
    have e2 : numA s.data.toList least most = ((n : Int), true) := by unfold numA; rw [if_pos (by omega), h]
    rw [e2] at hz
    cases hz
    clear e2 h h1 h2
    go_enter Tryz.func125, Tryz.ntmps125
    go_wp2_with fail
    refine (HN.out).mono ?_
    rintro e w1 ⟨rfl, rfl⟩
    go_wp2
    go_ret2
    exact ⟨rfl, rfl⟩
end Go.Proofs.YtfcikfohmehmkaaGreatDoor
namespace Go.Proofs.YtfcikfohmehmkaaGreatDoor
open Go.Shelf Go.RowKit
set_option linter.unusedVariables false
def ren219 : Go.Shelf.Ren := ⟨fun | 217 => 175 | 219 => 183 | 224 => 189 | 225 => 188 | 266 => 184 | 267 => 190 | 314 => 191 | n => n, fun | 3 => 3 | 4 => 4 | 5 => 5 | 9 => 9 | 46 => 112 | 51 => 152 | 146 => 199 | n => n, fun | 1 => 0 | n => n⟩
set_option maxRecDepth 100000 in
theorem lays219 : Go.Proofs.Lays.n219 Tryz.prog ren219 := {
 mixed := by kernel_rfl
 f217 := Tryz.func175.trans (congrArg some (by kernel_rfl))
 f219 := Tryz.func183.trans (congrArg some (by kernel_rfl))
 f224 := Tryz.func189.trans (congrArg some (by kernel_rfl))
 f225 := Tryz.func188.trans (congrArg some (by kernel_rfl))
 f266 := Tryz.func184.trans (congrArg some (by kernel_rfl))
 f267 := Tryz.func190.trans (congrArg some (by kernel_rfl))
 f314 := Tryz.func191.trans (congrArg some (by kernel_rfl))
 t3 := Tryz.underlying3
 a3 := Tryz.isAgg3
 z3 := Tryz.sizeOf3
 v3 := Tryz.zeroValue3
 t4 := Tryz.underlying4
 a4 := Tryz.isAgg4
 z4 := Tryz.sizeOf4
 v4 := Tryz.zeroValue4
 t5 := Tryz.underlying5
 a5 := Tryz.isAgg5
 z5 := Tryz.sizeOf5
 v5 := Tryz.zeroValue5
 t9 := Tryz.underlying9
 a9 := Tryz.isAgg9
 z9 := Tryz.sizeOf9
 v9 := Tryz.zeroValue9
 t46 := Tryz.underlying112
 a46 := Tryz.isAgg112
 z46 := Tryz.sizeOf112
 v46 := Tryz.zeroValue112
 t51 := Tryz.underlying152
 a51 := Tryz.isAgg152
 z51 := Tryz.sizeOf152
 v51 := Tryz.zeroValue152
 t146 := Tryz.underlying199
 a146 := Tryz.isAgg199
 z146 := Tryz.sizeOf199
 v146 := Tryz.zeroValue199
 g1 := by kernel_rfl }
def ren103 : Go.Shelf.Ren := ⟨fun | 103 => 157 | 206 => 115 | 210 => 177 | n => n, fun | 3 => 3 | 4 => 4 | 9 => 9 | 24 => 180 | n => n, fun  n => n⟩
set_option maxRecDepth 100000 in
theorem lays103 : Go.Proofs.Lays.n103 Tryz.prog ren103 := {
 mixed := by kernel_rfl
 f103 := Tryz.func157.trans (congrArg some (by kernel_rfl))
 f206 := Tryz.func115.trans (congrArg some (by kernel_rfl))
 f210 := Tryz.func177.trans (congrArg some (by kernel_rfl))
 t3 := Tryz.underlying3
 a3 := Tryz.isAgg3
 z3 := Tryz.sizeOf3
 v3 := Tryz.zeroValue3
 t4 := Tryz.underlying4
 a4 := Tryz.isAgg4
 z4 := Tryz.sizeOf4
 v4 := Tryz.zeroValue4
 t9 := Tryz.underlying9
 a9 := Tryz.isAgg9
 z9 := Tryz.sizeOf9
 v9 := Tryz.zeroValue9
 t24 := Tryz.underlying180
 a24 := Tryz.isAgg180
 z24 := Tryz.sizeOf180
 v24 := Tryz.zeroValue180 }
theorem index_one (s : ByteArray) (c : UInt8) (w : World) : Calls Tryz.prog 183 #[.string s, .string ⟨#[c]⟩] w fun e w' => e = .returned (.int .i64 (Lib.indexByte s.data.toList c)) ∧ w' = w :=
 Any.stringslite_Index_one lays219 s c w
theorem below_drawnJ {B : Nat} {a w : World} (h : Below B a w) (q : Nat) : Below B a (w.drewN q) := ⟨h.os, h.tape, h.output, h.size, h.block⟩
def CutIs (c : UInt8) (l : List UInt8) (a b : List UInt8) (f : Bool) : Prop := (f = false ∧ a = l ∧ b = [] ∧ c ∉ l) ∨ (f = true ∧ l = a ++ c :: b ∧ c ∉ a)
theorem cut_extract (s : ByteArray) (i : Nat) : s.extract 0 i = sB (s.data.toList.take i) ∧ s.extract (i + 1) s.size = sB (s.data.toList.drop (i + 1)) := by
 have hsz : s.data.toList.length = s.size := by simp
 refine ⟨?_, ?_⟩
 ·refine ByteArray.ext (Array.ext' ?_)
  simp [sB, ByteArray.data_extract]
 ·refine ByteArray.ext (Array.ext' ?_)
  have h1 : (s.extract (i + 1) s.size).data.toList = (s.data.toList.drop (i + 1)).take (s.size - (i + 1)) := by simp [ByteArray.data_extract, List.extract_eq_take_drop]
  rw [h1, List.take_of_length_le (by rw [List.length_drop, hsz]; omega)]
  rfl
set_option maxRecDepth 100000 in
set_option maxHeartbeats 2000000 in
theorem cutLite (s : ByteArray) (c : UInt8) (w : World) (hs : s.size ≤ 1073741824) : Calls Tryz.prog 173 #[.string s, .string ⟨#[c]⟩] w (fun e w' => (∃ a b f, e = .returned (.tuple #[.string (sB a), .string (sB b), .bool f]) ∧ CutIs c s.data.toList a b f) ∧ Below w.heap.size w w') := by
 have hsz : s.data.toList.length = s.size := by simp
 rcases N.index_cases s.data.toList c with ⟨hi, hn⟩ | ⟨i, hi, hlt, he, hn⟩
 ·have HI := Lib.hid hi
  have HE := Lib.hid (show s = sB s.data.toList from (ByteArray.ext (Array.ext' (by simp [sB]))))
  have HC := Lib.hid (show CutIs c s.data.toList s.data.toList [] false from .inl ⟨rfl, rfl, rfl, hn⟩)
  clear hi hn hsz
  go_enter Tryz.func173, Tryz.ntmps173
  go_wp2_with fail
  refine (index_one _ _ _).mono ?_
  rintro e w1 ⟨rfl, rfl⟩
  rw [HI.out]
  go_wp2
  go_ret3
  exact ⟨⟨_, _, _, by rw [← HE.out]; rfl, HC.out⟩, Below.refl _ _⟩
 ·have HI := Lib.hid hi
  obtain ⟨e1, e2⟩ := cut_extract s i
  have HE1 := Lib.hid e1
  have HE2 := Lib.hid e2
  have HC := Lib.hid (show CutIs c s.data.toList (s.data.toList.take i) (s.data.toList.drop (i + 1)) true from .inr ⟨rfl, he, hn⟩)
  have hlt2 : i < s.size := by omega
  have c1 : decide ((0 : Int) ≤ (i : Int)) = true := decide_eq_true (by omega)
  clear hi hn hsz he e1 e2 hlt
  go_enter Tryz.func173, Tryz.ntmps173
  go_wp2_with fail
  refine (index_one _ _ _).mono ?_
  rintro e w1 ⟨rfl, rfl⟩
  rw [HI.out]
  go_wp2
  go_quiet (fail)
  go_wp2
  go_ret3
  exact ⟨⟨_, _, _, by rw [← HE1.out, ← HE2.out]; rfl, HC.out⟩, below_drawnJ (Below.refl _ _) _⟩
set_option maxRecDepth 100000 in
theorem cut_any10 (s : ByteArray) (c : UInt8) (w : World) (hs : s.size ≤ 1073741824) : Calls Tryz.prog 149 #[.string s, .string ⟨#[c]⟩] w (fun e w' => (∃ a b f, e = .returned (.tuple #[.string (sB a), .string (sB b), .bool f]) ∧ CutIs c s.data.toList a b f) ∧ Below w.heap.size w w') := by
 go_enter Tryz.func149, Tryz.ntmps149
 go_wp2_with fail
 refine (cutLite s c _ hs).mono ?_
 rintro e w1 ⟨⟨a, b, f, rfl, hc⟩, hb⟩
 have HC := Lib.hid hc
 clear hc
 go_wp2
 go_ret3
 exact ⟨⟨a, b, f, rfl, HC.out⟩, hb⟩
theorem cutPrefix_any (s p : ByteArray) (w : World) : Calls Tryz.prog 157 #[.string s, .string p] w fun e w' => e = .returned (.tuple #[.string ⟨(Lib.trimPrefix s.data.toList p.data.toList).toArray⟩, .bool (Lib.hasPrefix s.data.toList p.data.toList)]) ∧ w' = w :=
 Any.strings_CutPrefix lays103 s p w
def ren137 : Go.Shelf.Ren := ⟨fun | 137 => 153 | 217 => 175 | 266 => 184 | n => n, fun | 3 => 3 | 5 => 5 | 9 => 9 | n => n, fun  n => n⟩
set_option maxRecDepth 100000 in
theorem lays137 : Go.Proofs.Lays.n137 Tryz.prog ren137 := {
 mixed := by kernel_rfl
 f137 := Tryz.func153.trans (congrArg some (by kernel_rfl))
 f217 := Tryz.func175.trans (congrArg some (by kernel_rfl))
 f266 := Tryz.func184.trans (congrArg some (by kernel_rfl))
 t3 := Tryz.underlying3
 a3 := Tryz.isAgg3
 z3 := Tryz.sizeOf3
 v3 := Tryz.zeroValue3
 t5 := Tryz.underlying5
 a5 := Tryz.isAgg5
 z5 := Tryz.sizeOf5
 v5 := Tryz.zeroValue5
 t9 := Tryz.underlying9
 a9 := Tryz.isAgg9
 z9 := Tryz.sizeOf9
 v9 := Tryz.zeroValue9 }
theorem indexByte_any (s : ByteArray) (c : UInt8) (w : World) : Calls Tryz.prog 153 #[.string s, .int .u8 (c.toNat : Int)] w fun e w' => e = .returned (.int .i64 (Lib.indexByte s.data.toList c)) ∧ w' = w := by
 have h := Any.strings_IndexByte lays137 s (c.toNat : Int) w
 rw [Int.toNat_natCast, show c.toNat.toUInt8 = c from UInt8.ofNat_toNat] at h
 exact h
end Go.Proofs.YtfcikfohmehmkaaGreatDoor
