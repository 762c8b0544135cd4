/-
  Part 11 of what the proofs of this claim stand on. No conditions but those that each theorem states.
-/
import Derived.Test.YtfcikfohmehmkaaGreatDoorTabs10

namespace Go.Proofs.YtfcikfohmehmkaaGreatDoor
open Go.RowKit
open Go.ChangeShapes Go.WideShapes Go.ChangeAt
set_option linter.unusedVariables false
set_option linter.unusedSimpArgs false
theorem anyH_abs {P : Program} {md : Region.Mode} {ops : Array Oper} {Q : Exit → Act → World → Prop} {S : World → Prop} {fuel : Nat} {listed : Array Bool} {a : Act} {w : World} {F : World → Prop} (hF : F w) (h : ∀ z, F z → wpAnyH P md ops Q S fuel listed a z) : wpAnyH P md ops Q S fuel listed a w := h w hF
theorem by_rest {p : World → Nat → Nat → Nat → Prop} {wr : World} {G : Prop} (main : (∀ (z : World) (g1 g2 g3 : Nat), Below wr.heap.size wr z → p z g1 g2 g3) → G) (rest : ∀ (z : World) (g1 g2 g3 : Nat), Below wr.heap.size wr z → p z g1 g2 g3) : G := main rest
theorem wp_appMr {α : Type} (E : Elem α) {o : Oper} {a : Act} {K : Act → World → Prop} {Q : Exit → Act → World → Prop} (w : World) (s x : Operand)
  (ho : o.op = .call { callee := .builtin .append, args := #[s, x], argTypes := #[E.st, E.st] })
  (base : Nat) (v : Value) (l : List α) (hs : a.eval s = v) (hown : Own E w base v l) (v2 : Value) (l2 : List α) (hx : a.eval x = v2) (h2 : VecAt E w v2 l2) (hlen : l.length + l2.length ≤ 1099511627776) (hb : base ≤ w.heap.size)
  (h : ∀ v' w', Own E w' base v' (l ++ l2) → Below base w w' → G12 w w' v v' → K (a.put o.dst v') w') : o.wp Tryz.prog a w K Q := by
 rcases h2 with ⟨rfl, rfl⟩ | ⟨b, q, c, rfl, hc, hbw, hH⟩
 ·refine wp_appNone E w s x ho base v l hs hown hx ?_
  exact h v w (by rw [List.append_nil]; exact hown) (Below.refl _ _) ⟨Nat.le_refl _, fun _ _ _ => rfl, fun b e => .inl e⟩
 ·obtain ⟨i0, hi0, hz0, hz1, hz2⟩ := info_parts E.hin
  have hby := E.hby
  have hmul : (l.length + l2.length) * E.by_ ≤ 1099511627776 * 64 := Nat.mul_le_mul hlen hby
  obtain ⟨v', w', hr, h1, h2, _, h3⟩ := run_append_own_at (P := Tryz.prog) (w := w) base E.st o.type E.T i0 _ E.sz E.by_ E.hst hi0 hz0 hz1 hz2 E.hzs E.hsz v l.length (cellsG E l) hown ⟨b, q, none⟩ l2.length c (cellsG E l2)
   (cellsG_len E l2) (fun j u hu => cells_from hH j u hu) (cellsG_onec E _) (by unfold maxLen; omega) (by omega) hb
  have hG : Grew E w w' base v v' (l ++ l2) := by
   refine ⟨?_, ⟨h2.os, h2.tape, h2.output, h2.size, fun k hk hne => h2.block k hk hne⟩, ?_⟩
   ·unfold Own; rw [cellsG_append, List.length_append]; exact h1
   ·rcases h3 with h3 | h3
    ·exact .inl h3
    ·exact .inr ⟨_, h3, Nat.le_refl _⟩
  unfold Oper.wp execOp
  simp only [ho, resolve, invoke, builtin, Sem.run_bind, Sem.run_pure, Result.andThen_ok, List.map_toArray, List.map_cons, List.map_nil, hs, hx, hr]
  exact h v' w' hG.own (hG.below hown hb) (g12_of hG)
set_option maxRecDepth 100000 in
set_option maxHeartbeats 64000000 in
theorem compileR (A : Option Addr) (c n m : Nat) (t : List T.Ln) (L : List H.En) (er : Int) (w : World) (hn : t.length = n) (hl200 : n ≤ 200) (hA : Seen eL w A t) (hR : T.RightT t) (hL : RefIs t L er) (hm : L.length = m) :
  Calls Tryz.prog 13 #[.slice A n c] w (fun e w' => ∃ B d, e = .returned (.tuple #[.slice B m d, .int .i64 er]) ∧ m ≤ d ∧ Seen eEd w' B L ∧ Below w.heap.size w w') := by
 have HA := Lib.hid hA
 have HN := Lib.hid hn
 have HR := Lib.hid hR
 have HM := Lib.hid hm
 have hl30 : n ≤ 1073741824 := by omega
 obtain ⟨HS, hHS⟩ : ∃ z, T.underW t [C.wHosts] = z := ⟨_, rfl⟩
 obtain ⟨PS, hPS⟩ : ∃ z, T.underW t [C.wPolicy] = z := ⟨_, rfl⟩
 have HHS := Lib.hid hHS
 have HPS := Lib.hid hPS
 have h200 : ∀ p, (T.underW t p).length ≤ 200 := fun p => H.under_few hR (by omega) p
 have HH2 := Lib.hid (show HS.length ≤ 200 by rw [← hHS]; exact h200 _)
 have HP2 := Lib.hid (show PS.length ≤ 200 by rw [← hPS]; exact h200 _)
 have HTA := Lib.hid (show H.tablesL t = H.setE (HS.flatMap (H.hostL t)) by rw [← hHS]; rfl)
 have HHO := Lib.hid (fun h => show H.hostL t h = HS.flatMap (fun g => H.pairsL t h g) ++ PS.map (H.polOne t h) by rw [← hHS, ← hPS]; rfl)
 have HPR := Lib.hid (fun h g => H.pairs_few hR (show t.length ≤ 200 by omega) h g)
 have HHF := Lib.hid (fun h => H.host_few hR (show t.length ≤ 200 by omega) h)
 have HWL := Lib.hid (fun (p : T.Pth) (o : List UInt8) (ho : o.length ≤ 40) => H.word_long hR p ho)
 obtain ⟨hn, hhn⟩ : ∃ z, HS.length = z := ⟨_, rfl⟩
 obtain ⟨pn, hpn⟩ : ∃ z, PS.length = z := ⟨_, rfl⟩
 have HHN := Lib.hid hhn
 have HPN0 := Lib.hid hpn
 have hhn2 : hn ≤ 200 := by rw [← hhn]; exact HH2.out
 have hpn2 : pn ≤ 200 := by rw [← hpn]; exact HP2.out
 have HF1 := Lib.hid (fun i => show ((HS.take i).flatMap (H.hostL t)).length ≤ 32040000 from H.take_few _ 160200 HS i (fun x _ => HHF.out x) HH2.out)
 have HF2 := Lib.hid (fun h i => show ((HS.take i).flatMap (fun g => H.pairsL t h g)).length ≤ 160000 from H.take_few _ 800 HS i (fun x _ => HPR.out h x) HH2.out)
 have HL := Lib.hid hL
 clear hA hR hHS hPS h200 hhn hpn hL hm
 go_enter Tryz.func13, Tryz.ntmps13
 go_wp2_with fail
 refine (checkR A c n t _ HN.out HA.out hl200 HR.out).mono ?_
 rintro e w1 ⟨v, rfl, ho, hx1⟩
 obtain ⟨M1, hM1, hO1, _⟩ := ho
 obtain ⟨A1, c1, rfl, _, _⟩ := hO1.seen
 rw [hM1]
 have HX1 := Lib.hid hx1
 clear hO1 hM1 hx1
 by_cases hf : C.checkP (C.pths t) = []
 ·have hLe : L = H.tablesL t ∧ er = 0 := by
   rcases HL.out with ⟨_, h1, h2⟩ | ⟨h, _, _⟩
   ·exact ⟨h1, h2⟩
   ·exact absurd hf h
  obtain ⟨hLT, rfl⟩ := hLe
  have HLT := Lib.hid hLT
  rw [hf]
  clear hLT hf HL
  go_wp2_with fail
  refine (underN14 A c n t _ 1 1 hn [C.wHosts] HS _ HN.out rfl (HA.out.below (bthen HX1.out (up _ _))) (lit_seen eS w1 [C.wHosts] _ rfl (by simp)) hl30 (by omega) HR.out HHS.out HHN.out).mono ?_
  rintro e w2 ⟨C2, d2, rfl, hd2, hs2, hf2, hx2⟩
  have HX2 := Lib.hid (bthen HX1.out (bthen (up _ _) hx2))
  have HS2 := Lib.hid hs2
  clear hx2 hs2 hd2 hf2
  go_wp2
  go_loopg [4, 6, 7, 8, 9, 10] hn (fun gk vo vi v7 v8 v9 v10 wr => ∃ i : Nat, Hid (i + gk = hn) ∧ vi = .int .i64 (i : Int) ∧ Hid (Own eEd wr w2.heap.size vo ((HS.take i).flatMap (H.hostL t))) ∧ Hid (Below w2.heap.size w2 wr))
  case atStart => exact ⟨0, Nat.zero_add _, rfl, Own.nil _ _, Below.refl _ _⟩
  case round =>
   obtain ⟨i, HGI, rfl, HO, HB⟩ := hrel
   have hgi := HGI.out
   by_cases hlt : i < hn
   ·have bli : decide ((i : Int) < (hn : Int)) = true := decide_eq_true (by omega)
    have bli2 : decide (i < hn) = true := decide_eq_true hlt
    have hii : (i : Int) < (hn : Int) := by omega
    have hiN : i < HS.length := by rw [HHN.out]; exact hlt
    obtain ⟨b, o, rfl, hwb, hLn⟩ := HS2.out (by omega)
    have HLH := Lib.hid hLn
    obtain ⟨h, hh⟩ : ∃ z, HS[i] = z := ⟨_, rfl⟩
    have hci := hLn.str hiN
    rw [hh] at hci
    have HCI := Lib.hid hci
    obtain ⟨X, hX⟩ : ∃ z, (HS.take i).flatMap (H.hostL t) = z := ⟨_, rfl⟩
    have HXF := Lib.hid (show X.length ≤ 32040000 by rw [← hX]; exact HF1.out i)
    have HXN := Lib.hid (show (HS.take (i + 1)).flatMap (H.hostL t) = (X ++ HS.flatMap (fun g => H.pairsL t h g)) ++ PS.map (H.polOne t h) by
     rw [H.flatMap_next hiN, hh, hX, HHO.out, List.append_assoc])
    rw [hX] at HO
    have HOX := HO
    have HBX := HB
    clear hLn hh hci hX HO HB
    obtain ⟨wo, hwo⟩ : ∃ z, z = wr := ⟨_, rfl⟩
    subst hwo
    go_wp2
    go_loopg [4, 7] hn (fun gk2 vo vk wr => ∃ k : Nat, Hid (k + gk2 = hn) ∧ vk = .int .i64 (k : Int) ∧ Hid (Own eEd wr w2.heap.size vo (X ++ (HS.take k).flatMap (fun g => H.pairsL t h g))) ∧ Hid (Below w2.heap.size w2 wr))
    case atStart => exact ⟨0, Nat.zero_add _, rfl, (by rw [List.take_zero, List.flatMap_nil, List.append_nil]; exact HOX.out), HBX.out⟩
    case round =>
     obtain ⟨k, HG, rfl, HO, HB⟩ := hrel
     have hgk := HG.out
     by_cases hltk : k < hn
     ·have blt : decide ((k : Int) < (hn : Int)) = true := decide_eq_true (by omega)
      have blt2 : decide (k < hn) = true := decide_eq_true hltk
      have hkz : (k : Int) < (hn : Int) := by omega
      have hkN : k < HS.length := by rw [HHN.out]; exact hltk
      obtain ⟨g, hg⟩ : ∃ z, HS[k] = z := ⟨_, rfl⟩
      have hck := HLH.out.str hkN
      rw [hg] at hck
      have HCK := Lib.hid hck
      obtain ⟨PL, hPL⟩ : ∃ z, H.pairsL t h g = z := ⟨_, rfl⟩
      have HPL := Lib.hid hPL
      have HPN := Lib.hid (show PL.length ≤ 800 by rw [← hPL]; exact HPR.out h g)
      have HNX := Lib.hid (show X ++ (HS.take (k + 1)).flatMap (fun g => H.pairsL t h g) = (X ++ (HS.take k).flatMap (fun g => H.pairsL t h g)) ++ PL by
       rw [H.flatMap_next hkN, hg, List.append_assoc, hPL])
      have HLN := Lib.hid (show (X ++ (HS.take k).flatMap (fun g => H.pairsL t h g)).length ≤ 32200000 by
       rw [List.length_append]; have := HXF.out; have := HF2.out h k; omega)
      have HXW := Lib.hid (HX2.out.trans (HB.out.mono HX2.out.size))
      have ci1 := (HB.out.cell (p := ⟨b, o + i, none⟩) hwb).trans HCI.out
      have ck1 := (HB.out.cell (p := ⟨b, o + k, none⟩) hwb).trans HCK.out
      clear hg hck hPL
      go_wp2
      refine wp_region_held_drew (S := fun w' => w'.cell? ⟨b, o + i, none⟩ = some (.string (sB h)) ∧ w'.cell? ⟨b, o + k, none⟩ = some (.string (sB g))) (by kernel_rfl) ⟨ci1, ck1⟩ (fun hHeld => ?_)
      refine takeZ (i := 0) (v := ?vm0) (d := some 30) ?hym0 ?restm0
      case hym0 => intro w hSw; obtain ⟨hs1, hs2⟩ := hSw; go_simp; try (with_reducible rfl)
      try simp only [pq13]
      refine takeZ (i := 1) (v := ?vm1) (d := some 31) ?hym1 ?restm1
      case hym1 => intro w hSw; obtain ⟨hs1, hs2⟩ := hSw; go_simp; try (with_reducible rfl)
      try simp only [pq13]
      refine takeZ (i := 2) (v := ?vm2) (d := some 32) ?hym2 ?restm2
      case hym2 => intro w hSw; obtain ⟨hs1, hs2⟩ := hSw; go_simp; try (with_reducible rfl)
      try simp only [pq13]
      refine takeZ (i := 3) (v := ?vm3) (d := some 33) ?hym3 ?restm3
      case hym3 => intro w hSw; obtain ⟨hs1, hs2⟩ := hSw; go_simp; try (with_reducible rfl)
      try simp only [pq13]
      refine takeZ (i := 4) (v := ?vm4) (d := some 34) ?hym4 ?restm4
      case hym4 => intro w hSw; obtain ⟨hs1, hs2⟩ := hSw; go_simp; try (with_reducible rfl)
      try simp only [pq13]
      refine takeZ (i := 5) (v := ?vm5) (d := some 35) ?hym5 ?restm5
      case hym5 => intro w hSw; obtain ⟨hs1, hs2⟩ := hSw; go_simp; try (with_reducible rfl)
      try simp only [pq13]
      refine takeZ (i := 6) (v := ?vm6) (d := some 36) ?hym6 ?restm6
      case hym6 => intro w hSw; obtain ⟨hs1, hs2⟩ := hSw; go_simp; try (with_reducible rfl)
      try simp only [pq13]
      refine takeZ (i := 7) (v := ?vm7) (d := some 37) ?hym7 ?restm7
      case hym7 => intro w hSw; obtain ⟨hs1, hs2⟩ := hSw; go_simp; try (with_reducible rfl)
      try simp only [pq13]
      refine takeZ (i := 8) (v := ?vm8) (d := some 38) ?hym8 ?restm8
      case hym8 => intro w hSw; obtain ⟨hs1, hs2⟩ := hSw; go_simp; try (with_reducible rfl)
      try simp only [pq13]
      refine takeZ (i := 9) (v := ?vm9) (d := some 39) ?hym9 ?restm9
      case hym9 => intro w hSw; obtain ⟨hs1, hs2⟩ := hSw; go_simp; try (with_reducible rfl)
      try simp only [pq13]
      refine anyH_abs (F := fun z => Below wr.heap.size wr z ∧ (z.cell? ⟨b, o + i, none⟩ = some (.string (sB h))) ∧ (z.cell? ⟨b, o + k, none⟩ = some (.string (sB g)))) ⟨(Below.refl _ _).drew, ci1, ck1⟩ (fun y0 hz => ?_)
      obtain ⟨hx, ci2, ck2⟩ := hz
      have HY := Lib.hid hx
      clear hx
      refine wpAnyH_ready (rs := [10]) (by kernel_rfl) (by simp) ?_
      refine AllReadyH.cons rfl (fun K hK => ?_) AllReadyH.nil
      go_simp
      go_at_call 33
      refine (pairsR A c n t h g PL _ HN.out hl200 (HA.out.below (bthen HXW.out HY.out)) HR.out HPL.out).mono ?_
      rintro e y1 ⟨v1, rfl, ho1, hx1⟩
      have hszy := Nat.le_trans HB.out.size HY.out.size
      have ci3 := (hx1.cell (p := ⟨b, o + i, none⟩) (Nat.lt_of_lt_of_le hwb hszy)).trans ci2
      have ck3 := (hx1.cell (p := ⟨b, o + k, none⟩) (Nat.lt_of_lt_of_le hwb hszy)).trans ck2
      have HY1 := Lib.hid (bthen HY.out hx1)
      have HO1 := Lib.hid (HO.out.keep HY1.out)
      have HV1 := Lib.hid (VecAt.own ho1)
      have hsz := Nat.le_trans HB.out.size HY1.out.size
      clear ho1 hx1
      refine hK.out _ _ (⟨ci3, ck3⟩) (fun hHeld => ?_)
      clear hK K
      try simp only [pq13]
      refine wpAnyH_ready (rs := [11]) (by kernel_rfl) (by simp) ?_
      refine AllReadyH.cons rfl (fun K hK => ?_) AllReadyH.nil
      rw [if_pos (by rfl)]
      refine wp_appMr eEd y1 (.tmp 30) (.tmp 40) rfl w2.heap.size u4 (X ++ (HS.take k).flatMap (fun g => H.pairsL t h g)) rfl HO1.out v1 PL rfl HV1.out (by have := HLN.out; have := HPN.out; omega) hsz ?_
      intro v10 w10 ho10 hb10 hg10
      have HO10 := Lib.hid ho10
      have HB10 := Lib.hid ((HB.out.trans (HY1.out.mono HB.out.size)).trans hb10)
      have ci4 := (HB10.out.cell (p := ⟨b, o + i, none⟩) hwb).trans HCI.out
      have ck4 := (HB10.out.cell (p := ⟨b, o + k, none⟩) hwb).trans HCK.out
      clear ho10 hb10 hg10
      refine hK.out _ _ (⟨ci4, ck4⟩) (fun hHeld => ?_)
      clear hK K
      try simp only [pq13]
      refine takeZ (i := 12) (v := ?vm12) (d := some 4) ?hym12 ?restm12
      case hym12 => intro w hSw; obtain ⟨hs1, hs2⟩ := hSw; go_simp; try (with_reducible rfl)
      try simp only [pq13]
      refine wpAnyH_done (by kernel_rfl) ?_ _
      go_wp2
      go_roundg (hn - (k + 1))
      case rel => exact ⟨k + 1, (by show _ = _; omega), by go_num, (by rw [HNX.out]; exact HO10.out), HB10.out⟩
      case measure => omega
     ·have blt : decide ((k : Int) < (hn : Int)) = false := decide_eq_false (by omega)
      have blt2 : decide (k < hn) = false := decide_eq_false hltk
      have hown := HO.out
      rw [List.take_of_length_le (show HS.length ≤ k by rw [HHN.out]; omega)] at hown
      obtain ⟨Y, hY⟩ : ∃ z, X ++ HS.flatMap (fun g => H.pairsL t h g) = z := ⟨_, rfl⟩
      rw [hY] at hown HXN
      have HYF := Lib.hid (show Y.length ≤ 32200000 by
       have := HF2.out h hn
       rw [List.take_of_length_le (Nat.le_of_eq HHN.out)] at this
       rw [← hY, List.length_append]; have := HXF.out; omega)
      have HOY := Lib.hid hown
      have HXW := Lib.hid (HX2.out.trans (HB.out.mono HX2.out.size))
      have HBY := HB
      clear hown hY HO HOX HBX HB HG hgk hltk
      obtain ⟨wc, hwc⟩ : ∃ z, z = wr := ⟨_, rfl⟩
      subst hwc
      go_wp2_with fail
      refine (underN14 A c n t _ 1 1 pn [C.wPolicy] PS _ HN.out rfl (HA.out.below (bthen HXW.out (up _ _))) (lit_seen eS wc [C.wPolicy] _ rfl (by simp)) hl30 (by omega) HR.out HPS.out HPN0.out).mono ?_
      rintro e w6 ⟨C6, d6, rfl, hd6, hs6, hf6, hx6⟩
      have HS6 := Lib.hid hs6
      have HK6 := Lib.hid (show ∀ a, C6 = some a → wc.heap.size ≤ a.block from fun a e => Nat.le_trans (up wc _).size (hf6 a e))
      have hx6 := bthen (up _ _) hx6
      have HO6 := Lib.hid (HOY.out.keep hx6)
      have HSD := Lib.hid (side_start (w := w6) HOY.out (Nat.le_refl _))
      have HB6 := Lib.hid (HBY.out.trans (hx6.mono HBY.out.size))
      clear hs6 hf6 hx6 hd6 HXW HOY HBY
      go_wp2
      go_loopg [4, 9, 10] pn (fun gk3 vo vk vs wr => ∃ k : Nat, Hid (k + gk3 = pn) ∧ vk = .int .i64 (k : Int) ∧ Hid (Own eEd wr w2.heap.size vo (Y ++ (PS.take k).map (H.polOne t h))) ∧ Hid (Side12 wc.heap.size w6 wr vo) ∧ Hid (Below w2.heap.size w2 wr))
      case atStart => exact ⟨0, Nat.zero_add _, rfl, (by rw [List.take_zero, List.map_nil, List.append_nil]; exact HO6.out), HSD.out, HB6.out⟩
      case round =>
       obtain ⟨k, HG, rfl, HO, HD, HB⟩ := hrel
       have hgk := HG.out
       by_cases hltk : k < pn
       ·have blt : decide ((k : Int) < (pn : Int)) = true := decide_eq_true (by omega)
        have blt2 : decide (k < pn) = true := decide_eq_true hltk
        have hkz : (k : Int) < (pn : Int) := by omega
        have hkN : k < PS.length := by rw [HPN0.out]; exact hltk
        obtain ⟨bl, ol, rfl, hwl, hLn⟩ := side_seen HD.out HS6.out HK6.out (by omega)
        have c0 := hLn.str hkN
        obtain ⟨x, hx⟩ : ∃ z, PS[k] = z := ⟨_, rfl⟩
        have HXI := Lib.hid hx
        rw [hx] at c0
        obtain ⟨q1, hq1⟩ : ∃ z, H.wordH t [C.wPolicy, x, C.wAction] [] = z := ⟨_, rfl⟩
        obtain ⟨q2, hq2⟩ : ∃ z, H.wordH t [C.wPolicy, x, C.wFrom] H.wAny = z := ⟨_, rfl⟩
        obtain ⟨q3, hq3⟩ : ∃ z, H.wordH t [C.wPolicy, x, C.wTo] H.wAny = z := ⟨_, rfl⟩
        have HQ1 := Lib.hid hq1
        have HQ2 := Lib.hid hq2
        have HQ3 := Lib.hid hq3
        have h1L : q1.length ≤ 40 := by rw [← hq1]; exact HWL.out _ _ (by simp)
        have h2L : q2.length ≤ 40 := by rw [← hq2]; exact HWL.out _ _ (by decide)
        have h3L : q3.length ≤ 40 := by rw [← hq3]; exact HWL.out _ _ (by decide)
        obtain ⟨s1, hs1⟩ : ∃ z, q1 ++ [32] = z := ⟨_, rfl⟩
        obtain ⟨s2, hs2⟩ : ∃ z, s1 ++ q2 = z := ⟨_, rfl⟩
        obtain ⟨s3, hs3⟩ : ∃ z, s2 ++ [32] = z := ⟨_, rfl⟩
        obtain ⟨s4, hs4⟩ : ∃ z, s3 ++ q3 = z := ⟨_, rfl⟩
        have l1 : s1.length ≤ 41 := by rw [← hs1, List.length_append, List.length_singleton]; omega
        have l2 : s2.length ≤ 81 := by rw [← hs2, List.length_append]; omega
        have l3 : s3.length ≤ 82 := by rw [← hs3, List.length_append, List.length_singleton]; omega
        have a1 : ∀ w : World, Sem.run Tryz.prog (Op.stringOp .add (sB q1) (⟨#[32]⟩ : ByteArray)) w = .ok (.string (sB s1)) w := fun w => add14 q1 [32] s1 w (by omega) (by simp) hs1
        have a2 : ∀ w : World, Sem.run Tryz.prog (Op.stringOp .add (sB s1) (sB q2)) w = .ok (.string (sB s2)) w := fun w => add14 s1 q2 s2 w (by omega) (by omega) hs2
        have a3 : ∀ w : World, Sem.run Tryz.prog (Op.stringOp .add (sB s2) (⟨#[32]⟩ : ByteArray)) w = .ok (.string (sB s3)) w := fun w => add14 s2 [32] s3 w (by omega) (by simp) hs3
        have a4 : ∀ w : World, Sem.run Tryz.prog (Op.stringOp .add (sB s3) (sB q3)) w = .ok (.string (sB s4)) w := fun w => add14 s3 q3 s4 w (by omega) (by omega) hs4
        have HNX := Lib.hid (show Y ++ (PS.take (k + 1)).map (H.polOne t h) = (Y ++ (PS.take k).map (H.polOne t h)) ++ [⟨h, 5, x, s4⟩] by
         rw [List.take_succ_eq_append_getElem hkN, hx, List.map_append, ← List.append_assoc, List.map_cons, List.map_nil]
         unfold H.polOne
         rw [hq1, hq2, hq3, ← hs4, ← hs3, ← hs2, ← hs1]
         simp)
        have HLN := Lib.hid (show (Y ++ (PS.take k).map (H.polOne t h)).length ≤ 32300000 by
         rw [List.length_append, List.length_map, List.length_take]; have := HYF.out; have := HPN0.out; omega)
        have HXW := Lib.hid (HX2.out.trans (HB.out.mono HX2.out.size))
        clear hLn hx hq1 hq2 hq3 hs1 hs2 hs3 hs4
        go_wp2
        apply by_rest (wr := wr)
        ·intro HREST
         refine wp_region_held_drew (S := fun w' => w'.cell? ⟨bl, ol + k, none⟩ = some (.string (sB x))) (by kernel_rfl) c0 (fun hHeld => ?_)
         refine takeZ (i := 0) (v := ?vh0) (d := some 51) ?hyh0 ?resth0
         case hyh0 => intro w hSw; go_simp; try (with_reducible rfl)
         try simp only [pq13]
         refine takeZ (i := 1) (v := ?vh1) (d := some 52) ?hyh1 ?resth1
         case hyh1 => intro w hSw; go_simp; try (with_reducible rfl)
         try simp only [pq13]
         refine takeZ (i := 2) (v := ?vh2) (d := some 53) ?hyh2 ?resth2
         case hyh2 => intro w hSw; go_simp; try (with_reducible rfl)
         try simp only [pq13]
         refine takeZ (i := 3) (v := ?vh3) (d := some 54) ?hyh3 ?resth3
         case hyh3 => intro w hSw; go_simp; try (with_reducible rfl)
         try simp only [pq13]
         refine takeZ (i := 4) (v := ?vh4) (d := some 55) ?hyh4 ?resth4
         case hyh4 => intro w hSw; go_simp; try (with_reducible rfl)
         try simp only [pq13]
         refine takeZ (i := 8) (v := ?vh8) (d := some 59) ?hyh8 ?resth8
         case hyh8 => intro w hSw; go_simp; try (with_reducible rfl)
         try simp only [pq13]
         refine takeZ (i := 9) (v := ?vh9) (d := some 60) ?hyh9 ?resth9
         case hyh9 => intro w hSw; go_simp; try (with_reducible rfl)
         try simp only [pq13]
         refine takeZ (i := 10) (v := ?vh10) (d := some 61) ?hyh10 ?resth10
         case hyh10 => intro w hSw; go_simp; try (with_reducible rfl)
         try simp only [pq13]
         refine takeZ (i := 11) (v := ?vh11) (d := some 62) ?hyh11 ?resth11
         case hyh11 => intro w hSw; go_simp; try (with_reducible rfl)
         try simp only [pq13]
         refine takeZ (i := 12) (v := ?vh12) (d := some 63) ?hyh12 ?resth12
         case hyh12 => intro w hSw; go_simp; try (with_reducible rfl)
         try simp only [pq13]
         refine takeZ (i := 17) (v := ?vh17) (d := some 68) ?hyh17 ?resth17
         case hyh17 => intro w hSw; go_simp; try (with_reducible rfl)
         try simp only [pq13]
         refine takeZ (i := 18) (v := ?vh18) (d := some 69) ?hyh18 ?resth18
         case hyh18 => intro w hSw; go_simp; try (with_reducible rfl)
         try simp only [pq13]
         refine takeZ (i := 19) (v := ?vh19) (d := some 70) ?hyh19 ?resth19
         case hyh19 => intro w hSw; go_simp; try (with_reducible rfl)
         try simp only [pq13]
         refine takeZ (i := 20) (v := ?vh20) (d := some 71) ?hyh20 ?resth20
         case hyh20 => intro w hSw; go_simp; try (with_reducible rfl)
         try simp only [pq13]
         refine takeZ (i := 21) (v := ?vh21) (d := some 72) ?hyh21 ?resth21
         case hyh21 => intro w hSw; go_simp; try (with_reducible rfl)
         try simp only [pq13]
         refine anyH_abs (F := fun z => Below wr.heap.size wr z ∧ z.cell? ⟨bl, ol + k, none⟩ = some (.string (sB x))) ⟨(Below.refl _ _).drew, c0⟩ (fun z0 hz => ?_)
         obtain ⟨hx, c0⟩ := hz
         have HX0 := Lib.hid hx
         clear hx
         refine wpAnyH_ready (rs := [5, 13, 22]) (by kernel_rfl) (by simp) ?_
         refine AllReadyH.cons rfl (fun K hK => ?_) (AllReadyH.cons rfl (fun K hK => ?_) (AllReadyH.cons rfl (fun K hK => ?_) AllReadyH.nil))
         ·obtain ⟨g1, hg1⟩ : ∃ g, z0.heap.size = g := ⟨_, rfl⟩
          go_simp
          try rw [hg1]
          have hu := up z0 (.cells #[.string ⟨#[112, 111, 108, 105, 99, 121]⟩, .string (sB x), .string ⟨#[97, 99, 116, 105, 111, 110]⟩] 9)
          have cu := (hu.cell (p := ⟨bl, ol + k, none⟩) (Nat.lt_of_lt_of_le hwl HX0.out.size)).trans c0
          refine hK.out _ _ (cu) (fun hHeld => ?_)
          clear hK K
          try simp only [pq13]
          refine anyH_abs (F := fun z => Below wr.heap.size wr z ∧ z.cell? ⟨bl, ol + k, none⟩ = some (.string (sB x)) ∧ Seen eS z (some ⟨g1, 0, none⟩) [C.wPolicy, x, C.wAction]) ⟨bthen HX0.out hu, cu, lit_at14 z0 [C.wPolicy, x, C.wAction] _ g1 hg1 rfl (by simp)⟩ (fun z1 hz => ?_)
          obtain ⟨hx, c1, hl1⟩ := hz
          have HX1 := Lib.hid hx
          have HL1 := Lib.hid hl1
          clear hx hu cu hg1 hl1
          refine wpAnyH_ready (rs := [6, 13, 22]) (by kernel_rfl) (by simp) ?_
          refine AllReadyH.cons rfl (fun K hK => ?_) (AllReadyH.cons rfl (fun K hK => ?_) (AllReadyH.cons rfl (fun K hK => ?_) AllReadyH.nil))
          ·go_simp
           go_at_call 34
           refine (wordR A c n t _ 3 3 [C.wPolicy, x, C.wAction] [] q1 _ HN.out rfl (HA.out.below (bthen HXW.out HX1.out)) HL1.out hl30 (by omega) HR.out HQ1.out).mono ?_
           rintro e z2 ⟨rfl, hx⟩
           have c2 := (hx.cell (p := ⟨bl, ol + k, none⟩) (Nat.lt_of_lt_of_le hwl HX1.out.size)).trans c1
           have HX2 := Lib.hid (bthen HX1.out hx)
           clear hx
           refine hK.out _ _ (c2) (fun hHeld => ?_)
           clear hK K
           try simp only [pq13]
           refine takeZ (i := 7) (v := ?vn2_7) (d := some 58) ?hyn2_7 ?restn2_7
           case hyn2_7 => intro w hSw; go_simp; try (with_reducible rfl); try exact a1 _
           try simp only [pq13]
           refine wpAnyH_ready (rs := [13, 22]) (by kernel_rfl) (by simp) ?_
           refine AllReadyH.cons rfl (fun K hK => ?_) (AllReadyH.cons rfl (fun K hK => ?_) AllReadyH.nil)
           ·obtain ⟨g2, hg2⟩ : ∃ g, z2.heap.size = g := ⟨_, rfl⟩
            go_simp
            try rw [hg2]
            have hu := up z2 (.cells #[.string ⟨#[112, 111, 108, 105, 99, 121]⟩, .string (sB x), .string ⟨#[102, 114, 111, 109]⟩] 9)
            have cu := (hu.cell (p := ⟨bl, ol + k, none⟩) (Nat.lt_of_lt_of_le hwl HX2.out.size)).trans c2
            refine hK.out _ _ (cu) (fun hHeld => ?_)
            clear hK K
            try simp only [pq13]
            refine anyH_abs (F := fun z => Below wr.heap.size wr z ∧ z.cell? ⟨bl, ol + k, none⟩ = some (.string (sB x)) ∧ Seen eS z (some ⟨g2, 0, none⟩) [C.wPolicy, x, C.wFrom]) ⟨bthen HX2.out hu, cu, lit_at14 z2 [C.wPolicy, x, C.wFrom] _ g2 hg2 rfl (by simp)⟩ (fun z3 hz => ?_)
            obtain ⟨hx, c3, hl2⟩ := hz
            have HX3 := Lib.hid hx
            have HL2 := Lib.hid hl2
            clear hx hu cu hg2 hl2
            refine wpAnyH_ready (rs := [14, 22]) (by kernel_rfl) (by simp) ?_
            refine AllReadyH.cons rfl (fun K hK => ?_) (AllReadyH.cons rfl (fun K hK => ?_) AllReadyH.nil)
            ·go_simp
             go_at_call 34
             refine (wordR A c n t _ 3 3 [C.wPolicy, x, C.wFrom] H.wAny q2 _ HN.out rfl (HA.out.below (bthen HXW.out HX3.out)) HL2.out hl30 (by omega) HR.out HQ2.out).mono ?_
             rintro e z4 ⟨rfl, hx⟩
             have c4 := (hx.cell (p := ⟨bl, ol + k, none⟩) (Nat.lt_of_lt_of_le hwl HX3.out.size)).trans c3
             have HX4 := Lib.hid (bthen HX3.out hx)
             clear hx
             refine hK.out _ _ (c4) (fun hHeld => ?_)
             clear hK K
             try simp only [pq13]
             refine takeZ (i := 15) (v := ?vn4_15) (d := some 66) ?hyn4_15 ?restn4_15
             case hyn4_15 => intro w hSw; go_simp; try (with_reducible rfl); try exact a2 _
             try simp only [pq13]
             refine takeZ (i := 16) (v := ?vn4_16) (d := some 67) ?hyn4_16 ?restn4_16
             case hyn4_16 => intro w hSw; go_simp; try (with_reducible rfl); try exact a3 _
             try simp only [pq13]
             refine wpAnyH_ready (rs := [22]) (by kernel_rfl) (by simp) ?_
             refine AllReadyH.cons rfl (fun K hK => ?_) AllReadyH.nil
             obtain ⟨g3, hg3⟩ : ∃ g, z4.heap.size = g := ⟨_, rfl⟩
             go_simp
             try rw [hg3]
             have hu := up z4 (.cells #[.string ⟨#[112, 111, 108, 105, 99, 121]⟩, .string (sB x), .string ⟨#[116, 111]⟩] 9)
             have cu := (hu.cell (p := ⟨bl, ol + k, none⟩) (Nat.lt_of_lt_of_le hwl HX4.out.size)).trans c4
             refine hK.out _ _ (cu) (fun hHeld => ?_)
             clear hK K
             try simp only [pq13]
             refine anyH_abs (F := fun z => Below wr.heap.size wr z ∧ z.cell? ⟨bl, ol + k, none⟩ = some (.string (sB x)) ∧ Seen eS z (some ⟨g3, 0, none⟩) [C.wPolicy, x, C.wTo]) ⟨bthen HX4.out hu, cu, lit_at14 z4 [C.wPolicy, x, C.wTo] _ g3 hg3 rfl (by simp)⟩ (fun z5 hz => ?_)
             obtain ⟨hx, c5, hl3⟩ := hz
             have HX5 := Lib.hid hx
             have HL3 := Lib.hid hl3
             clear hx hu cu hg3 hl3
             refine wpAnyH_ready (rs := [23]) (by kernel_rfl) (by simp) ?_
             refine AllReadyH.cons rfl (fun K hK => ?_) AllReadyH.nil
             go_simp
             go_at_call 34
             refine (wordR A c n t _ 3 3 [C.wPolicy, x, C.wTo] H.wAny q3 _ HN.out rfl (HA.out.below (bthen HXW.out HX5.out)) HL3.out hl30 (by omega) HR.out HQ3.out).mono ?_
             rintro e z6 ⟨rfl, hx⟩
             have c6 := (hx.cell (p := ⟨bl, ol + k, none⟩) (Nat.lt_of_lt_of_le hwl HX5.out.size)).trans c5
             have HX6 := Lib.hid (bthen HX5.out hx)
             clear hx
             refine hK.out _ _ (c6) (fun hHeld => ?_)
             clear hK K
             try simp only [pq13]
             refine takeZ (i := 24) (v := ?vn6_24) (d := some 75) ?hyn6_24 ?restn6_24
             case hyn6_24 => intro w hSw; go_simp; try (with_reducible rfl); try exact a4 _
             try simp only [pq13]
             refine takeZ (i := 25) (v := ?vn6_25) (d := some 10) ?hyn6_25 ?restn6_25
             case hyn6_25 => intro w hSw; go_simp; try (with_reducible rfl)
             try simp only [pq13]
             refine wpAnyH_done (by kernel_rfl) ?_ _
             exact HREST z6 g1 g2 g3 HX6.out
            ·obtain ⟨g3, hg3⟩ : ∃ g, z3.heap.size = g := ⟨_, rfl⟩
             go_simp
             try rw [hg3]
             have hu := up z3 (.cells #[.string ⟨#[112, 111, 108, 105, 99, 121]⟩, .string (sB x), .string ⟨#[116, 111]⟩] 9)
             have cu := (hu.cell (p := ⟨bl, ol + k, none⟩) (Nat.lt_of_lt_of_le hwl HX3.out.size)).trans c3
             refine hK.out _ _ (cu) (fun hHeld => ?_)
             clear hK K
             try simp only [pq13]
             refine anyH_abs (F := fun z => Below wr.heap.size wr z ∧ z.cell? ⟨bl, ol + k, none⟩ = some (.string (sB x)) ∧ Seen eS z (some ⟨g2, 0, none⟩) [C.wPolicy, x, C.wFrom] ∧ Seen eS z (some ⟨g3, 0, none⟩) [C.wPolicy, x, C.wTo]) ⟨bthen HX3.out hu, cu, HL2.out.below hu, lit_at14 z3 [C.wPolicy, x, C.wTo] _ g3 hg3 rfl (by simp)⟩ (fun z4 hz => ?_)
             obtain ⟨hx, c4, hl2, hl3⟩ := hz
             have HX4 := Lib.hid hx
             have HL2 := Lib.hid hl2
             have HL3 := Lib.hid hl3
             clear hx hu cu hg3 hl2 hl3
             refine wpAnyH_ready (rs := [14]) (by kernel_rfl) (by simp) ?_
             refine AllReadyH.cons rfl (fun K hK => ?_) AllReadyH.nil
             go_simp
             go_at_call 34
             refine (wordR A c n t _ 3 3 [C.wPolicy, x, C.wFrom] H.wAny q2 _ HN.out rfl (HA.out.below (bthen HXW.out HX4.out)) HL2.out hl30 (by omega) HR.out HQ2.out).mono ?_
             rintro e z5 ⟨rfl, hx⟩
             have c5 := (hx.cell (p := ⟨bl, ol + k, none⟩) (Nat.lt_of_lt_of_le hwl HX4.out.size)).trans c4
             have HX5 := Lib.hid (bthen HX4.out hx)
             replace HL3 := Lib.hid (HL3.out.below hx)
             clear hx
             refine hK.out _ _ (c5) (fun hHeld => ?_)
             clear hK K
             try simp only [pq13]
             refine takeZ (i := 15) (v := ?vn9_15) (d := some 66) ?hyn9_15 ?restn9_15
             case hyn9_15 => intro w hSw; go_simp; try (with_reducible rfl); try exact a2 _
             try simp only [pq13]
             refine takeZ (i := 16) (v := ?vn9_16) (d := some 67) ?hyn9_16 ?restn9_16
             case hyn9_16 => intro w hSw; go_simp; try (with_reducible rfl); try exact a3 _
             try simp only [pq13]
             refine wpAnyH_ready (rs := [23]) (by kernel_rfl) (by simp) ?_
             refine AllReadyH.cons rfl (fun K hK => ?_) AllReadyH.nil
             go_simp
             go_at_call 34
             refine (wordR A c n t _ 3 3 [C.wPolicy, x, C.wTo] H.wAny q3 _ HN.out rfl (HA.out.below (bthen HXW.out HX5.out)) HL3.out hl30 (by omega) HR.out HQ3.out).mono ?_
             rintro e z6 ⟨rfl, hx⟩
             have c6 := (hx.cell (p := ⟨bl, ol + k, none⟩) (Nat.lt_of_lt_of_le hwl HX5.out.size)).trans c5
             have HX6 := Lib.hid (bthen HX5.out hx)
             clear hx
             refine hK.out _ _ (c6) (fun hHeld => ?_)
             clear hK K
             try simp only [pq13]
             refine takeZ (i := 24) (v := ?vn10_24) (d := some 75) ?hyn10_24 ?restn10_24
             case hyn10_24 => intro w hSw; go_simp; try (with_reducible rfl); try exact a4 _
             try simp only [pq13]
             refine takeZ (i := 25) (v := ?vn10_25) (d := some 10) ?hyn10_25 ?restn10_25
             case hyn10_25 => intro w hSw; go_simp; try (with_reducible rfl)
             try simp only [pq13]
             refine wpAnyH_done (by kernel_rfl) ?_ _
             exact HREST z6 g1 g2 g3 HX6.out
           ·obtain ⟨g3, hg3⟩ : ∃ g, z2.heap.size = g := ⟨_, rfl⟩
            go_simp
            try rw [hg3]
            have hu := up z2 (.cells #[.string ⟨#[112, 111, 108, 105, 99, 121]⟩, .string (sB x), .string ⟨#[116, 111]⟩] 9)
            have cu := (hu.cell (p := ⟨bl, ol + k, none⟩) (Nat.lt_of_lt_of_le hwl HX2.out.size)).trans c2
            refine hK.out _ _ (cu) (fun hHeld => ?_)
            clear hK K
            try simp only [pq13]
            refine anyH_abs (F := fun z => Below wr.heap.size wr z ∧ z.cell? ⟨bl, ol + k, none⟩ = some (.string (sB x)) ∧ Seen eS z (some ⟨g3, 0, none⟩) [C.wPolicy, x, C.wTo]) ⟨bthen HX2.out hu, cu, lit_at14 z2 [C.wPolicy, x, C.wTo] _ g3 hg3 rfl (by simp)⟩ (fun z3 hz => ?_)
            obtain ⟨hx, c3, hl3⟩ := hz
            have HX3 := Lib.hid hx
            have HL3 := Lib.hid hl3
            clear hx hu cu hg3 hl3
            refine wpAnyH_ready (rs := [13]) (by kernel_rfl) (by simp) ?_
            refine AllReadyH.cons rfl (fun K hK => ?_) AllReadyH.nil
            obtain ⟨g2, hg2⟩ : ∃ g, z3.heap.size = g := ⟨_, rfl⟩
            go_simp
            try rw [hg2]
            have hu := up z3 (.cells #[.string ⟨#[112, 111, 108, 105, 99, 121]⟩, .string (sB x), .string ⟨#[102, 114, 111, 109]⟩] 9)
            have cu := (hu.cell (p := ⟨bl, ol + k, none⟩) (Nat.lt_of_lt_of_le hwl HX3.out.size)).trans c3
            refine hK.out _ _ (cu) (fun hHeld => ?_)
            clear hK K
            try simp only [pq13]
            refine anyH_abs (F := fun z => Below wr.heap.size wr z ∧ z.cell? ⟨bl, ol + k, none⟩ = some (.string (sB x)) ∧ Seen eS z (some ⟨g2, 0, none⟩) [C.wPolicy, x, C.wFrom] ∧ Seen eS z (some ⟨g3, 0, none⟩) [C.wPolicy, x, C.wTo]) ⟨bthen HX3.out hu, cu, lit_at14 z3 [C.wPolicy, x, C.wFrom] _ g2 hg2 rfl (by simp), HL3.out.below hu⟩ (fun z4 hz => ?_)
            obtain ⟨hx, c4, hl2, hl3⟩ := hz
            have HX4 := Lib.hid hx
            have HL2 := Lib.hid hl2
            have HL3 := Lib.hid hl3
            clear hx hu cu hg2 hl2 hl3
            refine wpAnyH_ready (rs := [14]) (by kernel_rfl) (by simp) ?_
            refine AllReadyH.cons rfl (fun K hK => ?_) AllReadyH.nil
            go_simp
            go_at_call 34
            refine (wordR A c n t _ 3 3 [C.wPolicy, x, C.wFrom] H.wAny q2 _ HN.out rfl (HA.out.below (bthen HXW.out HX4.out)) HL2.out hl30 (by omega) HR.out HQ2.out).mono ?_
            rintro e z5 ⟨rfl, hx⟩
            have c5 := (hx.cell (p := ⟨bl, ol + k, none⟩) (Nat.lt_of_lt_of_le hwl HX4.out.size)).trans c4
            have HX5 := Lib.hid (bthen HX4.out hx)
            replace HL3 := Lib.hid (HL3.out.below hx)
            clear hx
            refine hK.out _ _ (c5) (fun hHeld => ?_)
            clear hK K
            try simp only [pq13]
            refine takeZ (i := 15) (v := ?vn14_15) (d := some 66) ?hyn14_15 ?restn14_15
            case hyn14_15 => intro w hSw; go_simp; try (with_reducible rfl); try exact a2 _
            try simp only [pq13]
            refine takeZ (i := 16) (v := ?vn14_16) (d := some 67) ?hyn14_16 ?restn14_16
            case hyn14_16 => intro w hSw; go_simp; try (with_reducible rfl); try exact a3 _
            try simp only [pq13]
            refine wpAnyH_ready (rs := [23]) (by kernel_rfl) (by simp) ?_
            refine AllReadyH.cons rfl (fun K hK => ?_) AllReadyH.nil
            go_simp
            go_at_call 34
            refine (wordR A c n t _ 3 3 [C.wPolicy, x, C.wTo] H.wAny q3 _ HN.out rfl (HA.out.below (bthen HXW.out HX5.out)) HL3.out hl30 (by omega) HR.out HQ3.out).mono ?_
            rintro e z6 ⟨rfl, hx⟩
            have c6 := (hx.cell (p := ⟨bl, ol + k, none⟩) (Nat.lt_of_lt_of_le hwl HX5.out.size)).trans c5
            have HX6 := Lib.hid (bthen HX5.out hx)
            clear hx
            refine hK.out _ _ (c6) (fun hHeld => ?_)
            clear hK K
            try simp only [pq13]
            refine takeZ (i := 24) (v := ?vn15_24) (d := some 75) ?hyn15_24 ?restn15_24
            case hyn15_24 => intro w hSw; go_simp; try (with_reducible rfl); try exact a4 _
            try simp only [pq13]
            refine takeZ (i := 25) (v := ?vn15_25) (d := some 10) ?hyn15_25 ?restn15_25
            case hyn15_25 => intro w hSw; go_simp; try (with_reducible rfl)
            try simp only [pq13]
            refine wpAnyH_done (by kernel_rfl) ?_ _
            exact HREST z6 g1 g2 g3 HX6.out
          ·obtain ⟨g2, hg2⟩ : ∃ g, z1.heap.size = g := ⟨_, rfl⟩
           go_simp
           try rw [hg2]
           have hu := up z1 (.cells #[.string ⟨#[112, 111, 108, 105, 99, 121]⟩, .string (sB x), .string ⟨#[102, 114, 111, 109]⟩] 9)
           have cu := (hu.cell (p := ⟨bl, ol + k, none⟩) (Nat.lt_of_lt_of_le hwl HX1.out.size)).trans c1
           refine hK.out _ _ (cu) (fun hHeld => ?_)
           clear hK K
           try simp only [pq13]
           refine anyH_abs (F := fun z => Below wr.heap.size wr z ∧ z.cell? ⟨bl, ol + k, none⟩ = some (.string (sB x)) ∧ Seen eS z (some ⟨g1, 0, none⟩) [C.wPolicy, x, C.wAction] ∧ Seen eS z (some ⟨g2, 0, none⟩) [C.wPolicy, x, C.wFrom]) ⟨bthen HX1.out hu, cu, HL1.out.below hu, lit_at14 z1 [C.wPolicy, x, C.wFrom] _ g2 hg2 rfl (by simp)⟩ (fun z2 hz => ?_)
           obtain ⟨hx, c2, hl1, hl2⟩ := hz
           have HX2 := Lib.hid hx
           have HL1 := Lib.hid hl1
           have HL2 := Lib.hid hl2
           clear hx hu cu hg2 hl1 hl2
           refine wpAnyH_ready (rs := [6, 22]) (by kernel_rfl) (by simp) ?_
           refine AllReadyH.cons rfl (fun K hK => ?_) (AllReadyH.cons rfl (fun K hK => ?_) AllReadyH.nil)
           ·go_simp
            go_at_call 34
            refine (wordR A c n t _ 3 3 [C.wPolicy, x, C.wAction] [] q1 _ HN.out rfl (HA.out.below (bthen HXW.out HX2.out)) HL1.out hl30 (by omega) HR.out HQ1.out).mono ?_
            rintro e z3 ⟨rfl, hx⟩
            have c3 := (hx.cell (p := ⟨bl, ol + k, none⟩) (Nat.lt_of_lt_of_le hwl HX2.out.size)).trans c2
            have HX3 := Lib.hid (bthen HX2.out hx)
            replace HL2 := Lib.hid (HL2.out.below hx)
            clear hx
            refine hK.out _ _ (c3) (fun hHeld => ?_)
            clear hK K
            try simp only [pq13]
            refine takeZ (i := 7) (v := ?vn18_7) (d := some 58) ?hyn18_7 ?restn18_7
            case hyn18_7 => intro w hSw; go_simp; try (with_reducible rfl); try exact a1 _
            try simp only [pq13]
            refine wpAnyH_ready (rs := [14, 22]) (by kernel_rfl) (by simp) ?_
            refine AllReadyH.cons rfl (fun K hK => ?_) (AllReadyH.cons rfl (fun K hK => ?_) AllReadyH.nil)
            ·go_simp
             go_at_call 34
             refine (wordR A c n t _ 3 3 [C.wPolicy, x, C.wFrom] H.wAny q2 _ HN.out rfl (HA.out.below (bthen HXW.out HX3.out)) HL2.out hl30 (by omega) HR.out HQ2.out).mono ?_
             rintro e z4 ⟨rfl, hx⟩
             have c4 := (hx.cell (p := ⟨bl, ol + k, none⟩) (Nat.lt_of_lt_of_le hwl HX3.out.size)).trans c3
             have HX4 := Lib.hid (bthen HX3.out hx)
             clear hx
             refine hK.out _ _ (c4) (fun hHeld => ?_)
             clear hK K
             try simp only [pq13]
             refine takeZ (i := 15) (v := ?vn19_15) (d := some 66) ?hyn19_15 ?restn19_15
             case hyn19_15 => intro w hSw; go_simp; try (with_reducible rfl); try exact a2 _
             try simp only [pq13]
             refine takeZ (i := 16) (v := ?vn19_16) (d := some 67) ?hyn19_16 ?restn19_16
             case hyn19_16 => intro w hSw; go_simp; try (with_reducible rfl); try exact a3 _
             try simp only [pq13]
             refine wpAnyH_ready (rs := [22]) (by kernel_rfl) (by simp) ?_
             refine AllReadyH.cons rfl (fun K hK => ?_) AllReadyH.nil
             obtain ⟨g3, hg3⟩ : ∃ g, z4.heap.size = g := ⟨_, rfl⟩
             go_simp
             try rw [hg3]
             have hu := up z4 (.cells #[.string ⟨#[112, 111, 108, 105, 99, 121]⟩, .string (sB x), .string ⟨#[116, 111]⟩] 9)
             have cu := (hu.cell (p := ⟨bl, ol + k, none⟩) (Nat.lt_of_lt_of_le hwl HX4.out.size)).trans c4
             refine hK.out _ _ (cu) (fun hHeld => ?_)
             clear hK K
             try simp only [pq13]
             refine anyH_abs (F := fun z => Below wr.heap.size wr z ∧ z.cell? ⟨bl, ol + k, none⟩ = some (.string (sB x)) ∧ Seen eS z (some ⟨g3, 0, none⟩) [C.wPolicy, x, C.wTo]) ⟨bthen HX4.out hu, cu, lit_at14 z4 [C.wPolicy, x, C.wTo] _ g3 hg3 rfl (by simp)⟩ (fun z5 hz => ?_)
             obtain ⟨hx, c5, hl3⟩ := hz
             have HX5 := Lib.hid hx
             have HL3 := Lib.hid hl3
             clear hx hu cu hg3 hl3
             refine wpAnyH_ready (rs := [23]) (by kernel_rfl) (by simp) ?_
             refine AllReadyH.cons rfl (fun K hK => ?_) AllReadyH.nil
             go_simp
             go_at_call 34
             refine (wordR A c n t _ 3 3 [C.wPolicy, x, C.wTo] H.wAny q3 _ HN.out rfl (HA.out.below (bthen HXW.out HX5.out)) HL3.out hl30 (by omega) HR.out HQ3.out).mono ?_
             rintro e z6 ⟨rfl, hx⟩
             have c6 := (hx.cell (p := ⟨bl, ol + k, none⟩) (Nat.lt_of_lt_of_le hwl HX5.out.size)).trans c5
             have HX6 := Lib.hid (bthen HX5.out hx)
             clear hx
             refine hK.out _ _ (c6) (fun hHeld => ?_)
             clear hK K
             try simp only [pq13]
             refine takeZ (i := 24) (v := ?vn21_24) (d := some 75) ?hyn21_24 ?restn21_24
             case hyn21_24 => intro w hSw; go_simp; try (with_reducible rfl); try exact a4 _
             try simp only [pq13]
             refine takeZ (i := 25) (v := ?vn21_25) (d := some 10) ?hyn21_25 ?restn21_25
             case hyn21_25 => intro w hSw; go_simp; try (with_reducible rfl)
             try simp only [pq13]
             refine wpAnyH_done (by kernel_rfl) ?_ _
             exact HREST z6 g1 g2 g3 HX6.out
            ·obtain ⟨g3, hg3⟩ : ∃ g, z3.heap.size = g := ⟨_, rfl⟩
             go_simp
             try rw [hg3]
             have hu := up z3 (.cells #[.string ⟨#[112, 111, 108, 105, 99, 121]⟩, .string (sB x), .string ⟨#[116, 111]⟩] 9)
             have cu := (hu.cell (p := ⟨bl, ol + k, none⟩) (Nat.lt_of_lt_of_le hwl HX3.out.size)).trans c3
             refine hK.out _ _ (cu) (fun hHeld => ?_)
             clear hK K
             try simp only [pq13]
             refine anyH_abs (F := fun z => Below wr.heap.size wr z ∧ z.cell? ⟨bl, ol + k, none⟩ = some (.string (sB x)) ∧ Seen eS z (some ⟨g2, 0, none⟩) [C.wPolicy, x, C.wFrom] ∧ Seen eS z (some ⟨g3, 0, none⟩) [C.wPolicy, x, C.wTo]) ⟨bthen HX3.out hu, cu, HL2.out.below hu, lit_at14 z3 [C.wPolicy, x, C.wTo] _ g3 hg3 rfl (by simp)⟩ (fun z4 hz => ?_)
             obtain ⟨hx, c4, hl2, hl3⟩ := hz
             have HX4 := Lib.hid hx
             have HL2 := Lib.hid hl2
             have HL3 := Lib.hid hl3
             clear hx hu cu hg3 hl2 hl3
             refine wpAnyH_ready (rs := [14]) (by kernel_rfl) (by simp) ?_
             refine AllReadyH.cons rfl (fun K hK => ?_) AllReadyH.nil
             go_simp
             go_at_call 34
             refine (wordR A c n t _ 3 3 [C.wPolicy, x, C.wFrom] H.wAny q2 _ HN.out rfl (HA.out.below (bthen HXW.out HX4.out)) HL2.out hl30 (by omega) HR.out HQ2.out).mono ?_
             rintro e z5 ⟨rfl, hx⟩
             have c5 := (hx.cell (p := ⟨bl, ol + k, none⟩) (Nat.lt_of_lt_of_le hwl HX4.out.size)).trans c4
             have HX5 := Lib.hid (bthen HX4.out hx)
             replace HL3 := Lib.hid (HL3.out.below hx)
             clear hx
             refine hK.out _ _ (c5) (fun hHeld => ?_)
             clear hK K
             try simp only [pq13]
             refine takeZ (i := 15) (v := ?vn24_15) (d := some 66) ?hyn24_15 ?restn24_15
             case hyn24_15 => intro w hSw; go_simp; try (with_reducible rfl); try exact a2 _
             try simp only [pq13]
             refine takeZ (i := 16) (v := ?vn24_16) (d := some 67) ?hyn24_16 ?restn24_16
             case hyn24_16 => intro w hSw; go_simp; try (with_reducible rfl); try exact a3 _
             try simp only [pq13]
             refine wpAnyH_ready (rs := [23]) (by kernel_rfl) (by simp) ?_
             refine AllReadyH.cons rfl (fun K hK => ?_) AllReadyH.nil
             go_simp
             go_at_call 34
             refine (wordR A c n t _ 3 3 [C.wPolicy, x, C.wTo] H.wAny q3 _ HN.out rfl (HA.out.below (bthen HXW.out HX5.out)) HL3.out hl30 (by omega) HR.out HQ3.out).mono ?_
             rintro e z6 ⟨rfl, hx⟩
             have c6 := (hx.cell (p := ⟨bl, ol + k, none⟩) (Nat.lt_of_lt_of_le hwl HX5.out.size)).trans c5
             have HX6 := Lib.hid (bthen HX5.out hx)
             clear hx
             refine hK.out _ _ (c6) (fun hHeld => ?_)
             clear hK K
             try simp only [pq13]
             refine takeZ (i := 24) (v := ?vn25_24) (d := some 75) ?hyn25_24 ?restn25_24
             case hyn25_24 => intro w hSw; go_simp; try (with_reducible rfl); try exact a4 _
             try simp only [pq13]
             refine takeZ (i := 25) (v := ?vn25_25) (d := some 10) ?hyn25_25 ?restn25_25
             case hyn25_25 => intro w hSw; go_simp; try (with_reducible rfl)
             try simp only [pq13]
             refine wpAnyH_done (by kernel_rfl) ?_ _
             exact HREST z6 g1 g2 g3 HX6.out
           ·obtain ⟨g3, hg3⟩ : ∃ g, z2.heap.size = g := ⟨_, rfl⟩
            go_simp
            try rw [hg3]
            have hu := up z2 (.cells #[.string ⟨#[112, 111, 108, 105, 99, 121]⟩, .string (sB x), .string ⟨#[116, 111]⟩] 9)
            have cu := (hu.cell (p := ⟨bl, ol + k, none⟩) (Nat.lt_of_lt_of_le hwl HX2.out.size)).trans c2
            refine hK.out _ _ (cu) (fun hHeld => ?_)
            clear hK K
            try simp only [pq13]
            refine anyH_abs (F := fun z => Below wr.heap.size wr z ∧ z.cell? ⟨bl, ol + k, none⟩ = some (.string (sB x)) ∧ Seen eS z (some ⟨g1, 0, none⟩) [C.wPolicy, x, C.wAction] ∧ Seen eS z (some ⟨g2, 0, none⟩) [C.wPolicy, x, C.wFrom] ∧ Seen eS z (some ⟨g3, 0, none⟩) [C.wPolicy, x, C.wTo]) ⟨bthen HX2.out hu, cu, HL1.out.below hu, HL2.out.below hu, lit_at14 z2 [C.wPolicy, x, C.wTo] _ g3 hg3 rfl (by simp)⟩ (fun z3 hz => ?_)
            obtain ⟨hx, c3, hl1, hl2, hl3⟩ := hz
            have HX3 := Lib.hid hx
            have HL1 := Lib.hid hl1
            have HL2 := Lib.hid hl2
            have HL3 := Lib.hid hl3
            clear hx hu cu hg3 hl1 hl2 hl3
            refine wpAnyH_ready (rs := [6]) (by kernel_rfl) (by simp) ?_
            refine AllReadyH.cons rfl (fun K hK => ?_) AllReadyH.nil
            go_simp
            go_at_call 34
            refine (wordR A c n t _ 3 3 [C.wPolicy, x, C.wAction] [] q1 _ HN.out rfl (HA.out.below (bthen HXW.out HX3.out)) HL1.out hl30 (by omega) HR.out HQ1.out).mono ?_
            rintro e z4 ⟨rfl, hx⟩
            have c4 := (hx.cell (p := ⟨bl, ol + k, none⟩) (Nat.lt_of_lt_of_le hwl HX3.out.size)).trans c3
            have HX4 := Lib.hid (bthen HX3.out hx)
            replace HL2 := Lib.hid (HL2.out.below hx)
            replace HL3 := Lib.hid (HL3.out.below hx)
            clear hx
            refine hK.out _ _ (c4) (fun hHeld => ?_)
            clear hK K
            try simp only [pq13]
            refine takeZ (i := 7) (v := ?vn28_7) (d := some 58) ?hyn28_7 ?restn28_7
            case hyn28_7 => intro w hSw; go_simp; try (with_reducible rfl); try exact a1 _
            try simp only [pq13]
            refine wpAnyH_ready (rs := [14]) (by kernel_rfl) (by simp) ?_
            refine AllReadyH.cons rfl (fun K hK => ?_) AllReadyH.nil
            go_simp
            go_at_call 34
            refine (wordR A c n t _ 3 3 [C.wPolicy, x, C.wFrom] H.wAny q2 _ HN.out rfl (HA.out.below (bthen HXW.out HX4.out)) HL2.out hl30 (by omega) HR.out HQ2.out).mono ?_
            rintro e z5 ⟨rfl, hx⟩
            have c5 := (hx.cell (p := ⟨bl, ol + k, none⟩) (Nat.lt_of_lt_of_le hwl HX4.out.size)).trans c4
            have HX5 := Lib.hid (bthen HX4.out hx)
            replace HL3 := Lib.hid (HL3.out.below hx)
            clear hx
            refine hK.out _ _ (c5) (fun hHeld => ?_)
            clear hK K
            try simp only [pq13]
            refine takeZ (i := 15) (v := ?vn29_15) (d := some 66) ?hyn29_15 ?restn29_15
            case hyn29_15 => intro w hSw; go_simp; try (with_reducible rfl); try exact a2 _
            try simp only [pq13]
            refine takeZ (i := 16) (v := ?vn29_16) (d := some 67) ?hyn29_16 ?restn29_16
            case hyn29_16 => intro w hSw; go_simp; try (with_reducible rfl); try exact a3 _
            try simp only [pq13]
            refine wpAnyH_ready (rs := [23]) (by kernel_rfl) (by simp) ?_
            refine AllReadyH.cons rfl (fun K hK => ?_) AllReadyH.nil
            go_simp
            go_at_call 34
            refine (wordR A c n t _ 3 3 [C.wPolicy, x, C.wTo] H.wAny q3 _ HN.out rfl (HA.out.below (bthen HXW.out HX5.out)) HL3.out hl30 (by omega) HR.out HQ3.out).mono ?_
            rintro e z6 ⟨rfl, hx⟩
            have c6 := (hx.cell (p := ⟨bl, ol + k, none⟩) (Nat.lt_of_lt_of_le hwl HX5.out.size)).trans c5
            have HX6 := Lib.hid (bthen HX5.out hx)
            clear hx
            refine hK.out _ _ (c6) (fun hHeld => ?_)
            clear hK K
            try simp only [pq13]
            refine takeZ (i := 24) (v := ?vn30_24) (d := some 75) ?hyn30_24 ?restn30_24
            case hyn30_24 => intro w hSw; go_simp; try (with_reducible rfl); try exact a4 _
            try simp only [pq13]
            refine takeZ (i := 25) (v := ?vn30_25) (d := some 10) ?hyn30_25 ?restn30_25
            case hyn30_25 => intro w hSw; go_simp; try (with_reducible rfl)
            try simp only [pq13]
            refine wpAnyH_done (by kernel_rfl) ?_ _
            exact HREST z6 g1 g2 g3 HX6.out
          ·obtain ⟨g3, hg3⟩ : ∃ g, z1.heap.size = g := ⟨_, rfl⟩
           go_simp
           try rw [hg3]
           have hu := up z1 (.cells #[.string ⟨#[112, 111, 108, 105, 99, 121]⟩, .string (sB x), .string ⟨#[116, 111]⟩] 9)
           have cu := (hu.cell (p := ⟨bl, ol + k, none⟩) (Nat.lt_of_lt_of_le hwl HX1.out.size)).trans c1
           refine hK.out _ _ (cu) (fun hHeld => ?_)
           clear hK K
           try simp only [pq13]
           refine anyH_abs (F := fun z => Below wr.heap.size wr z ∧ z.cell? ⟨bl, ol + k, none⟩ = some (.string (sB x)) ∧ Seen eS z (some ⟨g1, 0, none⟩) [C.wPolicy, x, C.wAction] ∧ Seen eS z (some ⟨g3, 0, none⟩) [C.wPolicy, x, C.wTo]) ⟨bthen HX1.out hu, cu, HL1.out.below hu, lit_at14 z1 [C.wPolicy, x, C.wTo] _ g3 hg3 rfl (by simp)⟩ (fun z2 hz => ?_)
           obtain ⟨hx, c2, hl1, hl3⟩ := hz
           have HX2 := Lib.hid hx
           have HL1 := Lib.hid hl1
           have HL3 := Lib.hid hl3
           clear hx hu cu hg3 hl1 hl3
           refine wpAnyH_ready (rs := [6, 13]) (by kernel_rfl) (by simp) ?_
           refine AllReadyH.cons rfl (fun K hK => ?_) (AllReadyH.cons rfl (fun K hK => ?_) AllReadyH.nil)
           ·go_simp
            go_at_call 34
            refine (wordR A c n t _ 3 3 [C.wPolicy, x, C.wAction] [] q1 _ HN.out rfl (HA.out.below (bthen HXW.out HX2.out)) HL1.out hl30 (by omega) HR.out HQ1.out).mono ?_
            rintro e z3 ⟨rfl, hx⟩
            have c3 := (hx.cell (p := ⟨bl, ol + k, none⟩) (Nat.lt_of_lt_of_le hwl HX2.out.size)).trans c2
            have HX3 := Lib.hid (bthen HX2.out hx)
            replace HL3 := Lib.hid (HL3.out.below hx)
            clear hx
            refine hK.out _ _ (c3) (fun hHeld => ?_)
            clear hK K
            try simp only [pq13]
            refine takeZ (i := 7) (v := ?vn33_7) (d := some 58) ?hyn33_7 ?restn33_7
            case hyn33_7 => intro w hSw; go_simp; try (with_reducible rfl); try exact a1 _
            try simp only [pq13]
            refine wpAnyH_ready (rs := [13]) (by kernel_rfl) (by simp) ?_
            refine AllReadyH.cons rfl (fun K hK => ?_) AllReadyH.nil
            obtain ⟨g2, hg2⟩ : ∃ g, z3.heap.size = g := ⟨_, rfl⟩
            go_simp
            try rw [hg2]
            have hu := up z3 (.cells #[.string ⟨#[112, 111, 108, 105, 99, 121]⟩, .string (sB x), .string ⟨#[102, 114, 111, 109]⟩] 9)
            have cu := (hu.cell (p := ⟨bl, ol + k, none⟩) (Nat.lt_of_lt_of_le hwl HX3.out.size)).trans c3
            refine hK.out _ _ (cu) (fun hHeld => ?_)
            clear hK K
            try simp only [pq13]
            refine anyH_abs (F := fun z => Below wr.heap.size wr z ∧ z.cell? ⟨bl, ol + k, none⟩ = some (.string (sB x)) ∧ Seen eS z (some ⟨g2, 0, none⟩) [C.wPolicy, x, C.wFrom] ∧ Seen eS z (some ⟨g3, 0, none⟩) [C.wPolicy, x, C.wTo]) ⟨bthen HX3.out hu, cu, lit_at14 z3 [C.wPolicy, x, C.wFrom] _ g2 hg2 rfl (by simp), HL3.out.below hu⟩ (fun z4 hz => ?_)
            obtain ⟨hx, c4, hl2, hl3⟩ := hz
            have HX4 := Lib.hid hx
            have HL2 := Lib.hid hl2
            have HL3 := Lib.hid hl3
            clear hx hu cu hg2 hl2 hl3
            refine wpAnyH_ready (rs := [14]) (by kernel_rfl) (by simp) ?_
            refine AllReadyH.cons rfl (fun K hK => ?_) AllReadyH.nil
            go_simp
            go_at_call 34
            refine (wordR A c n t _ 3 3 [C.wPolicy, x, C.wFrom] H.wAny q2 _ HN.out rfl (HA.out.below (bthen HXW.out HX4.out)) HL2.out hl30 (by omega) HR.out HQ2.out).mono ?_
            rintro e z5 ⟨rfl, hx⟩
            have c5 := (hx.cell (p := ⟨bl, ol + k, none⟩) (Nat.lt_of_lt_of_le hwl HX4.out.size)).trans c4
            have HX5 := Lib.hid (bthen HX4.out hx)
            replace HL3 := Lib.hid (HL3.out.below hx)
            clear hx
            refine hK.out _ _ (c5) (fun hHeld => ?_)
            clear hK K
            try simp only [pq13]
            refine takeZ (i := 15) (v := ?vn35_15) (d := some 66) ?hyn35_15 ?restn35_15
            case hyn35_15 => intro w hSw; go_simp; try (with_reducible rfl); try exact a2 _
            try simp only [pq13]
            refine takeZ (i := 16) (v := ?vn35_16) (d := some 67) ?hyn35_16 ?restn35_16
            case hyn35_16 => intro w hSw; go_simp; try (with_reducible rfl); try exact a3 _
            try simp only [pq13]
            refine wpAnyH_ready (rs := [23]) (by kernel_rfl) (by simp) ?_
            refine AllReadyH.cons rfl (fun K hK => ?_) AllReadyH.nil
            go_simp
            go_at_call 34
            refine (wordR A c n t _ 3 3 [C.wPolicy, x, C.wTo] H.wAny q3 _ HN.out rfl (HA.out.below (bthen HXW.out HX5.out)) HL3.out hl30 (by omega) HR.out HQ3.out).mono ?_
            rintro e z6 ⟨rfl, hx⟩
            have c6 := (hx.cell (p := ⟨bl, ol + k, none⟩) (Nat.lt_of_lt_of_le hwl HX5.out.size)).trans c5
            have HX6 := Lib.hid (bthen HX5.out hx)
            clear hx
            refine hK.out _ _ (c6) (fun hHeld => ?_)
            clear hK K
            try simp only [pq13]
            refine takeZ (i := 24) (v := ?vn36_24) (d := some 75) ?hyn36_24 ?restn36_24
            case hyn36_24 => intro w hSw; go_simp; try (with_reducible rfl); try exact a4 _
            try simp only [pq13]
            refine takeZ (i := 25) (v := ?vn36_25) (d := some 10) ?hyn36_25 ?restn36_25
            case hyn36_25 => intro w hSw; go_simp; try (with_reducible rfl)
            try simp only [pq13]
            refine wpAnyH_done (by kernel_rfl) ?_ _
            exact HREST z6 g1 g2 g3 HX6.out
           ·obtain ⟨g2, hg2⟩ : ∃ g, z2.heap.size = g := ⟨_, rfl⟩
            go_simp
            try rw [hg2]
            have hu := up z2 (.cells #[.string ⟨#[112, 111, 108, 105, 99, 121]⟩, .string (sB x), .string ⟨#[102, 114, 111, 109]⟩] 9)
            have cu := (hu.cell (p := ⟨bl, ol + k, none⟩) (Nat.lt_of_lt_of_le hwl HX2.out.size)).trans c2
            refine hK.out _ _ (cu) (fun hHeld => ?_)
            clear hK K
            try simp only [pq13]
            refine anyH_abs (F := fun z => Below wr.heap.size wr z ∧ z.cell? ⟨bl, ol + k, none⟩ = some (.string (sB x)) ∧ Seen eS z (some ⟨g1, 0, none⟩) [C.wPolicy, x, C.wAction] ∧ Seen eS z (some ⟨g2, 0, none⟩) [C.wPolicy, x, C.wFrom] ∧ Seen eS z (some ⟨g3, 0, none⟩) [C.wPolicy, x, C.wTo]) ⟨bthen HX2.out hu, cu, HL1.out.below hu, lit_at14 z2 [C.wPolicy, x, C.wFrom] _ g2 hg2 rfl (by simp), HL3.out.below hu⟩ (fun z3 hz => ?_)
            obtain ⟨hx, c3, hl1, hl2, hl3⟩ := hz
            have HX3 := Lib.hid hx
            have HL1 := Lib.hid hl1
            have HL2 := Lib.hid hl2
            have HL3 := Lib.hid hl3
            clear hx hu cu hg2 hl1 hl2 hl3
            refine wpAnyH_ready (rs := [6]) (by kernel_rfl) (by simp) ?_
            refine AllReadyH.cons rfl (fun K hK => ?_) AllReadyH.nil
            go_simp
            go_at_call 34
            refine (wordR A c n t _ 3 3 [C.wPolicy, x, C.wAction] [] q1 _ HN.out rfl (HA.out.below (bthen HXW.out HX3.out)) HL1.out hl30 (by omega) HR.out HQ1.out).mono ?_
            rintro e z4 ⟨rfl, hx⟩
            have c4 := (hx.cell (p := ⟨bl, ol + k, none⟩) (Nat.lt_of_lt_of_le hwl HX3.out.size)).trans c3
            have HX4 := Lib.hid (bthen HX3.out hx)
            replace HL2 := Lib.hid (HL2.out.below hx)
            replace HL3 := Lib.hid (HL3.out.below hx)
            clear hx
            refine hK.out _ _ (c4) (fun hHeld => ?_)
            clear hK K
            try simp only [pq13]
            refine takeZ (i := 7) (v := ?vn39_7) (d := some 58) ?hyn39_7 ?restn39_7
            case hyn39_7 => intro w hSw; go_simp; try (with_reducible rfl); try exact a1 _
            try simp only [pq13]
            refine wpAnyH_ready (rs := [14]) (by kernel_rfl) (by simp) ?_
            refine AllReadyH.cons rfl (fun K hK => ?_) AllReadyH.nil
            go_simp
            go_at_call 34
            refine (wordR A c n t _ 3 3 [C.wPolicy, x, C.wFrom] H.wAny q2 _ HN.out rfl (HA.out.below (bthen HXW.out HX4.out)) HL2.out hl30 (by omega) HR.out HQ2.out).mono ?_
            rintro e z5 ⟨rfl, hx⟩
            have c5 := (hx.cell (p := ⟨bl, ol + k, none⟩) (Nat.lt_of_lt_of_le hwl HX4.out.size)).trans c4
            have HX5 := Lib.hid (bthen HX4.out hx)
            replace HL3 := Lib.hid (HL3.out.below hx)
            clear hx
            refine hK.out _ _ (c5) (fun hHeld => ?_)
            clear hK K
            try simp only [pq13]
            refine takeZ (i := 15) (v := ?vn40_15) (d := some 66) ?hyn40_15 ?restn40_15
            case hyn40_15 => intro w hSw; go_simp; try (with_reducible rfl); try exact a2 _
            try simp only [pq13]
            refine takeZ (i := 16) (v := ?vn40_16) (d := some 67) ?hyn40_16 ?restn40_16
            case hyn40_16 => intro w hSw; go_simp; try (with_reducible rfl); try exact a3 _
            try simp only [pq13]
            refine wpAnyH_ready (rs := [23]) (by kernel_rfl) (by simp) ?_
            refine AllReadyH.cons rfl (fun K hK => ?_) AllReadyH.nil
            go_simp
            go_at_call 34
            refine (wordR A c n t _ 3 3 [C.wPolicy, x, C.wTo] H.wAny q3 _ HN.out rfl (HA.out.below (bthen HXW.out HX5.out)) HL3.out hl30 (by omega) HR.out HQ3.out).mono ?_
            rintro e z6 ⟨rfl, hx⟩
            have c6 := (hx.cell (p := ⟨bl, ol + k, none⟩) (Nat.lt_of_lt_of_le hwl HX5.out.size)).trans c5
            have HX6 := Lib.hid (bthen HX5.out hx)
            clear hx
            refine hK.out _ _ (c6) (fun hHeld => ?_)
            clear hK K
            try simp only [pq13]
            refine takeZ (i := 24) (v := ?vn41_24) (d := some 75) ?hyn41_24 ?restn41_24
            case hyn41_24 => intro w hSw; go_simp; try (with_reducible rfl); try exact a4 _
            try simp only [pq13]
            refine takeZ (i := 25) (v := ?vn41_25) (d := some 10) ?hyn41_25 ?restn41_25
            case hyn41_25 => intro w hSw; go_simp; try (with_reducible rfl)
            try simp only [pq13]
            refine wpAnyH_done (by kernel_rfl) ?_ _
            exact HREST z6 g1 g2 g3 HX6.out
         ·obtain ⟨g2, hg2⟩ : ∃ g, z0.heap.size = g := ⟨_, rfl⟩
          go_simp
          try rw [hg2]
          have hu := up z0 (.cells #[.string ⟨#[112, 111, 108, 105, 99, 121]⟩, .string (sB x), .string ⟨#[102, 114, 111, 109]⟩] 9)
          have cu := (hu.cell (p := ⟨bl, ol + k, none⟩) (Nat.lt_of_lt_of_le hwl HX0.out.size)).trans c0
          refine hK.out _ _ (cu) (fun hHeld => ?_)
          clear hK K
          try simp only [pq13]
          refine anyH_abs (F := fun z => Below wr.heap.size wr z ∧ z.cell? ⟨bl, ol + k, none⟩ = some (.string (sB x)) ∧ Seen eS z (some ⟨g2, 0, none⟩) [C.wPolicy, x, C.wFrom]) ⟨bthen HX0.out hu, cu, lit_at14 z0 [C.wPolicy, x, C.wFrom] _ g2 hg2 rfl (by simp)⟩ (fun z1 hz => ?_)
          obtain ⟨hx, c1, hl2⟩ := hz
          have HX1 := Lib.hid hx
          have HL2 := Lib.hid hl2
          clear hx hu cu hg2 hl2
          refine wpAnyH_ready (rs := [5, 22]) (by kernel_rfl) (by simp) ?_
          refine AllReadyH.cons rfl (fun K hK => ?_) (AllReadyH.cons rfl (fun K hK => ?_) AllReadyH.nil)
          ·obtain ⟨g1, hg1⟩ : ∃ g, z1.heap.size = g := ⟨_, rfl⟩
           go_simp
           try rw [hg1]
           have hu := up z1 (.cells #[.string ⟨#[112, 111, 108, 105, 99, 121]⟩, .string (sB x), .string ⟨#[97, 99, 116, 105, 111, 110]⟩] 9)
           have cu := (hu.cell (p := ⟨bl, ol + k, none⟩) (Nat.lt_of_lt_of_le hwl HX1.out.size)).trans c1
           refine hK.out _ _ (cu) (fun hHeld => ?_)
           clear hK K
           try simp only [pq13]
           refine anyH_abs (F := fun z => Below wr.heap.size wr z ∧ z.cell? ⟨bl, ol + k, none⟩ = some (.string (sB x)) ∧ Seen eS z (some ⟨g1, 0, none⟩) [C.wPolicy, x, C.wAction] ∧ Seen eS z (some ⟨g2, 0, none⟩) [C.wPolicy, x, C.wFrom]) ⟨bthen HX1.out hu, cu, lit_at14 z1 [C.wPolicy, x, C.wAction] _ g1 hg1 rfl (by simp), HL2.out.below hu⟩ (fun z2 hz => ?_)
           obtain ⟨hx, c2, hl1, hl2⟩ := hz
           have HX2 := Lib.hid hx
           have HL1 := Lib.hid hl1
           have HL2 := Lib.hid hl2
           clear hx hu cu hg1 hl1 hl2
           refine wpAnyH_ready (rs := [6, 22]) (by kernel_rfl) (by simp) ?_
           refine AllReadyH.cons rfl (fun K hK => ?_) (AllReadyH.cons rfl (fun K hK => ?_) AllReadyH.nil)
           ·go_simp
            go_at_call 34
            refine (wordR A c n t _ 3 3 [C.wPolicy, x, C.wAction] [] q1 _ HN.out rfl (HA.out.below (bthen HXW.out HX2.out)) HL1.out hl30 (by omega) HR.out HQ1.out).mono ?_
            rintro e z3 ⟨rfl, hx⟩
            have c3 := (hx.cell (p := ⟨bl, ol + k, none⟩) (Nat.lt_of_lt_of_le hwl HX2.out.size)).trans c2
            have HX3 := Lib.hid (bthen HX2.out hx)
            replace HL2 := Lib.hid (HL2.out.below hx)
            clear hx
            refine hK.out _ _ (c3) (fun hHeld => ?_)
            clear hK K
            try simp only [pq13]
            refine takeZ (i := 7) (v := ?vn45_7) (d := some 58) ?hyn45_7 ?restn45_7
            case hyn45_7 => intro w hSw; go_simp; try (with_reducible rfl); try exact a1 _
            try simp only [pq13]
            refine wpAnyH_ready (rs := [14, 22]) (by kernel_rfl) (by simp) ?_
            refine AllReadyH.cons rfl (fun K hK => ?_) (AllReadyH.cons rfl (fun K hK => ?_) AllReadyH.nil)
            ·go_simp
             go_at_call 34
             refine (wordR A c n t _ 3 3 [C.wPolicy, x, C.wFrom] H.wAny q2 _ HN.out rfl (HA.out.below (bthen HXW.out HX3.out)) HL2.out hl30 (by omega) HR.out HQ2.out).mono ?_
             rintro e z4 ⟨rfl, hx⟩
             have c4 := (hx.cell (p := ⟨bl, ol + k, none⟩) (Nat.lt_of_lt_of_le hwl HX3.out.size)).trans c3
             have HX4 := Lib.hid (bthen HX3.out hx)
             clear hx
             refine hK.out _ _ (c4) (fun hHeld => ?_)
             clear hK K
             try simp only [pq13]
             refine takeZ (i := 15) (v := ?vn46_15) (d := some 66) ?hyn46_15 ?restn46_15
             case hyn46_15 => intro w hSw; go_simp; try (with_reducible rfl); try exact a2 _
             try simp only [pq13]
             refine takeZ (i := 16) (v := ?vn46_16) (d := some 67) ?hyn46_16 ?restn46_16
             case hyn46_16 => intro w hSw; go_simp; try (with_reducible rfl); try exact a3 _
             try simp only [pq13]
             refine wpAnyH_ready (rs := [22]) (by kernel_rfl) (by simp) ?_
             refine AllReadyH.cons rfl (fun K hK => ?_) AllReadyH.nil
             obtain ⟨g3, hg3⟩ : ∃ g, z4.heap.size = g := ⟨_, rfl⟩
             go_simp
             try rw [hg3]
             have hu := up z4 (.cells #[.string ⟨#[112, 111, 108, 105, 99, 121]⟩, .string (sB x), .string ⟨#[116, 111]⟩] 9)
             have cu := (hu.cell (p := ⟨bl, ol + k, none⟩) (Nat.lt_of_lt_of_le hwl HX4.out.size)).trans c4
             refine hK.out _ _ (cu) (fun hHeld => ?_)
             clear hK K
             try simp only [pq13]
             refine anyH_abs (F := fun z => Below wr.heap.size wr z ∧ z.cell? ⟨bl, ol + k, none⟩ = some (.string (sB x)) ∧ Seen eS z (some ⟨g3, 0, none⟩) [C.wPolicy, x, C.wTo]) ⟨bthen HX4.out hu, cu, lit_at14 z4 [C.wPolicy, x, C.wTo] _ g3 hg3 rfl (by simp)⟩ (fun z5 hz => ?_)
             obtain ⟨hx, c5, hl3⟩ := hz
             have HX5 := Lib.hid hx
             have HL3 := Lib.hid hl3
             clear hx hu cu hg3 hl3
             refine wpAnyH_ready (rs := [23]) (by kernel_rfl) (by simp) ?_
             refine AllReadyH.cons rfl (fun K hK => ?_) AllReadyH.nil
             go_simp
             go_at_call 34
             refine (wordR A c n t _ 3 3 [C.wPolicy, x, C.wTo] H.wAny q3 _ HN.out rfl (HA.out.below (bthen HXW.out HX5.out)) HL3.out hl30 (by omega) HR.out HQ3.out).mono ?_
             rintro e z6 ⟨rfl, hx⟩
             have c6 := (hx.cell (p := ⟨bl, ol + k, none⟩) (Nat.lt_of_lt_of_le hwl HX5.out.size)).trans c5
             have HX6 := Lib.hid (bthen HX5.out hx)
             clear hx
             refine hK.out _ _ (c6) (fun hHeld => ?_)
             clear hK K
             try simp only [pq13]
             refine takeZ (i := 24) (v := ?vn48_24) (d := some 75) ?hyn48_24 ?restn48_24
             case hyn48_24 => intro w hSw; go_simp; try (with_reducible rfl); try exact a4 _
             try simp only [pq13]
             refine takeZ (i := 25) (v := ?vn48_25) (d := some 10) ?hyn48_25 ?restn48_25
             case hyn48_25 => intro w hSw; go_simp; try (with_reducible rfl)
             try simp only [pq13]
             refine wpAnyH_done (by kernel_rfl) ?_ _
             exact HREST z6 g1 g2 g3 HX6.out
            ·obtain ⟨g3, hg3⟩ : ∃ g, z3.heap.size = g := ⟨_, rfl⟩
             go_simp
             try rw [hg3]
             have hu := up z3 (.cells #[.string ⟨#[112, 111, 108, 105, 99, 121]⟩, .string (sB x), .string ⟨#[116, 111]⟩] 9)
             have cu := (hu.cell (p := ⟨bl, ol + k, none⟩) (Nat.lt_of_lt_of_le hwl HX3.out.size)).trans c3
             refine hK.out _ _ (cu) (fun hHeld => ?_)
             clear hK K
             try simp only [pq13]
             refine anyH_abs (F := fun z => Below wr.heap.size wr z ∧ z.cell? ⟨bl, ol + k, none⟩ = some (.string (sB x)) ∧ Seen eS z (some ⟨g2, 0, none⟩) [C.wPolicy, x, C.wFrom] ∧ Seen eS z (some ⟨g3, 0, none⟩) [C.wPolicy, x, C.wTo]) ⟨bthen HX3.out hu, cu, HL2.out.below hu, lit_at14 z3 [C.wPolicy, x, C.wTo] _ g3 hg3 rfl (by simp)⟩ (fun z4 hz => ?_)
             obtain ⟨hx, c4, hl2, hl3⟩ := hz
             have HX4 := Lib.hid hx
             have HL2 := Lib.hid hl2
             have HL3 := Lib.hid hl3
             clear hx hu cu hg3 hl2 hl3
             refine wpAnyH_ready (rs := [14]) (by kernel_rfl) (by simp) ?_
             refine AllReadyH.cons rfl (fun K hK => ?_) AllReadyH.nil
             go_simp
             go_at_call 34
             refine (wordR A c n t _ 3 3 [C.wPolicy, x, C.wFrom] H.wAny q2 _ HN.out rfl (HA.out.below (bthen HXW.out HX4.out)) HL2.out hl30 (by omega) HR.out HQ2.out).mono ?_
             rintro e z5 ⟨rfl, hx⟩
             have c5 := (hx.cell (p := ⟨bl, ol + k, none⟩) (Nat.lt_of_lt_of_le hwl HX4.out.size)).trans c4
             have HX5 := Lib.hid (bthen HX4.out hx)
             replace HL3 := Lib.hid (HL3.out.below hx)
             clear hx
             refine hK.out _ _ (c5) (fun hHeld => ?_)
             clear hK K
             try simp only [pq13]
             refine takeZ (i := 15) (v := ?vn51_15) (d := some 66) ?hyn51_15 ?restn51_15
             case hyn51_15 => intro w hSw; go_simp; try (with_reducible rfl); try exact a2 _
             try simp only [pq13]
             refine takeZ (i := 16) (v := ?vn51_16) (d := some 67) ?hyn51_16 ?restn51_16
             case hyn51_16 => intro w hSw; go_simp; try (with_reducible rfl); try exact a3 _
             try simp only [pq13]
             refine wpAnyH_ready (rs := [23]) (by kernel_rfl) (by simp) ?_
             refine AllReadyH.cons rfl (fun K hK => ?_) AllReadyH.nil
             go_simp
             go_at_call 34
             refine (wordR A c n t _ 3 3 [C.wPolicy, x, C.wTo] H.wAny q3 _ HN.out rfl (HA.out.below (bthen HXW.out HX5.out)) HL3.out hl30 (by omega) HR.out HQ3.out).mono ?_
             rintro e z6 ⟨rfl, hx⟩
             have c6 := (hx.cell (p := ⟨bl, ol + k, none⟩) (Nat.lt_of_lt_of_le hwl HX5.out.size)).trans c5
             have HX6 := Lib.hid (bthen HX5.out hx)
             clear hx
             refine hK.out _ _ (c6) (fun hHeld => ?_)
             clear hK K
             try simp only [pq13]
             refine takeZ (i := 24) (v := ?vn52_24) (d := some 75) ?hyn52_24 ?restn52_24
             case hyn52_24 => intro w hSw; go_simp; try (with_reducible rfl); try exact a4 _
             try simp only [pq13]
             refine takeZ (i := 25) (v := ?vn52_25) (d := some 10) ?hyn52_25 ?restn52_25
             case hyn52_25 => intro w hSw; go_simp; try (with_reducible rfl)
             try simp only [pq13]
             refine wpAnyH_done (by kernel_rfl) ?_ _
             exact HREST z6 g1 g2 g3 HX6.out
           ·obtain ⟨g3, hg3⟩ : ∃ g, z2.heap.size = g := ⟨_, rfl⟩
            go_simp
            try rw [hg3]
            have hu := up z2 (.cells #[.string ⟨#[112, 111, 108, 105, 99, 121]⟩, .string (sB x), .string ⟨#[116, 111]⟩] 9)
            have cu := (hu.cell (p := ⟨bl, ol + k, none⟩) (Nat.lt_of_lt_of_le hwl HX2.out.size)).trans c2
            refine hK.out _ _ (cu) (fun hHeld => ?_)
            clear hK K
            try simp only [pq13]
            refine anyH_abs (F := fun z => Below wr.heap.size wr z ∧ z.cell? ⟨bl, ol + k, none⟩ = some (.string (sB x)) ∧ Seen eS z (some ⟨g1, 0, none⟩) [C.wPolicy, x, C.wAction] ∧ Seen eS z (some ⟨g2, 0, none⟩) [C.wPolicy, x, C.wFrom] ∧ Seen eS z (some ⟨g3, 0, none⟩) [C.wPolicy, x, C.wTo]) ⟨bthen HX2.out hu, cu, HL1.out.below hu, HL2.out.below hu, lit_at14 z2 [C.wPolicy, x, C.wTo] _ g3 hg3 rfl (by simp)⟩ (fun z3 hz => ?_)
            obtain ⟨hx, c3, hl1, hl2, hl3⟩ := hz
            have HX3 := Lib.hid hx
            have HL1 := Lib.hid hl1
            have HL2 := Lib.hid hl2
            have HL3 := Lib.hid hl3
            clear hx hu cu hg3 hl1 hl2 hl3
            refine wpAnyH_ready (rs := [6]) (by kernel_rfl) (by simp) ?_
            refine AllReadyH.cons rfl (fun K hK => ?_) AllReadyH.nil
            go_simp
            go_at_call 34
            refine (wordR A c n t _ 3 3 [C.wPolicy, x, C.wAction] [] q1 _ HN.out rfl (HA.out.below (bthen HXW.out HX3.out)) HL1.out hl30 (by omega) HR.out HQ1.out).mono ?_
            rintro e z4 ⟨rfl, hx⟩
            have c4 := (hx.cell (p := ⟨bl, ol + k, none⟩) (Nat.lt_of_lt_of_le hwl HX3.out.size)).trans c3
            have HX4 := Lib.hid (bthen HX3.out hx)
            replace HL2 := Lib.hid (HL2.out.below hx)
            replace HL3 := Lib.hid (HL3.out.below hx)
            clear hx
            refine hK.out _ _ (c4) (fun hHeld => ?_)
            clear hK K
            try simp only [pq13]
            refine takeZ (i := 7) (v := ?vn55_7) (d := some 58) ?hyn55_7 ?restn55_7
            case hyn55_7 => intro w hSw; go_simp; try (with_reducible rfl); try exact a1 _
            try simp only [pq13]
            refine wpAnyH_ready (rs := [14]) (by kernel_rfl) (by simp) ?_
            refine AllReadyH.cons rfl (fun K hK => ?_) AllReadyH.nil
            go_simp
            go_at_call 34
            refine (wordR A c n t _ 3 3 [C.wPolicy, x, C.wFrom] H.wAny q2 _ HN.out rfl (HA.out.below (bthen HXW.out HX4.out)) HL2.out hl30 (by omega) HR.out HQ2.out).mono ?_
            rintro e z5 ⟨rfl, hx⟩
            have c5 := (hx.cell (p := ⟨bl, ol + k, none⟩) (Nat.lt_of_lt_of_le hwl HX4.out.size)).trans c4
            have HX5 := Lib.hid (bthen HX4.out hx)
            replace HL3 := Lib.hid (HL3.out.below hx)
            clear hx
            refine hK.out _ _ (c5) (fun hHeld => ?_)
            clear hK K
            try simp only [pq13]
            refine takeZ (i := 15) (v := ?vn56_15) (d := some 66) ?hyn56_15 ?restn56_15
            case hyn56_15 => intro w hSw; go_simp; try (with_reducible rfl); try exact a2 _
            try simp only [pq13]
            refine takeZ (i := 16) (v := ?vn56_16) (d := some 67) ?hyn56_16 ?restn56_16
            case hyn56_16 => intro w hSw; go_simp; try (with_reducible rfl); try exact a3 _
            try simp only [pq13]
            refine wpAnyH_ready (rs := [23]) (by kernel_rfl) (by simp) ?_
            refine AllReadyH.cons rfl (fun K hK => ?_) AllReadyH.nil
            go_simp
            go_at_call 34
            refine (wordR A c n t _ 3 3 [C.wPolicy, x, C.wTo] H.wAny q3 _ HN.out rfl (HA.out.below (bthen HXW.out HX5.out)) HL3.out hl30 (by omega) HR.out HQ3.out).mono ?_
            rintro e z6 ⟨rfl, hx⟩
            have c6 := (hx.cell (p := ⟨bl, ol + k, none⟩) (Nat.lt_of_lt_of_le hwl HX5.out.size)).trans c5
            have HX6 := Lib.hid (bthen HX5.out hx)
            clear hx
            refine hK.out _ _ (c6) (fun hHeld => ?_)
            clear hK K
            try simp only [pq13]
            refine takeZ (i := 24) (v := ?vn57_24) (d := some 75) ?hyn57_24 ?restn57_24
            case hyn57_24 => intro w hSw; go_simp; try (with_reducible rfl); try exact a4 _
            try simp only [pq13]
            refine takeZ (i := 25) (v := ?vn57_25) (d := some 10) ?hyn57_25 ?restn57_25
            case hyn57_25 => intro w hSw; go_simp; try (with_reducible rfl)
            try simp only [pq13]
            refine wpAnyH_done (by kernel_rfl) ?_ _
            exact HREST z6 g1 g2 g3 HX6.out
          ·obtain ⟨g3, hg3⟩ : ∃ g, z1.heap.size = g := ⟨_, rfl⟩
           go_simp
           try rw [hg3]
           have hu := up z1 (.cells #[.string ⟨#[112, 111, 108, 105, 99, 121]⟩, .string (sB x), .string ⟨#[116, 111]⟩] 9)
           have cu := (hu.cell (p := ⟨bl, ol + k, none⟩) (Nat.lt_of_lt_of_le hwl HX1.out.size)).trans c1
           refine hK.out _ _ (cu) (fun hHeld => ?_)
           clear hK K
           try simp only [pq13]
           refine anyH_abs (F := fun z => Below wr.heap.size wr z ∧ z.cell? ⟨bl, ol + k, none⟩ = some (.string (sB x)) ∧ Seen eS z (some ⟨g2, 0, none⟩) [C.wPolicy, x, C.wFrom] ∧ Seen eS z (some ⟨g3, 0, none⟩) [C.wPolicy, x, C.wTo]) ⟨bthen HX1.out hu, cu, HL2.out.below hu, lit_at14 z1 [C.wPolicy, x, C.wTo] _ g3 hg3 rfl (by simp)⟩ (fun z2 hz => ?_)
           obtain ⟨hx, c2, hl2, hl3⟩ := hz
           have HX2 := Lib.hid hx
           have HL2 := Lib.hid hl2
           have HL3 := Lib.hid hl3
           clear hx hu cu hg3 hl2 hl3
           refine wpAnyH_ready (rs := [5]) (by kernel_rfl) (by simp) ?_
           refine AllReadyH.cons rfl (fun K hK => ?_) AllReadyH.nil
           obtain ⟨g1, hg1⟩ : ∃ g, z2.heap.size = g := ⟨_, rfl⟩
           go_simp
           try rw [hg1]
           have hu := up z2 (.cells #[.string ⟨#[112, 111, 108, 105, 99, 121]⟩, .string (sB x), .string ⟨#[97, 99, 116, 105, 111, 110]⟩] 9)
           have cu := (hu.cell (p := ⟨bl, ol + k, none⟩) (Nat.lt_of_lt_of_le hwl HX2.out.size)).trans c2
           refine hK.out _ _ (cu) (fun hHeld => ?_)
           clear hK K
           try simp only [pq13]
           refine anyH_abs (F := fun z => Below wr.heap.size wr z ∧ z.cell? ⟨bl, ol + k, none⟩ = some (.string (sB x)) ∧ Seen eS z (some ⟨g1, 0, none⟩) [C.wPolicy, x, C.wAction] ∧ Seen eS z (some ⟨g2, 0, none⟩) [C.wPolicy, x, C.wFrom] ∧ Seen eS z (some ⟨g3, 0, none⟩) [C.wPolicy, x, C.wTo]) ⟨bthen HX2.out hu, cu, lit_at14 z2 [C.wPolicy, x, C.wAction] _ g1 hg1 rfl (by simp), HL2.out.below hu, HL3.out.below hu⟩ (fun z3 hz => ?_)
           obtain ⟨hx, c3, hl1, hl2, hl3⟩ := hz
           have HX3 := Lib.hid hx
           have HL1 := Lib.hid hl1
           have HL2 := Lib.hid hl2
           have HL3 := Lib.hid hl3
           clear hx hu cu hg1 hl1 hl2 hl3
           refine wpAnyH_ready (rs := [6]) (by kernel_rfl) (by simp) ?_
           refine AllReadyH.cons rfl (fun K hK => ?_) AllReadyH.nil
           go_simp
           go_at_call 34
           refine (wordR A c n t _ 3 3 [C.wPolicy, x, C.wAction] [] q1 _ HN.out rfl (HA.out.below (bthen HXW.out HX3.out)) HL1.out hl30 (by omega) HR.out HQ1.out).mono ?_
           rintro e z4 ⟨rfl, hx⟩
           have c4 := (hx.cell (p := ⟨bl, ol + k, none⟩) (Nat.lt_of_lt_of_le hwl HX3.out.size)).trans c3
           have HX4 := Lib.hid (bthen HX3.out hx)
           replace HL2 := Lib.hid (HL2.out.below hx)
           replace HL3 := Lib.hid (HL3.out.below hx)
           clear hx
           refine hK.out _ _ (c4) (fun hHeld => ?_)
           clear hK K
           try simp only [pq13]
           refine takeZ (i := 7) (v := ?vn61_7) (d := some 58) ?hyn61_7 ?restn61_7
           case hyn61_7 => intro w hSw; go_simp; try (with_reducible rfl); try exact a1 _
           try simp only [pq13]
           refine wpAnyH_ready (rs := [14]) (by kernel_rfl) (by simp) ?_
           refine AllReadyH.cons rfl (fun K hK => ?_) AllReadyH.nil
           go_simp
           go_at_call 34
           refine (wordR A c n t _ 3 3 [C.wPolicy, x, C.wFrom] H.wAny q2 _ HN.out rfl (HA.out.below (bthen HXW.out HX4.out)) HL2.out hl30 (by omega) HR.out HQ2.out).mono ?_
           rintro e z5 ⟨rfl, hx⟩
           have c5 := (hx.cell (p := ⟨bl, ol + k, none⟩) (Nat.lt_of_lt_of_le hwl HX4.out.size)).trans c4
           have HX5 := Lib.hid (bthen HX4.out hx)
           replace HL3 := Lib.hid (HL3.out.below hx)
           clear hx
           refine hK.out _ _ (c5) (fun hHeld => ?_)
           clear hK K
           try simp only [pq13]
           refine takeZ (i := 15) (v := ?vn62_15) (d := some 66) ?hyn62_15 ?restn62_15
           case hyn62_15 => intro w hSw; go_simp; try (with_reducible rfl); try exact a2 _
           try simp only [pq13]
           refine takeZ (i := 16) (v := ?vn62_16) (d := some 67) ?hyn62_16 ?restn62_16
           case hyn62_16 => intro w hSw; go_simp; try (with_reducible rfl); try exact a3 _
           try simp only [pq13]
           refine wpAnyH_ready (rs := [23]) (by kernel_rfl) (by simp) ?_
           refine AllReadyH.cons rfl (fun K hK => ?_) AllReadyH.nil
           go_simp
           go_at_call 34
           refine (wordR A c n t _ 3 3 [C.wPolicy, x, C.wTo] H.wAny q3 _ HN.out rfl (HA.out.below (bthen HXW.out HX5.out)) HL3.out hl30 (by omega) HR.out HQ3.out).mono ?_
           rintro e z6 ⟨rfl, hx⟩
           have c6 := (hx.cell (p := ⟨bl, ol + k, none⟩) (Nat.lt_of_lt_of_le hwl HX5.out.size)).trans c5
           have HX6 := Lib.hid (bthen HX5.out hx)
           clear hx
           refine hK.out _ _ (c6) (fun hHeld => ?_)
           clear hK K
           try simp only [pq13]
           refine takeZ (i := 24) (v := ?vn63_24) (d := some 75) ?hyn63_24 ?restn63_24
           case hyn63_24 => intro w hSw; go_simp; try (with_reducible rfl); try exact a4 _
           try simp only [pq13]
           refine takeZ (i := 25) (v := ?vn63_25) (d := some 10) ?hyn63_25 ?restn63_25
           case hyn63_25 => intro w hSw; go_simp; try (with_reducible rfl)
           try simp only [pq13]
           refine wpAnyH_done (by kernel_rfl) ?_ _
           exact HREST z6 g1 g2 g3 HX6.out
         ·obtain ⟨g3, hg3⟩ : ∃ g, z0.heap.size = g := ⟨_, rfl⟩
          go_simp
          try rw [hg3]
          have hu := up z0 (.cells #[.string ⟨#[112, 111, 108, 105, 99, 121]⟩, .string (sB x), .string ⟨#[116, 111]⟩] 9)
          have cu := (hu.cell (p := ⟨bl, ol + k, none⟩) (Nat.lt_of_lt_of_le hwl HX0.out.size)).trans c0
          refine hK.out _ _ (cu) (fun hHeld => ?_)
          clear hK K
          try simp only [pq13]
          refine anyH_abs (F := fun z => Below wr.heap.size wr z ∧ z.cell? ⟨bl, ol + k, none⟩ = some (.string (sB x)) ∧ Seen eS z (some ⟨g3, 0, none⟩) [C.wPolicy, x, C.wTo]) ⟨bthen HX0.out hu, cu, lit_at14 z0 [C.wPolicy, x, C.wTo] _ g3 hg3 rfl (by simp)⟩ (fun z1 hz => ?_)
          obtain ⟨hx, c1, hl3⟩ := hz
          have HX1 := Lib.hid hx
          have HL3 := Lib.hid hl3
          clear hx hu cu hg3 hl3
          refine wpAnyH_ready (rs := [5, 13]) (by kernel_rfl) (by simp) ?_
          refine AllReadyH.cons rfl (fun K hK => ?_) (AllReadyH.cons rfl (fun K hK => ?_) AllReadyH.nil)
          ·obtain ⟨g1, hg1⟩ : ∃ g, z1.heap.size = g := ⟨_, rfl⟩
           go_simp
           try rw [hg1]
           have hu := up z1 (.cells #[.string ⟨#[112, 111, 108, 105, 99, 121]⟩, .string (sB x), .string ⟨#[97, 99, 116, 105, 111, 110]⟩] 9)
           have cu := (hu.cell (p := ⟨bl, ol + k, none⟩) (Nat.lt_of_lt_of_le hwl HX1.out.size)).trans c1
           refine hK.out _ _ (cu) (fun hHeld => ?_)
           clear hK K
           try simp only [pq13]
           refine anyH_abs (F := fun z => Below wr.heap.size wr z ∧ z.cell? ⟨bl, ol + k, none⟩ = some (.string (sB x)) ∧ Seen eS z (some ⟨g1, 0, none⟩) [C.wPolicy, x, C.wAction] ∧ Seen eS z (some ⟨g3, 0, none⟩) [C.wPolicy, x, C.wTo]) ⟨bthen HX1.out hu, cu, lit_at14 z1 [C.wPolicy, x, C.wAction] _ g1 hg1 rfl (by simp), HL3.out.below hu⟩ (fun z2 hz => ?_)
           obtain ⟨hx, c2, hl1, hl3⟩ := hz
           have HX2 := Lib.hid hx
           have HL1 := Lib.hid hl1
           have HL3 := Lib.hid hl3
           clear hx hu cu hg1 hl1 hl3
           refine wpAnyH_ready (rs := [6, 13]) (by kernel_rfl) (by simp) ?_
           refine AllReadyH.cons rfl (fun K hK => ?_) (AllReadyH.cons rfl (fun K hK => ?_) AllReadyH.nil)
           ·go_simp
            go_at_call 34
            refine (wordR A c n t _ 3 3 [C.wPolicy, x, C.wAction] [] q1 _ HN.out rfl (HA.out.below (bthen HXW.out HX2.out)) HL1.out hl30 (by omega) HR.out HQ1.out).mono ?_
            rintro e z3 ⟨rfl, hx⟩
            have c3 := (hx.cell (p := ⟨bl, ol + k, none⟩) (Nat.lt_of_lt_of_le hwl HX2.out.size)).trans c2
            have HX3 := Lib.hid (bthen HX2.out hx)
            replace HL3 := Lib.hid (HL3.out.below hx)
            clear hx
            refine hK.out _ _ (c3) (fun hHeld => ?_)
            clear hK K
            try simp only [pq13]
            refine takeZ (i := 7) (v := ?vn67_7) (d := some 58) ?hyn67_7 ?restn67_7
            case hyn67_7 => intro w hSw; go_simp; try (with_reducible rfl); try exact a1 _
            try simp only [pq13]
            refine wpAnyH_ready (rs := [13]) (by kernel_rfl) (by simp) ?_
            refine AllReadyH.cons rfl (fun K hK => ?_) AllReadyH.nil
            obtain ⟨g2, hg2⟩ : ∃ g, z3.heap.size = g := ⟨_, rfl⟩
            go_simp
            try rw [hg2]
            have hu := up z3 (.cells #[.string ⟨#[112, 111, 108, 105, 99, 121]⟩, .string (sB x), .string ⟨#[102, 114, 111, 109]⟩] 9)
            have cu := (hu.cell (p := ⟨bl, ol + k, none⟩) (Nat.lt_of_lt_of_le hwl HX3.out.size)).trans c3
            refine hK.out _ _ (cu) (fun hHeld => ?_)
            clear hK K
            try simp only [pq13]
            refine anyH_abs (F := fun z => Below wr.heap.size wr z ∧ z.cell? ⟨bl, ol + k, none⟩ = some (.string (sB x)) ∧ Seen eS z (some ⟨g2, 0, none⟩) [C.wPolicy, x, C.wFrom] ∧ Seen eS z (some ⟨g3, 0, none⟩) [C.wPolicy, x, C.wTo]) ⟨bthen HX3.out hu, cu, lit_at14 z3 [C.wPolicy, x, C.wFrom] _ g2 hg2 rfl (by simp), HL3.out.below hu⟩ (fun z4 hz => ?_)
            obtain ⟨hx, c4, hl2, hl3⟩ := hz
            have HX4 := Lib.hid hx
            have HL2 := Lib.hid hl2
            have HL3 := Lib.hid hl3
            clear hx hu cu hg2 hl2 hl3
            refine wpAnyH_ready (rs := [14]) (by kernel_rfl) (by simp) ?_
            refine AllReadyH.cons rfl (fun K hK => ?_) AllReadyH.nil
            go_simp
            go_at_call 34
            refine (wordR A c n t _ 3 3 [C.wPolicy, x, C.wFrom] H.wAny q2 _ HN.out rfl (HA.out.below (bthen HXW.out HX4.out)) HL2.out hl30 (by omega) HR.out HQ2.out).mono ?_
            rintro e z5 ⟨rfl, hx⟩
            have c5 := (hx.cell (p := ⟨bl, ol + k, none⟩) (Nat.lt_of_lt_of_le hwl HX4.out.size)).trans c4
            have HX5 := Lib.hid (bthen HX4.out hx)
            replace HL3 := Lib.hid (HL3.out.below hx)
            clear hx
            refine hK.out _ _ (c5) (fun hHeld => ?_)
            clear hK K
            try simp only [pq13]
            refine takeZ (i := 15) (v := ?vn69_15) (d := some 66) ?hyn69_15 ?restn69_15
            case hyn69_15 => intro w hSw; go_simp; try (with_reducible rfl); try exact a2 _
            try simp only [pq13]
            refine takeZ (i := 16) (v := ?vn69_16) (d := some 67) ?hyn69_16 ?restn69_16
            case hyn69_16 => intro w hSw; go_simp; try (with_reducible rfl); try exact a3 _
            try simp only [pq13]
            refine wpAnyH_ready (rs := [23]) (by kernel_rfl) (by simp) ?_
            refine AllReadyH.cons rfl (fun K hK => ?_) AllReadyH.nil
            go_simp
            go_at_call 34
            refine (wordR A c n t _ 3 3 [C.wPolicy, x, C.wTo] H.wAny q3 _ HN.out rfl (HA.out.below (bthen HXW.out HX5.out)) HL3.out hl30 (by omega) HR.out HQ3.out).mono ?_
            rintro e z6 ⟨rfl, hx⟩
            have c6 := (hx.cell (p := ⟨bl, ol + k, none⟩) (Nat.lt_of_lt_of_le hwl HX5.out.size)).trans c5
            have HX6 := Lib.hid (bthen HX5.out hx)
            clear hx
            refine hK.out _ _ (c6) (fun hHeld => ?_)
            clear hK K
            try simp only [pq13]
            refine takeZ (i := 24) (v := ?vn70_24) (d := some 75) ?hyn70_24 ?restn70_24
            case hyn70_24 => intro w hSw; go_simp; try (with_reducible rfl); try exact a4 _
            try simp only [pq13]
            refine takeZ (i := 25) (v := ?vn70_25) (d := some 10) ?hyn70_25 ?restn70_25
            case hyn70_25 => intro w hSw; go_simp; try (with_reducible rfl)
            try simp only [pq13]
            refine wpAnyH_done (by kernel_rfl) ?_ _
            exact HREST z6 g1 g2 g3 HX6.out
           ·obtain ⟨g2, hg2⟩ : ∃ g, z2.heap.size = g := ⟨_, rfl⟩
            go_simp
            try rw [hg2]
            have hu := up z2 (.cells #[.string ⟨#[112, 111, 108, 105, 99, 121]⟩, .string (sB x), .string ⟨#[102, 114, 111, 109]⟩] 9)
            have cu := (hu.cell (p := ⟨bl, ol + k, none⟩) (Nat.lt_of_lt_of_le hwl HX2.out.size)).trans c2
            refine hK.out _ _ (cu) (fun hHeld => ?_)
            clear hK K
            try simp only [pq13]
            refine anyH_abs (F := fun z => Below wr.heap.size wr z ∧ z.cell? ⟨bl, ol + k, none⟩ = some (.string (sB x)) ∧ Seen eS z (some ⟨g1, 0, none⟩) [C.wPolicy, x, C.wAction] ∧ Seen eS z (some ⟨g2, 0, none⟩) [C.wPolicy, x, C.wFrom] ∧ Seen eS z (some ⟨g3, 0, none⟩) [C.wPolicy, x, C.wTo]) ⟨bthen HX2.out hu, cu, HL1.out.below hu, lit_at14 z2 [C.wPolicy, x, C.wFrom] _ g2 hg2 rfl (by simp), HL3.out.below hu⟩ (fun z3 hz => ?_)
            obtain ⟨hx, c3, hl1, hl2, hl3⟩ := hz
            have HX3 := Lib.hid hx
            have HL1 := Lib.hid hl1
            have HL2 := Lib.hid hl2
            have HL3 := Lib.hid hl3
            clear hx hu cu hg2 hl1 hl2 hl3
            refine wpAnyH_ready (rs := [6]) (by kernel_rfl) (by simp) ?_
            refine AllReadyH.cons rfl (fun K hK => ?_) AllReadyH.nil
            go_simp
            go_at_call 34
            refine (wordR A c n t _ 3 3 [C.wPolicy, x, C.wAction] [] q1 _ HN.out rfl (HA.out.below (bthen HXW.out HX3.out)) HL1.out hl30 (by omega) HR.out HQ1.out).mono ?_
            rintro e z4 ⟨rfl, hx⟩
            have c4 := (hx.cell (p := ⟨bl, ol + k, none⟩) (Nat.lt_of_lt_of_le hwl HX3.out.size)).trans c3
            have HX4 := Lib.hid (bthen HX3.out hx)
            replace HL2 := Lib.hid (HL2.out.below hx)
            replace HL3 := Lib.hid (HL3.out.below hx)
            clear hx
            refine hK.out _ _ (c4) (fun hHeld => ?_)
            clear hK K
            try simp only [pq13]
            refine takeZ (i := 7) (v := ?vn73_7) (d := some 58) ?hyn73_7 ?restn73_7
            case hyn73_7 => intro w hSw; go_simp; try (with_reducible rfl); try exact a1 _
            try simp only [pq13]
            refine wpAnyH_ready (rs := [14]) (by kernel_rfl) (by simp) ?_
            refine AllReadyH.cons rfl (fun K hK => ?_) AllReadyH.nil
            go_simp
            go_at_call 34
            refine (wordR A c n t _ 3 3 [C.wPolicy, x, C.wFrom] H.wAny q2 _ HN.out rfl (HA.out.below (bthen HXW.out HX4.out)) HL2.out hl30 (by omega) HR.out HQ2.out).mono ?_
            rintro e z5 ⟨rfl, hx⟩
            have c5 := (hx.cell (p := ⟨bl, ol + k, none⟩) (Nat.lt_of_lt_of_le hwl HX4.out.size)).trans c4
            have HX5 := Lib.hid (bthen HX4.out hx)
            replace HL3 := Lib.hid (HL3.out.below hx)
            clear hx
            refine hK.out _ _ (c5) (fun hHeld => ?_)
            clear hK K
            try simp only [pq13]
            refine takeZ (i := 15) (v := ?vn74_15) (d := some 66) ?hyn74_15 ?restn74_15
            case hyn74_15 => intro w hSw; go_simp; try (with_reducible rfl); try exact a2 _
            try simp only [pq13]
            refine takeZ (i := 16) (v := ?vn74_16) (d := some 67) ?hyn74_16 ?restn74_16
            case hyn74_16 => intro w hSw; go_simp; try (with_reducible rfl); try exact a3 _
            try simp only [pq13]
            refine wpAnyH_ready (rs := [23]) (by kernel_rfl) (by simp) ?_
            refine AllReadyH.cons rfl (fun K hK => ?_) AllReadyH.nil
            go_simp
            go_at_call 34
            refine (wordR A c n t _ 3 3 [C.wPolicy, x, C.wTo] H.wAny q3 _ HN.out rfl (HA.out.below (bthen HXW.out HX5.out)) HL3.out hl30 (by omega) HR.out HQ3.out).mono ?_
            rintro e z6 ⟨rfl, hx⟩
            have c6 := (hx.cell (p := ⟨bl, ol + k, none⟩) (Nat.lt_of_lt_of_le hwl HX5.out.size)).trans c5
            have HX6 := Lib.hid (bthen HX5.out hx)
            clear hx
            refine hK.out _ _ (c6) (fun hHeld => ?_)
            clear hK K
            try simp only [pq13]
            refine takeZ (i := 24) (v := ?vn75_24) (d := some 75) ?hyn75_24 ?restn75_24
            case hyn75_24 => intro w hSw; go_simp; try (with_reducible rfl); try exact a4 _
            try simp only [pq13]
            refine takeZ (i := 25) (v := ?vn75_25) (d := some 10) ?hyn75_25 ?restn75_25
            case hyn75_25 => intro w hSw; go_simp; try (with_reducible rfl)
            try simp only [pq13]
            refine wpAnyH_done (by kernel_rfl) ?_ _
            exact HREST z6 g1 g2 g3 HX6.out
          ·obtain ⟨g2, hg2⟩ : ∃ g, z1.heap.size = g := ⟨_, rfl⟩
           go_simp
           try rw [hg2]
           have hu := up z1 (.cells #[.string ⟨#[112, 111, 108, 105, 99, 121]⟩, .string (sB x), .string ⟨#[102, 114, 111, 109]⟩] 9)
           have cu := (hu.cell (p := ⟨bl, ol + k, none⟩) (Nat.lt_of_lt_of_le hwl HX1.out.size)).trans c1
           refine hK.out _ _ (cu) (fun hHeld => ?_)
           clear hK K
           try simp only [pq13]
           refine anyH_abs (F := fun z => Below wr.heap.size wr z ∧ z.cell? ⟨bl, ol + k, none⟩ = some (.string (sB x)) ∧ Seen eS z (some ⟨g2, 0, none⟩) [C.wPolicy, x, C.wFrom] ∧ Seen eS z (some ⟨g3, 0, none⟩) [C.wPolicy, x, C.wTo]) ⟨bthen HX1.out hu, cu, lit_at14 z1 [C.wPolicy, x, C.wFrom] _ g2 hg2 rfl (by simp), HL3.out.below hu⟩ (fun z2 hz => ?_)
           obtain ⟨hx, c2, hl2, hl3⟩ := hz
           have HX2 := Lib.hid hx
           have HL2 := Lib.hid hl2
           have HL3 := Lib.hid hl3
           clear hx hu cu hg2 hl2 hl3
           refine wpAnyH_ready (rs := [5]) (by kernel_rfl) (by simp) ?_
           refine AllReadyH.cons rfl (fun K hK => ?_) AllReadyH.nil
           obtain ⟨g1, hg1⟩ : ∃ g, z2.heap.size = g := ⟨_, rfl⟩
           go_simp
           try rw [hg1]
           have hu := up z2 (.cells #[.string ⟨#[112, 111, 108, 105, 99, 121]⟩, .string (sB x), .string ⟨#[97, 99, 116, 105, 111, 110]⟩] 9)
           have cu := (hu.cell (p := ⟨bl, ol + k, none⟩) (Nat.lt_of_lt_of_le hwl HX2.out.size)).trans c2
           refine hK.out _ _ (cu) (fun hHeld => ?_)
           clear hK K
           try simp only [pq13]
           refine anyH_abs (F := fun z => Below wr.heap.size wr z ∧ z.cell? ⟨bl, ol + k, none⟩ = some (.string (sB x)) ∧ Seen eS z (some ⟨g1, 0, none⟩) [C.wPolicy, x, C.wAction] ∧ Seen eS z (some ⟨g2, 0, none⟩) [C.wPolicy, x, C.wFrom] ∧ Seen eS z (some ⟨g3, 0, none⟩) [C.wPolicy, x, C.wTo]) ⟨bthen HX2.out hu, cu, lit_at14 z2 [C.wPolicy, x, C.wAction] _ g1 hg1 rfl (by simp), HL2.out.below hu, HL3.out.below hu⟩ (fun z3 hz => ?_)
           obtain ⟨hx, c3, hl1, hl2, hl3⟩ := hz
           have HX3 := Lib.hid hx
           have HL1 := Lib.hid hl1
           have HL2 := Lib.hid hl2
           have HL3 := Lib.hid hl3
           clear hx hu cu hg1 hl1 hl2 hl3
           refine wpAnyH_ready (rs := [6]) (by kernel_rfl) (by simp) ?_
           refine AllReadyH.cons rfl (fun K hK => ?_) AllReadyH.nil
           go_simp
           go_at_call 34
           refine (wordR A c n t _ 3 3 [C.wPolicy, x, C.wAction] [] q1 _ HN.out rfl (HA.out.below (bthen HXW.out HX3.out)) HL1.out hl30 (by omega) HR.out HQ1.out).mono ?_
           rintro e z4 ⟨rfl, hx⟩
           have c4 := (hx.cell (p := ⟨bl, ol + k, none⟩) (Nat.lt_of_lt_of_le hwl HX3.out.size)).trans c3
           have HX4 := Lib.hid (bthen HX3.out hx)
           replace HL2 := Lib.hid (HL2.out.below hx)
           replace HL3 := Lib.hid (HL3.out.below hx)
           clear hx
           refine hK.out _ _ (c4) (fun hHeld => ?_)
           clear hK K
           try simp only [pq13]
           refine takeZ (i := 7) (v := ?vn79_7) (d := some 58) ?hyn79_7 ?restn79_7
           case hyn79_7 => intro w hSw; go_simp; try (with_reducible rfl); try exact a1 _
           try simp only [pq13]
           refine wpAnyH_ready (rs := [14]) (by kernel_rfl) (by simp) ?_
           refine AllReadyH.cons rfl (fun K hK => ?_) AllReadyH.nil
           go_simp
           go_at_call 34
           refine (wordR A c n t _ 3 3 [C.wPolicy, x, C.wFrom] H.wAny q2 _ HN.out rfl (HA.out.below (bthen HXW.out HX4.out)) HL2.out hl30 (by omega) HR.out HQ2.out).mono ?_
           rintro e z5 ⟨rfl, hx⟩
           have c5 := (hx.cell (p := ⟨bl, ol + k, none⟩) (Nat.lt_of_lt_of_le hwl HX4.out.size)).trans c4
           have HX5 := Lib.hid (bthen HX4.out hx)
           replace HL3 := Lib.hid (HL3.out.below hx)
           clear hx
           refine hK.out _ _ (c5) (fun hHeld => ?_)
           clear hK K
           try simp only [pq13]
           refine takeZ (i := 15) (v := ?vn80_15) (d := some 66) ?hyn80_15 ?restn80_15
           case hyn80_15 => intro w hSw; go_simp; try (with_reducible rfl); try exact a2 _
           try simp only [pq13]
           refine takeZ (i := 16) (v := ?vn80_16) (d := some 67) ?hyn80_16 ?restn80_16
           case hyn80_16 => intro w hSw; go_simp; try (with_reducible rfl); try exact a3 _
           try simp only [pq13]
           refine wpAnyH_ready (rs := [23]) (by kernel_rfl) (by simp) ?_
           refine AllReadyH.cons rfl (fun K hK => ?_) AllReadyH.nil
           go_simp
           go_at_call 34
           refine (wordR A c n t _ 3 3 [C.wPolicy, x, C.wTo] H.wAny q3 _ HN.out rfl (HA.out.below (bthen HXW.out HX5.out)) HL3.out hl30 (by omega) HR.out HQ3.out).mono ?_
           rintro e z6 ⟨rfl, hx⟩
           have c6 := (hx.cell (p := ⟨bl, ol + k, none⟩) (Nat.lt_of_lt_of_le hwl HX5.out.size)).trans c5
           have HX6 := Lib.hid (bthen HX5.out hx)
           clear hx
           refine hK.out _ _ (c6) (fun hHeld => ?_)
           clear hK K
           try simp only [pq13]
           refine takeZ (i := 24) (v := ?vn81_24) (d := some 75) ?hyn81_24 ?restn81_24
           case hyn81_24 => intro w hSw; go_simp; try (with_reducible rfl); try exact a4 _
           try simp only [pq13]
           refine takeZ (i := 25) (v := ?vn81_25) (d := some 10) ?hyn81_25 ?restn81_25
           case hyn81_25 => intro w hSw; go_simp; try (with_reducible rfl)
           try simp only [pq13]
           refine wpAnyH_done (by kernel_rfl) ?_ _
           exact HREST z6 g1 g2 g3 HX6.out
        ·intro z9 g1 g2 g3 hz9
         have HX9 := Lib.hid hz9
         have ci1 := ((HB.out.trans (hz9.mono HB.out.size)).cell (p := ⟨b, o + i, none⟩) hwb).trans HCI.out
         have cx1 := (hz9.cell (p := ⟨bl, ol + k, none⟩) hwl).trans c0
         clear hz9 c0
         go_wp2
         refine wp_region_held_drew (S := fun w' => w'.cell? ⟨b, o + i, none⟩ = some (.string (sB h)) ∧ w'.cell? ⟨bl, ol + k, none⟩ = some (.string (sB x))) (by kernel_rfl) ⟨ci1, cx1⟩ (fun hHeld => ?_)
         refine takeZ (i := 0) (v := ?vp0) (d := some 76) ?hyp0 ?restp0
         case hyp0 => intro w hSw; obtain ⟨hs1, hs2⟩ := hSw; go_simp; try (with_reducible rfl)
         try simp only [pq13]
         refine takeZ (i := 1) (v := ?vp1) (d := some 77) ?hyp1 ?restp1
         case hyp1 => intro w hSw; obtain ⟨hs1, hs2⟩ := hSw; go_simp; try (with_reducible rfl)
         try simp only [pq13]
         refine takeZ (i := 2) (v := ?vp2) (d := some 78) ?hyp2 ?restp2
         case hyp2 => intro w hSw; obtain ⟨hs1, hs2⟩ := hSw; go_simp; try (with_reducible rfl)
         try simp only [pq13]
         refine takeZ (i := 3) (v := ?vp3) (d := some 79) ?hyp3 ?restp3
         case hyp3 => intro w hSw; obtain ⟨hs1, hs2⟩ := hSw; go_simp; try (with_reducible rfl)
         try simp only [pq13]
         refine takeZ (i := 4) (v := ?vp4) (d := some 80) ?hyp4 ?restp4
         case hyp4 => intro w hSw; obtain ⟨hs1, hs2⟩ := hSw; go_simp; try (with_reducible rfl)
         try simp only [pq13]
         refine takeZ (i := 5) (v := ?vp5) (d := some 81) ?hyp5 ?restp5
         case hyp5 => intro w hSw; obtain ⟨hs1, hs2⟩ := hSw; go_simp; try (with_reducible rfl)
         try simp only [pq13]
         refine takeZ (i := 6) (v := ?vp6) (d := some 82) ?hyp6 ?restp6
         case hyp6 => intro w hSw; obtain ⟨hs1, hs2⟩ := hSw; go_simp; try (with_reducible rfl)
         try simp only [pq13]
         refine takeZ (i := 7) (v := ?vp7) (d := some 83) ?hyp7 ?restp7
         case hyp7 => intro w hSw; obtain ⟨hs1, hs2⟩ := hSw; go_simp; try (with_reducible rfl)
         try simp only [pq13]
         refine takeZ (i := 8) (v := ?vp8) (d := some 84) ?hyp8 ?restp8
         case hyp8 => intro w hSw; obtain ⟨hs1, hs2⟩ := hSw; go_simp; try (with_reducible rfl)
         try simp only [pq13]
         refine takeZ (i := 9) (v := ?vp9) (d := some 85) ?hyp9 ?restp9
         case hyp9 => intro w hSw; obtain ⟨hs1, hs2⟩ := hSw; go_simp; try (with_reducible rfl)
         try simp only [pq13]
         refine takeZ (i := 10) (v := ?vp10) (d := some 86) ?hyp10 ?restp10
         case hyp10 => intro w hSw; obtain ⟨hs1, hs2⟩ := hSw; go_simp; try (with_reducible rfl)
         try simp only [pq13]
         refine anyH_abs (F := fun z => Below z9.heap.size z9 z ∧ (z.cell? ⟨b, o + i, none⟩ = some (.string (sB h))) ∧ (z.cell? ⟨bl, ol + k, none⟩ = some (.string (sB x)))) ⟨(Below.refl _ _).drew, ci1, cx1⟩ (fun y0 hz => ?_)
         obtain ⟨hx, ci2, cx2⟩ := hz
         have HY := Lib.hid (bthen HX9.out hx)
         clear hx
         have HOY := Lib.hid (HO.out.keep HY.out)
         have hsz := Nat.le_trans HB.out.size HY.out.size
         refine wpAnyH_ready (rs := [11]) (by kernel_rfl) (by simp) ?_
         refine AllReadyH.cons rfl (fun K hK => ?_) AllReadyH.nil
         go_simp
         have hu := up y0 (.cells #[.string (sB h), .int .i64 5, .string (sB x), .string (sB s4)] 36)
         have ci3 := (hu.cell (p := ⟨b, o + i, none⟩) (Nat.lt_of_lt_of_le hwb hsz)).trans ci2
         have cx3 := (hu.cell (p := ⟨bl, ol + k, none⟩) (Nat.lt_of_lt_of_le hwl HY.out.size)).trans cx2
         refine hK.out _ _ (⟨ci3, cx3⟩) (fun hHeld => ?_)
         clear hK K
         try simp only [pq13]
         refine wpAnyH_ready (rs := [12]) (by kernel_rfl) (by simp) ?_
         refine AllReadyH.cons rfl (fun K hK => ?_) AllReadyH.nil
         rw [if_pos (by rfl)]
         refine wp_app3 eEd y0 (.tmp 76) (.tmp 87) rfl w2.heap.size u4 (Y ++ (PS.take k).map (H.polOne t h)) rfl HOY.out ⟨h, 5, x, s4⟩ 1 #[.string (sB h), .int .i64 5, .string (sB x), .string (sB s4)] rfl y0.heap.size rfl rfl (by have := HLN.out; omega) hsz ?_
         intro v10 w10 hG10
         have hg10 := g12_of hG10
         have HO10 := Lib.hid hG10.own
         have HB10 := Lib.hid ((HB.out.trans (HY.out.mono HB.out.size)).trans (hG10.below HOY.out hsz))
         have HD10 := Lib.hid (side_app (side_grow HD.out HY.out) hg10)
         have ci4 := (HB10.out.cell (p := ⟨b, o + i, none⟩) hwb).trans HCI.out
         obtain ⟨b9, o9, e9, _, hL9⟩ := side_seen HD10.out HS6.out HK6.out (by omega)
         injection e9 with e9
         injection e9 with e9 e9b
         subst e9
         subst e9b
         have cx4 := hL9.str hkN
         rw [HXI.out] at cx4
         clear hG10 hg10 hL9
         refine hK.out _ _ (⟨ci4, cx4⟩) (fun hHeld => ?_)
         clear hK K
         try simp only [pq13]
         refine takeZ (i := 13) (v := ?vp13) (d := some 4) ?hyp13 ?restp13
         case hyp13 => intro w hSw; obtain ⟨hs1, hs2⟩ := hSw; go_simp; try (with_reducible rfl)
         try simp only [pq13]
         refine wpAnyH_done (by kernel_rfl) ?_ _
         go_wp2
         go_roundg (pn - (k + 1))
         case rel => exact ⟨k + 1, (by show _ = _; omega), by go_num, (by rw [HNX.out]; exact HO10.out), HD10.out, HB10.out⟩
         case measure => omega
       ·have blt : decide ((k : Int) < (pn : Int)) = false := decide_eq_false (by omega)
        have blt2 : decide (k < pn) = false := decide_eq_false hltk
        have hown := HO.out
        rw [List.take_of_length_le (show PS.length ≤ k by rw [HPN0.out]; omega), ← HXN.out] at hown
        have HOZ := Lib.hid hown
        clear hown
        go_wp2
        go_roundg (hn - (i + 1))
        case rel => exact ⟨i + 1, (by show _ = _; omega), by go_num, HOZ.out, HB.out⟩
        case measure => omega
   ·have bli : decide ((i : Int) < (hn : Int)) = false := decide_eq_false (by omega)
    have bli2 : decide (i < hn) = false := decide_eq_false hlt
    have hown := HO.out
    rw [List.take_of_length_le (show HS.length ≤ i by rw [HHN.out]; omega)] at hown
    have HQF := Lib.hid (show (HS.flatMap (H.hostL t)).length ≤ 32040000 by
     have := HF1.out hn
     rw [List.take_of_length_le (Nat.le_of_eq HHN.out)] at this
     exact this)
    have HMT := Lib.hid (show (H.setE (HS.flatMap (H.hostL t))).length = m by rw [← HTA.out, ← HLT.out]; exact HM.out)
    obtain ⟨Z, hZ⟩ : ∃ z, HS.flatMap (H.hostL t) = z := ⟨_, rfl⟩
    have HZL := Lib.hid (show L = H.setE Z by rw [HLT.out, HTA.out, hZ])
    rw [hZ] at hown HQF HMT
    obtain ⟨A7, c7, rfl, hc7, hs7⟩ := hown.seen
    obtain ⟨zn, hzn⟩ : ∃ z, Z.length = z := ⟨_, rfl⟩
    have HZN := Lib.hid hzn
    have hzn2 : zn ≤ 33554431 := by rw [← hzn]; have := HQF.out; omega
    rw [hzn]
    have HS7 := Lib.hid hs7
    clear hown hs7 hzn hZ
    go_wp2_with fail
    refine (setR A7 c7 zn m Z _ HZN.out hzn2 HS7.out HMT.out).mono ?_
    rintro e w8 ⟨B8, d8, rfl, hd8, hs8, hx8⟩
    have HS8 := Lib.hid hs8
    have HX8 := Lib.hid (HX2.out.trans ((bthen HB.out hx8).mono HX2.out.size))
    clear hs8 hx8
    go_wp2
    go_ret2
    exact ⟨_, _, rfl, hd8, (by rw [HZL.out]; exact HS8.out), HX8.out⟩
 ·have hLe : L = [] ∧ er = 7 := by
   rcases HL.out with ⟨h, _, _⟩ | ⟨_, h1, h2⟩
   ·exact absurd h hf
   ·exact ⟨h1, h2⟩
  obtain ⟨rfl, rfl⟩ := hLe
  have hm0 := HM.out
  obtain rfl : 0 = m := hm0
  obtain ⟨ln, hln⟩ : ∃ z, (C.checkP (C.pths t)).length = z := ⟨_, rfl⟩
  have hl0 : 0 < ln := by rw [← hln]; exact List.length_pos_iff.2 hf
  rw [hln]
  have b1 : decide ((0 : Int) < (ln : Int)) = true := decide_eq_true (by omega)
  have b2 : decide (0 < ln) = true := decide_eq_true hl0
  clear hln hf HL
  go_wp2
  go_ret2
  exact ⟨_, _, rfl, Nat.le_refl _, (fun hl => absurd hl (by simp)), HX1.out⟩
theorem refcomp_ok : RefCompOk := ⟨fun A c n m t L er w hn hl hA hR hL hm => compileR A c n m t L er w hn hl hA hR hL hm⟩
end Go.Proofs.YtfcikfohmehmkaaGreatDoor
