/-
  Contract of the code's policies: the entries Policy of all hosts. Condition: a tree of at most 200 lines, at most 200 hosts.
  Layer 13's code, plain laws: which row of the code's table a path meets, what that says of its types, its needs, what it clashes with. No conditions.
  Layer 10: what addr does, as one premise (AddrOk); and that 'awake' is true under it. No conditions.
  Plain laws for layer 10's code: a text cut at a byte's first place; bits of numbers; a hardware address read byte by byte. No conditions.
  Layer 10's code: isBelow, isPrefix, number, Num, In. No conditions but the texts' length.
  What the library proves once of internal/stringslite.Index at one byte, strings.CutPrefix, and strings.TrimRight of one byte, at this program's numbers; strings.Cut at one byte, walked. No conditions.
  What the library proves once of strings.IndexByte and strconv.AppendInt, at this program's numbers. Condition: for AppendInt that the library's table uint64pow10 holds its numbers.
  Layer 10's code: IP, Prefix, MAC, In. Condition: texts of at most 100 bytes.
  Layer 10's code: MAC, IPText, PrefixText, MACText; all that addr does (addr_ok). Condition: texts of at most 100 bytes.
  Layer 11: what metric does, as one premise (MetricOk); a []float64 that comes in; and that 'awake' is true under it. No conditions.
  Plain laws for layer 11's code: rounding to a whole number by bits; a number times 1000, rounded, and divided again; a text without its sign, by what stands ahead of the first point and behind it; the digits behind the point; the least one so far. No conditions.
  Layer 11's code: what math.IsNaN, Signbit, Abs, Copysign, IsInf and Round do with a word. Condition: for Round a number from 0 on, below 2^32.
-/
import Derived.Test.YtfcikfohmehmkaaGreatDoorBase10
import Derived.Shelf.Strconv.Itoa3
import Derived.Lib.AppendIntMem
import Derived.Lib.IndexLaws
import Derived.Laws.Bits64b
import Derived.Laws.BitsLemmas
import Derived.IntWalk
import Derived.Shelf.Strings.Search2
import Derived.Shelf.Strings.Trim
import Derived.Shelf.Small.Wraps
import Derived.Deep.QuietTactic
import Derived.BigQuiet
import Derived.Shelf.Strconv.AppendIntPublic10
import Derived.Shelf.Small.Strs
import Derived.Lib.TrimByte
import Derived.Laws.BitsAllLaws

namespace Go.Proofs.YtfcikfohmehmkaaGreatDoor
open Go.RowKit
set_option linter.unusedVariables false
set_option linter.unusedSimpArgs false

/-- A literal row of one entry. -/
theorem vec_ent (w : World) (x : H.En) : VecAt eEc (w.alloc (.cells #[.string (sB x.host), .int .i64 x.kind, .string (sB x.key), .string (sB x.val)] 35)) (.slice (some ⟨w.heap.size, 0, none⟩) 1 1) [x] := by
  refine .inr ⟨w.heap.size, 0, 1, rfl, Nat.le_refl _, by simp, fun i hi j u hu => ?_⟩
  have hi0 : i = 0 := by simpa using hi
  subst hi0
  have := new_cellsG eEc.T w #[.string (sB x.host), .int .i64 x.kind, .string (sB x.key), .string (sB x.val)] (eEc.C x) rfl j u hu
  rw [add_off, Nat.zero_add] at this
  rw [← this]; congr 2; omega
set_option maxRecDepth 100000 in
set_option maxHeartbeats 16000000 in
theorem polsC14 (A B : Option Addr) (c d n k : Nat) (t : List T.Ln) (N : List H.Nd) (L : List H.En) (w : World) (hn : t.length = n) (hA : Seen eL w A t) (hl : n ≤ 200) (hR : T.RightT t) (hk : N.length = k) (hB : SeenN w B N) (hkl : k ≤ 200) (hv : ∀ x ∈ N, x.vn.length ≤ 200) (hL : H.polsC t N = L) :
    Calls Tryz.prog 31 #[.slice A n c, .slice B k d] w (fun e w' => ∃ v, e = .returned v ∧ Own eEc w' w.heap.size v L ∧ Below w.heap.size w w') := by
  have HN := Lib.hid hn
  have HA := Lib.hid hA
  have HR := Lib.hid hR
  have HK := Lib.hid hk
  have HBN := Lib.hid hB
  have HV := Lib.hid hv
  obtain ⟨l, hu⟩ : ∃ l, T.underW t [C.wPolicy] = l := ⟨_, rfl⟩
  obtain ⟨m, hm⟩ : ∃ m, l.length = m := ⟨_, rfl⟩
  have HU := Lib.hid hu
  have HM := Lib.hid hm
  have HL := Lib.hid (show l.flatMap (H.polAt t N) = L by rw [← hL, ← hu]; rfl)
  have HLW := Lib.hid (show ∀ x ∈ l, x.length ≤ 40 from fun x hx => T.underW_word hR (by rw [hu]; exact hx))
  have hmn : m ≤ 200 := by
    have h1 := T.underW_len hR [C.wPolicy]
    rw [hu] at h1
    omega
  have HBF := Lib.hid (show ∀ q, ((l.take q).flatMap (H.polAt t N)).length ≤ 40000 from fun q => H.flat_take _ 200 200 q l (fun i _ => by unfold H.polAt; rw [List.length_map]; omega) (by omega))
  have HWL := Lib.hid (fun (p : T.Pth) (o : List UInt8) (ho : o.length ≤ 40) => H.word_long hR p ho)
  clear hn hA hR hk hB hv hL hu hm
  go_enter Tryz.func31, Tryz.ntmps31
  go_wp2_with fail
  refine (wordsC A _ c 1 n 1 m t [C.wPolicy] l _ HN.out rfl (HA.out.below (up w _)) (lit_seen eS w [C.wPolicy] _ rfl (by simp)) (by omega) (by omega) (by omega) HR.out HU.out HM.out).mono ?_
  rintro e w1 ⟨C1, d1, rfl, hd1, hp1, hx⟩
  have hb1 := bthen (up w _) hx
  have HP1 := Lib.hid hp1
  clear hp1 hx
  go_wp2
  go_loopg [5, 15] m (fun gk vo vi wr => ∃ q : Nat, Hid (q + gk = m) ∧ q ≤ m ∧ vi = .int .i64 (q : Int) ∧ Hid (Own eEc wr w1.heap.size vo ((l.take q).flatMap (H.polAt t N))) ∧ Hid (Below w1.heap.size w1 wr))
  case atStart => exact ⟨0, Nat.zero_add _, Nat.zero_le _, rfl, Own.nil _ _, Below.refl _ _⟩
  case round =>
    obtain ⟨q, HGK, hq, rfl, HO, HB⟩ := hrel
    have hgk := HGK.out
    by_cases hlt : q < m
    · have blt : decide ((q : Int) < (m : Int)) = true := decide_eq_true (by omega)
      have blt2 : decide (q < m) = true := decide_eq_true hlt
      have hki : (q : Int) < (m : Int) := by omega
      have hql : q < l.length := by have := HM.out; omega
      obtain ⟨b3, o3, e3, hw3, hL3⟩ := HP1.out.pt.seen (by omega)
      have e3 : C1 = some ⟨b3, o3, none⟩ := e3
      subst e3
      have c0 := (hL3.below HB.out hw3).str hql
      have HXI := Lib.hid (H.flat_next (H.polAt t N) (List.getElem?_eq_getElem hql))
      have HIL := Lib.hid (HLW.out _ (List.getElem_mem hql))
      clear hL3
      generalize l[q] = i at c0 HXI HIL
      obtain ⟨ac, hac⟩ : ∃ v, H.wordH t [C.wPolicy, i, C.wAction] [] = v := ⟨_, rfl⟩
      obtain ⟨fr, hfr⟩ : ∃ v, H.wordH t [C.wPolicy, i, C.wFrom] H.wAny = v := ⟨_, rfl⟩
      obtain ⟨to, hto⟩ : ∃ v, H.wordH t [C.wPolicy, i, C.wTo] H.wAny = v := ⟨_, rfl⟩
      obtain ⟨jr, hjr⟩ : ∃ v, ac ++ 32 :: (fr ++ 32 :: to) = v := ⟨_, rfl⟩
      have HAC := Lib.hid hac
      have HFR := Lib.hid hfr
      have HTO := Lib.hid hto
      have HJR := Lib.hid hjr
      have HAL := Lib.hid (show ac.length ≤ 40 ∧ fr.length ≤ 40 ∧ to.length ≤ 40 from ⟨by rw [← hac]; exact HWL.out _ _ (by simp), by rw [← hfr]; exact HWL.out _ _ (by decide), by rw [← hto]; exact HWL.out _ _ (by decide)⟩)
      obtain ⟨F, hF⟩ : ∃ F : H.Nd → H.En, F = fun h => H.polOne t h.name i := ⟨_, rfl⟩
      have HAT := Lib.hid (show H.polAt t N i = N.map F by rw [hF]; rfl)
      have HFD := Lib.hid (show ∀ h, F h = ⟨h.name, 5, i, jr⟩ from fun h => by rw [hF, ← hjr, ← hac, ← hfr, ← hto]; rfl)
      have HSQ := Lib.hid (HA.out.below (hb1.trans (HB.out.mono hb1.size)))
      have hszr := HB.out.size
      obtain ⟨wo, hwo⟩ : ∃ wo, wo = wr := ⟨_, rfl⟩
      subst hwo
      clear hac hfr hto hjr hF
      go_wp2_with fail
      refine (saidC A _ c 3 n 3 t [C.wPolicy, i, C.wAction] [] ac _ HN.out rfl (HSQ.out.below (up wo _)) (lit_seen eS wo [C.wPolicy, i, C.wAction] _ rfl (by simp)) (by omega) (by omega) (by omega) HR.out HAC.out).mono ?_
      rintro e w2 ⟨rfl, hx⟩
      have hb2 := bthen (up wo _) hx
      clear hx
      go_wp2_with fail
      refine (saidC A _ c 3 n 3 t [C.wPolicy, i, C.wFrom] H.wAny fr _ HN.out rfl (HSQ.out.below (bthen hb2 (up w2 _))) (lit_seen eS w2 [C.wPolicy, i, C.wFrom] _ rfl (by simp)) (by omega) (by omega) (by omega) HR.out HFR.out).mono ?_
      rintro e w3 ⟨rfl, hx⟩
      have hb3 := bthen hb2 (bthen (up w2 _) hx)
      clear hx
      go_wp2_with fail
      refine (saidC A _ c 3 n 3 t [C.wPolicy, i, C.wTo] H.wAny to _ HN.out rfl (HSQ.out.below (bthen hb3 (up w3 _))) (lit_seen eS w3 [C.wPolicy, i, C.wTo] _ rfl (by simp)) (by omega) (by omega) (by omega) HR.out HTO.out).mono ?_
      rintro e w4 ⟨rfl, hx⟩
      have hb4 := bthen hb3 (bthen (up w3 _) hx)
      clear hx
      obtain ⟨gr, hgr⟩ : ∃ gr, w4.heap.size = gr := ⟨_, rfl⟩
      obtain ⟨W5, hW5⟩ : ∃ W5, w4.alloc (.cells #[.string (sB ac), .string (sB fr), .string (sB to)] 9) = W5 := ⟨_, rfl⟩
      have HRU := Lib.hid (show Seen eS W5 (some ⟨gr, 0, none⟩) [ac, fr, to] by rw [← hW5]; exact lit_at14 w4 [ac, fr, to] _ gr hgr rfl (by simp))
      have hb5 : Below wo.heap.size wo W5 := by rw [← hW5]; exact bthen hb4 (up w4 _)
      have HB5 := Lib.hid (show Below w1.heap.size w1 W5 from HB.out.trans (hb5.mono hszr))
      have HO5 := Lib.hid (HO.out.keep hb5)
      have HSD := Lib.hid (show Side12 gr W5 W5 u5 from side_start HO.out (by rw [← hgr]; exact hb4.size))
      have HGR := Lib.hid hgr
      have HW5 := Lib.hid hW5
      clear hgr hW5 hb2 hb3 hb4 hb5
      obtain ⟨p0, hp0⟩ : ∃ p0, (l.take q).flatMap (H.polAt t N) = p0 := ⟨_, rfl⟩
      have HP0 := Lib.hid (show p0.length ≤ 40000 by rw [← hp0]; exact HBF.out q)
      rw [hp0] at HO5 HXI
      clear hp0
      go_wp2
      go_loopg [5, 34] k (fun gk2 vo vi w2 => ∃ j : Nat, Hid (j + gk2 = k) ∧ j ≤ k ∧ vi = .int .i64 (j : Int) ∧ Hid (Own eEc w2 w1.heap.size vo (p0 ++ (N.take j).map F)) ∧ Hid (Below w1.heap.size w1 w2) ∧ Hid (Side12 gr W5 w2 vo))
      case atStart => exact ⟨0, Nat.zero_add _, Nat.zero_le _, rfl, (by show Own eEc _ _ _ _; rw [HW5.out]; simpa using HO5.out), (by show Below _ _ _; rw [HW5.out]; exact HB5.out), (by show Side12 _ _ _ _; rw [HW5.out]; exact HSD.out)⟩
      case round =>
        obtain ⟨j, HG3, hj, rfl, HO3, HB3, HS3⟩ := hrel
        have hgk3 := HG3.out
        by_cases hlj : j < k
        · have blj : decide ((j : Int) < (k : Int)) = true := decide_eq_true (by omega)
          have blj2 : decide (j < k) = true := decide_eq_true hlj
          have hji : (j : Int) < (k : Int) := by omega
          have hjl : j < N.length := by have := HK.out; omega
          have HBW := Lib.hid (hb1.trans (HB3.out.mono hb1.size))
          obtain ⟨b9, o9, m9, rfl, hpt9, hcs9⟩ := HBN.out.one hjl
          obtain ⟨x0, x1, x2⟩ := hcs9 wr HBW.out
          have HXJ := Lib.hid (H.map_next F (List.getElem?_eq_getElem hjl))
          have HMV9 := Lib.hid (HV.out _ (List.getElem_mem hjl))
          have HPT9 := Lib.hid hpt9
          clear hcs9 hpt9
          generalize N[j] = h at x0 x1 x2 HXJ HPT9 HMV9
          obtain ⟨ha, hi, hvn⟩ := h
          obtain ⟨m9A, m9n, m9c⟩ := m9
          simp only at x0 x1 x2 HMV9 HPT9
          obtain ⟨w7, hw7⟩ : ∃ w7, w7 = wr := ⟨_, rfl⟩
          subst hw7
          obtain ⟨gh, hgh⟩ : ∃ gh, w7.heap.size = gh := ⟨_, rfl⟩
          obtain ⟨W8, hW8⟩ : ∃ W8, w7.alloc (.cells #[.string (sB ha), .string (sB hi), .slice m9A m9n m9c] 96) = W8 := ⟨_, rfl⟩
          have hup : Below w7.heap.size w7 W8 := by rw [← hW8]; exact up w7 _
          have HNH := Lib.hid (show NdB W8 gh ha hi ⟨m9A, m9n, m9c⟩ by rw [← hW8, ← hgh]; exact NdB.born w7 ha hi ⟨m9A, m9n, m9c⟩)
          have HSH := Lib.hid (show Side12 gh W8 W8 u5 from side_start HO3.out (by rw [hgh]; exact Nat.le_refl _))
          have HB8 := Lib.hid (HB3.out.trans (hup.mono HB3.out.size))
          have HS8 := Lib.hid (side_grow HS3.out hup)
          have HO8 := Lib.hid (HO3.out.keep hup)
          have HRW := Lib.hid (side_seen HS8.out HRU.out (fun a h => by injection h with h; rw [← h]; exact Nat.le_refl _))
          have HLN := Lib.hid (show (p0 ++ (N.take j).map F).length ≤ 40200 by rw [List.length_append, List.length_map, List.length_take]; have := HP0.out; omega)
          have HE1 := Lib.hid (HFD.out ⟨ha, hi, hvn⟩)
          have HW8 := Lib.hid hW8
          have HGH := Lib.hid hgh
          have c8 := HNH.out.cells.1
          clear hup hW8 hgh
          go_wp2
          rw [HGH.out, HW8.out]
          refine wp_region_held_drew (S := fun w' => w'.cell? ⟨gh, 0, none⟩ = some (.string (sB ha))) (by kernel_rfl) c8 (fun hHeld => ?_)
          refine takeD13 (i := 0) (v := ?vm0) (d := some 38) rfl rfl (by kernel_rfl) (by kernel_rfl) (by kernel_rfl) (fun _ _ _ h => h) (Or.inl ⟨by rfl, ?hym0⟩) (by assumption) ?restm0
          case hym0 => intro w hSw; go_simp; try (with_reducible rfl)
          try simp only [Act.put, List.setIfInBounds_toArray, List.set_cons_zero, List.set_cons_succ]
          refine takeD13 (i := 1) (v := ?vm1) (d := some 39) rfl rfl (by kernel_rfl) (by kernel_rfl) (by kernel_rfl) (fun _ _ _ h => h) (Or.inl ⟨by rfl, ?hym1⟩) (by assumption) ?restm1
          case hym1 => intro w hSw; go_simp; try (with_reducible rfl)
          try simp only [Act.put, List.setIfInBounds_toArray, List.set_cons_zero, List.set_cons_succ]
          refine takeD13 (i := 2) (v := ?vm2) (d := some 40) rfl rfl (by kernel_rfl) (by kernel_rfl) (by kernel_rfl) (fun _ _ _ h => h) (Or.inl ⟨by rfl, ?hym2⟩) (by assumption) ?restm2
          case hym2 => intro w hSw; go_simp; try (with_reducible rfl)
          try simp only [Act.put, List.setIfInBounds_toArray, List.set_cons_zero, List.set_cons_succ]
          refine takeD13 (i := 3) (v := ?vm3) (d := some 41) rfl rfl (by kernel_rfl) (by kernel_rfl) (by kernel_rfl) (fun _ _ _ h => h) (Or.inl ⟨by rfl, ?hym3⟩) (by assumption) ?restm3
          case hym3 => intro w hSw; go_simp; try (with_reducible rfl)
          try simp only [Act.put, List.setIfInBounds_toArray, List.set_cons_zero, List.set_cons_succ]
          refine takeD13 (i := 4) (v := ?vm4) (d := some 42) rfl rfl (by kernel_rfl) (by kernel_rfl) (by kernel_rfl) (fun _ _ _ h => h) (Or.inl ⟨by rfl, ?hym4⟩) (by assumption) ?restm4
          case hym4 => intro w hSw; go_simp; try (with_reducible rfl)
          try simp only [Act.put, List.setIfInBounds_toArray, List.set_cons_zero, List.set_cons_succ]
          refine wpAnyH_ready (rs := [5]) (by kernel_rfl) (by simp) ?_
          refine AllReadyH.cons rfl (fun K hK => ?_) AllReadyH.nil
          go_simp
          go_at_call 61
          refine (join3 w4.heap.size 3 ac fr to jr W8.drew (by rw [HGR.out]; exact HRW.out) (by omega) (by have := HAL.out; omega) (by have := HAL.out; omega) (by have := HAL.out; omega) HJR.out).mono ?_
          rintro e y1 ⟨rfl, hx1⟩
          have hby : Below W8.heap.size W8 y1 := (Below.refl _ _).drew.trans hx1
          have HY1 := Lib.hid hby
          have HO9 := Lib.hid (HO8.out.keep hby)
          have HS9 := Lib.hid (side_grow HS8.out hby)
          have HSH9 := Lib.hid (side_grow HSH.out hby)
          have HB9 := Lib.hid (HB8.out.trans (hby.mono HB8.out.size))
          have c9 := (HNH.out.keep hby HNH.out.lt).cells.1
          clear hx1 hby
          refine hK.out _ _ c9 (fun hHeld => ?_)
          clear hK K
          try simp only [Act.put, List.setIfInBounds_toArray, List.set_cons_zero, List.set_cons_succ]
          refine takeD13 (i := 6) (v := ?vm6) (d := some 44) rfl rfl (by kernel_rfl) (by kernel_rfl) (by kernel_rfl) (fun _ _ _ h => h) (Or.inl ⟨by rfl, ?hym6⟩) (by assumption) ?restm6
          case hym6 => intro w hSw; go_simp; try (with_reducible rfl)
          try simp only [Act.put, List.setIfInBounds_toArray, List.set_cons_zero, List.set_cons_succ]
          refine wpAnyH_ready (rs := [7]) (by kernel_rfl) (by simp) ?_
          refine AllReadyH.cons rfl (fun K hK => ?_) AllReadyH.nil
          go_simp
          have hu1 := up y1 (.cells #[.string (sB ha), .int .i64 5, .string (sB i), .string (sB jr)] 35)
          have HO10 := Lib.hid (HO9.out.keep hu1)
          have HS10 := Lib.hid (side_grow HS9.out hu1)
          have HSH10 := Lib.hid (side_grow HSH9.out hu1)
          have HB10 := Lib.hid (HB9.out.trans (hu1.mono HB9.out.size))
          have c10 := ((HNH.out.side HSH10.out (Nat.le_refl _)).cells).1
          have hsz10 := HB10.out.size
          clear hu1
          refine hK.out _ _ c10 (fun hHeld => ?_)
          clear hK K
          try simp only [Act.put, List.setIfInBounds_toArray, List.set_cons_zero, List.set_cons_succ]
          refine wpAnyH_ready (rs := [8]) (by kernel_rfl) (by simp) ?_
          refine AllReadyH.cons rfl (fun K hK => ?_) AllReadyH.nil
          rw [if_pos (by rfl)]
          refine wp_appMr eEc _ (.tmp 38) (.tmp 45) rfl w1.heap.size u5 (p0 ++ (N.take j).map F) rfl HO10.out _ [⟨ha, 5, i, jr⟩] rfl (vec_ent y1 ⟨ha, 5, i, jr⟩) (by have := HLN.out; rw [List.length_singleton]; omega) hsz10 ?_
          intro v11 w11 ho11 hb11 hg11
          have HO11 := Lib.hid ho11
          have HB11 := Lib.hid (HB10.out.trans hb11)
          have HS11 := Lib.hid (side_app HS10.out hg11)
          have c11 := ((HNH.out.side (side_app HSH10.out hg11) (Nat.le_refl _)).cells).1
          clear ho11 hb11 hg11
          refine hK.out _ _ c11 (fun hHeld => ?_)
          clear hK K
          try simp only [Act.put, List.setIfInBounds_toArray, List.set_cons_zero, List.set_cons_succ]
          refine takeD13 (i := 9) (v := ?vm9) (d := some 5) rfl rfl (by kernel_rfl) (by kernel_rfl) (by kernel_rfl) (fun _ _ _ h => h) (Or.inl ⟨by rfl, ?hym9⟩) (by assumption) ?restm9
          case hym9 => intro w hSw; go_simp; try (with_reducible rfl)
          try simp only [Act.put, List.setIfInBounds_toArray, List.set_cons_succ]
          refine wpAnyH_done (by kernel_rfl) ?_ _
          go_wp2
          go_roundg (k - (j + 1))
          case rel => exact ⟨j + 1, (by show _ = _; omega), by omega, by go_num, (by show Own eEc _ _ _ _; rw [HXJ.out, HE1.out, ← List.append_assoc]; exact HO11.out), HB11.out, HS11.out⟩
          case measure => omega
        · have blj : decide ((j : Int) < (k : Int)) = false := decide_eq_false (by omega)
          have blj2 : decide (j < k) = false := decide_eq_false hlj
          have HE := Lib.hid (show p0 ++ (N.take j).map F = (l.take (q + 1)).flatMap (H.polAt t N) by
            rw [List.take_of_length_le (by have := HK.out; omega), HXI.out, HAT.out])
          go_wp2
          go_roundg (m - (q + 1))
          case rel => exact ⟨q + 1, (by show _ = _; omega), by omega, by go_num, (by show Own eEc _ _ _ _; rw [← HE.out]; exact HO3.out), HB3⟩
          case measure => omega
    · have blt : decide ((q : Int) < (m : Int)) = false := decide_eq_false (by omega)
      have blt2 : decide (q < m) = false := decide_eq_false hlt
      have HE := Lib.hid (show (l.take q).flatMap (H.polAt t N) = L by rw [List.take_of_length_le (by have := HM.out; omega)]; exact HL.out)
      go_wp2
      go_ret
      exact ⟨_, rfl, by rw [← HE.out]; exact HO.out.lower hb1.size, hb1.trans (HB.out.mono hb1.size)⟩
end Go.Proofs.YtfcikfohmehmkaaGreatDoor

namespace Go.Proofs.YtfcikfohmehmkaaGreatDoor
open C (Wd)
open T (Pth)
set_option linter.unusedVariables false

abbrev Rw := Wd × Wd × Bool × Bool
namespace C
/-- May a word stand where the table has that one? -/
def standsB (w s : Wd) : Bool := if s.head? = some 36 then typeB s w else decide (w = s)
def matchB : Pth → List Wd → Bool
  | [], [] => true
  | a :: p, s :: l => standsB a s && matchB p l
  | _, _ => false
/-- Is a path, word by word, what the table says? -/
def meetsB (p : Pth) (said : Wd) : Bool := matchB p (N.splitL 32 said)
theorem match_nil {l : List Wd} (h : l ≠ []) : matchB [] l = false := by cases l with | nil => exact absurd rfl h | cons => rfl
theorem match_none (p : Pth) : p ≠ [] → matchB p [] = false := by cases p with | nil => exact fun h => absurd rfl h | cons => exact fun _ => rfl
theorem meets_nil (s : Wd) : meetsB [] s = false := match_nil (N.split_ne 32 s)
/-- Some rows with their words. -/
def wordsS : List (List Wd × Rw) := [([wHosts], (wHosts, kName, false, false)), ([wHosts, kName, wIp], (wHosts ++ 32 :: (kName ++ 32 :: wIp), kIp, true, true)), ([wHosts, kName, wMac], (wHosts ++ 32 :: (kName ++ 32 :: wMac), kMac, true, false)), ([wHosts, kName, wVnis], (wHosts ++ 32 :: (kName ++ 32 :: wVnis), kVni, false, false)),
  ([wVnis], (wVnis, kVni, false, false)), ([wVnis, kVni, wSubnet], (wVnis ++ 32 :: (kVni ++ 32 :: wSubnet), kPrefix, true, true)),
  ([wBindings], (wBindings, kIp, false, false)), ([wBindings, kIp, wHost], (wBindings ++ 32 :: (kIp ++ 32 :: wHost), kName, true, true)), ([wBindings, kIp, wMac], (wBindings ++ 32 :: (kIp ++ 32 :: wMac), kMac, true, true)), ([wBindings, kIp, wVni], (wBindings ++ 32 :: (kIp ++ 32 :: wVni), kVni, true, true)),
  ([wRoutes], (wRoutes, kPrefix, false, false)), ([wRoutes, kPrefix, wVia], (wRoutes ++ 32 :: (kPrefix ++ 32 :: wVia), kName, true, true)), ([wRoutes, kPrefix, wMetric], (wRoutes ++ 32 :: (kPrefix ++ 32 :: wMetric), kMetric, true, false)),
  ([wPolicy], (wPolicy, kNum, false, false)), ([wPolicy, kNum, wAction], (wPolicy ++ 32 :: (kNum ++ 32 :: wAction), kAction, true, true)), ([wPolicy, kNum, wFrom], (wPolicy ++ 32 :: (kNum ++ 32 :: wFrom), kPrefix, true, false)), ([wPolicy, kNum, wTo], (wPolicy ++ 32 :: (kNum ++ 32 :: wTo), kPrefix, true, false))]
theorem rows_words : rowsL = wordsS.map (·.2) := by decide +kernel
theorem words_said : ∀ x ∈ wordsS, N.splitL 32 x.2.1 = x.1 := by decide +kernel
theorem find_words (p : Pth) : ∀ l : List (List Wd × Rw), (∀ x ∈ l, N.splitL 32 x.2.1 = x.1) → (l.map (·.2)).find? (fun r => meetsB p r.1) = (l.find? fun x => matchB p x.1).map (·.2)
  | [], _ => rfl
  | x :: l, h => by
    rw [List.map_cons, List.find?_cons, List.find?_cons]
    show (match meetsB p x.2.1 with | true => _ | false => _) = _
    unfold meetsB
    rw [h x List.mem_cons_self]
    cases matchB p x.1
    · exact find_words p l fun y hy => h y (List.mem_cons_of_mem _ hy)
    · rfl
/-- The first row whose first path a path is. -/
def firstR (p : Pth) : Option Rw := rowsL.find? fun r => meetsB p r.1
theorem first_words (p : Pth) : firstR p = (wordsS.find? fun x => matchB p x.1).map (·.2) := by
  unfold firstR; rw [rows_words]; exact find_words p wordsS words_said
theorem st_hosts (a : Wd) : standsB a wHosts = decide (a = wHosts) := rfl
theorem st_vnis (a : Wd) : standsB a wVnis = decide (a = wVnis) := rfl
theorem st_bindings (a : Wd) : standsB a wBindings = decide (a = wBindings) := rfl
theorem st_routes (a : Wd) : standsB a wRoutes = decide (a = wRoutes) := rfl
theorem st_policy (a : Wd) : standsB a wPolicy = decide (a = wPolicy) := rfl
theorem st_ip (a : Wd) : standsB a wIp = decide (a = wIp) := rfl
theorem st_mac (a : Wd) : standsB a wMac = decide (a = wMac) := rfl
theorem st_subnet (a : Wd) : standsB a wSubnet = decide (a = wSubnet) := rfl
theorem st_host (a : Wd) : standsB a wHost = decide (a = wHost) := rfl
theorem st_vni (a : Wd) : standsB a wVni = decide (a = wVni) := rfl
theorem st_via (a : Wd) : standsB a wVia = decide (a = wVia) := rfl
theorem st_metric (a : Wd) : standsB a wMetric = decide (a = wMetric) := rfl
theorem st_action (a : Wd) : standsB a wAction = decide (a = wAction) := rfl
theorem st_from (a : Wd) : standsB a wFrom = decide (a = wFrom) := rfl
theorem st_to (a : Wd) : standsB a wTo = decide (a = wTo) := rfl
theorem sk_name (a : Wd) : standsB a kName = typeB kName a := rfl
theorem sk_ip (a : Wd) : standsB a kIp = typeB kIp a := rfl
theorem sk_prefix (a : Wd) : standsB a kPrefix = typeB kPrefix a := rfl
theorem sk_vni (a : Wd) : standsB a kVni = typeB kVni a := rfl
theorem sk_num (a : Wd) : standsB a kNum = typeB kNum a := rfl
theorem type_none (w : Wd) : typeB [] w = false := rfl
theorem mB1 (a s : Wd) : matchB [a] [s] = standsB a s := by show (standsB a s && true) = _; rw [Bool.and_true]
theorem mB13 (a s1 s2 s3 : Wd) : matchB [a] [s1, s2, s3] = false := by show (standsB a s1 && false) = _; rw [Bool.and_false]
theorem mB21 (a b s : Wd) : matchB [a, b] [s] = false := by show (standsB a s && false) = _; rw [Bool.and_false]
theorem mB23 (a b s1 s2 s3 : Wd) : matchB [a, b] [s1, s2, s3] = false := by show (standsB a s1 && (standsB b s2 && false)) = _; rw [Bool.and_false, Bool.and_false]
theorem mB31 (a b c s : Wd) : matchB [a, b, c] [s] = false := by show (standsB a s && false) = _; rw [Bool.and_false]
theorem mB33 (a b c s1 s2 s3 : Wd) : matchB [a, b, c] [s1, s2, s3] = (standsB a s1 && (standsB b s2 && standsB c s3)) := by show (standsB a s1 && (standsB b s2 && (standsB c s3 && true))) = _; rw [Bool.and_true]
theorem mB4 (a b c d : Wd) (r : Pth) (l : List Wd) (h : l.length ≤ 3) : matchB (a :: b :: c :: d :: r) l = false := by
  match l, h with
  | [], _ => rfl
  | [x], _ => show (standsB a x && false) = _; rw [Bool.and_false]
  | [x, y], _ => show (standsB a x && (standsB b y && false)) = _; rw [Bool.and_false, Bool.and_false]
  | [x, y, z], _ => show (standsB a x && (standsB b y && (standsB c z && false))) = _; rw [Bool.and_false, Bool.and_false, Bool.and_false]
theorem first_one (a : Wd) : firstR [a] = if secondW a = [] then none else some (a, secondW a, false, false) := by
  rw [first_words]
  by_cases h1 : a = wHosts
  · subst h1; decide +kernel
  by_cases h2 : a = wVnis
  · subst h2; decide +kernel
  by_cases h3 : a = wBindings
  · subst h3; decide +kernel
  by_cases h4 : a = wRoutes
  · subst h4; decide +kernel
  by_cases h5 : a = wPolicy
  · subst h5; decide +kernel
  simp only [wordsS, List.find?_cons, List.find?_nil, mB1, mB13, st_hosts, st_vnis, st_bindings, st_routes, st_policy, decide_eq_false h1, decide_eq_false h2, decide_eq_false h3, decide_eq_false h4, decide_eq_false h5]
  unfold secondW
  rw [if_neg h1, if_neg h2, if_neg h3, if_neg h4, if_neg h5]; rfl
theorem first_two (a b : Wd) : firstR [a, b] = none := by
  rw [first_words]
  simp only [wordsS, List.find?_cons, List.find?_nil, mB21, mB23]; rfl
theorem first_many (a b c d : Wd) (r : Pth) : firstR (a :: b :: c :: d :: r) = none := by
  rw [first_words, List.find?_eq_none.2]
  · rfl
  · intro x hx
    rw [mB4 a b c d r x.1 ((show ∀ x ∈ wordsS, x.1.length ≤ 3 by decide +kernel) x hx)]; decide
theorem first_nil : firstR [] = none := by decide +kernel
theorem key_ne {x y z : Wd} (h : y ≠ z) : key x y ≠ key x z := fun e => h (by unfold key at e; have := List.append_cancel_left e; injection this)
theorem head_ne {x y u v : Wd} (h : x.take 4 ≠ y.take 4 ∧ 4 ≤ x.length ∧ 4 ≤ y.length) : key x u ≠ key y v := fun e => h.1 (by
  have := congrArg (List.take 4) e
  unfold key at this
  rwa [List.take_append_of_le_length h.2.1, List.take_append_of_le_length h.2.2] at this)
theorem third_none {z : Wd} (h : ∀ k ∈ [key wHosts wIp, key wHosts wMac, key wHosts wVnis, key wVnis wSubnet, key wBindings wHost, key wRoutes wVia, key wBindings wMac, key wBindings wVni, key wRoutes wMetric, key wPolicy wAction, key wPolicy wFrom, key wPolicy wTo], z ≠ k) : thirdK z = ([], false, false) := by
  simp only [List.forall_mem_cons] at h
  obtain ⟨h1, h2, h3, h4, h5, h6, h7, h8, h9, h10, h11, h12, _⟩ := h
  unfold thirdK
  rw [if_neg h1, if_neg h2, if_neg h3, if_neg h4, if_neg (by rintro (h | h); exact h5 h; exact h6 h), if_neg h7, if_neg h8, if_neg h9, if_neg h10, if_neg (by rintro (h | h); exact h11 h; exact h12 h)]
/-- A row's first path, of three words. -/
def said3 (a c : Wd) : Wd := a ++ 32 :: (secondW a ++ 32 :: c)
/-- What the table says of a path of three words. -/
def row3 (a b c : Wd) : Option Rw := if typeB (secondW a) b = true then (if (thirdK (key a c)).1 = [] then none else some (said3 a c, thirdK (key a c))) else none
theorem first_three (a b c : Wd) : firstR [a, b, c] = row3 a b c := by
  rw [first_words]
  unfold row3
  by_cases h1 : a = wHosts
  · subst h1
    rw [show secondW wHosts = kName from rfl]
    simp only [wordsS, List.find?_cons, List.find?_nil, mB31, mB33, st_hosts, st_vnis, st_bindings, st_routes, st_policy, sk_name, show decide (wHosts = wVnis) = false from rfl, show decide (wHosts = wBindings) = false from rfl, show decide (wHosts = wRoutes) = false from rfl, show decide (wHosts = wPolicy) = false from rfl, Bool.false_and, st_ip, st_mac, st_vnis]
    cases typeB kName b with
    | false => rfl
    | true =>
      by_cases g1 : c = wIp
      · subst g1; decide +kernel
      by_cases g2 : c = wMac
      · subst g2; decide +kernel
      by_cases g3 : c = wVnis
      · subst g3; decide +kernel
      rw [third_none (by
        simp only [List.forall_mem_cons]
        refine ⟨key_ne g1, key_ne g2, key_ne g3, head_ne (by decide), head_ne (by decide), head_ne (by decide), head_ne (by decide), head_ne (by decide), head_ne (by decide), head_ne (by decide), head_ne (by decide), head_ne (by decide), fun _ h => by cases h⟩)]
      rw [decide_eq_false g1, decide_eq_false g2, decide_eq_false g3]; rfl
  by_cases h2 : a = wVnis
  · subst h2
    rw [show secondW wVnis = kVni from rfl]
    simp only [wordsS, List.find?_cons, List.find?_nil, mB31, mB33, st_hosts, st_vnis, st_bindings, st_routes, st_policy, sk_vni, show decide (wVnis = wBindings) = false from rfl, show decide (wVnis = wRoutes) = false from rfl, show decide (wVnis = wPolicy) = false from rfl, show decide (wVnis = wHosts) = false from rfl, Bool.false_and, st_subnet]
    cases typeB kVni b with
    | false => rfl
    | true =>
      by_cases g1 : c = wSubnet
      · subst g1; decide +kernel
      rw [third_none (by
        simp only [List.forall_mem_cons]
        refine ⟨head_ne (by decide), head_ne (by decide), head_ne (by decide), key_ne g1, head_ne (by decide), head_ne (by decide), head_ne (by decide), head_ne (by decide), head_ne (by decide), head_ne (by decide), head_ne (by decide), head_ne (by decide), fun _ h => by cases h⟩)]
      rw [decide_eq_false g1]; rfl
  by_cases h3 : a = wBindings
  · subst h3
    rw [show secondW wBindings = kIp from rfl]
    simp only [wordsS, List.find?_cons, List.find?_nil, mB31, mB33, st_hosts, st_vnis, st_bindings, st_routes, st_policy, sk_ip, show decide (wBindings = wVnis) = false from rfl, show decide (wBindings = wRoutes) = false from rfl, show decide (wBindings = wPolicy) = false from rfl, show decide (wBindings = wHosts) = false from rfl, Bool.false_and, st_host, st_mac, st_vni]
    cases typeB kIp b with
    | false => rfl
    | true =>
      by_cases g1 : c = wHost
      · subst g1; decide +kernel
      by_cases g2 : c = wMac
      · subst g2; decide +kernel
      by_cases g3 : c = wVni
      · subst g3; decide +kernel
      rw [third_none (by
        simp only [List.forall_mem_cons]
        refine ⟨head_ne (by decide), head_ne (by decide), head_ne (by decide), head_ne (by decide), key_ne g1, head_ne (by decide), key_ne g2, key_ne g3, head_ne (by decide), head_ne (by decide), head_ne (by decide), head_ne (by decide), fun _ h => by cases h⟩)]
      rw [decide_eq_false g1, decide_eq_false g2, decide_eq_false g3]; rfl
  by_cases h4 : a = wRoutes
  · subst h4
    rw [show secondW wRoutes = kPrefix from rfl]
    simp only [wordsS, List.find?_cons, List.find?_nil, mB31, mB33, st_hosts, st_vnis, st_bindings, st_routes, st_policy, sk_prefix, show decide (wRoutes = wVnis) = false from rfl, show decide (wRoutes = wBindings) = false from rfl, show decide (wRoutes = wPolicy) = false from rfl, show decide (wRoutes = wHosts) = false from rfl, Bool.false_and, st_via, st_metric]
    cases typeB kPrefix b with
    | false => rfl
    | true =>
      by_cases g1 : c = wVia
      · subst g1; decide +kernel
      by_cases g2 : c = wMetric
      · subst g2; decide +kernel
      rw [third_none (by
        simp only [List.forall_mem_cons]
        refine ⟨head_ne (by decide), head_ne (by decide), head_ne (by decide), head_ne (by decide), head_ne (by decide), key_ne g1, head_ne (by decide), head_ne (by decide), key_ne g2, head_ne (by decide), head_ne (by decide), head_ne (by decide), fun _ h => by cases h⟩)]
      rw [decide_eq_false g1, decide_eq_false g2]; rfl
  by_cases h5 : a = wPolicy
  · subst h5
    rw [show secondW wPolicy = kNum from rfl]
    simp only [wordsS, List.find?_cons, List.find?_nil, mB31, mB33, st_hosts, st_vnis, st_bindings, st_routes, st_policy, sk_num, show decide (wPolicy = wVnis) = false from rfl, show decide (wPolicy = wBindings) = false from rfl, show decide (wPolicy = wRoutes) = false from rfl, show decide (wPolicy = wHosts) = false from rfl, Bool.false_and, st_action, st_from, st_to]
    cases typeB kNum b with
    | false => rfl
    | true =>
      by_cases g1 : c = wAction
      · subst g1; decide +kernel
      by_cases g2 : c = wFrom
      · subst g2; decide +kernel
      by_cases g3 : c = wTo
      · subst g3; decide +kernel
      rw [third_none (by
        simp only [List.forall_mem_cons]
        refine ⟨head_ne (by decide), head_ne (by decide), head_ne (by decide), head_ne (by decide), head_ne (by decide), head_ne (by decide), head_ne (by decide), head_ne (by decide), head_ne (by decide), key_ne g1, key_ne g2, key_ne g3, fun _ h => by cases h⟩)]
      rw [decide_eq_false g1, decide_eq_false g2, decide_eq_false g3]; rfl
  have e0 : secondW a = [] := by unfold secondW; rw [if_neg h1, if_neg h2, if_neg h3, if_neg h4, if_neg h5]
  rw [e0, type_none, if_neg (by decide)]
  simp only [wordsS, List.find?_cons, List.find?_nil, mB31, mB33, st_hosts, st_vnis, st_bindings, st_routes, st_policy, decide_eq_false h1, decide_eq_false h2, decide_eq_false h3, decide_eq_false h4, decide_eq_false h5, Bool.false_and]
  rfl
end C
end Go.Proofs.YtfcikfohmehmkaaGreatDoor

namespace Go.Proofs.YtfcikfohmehmkaaGreatDoor
open Go.RowKit
set_option linter.unusedVariables false

/-- An int of Go. -/
def I64 (n : Int) : Prop := -9223372036854775808 ≤ n ∧ n ≤ 9223372036854775807
/-- A number, if there is one. -/
def okA (z : Int) : Int × Bool := if 0 ≤ z then (z, true) else (0, false)
/-- The number of a text within bounds. -/
def numA (l : List UInt8) (least most : Int) : Int × Bool := if 0 ≤ N.numL l ∧ least ≤ N.numL l ∧ N.numL l ≤ most then (N.numL l, true) else (0, false)
/-- The prefix of a text. -/
def prefA (l : List UInt8) : Int × Int × Bool := if 0 ≤ (N.prefL l).1 then ((N.prefL l).1, (N.prefL l).2, true) else (0, 0, false)
end Go.Proofs.YtfcikfohmehmkaaGreatDoor

namespace Go.Proofs.YtfcikfohmehmkaaGreatDoor
namespace N
open T (decL)

-- CUT AT A BYTE
theorem index_cases (l : List UInt8) (c : UInt8) : (Lib.indexByte l c = -1 ∧ c ∉ l) ∨ (∃ i : Nat, Lib.indexByte l c = i ∧ i < l.length ∧ l = l.take i ++ c :: l.drop (i + 1) ∧ c ∉ l.take i) := by
  by_cases h : Lib.indexByte l c = -1
  · left
    refine ⟨h, fun hm => ?_⟩
    obtain ⟨k, hk, e⟩ := List.getElem_of_mem hm
    exact Lib.indexByte_none h k (by rw [List.getElem?_eq_getElem hk, e])
  · right
    have hge := Lib.indexByte_ge l c
    obtain ⟨i, hi⟩ := Int.eq_ofNat_of_zero_le (show 0 ≤ Lib.indexByte l c by omega)
    obtain ⟨h1, h2⟩ := Lib.indexByte_some hi
    obtain ⟨hlt, e⟩ := List.getElem?_eq_some_iff.1 h1
    refine ⟨i, hi, hlt, ?_, ?_⟩
    · conv => lhs; rw [← List.take_append_drop i l]
      rw [List.drop_eq_getElem_cons hlt, e]
    · intro hm
      obtain ⟨k, hk, e2⟩ := List.getElem_of_mem hm
      rw [List.length_take] at hk
      refine h2 k (by omega) ?_
      rw [List.getElem_take] at e2
      rw [List.getElem?_eq_getElem (by omega), e2]
theorem split_hit {l : List UInt8} {c : UInt8} {i : Nat} (e : l = l.take i ++ c :: l.drop (i + 1)) (h : c ∉ l.take i) : splitL c l = l.take i :: splitL c (l.drop (i + 1)) := by
  conv => lhs; rw [e]
  exact split_at h _
-- BITS
theorem bits_and_i64 (a b : Nat) (ha : a < 9223372036854775808) (hb : b < 9223372036854775808) : bits .and .i64 (a : Int) (b : Int) = ((a &&& b : Nat) : Int) := by
  have hx : a &&& b < 2 ^ 63 := Nat.and_lt_two_pow _ (by omega)
  have h1 : (BitVec.ofInt 64 (a : Int)).toNat = a := by
    rw [BitVec.ofInt_natCast, BitVec.toNat_ofNat]; exact Nat.mod_eq_of_lt (by omega)
  have h2 : (BitVec.ofInt 64 (b : Int)).toNat = b := by
    rw [BitVec.ofInt_natCast, BitVec.toNat_ofNat]; exact Nat.mod_eq_of_lt (by omega)
  show IntKind.i64.wrap ((BitVec.ofInt 64 (a : Int) &&& BitVec.ofInt 64 (b : Int)).toNat : Int) = _
  rw [BitVec.toNat_and, h1, h2, IntKind.wrap_i64]
  omega
theorem bits_or_i64 (a b : Nat) (ha : a < 9223372036854775808) (hb : b < 9223372036854775808) : bits .or .i64 (a : Int) (b : Int) = ((a ||| b : Nat) : Int) := by
  have hx : a ||| b < 2 ^ 63 := Nat.or_lt_two_pow (by omega) (by omega)
  have h1 : (BitVec.ofInt 64 (a : Int)).toNat = a := by
    rw [BitVec.ofInt_natCast, BitVec.toNat_ofNat]; exact Nat.mod_eq_of_lt (by omega)
  have h2 : (BitVec.ofInt 64 (b : Int)).toNat = b := by
    rw [BitVec.ofInt_natCast, BitVec.toNat_ofNat]; exact Nat.mod_eq_of_lt (by omega)
  show IntKind.i64.wrap ((BitVec.ofInt 64 (a : Int) ||| BitVec.ofInt 64 (b : Int)).toNat : Int) = _
  rw [BitVec.toNat_or, h1, h2, IntKind.wrap_i64]
  omega
theorem and_low (a k p : Nat) (hp : 2 ^ k = p) (ha : a < 9223372036854775808) (hk : p ≤ 9223372036854775808) : bits .and .i64 (a : Int) (((p - 1 : Nat) : Int)) = ((a % p : Nat) : Int) := by
  have h0 : 0 < p := by rw [← hp]; exact pow_pos2 k
  rw [bits_and_i64 a (p - 1) ha (by omega), ← hp, Nat.and_two_pow_sub_one_eq_mod]
theorem or_low (a b k p : Nat) (hp : 2 ^ k = p) (hb : b < p) (ha : p * a + b < 9223372036854775808) : bits .or .i64 ((p * a : Nat) : Int) (b : Int) = ((p * a + b : Nat) : Int) := by
  rw [bits_or_i64 (p * a) b (by omega) (by omega), ← hp, Nat.two_pow_add_eq_or_of_lt (by rw [hp]; exact hb)]
-- A HARDWARE ADDRESS, BYTE BY BYTE
/-- One byte more of a hardware address's text. -/
def macStep (i n : Nat) (c : UInt8) : Option Nat := if i % 3 = 2 then (if c = 58 then some n else none) else if hexV c < 0 then none else some (16 * n + (hexV c).toNat)
def macRun (i n : Nat) : List UInt8 → Option Nat
  | [] => some n
  | c :: r => match macStep i n c with
    | none => none
    | some m => macRun (i + 1) m r
theorem mac_colon {i n : Nat} {c : UInt8} (h : i % 3 = 2) : macStep i n c = if c = 58 then some n else none := by unfold macStep; rw [if_pos h]
theorem mac_digit {i n : Nat} {c : UInt8} (h : i % 3 ≠ 2) : macStep i n c = if hexV c < 0 then none else some (16 * n + (hexV c).toNat) := by unfold macStep; rw [if_neg h]
theorem run_colon {i n m : Nat} {c : UInt8} {r : List UInt8} (h : i % 3 = 2) (e : macRun i n (c :: r) = some m) : c = 58 ∧ macRun (i + 1) n r = some m := by
  unfold macRun at e
  rw [mac_colon h] at e
  by_cases hc : c = 58
  · rw [if_pos hc] at e; exact ⟨hc, e⟩
  · rw [if_neg hc] at e; cases e
theorem run_digit {i n m : Nat} {c : UInt8} {r : List UInt8} (h : i % 3 ≠ 2) (e : macRun i n (c :: r) = some m) : ∃ d, d < 16 ∧ hexC d = c ∧ macRun (i + 1) (16 * n + d) r = some m := by
  unfold macRun at e
  rw [mac_digit h] at e
  rcases hex_cases c with hc | ⟨d, hc, hd, hx⟩
  · rw [if_pos (by omega)] at e; cases e
  · rw [if_neg (by omega), hc, Int.toNat_natCast] at e
    exact ⟨d, hd, hx, e⟩
theorem run_colon_to {i n : Nat} {r : List UInt8} (h : i % 3 = 2) : macRun i n (58 :: r) = macRun (i + 1) n r := by
  show (match macStep i n 58 with | none => none | some m => macRun (i + 1) m r) = _
  rw [mac_colon h, if_pos rfl]
theorem run_digit_to {i n d : Nat} {r : List UInt8} (h : i % 3 ≠ 2) (hd : d < 16) : macRun i n (hexC d :: r) = macRun (i + 1) (16 * n + d) r := by
  show (match macStep i n (hexC d) with | none => none | some m => macRun (i + 1) m r) = _
  rw [mac_digit h, hexV_C d hd, if_neg (by omega), Int.toNat_natCast]
theorem run_pair {i n k : Nat} {r : List UInt8} (h : i % 3 = 0) (hk : k < 256) : macRun i n (pairT k ++ r) = macRun (i + 2) (256 * n + k) r := by
  show macRun i n (hexC (k / 16) :: hexC (k % 16) :: r) = _
  rw [run_digit_to (by omega) (by omega), run_digit_to (by omega) (by omega), show 16 * (16 * n + k / 16) + k % 16 = 256 * n + k by omega]
theorem run_text (n : Nat) (h : n < 281474976710656) : macRun 0 0 (macT n) = some n := by
  unfold macT
  rw [run_pair rfl (by omega), run_colon_to rfl, run_pair rfl (by omega), run_colon_to rfl, run_pair rfl (by omega), run_colon_to rfl, run_pair rfl (by omega), run_colon_to rfl, run_pair rfl (by omega), run_colon_to rfl]
  rw [← List.append_nil (pairT (n % 256)), run_pair rfl (by omega)]
  show some _ = some n
  congr 1
  omega
theorem run_un {i n m : Nat} {r : List UInt8} (h : i % 3 = 0) (hl : 2 ≤ r.length) (e : macRun i n r = some m) : ∃ k s, k < 256 ∧ r = pairT k ++ s ∧ macRun (i + 2) (256 * n + k) s = some m := by
  match r, hl with
  | a :: b :: s, _ =>
    obtain ⟨d, hd, hx, e1⟩ := run_digit (by omega) e
    obtain ⟨d2, hd2, hx2, e2⟩ := run_digit (by omega) e1
    refine ⟨16 * d + d2, s, by omega, ?_, by rw [← e2]; congr 1; omega⟩
    show _ = hexC ((16 * d + d2) / 16) :: hexC ((16 * d + d2) % 16) :: s
    rw [show (16 * d + d2) / 16 = d by omega, show (16 * d + d2) % 16 = d2 by omega, hx, hx2]
theorem run_un2 {i n m : Nat} {r : List UInt8} (h : i % 3 = 0) (hl : 3 ≤ r.length) (e : macRun i n r = some m) : ∃ k s, k < 256 ∧ r = pairT k ++ 58 :: s ∧ macRun (i + 3) (256 * n + k) s = some m := by
  obtain ⟨k, s, hk, rfl, e1⟩ := run_un h (by omega) e
  match s, hl with
  | [], hl => exact absurd hl (by rw [List.append_nil]; show ¬ 3 ≤ 2; omega)
  | c :: t, _ =>
    obtain ⟨rfl, e2⟩ := run_colon (by omega) e1
    exact ⟨k, t, hk, rfl, e2⟩
theorem pair_len (k : Nat) : (pairT k).length = 2 := rfl
theorem run_mac {l : List UInt8} {m : Nat} (hl : l.length = 17) (e : macRun 0 0 l = some m) : macL l = m := by
  obtain ⟨a, r1, ha, rfl, e1⟩ := run_un2 rfl (by omega) e
  rw [List.length_append, List.length_cons, pair_len] at hl
  obtain ⟨b, r2, hb, rfl, e2⟩ := run_un2 rfl (by omega) e1
  rw [List.length_append, List.length_cons, pair_len] at hl
  obtain ⟨c, r3, hc, rfl, e3⟩ := run_un2 rfl (by omega) e2
  rw [List.length_append, List.length_cons, pair_len] at hl
  obtain ⟨d, r4, hd, rfl, e4⟩ := run_un2 rfl (by omega) e3
  rw [List.length_append, List.length_cons, pair_len] at hl
  obtain ⟨f, r5, hf, rfl, e5⟩ := run_un2 rfl (by omega) e4
  rw [List.length_append, List.length_cons, pair_len] at hl
  obtain ⟨g, r6, hg, rfl, e6⟩ := run_un rfl (by omega) e5
  rw [List.length_append, pair_len] at hl
  obtain rfl : r6 = [] := List.eq_nil_of_length_eq_zero (by omega)
  have ez : 256 * (256 * (256 * (256 * (256 * (256 * 0 + a) + b) + c) + d) + f) + g = m := Option.some.inj e6
  rw [List.append_nil]
  unfold macL
  rw [split_at (pair_no _ ha), split_at (pair_no _ hb), split_at (pair_no _ hc), split_at (pair_no _ hd), split_at (pair_no _ hf), split_one (pair_no _ hg)]
  simp only []
  rw [pair_text _ ha, pair_text _ hb, pair_text _ hc, pair_text _ hd, pair_text _ hf, pair_text _ hg, if_neg (by omega)]
  omega
theorem mac_len17 (n : Nat) : (macT n).length = 17 := rfl
theorem mac_short {l : List UInt8} (hl : l.length ≠ 17) : macL l = -1 := by
  rcases mac_cases l with h | ⟨n, _, _, e⟩
  · exact h
  · exact absurd (by rw [← e]; exact mac_len17 n) hl
theorem mac_none {l : List UInt8} (h : macRun 0 0 l = none) : macL l = -1 := by
  rcases mac_cases l with h2 | ⟨n, _, hn, e⟩
  · exact h2
  · rw [← e, run_text n hn] at h; cases h
theorem run_app (a b : List UInt8) : ∀ i n, macRun i n (a ++ b) = match macRun i n a with | none => none | some m => macRun (i + a.length) m b := by
  induction a with
  | nil => intro i n; rfl
  | cons c r ih =>
    intro i n
    show (match macStep i n c with | none => none | some m => macRun (i + 1) m (r ++ b)) = match (match macStep i n c with | none => none | some m => macRun (i + 1) m r) with | none => none | some m => macRun (i + (r.length + 1)) m b
    cases macStep i n c with
    | none => rfl
    | some m =>
      show macRun (i + 1) m (r ++ b) = match macRun (i + 1) m r with | none => none | some m => macRun (i + (r.length + 1)) m b
      rw [ih, show i + 1 + r.length = i + (r.length + 1) by omega]
theorem run_none_at {l : List UInt8} {i m : Nat} (hi : i < l.length) (h : macRun 0 0 (l.take i) = some m) (hs : macStep i m l[i] = none) : macL l = -1 := by
  refine mac_none ?_
  rw [← List.take_append_drop i l, run_app, h]
  show macRun (0 + (l.take i).length) m (l.drop i) = none
  rw [List.length_take, Nat.min_eq_left (by omega), Nat.zero_add, List.drop_eq_getElem_cons hi]
  unfold macRun
  rw [hs]
theorem run_snoc {l : List UInt8} {i m k : Nat} (hi : i < l.length) (h : macRun 0 0 (l.take i) = some m) (hs : macStep i m l[i] = some k) : macRun 0 0 (l.take (i + 1)) = some k := by
  rw [List.take_succ_eq_append_getElem hi, run_app, h]
  show macRun (0 + (l.take i).length) m [l[i]] = some k
  rw [List.length_take, Nat.min_eq_left (by omega), Nat.zero_add]
  unfold macRun
  rw [hs]
  rfl
-- THE DIGITS OF BASE 16, AS A TEXT
def hexDigs : List UInt8 := [48, 49, 50, 51, 52, 53, 54, 55, 56, 57, 97, 98, 99, 100, 101, 102]
theorem hexDigs_at : ∀ d, d < 16 → hexDigs[d]? = some (hexC d) := by decide +kernel
theorem hex_index (c : UInt8) : Lib.indexByte hexDigs c = hexV c := by
  rcases hex_cases c with h | ⟨d, h, hd, e⟩
  · rw [h]
    rcases index_cases hexDigs c with ⟨h2, _⟩ | ⟨i, h2, h3, _, _⟩
    · exact h2
    · obtain ⟨h4, _⟩ := Lib.indexByte_some h2
      rw [hexDigs_at i h3] at h4
      have e2 : hexC i = c := Option.some.inj h4
      rw [← e2, hexV_C i h3] at h
      omega
  · rw [h, ← e]
    have key : ∀ d, d < 16 → Lib.indexByte hexDigs (hexC d) = d := by decide +kernel
    exact key d hd
end N
end Go.Proofs.YtfcikfohmehmkaaGreatDoor

namespace Go.Proofs.YtfcikfohmehmkaaGreatDoor
open Go.RowKit
set_option linter.unusedVariables false

set_option maxRecDepth 100000 in
theorem belowIP (n : Int) (r : Bool) (w : World) (h : (decide (0 ≤ n) && decide (n < 4294967296)) = r) : Calls Tryz.prog 174 #[.int .i64 n, .int .i64 32] w (fun e w' => e = .returned (.bool r) ∧ w = w') := by
  by_cases h0 : 0 ≤ n
  · have c0 : decide (0 ≤ n) = true := decide_eq_true h0
    rw [c0, Bool.true_and] at h
    go_enter Tryz.func174, Tryz.ntmps174
    go_wp2
    go_ret
    exact ⟨by rw [← h]; rfl, rfl⟩
  · have c0 : decide (0 ≤ n) = false := decide_eq_false h0
    rw [c0, Bool.false_and] at h
    subst h
    go_enter Tryz.func174, Tryz.ntmps174
    go_wp2
    go_ret
    exact ⟨rfl, rfl⟩
theorem and_lowC (a k p : Nat) (hp : 2 ^ k = p) (ha : (a : Int) < 4294967296) (hk : p ≤ 4294967296) : Go.bits .and .i64 (a : Int) (((p - 1 : Nat) : Int)) = ((a % p : Nat) : Int) := by
  have h1 : a < 9223372036854775808 := by omega
  have h2 : p ≤ 9223372036854775808 := by omega
  exact N.and_low a k p hp h1 h2
theorem sub1C {p q : Nat} (h : 0 < p) (hq : p - 1 = q) : (p : Int) - 1 = (q : Int) := by omega
theorem subC {p q : Nat} (h : p ≤ 4294967296) (hq : p - 1 = q) : q ≤ 4294967296 := by omega
theorem wrapC {p : Nat} (h : p ≤ 4294967296) : wrap64 (p : Int) = (p : Int) := Go.IntWalk.wrap64_in _ (by omega)
set_option maxRecDepth 100000 in
set_option maxHeartbeats 2000000 in
theorem isPref_any10 (n bits : Int) (r : Bool) (w : World) (hr : N.rightB n bits = r) : Calls Tryz.prog 152 #[.int .i64 n, .int .i64 bits] w (fun e w' => e = .returned (.bool r) ∧ w = w') := by
  by_cases h0 : 0 ≤ n ∧ n < 4294967296
  · have HB := Lib.hid (show (decide (0 ≤ n) && decide (n < 4294967296)) = true by rw [decide_eq_true h0.1, decide_eq_true h0.2]; rfl)
    by_cases h1 : 0 ≤ bits
    · have c1 : decide (0 ≤ bits) = true := decide_eq_true h1
      by_cases h2 : bits ≤ 32
      · have c2 : decide (bits ≤ 32) = true := decide_eq_true h2
        obtain ⟨k, hk⟩ : ∃ k : Nat, (32 - bits).toNat = k := ⟨_, rfl⟩
        have hk2 : 32 - bits = (k : Int) := by omega
        have hk3 : k ≤ 32 := by omega
        obtain ⟨nn, rfl⟩ := Int.eq_ofNat_of_zero_le h0.1
        obtain ⟨p, hp⟩ : ∃ p, 2 ^ k = p := ⟨_, rfl⟩
        have hpp : 0 < p := by rw [← hp]; exact N.pow_pos2 k
        have hpb : p ≤ 4294967296 := by rw [← hp]; exact Nat.le_trans (Nat.pow_le_pow_right (by omega) (show k ≤ 32 by omega)) (by decide)
        obtain ⟨q, hq⟩ : ∃ q, p - 1 = q := ⟨_, rfl⟩
        obtain ⟨d, hd⟩ : ∃ d, nn % p = d := ⟨_, rfl⟩
        have e1 : wrap64 (2 ^ (32 - bits).toNat) = (p : Int) := by
          rw [hk, show ((2 : Int) ^ k) = (p : Int) by rw [← hp, Int.natCast_pow]; rfl]; exact wrapC hpb
        have e0 : (p : Int) - 1 = (q : Int) := sub1C hpp hq
        have e2 : wrap64 ((p : Int) - 1) = (q : Int) := by rw [e0]; exact wrapC (subC hpb hq)
        have e3 : Go.bits .and .i64 (nn : Int) (q : Int) = (d : Int) := by rw [← hq, ← hd]; exact and_lowC nn k p hp h0.2 hpb
        have HR := Lib.hid (show (Go.bits .and .i64 (nn : Int) (wrap64 (wrap64 (2 ^ (32 - bits).toNat) - 1)) == 0) = r by
          rw [e1, e2, e3, ← hr]; unfold N.rightB
          rw [decide_eq_true (show (0 : Int) ≤ (nn : Int) by omega), decide_eq_true (show (nn : Int) < 4294967296 from h0.2), c1, c2, hk, hp]
          show _ = decide ((nn : Int) % (p : Int) = 0)
          rw [← Int.natCast_emod, hd, Bool.eq_iff_iff, decide_eq_true_eq, beq_iff_eq])
        clear hr hp hq hd h0 hk hk2 e0 e1 e2 e3 hpp hpb hk3
        go_enter Tryz.func152, Tryz.ntmps152
        go_wp2_with fail
        refine (belowIP _ true _ HB.out).mono ?_
        rintro e w1 ⟨rfl, rfl⟩
        go_wp2
        go_ret
        exact ⟨by rw [← HR.out]; rfl, rfl⟩
      · have c2 : decide (bits ≤ 32) = false := decide_eq_false h2
        have HR := Lib.hid (show false = r by rw [← hr]; unfold N.rightB; rw [c2, Bool.and_false, Bool.false_and])
        clear hr h0
        go_enter Tryz.func152, Tryz.ntmps152
        go_wp2_with fail
        refine (belowIP _ true _ HB.out).mono ?_
        rintro e w1 ⟨rfl, rfl⟩
        go_wp2
        go_ret
        exact ⟨by rw [← HR.out]; rfl, rfl⟩
    · have c1 : decide (0 ≤ bits) = false := decide_eq_false h1
      have HR := Lib.hid (show false = r by rw [← hr]; unfold N.rightB; rw [c1, Bool.and_false, Bool.false_and, Bool.false_and])
      clear hr h0
      go_enter Tryz.func152, Tryz.ntmps152
      go_wp2_with fail
      refine (belowIP _ true _ HB.out).mono ?_
      rintro e w1 ⟨rfl, rfl⟩
      go_wp2
      go_ret
      exact ⟨by rw [← HR.out]; rfl, rfl⟩
  · have hz : (decide (0 ≤ n) && decide (n < 4294967296)) = false := by
      cases hz : (decide (0 ≤ n) && decide (n < 4294967296)) with
      | false => rfl
      | true => rw [Bool.and_eq_true, decide_eq_true_eq, decide_eq_true_eq] at hz; exact absurd hz h0
    have HB := Lib.hid hz
    have HR := Lib.hid (show false = r by rw [← hr]; unfold N.rightB; rw [hz, Bool.false_and, Bool.false_and, Bool.false_and])
    clear hr h0 hz
    go_enter Tryz.func152, Tryz.ntmps152
    go_wp2_with fail
    refine (belowIP _ false _ HB.out).mono ?_
    rintro e w1 ⟨rfl, rfl⟩
    go_wp2
    go_ret
    exact ⟨by rw [← HR.out]; rfl, rfl⟩
theorem okA_nat (n : Nat) : okA (n : Int) = ((n : Int), true) := by unfold okA; rw [if_pos (by omega)]
set_option maxRecDepth 100000 in
set_option maxHeartbeats 2000000 in
theorem number_any (s : ByteArray) (w : World) (hs : s.size ≤ 1073741824) : Calls Tryz.prog 154 #[.string s] w (fun e w' => e = .returned (.tuple #[.int .i64 (okA (N.numL s.data.toList)).1, .bool (okA (N.numL s.data.toList)).2]) ∧ w = w') := by
  have hsz : s.data.toList.length = s.size := by simp
  by_cases h0 : s.size = 0
  · have HE := Lib.hid (show N.numL s.data.toList = -1 by rw [List.eq_nil_of_length_eq_zero (hsz.trans h0)]; rfl)
    have b1 : decide ((s.size : Int) < 1) = true := decide_eq_true (by omega)
    have b1b : decide (s.size < 1) = true := decide_eq_true (by omega)
    have b1c : decide (s.size = 0) = true := decide_eq_true h0
    have b1d : s.toList = [] := by rw [ByteArray.toList_eq, List.eq_nil_of_length_eq_zero (hsz.trans h0)]
    clear hsz h0
    go_enter Tryz.func154, Tryz.ntmps154
    go_wp2
    go_ret2
    exact ⟨by rw [HE.out]; rfl, rfl⟩
  have hpos : 0 < s.size := by omega
  have b1 : decide ((s.size : Int) < 1) = false := decide_eq_false (by omega)
  have b1b : decide (s.size < 1) = false := decide_eq_false (by omega)
  have b1c : decide (s.size = 0) = false := decide_eq_false h0
  have b1d : ¬ s.toList = [] := by rw [ByteArray.toList_eq]; exact fun e => h0 (by rw [← hsz, e]; rfl)
  have b1e : s.toList.isEmpty = false := by cases hx : s.toList with | nil => exact absurd hx b1d | cons => rfl
  by_cases h1 : 10 < s.size
  · have HE := Lib.hid (show N.numL s.data.toList = -1 by unfold N.numL; rw [if_pos (.inr (.inl (by rw [hsz]; exact h1)))])
    have b2 : decide ((10 : Int) < (s.size : Int)) = true := decide_eq_true (by omega)
    have b2b : decide (10 < s.size) = true := decide_eq_true h1
    clear hsz h0 h1
    go_enter Tryz.func154, Tryz.ntmps154
    go_wp2
    go_ret2
    exact ⟨by rw [HE.out]; rfl, rfl⟩
  have b2 : decide ((10 : Int) < (s.size : Int)) = false := decide_eq_false (by omega)
  have b2b : decide (10 < s.size) = false := decide_eq_false h1
  have hhd := head_is s hpos
  by_cases h2 : s[0].toNat = 48 ∧ 1 < s.size
  · have HE := Lib.hid (show N.numL s.data.toList = -1 by unfold N.numL; rw [if_pos (.inr (.inr (.inl ⟨by rw [hhd, show s[0] = 48 from UInt8.toNat_inj.1 h2.1], by rw [hsz]; exact h2.2⟩)))])
    have b3 : ((s[0].toNat : Int) == 48) = true := by simp; omega
    have b4 : decide ((1 : Int) < (s.size : Int)) = true := decide_eq_true (by omega)
    have b4b : decide (1 < s.size) = true := decide_eq_true h2.2
    clear hsz h0 h1 h2 hhd
    go_enter Tryz.func154, Tryz.ntmps154
    go_wp2
    go_ret2
    exact ⟨by rw [HE.out]; rfl, rfl⟩
  have HSZ := Lib.hid hsz
  have HNE := Lib.hid (show s.data.toList ≠ [] from fun e => h0 (by rw [← hsz, e]; rfl))
  have HH := Lib.hid (show ¬ (s.data.toList.head? = some 48 ∧ 1 < s.data.toList.length) by
    rintro ⟨e1, e2⟩
    rw [hhd] at e1
    injection e1 with e1
    exact h2 ⟨by rw [e1]; rfl, by omega⟩)
  by_cases h4 : 1 < s.size
  all_goals
    first
    | (have b3 : ((s[0].toNat : Int) == 48) = false := by (have : s[0].toNat ≠ 48 := fun e => h2 ⟨e, h4⟩; simp; omega)
       have b4 : decide ((1 : Int) < (s.size : Int)) = true := decide_eq_true (by omega)
       have b4b : decide (1 < s.size) = true := decide_eq_true (by omega))
    | (have b4 : decide ((1 : Int) < (s.size : Int)) = false := decide_eq_false (by omega)
       have b4b : decide (1 < s.size) = false := decide_eq_false (by omega))
    clear hsz h0 h2 h4 hhd
    go_enter Tryz.func154, Tryz.ntmps154
    go_wp2
    go_loopg [4, 5] s.size (fun gk vn vi wr => ∃ k v : Nat, Hid (k + gk = s.size) ∧ k ≤ s.size ∧ vi = .int .i64 (k : Int) ∧ vn = .int .i64 (v : Int) ∧ Hid (N.valL (s.data.toList.take k) = v) ∧ Hid ((s.data.toList.take k).all N.digB = true) ∧ w = wr)
    case atStart => exact ⟨0, 0, Nat.zero_add _, Nat.zero_le _, rfl, rfl, rfl, rfl, rfl⟩
    case round =>
      obtain ⟨k, v, HG, hk, rfl, rfl, HV, HD, rfl⟩ := hrel
      by_cases hlt : k < s.size
      · have blt : decide ((k : Int) < (s.size : Int)) = true := decide_eq_true (by omega)
        have blt2 : decide (k < s.size) = true := decide_eq_true hlt
        have hki : (k : Int) < (s.size : Int) := by omega
        have hsn := W.take_snoc s k hlt
        have hmem : s[k] ∈ s.data.toList := List.mem_of_mem_take (i := k + 1) (by rw [hsn]; simp)
        have hv : v < 10000000000 := by
          rw [← HV.out]
          exact N.val_lt _ HD.out 10 (by rw [List.length_take]; omega)
        have hc := s[k].toNat_lt
        by_cases hlo : s[k].toNat < 48
        · have c1 : decide ((s[k].toNat : Int) < 48) = true := decide_eq_true (by omega)
          have HE := Lib.hid (num_bad hmem (digB_lo hlo))
          clear hsn hmem hlo
          go_wp2
          go_ret2
          exact ⟨by rw [HE.out]; rfl, rfl⟩
        · have c1 : decide ((s[k].toNat : Int) < 48) = false := decide_eq_false (by omega)
          by_cases hhi : 57 < s[k].toNat
          · have c2 : decide ((57 : Int) < (s[k].toNat : Int)) = true := decide_eq_true (by omega)
            have c2b : decide (57 < s[k].toNat) = true := decide_eq_true hhi
            have HE := Lib.hid (num_bad hmem (digB_hi hhi))
            clear hsn hmem hlo hhi
            go_wp2
            go_ret2
            exact ⟨by rw [HE.out]; rfl, rfl⟩
          · have c2 : decide ((57 : Int) < (s[k].toNat : Int)) = false := decide_eq_false (by omega)
            have c2b : decide (57 < s[k].toNat) = false := decide_eq_false hhi
            have HSN := Lib.hid hsn
            have HD2 := Lib.hid (show (s.data.toList.take (k + 1)).all N.digB = true by rw [hsn, List.all_append, HD.out]; show ([s[k]] : List UInt8).all N.digB = true; rw [List.all_cons, digB_in (by omega) (by omega)]; rfl)
            have HV2 := Lib.hid (show N.valL (s.data.toList.take (k + 1)) = 10 * v + (s[k].toNat - 48) by rw [hsn, N.val_snoc, HV.out])
            have hgk := HG.out
            have hu : IntKind.u8.wrap ((s[k].toNat : Int) - 48) = ((s[k].toNat - 48 : Nat) : Int) := by rw [IntKind.wrap_u8]; omega
            clear hsn hmem
            go_wp2
            go_roundg (s.size - (k + 1))
            case rel => exact ⟨k + 1, 10 * v + (s[k].toNat - 48), (by show _ = _; omega), by omega, by go_num, by go_num, HV2, HD2, rfl⟩
            case measure => omega
      · have blt : decide ((k : Int) < (s.size : Int)) = false := decide_eq_false (by omega)
        have blt2 : decide (k < s.size) = false := decide_eq_false hlt
        have htk : s.data.toList.take k = s.data.toList := List.take_of_length_le (by have := HSZ.out; omega)
        have HE := Lib.hid (show N.numL s.data.toList = v by
          have h5 := HV.out
          have h6 := HD.out
          rw [htk] at h5 h6
          rw [num_all HNE.out (by rw [HSZ.out]; exact h1) HH.out h6, h5])
        clear htk
        go_wp2
        go_ret2
        exact ⟨by rw [HE.out, okA_nat]; rfl, rfl⟩
set_option maxRecDepth 100000 in
theorem num_any10 (s : ByteArray) (least most z : Int) (ok : Bool) (w : World) (hs : s.size ≤ 1073741824) (hz : numA s.data.toList least most = (z, ok)) : Calls Tryz.prog 125 #[.string s, .int .i64 least, .int .i64 most] w (fun e w' => e = .returned (.tuple #[.int .i64 z, .bool ok]) ∧ w = w') := by
  have HN := Lib.hid (number_any s w hs)
  rcases N.num_cases s.data.toList with h | ⟨n, h, _, _⟩
  · have e1 : okA (N.numL s.data.toList) = (0, false) := by rw [h]; rfl
    have e2 : numA s.data.toList least most = (0, false) := by unfold numA; rw [if_neg (by omega)]
    rw [e1] at HN
    rw [e2] at hz
    cases hz
    clear e1 e2 h
    go_enter Tryz.func125, Tryz.ntmps125
    go_wp2_with fail
    refine (HN.out).mono ?_
    rintro e w1 ⟨rfl, rfl⟩
    go_wp2
    go_ret2
    exact ⟨rfl, rfl⟩
  · have e1 : okA (N.numL s.data.toList) = ((n : Int), true) := by rw [h, okA_nat]
    rw [e1] at HN
    clear e1
    by_cases h1 : (n : Int) < least
    · have c1 : decide ((n : Int) < least) = true := decide_eq_true h1
      have e2 : numA s.data.toList least most = (0, false) := by unfold numA; rw [if_neg (by omega)]
      rw [e2] at hz
      cases hz
      clear e2 h h1
      go_enter Tryz.func125, Tryz.ntmps125
      go_wp2_with fail
      refine (HN.out).mono ?_
      rintro e w1 ⟨rfl, rfl⟩
      go_wp2
      go_ret2
      exact ⟨rfl, rfl⟩
    · have c1 : decide ((n : Int) < least) = false := decide_eq_false h1
      by_cases h2 : most < (n : Int)
      · have c2 : decide (most < (n : Int)) = true := decide_eq_true h2
        have e2 : numA s.data.toList least most = (0, false) := by unfold numA; rw [if_neg (by omega)]
        rw [e2] at hz
        cases hz
        clear e2 h h1 h2
        go_enter Tryz.func125, Tryz.ntmps125
        go_wp2_with fail
        refine (HN.out).mono ?_
        rintro e w1 ⟨rfl, rfl⟩
        go_wp2
        go_ret2
        exact ⟨rfl, rfl⟩
      · have c2 : decide (most < (n : Int)) = false := decide_eq_false h2
        have e2 : numA s.data.toList least most = ((n : Int), true) := by unfold numA; rw [if_pos (by omega), h]
        rw [e2] at hz
        cases hz
        clear e2 h h1 h2
        go_enter Tryz.func125, Tryz.ntmps125
        go_wp2_with fail
        refine (HN.out).mono ?_
        rintro e w1 ⟨rfl, rfl⟩
        go_wp2
        go_ret2
        exact ⟨rfl, rfl⟩
end Go.Proofs.YtfcikfohmehmkaaGreatDoor

namespace Go.Proofs.YtfcikfohmehmkaaGreatDoor
open Go.Shelf Go.RowKit
set_option linter.unusedVariables false

def ren219 : Go.Shelf.Ren := ⟨fun | 217 => 175 | 219 => 183 | 224 => 189 | 225 => 188 | 266 => 184 | 267 => 190 | 314 => 191 | n => n, fun | 3 => 3 | 4 => 4 | 5 => 5 | 9 => 9 | 46 => 112 | 51 => 152 | 146 => 199 | n => n, fun | 1 => 0 | n => n⟩
set_option maxRecDepth 100000 in
theorem lays219 : Go.Proofs.Lays.n219 Tryz.prog ren219 := {
  mixed := by kernel_rfl
  f217 := Tryz.func175.trans (congrArg some (by kernel_rfl))
  f219 := Tryz.func183.trans (congrArg some (by kernel_rfl))
  f224 := Tryz.func189.trans (congrArg some (by kernel_rfl))
  f225 := Tryz.func188.trans (congrArg some (by kernel_rfl))
  f266 := Tryz.func184.trans (congrArg some (by kernel_rfl))
  f267 := Tryz.func190.trans (congrArg some (by kernel_rfl))
  f314 := Tryz.func191.trans (congrArg some (by kernel_rfl))
  t3 := Tryz.underlying3
  a3 := Tryz.isAgg3
  z3 := Tryz.sizeOf3
  v3 := Tryz.zeroValue3
  t4 := Tryz.underlying4
  a4 := Tryz.isAgg4
  z4 := Tryz.sizeOf4
  v4 := Tryz.zeroValue4
  t5 := Tryz.underlying5
  a5 := Tryz.isAgg5
  z5 := Tryz.sizeOf5
  v5 := Tryz.zeroValue5
  t9 := Tryz.underlying9
  a9 := Tryz.isAgg9
  z9 := Tryz.sizeOf9
  v9 := Tryz.zeroValue9
  t46 := Tryz.underlying112
  a46 := Tryz.isAgg112
  z46 := Tryz.sizeOf112
  v46 := Tryz.zeroValue112
  t51 := Tryz.underlying152
  a51 := Tryz.isAgg152
  z51 := Tryz.sizeOf152
  v51 := Tryz.zeroValue152
  t146 := Tryz.underlying199
  a146 := Tryz.isAgg199
  z146 := Tryz.sizeOf199
  v146 := Tryz.zeroValue199
  g1 := by kernel_rfl }
def ren103 : Go.Shelf.Ren := ⟨fun | 103 => 157 | 206 => 115 | 210 => 177 | n => n, fun | 3 => 3 | 4 => 4 | 9 => 9 | 24 => 180 | n => n, fun  n => n⟩
set_option maxRecDepth 100000 in
theorem lays103 : Go.Proofs.Lays.n103 Tryz.prog ren103 := {
  mixed := by kernel_rfl
  f103 := Tryz.func157.trans (congrArg some (by kernel_rfl))
  f206 := Tryz.func115.trans (congrArg some (by kernel_rfl))
  f210 := Tryz.func177.trans (congrArg some (by kernel_rfl))
  t3 := Tryz.underlying3
  a3 := Tryz.isAgg3
  z3 := Tryz.sizeOf3
  v3 := Tryz.zeroValue3
  t4 := Tryz.underlying4
  a4 := Tryz.isAgg4
  z4 := Tryz.sizeOf4
  v4 := Tryz.zeroValue4
  t9 := Tryz.underlying9
  a9 := Tryz.isAgg9
  z9 := Tryz.sizeOf9
  v9 := Tryz.zeroValue9
  t24 := Tryz.underlying180
  a24 := Tryz.isAgg180
  z24 := Tryz.sizeOf180
  v24 := Tryz.zeroValue180 }
/-- internal/stringslite.Index of one byte. -/
theorem index_one (s : ByteArray) (c : UInt8) (w : World) : Calls Tryz.prog 183 #[.string s, .string ⟨#[c]⟩] w fun e w' => e = .returned (.int .i64 (Lib.indexByte s.data.toList c)) ∧ w' = w :=
  Any.stringslite_Index_one lays219 s c w
theorem below_drawnJ {B : Nat} {a w : World} (h : Below B a w) (q : Nat) : Below B a (w.drewN q) := ⟨h.os, h.tape, h.output, h.size, h.block⟩
/-- strings.Cut at one byte. -/
def CutIs (c : UInt8) (l : List UInt8) (a b : List UInt8) (f : Bool) : Prop := (f = false ∧ a = l ∧ b = [] ∧ c ∉ l) ∨ (f = true ∧ l = a ++ c :: b ∧ c ∉ a)
theorem cut_extract (s : ByteArray) (i : Nat) : s.extract 0 i = sB (s.data.toList.take i) ∧ s.extract (i + 1) s.size = sB (s.data.toList.drop (i + 1)) := by
  have hsz : s.data.toList.length = s.size := by simp
  refine ⟨?_, ?_⟩
  · refine ByteArray.ext (Array.ext' ?_)
    simp [sB, ByteArray.data_extract]
  · refine ByteArray.ext (Array.ext' ?_)
    have h1 : (s.extract (i + 1) s.size).data.toList = (s.data.toList.drop (i + 1)).take (s.size - (i + 1)) := by simp [ByteArray.data_extract, List.extract_eq_take_drop]
    rw [h1, List.take_of_length_le (by rw [List.length_drop, hsz]; omega)]
    rfl
set_option maxRecDepth 100000 in
set_option maxHeartbeats 2000000 in
theorem cutLite (s : ByteArray) (c : UInt8) (w : World) (hs : s.size ≤ 1073741824) : Calls Tryz.prog 173 #[.string s, .string ⟨#[c]⟩] w (fun e w' => (∃ a b f, e = .returned (.tuple #[.string (sB a), .string (sB b), .bool f]) ∧ CutIs c s.data.toList a b f) ∧ Below w.heap.size w w') := by
  have hsz : s.data.toList.length = s.size := by simp
  rcases N.index_cases s.data.toList c with ⟨hi, hn⟩ | ⟨i, hi, hlt, he, hn⟩
  · have HI := Lib.hid hi
    have HE := Lib.hid (show s = sB s.data.toList from (ByteArray.ext (Array.ext' (by simp [sB]))))
    have HC := Lib.hid (show CutIs c s.data.toList s.data.toList [] false from .inl ⟨rfl, rfl, rfl, hn⟩)
    clear hi hn hsz
    go_enter Tryz.func173, Tryz.ntmps173
    go_wp2_with fail
    refine (index_one _ _ _).mono ?_
    rintro e w1 ⟨rfl, rfl⟩
    rw [HI.out]
    go_wp2
    go_ret3
    exact ⟨⟨_, _, _, by rw [← HE.out]; rfl, HC.out⟩, Below.refl _ _⟩
  · have HI := Lib.hid hi
    obtain ⟨e1, e2⟩ := cut_extract s i
    have HE1 := Lib.hid e1
    have HE2 := Lib.hid e2
    have HC := Lib.hid (show CutIs c s.data.toList (s.data.toList.take i) (s.data.toList.drop (i + 1)) true from .inr ⟨rfl, he, hn⟩)
    have hlt2 : i < s.size := by omega
    have c1 : decide ((0 : Int) ≤ (i : Int)) = true := decide_eq_true (by omega)
    clear hi hn hsz he e1 e2 hlt
    go_enter Tryz.func173, Tryz.ntmps173
    go_wp2_with fail
    refine (index_one _ _ _).mono ?_
    rintro e w1 ⟨rfl, rfl⟩
    rw [HI.out]
    go_wp2
    go_quiet (fail)
    go_wp2
    go_ret3
    exact ⟨⟨_, _, _, by rw [← HE1.out, ← HE2.out]; rfl, HC.out⟩, below_drawnJ (Below.refl _ _) _⟩
set_option maxRecDepth 100000 in
theorem cut_any10 (s : ByteArray) (c : UInt8) (w : World) (hs : s.size ≤ 1073741824) : Calls Tryz.prog 149 #[.string s, .string ⟨#[c]⟩] w (fun e w' => (∃ a b f, e = .returned (.tuple #[.string (sB a), .string (sB b), .bool f]) ∧ CutIs c s.data.toList a b f) ∧ Below w.heap.size w w') := by
  go_enter Tryz.func149, Tryz.ntmps149
  go_wp2_with fail
  refine (cutLite s c _ hs).mono ?_
  rintro e w1 ⟨⟨a, b, f, rfl, hc⟩, hb⟩
  have HC := Lib.hid hc
  clear hc
  go_wp2
  go_ret3
  exact ⟨⟨a, b, f, rfl, HC.out⟩, hb⟩
/-- strings.CutPrefix. -/
theorem cutPrefix_any (s p : ByteArray) (w : World) : Calls Tryz.prog 157 #[.string s, .string p] w fun e w' => e = .returned (.tuple #[.string ⟨(Lib.trimPrefix s.data.toList p.data.toList).toArray⟩, .bool (Lib.hasPrefix s.data.toList p.data.toList)]) ∧ w' = w :=
  Any.strings_CutPrefix lays103 s p w
end Go.Proofs.YtfcikfohmehmkaaGreatDoor

namespace Go.Proofs.YtfcikfohmehmkaaGreatDoor
open Go.Shelf Go.RowKit
set_option linter.unusedVariables false

def ren137 : Go.Shelf.Ren := ⟨fun | 137 => 153 | 217 => 175 | 266 => 184 | n => n, fun | 3 => 3 | 5 => 5 | 9 => 9 | n => n, fun  n => n⟩
set_option maxRecDepth 100000 in
theorem lays137 : Go.Proofs.Lays.n137 Tryz.prog ren137 := {
  mixed := by kernel_rfl
  f137 := Tryz.func153.trans (congrArg some (by kernel_rfl))
  f217 := Tryz.func175.trans (congrArg some (by kernel_rfl))
  f266 := Tryz.func184.trans (congrArg some (by kernel_rfl))
  t3 := Tryz.underlying3
  a3 := Tryz.isAgg3
  z3 := Tryz.sizeOf3
  v3 := Tryz.zeroValue3
  t5 := Tryz.underlying5
  a5 := Tryz.isAgg5
  z5 := Tryz.sizeOf5
  v5 := Tryz.zeroValue5
  t9 := Tryz.underlying9
  a9 := Tryz.isAgg9
  z9 := Tryz.sizeOf9
  v9 := Tryz.zeroValue9 }
/-- strings.IndexByte. -/
theorem indexByte_any (s : ByteArray) (c : UInt8) (w : World) : Calls Tryz.prog 153 #[.string s, .int .u8 (c.toNat : Int)] w fun e w' => e = .returned (.int .i64 (Lib.indexByte s.data.toList c)) ∧ w' = w := by
  have h := Any.strings_IndexByte lays137 s (c.toNat : Int) w
  rw [Int.toNat_natCast, show c.toNat.toUInt8 = c from UInt8.ofNat_toNat] at h
  exact h
end Go.Proofs.YtfcikfohmehmkaaGreatDoor

namespace Go.Proofs.YtfcikfohmehmkaaGreatDoor
open Go.RowKit
set_option linter.unusedVariables false

theorem numA_oct (l : List UInt8) : numA l 0 255 = okA (N.octL l) := by
  rcases N.num_cases l with h | ⟨n, h, _, _⟩
  · unfold numA okA N.octL; rw [h]; rfl
  · unfold numA N.octL
    rw [h]
    by_cases h2 : n ≤ 255
    · rw [if_pos (by omega), if_neg (by omega), okA_nat]
    · rw [if_neg (by omega), if_pos (by omega)]; rfl
theorem shl8C {n : Nat} (h : n < 16777216) : (n : Int) * 256 = ((256 * n : Nat) : Int) := by omega
theorem or8C {n b : Nat} (h : n < 16777216) (hb : b < 256) : Go.bits .or .i64 ((256 * n : Nat) : Int) (b : Int) = ((256 * n + b : Nat) : Int) := by
  have h1 : 256 * n + b < 9223372036854775808 := by omega
  exact N.or_low n b 8 256 rfl hb h1
theorem sv_is (s : ByteArray) : sB s.data.toList = s := ByteArray.ext (Array.ext' (by simp [sB]))
theorem acc_snocC (L : List (List UInt8)) (a : List UInt8) (n b : Nat) (h1 : N.accL N.octL L = (n : Int)) (h2 : N.octL a = (b : Int)) : N.accL N.octL (L ++ [a]) = ((256 * n + b : Nat) : Int) := by rw [N.acc_snoc, h1, h2]; omega
theorem acc_smallC (L : List (List UInt8)) (n : Nat) (hl : L.length ≤ 3) (hg : ∀ x ∈ L, 0 ≤ N.octL x) (h : N.accL N.octL L = (n : Int)) : n < 16777216 := by
  have := (N.acc_range N.octL (fun x => (N.oct_range x).2) 3 L hl hg).2
  rw [h] at this
  have e : ((256 ^ 3 : Nat) : Int) = 16777216 := rfl
  rw [e] at this
  omega
/-- How far the address is read. -/
structure IpAt (s : List UInt8) (g : Nat) (L : List (List UInt8)) (r : List UInt8) (n : Nat) : Prop where
  len : L.length + g = 4
  good : ∀ x ∈ L, 0 ≤ N.octL x
  sum : N.accL N.octL L = (n : Int)
  more : 0 < g → N.splitL 46 s = L ++ N.splitL 46 r
  done : g = 0 → N.splitL 46 s = L
theorem IpAt.start (s : List UInt8) : IpAt s 4 [] s 0 := ⟨rfl, (fun x hx => by cases hx), rfl, (fun _ => rfl), (fun h => by cases h)⟩
theorem IpAt.bad {s : List UInt8} {g n : Nat} {L : List (List UInt8)} {r a : List UInt8} {t : List (List UInt8)} (h : IpAt s g L r n) (hg : 0 < g) (e : N.splitL 46 r = a :: t) (hb : N.octL a < 0) : N.ipL s = -1 :=
  N.ip_bad (h.more hg) (x := a) (by rw [e]; simp) hb
theorem IpAt.wrong {s : List UInt8} {g n : Nat} {L : List (List UInt8)} {r : List UInt8} (h : IpAt s g L r n) (hg : 0 < g) (hl : (N.splitL 46 r).length ≠ g) : N.ipL s = -1 :=
  N.ip_len (h.more hg) (by rw [List.length_append]; have := h.len; omega)
theorem IpAt.next {s : List UInt8} {g n b : Nat} {L : List (List UInt8)} {r a r2 : List UInt8} (h : IpAt s (g + 1) L r n) (hb : N.octL a = (b : Int)) (e : (0 < g ∧ N.splitL 46 r = a :: N.splitL 46 r2) ∨ (g = 0 ∧ N.splitL 46 r = [a])) : IpAt s g (L ++ [a]) r2 (256 * n + b) where
  len := by rw [List.length_append, List.length_singleton]; have := h.len; omega
  good := fun x hx => by
    rcases List.mem_append.1 hx with hx | hx
    · exact h.good x hx
    · rw [List.mem_singleton.1 hx, hb]; omega
  sum := acc_snocC L a n b h.sum hb
  more := fun hg => by
    rcases e with ⟨_, e⟩ | ⟨e, _⟩
    · rw [h.more (by omega), e, List.append_assoc]; rfl
    · omega
  done := fun hg => by
    rcases e with ⟨e, _⟩ | ⟨_, e⟩
    · omega
    · rw [h.more (by omega), e]
theorem IpAt.all {s : List UInt8} {n : Nat} {L : List (List UInt8)} {r : List UInt8} (h : IpAt s 0 L r n) : N.ipL s = (n : Int) := by
  rw [N.ip_good (h.done rfl) (by have := h.len; omega) h.good, h.sum]
theorem cut_false {l a b : List UInt8} {c : UInt8} (h : CutIs c l a b false) : N.splitL c l = [a] ∧ a.length = l.length := by
  rcases h with ⟨_, rfl, _, h⟩ | ⟨h, _⟩
  · exact ⟨N.split_one h, rfl⟩
  · cases h
theorem cut_true {l a b : List UInt8} {c : UInt8} (h : CutIs c l a b true) : N.splitL c l = a :: N.splitL c b ∧ l.length = a.length + (b.length + 1) := by
  rcases h with ⟨h, _⟩ | ⟨_, rfl, h⟩
  · cases h
  · exact ⟨N.split_at h b, by rw [List.length_append, List.length_cons]⟩
theorem CutIs.small {l a b : List UInt8} {c : UInt8} {f : Bool} (h : CutIs c l a b f) (hl : l.length ≤ 100) : a.length ≤ 100 ∧ b.length ≤ 100 := by
  rcases h with ⟨_, rfl, rfl, _⟩ | ⟨_, rfl, _⟩
  · exact ⟨hl, Nat.zero_le _⟩
  · rw [List.length_append, List.length_cons] at hl; omega
theorem split_pos (c : UInt8) (l : List UInt8) : 1 ≤ (N.splitL c l).length := List.length_pos_iff.2 (N.split_ne c l)
theorem oct_two (a : List UInt8) : (okA (N.octL a) = (0, false) ∧ N.octL a < 0) ∨ (∃ b : Nat, okA (N.octL a) = ((b : Int), true) ∧ N.octL a = (b : Int) ∧ b < 256) := by
  rcases N.oct_cases a with h | ⟨b, h, h2, _⟩
  · exact .inl ⟨by rw [h]; rfl, by rw [h]; decide⟩
  · exact .inr ⟨b, by rw [h, okA_nat], h, h2⟩
set_option maxRecDepth 100000 in
set_option maxHeartbeats 4000000 in
theorem ip_any10 (s : ByteArray) (z : Int) (ok : Bool) (w : World) (hs : s.size ≤ 100) (hz : okA (N.ipL s.data.toList) = (z, ok)) : Calls Tryz.prog 122 #[.string s] w (fun e w' => e = .returned (.tuple #[.int .i64 z, .bool ok]) ∧ Below w.heap.size w w') := by
  have hsz : s.data.toList.length = s.size := by simp
  obtain ⟨l, hl⟩ : ∃ l, s.data.toList = l := ⟨_, rfl⟩
  have hll : l.length ≤ 100 := by rw [← hl, hsz]; exact hs
  have HS := Lib.hid (show s = sB l by rw [← hl, sv_is])
  rw [hl] at hz
  have HZ := Lib.hid hz
  clear hz hsz hl hs
  obtain rfl := HS.out
  go_enter Tryz.func122, Tryz.ntmps122
  go_wp2
  go_loopg [0, 4, 5] 4 (fun gk vs vn vl wr => ∃ (L : List (List UInt8)) (r : List UInt8) (n : Nat) (y : Int), Hid (y + 1 = (gk : Int)) ∧ vs = .string (sB r) ∧ vn = .int .i64 (n : Int) ∧ vl = .int .i64 y ∧ Hid (r.length ≤ 100) ∧ Hid (IpAt l gk L r n) ∧ Hid (n < 4294967296) ∧ Below w.heap.size w wr)
  case atStart => exact ⟨[], l, 0, 3, rfl, rfl, rfl, rfl, hll, IpAt.start l, (by show 0 < _; omega), Below.refl _ _⟩
  case round =>
    obtain ⟨L, r, n, y0, HY, rfl, rfl, rfl, HR, HI, HN, hbr⟩ := hrel
    by_cases hy : 0 ≤ y0
    · obtain ⟨y, rfl⟩ := Int.eq_ofNat_of_zero_le hy
      have c1 : decide ((0 : Int) ≤ (y : Int)) = true := decide_eq_true hy
      obtain rfl : y + 1 = gk := by have := HY.out; omega
      have hL3 : L.length ≤ 3 := by have := HI.out.len; omega
      have HN2 := Lib.hid (acc_smallC L n hL3 HI.out.good HI.out.sum)
      have hsr : (sB r).size ≤ 1073741824 := by rw [sB_size]; have := HR.out; omega
      clear hL3 hy
      go_wp2_with fail
      refine (cut_any10 (sB r) 46 _ hsr).mono ?_
      rintro e w1 ⟨⟨a, b, f, rfl, hc⟩, hb1⟩
      rw [sB_data] at hc
      have HAB := Lib.hid (hc.small HR.out)
      have HB1 := Lib.hid (bthen hbr hb1)
      have has : (sB a).size ≤ 1073741824 := by rw [sB_size]; have := HAB.out.1; omega
      clear hb1 hsr
      rcases oct_two a with ⟨hoa, hneg⟩ | ⟨d, hoa, hod, hd⟩
      · have HNUM := Lib.hid (show numA (sB a).data.toList 0 255 = (0, false) by rw [sB_data, numA_oct, hoa])
        have HE := Lib.hid (show z = 0 ∧ ok = false by
          have e : N.ipL l = -1 := by
            cases f with
            | false => exact HI.out.bad (by omega) (cut_false hc).1 hneg
            | true => exact HI.out.bad (by omega) (cut_true hc).1 hneg
          have := HZ.out
          rw [e] at this
          exact ⟨(congrArg Prod.fst this).symm, (congrArg Prod.snd this).symm⟩)
        clear hc hoa hneg
        obtain ⟨rfl, rfl⟩ := HE.out
        go_wp2_with fail
        refine (num_any10 (sB a) 0 255 0 false _ has HNUM.out).mono ?_
        rintro e w2 ⟨rfl, rfl⟩
        go_wp2
        go_ret2
        exact ⟨rfl, HB1.out⟩
      · have HNUM := Lib.hid (show numA (sB a).data.toList 0 255 = ((d : Int), true) by rw [sB_data, numA_oct, hoa])
        have HD := Lib.hid hd
        have HOD := Lib.hid hod
        have e8 := shl8C HN2.out
        have e9 := or8C HN2.out hd
        obtain ⟨m, hm⟩ : ∃ m, 256 * n = m := ⟨_, rfl⟩
        obtain ⟨n2, hn2⟩ : ∃ k, 256 * n + d = k := ⟨_, rfl⟩
        rw [hn2] at e9
        rw [hm] at e8 e9
        have HM := Lib.hid hn2
        have HMB := Lib.hid (show n2 < 4294967296 by have := HN2.out; omega)
        have hmb : m < 4294967296 := by have := HN2.out; omega
        clear hd hod hoa hm hn2
        by_cases hy0 : y = 0
        · subst hy0
          cases f with
          | true =>
            have HE := Lib.hid (show z = 0 ∧ ok = false by
              have e : N.ipL l = -1 := HI.out.wrong (by omega) (by rw [(cut_true hc).1, List.length_cons]; have := split_pos 46 b; omega)
              have := HZ.out
              rw [e] at this
              exact ⟨(congrArg Prod.fst this).symm, (congrArg Prod.snd this).symm⟩)
            clear hc
            obtain ⟨rfl, rfl⟩ := HE.out
            go_wp2_with fail
            refine (num_any10 (sB a) 0 255 (d : Int) true _ has HNUM.out).mono ?_
            rintro e w2 ⟨rfl, rfl⟩
            go_wp2
            go_ret2
            exact ⟨rfl, HB1.out⟩
          | false =>
            have HI2 := Lib.hid (show IpAt l 0 (L ++ [a]) b n2 by rw [← HM.out]; exact HI.out.next HOD.out (.inr ⟨rfl, (cut_false hc).1⟩))
            clear hc
            go_wp2_with fail
            refine (num_any10 (sB a) 0 255 (d : Int) true _ has HNUM.out).mono ?_
            rintro e w2 ⟨rfl, rfl⟩
            go_wp2
            go_roundg 0
            case rel => exact ⟨L ++ [a], b, n2, -1, (by show _ = _; rfl), by go_num, by go_num, by go_num, HAB.out.2, HI2.out, HMB.out, HB1.out⟩
            case measure => omega
        · have c2 : decide ((0 : Int) < (y : Int)) = true := decide_eq_true (by omega)
          have c2b : decide (0 < y) = true := decide_eq_true (by omega)
          cases f with
          | false =>
            have HE := Lib.hid (show z = 0 ∧ ok = false by
              have e : N.ipL l = -1 := HI.out.wrong (by omega) (by rw [(cut_false hc).1, List.length_singleton]; omega)
              have := HZ.out
              rw [e] at this
              exact ⟨(congrArg Prod.fst this).symm, (congrArg Prod.snd this).symm⟩)
            clear hc
            obtain ⟨rfl, rfl⟩ := HE.out
            go_wp2_with fail
            refine (num_any10 (sB a) 0 255 (d : Int) true _ has HNUM.out).mono ?_
            rintro e w2 ⟨rfl, rfl⟩
            go_wp2
            go_ret2
            exact ⟨rfl, HB1.out⟩
          | true =>
            have HI2 := Lib.hid (show IpAt l y (L ++ [a]) b n2 by rw [← HM.out]; exact HI.out.next HOD.out (.inl ⟨by omega, (cut_true hc).1⟩))
            obtain ⟨y1, hy1⟩ : ∃ k, y - 1 = k := ⟨_, rfl⟩
            have HYP := Lib.hid (show (y1 : Int) + 1 = (y : Int) by omega)
            have e7 : (y : Int) - 1 = (y1 : Int) := by omega
            have hy1b : y1 ≤ 4 := by have := HI.out.len; omega
            clear hy1
            clear hc
            go_wp2_with fail
            refine (num_any10 (sB a) 0 255 (d : Int) true _ has HNUM.out).mono ?_
            rintro e w2 ⟨rfl, rfl⟩
            go_wp2
            go_roundg y
            case rel => exact ⟨L ++ [a], b, n2, (y1 : Int), HYP.out, by go_num, by go_num, by go_num, HAB.out.2, HI2.out, HMB.out, HB1.out⟩
            case measure => omega
    · have c1 : decide ((0 : Int) ≤ y0) = false := decide_eq_false hy
      obtain rfl : gk = 0 := by have := HY.out; omega
      have HE := Lib.hid (show z = (n : Int) ∧ ok = true by
        have := HZ.out
        rw [HI.out.all, okA_nat] at this
        exact ⟨(congrArg Prod.fst this).symm, (congrArg Prod.snd this).symm⟩)
      obtain ⟨rfl, rfl⟩ := HE.out
      go_wp2
      go_ret2
      exact ⟨rfl, hbr⟩
set_option maxRecDepth 100000 in
set_option maxHeartbeats 2000000 in
theorem in_any10 (n bits ip : Int) (r : Bool) (w : World) (hn : I64 n) (hb : I64 bits) (hi : I64 ip) (hr : N.inB n bits ip = r) : Calls Tryz.prog 162 #[.int .i64 n, .int .i64 bits, .int .i64 ip] w (fun e w' => e = .returned (.bool r) ∧ Below w.heap.size w w') := by
  obtain ⟨q, hq⟩ : ∃ q, N.rightB n bits = q := ⟨_, rfl⟩
  have HQ := Lib.hid hq
  cases q with
  | false =>
    have HE := Lib.hid (show false = r by rw [← hr]; unfold N.inB; rw [hq]; rfl)
    clear hr hq hn hb hi
    go_enter Tryz.func162, Tryz.ntmps162
    go_wp2
    go_quiet (first | (go_at_call 152; exact Calls.quiet_of_same (calls_sym (isPref_any10 _ _ _ _ HQ.out))) | (go_at_call 174; exact Calls.quiet_of_same (calls_sym (belowIP 0 true _ rfl))))
    go_wp2
    go_ret
    exact ⟨by rw [← HE.out]; rfl, below_drawn10 (Below.refl _ _) _⟩
  | true =>
    obtain ⟨g1, g2, g3, g4⟩ := right_nums hq
    obtain ⟨v, hv⟩ : ∃ v, (decide (0 ≤ ip) && decide (ip < 4294967296)) = v := ⟨_, rfl⟩
    have HV := Lib.hid hv
    cases v with
    | false =>
      have HE := Lib.hid (show false = r by rw [← hr]; unfold N.inB; rw [hq, Bool.true_and, hv]; rfl)
      clear hr hq hn hb hi hv g1 g2 g3 g4
      go_enter Tryz.func162, Tryz.ntmps162
      go_wp2
      go_quiet (first | (go_at_call 152; exact Calls.quiet_of_same (calls_sym (isPref_any10 _ _ _ _ HQ.out))) | (go_at_call 174; exact Calls.quiet_of_same (calls_sym (belowIP _ _ _ HV.out))))
      go_wp2
      go_ret
      exact ⟨by rw [← HE.out]; rfl, below_drawn10 (Below.refl _ _) _⟩
    | true =>
      have hv2 := hv
      rw [Bool.and_eq_true, decide_eq_true_eq, decide_eq_true_eq] at hv2
      obtain ⟨nn, rfl⟩ := Int.eq_ofNat_of_zero_le g1
      obtain ⟨ii, rfl⟩ := Int.eq_ofNat_of_zero_le hv2.1
      obtain ⟨k, hk⟩ : ∃ k : Nat, (32 - bits).toNat = k := ⟨_, rfl⟩
      have hk2 : 32 - bits = (k : Int) := by omega
      have hk3 : k ≤ 32 := by omega
      obtain ⟨p, hp⟩ : ∃ p, 2 ^ k = p := ⟨_, rfl⟩
      obtain ⟨qi, hqi⟩ : ∃ q, ii / p = q := ⟨_, rfl⟩
      obtain ⟨qn, hqn⟩ : ∃ q, nn / p = q := ⟨_, rfl⟩
      have d1 : (ii : Int) / (2 : Int) ^ k = (qi : Int) := by rw [← hqi, ← hp, Int.natCast_ediv, Int.natCast_pow]; rfl
      have d2 : (nn : Int) / (2 : Int) ^ k = (qn : Int) := by rw [← hqn, ← hp, Int.natCast_ediv, Int.natCast_pow]; rfl
      have sb : IntKind.i64.wrap (32 - bits) = (k : Int) := by rw [hk2]; rw [IntKind.wrap_i64]; omega
      have HF := Lib.hid (show ((ii : Int) / 2 ^ min k 64 == (nn : Int) / 2 ^ min k 64) = r by
        rw [← hr, show min k 64 = k by omega, d1, d2]; unfold N.inB
        rw [hq, decide_eq_true hv2.1, decide_eq_true hv2.2, hk, hp]
        show _ = decide ((ii : Int) / (p : Int) = (nn : Int) / (p : Int))
        rw [← Int.natCast_ediv, ← Int.natCast_ediv, hqi, hqn, Bool.eq_iff_iff, decide_eq_true_eq, beq_iff_eq])
      clear d1 d2 hr hq hqi hqn hk hp hk2 hk3 hv hv2 hn hb hi g1 g2 g3 g4
      go_enter Tryz.func162, Tryz.ntmps162
      go_wp2
      go_quiet (first | (go_at_call 152; exact Calls.quiet_of_same (calls_sym (isPref_any10 _ _ _ _ HQ.out))) | (go_at_call 174; exact Calls.quiet_of_same (calls_sym (belowIP _ _ _ HV.out))))
      go_wp2
      go_ret
      exact ⟨by rw [← HF.out]; rfl, below_drawn10 (Below.refl _ _) _⟩
/-- The prefix of a text, from its cut. -/
theorem pref_of {l a b : List UInt8} {f : Bool} (h : CutIs 47 l a b f) : N.prefL l = if N.rightB (N.ipL a) (N.numL b) = true then (N.ipL a, N.numL b) else (-1, 0) := by
  cases f with
  | false =>
    obtain ⟨e, _⟩ := cut_false h
    obtain rfl : b = [] := by
      rcases h with ⟨_, _, e, _⟩ | ⟨e, _⟩
      · exact e
      · cases e
    have hn : N.numL [] = -1 := rfl
    have hr : N.rightB (N.ipL a) (N.numL []) = false := by
      rw [hn]; unfold N.rightB; rw [decide_eq_false (show ¬ (0 : Int) ≤ -1 by omega), Bool.and_false, Bool.false_and, Bool.false_and]
    unfold N.prefL
    rw [e, hr]
    rfl
  | true =>
    obtain ⟨e, _⟩ := cut_true h
    unfold N.prefL
    rw [e]
    by_cases hm : (47 : UInt8) ∈ b
    · have hn : N.numL b = -1 := num_bad hm (by decide)
      have hr : N.rightB (N.ipL a) (N.numL b) = false := by
        rw [hn]; unfold N.rightB; rw [decide_eq_false (show ¬ (0 : Int) ≤ -1 by omega), Bool.and_false, Bool.false_and, Bool.false_and]
      rw [hr]
      split
      · rename_i x y hxy
        injection hxy with h1 h2
        rcases N.index_cases b 47 with ⟨_, h3⟩ | ⟨i, _, _, h4, h5⟩
        · exact absurd hm h3
        · rw [N.split_hit h4 h5] at h2
          injection h2 with h2 h6
          exact absurd h6 (N.split_ne _ _)
      · rfl
    · rw [N.split_one hm]
theorem prefA_none {l : List UInt8} (h : N.prefL l = (-1, 0)) : prefA l = (0, 0, false) := by unfold prefA; rw [h]; rfl
theorem not_right {n b : Int} (h : n < 0 ∨ b < 0 ∨ 32 < b) : N.rightB n b = false := by
  cases hr : N.rightB n b with
  | false => rfl
  | true => have := right_nums hr; omega
set_option maxRecDepth 100000 in
set_option maxHeartbeats 2000000 in
theorem pref_any10 (s : ByteArray) (n b : Int) (ok : Bool) (w : World) (hs : s.size ≤ 100) (hz : prefA s.data.toList = (n, b, ok)) : Calls Tryz.prog 123 #[.string s] w (fun e w' => e = .returned (.tuple #[.int .i64 n, .int .i64 b, .bool ok]) ∧ Below w.heap.size w w') := by
  have hsz : s.data.toList.length = s.size := by simp
  have HL := Lib.hid (show s.data.toList.length ≤ 100 by rw [hsz]; exact hs)
  have HZ := Lib.hid hz
  have hs2 : s.size ≤ 1073741824 := by omega
  clear hz hsz
  go_enter Tryz.func123, Tryz.ntmps123
  go_wp2_with fail
  refine (cut_any10 s 47 _ hs2).mono ?_
  rintro e w1 ⟨⟨x, y, f, rfl, hc⟩, hb1⟩
  have HAB := Lib.hid (hc.small HL.out)
  have HP := Lib.hid (pref_of hc)
  have HB1 := Lib.hid hb1
  have hxs : (sB x).size ≤ 100 := by rw [sB_size]; exact HAB.out.1
  have hys : (sB y).size ≤ 1073741824 := by rw [sB_size]; have := HAB.out.2; omega
  clear hb1 hc hs hs2
  rcases N.ip_cases x with hi | ⟨ni, hi, hi2, _⟩
  · have HI := Lib.hid (show okA (N.ipL (sB x).data.toList) = (0, false) by rw [sB_data, hi]; rfl)
    have HE := Lib.hid (show n = 0 ∧ b = 0 ∧ ok = false by
      have := HZ.out
      rw [prefA_none (by rw [HP.out, not_right (.inl (by omega)), if_neg (by decide)])] at this
      exact ⟨(congrArg Prod.fst this).symm, (congrArg (fun q => q.2.1) this).symm, (congrArg (fun q => q.2.2) this).symm⟩)
    obtain ⟨rfl, rfl, rfl⟩ := HE.out
    obtain ⟨zn, okn, hnum⟩ : ∃ zn okn, numA (sB y).data.toList 0 32 = (zn, okn) := ⟨_, _, rfl⟩
    have HNUM := Lib.hid hnum
    clear hi hnum
    go_wp2_with fail
    refine (ip_any10 (sB x) 0 false _ hxs HI.out).mono ?_
    rintro e w2 ⟨rfl, hx⟩
    have HB2 := Lib.hid (bthen HB1.out hx)
    clear hx
    go_wp2_with fail
    refine (num_any10 (sB y) 0 32 zn okn _ hys HNUM.out).mono ?_
    rintro e w3 ⟨rfl, rfl⟩
    go_wp2
    go_ret3
    exact ⟨rfl, HB2.out⟩
  · have HI := Lib.hid (show okA (N.ipL (sB x).data.toList) = ((ni : Int), true) by rw [sB_data, hi, okA_nat])
    rcases N.num_cases y with hn | ⟨k, hn, _, _⟩
    · have HNUM := Lib.hid (show numA (sB y).data.toList 0 32 = (0, false) by rw [sB_data]; unfold numA; rw [hn]; rfl)
      have HE := Lib.hid (show n = 0 ∧ b = 0 ∧ ok = false by
        have := HZ.out
        rw [prefA_none (by rw [HP.out, not_right (.inr (.inl (by omega))), if_neg (by decide)])] at this
        exact ⟨(congrArg Prod.fst this).symm, (congrArg (fun q => q.2.1) this).symm, (congrArg (fun q => q.2.2) this).symm⟩)
      obtain ⟨rfl, rfl, rfl⟩ := HE.out
      clear hi hi2 hn
      go_wp2_with fail
      refine (ip_any10 (sB x) (ni : Int) true _ hxs HI.out).mono ?_
      rintro e w2 ⟨rfl, hx⟩
      have HB2 := Lib.hid (bthen HB1.out hx)
      clear hx
      go_wp2_with fail
      refine (num_any10 (sB y) 0 32 0 false _ hys HNUM.out).mono ?_
      rintro e w3 ⟨rfl, rfl⟩
      go_wp2
      go_ret3
      exact ⟨rfl, HB2.out⟩
    · by_cases hk : k ≤ 32
      · have HNUM := Lib.hid (show numA (sB y).data.toList 0 32 = ((k : Int), true) by rw [sB_data]; unfold numA; rw [hn, if_pos (by omega)])
        obtain ⟨v, hv⟩ : ∃ v, N.rightB (ni : Int) (k : Int) = v := ⟨_, rfl⟩
        have HV := Lib.hid hv
        cases v with
        | false =>
          have HE := Lib.hid (show n = 0 ∧ b = 0 ∧ ok = false by
            have := HZ.out
            rw [prefA_none (by rw [HP.out, hi, hn, hv, if_neg (by decide)])] at this
            exact ⟨(congrArg Prod.fst this).symm, (congrArg (fun q => q.2.1) this).symm, (congrArg (fun q => q.2.2) this).symm⟩)
          obtain ⟨rfl, rfl, rfl⟩ := HE.out
          clear hi hi2 hn hv hk
          go_wp2_with fail
          refine (ip_any10 (sB x) (ni : Int) true _ hxs HI.out).mono ?_
          rintro e w2 ⟨rfl, hx⟩
          have HB2 := Lib.hid (bthen HB1.out hx)
          clear hx
          go_wp2_with fail
          refine (num_any10 (sB y) 0 32 (k : Int) true _ hys HNUM.out).mono ?_
          rintro e w3 ⟨rfl, rfl⟩
          go_wp2_with fail
          refine (isPref_any10 _ _ false _ HV.out).mono ?_
          rintro e w4 ⟨rfl, rfl⟩
          go_wp2
          go_ret3
          exact ⟨rfl, HB2.out⟩
        | true =>
          have HE := Lib.hid (show n = (ni : Int) ∧ b = (k : Int) ∧ ok = true by
            have := HZ.out
            unfold prefA at this
            rw [HP.out, hi, hn, hv, if_pos rfl, if_pos (show (0 : Int) ≤ (ni : Int) by omega)] at this
            exact ⟨(congrArg Prod.fst this).symm, (congrArg (fun q => q.2.1) this).symm, (congrArg (fun q => q.2.2) this).symm⟩)
          obtain ⟨rfl, rfl, rfl⟩ := HE.out
          clear hi hi2 hn hv hk
          go_wp2_with fail
          refine (ip_any10 (sB x) (ni : Int) true _ hxs HI.out).mono ?_
          rintro e w2 ⟨rfl, hx⟩
          have HB2 := Lib.hid (bthen HB1.out hx)
          clear hx
          go_wp2_with fail
          refine (num_any10 (sB y) 0 32 (k : Int) true _ hys HNUM.out).mono ?_
          rintro e w3 ⟨rfl, rfl⟩
          go_wp2_with fail
          refine (isPref_any10 _ _ true _ HV.out).mono ?_
          rintro e w4 ⟨rfl, rfl⟩
          go_wp2
          go_ret3
          exact ⟨rfl, HB2.out⟩
      · have HNUM := Lib.hid (show numA (sB y).data.toList 0 32 = (0, false) by rw [sB_data]; unfold numA; rw [hn, if_neg (by omega)])
        have HE := Lib.hid (show n = 0 ∧ b = 0 ∧ ok = false by
          have := HZ.out
          rw [prefA_none (by rw [HP.out, not_right (.inr (.inr (by omega))), if_neg (by decide)])] at this
          exact ⟨(congrArg Prod.fst this).symm, (congrArg (fun q => q.2.1) this).symm, (congrArg (fun q => q.2.2) this).symm⟩)
        obtain ⟨rfl, rfl, rfl⟩ := HE.out
        clear hi hi2 hn hk
        go_wp2_with fail
        refine (ip_any10 (sB x) (ni : Int) true _ hxs HI.out).mono ?_
        rintro e w2 ⟨rfl, hx⟩
        have HB2 := Lib.hid (bthen HB1.out hx)
        clear hx
        go_wp2_with fail
        refine (num_any10 (sB y) 0 32 0 false _ hys HNUM.out).mono ?_
        rintro e w3 ⟨rfl, rfl⟩
        go_wp2
        go_ret3
        exact ⟨rfl, HB2.out⟩
end Go.Proofs.YtfcikfohmehmkaaGreatDoor

namespace Go.Proofs.YtfcikfohmehmkaaGreatDoor
open Go.RowKit
set_option linter.unusedVariables false

theorem shl4C {n : Nat} (h : n < 281474976710656) : (n : Int) * 16 = ((16 * n : Nat) : Int) := by omega
theorem or4C {n b : Nat} (h : n < 281474976710656) (hb : b < 16) : Go.bits .or .i64 ((16 * n : Nat) : Int) (b : Int) = ((16 * n + b : Nat) : Int) := by
  have h1 : 16 * n + b < 9223372036854775808 := by omega
  exact N.or_low n b 4 16 rfl hb h1
theorem hexStr : (⟨#[48, 49, 50, 51, 52, 53, 54, 55, 56, 57, 97, 98, 99, 100, 101, 102]⟩ : ByteArray).data.toList = N.hexDigs := rfl
/-- Digits of a hardware address on the way: 12 at most of the 17 bytes. -/
theorem run_lt2 : ∀ (l : List UInt8) (i n m : Nat), N.macRun i n l = some m → m < (n + 1) * 16 ^ (l.length - (l.length + i % 3) / 3)
  | [], i, n, m, h => by
    obtain rfl : n = m := Option.some.inj h
    have hp : 0 < 16 ^ (([] : List UInt8).length - (([] : List UInt8).length + i % 3) / 3) := Nat.pow_pos (by omega)
    have := Nat.mul_le_mul_left (n + 1) hp
    omega
  | c :: r, i, n, m, h => by
    by_cases h3 : i % 3 = 2
    · obtain ⟨_, e⟩ := N.run_colon h3 h
      have h1 := run_lt2 r (i + 1) n m e
      have e2 : r.length - (r.length + (i + 1) % 3) / 3 = (c :: r).length - ((c :: r).length + i % 3) / 3 := by rw [List.length_cons]; omega
      rw [e2] at h1
      exact h1
    · obtain ⟨d, hd, _, e⟩ := N.run_digit h3 h
      have h1 := run_lt2 r (i + 1) (16 * n + d) m e
      have e2 : (c :: r).length - ((c :: r).length + i % 3) / 3 = (r.length - (r.length + (i + 1) % 3) / 3) + 1 := by rw [List.length_cons]; omega
      rw [e2, Nat.pow_succ, Nat.mul_comm (16 ^ _) 16, ← Nat.mul_assoc]
      have h2 : (16 * n + d + 1) * 16 ^ (r.length - (r.length + (i + 1) % 3) / 3) ≤ (n + 1) * 16 * 16 ^ (r.length - (r.length + (i + 1) % 3) / 3) := Nat.mul_le_mul_right _ (by omega)
      omega
theorem run_small {l : List UInt8} {m : Nat} (hl : l.length ≤ 17) (h : N.macRun 0 0 l = some m) : m < 281474976710656 := by
  have h1 := run_lt2 l 0 0 m h
  have h2 : 16 ^ (l.length - (l.length + 0 % 3) / 3) ≤ 16 ^ 12 := Nat.pow_le_pow_right (by omega) (by omega)
  have h3 : 16 ^ 12 = 281474976710656 := rfl
  rw [h3] at h2
  omega
set_option maxRecDepth 100000 in
set_option maxHeartbeats 4000000 in
theorem mac_any10 (s : ByteArray) (z : Int) (ok : Bool) (w : World) (hz : okA (N.macL s.data.toList) = (z, ok)) : Calls Tryz.prog 124 #[.string s] w (fun e w' => e = .returned (.tuple #[.int .i64 z, .bool ok]) ∧ w = w') := by
  have hsz : s.data.toList.length = s.size := by simp
  by_cases h17 : s.size = 17
  · have b1 : ((s.size : Int) == 17) = true := by simp; omega
    have b1b : (s.size == 17) = true := by simp; omega
    have b1c : ((s.size : Int) != 17) = false := by simp; omega
    have HSZ := Lib.hid (show s.data.toList.length = 17 by rw [hsz]; exact h17)
    have HZ := Lib.hid hz
    have H17 := Lib.hid h17
    clear hz hsz h17
    go_enter Tryz.func124, Tryz.ntmps124
    go_wp2
    go_loopg [4, 5] 17 (fun gk vn vi wr => ∃ (k n : Nat), Hid (k + gk = 17) ∧ vi = .int .i64 (k : Int) ∧ vn = .int .i64 (n : Int) ∧ Hid (N.macRun 0 0 (s.data.toList.take k) = some n) ∧ w = wr)
    case atStart => exact ⟨0, 0, (by show _ = _; rfl), rfl, rfl, rfl, rfl⟩
    case round =>
      obtain ⟨k, n, HG, rfl, rfl, HR, rfl⟩ := hrel
      have hgk := HG.out
      by_cases hlt : k < s.size
      · have blt : decide ((k : Int) < (s.size : Int)) = true := decide_eq_true (by omega)
        have blt2 : decide (k < s.size) = true := decide_eq_true hlt
        have hki : (k : Int) < (s.size : Int) := by omega
        have hx := s[k].toNat_lt
        have hk17 : k < 17 := by have := H17.out; omega
        have hll : k < s.data.toList.length := by rw [HSZ.out]; exact hk17
        have hget : s.data.toList[k] = s[k] := rfl
        have HN := Lib.hid (run_small (by rw [List.length_take]; omega) HR.out)
        by_cases hm : k % 3 = 2
        · have e1 : Int.tmod (k : Int) 3 = 2 := by rw [Int.tmod_eq_emod_of_nonneg (by omega)]; omega
          by_cases hc : s[k] = 58
          · have b2 : ((s[k].toNat : Int) == 58) = true := by rw [hc]; rfl
            have HS := Lib.hid (N.run_snoc hll HR.out (show N.macStep k n s.data.toList[k] = some n by rw [N.mac_colon hm, hget, if_pos hc]))
            clear hc hm hget
            go_wp2
            go_roundg (17 - (k + 1))
            case rel => exact ⟨k + 1, n, (by show _ = _; omega), by go_num, by go_num, HS.out, rfl⟩
            case measure => omega
          · have hne : s[k].toNat ≠ 58 := fun e => hc (UInt8.toNat_inj.1 e)
            have b2 : ((s[k].toNat : Int) == 58) = false := by simp; omega
            have HE := Lib.hid (show z = 0 ∧ ok = false by
              have := HZ.out
              rw [N.run_none_at hll HR.out (by rw [N.mac_colon hm, hget, if_neg hc])] at this
              exact ⟨(congrArg Prod.fst this).symm, (congrArg Prod.snd this).symm⟩)
            obtain ⟨rfl, rfl⟩ := HE.out
            clear hc hm hget hne
            go_wp2
            go_ret2
            exact ⟨rfl, rfl⟩
        · have hmi : Int.tmod (k : Int) 3 = ((k % 3 : Nat) : Int) := by rw [Int.tmod_eq_emod_of_nonneg (by omega)]; omega
          obtain ⟨m3, hm3⟩ : ∃ m, k % 3 = m := ⟨_, rfl⟩
          rw [hm3] at hmi
          have b2 : ((m3 : Int) == 2) = false := beq_eq_false_iff_ne.2 (by omega)
          have b2b : (m3 == 2) = false := beq_eq_false_iff_ne.2 (by omega)
          have HIX := Lib.hid (show Lib.indexByte (⟨#[48, 49, 50, 51, 52, 53, 54, 55, 56, 57, 97, 98, 99, 100, 101, 102]⟩ : ByteArray).data.toList s[k] = N.hexV s[k] by rw [hexStr]; exact N.hex_index _)
          rcases N.hex_cases s[k] with hh | ⟨d, hh, hd, _⟩
          · have HV := Lib.hid (HIX.out.trans hh)
            have HE := Lib.hid (show z = 0 ∧ ok = false by
              have := HZ.out
              rw [N.run_none_at hll HR.out (by rw [N.mac_digit hm, hget, if_pos (by omega)])] at this
              exact ⟨(congrArg Prod.fst this).symm, (congrArg Prod.snd this).symm⟩)
            obtain ⟨rfl, rfl⟩ := HE.out
            clear hm hget hh hm3
            go_wp2_with fail
            refine (indexByte_any _ _ _).mono ?_
            rintro e w1 ⟨rfl, rfl⟩
            rw [HV.out]
            go_wp2
            go_ret2
            exact ⟨rfl, rfl⟩
          · have HV := Lib.hid (HIX.out.trans hh)
            have HS := Lib.hid (N.run_snoc hll HR.out (show N.macStep k n s.data.toList[k] = some (16 * n + d) by rw [N.mac_digit hm, hget, hh, if_neg (by omega), Int.toNat_natCast]))
            have e8 := shl4C HN.out
            have e9 := or4C HN.out hd
            obtain ⟨m, hmm⟩ : ∃ m, 16 * n = m := ⟨_, rfl⟩
            obtain ⟨n2, hn2⟩ : ∃ k, 16 * n + d = k := ⟨_, rfl⟩
            have HN2 := Lib.hid hn2
            have hmb : m < 4503599627370496 := by have := HN.out; omega
            rw [hn2] at e9
            rw [hmm] at e8 e9
            clear hm hget hh hm3 hd hn2 hmm
            go_wp2_with fail
            refine (indexByte_any _ _ _).mono ?_
            rintro e w1 ⟨rfl, rfl⟩
            rw [HV.out]
            go_wp2
            go_roundg (17 - (k + 1))
            case rel => exact ⟨k + 1, n2, (by show _ = _; omega), by go_num, by go_num, by rw [← HN2.out]; exact HS.out, rfl⟩
            case measure => omega
      · have blt : decide ((k : Int) < (s.size : Int)) = false := decide_eq_false (by omega)
        have blt2 : decide (k < s.size) = false := decide_eq_false hlt
        have HE := Lib.hid (show z = (n : Int) ∧ ok = true by
          have h1 := HR.out
          rw [List.take_of_length_le (by rw [HSZ.out]; have := H17.out; omega)] at h1
          have := HZ.out
          rw [N.run_mac HSZ.out h1, okA_nat] at this
          exact ⟨(congrArg Prod.fst this).symm, (congrArg Prod.snd this).symm⟩)
        obtain ⟨rfl, rfl⟩ := HE.out
        go_wp2
        go_ret2
        exact ⟨rfl, rfl⟩
  · have b1 : ((s.size : Int) == 17) = false := by simp; omega
    have b1b : (s.size == 17) = false := by simp; omega
    rw [N.mac_short (by rw [hsz]; exact h17)] at hz
    have HE := Lib.hid (show z = 0 ∧ ok = false from ⟨(congrArg Prod.fst hz).symm, (congrArg Prod.snd hz).symm⟩)
    obtain ⟨rfl, rfl⟩ := HE.out
    clear hz hsz h17
    go_enter Tryz.func124, Tryz.ntmps124
    go_wp2
    go_ret2
    exact ⟨rfl, rfl⟩
-- TEXTS
end Go.Proofs.YtfcikfohmehmkaaGreatDoor

namespace Go.Proofs.YtfcikfohmehmkaaGreatDoor
open Go.ChangeShapes Go.WideShapes Go.ChangeAt Go.RowKit
open F
set_option linter.unusedVariables false

def Wd (l : List Nat) : Prop := ∀ x ∈ l, x < 18446744073709551616
end Go.Proofs.YtfcikfohmehmkaaGreatDoor

namespace Go.Proofs.YtfcikfohmehmkaaGreatDoor
namespace F
open Ieee
open T (decL decL_small decL_big decL_len)
open N (digB valL val_snoc)
set_option linter.unusedVariables false

/-- The sign, set. -/
theorem sign_set {x : Nat} (h : x < 9223372036854775808) : negW x = x + 9223372036854775808 := by
  obtain ⟨a, b, c⟩ := neg_parts (x := x) (by omega)
  have e : negB x = false := decide_eq_false (by omega)
  have e2 : rung x = x := Nat.mod_eq_of_lt h
  rw [e2] at a
  rw [e] at b
  have b2 : 9223372036854775808 ≤ negW x := of_decide_eq_true b
  unfold rung at a
  omega

/-- Digits, one or more, up to so many. -/
def digsB (l : List UInt8) (k : Nat) : Bool := !l.isEmpty && decide (l.length ≤ k) && l.all digB
def wholeB (a : List UInt8) : Bool := digsB a 6 && (decide (a = [48]) || decide (a.head? ≠ some 48))
def partB (b : List UInt8) : Bool := digsB b 3 && decide (b.getLast? ≠ some 48)
theorem int_whole (a : List UInt8) : (intOk a && a.all digB) = wholeB a := by
  unfold wholeB digsB intOk
  rcases a with _ | ⟨c, a⟩
  · rfl
  · cases h : (c :: a).all digB
    · simp
    · rcases a with _ | ⟨d, a⟩
      · simp
      · by_cases e : c = 48 <;> simp [e]
theorem part_frac (b : List UInt8) : fracOk (46 :: b) = partB b := by
  have e : fracOk (46 :: b) = (decide ((46 : UInt8) = 46) && !b.isEmpty && decide (b.getLast? ≠ some 48) && decide (b.length ≤ 3) && b.all digB) := rfl
  rw [e]
  unfold partB digsB
  generalize b.isEmpty = x; generalize b.all digB = y; generalize decide (b.getLast? ≠ some 48) = z; generalize decide (b.length ≤ 3) = u
  cases x <;> cases y <;> cases z <;> cases u <;> rfl
theorem dig_46 : digB 46 = false := by decide
theorem drop_bad (l : List UInt8) (h : l.all digB = false) : ∃ p c f, l = p ++ c :: f ∧ (∀ x ∈ p, digB x = true) ∧ digB c = false := by
  induction l with
  | nil => simp at h
  | cons x l ih =>
    cases hx : digB x
    · exact ⟨[], x, l, rfl, by simp, hx⟩
    · rw [List.all_cons, hx, Bool.true_and] at h
      obtain ⟨p, c, f, rfl, hp, hc⟩ := ih h
      exact ⟨x :: p, c, f, rfl, fun y hy => (List.mem_cons.1 hy).elim (fun e => e ▸ hx) (fun hy => hp y hy), hc⟩
theorem frac_bad {c : UInt8} (f : List UInt8) (h : c ≠ 46) : fracOk (c :: f) = false := by
  have e : fracOk (c :: f) = (decide (c = 46) && !f.isEmpty && decide (f.getLast? ≠ some 48) && decide (f.length ≤ 3) && f.all digB) := rfl
  rw [e, decide_eq_false h]; rfl
/-- A text without its sign, by what stands ahead of the first point and behind it. -/
theorem tho_cut {l a b : List UInt8} {f : Bool} (h : (f = false ∧ a = l ∧ b = [] ∧ (46 : UInt8) ∉ l) ∨ (f = true ∧ l = a ++ 46 :: b ∧ (46 : UInt8) ∉ a)) :
    thoL l = if (wholeB a && (!f || partB b)) = true then some (valL (a ++ b) * 10 ^ (3 - b.length)) else none := by
  cases hd : a.all digB with
  | false =>
    have hw : wholeB a = false := by unfold wholeB digsB; rw [hd]; simp
    rw [hw, Bool.false_and, if_neg (by decide)]
    obtain ⟨p, c, g, e, hp, hc⟩ := drop_bad a hd
    have h46 : c ≠ 46 := by
      intro e2
      rcases h with ⟨_, e1, _, hn⟩ | ⟨_, _, hn⟩
      · exact hn (by rw [← e1, e, e2]; simp)
      · exact hn (by rw [e, e2]; simp)
    obtain ⟨r, er⟩ : ∃ r, l = p ++ c :: r := by
      rcases h with ⟨_, e1, _, _⟩ | ⟨_, e1, _⟩
      · exact ⟨g, by rw [← e1, e]⟩
      · exact ⟨g ++ 46 :: b, by rw [e1, e]; simp⟩
    rw [er, tho_is hp (.inr ⟨c, r, rfl, hc⟩), frac_bad r h46, Bool.and_false, if_neg (by decide)]
  | true =>
    have ha : ∀ c ∈ a, digB c = true := fun c hc => List.all_eq_true.1 hd c hc
    have hw := int_whole a
    rw [hd, Bool.and_true] at hw
    rcases h with ⟨rfl, rfl, rfl, _⟩ | ⟨rfl, e1, _⟩
    · have := tho_is ha (r := []) (.inl rfl)
      rw [List.append_nil] at this
      rw [this, hw]
      simp [fracOk]
    · rw [e1, tho_is ha (.inr ⟨46, b, rfl, dig_46⟩), hw, part_frac]
      simp
end F
end Go.Proofs.YtfcikfohmehmkaaGreatDoor

namespace Go.Proofs.YtfcikfohmehmkaaGreatDoor
open Go.RowKit
open F
set_option linter.unusedVariables false

theorem F.clear_sign {x : Nat} (hx : x < 18446744073709551616) : bits .andNot .u64 (x : Int) 9223372036854775808 = ((rung x : Nat) : Int) := by
  have h := u64_andNot_nat x 9223372036854775808 hx (by omega)
  have e : x &&& (18446744073709551615 - 9223372036854775808) = rung x := by
    show x &&& (2 ^ 63 - 1) = x % 2 ^ 63
    exact Nat.and_two_pow_sub_one_eq_mod x 63
  rw [e] at h
  exact h
/-- The sign of -1, on a number without it. -/
theorem copysign_neg (x q : Nat) (w : World) (hx : x < 9223372036854775808) (hq : negW x = q) : Calls Tryz.prog 159 #[.float .f64 x, .float .f64 13830554455654793216] w (Yes w (.float .f64 q)) := by
  have HB := Lib.hid (ext_bits x w)
  have HB2 := Lib.hid (ext_bits 13830554455654793216 w)
  have HF := Lib.hid (ext_from q w)
  have HC := Lib.hid ((clear_sign (x := x) (by omega)).trans (show ((rung x : Nat) : Int) = (x : Int) by unfold rung; rw [Nat.mod_eq_of_lt hx]))
  have c2 : bits .and .u64 13830554455654793216 9223372036854775808 = 9223372036854775808 := by decide +kernel
  have HO : Hid (bits .or .u64 (x : Int) 9223372036854775808 = (q : Int)) := by
    refine Lib.hid ?_
    have h := bits_or_u64_nat x 9223372036854775808 (by omega) (by omega)
    refine h.trans ?_
    rw [← hq, sign_set hx]
    have e : x ||| 2 ^ 63 * 1 = 2 ^ 63 * 1 + x := by
      rw [Nat.or_comm]
      exact (Nat.two_pow_add_eq_or_of_lt hx 1).symm
    rw [show (9223372036854775808 : Nat) = 2 ^ 63 * 1 from rfl, e, Nat.add_comm]
  clear hq hx
  go_enter Tryz.func159, Tryz.ntmps159
  have hB := HB.out
  have hB2 := HB2.out
  have hF := HF.out
  have hC := HC.out
  have hO := HO.out
  go_wp2
  go_ret
  exact ⟨rfl, rfl⟩
end Go.Proofs.YtfcikfohmehmkaaGreatDoor
