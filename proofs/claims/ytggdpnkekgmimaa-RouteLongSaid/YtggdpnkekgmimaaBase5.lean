/-
  slices.SortStableFunc at rules that a call has made; the code's rulesOf. Condition: at most 61 entries of words of at most 100 bytes.
  Contracts of the code's Lookup, Rules and Permit: route_ok. Condition: at most 61 entries of words of at most 100 bytes.
  Layer 15: small contracts for its laws; the fixed answer 'awake'. Conditions: what route does.
  Layer 15: append of entries that came in; how many rules there are. No conditions.
  The document's side of layer 15: words of a text, a sound word, a rule's number. Conditions: texts of at most 100 bytes.
-/
import Derived.Test.YtggdpnkekgmimaaBase4

namespace Go.Proofs.Ytggdpnkekgmimaa
open Go.RowKit
set_option linter.unusedVariables false
set_option linter.unusedSimpArgs false

theorem insNil (w : World) : Calls Try.prog 46 #[.slice none 0 0, .int .i64 0, .int .i64 0, .func (.func 38) #[] #[]] w fun e w' => e = .returned (.tuple #[]) ∧ w = w' := by
  go_enter Try.func46, Try.ntmps46
  go_wp2
  go_loopg [8] 0 (fun gk vi wr => vi = .int .i64 1 ∧ wr = w)
  case atStart => exact ⟨rfl, rfl⟩
  case round =>
    obtain ⟨rfl, rfl⟩ := hrel
    go_wp2
    go_end0
    exact ⟨rfl, rfl⟩
theorem stableNil (w : World) : Calls Try.prog 43 #[.slice none 0 0, .int .i64 0, .func (.func 38) #[] #[]] w fun e w' => e = .returned (.tuple #[]) ∧ w = w' := by
  go_enter Try.func43, Try.ntmps43
  go_wp2
  go_loopg [7, 8] 0 (fun gk va vb wr => va = .int .i64 0 ∧ vb = .int .i64 20 ∧ wr = w)
  case atStart => exact ⟨rfl, rfl, rfl⟩
  case round =>
    obtain ⟨rfl, rfl, rfl⟩ := hrel
    go_wp2_with fail
    refine (insNil _).mono ?_
    rintro e w1 ⟨rfl, rfl⟩
    go_wp2
    go_loopg [6] 0 (fun gk2 v6 wq => v6 = .int .i64 20 ∧ wq = wr)
    case atStart => exact ⟨rfl, rfl⟩
    case round =>
      obtain ⟨rfl, rfl⟩ := hrel
      go_wp2
      go_end0
      exact ⟨rfl, rfl⟩
theorem sortNil (w : World) : Calls Try.prog 37 #[.slice none 0 0, .func (.func 38) #[] #[]] w fun e w' => e = .returned (.tuple #[]) ∧ w = w' := by
  go_enter Try.func37, Try.ntmps37
  go_wp2_with fail
  refine (stableNil _).mono ?_
  rintro e w1 ⟨rfl, rfl⟩
  go_wp2
  go_end0
  exact ⟨rfl, rfl⟩
/-- The rules l lie in the block g, and may be written over. -/
structure RowR (w : World) (g : Nat) (l : List O.Ru) : Prop where
  ltR2 : g < w.heap.size
  cellsR2 : Holds eRu w g 0 l
  thawR2 : ∀ j, w.frozen? ⟨g, j, none⟩ = false
theorem RowR.ofOwn {w : World} {base g n cap : Nat} {l : List O.Ru} (h : Own eRu w base (.slice (some ⟨g, 0, none⟩) n cap) l) (hl : 0 < l.length) : RowR w g l := by
  obtain ⟨b, e, h1, h2, h3⟩ := h.block hl
  injection e with e
  injection e with e
  subst e
  exact ⟨h2, h3, fun j => (h.frozenNo j).1⟩
theorem RowR.seenR {w : World} {g : Nat} {l : List O.Ru} (h : RowR w g l) : Seen eRu w (some ⟨g, 0, none⟩) l := fun _ => ⟨g, 0, rfl, h.ltR2, h.cellsR2⟩
theorem sortR_below (w : World) (blk m : Nat) (dk : Array O.Ru) (os : Array Obj) (g : Nat) (hg : g ≤ blk) (hb : blk < w.heap.size) : Below g w (sortWorldK ruC 9 w blk 0 m dk os) := by
  refine ⟨rfl, rfl, rfl, size_sortWorldK_c ruC 9 w blk 0 m dk os, fun c hc => ?_⟩
  unfold sortWorldK
  rw [Go.Sort.heap_grow_old _ _ (by rw [Go.Sort.size_putRowK]; show c < w.heap.size; omega)]
  show (w.heap.modify blk _)[c]? = _
  rw [Array.getElem?_modify, if_neg (by omega)]
set_option maxHeartbeats 2000000 in
/-- Rules in a block, by rising numbers. -/
theorem sortR_any (g n cap : Nat) (l : List O.Ru) (w : World) (hn : l.length = n) (hO : RowR w g l) (h80 : n ≤ 80) (hr : l.Pairwise fun x y => x.place < y.place) :
    Calls Try.prog 37 #[.slice (some ⟨g, 0, none⟩) n cap, .func (.func 38) #[] #[]] w fun e w' => e = .returned (.tuple #[]) ∧ ∃ s, s.Perm l ∧ s.Pairwise O.LexR ∧ RowR w' g s ∧ Below g w w' := by
  obtain ⟨d, hd⟩ : ∃ d : Array O.Ru, d = l.toArray := ⟨_, rfl⟩
  have hsz : d.size = n := by rw [hd]; exact hn
  have hgetb : ∀ i (h : i < l.length), d[i]! = l[i] := fun i h => by rw [getElem!_pos d i (by omega)]; subst hd; simp
  have hHK : Go.Sort.HoldsK ruC 9 w g 0 d := by
    intro j hj
    rw [Go.Sort.size_flatK, hsz] at hj
    refine ⟨?_, by rw [Nat.zero_add]; exact hO.thawR2 j⟩
    rw [Go.Sort.get_flatK _ _ _ _ (by rw [hsz]; exact hj)]
    have hi : j / 9 < l.length := by omega
    have hj2 : j % 9 < 9 := Nat.mod_lt _ (by decide)
    have := hO.cellsR2 (j / 9) hi (j % 9) ((ruC l[j / 9])[j % 9]'(by show j % 9 < 9; exact hj2)) (List.getElem?_eq_getElem _)
    rw [show 0 + j / 9 * eRu.sz + j % 9 = 0 + j by show 0 + j / 9 * 9 + j % 9 = 0 + j; omega] at this
    rw [this, hgetb _ hi, getElem!_pos _ _ (by show j % 9 < 9; exact hj2)]
    rfl
  have hst : Sb.Stb ltQ plQ d := by
    intro i j hij hj _ _
    rw [hgetb i (by omega), hgetb j (by omega)]
    exact List.pairwise_iff_getElem.1 hr i j (by omega) (by omega) hij
  have HST := Lib.hid (stableR g cap n d w hsz ⟨fun _ => rfl, ruC_one, hHK, hO.ltR2⟩ hst h80)
  have fin : ∀ w', (∃ d', SWK ruC 9 w g 0 d' w' ∧ Go.Sort.PermIn 0 n d d' ∧ Sb.Stb ltQ plQ d' ∧ Go.Sort.SortedIn ltQ 0 n d') → ∃ s, s.Perm l ∧ s.Pairwise O.LexR ∧ RowR w' g s ∧ Below g w w' := by
    rintro w' ⟨d', ⟨m, os, rfl⟩, hp, hsb, hs⟩
    have hsz' : d'.size = n := by rw [hp.1, hsz]
    have ext : ∀ (x : Array O.Ru), x.size = n → (x.extract 0 n).toList = x.toList := fun x hx => by rw [← hx]; simp
    have hperm : d'.toList.Perm d.toList := by
      have := hp.2.2
      rwa [ext d' hsz', ext d hsz] at this
    have hHK' := holdsK_sortWorldK_c ruC 9 w g 0 d d' m os hHK hO.ltR2 (by omega)
    have hws := size_sortWorldK_c ruC 9 w g 0 m d' os
    have hl' : d'.toList.length = n := (Array.length_toList (xs := d')).trans hsz'
    refine ⟨d'.toList, by rw [hd] at hperm; exact hperm, ?_, ⟨by have := hO.ltR2; omega, fun i hi j u hu => ?_, fun j => ?_⟩, sortR_below _ _ _ _ _ g (Nat.le_refl _) hO.ltR2⟩
    · rw [List.pairwise_iff_getElem]
      intro i j hi hj hij
      rw [Array.length_toList] at hi hj
      have h1 : ltOf cfR d'[j]! d'[i]! = false := hs i j (Nat.zero_le _) hij (by omega)
      have h2 : ltOf cfR d'[i]! d'[j]! = false → ltOf cfR d'[j]! d'[i]! = false → d'[i]!.place < d'[j]!.place := hsb i j hij hj
      rw [ltR, getElem!_pos d' i hi, getElem!_pos d' j hj, decide_eq_false_iff_not] at h1
      rw [ltR, ltR, getElem!_pos d' i hi, getElem!_pos d' j hj, decide_eq_false_iff_not, decide_eq_false_iff_not] at h2
      show O.LexR d'[i] d'[j]
      by_cases k : d'[i].num < d'[j].num
      · exact .inl k
      · exact .inr ⟨by omega, h2 k h1⟩
    · have hi2 : i < d'.size := by simpa using hi
      have hj : j < 9 := (List.getElem?_eq_some_iff.1 hu).1
      show (sortWorldK ruC 9 w g 0 m d' os).cell? ⟨g, 0 + i * 9 + j, none⟩ = some u
      rw [(Go.Sort.HoldsK.cell hHK' hi2 hj).1, getElem!_pos d' i hi2]
      have hu : (ruC d'[i])[j]? = some u := hu
      rw [List.getElem?_eq_getElem (by show j < 9; exact hj)] at hu
      rw [getElem!_pos _ _ (by show j < 9; exact hj)]
      exact hu
    · show (Go.Sort.grow (Go.Sort.putRowK ruC 9 (Go.Sort.ahead w m) g 0 d') os).frozen? ⟨g, j, none⟩ = false
      rw [Go.Sort.frozen?_grow _ _ _ (by rw [Go.Sort.size_putRowK]; exact hO.ltR2)]
      unfold Go.Sort.putRowK
      rw [Go.Sort.frozen?_putRow]
      exact hO.thawR2 j
  have FIN := Lib.hid fin
  clear fin hst hHK hgetb hsz hd hO hr h80 hn
  go_enter Try.func37, Try.ntmps37
  go_wp2_with fail
  refine HST.out.mono ?_
  rintro e w1 ⟨rfl, hx⟩
  have HX := Lib.hid (FIN.out _ hx)
  clear hx
  go_wp2
  go_end0
  exact ⟨rfl, HX.out⟩
theorem getD15 {l : List H.En} {k : Nat} (h : k < l.length) : l.getD k O.zEn = l[k] := by rw [List.getD_eq_getElem?_getD, List.getElem?_eq_getElem h]; rfl
theorem all_not {l : List H.En} {h : List UInt8} {k : Nat} (hk : k < l.length) (hc : ¬ (l[k].host = h ∧ l[k].kind = 5)) : O.allR l h (k + 1) = O.allR l h k := by
  rw [O.all_next, getD15 hk, if_neg (by rw [O.num_v, if_neg hc]; omega)]
theorem all_bad {l : List H.En} {h : List UInt8} {k : Nat} {r : O.Ru} (hk : k < l.length) (hr : O.readE l[k] = (r, false)) : O.allR l h (k + 1) = O.allR l h k := by
  rw [O.all_next, getD15 hk, if_neg]
  rw [O.num_v]
  by_cases hc : l[k].host = h ∧ l[k].kind = 5
  · rw [if_pos hc]
    unfold O.readE at hr
    intro c
    rw [if_pos c] at hr
    cases hr
  · rw [if_neg hc]; omega
theorem all_good {l : List H.En} {h : List UInt8} {k : Nat} {r : O.Ru} (hk : k < l.length) (hc : l[k].host = h ∧ l[k].kind = 5) (hr : O.readE l[k] = (r, true)) : O.allR l h (k + 1) = O.allR l h k ++ [{ r with place := k }] := by
  unfold O.readE at hr
  by_cases c : 0 < O.numV l[k].key l[k].val
  · rw [if_pos c] at hr
    injection hr with hr _
    rw [O.all_next, getD15 hk, if_pos (by rw [O.num_v, if_pos hc]; exact c), ← hr, O.ru_same]
  · rw [if_neg c] at hr
    cases hr
set_option maxRecDepth 100000 in
set_option maxHeartbeats 8000000 in
theorem rulesOf15 (A : Option Addr) (c n m : Nat) (l : List H.En) (h : List UInt8) (R : List O.Ru) (w : World) (hA : EArg w A c n l) (hR : O.ordR l h = R) (hm : R.length = m) :
    Calls Try.prog 21 #[.slice A n c, .string (sB h)] w (fun e w' => ∃ B d, e = .returned (.slice B m d) ∧ Seen eRu w' B R ∧ Below w.heap.size w w') := by
  have hn61 := hA.most
  have HA := Lib.hid hA
  have HR := Lib.hid hR
  have HM := Lib.hid hm
  clear hA hR hm
  go_enter Try.func21, Try.ntmps21
  go_wp2
  go_loopg [5, 12] n (fun gk v5 vi wr => ∃ k : Nat, Hid (k + gk = n) ∧ k ≤ n ∧ vi = .int .i64 (k : Int) ∧ Hid (Own eRu wr w.heap.size v5 (O.allR l h k)) ∧ Hid (O.allR l h k = [] → v5 = .slice none 0 0) ∧ Below w.heap.size w wr)
  case atStart => exact ⟨0, Nat.zero_add _, Nat.zero_le _, rfl, Own.nil _ _, (fun _ => rfl), Below.refl _ _⟩
  case round =>
    obtain ⟨k, HG, hk, rfl, HO, HZ, hb⟩ := hrel
    have hgk := HG.out
    by_cases hlt : k < n
    · have blt : decide ((k : Int) < (n : Int)) = true := decide_eq_true (by omega)
      have blt2 : decide (k < n) = true := decide_eq_true hlt
      have hkz : (k : Int) < (n : Int) := by omega
      have hkl : k < l.length := by rw [HA.out.len]; exact hlt
      obtain ⟨b, o, rfl, hwb, hL⟩ := HA.out.seen (by omega)
      obtain ⟨l0, l1, l2, l3⟩ := (hL.below hb hwb).entry rfl rfl hkl
      have HF := Lib.hid (HA.out.fits _ (List.getElem_mem hkl))
      have HNOT := Lib.hid (fun hc => all_not (h := h) hkl hc)
      have HBAD := Lib.hid (fun r hc => all_bad (h := h) (r := r) hkl hc)
      have HGOOD := Lib.hid (fun r hc hr => all_good (h := h) (r := r) hkl hc hr)
      clear hL hwb
      generalize l[k] = x at l0 l1 l2 l3 HF HNOT HBAD HGOOD
      obtain ⟨xh, xk, xy, xv⟩ := x
      simp only at l0 l1 l2 l3
      obtain ⟨y0, y1, y2, y3⟩ := (ent_laid wr xh xk xy xv).cells
      have hup := bthen hb (up wr (.cells #[.string (sB xh), .int .i64 xk, .string (sB xy), .string (sB xv)] 26))
      have HO2 := Lib.hid (HO.out.keep (up wr (.cells #[.string (sB xh), .int .i64 xk, .string (sB xy), .string (sB xv)] 26)))
      by_cases hh : xh = h
      · have n0 := sB_eq hh
        by_cases h5 : xk = 5
        · subst h5
          have HH := Lib.hid (show xh = h ∧ (5 : Int) = 5 from ⟨hh, rfl⟩)
          obtain ⟨⟨rp, rn, rk, ⟨fa, fn, fb⟩, ta, tn, tb⟩, ok, hr⟩ : ∃ r ok, O.readE ⟨xh, 5, xy, xv⟩ = (r, ok) := ⟨_, _, rfl⟩
          have HRE := Lib.hid hr
          clear hh hr
          go_wp2_with fail
          refine (read15 ⟨xh, 5, xy, xv⟩ _ ok _ HF.out HRE.out).mono ?_
          rintro e w1 ⟨rfl, hx⟩
          unfold ruV
          have hb1 := bthen hup hx
          have HO3 := Lib.hid (HO2.out.keep hx)
          have HR1 := Lib.hid (RuB.bornR w1 ⟨rp, rn, rk, ⟨fa, fn, fb⟩, ⟨ta, tn, tb⟩⟩)
          have hb2 := bthen hb1 (up w1 (.cells #[.int .i64 (rp : Int), .int .i64 rn, .bool rk, .bool fa, .int .i64 fn, .int .i64 fb, .bool ta, .int .i64 tn, .int .i64 tb] 51))
          have HO4 := Lib.hid (HO3.out.keep (up w1 (.cells #[.int .i64 (rp : Int), .int .i64 rn, .bool rk, .bool fa, .int .i64 fn, .int .i64 fb, .bool ta, .int .i64 tn, .int .i64 tb] 51)))
          clear hx
          cases ok with
          | false =>
            have HN := Lib.hid (HBAD.out _ HRE.out)
            go_wp2
            go_roundg (n - (k + 1))
            case rel => exact ⟨k + 1, (by show _ = _; omega), by omega, by go_num, (by rw [HN.out]; exact HO4.out), (by rw [HN.out]; exact HZ.out), hb2⟩
            case measure => omega
          | true =>
            have HN := Lib.hid (HGOOD.out _ HH.out HRE.out)
            obtain ⟨c0, c1, c2, c3, c4, c5, c6, c7, c8⟩ := HR1.out.cellsR
            have f0 := HR1.out.thawR 0
            have hb3 := bthen hb1 (up w1 (.cells #[.int .i64 (k : Int), .int .i64 rn, .bool rk, .bool fa, .int .i64 fn, .int .i64 fb, .bool ta, .int .i64 tn, .int .i64 tb] 51))
            have HO5 := Lib.hid (HO3.out.keep (up w1 (.cells #[.int .i64 (k : Int), .int .i64 rn, .bool rk, .bool fa, .int .i64 fn, .int .i64 fb, .bool ta, .int .i64 tn, .int .i64 tb] 51)))
            obtain ⟨d0, d1, d2, d3, d4, d5, d6, d7, d8⟩ := (RuB.bornR w1 ⟨k, rn, rk, ⟨fa, fn, fb⟩, ⟨ta, tn, tb⟩⟩).cellsR
            dsimp only at c0 c1 c2 c3 c4 c5 c6 c7 c8 d0 d1 d2 d3 d4 d5 d6 d7 d8
            have hl2 := O.all_len l h k
            have hszb := hb3.size
            go_wp2_with (at_builtin; refine wpList_appG eRu _ rfl (.tmp 34) (.tmp 36) rfl w.heap.size u5 (O.allR l h k) rfl HO5.out ⟨k, rn, rk, ⟨fa, fn, fb⟩, ⟨ta, tn, tb⟩⟩ 1 #[.int .i64 (k : Int), .int .i64 rn, .bool rk, .bool fa, .int .i64 fn, .int .i64 fb, .bool ta, .int .i64 tn, .int .i64 tb] rfl (w1.heap.size + 1) (by simp) rfl (by omega) hszb ?_; intro v6 w6 hown6 hb6; have HO6 := Lib.hid hown6; have HB6 := Lib.hid hb6; clear hown6 hb6)
            go_roundg (n - (k + 1))
            case rel => exact ⟨k + 1, (by show _ = _; omega), by omega, by go_num, (by rw [HN.out]; exact HO6.out), (by rw [HN.out]; exact fun q => absurd q (by simp)), hb3.trans HB6.out⟩
            case measure => omega
        · have k5 : (xk == 5) = false := by simp [h5]
          have HN := Lib.hid (HNOT.out fun q => h5 q.2)
          clear hh
          go_wp2
          go_roundg (n - (k + 1))
          case rel => exact ⟨k + 1, (by show _ = _; omega), by omega, by go_num, (by rw [HN.out]; exact HO2.out), (by rw [HN.out]; exact HZ.out), hup⟩
          case measure => omega
      · have n0 := sB_ne hh
        have HN := Lib.hid (HNOT.out fun q => hh q.1)
        clear hh
        go_wp2
        go_roundg (n - (k + 1))
        case rel => exact ⟨k + 1, (by show _ = _; omega), by omega, by go_num, (by rw [HN.out]; exact HO2.out), (by rw [HN.out]; exact HZ.out), hup⟩
        case measure => omega
    · have blt : decide ((k : Int) < (n : Int)) = false := decide_eq_false (by omega)
      have blt2 : decide (k < n) = false := decide_eq_false hlt
      have hkn : k = n := by omega
      have HK : Hid (O.allR l h k = O.allR l h l.length) := by show _ = _; rw [hkn, HA.out.len]
      obtain ⟨A5, c5, rfl, hc5, hs5⟩ := HO.out.seen
      obtain ⟨q, hq⟩ : ∃ q, (O.allR l h k).length = q := ⟨_, rfl⟩
      have HQ := Lib.hid hq
      rw [hq]
      have hq61 : q ≤ 61 := by have := O.all_len l h k; omega
      have HPM : Hid (R.length = q) := by
        show _ = _
        rw [← HR.out, (O.ord_perm l h).length_eq, ← HK.out]
        exact hq
      have hqm : q = m := HPM.out.symm.trans HM.out
      clear hq hs5 hkn
      by_cases h0 : q = 0
      · have HE := Lib.hid (show O.allR l h k = [] from List.length_eq_zero_iff.1 (HQ.out.trans h0))
        have e5 := HZ.out HE.out
        injection e5 with e1 e2 e3
        subst e1
        subst e3
        have HRN := Lib.hid (show R = [] from List.length_eq_zero_iff.1 (HPM.out.trans h0))
        subst hqm
        subst h0
        go_wp2_with fail
        refine (sortNil _).mono ?_
        rintro e w1 ⟨rfl, rfl⟩
        go_wp2
        go_ret
        exact ⟨none, 0, rfl, by rw [HRN.out]; exact Seen.nil, hb⟩
      · subst hqm
        have hl0 : 0 < (O.allR l h k).length := by have := HQ.out; omega
        obtain ⟨g, e5, hbg, _, _⟩ := HO.out.block hl0
        subst e5
        have HW := Lib.hid (RowR.ofOwn HO.out hl0)
        go_wp2_with fail
        refine (sortR_any g q c5 (O.allR l h k) _ HQ.out HW.out (by omega) (O.all_rise l h k)).mono ?_
        rintro e w1 ⟨rfl, s, hp, hlx, hrow, hx⟩
        have HS := Lib.hid (show s = R by rw [← HR.out]; exact O.ord_is (by rw [← HK.out]; exact hp) hlx)
        have HROW := Lib.hid hrow
        have HX := Lib.hid hx
        clear hp hlx hrow hx
        go_wp2
        go_ret
        exact ⟨some ⟨g, 0, none⟩, c5, rfl, by rw [← HS.out]; exact HROW.out.seenR, hb.trans (HX.out.mono hbg)⟩
end Go.Proofs.Ytggdpnkekgmimaa

namespace Go.Proofs.Ytggdpnkekgmimaa.O
open H (En)
set_option linter.unusedVariables false
def bstS (o : Option En) : Wd := match o with | none => [] | some e => e.val
def bstB (o : Option En) : Int := match o with | none => -1 | some e => bitsE e
theorem look_take {l : List En} {h : Wd} {ip : Int} {k : Nat} (hk : k < l.length) (hh : hitB h ip l[k] = true) (hb : bstB (lookE (l.take k) h ip) < bitsE l[k]) : lookE (l.take (k + 1)) h ip = some l[k] := by
  rw [look_next hk, if_pos hh]
  cases e : lookE (l.take k) h ip with
  | none => rfl
  | some x =>
    rw [e] at hb
    exact if_pos hb
theorem hit_bits {h : Wd} {ip : Int} {e : En} (hh : hitB h ip e = true) : 0 ≤ bitsE e := by
  obtain ⟨_, _, _, hi⟩ := hit_parts hh
  unfold N.inB at hi
  rw [Bool.and_eq_true, Bool.and_eq_true, Bool.and_eq_true] at hi
  have := hi.1.1.1
  unfold N.rightB at this
  rw [Bool.and_eq_true, Bool.and_eq_true, Bool.and_eq_true, Bool.and_eq_true, decide_eq_true_eq, decide_eq_true_eq, decide_eq_true_eq] at this
  exact this.1.1.2
theorem look_keep {l : List En} {h : Wd} {ip : Int} {k : Nat} (hk : k < l.length) (hn : hitB h ip l[k] = true → ¬ bstB (lookE (l.take k) h ip) < bitsE l[k]) : lookE (l.take (k + 1)) h ip = lookE (l.take k) h ip := by
  rw [look_next hk]
  by_cases hh : hitB h ip l[k] = true
  · rw [if_pos hh]
    have hn := hn hh
    have h0 := hit_bits hh
    cases e : lookE (l.take k) h ip with
    | none => rw [e] at hn; exact absurd (show (-1 : Int) < bitsE l[k] by omega) hn
    | some x => rw [e] at hn; exact if_neg hn
  · rw [if_neg hh]
theorem best_range {l : List En} {h : Wd} {ip : Int} {k : Nat} {o : Option En} (e : lookE (l.take k) h ip = o) : -1 ≤ bstB o ∧ (0 ≤ bstB o ↔ o.isSome = true) ∧ bstB o ≤ 32 := by
  cases o with
  | none => exact ⟨by decide, ⟨fun q => absurd q (by decide), fun q => by cases q⟩, by decide⟩
  | some x =>
    have hh := (look_yes e).2.1
    have := hit_bits hh
    have h2 : bitsE x ≤ 32 := by
      obtain ⟨_, _, hp, _⟩ := hit_parts hh
      unfold bitsE
      rcases N.pref_cases x.key with q | ⟨n, b, q, _, _, hb, _⟩
      · rw [q] at hp; exact absurd hp (by decide)
      · rw [q]; simp only []; omega
    exact ⟨by show -1 ≤ bitsE x; omega, ⟨fun _ => rfl, fun _ => this⟩, h2⟩
theorem best_end {l : List En} {h : Wd} {ip : Int} {o : Option En} {s : Wd} {b : Bool} (e : lookE (l.take l.length) h ip = o) (hs : lookS l h ip = s) (hb : lookB l h ip = b) : bstS o = s ∧ o.isSome = b := by
  rw [look_all] at e
  exact ⟨by rw [← hs, ← e]; rfl, by rw [← hb, ← e]; rfl⟩
theorem hit_pref {h : Wd} {ip : Int} {e : En} {n b : Int} (h1 : e.host = h) (h2 : e.kind = 4) (hp : prefA e.key = (n, b, true)) : hitB h ip e = N.inB n b ip ∧ bitsE e = b := by
  unfold prefA at hp
  by_cases c : 0 ≤ (N.prefL e.key).1
  · rw [if_pos c] at hp
    injection hp with e1 hp
    injection hp with e2 _
    refine ⟨?_, e2⟩
    unfold hitB
    rw [decide_eq_true h1, decide_eq_true h2, decide_eq_true c, e1, e2]; rfl
  · rw [if_neg c] at hp
    injection hp with _ hp
    injection hp with _ hp
    cases hp
theorem hit_none {h : Wd} {ip : Int} {e : En} {n b : Int} (hp : prefA e.key = (n, b, false)) : hitB h ip e = false := by
  unfold prefA at hp
  by_cases c : 0 ≤ (N.prefL e.key).1
  · rw [if_pos c] at hp
    injection hp with _ hp
    injection hp with _ hp
    cases hp
  · unfold hitB
    rw [decide_eq_false c, Bool.and_false, Bool.false_and]
theorem hit_host {h : Wd} {ip : Int} {e : En} (hn : ¬ (e.host = h ∧ e.kind = 4)) : hitB h ip e = false := by
  cases k : hitB h ip e with
  | false => rfl
  | true =>
    obtain ⟨a, b, _, _⟩ := hit_parts k
    exact absurd ⟨a, b⟩ hn
theorem find_next {R : List Ru} {k : Nat} {p : Ru → Bool} (hk : k < R.length) (h : (R.take k).find? p = none) (hp : p R[k] = false) : (R.take (k + 1)).find? p = none := by
  rw [List.take_succ_eq_append_getElem hk, List.find?_append, h, List.find?_cons, hp]; rfl
theorem find_hit {R : List Ru} {k : Nat} {p : Ru → Bool} (hk : k < R.length) (h : (R.take k).find? p = none) (hp : p R[k] = true) : R.find? p = some R[k] := by
  conv => lhs; rw [← List.take_append_drop k R]
  rw [List.find?_append, h, List.drop_eq_getElem_cons hk, List.find?_cons, hp]
  rfl
/-- What the first one that p takes says. -/
def firstB (R : List Ru) (p : Ru → Bool) : Bool := match R.find? p with | none => true | some x => x.perm
theorem first_hit {R : List Ru} {p : Ru → Bool} {x : Ru} (h : R.find? p = some x) : firstB R p = x.perm := by unfold firstB; rw [h]
theorem first_none {R : List Ru} {p : Ru → Bool} (h : R.find? p = none) : firstB R p = true := by unfold firstB; rw [h]
theorem first_is (l : List En) (h : Wd) (f t : Int) : permB l h f t = firstB (ordR l h) fun x => takesC x.f f && takesC x.t t := by
  rw [ord_first]
  unfold firstB
  generalize (ordR l h).find? (fun x => takesC x.f f && takesC x.t t) = o
  cases o <;> rfl
end Go.Proofs.Ytggdpnkekgmimaa.O

namespace Go.Proofs.Ytggdpnkekgmimaa
open Go.RowKit
set_option linter.unusedVariables false
set_option linter.unusedSimpArgs false
theorem fit_ru {l : List H.En} {h : List UInt8} {x : O.Ru} (hx : x ∈ O.ordR l h) : FitS x.f ∧ FitS x.t := by
  obtain ⟨i, _, hn, rfl⟩ := O.mem_ord.1 hx
  rcases O.num_cases h (l.getD i O.zEn) with c | ⟨a, b, d, e3, _⟩
  · omega
  · unfold O.ruE
    rw [e3]
    exact ⟨fit_side b, fit_side d⟩
set_option maxRecDepth 100000 in
set_option maxHeartbeats 8000000 in
theorem lookup15 (A : Option Addr) (c n : Nat) (l : List H.En) (h : List UInt8) (ip : Int) (s : List UInt8) (b : Bool) (w : World) (hA : EArg w A c n l) (hi : Int64 ip) (hs : O.lookS l h ip = s) (hb : O.lookB l h ip = b) : Calls Try.prog 11 #[.slice A n c, .string (sB h), .int .i64 ip] w (fun e w' => e = .returned (.tuple #[.string (sB s), .bool b]) ∧ Below w.heap.size w w') := by
  have hn61 := hA.most
  have HA := Lib.hid hA
  have HI := Lib.hid hi
  have HS := Lib.hid hs
  have HBB := Lib.hid hb
  clear hA hs hb hi
  go_enter Try.func11, Try.ntmps11
  go_wp2
  go_loopg [8, 9, 17] n (fun gk v8 v9 vi wr => ∃ (k : Nat) (o : Option H.En) (sv : List UInt8) (g : Int), Hid (k + gk = n) ∧ k ≤ n ∧ v8 = .string (sB sv) ∧ v9 = .int .i64 g ∧ vi = .int .i64 (k : Int) ∧ Hid (O.lookE (l.take k) h ip = o ∧ O.bstS o = sv ∧ O.bstB o = g) ∧ Below w.heap.size w wr)
  case atStart => exact ⟨0, none, [], -1, Nat.zero_add _, Nat.zero_le _, rfl, rfl, rfl, ⟨rfl, rfl, rfl⟩, Below.refl _ _⟩
  case round =>
    obtain ⟨k, o, sv, g, HG, hk, rfl, rfl, rfl, HO, hb⟩ := hrel
    have hgk := HG.out
    by_cases hlt : k < n
    · have blt : decide ((k : Int) < (n : Int)) = true := decide_eq_true (by omega)
      have blt2 : decide (k < n) = true := decide_eq_true hlt
      have hkz : (k : Int) < (n : Int) := by omega
      have hkl : k < l.length := by rw [HA.out.len]; exact hlt
      obtain ⟨b0, o0, rfl, hwb, hL⟩ := HA.out.seen (by omega)
      obtain ⟨l0, l1, l2, l3⟩ := (hL.below hb hwb).entry rfl rfl hkl
      have HF := Lib.hid (HA.out.fits _ (List.getElem_mem hkl))
      have HKEEP := Lib.hid (show (O.hitB h ip l[k] = true → ¬ g < O.bitsE l[k]) → O.lookE (l.take (k + 1)) h ip = o ∧ O.bstS o = sv ∧ O.bstB o = g from fun q => ⟨(O.look_keep hkl (by rw [HO.out.1, HO.out.2.2]; exact q)).trans HO.out.1, HO.out.2⟩)
      have HTAKE := Lib.hid (show O.hitB h ip l[k] = true → g < O.bitsE l[k] → O.lookE (l.take (k + 1)) h ip = some l[k] from fun q1 q2 => O.look_take hkl q1 (by rw [HO.out.1, HO.out.2.2]; exact q2))
      clear hL hwb
      generalize l[k] = x at l0 l1 l2 l3 HF HKEEP HTAKE
      obtain ⟨xh, xk, xy, xv⟩ := x
      simp only at l0 l1 l2 l3
      obtain ⟨y0, y1, y2, y3⟩ := (ent_laid wr xh xk xy xv).cells
      have HE := Lib.hid (ent_laid wr xh xk xy xv)
      have hup := bthen hb (up wr (.cells #[.string (sB xh), .int .i64 xk, .string (sB xy), .string (sB xv)] 26))
      by_cases hh : xh = h
      · have n0 := sB_eq hh
        by_cases h4 : xk = 4
        · subst h4
          have HH := Lib.hid hh
          obtain ⟨pn, pb, po, hp⟩ : ∃ pn pb po, prefA xy = (pn, pb, po) := ⟨_, _, _, rfl⟩
          have HP := Lib.hid hp
          have hkey : xy.length ≤ 100 := HF.out.2.1
          have HNUM := Lib.hid (show I64 pn ∧ I64 pb by have := prefA_nums xy; rw [hp] at this; exact this)
          clear hh hp
          go_wp2_with fail
          refine (pref_any10 (sB xy) pn pb po _ (by rw [sB_size]; exact hkey) (by rw [sB_data]; exact HP.out)).mono ?_
          rintro e w1 ⟨rfl, hx⟩
          have hb1 := bthen hup hx
          have HE1 := Lib.hid (ent_below HE.out hx)
          clear hx
          cases po with
          | false =>
            have HN := Lib.hid (HKEEP.out fun q => by rw [O.hit_none HP.out] at q; cases q)
            go_wp2
            go_roundg (n - (k + 1))
            case rel => exact ⟨k + 1, o, sv, g, (by show _ = _; omega), by omega, rfl, rfl, by go_num, HN.out, hb1⟩
            case measure => omega
          | true =>
            have HHIT := Lib.hid (O.hit_pref (h := h) (ip := ip) (e := ⟨xh, 4, xy, xv⟩) HH.out rfl HP.out)
            by_cases hgb : g < pb
            · obtain ⟨r, hr⟩ : ∃ r, N.inB pn pb ip = r := ⟨_, rfl⟩
              have HR := Lib.hid hr
              clear hr
              go_wp2_with fail
              refine (in_any10 pn pb ip r _ HNUM.out.1 HNUM.out.2 HI.out HR.out).mono ?_
              rintro e w2 ⟨rfl, hx⟩
              have hb2 := bthen hb1 hx
              have HE2 := Lib.hid (ent_below HE1.out hx)
              obtain ⟨z0, z1, z2, z3⟩ := HE2.out.cells
              clear hx
              cases r with
              | true =>
                have HN := Lib.hid (HTAKE.out (by rw [HHIT.out.1]; exact HR.out) (by rw [HHIT.out.2]; exact hgb))
                go_wp2
                go_roundg (n - (k + 1))
                case rel => exact ⟨k + 1, some ⟨xh, 4, xy, xv⟩, xv, pb, (by show _ = _; omega), by omega, rfl, rfl, by go_num, ⟨HN.out, rfl, HHIT.out.2⟩, hb2⟩
                case measure => omega
              | false =>
                have HN := Lib.hid (HKEEP.out fun q => by rw [HHIT.out.1, HR.out] at q; cases q)
                go_wp2
                go_roundg (n - (k + 1))
                case rel => exact ⟨k + 1, o, sv, g, (by show _ = _; omega), by omega, rfl, rfl, by go_num, HN.out, hb2⟩
                case measure => omega
            · have HN := Lib.hid (HKEEP.out fun _ => by rw [HHIT.out.2]; omega)
              go_wp2
              go_roundg (n - (k + 1))
              case rel => exact ⟨k + 1, o, sv, g, (by show _ = _; omega), by omega, rfl, rfl, by go_num, HN.out, hb1⟩
              case measure => omega
        · have HN := Lib.hid (HKEEP.out fun q => by rw [O.hit_host fun c => h4 c.2] at q; cases q)
          clear hh
          go_wp2
          go_roundg (n - (k + 1))
          case rel => exact ⟨k + 1, o, sv, g, (by show _ = _; omega), by omega, rfl, rfl, by go_num, HN.out, hup⟩
          case measure => omega
      · have n0 := sB_ne hh
        have HN := Lib.hid (HKEEP.out fun q => by rw [O.hit_host fun c => hh c.1] at q; cases q)
        clear hh
        go_wp2
        go_roundg (n - (k + 1))
        case rel => exact ⟨k + 1, o, sv, g, (by show _ = _; omega), by omega, rfl, rfl, by go_num, HN.out, hup⟩
        case measure => omega
    · have blt : decide ((k : Int) < (n : Int)) = false := decide_eq_false (by omega)
      have blt2 : decide (k < n) = false := decide_eq_false hlt
      obtain ⟨e1, e2, e3⟩ := HO.out
      have hkn : k = l.length := by rw [HA.out.len]; omega
      have HEND := Lib.hid (O.best_end (o := o) (by rw [← hkn]; exact e1) HS.out HBB.out)
      obtain ⟨_, hr2, _⟩ := O.best_range e1
      rw [e3, HEND.out.2] at hr2
      have HSV := Lib.hid (show sv = s from e2.symm.trans HEND.out.1)
      clear e1 e2 e3 hkn
      cases b with
      | true =>
        have h0 : 0 ≤ g := hr2.2 rfl
        clear hr2
        go_wp2
        go_ret2
        exact ⟨by rw [HSV.out]; rfl, hb⟩
      | false =>
        have h0 : ¬ 0 ≤ g := fun q => by have := hr2.1 q; cases this
        clear hr2
        go_wp2
        go_ret2
        exact ⟨by rw [HSV.out]; rfl, hb⟩
set_option maxRecDepth 100000 in
set_option maxHeartbeats 8000000 in
theorem rules15 (A : Option Addr) (c n m : Nat) (l : List H.En) (h : List UInt8) (Q : List Nat) (w : World) (hA : EArg w A c n l) (hQ : O.rulesL l h = Q) (hm : Q.length = m) : Calls Try.prog 15 #[.slice A n c, .string (sB h)] w (fun e w' => ∃ B d, e = .returned (.slice B m d) ∧ m ≤ d ∧ Seen eI w' B Q ∧ Below w.heap.size w w') := by
  obtain ⟨R, hR⟩ : ∃ R, O.ordR l h = R := ⟨_, rfl⟩
  have hQR : R.map (fun x => x.place) = Q := by rw [← hR, O.ord_places]; exact hQ
  have hRm : R.length = m := by rw [← hm, ← hQR, List.length_map]
  have hm61 : m ≤ 61 := by
    have h1 := (O.ord_perm l h).length_eq
    have h2 := O.all_len l h l.length
    have := hA.len
    have := hA.most
    rw [hR] at h1
    omega
  have HC := Lib.hid (rulesOf15 A c n m l h R w hA hR hRm)
  have HQR := Lib.hid hQR
  have HRM := Lib.hid hRm
  clear hA hQ hm hR hQR hRm
  go_enter Try.func15, Try.ntmps15
  go_wp2_with fail
  refine HC.out.mono ?_
  rintro e w1 ⟨B, d, rfl, hs, hx⟩
  have HSN := Lib.hid hs
  have HX := Lib.hid hx
  clear hs hx
  go_wp2
  go_loopg [5, 12] m (fun gk v5 vi wr => ∃ k : Nat, Hid (k + gk = m) ∧ k ≤ m ∧ vi = .int .i64 (k : Int) ∧ Hid (Own eI wr w1.heap.size v5 ((R.take k).map fun x => x.place)) ∧ Below w1.heap.size w1 wr)
  case atStart => exact ⟨0, Nat.zero_add _, Nat.zero_le _, rfl, Own.nil _ _, Below.refl _ _⟩
  case round =>
    obtain ⟨k, HG, hk, rfl, HO, hb⟩ := hrel
    have hgk := HG.out
    by_cases hlt : k < m
    · have blt : decide ((k : Int) < (m : Int)) = true := decide_eq_true (by omega)
      have blt2 : decide (k < m) = true := decide_eq_true hlt
      have hkz : (k : Int) < (m : Int) := by omega
      have hkl : k < R.length := by rw [HRM.out]; exact hlt
      obtain ⟨b0, o0, rfl, hwb, hL⟩ := HSN.out (by omega)
      obtain ⟨l0, l1, l2, l3, l4, l5, l6, l7, l8⟩ := (hL.below hb hwb).ruled hkl
      have HT := Lib.hid (List.take_succ_eq_append_getElem hkl)
      have HLN := Lib.hid (show ((R.take k).map fun x => x.place).length ≤ k by simp; omega)
      clear hL hwb
      generalize R[k] = x at l0 l1 l2 l3 l4 l5 l6 l7 l8 HT
      obtain ⟨xp, xn, xk, ⟨fa, fn, fb⟩, ta, tn, tb⟩ := x
      simp only at l0 l1 l2 l3 l4 l5 l6 l7 l8
      obtain ⟨y0, y1, y2, y3, y4, y5, y6, y7, y8⟩ := (RuB.bornR wr ⟨xp, xn, xk, ⟨fa, fn, fb⟩, ⟨ta, tn, tb⟩⟩).cellsR
      dsimp only at y0 y1 y2 y3 y4 y5 y6 y7 y8
      have hup := bthen hb (up wr (.cells #[.int .i64 (xp : Int), .int .i64 xn, .bool xk, .bool fa, .int .i64 fn, .int .i64 fb, .bool ta, .int .i64 tn, .int .i64 tb] 51))
      have HO2 := Lib.hid (HO.out.keep (up wr (.cells #[.int .i64 (xp : Int), .int .i64 xn, .bool xk, .bool fa, .int .i64 fn, .int .i64 fb, .bool ta, .int .i64 tn, .int .i64 tb] 51)))
      have hszb := hup.size
      go_wp2_with (at_builtin; refine wpList_appG eI _ rfl (.tmp 16) (.tmp 19) rfl w1.heap.size u5 _ rfl HO2.out xp 1 #[.int .i64 (xp : Int)] rfl (wr.heap.size + 1) (by simp) rfl (by have := HLN.out; omega) hszb ?_; intro v6 w6 hown6 hb6; have HO6 := Lib.hid hown6; have HB6 := Lib.hid hb6; clear hown6 hb6)
      go_roundg (m - (k + 1))
      case rel => exact ⟨k + 1, (by show _ = _; omega), by omega, by go_num, (by rw [HT.out, List.map_append]; exact HO6.out), hup.trans HB6.out⟩
      case measure => omega
    · have blt : decide ((k : Int) < (m : Int)) = false := decide_eq_false (by omega)
      have blt2 : decide (k < m) = false := decide_eq_false hlt
      have HE := Lib.hid (show (R.take k).map (fun x => x.place) = Q by rw [List.take_of_length_le (by rw [HRM.out]; omega)]; exact HQR.out)
      obtain ⟨A6, c6, rfl, hc6, hs6⟩ := HO.out.seen
      have hl6 : ((R.take k).map fun x => x.place).length = m := by rw [List.length_map, List.length_take, HRM.out]; omega
      rw [hl6] at hc6
      rw [hl6]
      have HS6 := Lib.hid hs6
      clear hs6 hl6
      go_wp2
      go_ret
      exact ⟨A6, c6, rfl, hc6, by rw [← HE.out]; exact HS6.out, HX.out.trans (hb.mono HX.out.size)⟩
set_option maxRecDepth 100000 in
set_option maxHeartbeats 8000000 in
theorem permit15 (A : Option Addr) (c n : Nat) (l : List H.En) (h : List UInt8) (f t : Int) (b : Bool) (w : World) (hA : EArg w A c n l) (hf : Int64 f) (ht : Int64 t) (hb : O.permB l h f t = b) : Calls Try.prog 12 #[.slice A n c, .string (sB h), .int .i64 f, .int .i64 t] w (fun e w' => e = .returned (.bool b) ∧ Below w.heap.size w w') := by
  obtain ⟨R, hR⟩ : ∃ R, O.ordR l h = R := ⟨_, rfl⟩
  obtain ⟨m, hm⟩ : ∃ m, R.length = m := ⟨_, rfl⟩
  obtain ⟨p, hp⟩ : ∃ p : O.Ru → Bool, p = fun x => O.takesC x.f f && O.takesC x.t t := ⟨_, rfl⟩
  have HP : Hid (∀ x, p x = (O.takesC x.f f && O.takesC x.t t)) := by show ∀ x, _; intro x; rw [hp]
  have HBP := Lib.hid (show O.firstB R p = b by rw [← hb, O.first_is, hR, hp])
  have HFIT := Lib.hid (show ∀ x ∈ R, FitS x.f ∧ FitS x.t from fun x hx => by rw [← hR] at hx; exact fit_ru hx)
  have hm61 : m ≤ 61 := by
    have h1 := (O.ord_perm l h).length_eq
    have h2 := O.all_len l h l.length
    have := hA.len
    have := hA.most
    rw [hR] at h1
    omega
  have HC := Lib.hid (rulesOf15 A c n m l h R w hA hR hm)
  have HRM := Lib.hid hm
  have HIF := Lib.hid (i64_of hf)
  have HIT := Lib.hid (i64_of ht)
  clear hA hb hR hm hp hf ht
  go_enter Try.func12, Try.ntmps12
  go_wp2_with fail
  refine HC.out.mono ?_
  rintro e w1 ⟨B, d, rfl, hs, hx⟩
  have HSN := Lib.hid hs
  have HX := Lib.hid hx
  clear hs hx
  go_wp2
  go_loopg [15] m (fun gk vi wr => ∃ k : Nat, Hid (k + gk = m) ∧ k ≤ m ∧ vi = .int .i64 (k : Int) ∧ Hid ((R.take k).find? p = none) ∧ Below w1.heap.size w1 wr)
  case atStart => exact ⟨0, Nat.zero_add _, Nat.zero_le _, rfl, rfl, Below.refl _ _⟩
  case round =>
    obtain ⟨k, HG, hk, rfl, HNO, hb⟩ := hrel
    have hgk := HG.out
    by_cases hlt : k < m
    · have blt : decide ((k : Int) < (m : Int)) = true := decide_eq_true (by omega)
      have blt2 : decide (k < m) = true := decide_eq_true hlt
      have hkz : (k : Int) < (m : Int) := by omega
      have hkl : k < R.length := by rw [HRM.out]; exact hlt
      obtain ⟨b0, o0, rfl, hwb, hL⟩ := HSN.out (by omega)
      obtain ⟨l0, l1, l2, l3, l4, l5, l6, l7, l8⟩ := (hL.below hb hwb).ruled hkl
      have HFX := Lib.hid (HFIT.out _ (List.getElem_mem hkl))
      have HNX := Lib.hid (fun q => O.find_next (p := p) hkl HNO.out q)
      have HHX := Lib.hid (fun q => O.find_hit (p := p) hkl HNO.out q)
      clear hL hwb
      generalize R[k] = x at l0 l1 l2 l3 l4 l5 l6 l7 l8 HFX HNX HHX
      obtain ⟨xp, xn, xk, ⟨fa, fn, fb⟩, ta, tn, tb⟩ := x
      simp only at l0 l1 l2 l3 l4 l5 l6 l7 l8
      have HRB := Lib.hid (RuB.bornR wr ⟨xp, xn, xk, ⟨fa, fn, fb⟩, ⟨ta, tn, tb⟩⟩)
      obtain ⟨y0, y1, y2, y3, y4, y5, y6, y7, y8⟩ := HRB.out.cellsR
      dsimp only at y0 y1 y2 y3 y4 y5 y6 y7 y8
      have hup := bthen hb (up wr (.cells #[.int .i64 (xp : Int), .int .i64 xn, .bool xk, .bool fa, .int .i64 fn, .int .i64 fb, .bool ta, .int .i64 tn, .int .i64 tb] 51))
      obtain ⟨v1, hv1⟩ : ∃ v, O.takesC ⟨fa, fn, fb⟩ f = v := ⟨_, rfl⟩
      obtain ⟨v2, hv2⟩ : ∃ v, O.takesC ⟨ta, tn, tb⟩ t = v := ⟨_, rfl⟩
      have HV1 := Lib.hid hv1
      have HV2 := Lib.hid hv2
      have HPX := Lib.hid (show p ⟨xp, xn, xk, ⟨fa, fn, fb⟩, ⟨ta, tn, tb⟩⟩ = (v1 && v2) by rw [HP.out, ← hv1, ← hv2])
      clear hv1 hv2
      go_wp2_with fail
      refine (takes15 ⟨fa, fn, fb⟩ f v1 _ HFX.out.1 HIF.out HV1.out).mono ?_
      rintro e w2 ⟨rfl, hx⟩
      have HR2 := Lib.hid (HRB.out.keepR hx HRB.out.ltR15)
      have hb2 := bthen hup hx
      obtain ⟨z0, z1, z2, z3, z4, z5, z6, z7, z8⟩ := HR2.out.cellsR
      dsimp only at z0 z1 z2 z3 z4 z5 z6 z7 z8
      clear hx
      cases v1 with
      | false =>
        have HN := Lib.hid (HNX.out HPX.out)
        go_wp2
        go_roundg (m - (k + 1))
        case rel => exact ⟨k + 1, (by show _ = _; omega), by omega, by go_num, HN.out, hb2⟩
        case measure => omega
      | true =>
        go_wp2_with fail
        refine (takes15 ⟨ta, tn, tb⟩ t v2 _ HFX.out.2 HIT.out HV2.out).mono ?_
        rintro e w3 ⟨rfl, hx⟩
        have HR3 := Lib.hid (HR2.out.keepR hx HR2.out.ltR15)
        have hb3 := bthen hb2 hx
        obtain ⟨a0, a1, a2, a3, a4, a5, a6, a7, a8⟩ := HR3.out.cellsR
        dsimp only at a0 a1 a2 a3 a4 a5 a6 a7 a8
        clear hx
        cases v2 with
        | false =>
          have HN := Lib.hid (HNX.out HPX.out)
          go_wp2
          go_roundg (m - (k + 1))
          case rel => exact ⟨k + 1, (by show _ = _; omega), by omega, by go_num, HN.out, hb3⟩
          case measure => omega
        | true =>
          have HE := Lib.hid (show xk = b from (O.first_hit (HHX.out HPX.out)).symm.trans HBP.out)
          go_wp2
          go_ret
          exact ⟨by rw [HE.out]; rfl, HX.out.trans (hb3.mono HX.out.size)⟩
    · have blt : decide ((k : Int) < (m : Int)) = false := decide_eq_false (by omega)
      have blt2 : decide (k < m) = false := decide_eq_false hlt
      have HE := Lib.hid (show true = b from (O.first_none (by have := HNO.out; rwa [List.take_of_length_le (by rw [HRM.out]; omega)] at this)).symm.trans HBP.out)
      go_wp2
      go_ret
      exact ⟨by rw [← HE.out]; rfl, HX.out.trans (hb.mono HX.out.size)⟩
theorem route_ok : RouteOk := ⟨fun A c n l h ip s b w hA hh hi hs hb => lookup15 A c n l h ip s b w hA hi hs hb, fun A c n m l h R w hA hh hR hm => rules15 A c n m l h R w hA hR hm, fun A c n l h f t b w hA hh hf ht hb => permit15 A c n l h f t b w hA hf ht hb⟩
end Go.Proofs.Ytggdpnkekgmimaa

namespace Go.Proofs.Ytggdpnkekgmimaa
open Go.RowKit
set_option linter.unusedVariables false
set_option linter.unusedSimpArgs false

theorem pref15 (x : List UInt8) (n b : Int) (w : World) (hs : x.length ≤ 1073741824) (h : N.prefL x = (n, b)) : Calls Try.prog 13 #[.string (sB x)] w (fun e w' => e = .returned (.tuple #[.int .i64 n, .int .i64 b]) ∧ Below w.heap.size w w') := by
  have h2 := prefR (sB x) w (by rw [sB_size]; exact hs)
  rw [sB_data, h] at h2
  exact h2
theorem in15 (n bits ip : Int) (r : Bool) (w : World) (h : N.inB n bits ip = r) : Calls Try.prog 14 #[.int .i64 n, .int .i64 bits, .int .i64 ip] w (fun e w' => e = .returned (.bool r) ∧ Below w.heap.size w w') := by subst h; exact inR10 n bits ip w
theorem int_of {a : Int} (h : (Lit.int .i64 a).wf = true) : Int64 a := bounds_i64 h
set_option maxRecDepth 100000 in
set_option maxHeartbeats 8000000 in
theorem awake15 (E : RouteOk) (w : World) : Calls Try.prog 10 #[] w (TrueS w) := by
  have HL := Lib.hid (show EArg (World.alloc w (.cells #[.string ⟨#[97]⟩, .int .i64 4, .string ⟨#[48, 46, 48, 46, 48, 46, 48, 47, 48]⟩, .string ⟨#[120]⟩, .string ⟨#[97]⟩, .int .i64 4, .string ⟨#[49, 48, 46, 48, 46, 48, 46, 48, 47, 56]⟩, .string ⟨#[121]⟩, .string ⟨#[97]⟩, .int .i64 5, .string ⟨#[57]⟩, .string ⟨#[112, 101, 114, 109, 105, 116, 32, 97, 110, 121, 32, 97, 110, 121]⟩, .string ⟨#[97]⟩, .int .i64 5, .string ⟨#[53]⟩, .string ⟨#[100, 101, 110, 121, 32, 49, 48, 46, 48, 46, 48, 46, 48, 47, 56, 32, 97, 110, 121]⟩] 26)) (some ⟨w.heap.size, 0, none⟩) 4 4 aw15 from ⟨rfl, by omega, aw15_fit, Nat.le_refl _, lit_seen eEc w aw15 _ rfl (by decide)⟩)
  have hb := up w (.cells #[.string ⟨#[97]⟩, .int .i64 4, .string ⟨#[48, 46, 48, 46, 48, 46, 48, 47, 48]⟩, .string ⟨#[120]⟩, .string ⟨#[97]⟩, .int .i64 4, .string ⟨#[49, 48, 46, 48, 46, 48, 46, 48, 47, 56]⟩, .string ⟨#[121]⟩, .string ⟨#[97]⟩, .int .i64 5, .string ⟨#[57]⟩, .string ⟨#[112, 101, 114, 109, 105, 116, 32, 97, 110, 121, 32, 97, 110, 121]⟩, .string ⟨#[97]⟩, .int .i64 5, .string ⟨#[53]⟩, .string ⟨#[100, 101, 110, 121, 32, 49, 48, 46, 48, 46, 48, 46, 48, 47, 56, 32, 97, 110, 121]⟩] 26)
  have q1 : ((sB [121]).toList == [121]) = true := by rw [sB_toList]; rfl
  go_enter Try.func10, Try.ntmps10
  go_wp2_with fail
  refine (E.lookupOf _ 4 4 aw15 [97] 167772161 [121] true _ HL.out (by decide) (by unfold Int64; omega) aw15_s aw15_b).mono ?_
  rintro e w1 ⟨rfl, hx⟩
  replace HL := Lib.hid (earg_below HL.out hx)
  replace hb := bthen hb hx
  clear hx
  go_wp2_with fail
  refine (E.lookupOf _ 4 4 aw15 [98] 5 [] false _ HL.out (by decide) (by unfold Int64; omega) aw15_s2 aw15_b2).mono ?_
  rintro e w2 ⟨rfl, hx⟩
  replace HL := Lib.hid (earg_below HL.out hx)
  replace hb := bthen hb hx
  clear hx
  go_wp2_with fail
  refine (E.permitOf _ 4 4 aw15 [97] 167772160 1 false _ HL.out (by decide) (by unfold Int64; omega) (by unfold Int64; omega) aw15_p).mono ?_
  rintro e w3 ⟨rfl, hx⟩
  replace HL := Lib.hid (earg_below HL.out hx)
  replace hb := bthen hb hx
  clear hx
  go_wp2_with fail
  refine (E.permitOf _ 4 4 aw15 [97] 1 167772160 true _ HL.out (by decide) (by unfold Int64; omega) (by unfold Int64; omega) aw15_q).mono ?_
  rintro e w4 ⟨rfl, hx⟩
  replace HL := Lib.hid (earg_below HL.out hx)
  replace hb := bthen hb hx
  clear hx
  go_wp2_with fail
  refine (E.rulesOf _ 4 4 2 aw15 [97] [3, 2] _ HL.out (by decide) aw15_r rfl).mono ?_
  rintro e w5 ⟨B5, d5, rfl, hd5, hs5, hx⟩
  have HS5 := Lib.hid hs5
  replace hb := bthen hb hx
  clear hx hs5
  go_wp2_with fail
  refine (ints_yes _ _ _ _ [3, 2] _ (by decide) (HS5.out.below (up _ _)) (lit_seen eI w5 [3, 2] _ rfl (by decide))).mono ?_
  rintro e w6 ⟨rfl, hx⟩
  replace hb := bthen hb (bthen (up _ _) hx)
  clear hx
  go_wp2
  go_ret
  exact ⟨rfl, hb⟩
end Go.Proofs.Ytggdpnkekgmimaa

namespace Go.Proofs.Ytggdpnkekgmimaa
open Go.RowKit
set_option linter.unusedVariables false
set_option linter.unusedSimpArgs false

namespace O
theorem sum_most (f : Nat → Nat) (c : Nat) (hf : ∀ k, f k ≤ c) : ∀ L : List Nat, (L.map f).sum ≤ L.length * c
  | [] => by simp
  | a :: r => by
    have h1 := sum_most f c hf r
    have h2 := hf a
    rw [List.map_cons, List.sum_cons, List.length_cons, Nat.add_mul]
    omega
theorem rules_few {l : List H.En} {h : Wd} {n : Nat} (hn : l.length = n) (h60 : n ≤ 60) : ((List.range 1000).map fun k : Nat => ((List.range l.length).filter fun i => decide (numE h (l.getD i ⟨[], 0, [], []⟩) = (k : Int) + 1)).length).sum ≤ 60000 := by
  refine Nat.le_trans (sum_most _ 60 (fun k => ?_) _) (by rw [List.length_range]; omega)
  refine Nat.le_trans (List.length_filter_le _ _) ?_
  rw [List.length_range]; omega
end O
end Go.Proofs.Ytggdpnkekgmimaa

namespace Go.Proofs.Ytggdpnkekgmimaa
open Go.RowKit
set_option linter.unusedVariables false
set_option linter.unusedSimpArgs false

theorem soundR15 (x : List UInt8) (r : Bool) (w : World) (hx : x.length ≤ 1073741824) (hr : O.soundB x = r) : Calls Try.prog 29 #[.string (sB x)] w (BoolS w r) := by
  obtain ⟨pn, pb, hpf⟩ : ∃ pn pb, N.prefL x = (pn, pb) := ⟨_, _, rfl⟩
  have HPF := Lib.hid hpf
  have hs : O.soundB x = (decide (x = H.wAny) || decide (0 ≤ pn)) := by unfold O.soundB; rw [hpf]
  clear hpf
  by_cases e1 : x = H.wAny
  · have n1 : ((sB x).toList == [97, 110, 121]) = true := by rw [sB_toList, beq_iff_eq]; exact e1
    obtain rfl : true = r := by rw [← hr, hs, decide_eq_true e1]; rfl
    clear e1 hs hr
    go_enter Try.func29, Try.ntmps29
    go_wp2_with fail
    refine (pref15 x pn pb _ hx HPF.out).mono ?_
    rintro e w3 ⟨rfl, hx3⟩
    go_wp2
    go_ret
    exact ⟨rfl, hx3⟩
  · have n1 : ((sB x).toList == [97, 110, 121]) = false := by rw [sB_toList, beq_eq_false_iff_ne]; exact e1
    have hr2 : decide (0 ≤ pn) = r := by rw [← hr, hs, decide_eq_false e1]; rfl
    clear e1 hs hr
    go_enter Try.func29, Try.ntmps29
    go_wp2_with fail
    refine (pref15 x pn pb _ hx HPF.out).mono ?_
    rintro e w3 ⟨rfl, hx3⟩
    go_wp2
    go_ret
    exact ⟨rfl, hx3⟩
/-- The block g holds three words. -/
def ArrB (w : World) (g : Nat) (a b c : List UInt8) : Prop := w.heap[g]? = some (.cells #[.string (sB a), .string (sB b), .string (sB c)] 58)
theorem arr_cells {w : World} {g : Nat} {a b c : List UInt8} (h : ArrB w g a b c) : w.cell? ⟨g, 0, none⟩ = some (.string (sB a)) ∧ w.cell? ⟨g, 1, none⟩ = some (.string (sB b)) ∧ w.cell? ⟨g, 2, none⟩ = some (.string (sB c)) := by
  unfold ArrB at h
  refine ⟨?_, ?_, ?_⟩ <;> rw [Lib.cell_of_heap h] <;> rfl
theorem arr_lt {w : World} {g : Nat} {a b c : List UInt8} (h : ArrB w g a b c) : g < w.heap.size := (Array.getElem?_eq_some_iff.1 h).1
theorem arr_open {w : World} {g : Nat} {a b c : List UInt8} (h : ArrB w g a b c) (j : Nat) : w.frozen? ⟨g, j, none⟩ = false := by
  unfold ArrB at h
  exact Lib.frozen_of_heap h j
theorem arr_set0 {w : World} {g : Nat} {a b c : List UInt8} (h : ArrB w g a b c) (x : List UInt8) : ArrB (w.setCell ⟨g, 0, none⟩ (.string (sB x))) g x b c := by
  unfold ArrB at h ⊢
  have hs : (w.setCell ⟨g, 0, none⟩ (.string (sB x))).heap = w.heap.modify g (fun o => match o with | .cells c t fz => .cells (c.set! 0 (.string (sB x))) t fz | o => o) := rfl
  rw [hs, Array.getElem?_modify, if_pos rfl, h]; rfl
theorem arr_set1 {w : World} {g : Nat} {a b c : List UInt8} (h : ArrB w g a b c) (x : List UInt8) : ArrB (w.setCell ⟨g, 1, none⟩ (.string (sB x))) g a x c := by
  unfold ArrB at h ⊢
  have hs : (w.setCell ⟨g, 1, none⟩ (.string (sB x))).heap = w.heap.modify g (fun o => match o with | .cells c t fz => .cells (c.set! 1 (.string (sB x))) t fz | o => o) := rfl
  rw [hs, Array.getElem?_modify, if_pos rfl, h]; rfl
theorem arr_set2 {w : World} {g : Nat} {a b c : List UInt8} (h : ArrB w g a b c) (x : List UInt8) : ArrB (w.setCell ⟨g, 2, none⟩ (.string (sB x))) g a b x := by
  unfold ArrB at h ⊢
  have hs : (w.setCell ⟨g, 2, none⟩ (.string (sB x))).heap = w.heap.modify g (fun o => match o with | .cells c t fz => .cells (c.set! 2 (.string (sB x))) t fz | o => o) := rfl
  rw [hs, Array.getElem?_modify, if_pos rfl, h]; rfl
theorem arr_other {w : World} {g k : Nat} {a b c : List UInt8} (h : ArrB w g a b c) (hk : k ≠ g) (j : Nat) (v : Value) : ArrB (w.setCell ⟨k, j, none⟩ v) g a b c := by
  unfold ArrB at h ⊢
  have hs : (w.setCell ⟨k, j, none⟩ v).heap = w.heap.modify k (fun o => match o with | .cells c t fz => .cells (c.set! j v) t fz | o => o) := rfl
  rw [hs, Array.getElem?_modify, if_neg hk, h]
/-- Three words, as far as there are. -/
def PadL (L : List (List UInt8)) (a b c : List UInt8) : Prop := a = L.getD 0 [] ∧ b = L.getD 1 [] ∧ c = L.getD 2 []
theorem three_is {s : List UInt8} {L : List (List UInt8)} (h : N.splitL 32 s = L) : (O.threeL s).isSome = decide (L.length = 3) ∧ ∀ a b c, PadL L a b c → ∀ x y z, O.threeL s = some (x, y, z) → x = a ∧ y = b ∧ z = c := by
  unfold O.threeL
  rw [h]
  match L with
  | [] => exact ⟨rfl, fun a b c _ x y z e => by cases e⟩
  | [_] => exact ⟨rfl, fun a b c _ x y z e => by cases e⟩
  | [_, _] => exact ⟨rfl, fun a b c _ x y z e => by cases e⟩
  | [p, q, r] => exact ⟨rfl, fun a b c ⟨h1, h2, h3⟩ x y z e => by cases e; exact ⟨h1.symm, h2.symm, h3.symm⟩⟩
  | p :: q :: r :: u :: v => exact ⟨by simp, fun a b c _ x y z e => by cases e⟩
theorem three_over {s : List UInt8} (h : 3 < (N.splitL 32 s).length) : O.threeL s = none := by
  unfold O.threeL
  generalize N.splitL 32 s = L at h
  match L, h with
  | p :: q :: r :: u :: v, _ => rfl
theorem cut_more {c : UInt8} {s : List UInt8} {L : List (List UInt8)} {f i : Nat} (h : N.CutAt c s L f i) : L.length < (N.splitL c s).length := by
  rw [h.1, List.length_append]
  have := N.split_ne c (s.drop f)
  cases e : N.splitL c (s.drop f) with
  | nil => exact absurd e this
  | cons a r => simp
/-- What words says. -/
def WordsS15 (w : World) (s : ByteArray) (e : Ending) (w' : World) : Prop := ∃ (a b c : List UInt8) (q : Bool), e = .returned (.tuple #[.agg #[.string (sB a), .string (sB b), .string (sB c)], .bool q]) ∧ q = (O.threeL s.data.toList).isSome ∧ (∀ x y z, O.threeL s.data.toList = some (x, y, z) → x = a ∧ y = b ∧ z = c) ∧ Below w.heap.size w w'
set_option maxRecDepth 100000 in
set_option maxHeartbeats 16000000 in
theorem wordsR15 (s : ByteArray) (w : World) (hs : s.size ≤ 1073741824) : Calls Try.prog 28 #[.string s] w (WordsS15 w s) := by
  have hsz : s.data.toList.length = s.size := by simp
  have HSZ := Lib.hid hsz
  have HZ := Lib.hid (show ArrB ((w.alloc (.cells #[.string ⟨#[]⟩, .string ⟨#[]⟩, .string ⟨#[]⟩] 58)).alloc (.cells #[.string ⟨#[]⟩, .string ⟨#[]⟩, .string ⟨#[]⟩] 58)) w.heap.size [] [] [] from by
    unfold ArrB
    rw [heap_alloc_old _ _ (by simp), heap_alloc_new]; rfl)
  have HZ2 := Lib.hid (show ArrB ((w.alloc (.cells #[.string ⟨#[]⟩, .string ⟨#[]⟩, .string ⟨#[]⟩] 58)).alloc (.cells #[.string ⟨#[]⟩, .string ⟨#[]⟩, .string ⟨#[]⟩] 58)) (w.heap.size + 1) [] [] [] from by
    have h := heap_alloc_new (w.alloc (.cells #[.string ⟨#[]⟩, .string ⟨#[]⟩, .string ⟨#[]⟩] 58)) (.cells #[.string ⟨#[]⟩, .string ⟨#[]⟩, .string ⟨#[]⟩] 58)
    rw [show (w.alloc (.cells #[.string ⟨#[]⟩, .string ⟨#[]⟩, .string ⟨#[]⟩] 58)).heap.size = w.heap.size + 1 by simp] at h
    exact h)
  have HZB := Lib.hid (show Below w.heap.size w ((w.alloc (.cells #[.string ⟨#[]⟩, .string ⟨#[]⟩, .string ⟨#[]⟩] 58)).alloc (.cells #[.string ⟨#[]⟩, .string ⟨#[]⟩, .string ⟨#[]⟩] 58)) from bthen (up _ _) (up _ _))
  clear hsz
  go_enter Try.func28, Try.ntmps28
  go_wp2
  go_loopg [5, 6, 7] (s.size + 1) (fun gk va vf vi wr => ∃ (i f : Nat) (L : List (List UInt8)) (a b c : List UInt8) (n : Nat), Hid (i + gk = s.size + 1) ∧ vi = .int .i64 (i : Int) ∧ vf = .int .i64 (f : Int) ∧ va = .int .i64 (n : Int) ∧ n ≤ 3 ∧ Hid (L.length = n) ∧ f ≤ i ∧ Hid (ArrB wr w.heap.size [] [] []) ∧ Hid (ArrB wr (w.heap.size + 1) a b c) ∧ Hid (PadL L a b c) ∧ Hid ((i ≤ s.size ∧ N.CutAt 32 s.data.toList L f i) ∨ (i = s.size + 1 ∧ N.splitL 32 s.data.toList = L)) ∧ Hid (Below w.heap.size w wr))
  case atStart => exact ⟨0, 0, [], [], [], [], 0, Nat.zero_add _, rfl, rfl, rfl, by omega, rfl, Nat.le_refl _, HZ.out, HZ2.out, ⟨rfl, rfl, rfl⟩, .inl ⟨Nat.zero_le _, N.cut_start 32 _⟩, HZB.out⟩
  case round =>
    obtain ⟨i, f, L, a, b, c, n, HG, rfl, rfl, rfl, hn3, HLN, hfi, HR0, HR1, HPD, HC, HBR⟩ := hrel
    have hgk := HG.out
    have hfz0 := arr_open HR0.out 0
    have hfz1 := arr_open HR0.out 1
    have hfz2 := arr_open HR0.out 2
    obtain ⟨z0, z1, z2⟩ := arr_cells HR0.out
    have hgz := arr_open HR1.out
    obtain ⟨y0, y1, y2⟩ := arr_cells HR1.out
    have hlt1 := arr_lt HR1.out
    by_cases hle : i ≤ s.size
    · have blt : decide ((i : Int) ≤ (s.size : Int)) = true := decide_eq_true (by omega)
      have blt2 : decide (i ≤ s.size) = true := decide_eq_true hle
      have hcut : N.CutAt 32 s.data.toList L f i := by
        rcases HC.out with ⟨_, h⟩ | ⟨h, _⟩
        · exact h
        · omega
      have HCUT := Lib.hid hcut
      have hx := cut_str s f i hle
      obtain ⟨x, hxd⟩ : ∃ x, (s.data.toList.drop f).take (i - f) = x := ⟨_, rfl⟩
      rw [hxd] at hx
      have HXD := Lib.hid hxd
      have HXS := Lib.hid hx
      clear hx
      by_cases hend : i = s.size ∨ (∃ h : i < s.size, s[i] = 32)
      · have HEND := Lib.hid hend
        have HNX := Lib.hid (show (i + 1 ≤ s.size ∧ N.CutAt 32 s.data.toList (L ++ [x]) (i + 1) (i + 1)) ∨ (i + 1 = s.size + 1 ∧ N.splitL 32 s.data.toList = L ++ [x]) by
          rcases hend with h | ⟨h, h2⟩
          · exact .inr ⟨by omega, by rw [N.cut_end hcut (by rw [HSZ.out]; exact h), hxd]⟩
          · refine .inl ⟨by omega, ?_⟩
            have h3 := N.cut_here hcut (show i < s.data.toList.length by rw [HSZ.out]; exact h) h2
            rw [hxd] at h3
            exact h3)
        have HFA := Lib.hid (show n = 3 → O.threeL s.data.toList = none from fun h3 => three_over (by have := cut_more hcut; have := HLN.out; omega))
        clear hcut hxd hend
        have hcs : n = 3 ∨ n = 2 ∨ n = 1 ∨ n = 0 := by omega
        by_cases heq : i = s.size
        · have be : ((i : Int) == (s.size : Int)) = true := by simp; omega
          have be2 : (i == s.size) = true := by simp; omega
          clear heq
          rcases hcs with rfl | rfl | rfl | rfl
          · have HFN := Lib.hid (HFA.out rfl)
            go_wp2
            have HW := arr_set2 (arr_set1 (arr_set0 HR0.out a) b) c
            obtain ⟨k0, k1, k2⟩ := arr_cells HW
            have HBW := Lib.hid (((HBR.out.setCell (p := ⟨w.heap.size, 0, none⟩) (Nat.le_refl _) (.string (sB a))).setCell (p := ⟨w.heap.size, 1, none⟩) (Nat.le_refl _) (.string (sB b))).setCell (p := ⟨w.heap.size, 2, none⟩) (Nat.le_refl _) (.string (sB c)))
            refine bodyPost_ret (v := .tuple #[.agg #[.string (sB a), .string (sB b), .string (sB c)], .bool false]) (by simp [results, Try.results28, go_sem, k0, k1, k2]) rfl ?_
            exact ⟨a, b, c, _, rfl, (by rw [HFN.out]; rfl), (fun x y z e => by rw [HFN.out] at e; cases e), HBW.out⟩
          · have hgj := hgz 2
            have HA2 := Lib.hid (arr_set2 HR1.out x)
            have HA0 := Lib.hid (arr_other HR0.out (show w.heap.size + 1 ≠ w.heap.size by omega) 2 (.string (sB x)))
            have HP2 := Lib.hid (show PadL (L ++ [x]) a b x by
              obtain ⟨p0, p1, p2⟩ := HPD.out
              have hl := HLN.out
              refine ⟨?_, ?_, ?_⟩ <;> simp [List.getD_eq_getElem?_getD, List.getElem?_append, hl, p0, p1, p2])
            have HB2 := Lib.hid (HBR.out.setCell (show w.heap.size ≤ w.heap.size + 1 by omega) (p := ⟨w.heap.size + 1, 2, none⟩) (.string (sB x)))
            have HL2 := Lib.hid (show (L ++ [x]).length = 3 by rw [List.length_append, HLN.out]; rfl)
            clear HFA
            go_wp2
            rw [HXS.out]
            go_roundg (s.size + 1 - (i + 1))
            case rel => exact ⟨i + 1, i + 1, L ++ [x], a, b, x, 3, (by show _ = _; omega), by go_num, by go_num, rfl, by omega, HL2.out, Nat.le_refl _, HA0.out, HA2.out, HP2.out, HNX.out, HB2.out⟩
            case measure => omega
          · have hgj := hgz 1
            have HA2 := Lib.hid (arr_set1 HR1.out x)
            have HA0 := Lib.hid (arr_other HR0.out (show w.heap.size + 1 ≠ w.heap.size by omega) 1 (.string (sB x)))
            have HP2 := Lib.hid (show PadL (L ++ [x]) a x c by
              obtain ⟨p0, p1, p2⟩ := HPD.out
              have hl := HLN.out
              refine ⟨?_, ?_, ?_⟩ <;> simp [List.getD_eq_getElem?_getD, List.getElem?_append, hl, p0, p1, p2])
            have HB2 := Lib.hid (HBR.out.setCell (show w.heap.size ≤ w.heap.size + 1 by omega) (p := ⟨w.heap.size + 1, 1, none⟩) (.string (sB x)))
            have HL2 := Lib.hid (show (L ++ [x]).length = 2 by rw [List.length_append, HLN.out]; rfl)
            clear HFA
            go_wp2
            rw [HXS.out]
            go_roundg (s.size + 1 - (i + 1))
            case rel => exact ⟨i + 1, i + 1, L ++ [x], a, x, c, 2, (by show _ = _; omega), by go_num, by go_num, rfl, by omega, HL2.out, Nat.le_refl _, HA0.out, HA2.out, HP2.out, HNX.out, HB2.out⟩
            case measure => omega
          · have hgj := hgz 0
            have HA2 := Lib.hid (arr_set0 HR1.out x)
            have HA0 := Lib.hid (arr_other HR0.out (show w.heap.size + 1 ≠ w.heap.size by omega) 0 (.string (sB x)))
            have HP2 := Lib.hid (show PadL (L ++ [x]) x b c by
              obtain ⟨p0, p1, p2⟩ := HPD.out
              have hl := HLN.out
              refine ⟨?_, ?_, ?_⟩ <;> simp [List.getD_eq_getElem?_getD, List.getElem?_append, hl, p0, p1, p2])
            have HB2 := Lib.hid (HBR.out.setCell (show w.heap.size ≤ w.heap.size + 1 by omega) (p := ⟨w.heap.size + 1, 0, none⟩) (.string (sB x)))
            have HL2 := Lib.hid (show (L ++ [x]).length = 1 by rw [List.length_append, HLN.out]; rfl)
            clear HFA
            go_wp2
            rw [HXS.out]
            go_roundg (s.size + 1 - (i + 1))
            case rel => exact ⟨i + 1, i + 1, L ++ [x], x, b, c, 1, (by show _ = _; omega), by go_num, by go_num, rfl, by omega, HL2.out, Nat.le_refl _, HA0.out, HA2.out, HP2.out, HNX.out, HB2.out⟩
            case measure => omega
        · have hlt : i < s.size := by omega
          have be : ((i : Int) == (s.size : Int)) = false := by simp; omega
          have be2 : (i == s.size) = false := by simp; omega
          have hki : (i : Int) < (s.size : Int) := by omega
          have hc : s[i] = 32 := by
            rcases HEND.out with h | ⟨_, h2⟩
            · exact absurd h heq
            · exact h2
          have bc : ((s[i].toNat : Int) == 32) = true := by rw [hc]; rfl
          have bc2 : (s[i].toNat == 32) = true := by rw [hc]; rfl
          clear heq hc
          rcases hcs with rfl | rfl | rfl | rfl
          · have HFN := Lib.hid (HFA.out rfl)
            go_wp2
            have HW := arr_set2 (arr_set1 (arr_set0 HR0.out a) b) c
            obtain ⟨k0, k1, k2⟩ := arr_cells HW
            have HBW := Lib.hid (((HBR.out.setCell (p := ⟨w.heap.size, 0, none⟩) (Nat.le_refl _) (.string (sB a))).setCell (p := ⟨w.heap.size, 1, none⟩) (Nat.le_refl _) (.string (sB b))).setCell (p := ⟨w.heap.size, 2, none⟩) (Nat.le_refl _) (.string (sB c)))
            refine bodyPost_ret (v := .tuple #[.agg #[.string (sB a), .string (sB b), .string (sB c)], .bool false]) (by simp [results, Try.results28, go_sem, k0, k1, k2]) rfl ?_
            exact ⟨a, b, c, _, rfl, (by rw [HFN.out]; rfl), (fun x y z e => by rw [HFN.out] at e; cases e), HBW.out⟩
          · have hgj := hgz 2
            have HA2 := Lib.hid (arr_set2 HR1.out x)
            have HA0 := Lib.hid (arr_other HR0.out (show w.heap.size + 1 ≠ w.heap.size by omega) 2 (.string (sB x)))
            have HP2 := Lib.hid (show PadL (L ++ [x]) a b x by
              obtain ⟨p0, p1, p2⟩ := HPD.out
              have hl := HLN.out
              refine ⟨?_, ?_, ?_⟩ <;> simp [List.getD_eq_getElem?_getD, List.getElem?_append, hl, p0, p1, p2])
            have HB2 := Lib.hid (HBR.out.setCell (show w.heap.size ≤ w.heap.size + 1 by omega) (p := ⟨w.heap.size + 1, 2, none⟩) (.string (sB x)))
            have HL2 := Lib.hid (show (L ++ [x]).length = 3 by rw [List.length_append, HLN.out]; rfl)
            clear HFA
            go_wp2
            rw [HXS.out]
            go_roundg (s.size + 1 - (i + 1))
            case rel => exact ⟨i + 1, i + 1, L ++ [x], a, b, x, 3, (by show _ = _; omega), by go_num, by go_num, rfl, by omega, HL2.out, Nat.le_refl _, HA0.out, HA2.out, HP2.out, HNX.out, HB2.out⟩
            case measure => omega
          · have hgj := hgz 1
            have HA2 := Lib.hid (arr_set1 HR1.out x)
            have HA0 := Lib.hid (arr_other HR0.out (show w.heap.size + 1 ≠ w.heap.size by omega) 1 (.string (sB x)))
            have HP2 := Lib.hid (show PadL (L ++ [x]) a x c by
              obtain ⟨p0, p1, p2⟩ := HPD.out
              have hl := HLN.out
              refine ⟨?_, ?_, ?_⟩ <;> simp [List.getD_eq_getElem?_getD, List.getElem?_append, hl, p0, p1, p2])
            have HB2 := Lib.hid (HBR.out.setCell (show w.heap.size ≤ w.heap.size + 1 by omega) (p := ⟨w.heap.size + 1, 1, none⟩) (.string (sB x)))
            have HL2 := Lib.hid (show (L ++ [x]).length = 2 by rw [List.length_append, HLN.out]; rfl)
            clear HFA
            go_wp2
            rw [HXS.out]
            go_roundg (s.size + 1 - (i + 1))
            case rel => exact ⟨i + 1, i + 1, L ++ [x], a, x, c, 2, (by show _ = _; omega), by go_num, by go_num, rfl, by omega, HL2.out, Nat.le_refl _, HA0.out, HA2.out, HP2.out, HNX.out, HB2.out⟩
            case measure => omega
          · have hgj := hgz 0
            have HA2 := Lib.hid (arr_set0 HR1.out x)
            have HA0 := Lib.hid (arr_other HR0.out (show w.heap.size + 1 ≠ w.heap.size by omega) 0 (.string (sB x)))
            have HP2 := Lib.hid (show PadL (L ++ [x]) x b c by
              obtain ⟨p0, p1, p2⟩ := HPD.out
              have hl := HLN.out
              refine ⟨?_, ?_, ?_⟩ <;> simp [List.getD_eq_getElem?_getD, List.getElem?_append, hl, p0, p1, p2])
            have HB2 := Lib.hid (HBR.out.setCell (show w.heap.size ≤ w.heap.size + 1 by omega) (p := ⟨w.heap.size + 1, 0, none⟩) (.string (sB x)))
            have HL2 := Lib.hid (show (L ++ [x]).length = 1 by rw [List.length_append, HLN.out]; rfl)
            clear HFA
            go_wp2
            rw [HXS.out]
            go_roundg (s.size + 1 - (i + 1))
            case rel => exact ⟨i + 1, i + 1, L ++ [x], x, b, c, 1, (by show _ = _; omega), by go_num, by go_num, rfl, by omega, HL2.out, Nat.le_refl _, HA0.out, HA2.out, HP2.out, HNX.out, HB2.out⟩
            case measure => omega
      · have hlt : i < s.size := by
          rcases Nat.lt_or_ge i s.size with h | h
          · exact h
          · exact absurd (.inl (by omega)) hend
        have be : ((i : Int) == (s.size : Int)) = false := by simp; omega
        have be2 : (i == s.size) = false := by simp; omega
        have hki : (i : Int) < (s.size : Int) := by omega
        have hc : s[i] ≠ 32 := fun h => hend (.inr ⟨hlt, h⟩)
        have hne : s[i].toNat ≠ 32 := fun e => hc (UInt8.toNat_inj.1 e)
        have bc : ((s[i].toNat : Int) == 32) = false := by rw [beq_eq_false_iff_ne]; omega
        have bc2 : (s[i].toNat == 32) = false := by rw [beq_eq_false_iff_ne]; exact hne
        have HN := Lib.hid (N.cut_other hcut (show i < s.data.toList.length by rw [HSZ.out]; exact hlt) (show s.data.toList[i]'(by rw [HSZ.out]; exact hlt) ≠ 32 from hc))
        clear hcut hxd hend hc hne
        go_wp2
        go_roundg (s.size + 1 - (i + 1))
        case rel => exact ⟨i + 1, f, L, a, b, c, n, (by show _ = _; omega), by go_num, rfl, rfl, hn3, HLN, by omega, HR0.out, HR1.out, HPD.out, .inl ⟨by omega, HN.out⟩, HBR.out⟩
        case measure => omega
    · have blt : decide ((i : Int) ≤ (s.size : Int)) = false := decide_eq_false (by omega)
      have blt2 : decide (i ≤ s.size) = false := decide_eq_false hle
      have hE : N.splitL 32 s.data.toList = L := by
        rcases HC.out with ⟨h, _⟩ | ⟨_, h⟩
        · omega
        · exact h
      have hTH := three_is hE
      rw [HLN.out] at hTH
      have HT := Lib.hid hTH
      obtain ⟨q, hq⟩ : ∃ q, decide (n = 3) = q := ⟨_, rfl⟩
      have HQ := Lib.hid hq
      have q1 : ((n : Int) == 3) = q := by rw [← hq, Bool.eq_iff_iff, beq_iff_eq, decide_eq_true_eq]; omega
      clear hE hTH hq
      go_wp2
      have HW := arr_set2 (arr_set1 (arr_set0 HR0.out a) b) c
      obtain ⟨k0, k1, k2⟩ := arr_cells HW
      have HBW := Lib.hid (((HBR.out.setCell (p := ⟨w.heap.size, 0, none⟩) (Nat.le_refl _) (.string (sB a))).setCell (p := ⟨w.heap.size, 1, none⟩) (Nat.le_refl _) (.string (sB b))).setCell (p := ⟨w.heap.size, 2, none⟩) (Nat.le_refl _) (.string (sB c)))
      refine bodyPost_ret (v := .tuple #[.agg #[.string (sB a), .string (sB b), .string (sB c)], .bool q]) (by simp [results, Try.results28, go_sem, k0, k1, k2]) rfl ?_
      exact ⟨a, b, c, _, rfl, (by rw [HT.out.1, HQ.out]), (fun x y z e => HT.out.2 a b c HPD.out x y z e), HBW.out⟩

theorem arr_ent (w : World) (a : List UInt8) (k : Int) (b d : List UInt8) : (w.alloc (.cells #[.string (sB a), .int .i64 k, .string (sB b), .string (sB d)] 38)).cell? ⟨w.heap.size, 0, none⟩ = some (.string (sB a)) ∧ (w.alloc (.cells #[.string (sB a), .int .i64 k, .string (sB b), .string (sB d)] 38)).cell? ⟨w.heap.size, 1, none⟩ = some (.int .i64 k) ∧ (w.alloc (.cells #[.string (sB a), .int .i64 k, .string (sB b), .string (sB d)] 38)).cell? ⟨w.heap.size, 2, none⟩ = some (.string (sB b)) ∧ (w.alloc (.cells #[.string (sB a), .int .i64 k, .string (sB b), .string (sB d)] 38)).cell? ⟨w.heap.size, 3, none⟩ = some (.string (sB d)) :=
  ⟨World.cell?_alloc_mark w _ _ (0, 0) 0, World.cell?_alloc_mark w _ _ (0, 0) 1, World.cell?_alloc_mark w _ _ (0, 0) 2, World.cell?_alloc_mark w _ _ (0, 0) 3⟩
theorem arr_new (w : World) (a b c : List UInt8) : (w.alloc (.cells #[.string (sB a), .string (sB b), .string (sB c)] 58)).cell? ⟨w.heap.size, 0, none⟩ = some (.string (sB a)) ∧ (w.alloc (.cells #[.string (sB a), .string (sB b), .string (sB c)] 58)).cell? ⟨w.heap.size, 1, none⟩ = some (.string (sB b)) ∧ (w.alloc (.cells #[.string (sB a), .string (sB b), .string (sB c)] 58)).cell? ⟨w.heap.size, 2, none⟩ = some (.string (sB c)) :=
  ⟨World.cell?_alloc_mark w _ _ (0, 0) 0, World.cell?_alloc_mark w _ _ (0, 0) 1, World.cell?_alloc_mark w _ _ (0, 0) 2⟩
theorem num_range15 (x : List UInt8) : -1 ≤ N.numL x ∧ N.numL x ≤ 9999999999 := by
  rcases N.num_cases x with h | ⟨n, h, h2, _⟩
  · omega
  · omega
theorem words15 (x : List UInt8) (w : World) (hx : x.length ≤ 1073741824) : Calls Try.prog 28 #[.string (sB x)] w (fun e w' => ∃ (a b c : List UInt8) (q : Bool), e = .returned (.tuple #[.agg #[.string (sB a), .string (sB b), .string (sB c)], .bool q]) ∧ q = (O.threeL x).isSome ∧ (∀ u v z, O.threeL x = some (u, v, z) → u = a ∧ v = b ∧ z = c) ∧ Below w.heap.size w w') := by
  have h := wordsR15 (sB x) w (by rw [sB_size]; exact hx)
  unfold WordsS15 at h
  simp only [sB_data] at h
  exact h
theorem split_long {s : List UInt8} : ∀ x ∈ N.splitL 32 s, x.length ≤ s.length := fun x hx => split_mem hx
theorem three_long {s a b c : List UInt8} (h : O.threeL s = some (a, b, c)) : a.length ≤ s.length ∧ b.length ≤ s.length ∧ c.length ≤ s.length := by
  unfold O.threeL at h
  have hm := @split_long s
  generalize N.splitL 32 s = L at h hm
  match L, h with
  | [p, q, r], h =>
    cases h
    exact ⟨hm _ (by simp), hm _ (by simp), hm _ (by simp)⟩
set_option maxRecDepth 100000 in
set_option maxHeartbeats 16000000 in
theorem numberR15 (en : H.En) (h : List UInt8) (r : Int) (w : World) (hf : Fit15 en) (hr : O.numE h en = r) : Calls Try.prog 16 #[enV en, .string (sB h)] w (IntS w r) := by
  obtain ⟨xh, xk, xy, xv⟩ := en
  have HFT := Lib.hid hf
  unfold enV
  simp only []
  obtain ⟨y0, y1, y2, y3⟩ := arr_ent w xh xk xy xv
  obtain ⟨n, hn⟩ : ∃ z, N.numL xy = z := ⟨_, rfl⟩
  have HN := Lib.hid hn
  have hnr := num_range15 xy
  rw [hn] at hnr
  have HU := Lib.hid (up w (.cells #[.string (sB xh), .int .i64 xk, .string (sB xy), .string (sB xv)] 38))
  have hnum : O.numE h ⟨xh, xk, xy, xv⟩ = match O.threeL xv with | none => 0 | some (a, b, c) => if xh = h ∧ xk = 5 ∧ 1 ≤ n ∧ n ≤ 1000 ∧ (a = O.wPermit ∨ a = O.wDeny) ∧ O.soundB b = true ∧ O.soundB c = true then n else 0 := by
    rw [← hn]; rfl
  rw [hr] at hnum
  have HNU := Lib.hid hnum
  clear hf hr hn hnum
  go_enter Try.func16, Try.ntmps16
  go_wp2_with fail
  refine (words15 xv _ (Nat.le_trans HFT.out.2.2 (by omega))).mono ?_
  rintro e w1 ⟨a, b, c, q, rfl, hq, hw, hx1⟩
  have HQ := Lib.hid hq
  have HW := Lib.hid hw
  have HB1 := Lib.hid (bthen HU.out hx1)
  have c0 := (hx1.cell (p := ⟨w.heap.size, 0, none⟩) (by simp)).trans y0
  have c1 := (hx1.cell (p := ⟨w.heap.size, 1, none⟩) (by simp)).trans y1
  have c2 := (hx1.cell (p := ⟨w.heap.size, 2, none⟩) (by simp)).trans y2
  have hlt : w.heap.size < w1.heap.size := Nat.lt_of_lt_of_le (by simp) hx1.size
  clear hq hw hx1 y0 y1 y2 y3
  have k0 := ((up w1 (.cells #[.string (sB a), .string (sB b), .string (sB c)] 58)).cell (p := ⟨w.heap.size, 0, none⟩) hlt).trans c0
  have k1 := ((up w1 (.cells #[.string (sB a), .string (sB b), .string (sB c)] 58)).cell (p := ⟨w.heap.size, 1, none⟩) hlt).trans c1
  have k2 := ((up w1 (.cells #[.string (sB a), .string (sB b), .string (sB c)] 58)).cell (p := ⟨w.heap.size, 2, none⟩) hlt).trans c2
  have HUA := Lib.hid (bthen HB1.out (up w1 (.cells #[.string (sB a), .string (sB b), .string (sB c)] 58)))
  go_wp2_with fail
  refine (numQ xy n _ (Nat.le_trans HFT.out.2.1 (by omega)) HN.out).mono ?_
  rintro e w2 ⟨rfl, rfl⟩
  cases q with
  | false =>
    have HR0 := Lib.hid (show r = 0 by
      rw [HNU.out]
      cases h3 : O.threeL xv with
      | none => rfl
      | some p => have := HQ.out; rw [h3] at this; cases this)
    go_wp2
    go_ret
    exact ⟨(by rw [HR0.out]; rfl), HUA.out⟩
  | true =>
    obtain ⟨p, hp⟩ : ∃ p, O.threeL xv = some p := by
      cases h3 : O.threeL xv with
      | none => have := HQ.out; rw [h3] at this; cases this
      | some p => exact ⟨p, rfl⟩
    obtain ⟨p1, p2, p3⟩ := p
    obtain ⟨rfl, rfl, rfl⟩ := HW.out _ _ _ hp
    have HTH := Lib.hid hp
    have HLL := Lib.hid (three_long hp)
    clear hp
    by_cases e1 : xh = h
    · have n1 := sB_eq e1
      have E1 := Lib.hid e1
      clear e1
      by_cases e2 : xk = 5
      · subst e2
        by_cases e3 : 1 ≤ n
        · have n3 : decide (n < 1) = false := decide_eq_false (by omega)
          by_cases e4 : n ≤ 1000
          · have n4 : decide (1000 < n) = false := decide_eq_false (by omega)
            have HA1 := Lib.hid (arr_new w1 p1 p2 p3)
            obtain ⟨m0, m1, m2⟩ := HA1.out
            by_cases e5 : p1 = O.wPermit
            · have n5 : ((sB p1).toList == [112, 101, 114, 109, 105, 116]) = true := by rw [sB_toList, beq_iff_eq]; exact e5
              have E5 := Lib.hid e5
              clear e5
              cases sb : O.soundB p2 with
              | false =>
                have HSB := Lib.hid sb
                have HR0 := Lib.hid (show r = 0 by rw [HNU.out, HTH.out]; exact if_neg (fun k => by rw [sb] at k; cases k.2.2.2.2.2.1))
                clear sb e3 e4 hnr
                go_wp2_with fail
                refine (soundR15 p2 false _ (Nat.le_trans HLL.out.2.1 (Nat.le_trans HFT.out.2.2 (by omega))) HSB.out).mono ?_
                rintro e w4 ⟨rfl, hx4⟩
                have HB4 := Lib.hid (bthen HUA.out hx4)
                clear hx4
                go_wp2
                go_ret
                exact ⟨(by rw [HR0.out]; rfl), HB4.out⟩
              | true =>
                have HSB := Lib.hid sb
                have g2 := ((up w1 (.cells #[.string (sB p1), .string (sB p2), .string (sB p3)] 58)))
                cases sc : O.soundB p3 with
                | false =>
                  have HSC := Lib.hid sc
                  have HR0 := Lib.hid (show r = 0 by rw [HNU.out, HTH.out]; exact if_neg (fun k => by rw [sc] at k; cases k.2.2.2.2.2.2))
                  clear sb sc e3 e4 hnr g2
                  go_wp2_with fail
                  refine (soundR15 p2 true _ (Nat.le_trans HLL.out.2.1 (Nat.le_trans HFT.out.2.2 (by omega))) HSB.out).mono ?_
                  rintro e w4 ⟨rfl, hx4⟩
                  have m2 := (hx4.cell (p := ⟨w1.heap.size, 2, none⟩) (by simp)).trans (arr_new w1 p1 p2 p3).2.2
                  have HB4 := Lib.hid (bthen HUA.out hx4)
                  clear hx4
                  go_wp2_with fail
                  refine (soundR15 p3 false _ (Nat.le_trans HLL.out.2.2 (Nat.le_trans HFT.out.2.2 (by omega))) HSC.out).mono ?_
                  rintro e w5 ⟨rfl, hx5⟩
                  have HB5 := Lib.hid (bthen HB4.out hx5)
                  clear hx5
                  go_wp2
                  go_ret
                  exact ⟨(by rw [HR0.out]; rfl), HB5.out⟩
                | true =>
                  have HSC := Lib.hid sc
                  have HR0 := Lib.hid (show r = n by rw [HNU.out, HTH.out]; exact if_pos ⟨E1.out, rfl, e3, e4, .inl E5.out, sb, sc⟩)
                  clear sb sc e3 e4 hnr g2
                  go_wp2_with fail
                  refine (soundR15 p2 true _ (Nat.le_trans HLL.out.2.1 (Nat.le_trans HFT.out.2.2 (by omega))) HSB.out).mono ?_
                  rintro e w4 ⟨rfl, hx4⟩
                  have m2 := (hx4.cell (p := ⟨w1.heap.size, 2, none⟩) (by simp)).trans (arr_new w1 p1 p2 p3).2.2
                  have HB4 := Lib.hid (bthen HUA.out hx4)
                  clear hx4
                  go_wp2_with fail
                  refine (soundR15 p3 true _ (Nat.le_trans HLL.out.2.2 (Nat.le_trans HFT.out.2.2 (by omega))) HSC.out).mono ?_
                  rintro e w5 ⟨rfl, hx5⟩
                  have HB5 := Lib.hid (bthen HB4.out hx5)
                  clear hx5
                  go_wp2
                  go_ret
                  exact ⟨(by rw [HR0.out]; rfl), HB5.out⟩
            · have n5 : ((sB p1).toList == [112, 101, 114, 109, 105, 116]) = false := by rw [sB_toList, beq_eq_false_iff_ne]; exact e5
              by_cases e6 : p1 = O.wDeny
              · have n6 : ((sB p1).toList == [100, 101, 110, 121]) = true := by rw [sB_toList, beq_iff_eq]; exact e6
                have E6 := Lib.hid e6
                clear e6
                cases sb : O.soundB p2 with
                | false =>
                  have HSB := Lib.hid sb
                  have HR0 := Lib.hid (show r = 0 by rw [HNU.out, HTH.out]; exact if_neg (fun k => by rw [sb] at k; cases k.2.2.2.2.2.1))
                  clear sb e3 e4 hnr
                  go_wp2_with fail
                  refine (soundR15 p2 false _ (Nat.le_trans HLL.out.2.1 (Nat.le_trans HFT.out.2.2 (by omega))) HSB.out).mono ?_
                  rintro e w4 ⟨rfl, hx4⟩
                  have HB4 := Lib.hid (bthen HUA.out hx4)
                  clear hx4
                  go_wp2
                  go_ret
                  exact ⟨(by rw [HR0.out]; rfl), HB4.out⟩
                | true =>
                  have HSB := Lib.hid sb
                  have g2 := ((up w1 (.cells #[.string (sB p1), .string (sB p2), .string (sB p3)] 58)))
                  cases sc : O.soundB p3 with
                  | false =>
                    have HSC := Lib.hid sc
                    have HR0 := Lib.hid (show r = 0 by rw [HNU.out, HTH.out]; exact if_neg (fun k => by rw [sc] at k; cases k.2.2.2.2.2.2))
                    clear sb sc e3 e4 hnr g2
                    go_wp2_with fail
                    refine (soundR15 p2 true _ (Nat.le_trans HLL.out.2.1 (Nat.le_trans HFT.out.2.2 (by omega))) HSB.out).mono ?_
                    rintro e w4 ⟨rfl, hx4⟩
                    have m2 := (hx4.cell (p := ⟨w1.heap.size, 2, none⟩) (by simp)).trans (arr_new w1 p1 p2 p3).2.2
                    have HB4 := Lib.hid (bthen HUA.out hx4)
                    clear hx4
                    go_wp2_with fail
                    refine (soundR15 p3 false _ (Nat.le_trans HLL.out.2.2 (Nat.le_trans HFT.out.2.2 (by omega))) HSC.out).mono ?_
                    rintro e w5 ⟨rfl, hx5⟩
                    have HB5 := Lib.hid (bthen HB4.out hx5)
                    clear hx5
                    go_wp2
                    go_ret
                    exact ⟨(by rw [HR0.out]; rfl), HB5.out⟩
                  | true =>
                    have HSC := Lib.hid sc
                    have HR0 := Lib.hid (show r = n by rw [HNU.out, HTH.out]; exact if_pos ⟨E1.out, rfl, e3, e4, .inr E6.out, sb, sc⟩)
                    clear sb sc e3 e4 hnr g2
                    go_wp2_with fail
                    refine (soundR15 p2 true _ (Nat.le_trans HLL.out.2.1 (Nat.le_trans HFT.out.2.2 (by omega))) HSB.out).mono ?_
                    rintro e w4 ⟨rfl, hx4⟩
                    have m2 := (hx4.cell (p := ⟨w1.heap.size, 2, none⟩) (by simp)).trans (arr_new w1 p1 p2 p3).2.2
                    have HB4 := Lib.hid (bthen HUA.out hx4)
                    clear hx4
                    go_wp2_with fail
                    refine (soundR15 p3 true _ (Nat.le_trans HLL.out.2.2 (Nat.le_trans HFT.out.2.2 (by omega))) HSC.out).mono ?_
                    rintro e w5 ⟨rfl, hx5⟩
                    have HB5 := Lib.hid (bthen HB4.out hx5)
                    clear hx5
                    go_wp2
                    go_ret
                    exact ⟨(by rw [HR0.out]; rfl), HB5.out⟩
              · have n6 : ((sB p1).toList == [100, 101, 110, 121]) = false := by rw [sB_toList, beq_eq_false_iff_ne]; exact e6
                have HR0 := Lib.hid (show r = 0 by rw [HNU.out, HTH.out]; exact if_neg (fun k => k.2.2.2.2.1.elim e5 e6))
                clear e3 e4 e5 e6 hnr
                go_wp2
                go_ret
                exact ⟨(by rw [HR0.out]; rfl), HUA.out⟩
          · have n4 : decide (1000 < n) = true := decide_eq_true (by omega)
            have HR0 := Lib.hid (show r = 0 by rw [HNU.out, HTH.out]; exact if_neg (fun k => e4 k.2.2.2.1))
            clear e3 e4 hnr
            go_wp2
            go_ret
            exact ⟨(by rw [HR0.out]; rfl), HUA.out⟩
        · have n3 : decide (n < 1) = true := decide_eq_true (by omega)
          have HR0 := Lib.hid (show r = 0 by rw [HNU.out, HTH.out]; exact if_neg (fun k => e3 k.2.2.1))
          clear e3 hnr
          go_wp2
          go_ret
          exact ⟨(by rw [HR0.out]; rfl), HUA.out⟩
      · have n2 : (xk == 5) = false := by rw [beq_eq_false_iff_ne]; exact e2
        have n2b : (xk != 5) = true := by rw [bne, n2]; rfl
        have n2c : decide (xk = 5) = false := decide_eq_false e2
        have HR0 := Lib.hid (show r = 0 by rw [HNU.out, HTH.out]; exact if_neg (fun k => e2 k.2.1))
        go_wp2
        go_ret
        exact ⟨(by rw [HR0.out]; rfl), HUA.out⟩
    · have n1 := sB_ne e1
      have HR0 := Lib.hid (show r = 0 by rw [HNU.out, HTH.out]; exact if_neg (fun k => e1 k.1))
      clear e1
      go_wp2
      go_ret
      exact ⟨(by rw [HR0.out]; rfl), HUA.out⟩
end Go.Proofs.Ytggdpnkekgmimaa
