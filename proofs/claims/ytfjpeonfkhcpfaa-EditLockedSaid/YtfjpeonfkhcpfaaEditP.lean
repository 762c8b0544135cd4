/-
  Contract of slices.Concat at four slices of lines, and of the code's put (layer 7). Condition: at most 2^30 lines.
-/
import Derived.Test.YtfjpeonfkhcpfaaEditN
import Derived.Deep.RegionWith
namespace Go.Proofs.Ytfjpeonfkhcpfaa
open Go.RowKit
set_option linter.unusedVariables false

/-- The first lists, one behind the other. -/
def catN (L : Nat → List T.Ln) : Nat → List T.Ln
  | 0 => []
  | k + 1 => catN L k ++ L k
def sumN (N : Nat → Nat) : Nat → Nat
  | 0 => 0
  | k + 1 => sumN N k + N k
theorem catN_len {L : Nat → List T.Ln} {N : Nat → Nat} (h : ∀ k, k < 4 → (L k).length = N k) : ∀ k, k ≤ 4 → (catN L k).length = sumN N k
  | 0, _ => rfl
  | k + 1, hk => by unfold catN sumN; rw [List.length_append, catN_len h k (by omega), h k (by omega)]
theorem sumN_mono (N : Nat → Nat) : ∀ (k j : Nat), k ≤ j → sumN N k ≤ sumN N j
  | k, 0, h => by obtain rfl : k = 0 := by omega
                  exact Nat.le_refl _
  | k, j + 1, h => by
    rcases Nat.eq_or_lt_of_le h with rfl | h1
    · exact Nat.le_refl _
    · have := sumN_mono N k j (by omega)
      show _ ≤ sumN N j + N j
      omega
set_option maxRecDepth 100000 in
set_option maxHeartbeats 2000000 in
theorem concat_any (b : Nat) (ad : Nat → Addr) (N C : Nat → Nat) (L : Nat → List T.Ln) (w : World) (hs : sumN N 4 ≤ 1073741824) (hpos : 0 < sumN N 4) (hb : b < w.heap.size) (hc : ∀ k, k < 4 → w.cell? ⟨b, k, none⟩ = some (.slice (some (ad k)) (N k) (C k))) (hN : ∀ k, k < 4 → (L k).length = N k) (hL : ∀ k, k < 4 → Seen eL w (some (ad k)) (L k)) :
    Calls Try.prog 53 #[.slice (some ⟨b, 0, none⟩) 4 4] w (OwnS eL w (catN L 4)) := by
  have HS := Lib.hid hs
  have HC := Lib.hid hc
  have HN := Lib.hid hN
  have HL := Lib.hid hL
  have HP := Lib.hid hpos
  obtain ⟨s4, hs4⟩ : ∃ s, sumN N 4 = s := ⟨_, rfl⟩
  have HS4 := Lib.hid hs4
  clear hs hc hN hL hpos hs4
  go_enter Try.func53, Try.ntmps53
  go_wp2
  go_loopg [3, 11] 4 (fun gk x y wr => ∃ k s : Nat, Hid (k + gk = 4) ∧ k ≤ 4 ∧ Hid (sumN N k = s) ∧ x = .int .i64 (s : Int) ∧ y = .int .i64 (k : Int) ∧ w = wr)
  case atStart => exact ⟨0, 0, Nat.zero_add _, Nat.zero_le _, rfl, rfl, rfl, rfl⟩
  case round =>
    obtain ⟨k, s, HG, hk, HK, rfl, rfl, rfl⟩ := hrel
    by_cases hlt : k < 4
    · have blt : decide ((k : Int) < 4) = true := decide_eq_true (by omega)
      have blt2 : decide (k < 4) = true := decide_eq_true hlt
      obtain ⟨nk, hnk⟩ : ∃ nk, N k = nk := ⟨_, rfl⟩
      have c0 := HC.out k hlt
      rw [hnk] at c0
      have hki : (k : Int) < 4 := by omega
      have hsum : sumN N (k + 1) = s + nk := by show sumN N k + N k = _; rw [HK.out, hnk]
      have hle := sumN_mono N (k + 1) 4 (by omega)
      have hs4 := HS.out
      have hsn : s + nk ≤ 1073741824 := by omega
      have hneg : decide ((s : Int) + (nk : Int) < 0) = false := decide_eq_false (by omega)
      have HSM := Lib.hid hsum
      clear hsum hle hs4 hnk
      go_wp2
      have hgk := HG.out
      go_roundg (4 - (k + 1))
      case rel => exact ⟨k + 1, s + nk, (by show _ = _; omega), by omega, HSM, by go_num, by go_num, rfl⟩
      case measure => omega
    · have blt : decide ((k : Int) < 4) = false := decide_eq_false (by omega)
      have blt2 : decide (k < 4) = false := decide_eq_false hlt
      obtain rfl : k = 4 := by omega
      have hss : s = s4 := HK.out.symm.trans HS4.out
      subst hss
      have h4 := HS4.out
      have hp0 := HP.out
      have hs0 := HS.out
      rw [h4] at hp0 hs0
      clear h4
      go_wp2_with fail
      refine (grow_any s w hp0 hs0).mono ?_
      rintro e w1 ⟨v1, rfl, hown1, hx1⟩
      have HO1 := Lib.hid hown1
      have HX1 := Lib.hid hx1
      clear hown1 hx1 hp0 hs0
      go_wp2
      go_loopg [6, 27] 4 (fun gk x y wr => ∃ k : Nat, Hid (k + gk = 4) ∧ k ≤ 4 ∧ Own eL wr w.heap.size x (catN L k) ∧ y = .int .i64 (k : Int) ∧ Below w.heap.size w wr)
      case atStart => exact ⟨0, Nat.zero_add _, Nat.zero_le _, HO1.out, rfl, HX1.out⟩
      case round =>
        obtain ⟨k, HG, hk, hown, rfl, hbr⟩ := hrel
        have hsz := hbr.size
        by_cases hlt : k < 4
        · have blt : decide ((k : Int) < 4) = true := decide_eq_true (by omega)
          have blt2 : decide (k < 4) = true := decide_eq_true hlt
          obtain ⟨nk, hnk⟩ : ∃ nk, N k = nk := ⟨_, rfl⟩
          have c0 := (hbr.cell (p := ⟨b, k, none⟩) hb).trans (HC.out k hlt)
          rw [hnk] at c0
          have hki : (k : Int) < 4 := by omega
          have HNK := Lib.hid ((HN.out k hlt).trans hnk)
          have HLK := Lib.hid ((HL.out k hlt).below hbr)
          have hcl := catN_len HN.out k hk
          have hle := sumN_mono N (k + 1) 4 (by omega)
          have hle2 : (catN L k).length + nk ≤ 1099511627776 := by
            have e : sumN N (k + 1) = sumN N k + N k := rfl
            have := HS.out
            rw [hcl]
            omega
          have HO := Lib.hid hown
          have HB := Lib.hid hbr
          clear hown hcl hle hnk
          go_wp2_with (at_builtin; refine wpList_appSeen eL wr rfl (.tmp 31) (.tmp 32) rfl w.heap.size _ (catN L k) rfl HO.out (ad k) (L k) nk (C k) HNK.out rfl HLK.out hle2 hsz ?_; intro v3 w3 hown3 hb3)
          have hgk := HG.out
          go_roundg (4 - (k + 1))
          case rel => exact ⟨k + 1, (by show _ = _; omega), by omega, hown3, by go_num, HB.out.trans hb3⟩
          case measure => omega
        · have blt : decide ((k : Int) < 4) = false := decide_eq_false (by omega)
          have blt2 : decide (k < 4) = false := decide_eq_false hlt
          obtain rfl : k = 4 := by omega
          go_wp2
          go_ret
          exact ⟨_, rfl, hown, hbr⟩

set_option maxRecDepth 100000 in
set_option maxHeartbeats 4000000 in
theorem codePut (A : Option Addr) (bq oq d c n q b2 o2 c2 k i : Nat) (u G P : List T.Ln) (p : T.Pth) (x : T.Ln) (w : World) (hn : u.length = n) (hA : Seen eL w A u) (hc : NilOk A c) (hnc : n ≤ c) (hl : n ≤ 1073741824)
    (hm : p.length = q) (hbq : bq < w.heap.size) (hB : Holds eS w bq oq p) (hd : q ≤ d) (hq : q ≤ 16) (hadd : AddIs u p G 0) (hG : T.RightT G) (hi : i < G.length) (hpi : T.pathL G i = p)
    (hb2 : b2 < w.heap.size) (hP : Holds eL w b2 o2 (x :: P)) (hk : P.length = k) (hk2 : k ≤ 1000) (hc2 : k + 1 ≤ c2) :
    Calls Try.prog 41 #[.slice A n c, .slice (some ⟨bq, oq, none⟩) q d, .slice (some ⟨b2, o2, none⟩) (k + 1) c2] w (OwnS eL w (G.take i ++ (⟨T.dp G i, T.wd G i, x.mark⟩ :: (P ++ G.drop (i + 1))))) := by
  obtain ⟨ng, hng⟩ : ∃ ng, G.length = ng := ⟨_, rfl⟩
  have hl200 : ng ≤ 200 := by rw [← hng]; exact hG.len
  rw [hng] at hi
  have hAdd := lines_add A (some ⟨bq, oq, none⟩) c d n q u G p 0 w hn hm hA (hB.seen hbq) hc hnc hd hl (by omega) hadd
  have HB := Lib.hid hB
  have HM := Lib.hid hm
  have HG := Lib.hid hG
  have HNG := Lib.hid hng
  have HPI := Lib.hid hpi
  have HP := Lib.hid hP
  have HK := Lib.hid hk
  obtain ⟨mk, hmk⟩ : ∃ mk, x.mark = mk := ⟨_, rfl⟩
  have HMK := Lib.hid hmk
  have hpm : w.cell? ⟨b2, o2 + 2, none⟩ = some (.int .i64 mk) := by
    have := (hP.line (i := 0) (by simp)).2.2
    rw [Nat.zero_mul, Nat.add_zero] at this
    rw [← hmk]
    exact this
  obtain ⟨ad1, had1, hs1⟩ : ∃ ad : Addr, (if c2 = 1 then some (⟨b2, o2, none⟩ : Addr) else some ⟨b2, o2 + 3, none⟩) = some ad ∧ Seen eL w (some ad) P := by
    by_cases h : c2 = 1
    · refine ⟨⟨b2, o2, none⟩, by simp [h], ?_⟩
      obtain rfl : P = [] := List.eq_nil_of_length_eq_zero (by omega)
      exact Seen.nil
    · refine ⟨⟨b2, o2 + 3, none⟩, by simp [h], ?_⟩
      have := hP.drop 1
      exact Holds.seen this hb2
  have HS1 := Lib.hid hs1
  have hk1 : 1 ≤ k + 1 := by omega
  clear hA hc hB hm hadd hG hng hpi hP hk hmk hs1 hn
  go_enter Try.func41, Try.ntmps41
  go_wp2_with fail
  refine hAdd.mono ?_
  rintro e w1 ⟨v1, rfl, hown, hx1⟩
  obtain ⟨A1, cg, e1, hcg, hsG⟩ := hown.seen
  rw [HNG.out] at e1 hcg
  subst e1
  obtain ⟨g, e2, hbg, hg, hhg⟩ := hown.block (by rw [HNG.out]; omega)
  subst e2
  have HSG := Lib.hid hsG
  have HX1 := Lib.hid hx1
  have hhgn := Holds.seen hhg hg
  have hfind := find_some (some ⟨g, 0, none⟩) (some ⟨bq, oq, none⟩) cg d G i p w1 hsG ((HB.out.seen hbq).below hx1) (by rw [HNG.out]; omega) (by rw [HM.out]; omega) HG.out (by rw [HNG.out]; exact hi) HPI.out
  rw [HNG.out, HM.out] at hfind
  have HHG := Lib.hid hhg
  clear hown hhg hAdd hsG hhgn
  go_wp2_with fail
  refine hfind.mono ?_
  rintro e w2 ⟨rfl, hx2⟩
  have hx12 := bthen hx1 hx2
  have HX := Lib.hid hx12
  have HHG2 := Lib.hid (HHG.out.below hx2 hg)
  obtain ⟨l0, l1, l2⟩ := HHG2.out.line (i := i) (by rw [HNG.out]; exact hi)
  rw [Nat.zero_add] at l0 l1 l2
  have hpm2 : w2.cell? ⟨b2, o2 + 2, none⟩ = some (.int .i64 mk) := (hx12.cell (p := ⟨b2, o2 + 2, none⟩) hb2).trans hpm
  have hii : (i : Int) < (ng : Int) := by omega
  have hil : i ≤ ng := by omega
  have hil1 : i + 1 ≤ ng := by omega
  have hicg : i ≤ cg := by omega
  have hg2 : g < w2.heap.size := Nat.lt_of_lt_of_le hg hx2.size
  have hb22 : b2 < w2.heap.size := Nat.lt_of_lt_of_le hb2 hx12.size
  obtain ⟨dd, hdd⟩ : ∃ z, T.dp G i = z := ⟨_, rfl⟩
  obtain ⟨ww, hww⟩ : ∃ z, T.wd G i = z := ⟨_, rfl⟩
  obtain ⟨mm, hmm⟩ : ∃ z, (T.at_ G i).mark = z := ⟨_, rfl⟩
  rw [hdd] at l0
  rw [hww] at l1
  rw [hmm] at l2
  have HDD := Lib.hid hdd
  have HWW := Lib.hid hww
  obtain ⟨ad2, had2, hs2⟩ : ∃ ad : Addr, (if cg = i + 1 then some (⟨g, 0, none⟩ : Addr) else some ⟨g, (i + 1) * 3, none⟩) = some ad ∧ Seen eL w2 (some ad) (G.drop (i + 1)) := by
    by_cases h : cg = i + 1
    · refine ⟨⟨g, 0, none⟩, by simp [h], ?_⟩
      rw [List.drop_eq_nil_of_le (by rw [HNG.out]; omega)]
      exact Seen.nil
    · refine ⟨⟨g, (i + 1) * 3, none⟩, by simp [h], ?_⟩
      have := HHG2.out.drop (i + 1)
      rw [Nat.zero_add] at this
      exact Holds.seen this hg2
  have HS2 := Lib.hid hs2
  have hwr : IntKind.i64.wrap ((i : Int) + 1) = (i : Int) + 1 := by rw [IntKind.wrap_i64]; omega
  have hicg1 : i + 1 ≤ cg := by omega
  clear hs2 hdd hww hmm
  clear hfind hx1 hx2 hpm
  go_wp2
  obtain ⟨W0, hW0⟩ : ∃ W, w2.alloc (.cells #[.int .i64 dd, .string (sB ww), .int .i64 mk] 41) = W := ⟨_, rfl⟩
  rw [hW0]
  have hz : w2.heap.size + 1 = W0.heap.size := by rw [← hW0]; simp
  have lf : W0.heap[w2.heap.size]? = some (.cells #[.int .i64 dd, .string (sB ww), .int .i64 mk] 41) := by rw [← hW0]; exact heap_alloc_new w2 _
  have f0 : W0.cell? ⟨w2.heap.size, 0, none⟩ = some (.int .i64 dd) := by simp [World.cell?, lf]
  have f1 : W0.cell? ⟨w2.heap.size, 1, none⟩ = some (.string (sB ww)) := by simp [World.cell?, lf]
  have f2 : W0.cell? ⟨w2.heap.size, 2, none⟩ = some (.int .i64 mk) := by simp [World.cell?, lf]
  have HX0 := Lib.hid (show Below w2.heap.size w2 W0 by rw [← hW0]; exact (Below.refl _ _).alloc (Nat.le_refl _) _)
  have hcall : Calls Try.prog 53 #[.slice (some ⟨W0.heap.size + 1, 0, none⟩) 4 4] ((W0.alloc (.cells #[.int .i64 dd, .string (sB ww), .int .i64 mk] 41)).alloc (.cells #[.slice (some ⟨g, 0, none⟩) i cg, .slice (some ⟨W0.heap.size, 0, none⟩) 1 1, .slice (some ad1) k (c2 - 1), .slice (some ad2) (ng - (i + 1)) (cg - (i + 1))] 22)).drew (fun e w' => ∃ v, e = .returned v ∧ Own eL w' w.heap.size v (G.take i ++ (⟨T.dp G i, T.wd G i, x.mark⟩ :: (P ++ G.drop (i + 1)))) ∧ Below w.heap.size w w') := by
    obtain ⟨W1, hW1⟩ : ∃ W, W0.alloc (.cells #[.int .i64 dd, .string (sB ww), .int .i64 mk] 41) = W := ⟨_, rfl⟩
    have hz1 : W0.heap.size + 1 = W1.heap.size := by rw [← hW1]; simp
    have hx1 : Below W0.heap.size W0 W1 := by rw [← hW1]; exact (Below.refl _ _).alloc (Nat.le_refl _) _
    have hs1 : Seen eL W1 (some ⟨W0.heap.size, 0, none⟩) [(⟨dd, ww, mk⟩ : T.Ln)] := by rw [← hW1]; exact lit_seen eL W0 _ _ rfl (by simp)
    rw [hW1, hz1]
    obtain ⟨W2, hW2⟩ : ∃ W, (W1.alloc (.cells #[.slice (some ⟨g, 0, none⟩) i cg, .slice (some ⟨W0.heap.size, 0, none⟩) 1 1, .slice (some ad1) k (c2 - 1), .slice (some ad2) (ng - (i + 1)) (cg - (i + 1))] 22)).drew = W := ⟨_, rfl⟩
    have hx2 : Below W1.heap.size W1 W2 := by rw [← hW2]; exact ((Below.refl _ _).alloc (Nat.le_refl _) _).drew
    have hblk : W2.heap[W1.heap.size]? = some (.cells #[.slice (some ⟨g, 0, none⟩) i cg, .slice (some ⟨W0.heap.size, 0, none⟩) 1 1, .slice (some ad1) k (c2 - 1), .slice (some ad2) (ng - (i + 1)) (cg - (i + 1))] 22) := by rw [← hW2]; exact heap_alloc_new W1 _
    rw [hW2]
    have hxw : Below w.heap.size w W0 := bthen HX.out HX0.out
    have hxw1 := bthen hxw hx1
    have hxw2 := bthen hxw1 hx2
    have hx02 : Below w2.heap.size w2 W2 := bthen (bthen HX0.out hx1) hx2
    have hsz : w.heap.size ≤ W2.heap.size := hxw2.size
    have hlt : W1.heap.size < W2.heap.size := by rw [← hW2]; show _ < (W1.alloc _).heap.size; simp
    have hsum : sumN (fun k' => match k' with | 0 => i | 1 => 1 | 2 => k | _ => ng - (i + 1)) 4 = i + 1 + k + (ng - (i + 1)) := by simp [sumN]
    have hc := concat_any W1.heap.size (fun k' => match k' with | 0 => ⟨g, 0, none⟩ | 1 => ⟨W0.heap.size, 0, none⟩ | 2 => ad1 | _ => ad2) (fun k' => match k' with | 0 => i | 1 => 1 | 2 => k | _ => ng - (i + 1)) (fun k' => match k' with | 0 => cg | 1 => 1 | 2 => c2 - 1 | _ => cg - (i + 1)) (fun k' => match k' with | 0 => G.take i | 1 => [(⟨dd, ww, mk⟩ : T.Ln)] | 2 => P | _ => G.drop (i + 1)) W2 (by rw [hsum]; omega) (by rw [hsum]; omega) hlt
      (fun k' hk' => by
        obtain rfl | rfl | rfl | rfl : k' = 0 ∨ k' = 1 ∨ k' = 2 ∨ k' = 3 := by omega
        all_goals first | (simp [World.cell?, hblk]; done) | (simp [World.cell?, hblk]; rfl))
      (fun k' hk' => by
        obtain rfl | rfl | rfl | rfl : k' = 0 ∨ k' = 1 ∨ k' = 2 ∨ k' = 3 := by omega
        · show (G.take i).length = i
          rw [List.length_take, HNG.out]; omega
        · rfl
        · exact HK.out
        · show (G.drop (i + 1)).length = _
          rw [List.length_drop, HNG.out]; rfl)
      (fun k' hk' => by
        obtain rfl | rfl | rfl | rfl : k' = 0 ∨ k' = 1 ∨ k' = 2 ∨ k' = 3 := by omega
        · exact (Holds.seen (HHG2.out.take i) hg2).below hx02
        · exact hs1.below hx2
        · exact HS1.out.below hxw2
        · exact HS2.out.below hx02)
    refine hc.mono ?_
    rintro e w' ⟨v, rfl, hown, hx⟩
    refine ⟨v, rfl, ?_, bthen hxw2 hx⟩
    have hres : catN (fun k' => match k' with | 0 => G.take i | 1 => [(⟨dd, ww, mk⟩ : T.Ln)] | 2 => P | _ => G.drop (i + 1)) 4 = G.take i ++ (⟨T.dp G i, T.wd G i, x.mark⟩ :: (P ++ G.drop (i + 1))) := by
      rw [HDD.out, HWW.out, HMK.out]; simp [catN]
    rw [← hres]
    exact hown.base hsz
  clear hW0 lf l0 l1 l2 hpm2
  go_region_with (go_at_call 53; refine hcall.mono ?_; rintro e w' ⟨v, rfl, hown, hx⟩)
  all_goals go_wp2
  all_goals go_ret
  all_goals exact ⟨v, rfl, hown, hx⟩
end Go.Proofs.Ytfjpeonfkhcpfaa
