/-
  Contracts of the code's pathAt, has and hasAbove (layer 8). Condition: a tree.
  Contracts of slices.Grow and slices.Concat at slices of changes (layer 8). Condition: at most 2^30 changes.
  Contracts of the code's gone, added and marked (layer 8). Condition: trees.
  Contract of the code's Of (layer 8). Condition: at most 2^30 lines.
-/
import Derived.Test.YtfajfjocpgbmeaaDiffB
import Derived.Test.YtfajfjocpgbmeaaDiffF
import Derived.Test.YtfajfjocpgbmeaaSlices
import Derived.Deep.LoopGhost
import Derived.Deep.QuietTactic
import Derived.BigQuiet
import Derived.Test.YtfajfjocpgbmeaaLinesM

namespace Go.Proofs.Ytfajfjocpgbmeaa
open Go.RowKit
set_option linter.unusedVariables false

theorem codePathAt (A : Option Addr) (c n i q : Nat) (t : List T.Ln) (p : T.Pth) (w : World) (hn : t.length = n) (hA : Seen eL w A t) (hl : n ≤ 1073741824) (hi : i < n) (hR : T.RightT t) (hp : T.pathL t i = p) (hq : p.length = q + 1) :
    Calls Try.prog 50 #[.slice A n c, .int .i64 i] w (fun e w' => ∃ b o cap, e = .returned (.slice (some ⟨b, o, none⟩) (q + 1) cap) ∧ q + 1 ≤ cap ∧ w.heap.size ≤ b ∧ b < w'.heap.size ∧ Holds eS w' b o p ∧ Below w.heap.size w w') := by
  subst hn
  have hpath := Path_new A c t i w hA hl hi hR
  rw [hp] at hpath
  have HQ := Lib.hid hq
  clear hA hR hp hq
  go_enter Try.func50, Try.ntmps50
  go_wp2_with fail
  refine hpath.mono ?_
  rintro e w1 ⟨B, cap, rfl, h2, h3, h4, h5⟩
  have h6 := h3 (by rw [HQ.out]; omega)
  rw [HQ.out] at h2
  obtain ⟨b, o, rfl, hb, hH⟩ := h6
  have HH := Lib.hid hH
  have hqq := HQ.out
  clear h3 hH hpath
  go_wp2
  go_ret
  exact ⟨b, o, cap, rfl, h2, h4 _ rfl, hb, HH.out, h5⟩
theorem codeHas (A B : Option Addr) (c d n m : Nat) (t : List T.Ln) (p : T.Pth) (r : Bool) (w : World) (hn : t.length = n) (hm : p.length = m) (hA : Seen eL w A t) (hB : Seen eS w B p) (hl : n ≤ 1073741824) (hp : m ≤ 1073741824) (hR : T.RightT t) (hr : T.inB t p = r) :
    Calls Try.prog 51 #[.slice A n c, .slice B m d] w (BoolS w r) := by
  subst hn; subst hm
  have hf := find_any A B c d t p w hA hB hl hp hR
  have HR := Lib.hid hr
  clear hA hB hR hr
  go_enter Try.func51, Try.ntmps51
  go_wp2_with fail
  refine hf.mono ?_
  rintro e w1 ⟨hc, hx⟩
  have HX := Lib.hid hx
  clear hf hx
  rcases hc with ⟨i, hi, hpi, rfl⟩ | ⟨hno, rfl⟩
  · have HE := Lib.hid (show r = true by rw [← HR.out]; exact T.inB_yes.2 ⟨i, hi, hpi⟩)
    clear hi hpi
    go_wp2
    go_ret
    exact ⟨by rw [HE.out]; rfl, HX.out⟩
  · have HE := Lib.hid (show r = false by rw [← HR.out]; exact T.inB_no.2 fun ⟨i, hi, e⟩ => hno i hi e)
    clear hno
    go_wp2
    go_ret
    exact ⟨by rw [HE.out]; rfl, HX.out⟩
theorem codeAbove8 (A : Option Addr) (b o c d n q : Nat) (t : List T.Ln) (p : T.Pth) (r : Bool) (w : World) (hn : t.length = n) (hm : p.length = q + 1) (hA : Seen eL w A t) (hb : b < w.heap.size) (hB : Holds eS w b o p) (hd : q + 1 ≤ d) (hl : n ≤ 1073741824) (hp : q ≤ 1073741823) (hR : T.RightT t) (hr : (decide (p.dropLast = []) || T.inB t p.dropLast) = r) :
    Calls Try.prog 52 #[.slice A n c, .slice (some ⟨b, o, none⟩) (q + 1) d] w (BoolS w r) := by
  have hlen : p.dropLast.length = q := by rw [List.length_dropLast, hm]; rfl
  have htake : p.take q = p.dropLast := by rw [List.dropLast_eq_take, hm]; rfl
  by_cases h0 : q = 0
  · subst h0
    have HE := Lib.hid (show r = true by rw [← hr, List.eq_nil_of_length_eq_zero hlen]; rfl)
    clear hA hB hR hr hm hlen htake
    go_enter Try.func52, Try.ntmps52
    go_wp2
    go_ret
    exact ⟨by rw [HE.out]; rfl, Below.refl _ _⟩
  · have hne : p.dropLast ≠ [] := by intro e; rw [e] at hlen; exact h0 hlen.symm
    have hr2 : T.inB t p.dropLast = r := by rw [← hr, decide_eq_false hne, Bool.false_or]
    have hseen : Seen eS w (some ⟨b, o, none⟩) p.dropLast := by rw [← htake]; exact (hB.take q).seen hb
    have hcall := codeHas A (some ⟨b, o, none⟩) c d n q t p.dropLast r w hn hlen hA hseen hl (by omega) hR hr2
    have b1 : ((q : Int) + 1 == 1) = false := beq_eq_false_iff_ne.2 (by omega)
    have hqd : q ≤ d := by omega
    clear hA hB hR hr hm hlen htake hseen hne hr2
    go_enter Try.func52, Try.ntmps52
    go_wp2_with fail
    refine hcall.mono ?_
    rintro e w1 ⟨rfl, hx⟩
    go_wp2
    go_ret
    exact ⟨rfl, hx⟩
end Go.Proofs.Ytfajfjocpgbmeaa

namespace Go.Proofs.Ytfajfjocpgbmeaa
open Go.ChangeShapes Go.WideShapes Go.ChangeAt Go.RowKit
set_option linter.unusedVariables false

set_option maxRecDepth 100000 in
set_option maxHeartbeats 2000000 in
theorem growC_any (n : Nat) (w : World) (h0 : 0 < n) (hl : n ≤ 1073741824) :
    Calls Try.prog 49 #[.slice none 0 0, .int .i64 (n : Int)] w (OwnS eD w []) := by
  obtain ⟨i0, hi0, hz0, hz1, hz2⟩ := info_parts eD.hin
  have hz3 : i0.size = 3 := hz1
  have hz4 : i0.bytes = 40 := hz2
  have hz5 : i0.zero = some zeroCh := hz0
  have h1 : decide ((n : Int) < 0) = false := decide_eq_false (by omega)
  have h4 : decide ((0 : Int) < (n : Int)) = true := decide_eq_true (by omega)
  have h5 : decide (0 < n) = true := decide_eq_true h0
  have hold : (Builtin.firstCells i0.size 0 (.slice none 0 0)).run Try.prog w.drew = .ok (#[] : Array Value) w.drew := run_firstCells_none w.drew i0.size 0 0 0
  have hr := fun ty => Lib.run_append_grow_zeros (P := Try.prog) w 41 3 ty 45 i0 zeroCh .i64 .i64 Try.underlying41 Try.underlying3 hi0 hz5 none 0 0 [] hold n h0 (by omega) (by omega) (by omega) (by rw [hz4]; omega) (by rw [Nat.zero_add]; exact growslice_fits h0 (by rw [hz4]; omega))
  rw [Nat.zero_add] at hr
  obtain ⟨G, hG⟩ : ∃ G, grownCap w n 0 45 = G := ⟨_, rfl⟩
  have hGn : n ≤ G := by rw [← hG]; exact grownCap_ge w _ _ _
  have hGm : G ≤ maxLen := by rw [← hG]; exact grownCap_le_maxLen w n 0 _ (by unfold maxLen; omega)
  rw [hG] at hr
  obtain ⟨cs, hcs⟩ : ∃ cs, (([] : List Value).toArray ++ Builtin.zeroCells zeroCh.cells n ++ Builtin.zeroCells zeroCh.cells (G - n)) = cs := ⟨_, rfl⟩
  have hsz : cs.size = G * 3 := by
    rw [← hcs, Array.size_append, Array.size_append, size_zeroCells, size_zeroCells]
    show 0 + n * 3 + (G - n) * 3 = G * 3
    omega
  rw [hcs] at hr
  obtain ⟨W1, hW1⟩ : ∃ W1, w.drew.alloc (.cells cs 45) = W1 := ⟨_, rfl⟩
  rw [hW1] at hr
  have hB : Below w.heap.size w W1 := by rw [← hW1]; exact ((Below.refl w.heap.size w).drew).alloc (Nat.le_refl _) _
  have hO : Own eD W1 w.heap.size (.slice (some ⟨w.heap.size, 0, none⟩) 0 G) [] := by
    refine ⟨rfl, .inr ⟨w.heap.size, G, cs, rfl, Nat.le_refl _, ?_, Nat.zero_le _, hGm, hsz, ?_⟩⟩
    · rw [← hW1]; exact heap_alloc_new w.drew _
    · rfl
  have HR := Lib.hid hr
  have HO := Lib.hid hO
  have HB := Lib.hid hB
  clear hr hG hold hW1 hcs hO hB hsz hi0 hz0 hz1 hz2 hz3 hz4 hz5
  go_enter Try.func49, Try.ntmps49
  go_wp2_with (at_builtin; refine Lib.wpList_append_run _ rfl (.tmp 20) (.tmp 21) _ _ rfl _ _ rfl rfl _ _ (HR.out _) ?_)
  go_ret
  exact ⟨_, rfl, HO.out, HB.out⟩
set_option maxRecDepth 100000 in
theorem growC_zero (w : World) : Calls Try.prog 49 #[.slice none 0 0, .int .i64 0] w (OwnS eD w []) := by
  go_enter Try.func49, Try.ntmps49
  go_wp2
  go_ret
  exact ⟨_, rfl, Own.nil _ _, Below.refl _ _⟩
theorem growC_all (n : Nat) (w : World) (hl : n ≤ 1073741824) : Calls Try.prog 49 #[.slice none 0 0, .int .i64 (n : Int)] w (OwnS eD w []) := by
  rcases Nat.eq_zero_or_pos n with rfl | h
  · exact growC_zero w
  · exact growC_any n w h hl
/-- The first lists, one behind the other. -/
def catC (L : Nat → List ChM) : Nat → List ChM
  | 0 => []
  | k + 1 => catC L k ++ L k
def sumC (N : Nat → Nat) : Nat → Nat
  | 0 => 0
  | k + 1 => sumC N k + N k
theorem catC_len {L : Nat → List ChM} {N : Nat → Nat} (h : ∀ k, k < 3 → (L k).length = N k) : ∀ k, k ≤ 3 → (catC L k).length = sumC N k
  | 0, _ => rfl
  | k + 1, hk => by unfold catC sumC; rw [List.length_append, catC_len h k (by omega), h k (by omega)]
theorem sumC_mono (N : Nat → Nat) : ∀ (k j : Nat), k ≤ j → sumC N k ≤ sumC N j
  | k, 0, h => by obtain rfl : k = 0 := by omega
                  exact Nat.le_refl _
  | k, j + 1, h => by
    rcases Nat.eq_or_lt_of_le h with rfl | h1
    · exact Nat.le_refl _
    · have := sumC_mono N k j (by omega)
      show _ ≤ sumC N j + N j
      omega
set_option maxRecDepth 100000 in
set_option maxHeartbeats 2000000 in
theorem concatC_any (b : Nat) (ad : Nat → Option Addr) (N C : Nat → Nat) (L : Nat → List ChM) (w : World) (hs : sumC N 3 ≤ 1073741824) (hb : b < w.heap.size) (hc : ∀ k, k < 3 → w.cell? ⟨b, k, none⟩ = some (.slice (ad k) (N k) (C k))) (hN : ∀ k, k < 3 → (L k).length = N k) (hL : ∀ k, k < 3 → Seen eD w (ad k) (L k)) (hCC : ∀ k, k < 3 → N k ≤ C k) (hNL : ∀ k, k < 3 → NilOk (ad k) (C k)) :
    Calls Try.prog 33 #[.slice (some ⟨b, 0, none⟩) 3 3] w (OwnS eD w (catC L 3)) := by
  have HS := Lib.hid hs
  have HC := Lib.hid hc
  have HN := Lib.hid hN
  have HL := Lib.hid hL
  obtain ⟨s4, hs4⟩ : ∃ s, sumC N 3 = s := ⟨_, rfl⟩
  have HS4 := Lib.hid hs4
  have HCC := Lib.hid hCC
  have HNL := Lib.hid hNL
  clear hs hc hN hL hs4 hCC hNL
  go_enter Try.func33, Try.ntmps33
  go_wp2
  go_loopg [3, 11] 3 (fun gk x y wr => ∃ k s : Nat, Hid (k + gk = 3) ∧ k ≤ 3 ∧ Hid (sumC N k = s) ∧ x = .int .i64 (s : Int) ∧ y = .int .i64 (k : Int) ∧ w = wr)
  case atStart => exact ⟨0, 0, Nat.zero_add _, Nat.zero_le _, rfl, rfl, rfl, rfl⟩
  case round =>
    obtain ⟨k, s, HG, hk, HK, rfl, rfl, rfl⟩ := hrel
    by_cases hlt : k < 3
    · have blt : decide ((k : Int) < 3) = true := decide_eq_true (by omega)
      have blt2 : decide (k < 3) = true := decide_eq_true hlt
      obtain ⟨nk, hnk⟩ : ∃ nk, N k = nk := ⟨_, rfl⟩
      have c0 := HC.out k hlt
      rw [hnk] at c0
      have hki : (k : Int) < 3 := by omega
      have hsum : sumC N (k + 1) = s + nk := by show sumC N k + N k = _; rw [HK.out, hnk]
      have hle := sumC_mono N (k + 1) 3 (by omega)
      have hs4 := HS.out
      have hsn : s + nk ≤ 1073741824 := by omega
      have hneg : decide ((s : Int) + (nk : Int) < 0) = false := decide_eq_false (by omega)
      have HSM := Lib.hid hsum
      clear hsum hle hs4 hnk
      go_wp2
      have hgk := HG.out
      go_roundg (3 - (k + 1))
      case rel => exact ⟨k + 1, s + nk, (by show _ = _; omega), by omega, HSM, by go_num, by go_num, rfl⟩
      case measure => omega
    · have blt : decide ((k : Int) < 3) = false := decide_eq_false (by omega)
      have blt2 : decide (k < 3) = false := decide_eq_false hlt
      obtain rfl : k = 3 := by omega
      have hss : s = s4 := HK.out.symm.trans HS4.out
      subst hss
      have h4 := HS4.out
      have hs0 := HS.out
      rw [h4] at hs0
      clear h4
      go_wp2_with fail
      refine (growC_all s w hs0).mono ?_
      rintro e w1 ⟨v1, rfl, hown1, hx1⟩
      have HO1 := Lib.hid hown1
      have HX1 := Lib.hid hx1
      clear hown1 hx1 hs0
      go_wp2
      go_loopg [6, 27] 3 (fun gk x y wr => ∃ k : Nat, Hid (k + gk = 3) ∧ k ≤ 3 ∧ Own eD wr w.heap.size x (catC L k) ∧ y = .int .i64 (k : Int) ∧ Below w.heap.size w wr)
      case atStart => exact ⟨0, Nat.zero_add _, Nat.zero_le _, HO1.out, rfl, HX1.out⟩
      case round =>
        obtain ⟨k, HG, hk, hown, rfl, hbr⟩ := hrel
        have hsz := hbr.size
        by_cases hlt : k < 3
        · have blt : decide ((k : Int) < 3) = true := decide_eq_true (by omega)
          have blt2 : decide (k < 3) = true := decide_eq_true hlt
          obtain ⟨nk, hnk⟩ : ∃ nk, N k = nk := ⟨_, rfl⟩
          have c0 := (hbr.cell (p := ⟨b, k, none⟩) hb).trans (HC.out k hlt)
          rw [hnk] at c0
          have hki : (k : Int) < 3 := by omega
          have HNK := Lib.hid ((HN.out k hlt).trans hnk)
          have HLK := Lib.hid ((HL.out k hlt).below hbr)
          have hcl := catC_len HN.out k hk
          have hle := sumC_mono N (k + 1) 3 (by omega)
          have hle2 : (catC L k).length + nk ≤ 1099511627776 := by
            have e : sumC N (k + 1) = sumC N k + N k := rfl
            have := HS.out
            rw [hcl]
            omega
          have HO := Lib.hid hown
          have HB := Lib.hid hbr
          have HCK := Lib.hid (show nk ≤ C k by rw [← hnk]; exact HCC.out k hlt)
          clear hown hcl hle hnk
          go_wp2_with (at_builtin; refine wpList_appAny eD wr rfl (.tmp 31) (.tmp 32) rfl w.heap.size _ (catC L k) rfl HO.out (ad k) (L k) nk (C k) HNK.out rfl HCK.out (HNL.out k hlt) HLK.out hle2 hsz ?_; intro v3 w3 hown3 hb3)
          have hgk := HG.out
          go_roundg (3 - (k + 1))
          case rel => exact ⟨k + 1, (by show _ = _; omega), by omega, hown3, by go_num, HB.out.trans hb3⟩
          case measure => omega
        · have blt : decide ((k : Int) < 3) = false := decide_eq_false (by omega)
          have blt2 : decide (k < 3) = false := decide_eq_false hlt
          obtain rfl : k = 3 := by omega
          go_wp2
          go_ret
          exact ⟨_, rfl, hown, hbr⟩

end Go.Proofs.Ytfajfjocpgbmeaa

namespace Go.Proofs.Ytfajfjocpgbmeaa
open Go.RowKit
set_option linter.unusedVariables false

set_option maxRecDepth 100000 in
set_option maxHeartbeats 8000000 in
theorem codeGone (A B : Option Addr) (c d n m : Nat) (a b : List T.Ln) (w : World) (hn : a.length = n) (hm : b.length = m) (hA : Seen eL w A a) (hB : Seen eL w B b) (ha : T.RightT a) (hb : T.RightT b) :
    Calls Try.prog 34 #[.slice A n c, .slice B m d] w (fun e w' => ∃ v, e = .returned v ∧ OwnC eD w' w.heap.size v (T.goneL b (T.entries a)) ∧ Below w.heap.size w w') := by
  have hn200 : n ≤ 200 := by rw [← hn]; exact ha.len
  have hm200 : m ≤ 200 := by rw [← hm]; exact hb.len
  have HA := Lib.hid hA
  have HB := Lib.hid hB
  have HN := Lib.hid hn
  have HM := Lib.hid hm
  have HRA := Lib.hid ha
  have HRB := Lib.hid hb
  clear hA hB hn hm ha hb
  go_enter Try.func34, Try.ntmps34
  go_wp2
  go_loopg [5, 10] n (fun gk vo vi wr => ∃ k : Nat, Hid (k + gk = n) ∧ k ≤ n ∧ Hid (OwnC eD wr w.heap.size vo (T.goneL b ((T.entries a).take k))) ∧ vi = .int .i64 (k : Int) ∧ Below w.heap.size w wr)
  case atStart => exact ⟨0, Nat.zero_add _, Nat.zero_le _, OwnC.nil _ _ _, rfl, Below.refl _ _⟩
  case round =>
    obtain ⟨k, HG, hk, HO, rfl, hbr⟩ := hrel
    by_cases hlt : k < n
    · have blt : decide ((k : Int) < (n : Int)) = true := decide_eq_true (by omega)
      have blt2 : decide (k < n) = true := decide_eq_true hlt
      have hka : k < a.length := by have := HN.out; omega
      obtain ⟨P, hP⟩ : ∃ P, T.pathL a k = P := ⟨_, rfl⟩
      have hdeep := S.RightN.path_deep HRA.out hka
      rw [hP] at hdeep
      obtain ⟨q, hq⟩ : ∃ q, P.length = q + 1 := ⟨P.length - 1, by omega⟩
      have hq15 : q ≤ 15 := by omega
      have HEN := Lib.hid (entries_next a hka)
      have HGN := Lib.hid (T.goneL_next b ((T.entries a).take k) (T.pathL a k, (T.at_ a k).mark))
      obtain ⟨r1, hr1⟩ : ∃ r, T.inB b P = r := ⟨_, rfl⟩
      obtain ⟨r2, hr2⟩ : ∃ r, (decide (P.dropLast = []) || T.inB b P.dropLast) = r := ⟨_, rfl⟩
      have HGB := Lib.hid (show T.goneB b (T.pathL a k) = (!r1 && r2) by rw [hP, ← hr1, ← hr2]; rfl)
      have HP := Lib.hid hP
      have HQ := Lib.hid hq
      have HR1 := Lib.hid hr1
      have HR2 := Lib.hid hr2
      have HGL := Lib.hid (show (T.goneL b ((T.entries a).take k)).length + 1 ≤ 1099511627776 by have := gone_len b ((T.entries a).take k); have := taken_len a k; omega)
      have hsz := hbr.size
      have HBR := Lib.hid hbr
      clear hP hq hdeep hr1 hr2
      go_wp2_with fail
      refine (codePathAt A c n k q a P wr HN.out (HA.out.below hbr) (by omega) hlt HRA.out HP.out HQ.out).mono ?_
      rintro e w1 ⟨pb, po, pc, rfl, hqc, hpn, hpb, hPH, hx1⟩
      have HPH := Lib.hid hPH
      have HX1 := Lib.hid hx1
      have HB1 := Lib.hid (bthen hbr hx1)
      clear hPH hx1 hbr
      go_wp2_with fail
      refine (codeHas B _ d pc m (q + 1) b P r1 w1 HM.out HQ.out (HB.out.below HB1.out) (HPH.out.seen hpb) (by omega) (by omega) HRB.out HR1.out).mono ?_
      rintro e w2 ⟨rfl, hx2⟩
      have HB2 := Lib.hid (bthen HB1.out hx2)
      have HX2 := Lib.hid (bthen HX1.out hx2)
      have HPH2 := Lib.hid (HPH.out.below hx2 hpb)
      have hpb2 : pb < w2.heap.size := Nat.lt_of_lt_of_le hpb hx2.size
      have HO2 := Lib.hid (HO.out.keep HX2.out)
      clear hx2
      have hgk := HG.out
      cases r1 with
      | true =>
        have HN2 := Lib.hid (show T.goneL b ((T.entries a).take (k + 1)) = T.goneL b ((T.entries a).take k) by
          rw [HEN.out, HGN.out, if_neg (by show ¬ T.goneB b (T.pathL a k) = true; rw [HGB.out]; simp), List.append_nil])
        go_wp2
        go_roundg (n - (k + 1))
        case rel => exact ⟨k + 1, (by show _ = _; omega), by omega, Lib.hid (by rw [HN2.out]; exact HO2.out), by go_num, HB2.out⟩
        case measure => omega
      | false =>
        go_wp2_with fail
        refine (codeAbove8 B pb po d pc m q b P r2 w2 HM.out HQ.out (HB.out.below HB2.out) hpb2 HPH2.out hqc (by omega) (by omega) HRB.out HR2.out).mono ?_
        rintro e w3 ⟨rfl, hx3⟩
        have HB3 := Lib.hid (bthen HB2.out hx3)
        have HPH3 := Lib.hid (HPH2.out.below hx3 hpb2)
        have hpb3 : pb < w3.heap.size := Nat.lt_of_lt_of_le hpb2 hx3.size
        have HO3 := Lib.hid (HO2.out.keep hx3)
        clear hx3
        cases r2 with
        | false =>
          have HN2 := Lib.hid (show T.goneL b ((T.entries a).take (k + 1)) = T.goneL b ((T.entries a).take k) by
            rw [HEN.out, HGN.out, if_neg (by show ¬ T.goneB b (T.pathL a k) = true; rw [HGB.out]; simp), List.append_nil])
          go_wp2
          go_roundg (n - (k + 1))
          case rel => exact ⟨k + 1, (by show _ = _; omega), by omega, Lib.hid (by rw [HN2.out]; exact HO3.out), by go_num, HB3.out⟩
          case measure => omega
        | true =>
          have HN2 := Lib.hid (show T.goneL b ((T.entries a).take (k + 1)) = T.goneL b ((T.entries a).take k) ++ [⟨1, P, 0⟩] by
            rw [HEN.out, HGN.out, if_pos (by show T.goneB b (T.pathL a k) = true; rw [HGB.out]; rfl)]
            rw [HP.out])
          have hy : ChS w3 ⟨1, some ⟨pb, po, none⟩, q + 1, pc, 0⟩ ⟨1, P, 0⟩ := ⟨rfl, rfl, HQ.out, hqc, HPH3.out.seen hpb3⟩
          have hfr : Free _ ⟨1, some ⟨pb, po, none⟩, q + 1, pc, 0⟩ ⟨1, P, 0⟩ := Free.born HO.out (k := pb) hpn (fun ad e => by injection e with e; rw [← e]; exact Nat.le_refl _)
          have HY := Lib.hid hy
          have HFR := Lib.hid hfr
          have hsz2 := HB3.out.size
          clear hy hfr
          go_wp2_with (at_builtin; refine wpList_appC eD w3 rfl (.tmp 25) (.tmp 28) rfl w.heap.size u5 (T.goneL b ((T.entries a).take k)) rfl HO3.out ⟨1, P, 0⟩ _ HY.out HFR.out 1 _ rfl w3.heap.size rfl rfl HGL.out hsz2 ?_; intro v3 w4 hown3 hb3)
          go_roundg (n - (k + 1))
          case rel => exact ⟨k + 1, (by show _ = _; omega), by omega, Lib.hid (by rw [HN2.out]; exact hown3), by go_num, HB3.out.trans hb3⟩
          case measure => omega
    · have blt : decide ((k : Int) < (n : Int)) = false := decide_eq_false (by omega)
      have blt2 : decide (k < n) = false := decide_eq_false hlt
      obtain rfl : n = k := by omega
      have HO1 := Lib.hid (show OwnC eD wr w.heap.size _ (T.goneL b (T.entries a)) by have := HO.out; rw [← HN.out, entries_all] at this; exact this)
      go_wp2
      go_ret
      exact ⟨_, rfl, HO1.out, hbr⟩

set_option maxRecDepth 100000 in
set_option maxHeartbeats 8000000 in
theorem codeAdded (A B : Option Addr) (c d n m : Nat) (a b : List T.Ln) (w : World) (hn : a.length = n) (hm : b.length = m) (hA : Seen eL w A a) (hB : Seen eL w B b) (ha : T.RightT a) (hb : T.RightT b) :
    Calls Try.prog 35 #[.slice A n c, .slice B m d] w (fun e w' => ∃ v, e = .returned v ∧ OwnC eD w' w.heap.size v (T.addsL a (T.entries b)) ∧ Below w.heap.size w w') := by
  have hn200 : n ≤ 200 := by rw [← hn]; exact ha.len
  have hm200 : m ≤ 200 := by rw [← hm]; exact hb.len
  have HA := Lib.hid hA
  have HB := Lib.hid hB
  have HN := Lib.hid hn
  have HM := Lib.hid hm
  have HRA := Lib.hid ha
  have HRB := Lib.hid hb
  clear hA hB hn hm ha hb
  go_enter Try.func35, Try.ntmps35
  go_wp2
  go_loopg [5, 11] m (fun gk vo vi wr => ∃ k : Nat, Hid (k + gk = m) ∧ k ≤ m ∧ Hid (OwnC eD wr w.heap.size vo (T.addsL a ((T.entries b).take k))) ∧ vi = .int .i64 (k : Int) ∧ Below w.heap.size w wr)
  case atStart => exact ⟨0, Nat.zero_add _, Nat.zero_le _, OwnC.nil _ _ _, rfl, Below.refl _ _⟩
  case round =>
    obtain ⟨k, HG, hk, HO, rfl, hbr⟩ := hrel
    by_cases hlt : k < m
    · have blt : decide ((k : Int) < (m : Int)) = true := decide_eq_true (by omega)
      have blt2 : decide (k < m) = true := decide_eq_true hlt
      have hkb : k < b.length := by have := HM.out; omega
      obtain ⟨P, hP⟩ : ∃ P, T.pathL b k = P := ⟨_, rfl⟩
      obtain ⟨mk, hmk⟩ : ∃ mk, (T.at_ b k).mark = mk := ⟨_, rfl⟩
      have hdeep := S.RightN.path_deep HRB.out hkb
      rw [hP] at hdeep
      obtain ⟨q, hq⟩ : ∃ q, P.length = q + 1 := ⟨P.length - 1, by omega⟩
      have hq15 : q ≤ 15 := by omega
      have hen := entries_next b hkb
      rw [hP, hmk] at hen
      have HEN := Lib.hid hen
      have HGN := Lib.hid (T.addsL_next a ((T.entries b).take k) (P, mk))
      obtain ⟨r1, hr1⟩ : ∃ r, T.inB a P = r := ⟨_, rfl⟩
      obtain ⟨bb, ob, rfl, hbb, hHb⟩ := HB.out.lines (by omega)
      obtain ⟨l0, l1, l2⟩ := (hHb.below hbr hbb).line hkb
      obtain ⟨dd, hdd⟩ : ∃ z, T.dp b k = z := ⟨_, rfl⟩
      obtain ⟨ww, hww⟩ : ∃ z, T.wd b k = z := ⟨_, rfl⟩
      rw [hdd] at l0
      rw [hww] at l1
      rw [hmk] at l2
      have HP := Lib.hid hP
      have HQ := Lib.hid hq
      have HR1 := Lib.hid hr1
      have HGL := Lib.hid (show (T.addsL a ((T.entries b).take k)).length + 1 ≤ 1099511627776 by have := adds_len a ((T.entries b).take k); have := taken_len b k; omega)
      have hki : (k : Int) < (m : Int) := by omega
      have HBR := Lib.hid (hbr.alloc hbr.size (.cells #[.int .i64 dd, .string (sB ww), .int .i64 mk] 35))
      have HXR := Lib.hid ((Below.refl wr.heap.size wr).alloc (Nat.le_refl _) (.cells #[.int .i64 dd, .string (sB ww), .int .i64 mk] 35))
      clear hP hmk hq hdeep hen hr1 hHb hdd hww
      go_wp2_with fail
      refine (codePathAt _ d m k q b P _ HM.out (HB.out.below HBR.out) (by omega) hlt HRB.out HP.out HQ.out).mono ?_
      rintro e w1 ⟨pb, po, pc, rfl, hqc, hpn, hpb, hPH, hx1⟩
      have HPH := Lib.hid hPH
      have HX1 := Lib.hid (bthen HXR.out hx1)
      have HB1 := Lib.hid (bthen HBR.out hx1)
      have hc1 : w1.cell? ⟨wr.heap.size, 2, none⟩ = some (.int .i64 mk) := (hx1.cell (p := ⟨wr.heap.size, 2, none⟩) (by simp)).trans (World.cell?_alloc_mark wr #[.int .i64 dd, .string (sB ww), .int .i64 mk] 35 (0, 0) 2)
      have hws : wr.heap.size < w1.heap.size := by have := hx1.size; simp at this; omega
      have hpn2 : wr.heap.size ≤ pb := by simp at hpn; omega
      clear hPH hx1 hbr l0 l1 l2 hpn
      go_wp2_with fail
      refine (codeHas A _ c pc n (q + 1) a P r1 w1 HN.out HQ.out (HA.out.below HB1.out) (HPH.out.seen hpb) (by omega) (by omega) HRA.out HR1.out).mono ?_
      rintro e w2 ⟨rfl, hx2⟩
      have HB2 := Lib.hid (bthen HB1.out hx2)
      have HX2 := Lib.hid (bthen HX1.out hx2)
      have HPH2 := Lib.hid (HPH.out.below hx2 hpb)
      have hpb2 : pb < w2.heap.size := Nat.lt_of_lt_of_le hpb hx2.size
      have HO2 := Lib.hid (HO.out.keep HX2.out)
      have hc2 : w2.cell? ⟨wr.heap.size, 2, none⟩ = some (.int .i64 mk) := (hx2.cell (p := ⟨wr.heap.size, 2, none⟩) hws).trans hc1
      clear hx2 hc1 hws
      have hgk := HG.out
      cases r1 with
      | true =>
        have HN2 := Lib.hid (show T.addsL a ((T.entries b).take (k + 1)) = T.addsL a ((T.entries b).take k) by
          rw [HEN.out, HGN.out, if_neg (by show ¬ T.inB a P = false; rw [HR1.out]; simp), List.append_nil])
        go_wp2
        go_roundg (m - (k + 1))
        case rel => exact ⟨k + 1, (by show _ = _; omega), by omega, Lib.hid (by rw [HN2.out]; exact HO2.out), by go_num, HB2.out⟩
        case measure => omega
      | false =>
        have HN2 := Lib.hid (show T.addsL a ((T.entries b).take (k + 1)) = T.addsL a ((T.entries b).take k) ++ [⟨2, P, mk⟩] by
          rw [HEN.out, HGN.out, if_pos (by show T.inB a P = false; exact HR1.out)])
        have hy : ChS w2 ⟨2, some ⟨pb, po, none⟩, q + 1, pc, mk⟩ ⟨2, P, mk⟩ := ⟨rfl, rfl, HQ.out, hqc, HPH2.out.seen hpb2⟩
        have hfr : Free _ ⟨2, some ⟨pb, po, none⟩, q + 1, pc, mk⟩ ⟨2, P, mk⟩ := Free.born HO.out (k := pb) hpn2 (fun ad e => by injection e with e; rw [← e]; exact Nat.le_refl _)
        have HY := Lib.hid hy
        have HFR := Lib.hid hfr
        have hsz2 := HB2.out.size
        clear hy hfr
        go_wp2_with (at_builtin; refine wpList_appC eD w2 rfl (.tmp 23) (.tmp 28) rfl w.heap.size u5 (T.addsL a ((T.entries b).take k)) rfl HO2.out ⟨2, P, mk⟩ _ HY.out HFR.out 1 _ rfl w2.heap.size rfl rfl HGL.out hsz2 ?_; intro v3 w3 hown3 hb3)
        go_roundg (m - (k + 1))
        case rel => exact ⟨k + 1, (by show _ = _; omega), by omega, Lib.hid (by rw [HN2.out]; exact hown3), by go_num, HB2.out.trans hb3⟩
        case measure => omega
    · have blt : decide ((k : Int) < (m : Int)) = false := decide_eq_false (by omega)
      have blt2 : decide (k < m) = false := decide_eq_false hlt
      obtain rfl : m = k := by omega
      have HO1 := Lib.hid (show OwnC eD wr w.heap.size _ (T.addsL a (T.entries b)) by have := HO.out; rw [← HM.out, entries_all] at this; exact this)
      go_wp2
      go_ret
      exact ⟨_, rfl, HO1.out, hbr⟩
set_option maxRecDepth 100000 in
set_option maxHeartbeats 8000000 in
theorem codeMarked (A B : Option Addr) (c d n m : Nat) (a b : List T.Ln) (w : World) (hn : a.length = n) (hm : b.length = m) (hA : Seen eL w A a) (hB : Seen eL w B b) (ha : T.RightT a) (hb : T.RightT b) :
    Calls Try.prog 36 #[.slice A n c, .slice B m d] w (fun e w' => ∃ v, e = .returned v ∧ OwnC eD w' w.heap.size v (T.marksL a (T.entries b)) ∧ Below w.heap.size w w') := by
  have hn200 : n ≤ 200 := by rw [← hn]; exact ha.len
  have hm200 : m ≤ 200 := by rw [← hm]; exact hb.len
  have HA := Lib.hid hA
  have HB := Lib.hid hB
  have HN := Lib.hid hn
  have HM := Lib.hid hm
  have HRA := Lib.hid ha
  have HRB := Lib.hid hb
  clear hA hB hn hm ha hb
  go_enter Try.func36, Try.ntmps36
  go_wp2
  go_loopg [5, 13] m (fun gk vo vi wr => ∃ k : Nat, Hid (k + gk = m) ∧ k ≤ m ∧ Hid (OwnC eD wr w.heap.size vo (T.marksL a ((T.entries b).take k))) ∧ vi = .int .i64 (k : Int) ∧ Below w.heap.size w wr)
  case atStart => exact ⟨0, Nat.zero_add _, Nat.zero_le _, OwnC.nil _ _ _, rfl, Below.refl _ _⟩
  case round =>
    obtain ⟨k, HG, hk, HO, rfl, hbr⟩ := hrel
    by_cases hlt : k < m
    · have blt : decide ((k : Int) < (m : Int)) = true := decide_eq_true (by omega)
      have blt2 : decide (k < m) = true := decide_eq_true hlt
      have hkb : k < b.length := by have := HM.out; omega
      obtain ⟨P, hP⟩ : ∃ P, T.pathL b k = P := ⟨_, rfl⟩
      obtain ⟨mk, hmk⟩ : ∃ mk, (T.at_ b k).mark = mk := ⟨_, rfl⟩
      have hdeep := S.RightN.path_deep HRB.out hkb
      rw [hP] at hdeep
      obtain ⟨q, hq⟩ : ∃ q, P.length = q + 1 := ⟨P.length - 1, by omega⟩
      have hq15 : q ≤ 15 := by omega
      have hen := entries_next b hkb
      rw [hP, hmk] at hen
      have HEN := Lib.hid hen
      have HGN := Lib.hid (T.marksL_next a ((T.entries b).take k) (P, mk))
      obtain ⟨bb, ob, rfl, hbb, hHb⟩ := HB.out.lines (by omega)
      obtain ⟨l0, l1, l2⟩ := (hHb.below hbr hbb).line hkb
      obtain ⟨dd, hdd⟩ : ∃ z, T.dp b k = z := ⟨_, rfl⟩
      obtain ⟨ww, hww⟩ : ∃ z, T.wd b k = z := ⟨_, rfl⟩
      rw [hdd] at l0
      rw [hww] at l1
      rw [hmk] at l2
      have HP := Lib.hid hP
      have HQ := Lib.hid hq
      have HGL := Lib.hid (show (T.marksL a ((T.entries b).take k)).length + 1 ≤ 1099511627776 by have := marks_len a ((T.entries b).take k); have := taken_len b k; omega)
      have hki : (k : Int) < (m : Int) := by omega
      have HBR := Lib.hid (hbr.alloc hbr.size (.cells #[.int .i64 dd, .string (sB ww), .int .i64 mk] 35))
      have HXR := Lib.hid ((Below.refl wr.heap.size wr).alloc (Nat.le_refl _) (.cells #[.int .i64 dd, .string (sB ww), .int .i64 mk] 35))
      have hgk := HG.out
      clear hP hmk hq hdeep hen hHb hdd hww
      go_wp2_with fail
      refine (codePathAt _ d m k q b P _ HM.out (HB.out.below HBR.out) (by omega) hlt HRB.out HP.out HQ.out).mono ?_
      rintro e w1 ⟨pb, po, pc, rfl, hqc, hpn, hpb, hPH, hx1⟩
      have HPH := Lib.hid hPH
      have HX1 := Lib.hid (bthen HXR.out hx1)
      have HB1 := Lib.hid (bthen HBR.out hx1)
      have hc1 : w1.cell? ⟨wr.heap.size, 2, none⟩ = some (.int .i64 mk) := (hx1.cell (p := ⟨wr.heap.size, 2, none⟩) (by simp)).trans (World.cell?_alloc_mark wr #[.int .i64 dd, .string (sB ww), .int .i64 mk] 35 (0, 0) 2)
      have hws : wr.heap.size < w1.heap.size := by have := hx1.size; simp at this; omega
      have hpn2 : wr.heap.size ≤ pb := by simp at hpn; omega
      have hfind := find_any A (some ⟨pb, po, none⟩) c pc a P w1 (HA.out.below HB1.out) (HPH.out.seen hpb) (by rw [HN.out]; omega) (by rw [HQ.out]; omega) HRA.out
      rw [HN.out, HQ.out] at hfind
      clear hPH hx1 hbr l0 l1 l2 hpn
      go_wp2_with fail
      refine hfind.mono ?_
      rintro e w2 ⟨hfc, hx2⟩
      have HB2 := Lib.hid (bthen HB1.out hx2)
      have HX2 := Lib.hid (bthen HX1.out hx2)
      have HPH2 := Lib.hid (HPH.out.below hx2 hpb)
      have hpb2 : pb < w2.heap.size := Nat.lt_of_lt_of_le hpb hx2.size
      have HO2 := Lib.hid (HO.out.keep HX2.out)
      have hc2 : w2.cell? ⟨wr.heap.size, 2, none⟩ = some (.int .i64 mk) := (hx2.cell (p := ⟨wr.heap.size, 2, none⟩) hws).trans hc1
      have hws2 : wr.heap.size < w2.heap.size := Nat.lt_of_lt_of_le hws hx2.size
      clear hx2 hc1 hws hfind
      rcases hfc with ⟨i, hi, hpi, rfl⟩ | ⟨hno, rfl⟩
      · obtain ⟨mi, hmi⟩ : ∃ mi, (T.at_ a i).mark = mi := ⟨_, rfl⟩
        have hf := T.findI_some HRA.out hi hpi
        have HMB := Lib.hid (show T.markB a (P, mk) = (mi != mk) by
          unfold T.markB T.markOf
          rw [hf, T.inB_yes.2 ⟨i, hi, hpi⟩, Int.toNat_natCast, hmi]; rfl)
        obtain ⟨ba, oa, rfl, hba, hHa⟩ := HA.out.lines (by omega)
        have hin : (i : Int) < (n : Int) := by have := HN.out; omega
        obtain ⟨_, _, la⟩ := (hHa.below HB2.out hba).line hi
        rw [hmi] at la
        clear hf hpi hmi hHa
        cases hne : (mi != mk) with
        | false =>
          have HN2 := Lib.hid (show T.marksL a ((T.entries b).take (k + 1)) = T.marksL a ((T.entries b).take k) by
            rw [HEN.out, HGN.out, if_neg (by show ¬ T.markB a (P, mk) = true; rw [HMB.out, hne]; simp), List.append_nil])
          go_wp2
          go_quiet (fail)
          all_goals go_wp2
          all_goals
            go_roundg (m - (k + 1))
            case rel => exact ⟨k + 1, (by show _ = _; omega), by omega, Lib.hid (by rw [HN2.out]; exact HO2.out.keep (below_draws (Below.refl _ _) _)), by go_num, below_draws HB2.out _⟩
            case measure => omega
        | true =>
          have HN2 := Lib.hid (show T.marksL a ((T.entries b).take (k + 1)) = T.marksL a ((T.entries b).take k) ++ [⟨3, P, mk⟩] by
            rw [HEN.out, HGN.out, if_pos (by show T.markB a (P, mk) = true; rw [HMB.out]; exact hne)])
          go_wp2
          go_quiet (fail)
          have hB2d : Below w.heap.size w (w2.drewN nq) := below_draws HB2.out nq
          have hO2d : OwnC eD (w2.drewN nq) w.heap.size u5 (T.marksL a ((T.entries b).take k)) := HO2.out.keep (below_draws (Below.refl _ _) nq)
          have hPd : Holds eS (w2.drewN nq) pb po P := HPH2.out.below (below_draws (Below.refl _ _) nq) hpb2
          have lbn : (w2.drewN nq).cell? ⟨wr.heap.size, 2, none⟩ = some (.int .i64 mk) := by rw [← hc2]; exact (below_draws (Below.refl w2.heap.size w2) nq).cell (p := ⟨wr.heap.size, 2, none⟩) hws2
          have hsn : pb < (w2.drewN nq).heap.size := Nat.lt_of_lt_of_le hpb2 (below_draws (Below.refl w2.heap.size w2) nq).size
          obtain ⟨w2d, hw2d⟩ : ∃ W, w2.drewN nq = W := ⟨_, rfl⟩
          have lbd : w2d.cell? ⟨wr.heap.size, 2, none⟩ = some (.int .i64 mk) := by rw [← hw2d]; exact lbn
          have hsd : pb < w2d.heap.size := by rw [← hw2d]; exact hsn
          rw [hw2d] at hB2d hO2d hPd ⊢
          have hy : ChS w2d ⟨3, some ⟨pb, po, none⟩, q + 1, pc, mk⟩ ⟨3, P, mk⟩ := ⟨rfl, rfl, HQ.out, hqc, hPd.seen hsd⟩
          have hfr : Free u5 ⟨3, some ⟨pb, po, none⟩, q + 1, pc, mk⟩ ⟨3, P, mk⟩ := Free.born HO.out (k := pb) hpn2 (fun ad e => by injection e with e; rw [← e]; exact Nat.le_refl _)
          have HY := Lib.hid hy
          have HFR := Lib.hid hfr
          have HOD := Lib.hid hO2d
          have HBD := Lib.hid hB2d
          have hsz2 := hB2d.size
          clear hy hfr la hc2 lbn hsn hO2d hPd hB2d hw2d
          go_wp2_with (at_builtin; refine wpList_appC eD w2d rfl (.tmp 38) (.tmp 43) rfl w.heap.size u5 (T.marksL a ((T.entries b).take k)) rfl HOD.out ⟨3, P, mk⟩ _ HY.out HFR.out 1 _ rfl w2d.heap.size rfl rfl HGL.out hsz2 ?_; intro v3 w3 hown3 hb3)
          go_roundg (m - (k + 1))
          case rel => exact ⟨k + 1, (by show _ = _; omega), by omega, Lib.hid (by rw [HN2.out]; exact hown3), by go_num, HBD.out.trans hb3⟩
          case measure => omega
      · have HN2 := Lib.hid (show T.marksL a ((T.entries b).take (k + 1)) = T.marksL a ((T.entries b).take k) by
          rw [HEN.out, HGN.out, if_neg (by
            show ¬ T.markB a (P, mk) = true
            unfold T.markB
            rw [T.inB_no.2 fun ⟨i, hi, e⟩ => hno i hi e]; simp), List.append_nil])
        clear hno
        go_wp2
        go_quiet (fail)
        all_goals go_wp2
        all_goals
          go_roundg (m - (k + 1))
          case rel => exact ⟨k + 1, (by show _ = _; omega), by omega, Lib.hid (by rw [HN2.out]; exact HO2.out.keep (below_draws (Below.refl _ _) _)), by go_num, below_draws HB2.out _⟩
          case measure => omega
    · have blt : decide ((k : Int) < (m : Int)) = false := decide_eq_false (by omega)
      have blt2 : decide (k < m) = false := decide_eq_false hlt
      obtain rfl : m = k := by omega
      have HO1 := Lib.hid (show OwnC eD wr w.heap.size _ (T.marksL a (T.entries b)) by have := HO.out; rw [← HM.out, entries_all] at this; exact this)
      go_wp2
      go_ret
      exact ⟨_, rfl, HO1.out, hbr⟩
end Go.Proofs.Ytfajfjocpgbmeaa

namespace Go.Proofs.Ytfajfjocpgbmeaa
open Go.RowKit
set_option linter.unusedVariables false

theorem chs_app {w : World} {M1 M2 : List ChM} {L1 L2 : List T.Chg} (h1 : M1.length = L1.length) (h2 : M2.length = L2.length) (e1 : ∀ i (h1 : i < M1.length) (h2 : i < L1.length), ChS w M1[i] L1[i]) (e2 : ∀ i (h1 : i < M2.length) (h2 : i < L2.length), ChS w M2[i] L2[i]) :
    ∀ i (h1 : i < (M1 ++ M2).length) (h2 : i < (L1 ++ L2).length), ChS w (M1 ++ M2)[i] (L1 ++ L2)[i] := by
  intro i h3 h4
  by_cases hi : i < M1.length
  · rw [List.getElem_append_left hi, List.getElem_append_left (by omega)]
    exact e1 i hi (by omega)
  · rw [List.getElem_append_right (by omega), List.getElem_append_right (by omega)]
    rw [List.length_append] at h3 h4
    have := e2 (i - M1.length) (by omega) (by omega)
    simp only [h1] at this ⊢
    exact this
set_option maxRecDepth 100000 in
set_option maxHeartbeats 4000000 in
theorem diff_of (A B : Option Addr) (c d n m : Nat) (a b : List T.Ln) (w : World) (hA : TArg w A c n a) (hB : TArg w B d m b) (ha : T.RightT a) (hb : T.RightT b) :
    Calls Try.prog 19 #[.slice A n c, .slice B m d] w (OfS w (T.diffL a b) 0) := by
  obtain ⟨hn, hl, hc, hsA, hNA⟩ := hA
  obtain ⟨hm, hl2, hc2, hsB, hNB⟩ := hB
  have hlen := T.diff_len a b
  have hn200 := ha.len
  have hm200 := hb.len
  have HLEN := Lib.hid (show (T.diffL a b).length ≤ 400 by omega)
  have HA := Lib.hid hsA
  have HB := Lib.hid hsB
  have HN := Lib.hid hn
  have HM := Lib.hid hm
  have HRA := Lib.hid ha
  have HRB := Lib.hid hb
  clear hsA hsB hn hm ha hb hNA hNB hlen hn200 hm200
  go_enter Try.func19, Try.ntmps19
  go_wp2_with fail
  refine (right_n A c a n _ HA.out HN.out hl HRA.out).mono ?_
  rintro e w1 ⟨rfl, hx1⟩
  have HX1 := Lib.hid hx1
  clear hx1
  go_wp2_with fail
  refine (right_n B d b m _ (HB.out.below HX1.out) HM.out hl2 HRB.out).mono ?_
  rintro e w2 ⟨rfl, hx2⟩
  have HX2 := Lib.hid (bthen HX1.out hx2)
  clear hx2
  go_wp2_with fail
  refine (codeGone A B c d n m a b _ HN.out HM.out (HA.out.below HX2.out) (HB.out.below HX2.out) HRA.out HRB.out).mono ?_
  rintro e w3 ⟨v3, rfl, ho3, hx3⟩
  obtain ⟨M1, g1, o1, e1⟩ := ho3
  obtain ⟨A1, c1, rfl, k1, s1⟩ := o1.seen
  have hN1 := Own.nilOk o1
  obtain ⟨n1, hn1⟩ : ∃ z, M1.length = z := ⟨_, rfl⟩
  rw [hn1] at k1
  rw [hn1]
  have HN1 := Lib.hid hn1
  have HNO1 := Lib.hid hN1
  have HG1 := Lib.hid g1
  have HE1 := Lib.hid e1
  have HS1 := Lib.hid s1
  have HX3 := Lib.hid (bthen HX2.out hx3)
  clear hx3 o1 s1 hN1 hn1 g1 e1
  go_wp2_with fail
  refine (codeAdded A B c d n m a b _ HN.out HM.out (HA.out.below HX3.out) (HB.out.below HX3.out) HRA.out HRB.out).mono ?_
  rintro e w4 ⟨v4, rfl, ho4, hx4⟩
  obtain ⟨M2, g2, o2, e2⟩ := ho4
  obtain ⟨A2, c2', rfl, k2, s2⟩ := o2.seen
  have hN2 := Own.nilOk o2
  obtain ⟨n2, hn2⟩ : ∃ z, M2.length = z := ⟨_, rfl⟩
  rw [hn2] at k2
  rw [hn2]
  have HN2 := Lib.hid hn2
  have HNO2 := Lib.hid hN2
  have HG2 := Lib.hid g2
  have HE2 := Lib.hid e2
  have HS2 := Lib.hid s2
  have HX4 := Lib.hid (bthen HX3.out hx4)
  have HX34 := Lib.hid hx4
  clear hx4 o2 s2 hN2 hn2 g2 e2
  go_wp2_with fail
  refine (codeMarked A B c d n m a b _ HN.out HM.out (HA.out.below HX4.out) (HB.out.below HX4.out) HRA.out HRB.out).mono ?_
  rintro e w5 ⟨v5, rfl, ho5, hx5⟩
  obtain ⟨M3, g3, o3, e3⟩ := ho5
  obtain ⟨A3, c3, rfl, k3, s3⟩ := o3.seen
  have hN3 := Own.nilOk o3
  obtain ⟨n3, hn3⟩ : ∃ z, M3.length = z := ⟨_, rfl⟩
  rw [hn3] at k3
  rw [hn3]
  have HX5 := Lib.hid (bthen HX4.out hx5)
  have HX35 := Lib.hid (bthen HX34.out hx5)
  have hsum : n1 + n2 + n3 ≤ 400 := by
    have h1 := HLEN.out
    have h2 := HG1.out
    have h3 := HG2.out
    have h4 := HN1.out
    have h5 := HN2.out
    unfold T.diffL at h1
    rw [List.length_append, List.length_append] at h1
    omega
  have hcall : Calls Try.prog 33 #[.slice (some ⟨w5.heap.size, 0, none⟩) 3 3] (w5.alloc (.cells #[.slice A1 n1 c1, .slice A2 n2 c2', .slice A3 n3 c3] 41)) (fun e w' => ∃ A9 c9, e = .returned (.slice A9 (T.diffL a b).length c9) ∧ SeenC eD w' A9 (T.diffL a b) ∧ (T.diffL a b).length ≤ c9 ∧ NilOk A9 c9 ∧ Below w.heap.size w w') := by
    obtain ⟨W, hW⟩ : ∃ W, w5.alloc (.cells #[.slice A1 n1 c1, .slice A2 n2 c2', .slice A3 n3 c3] 41) = W := ⟨_, rfl⟩
    have hxW : Below w5.heap.size w5 W := by rw [← hW]; exact up w5 _
    have hblk : W.heap[w5.heap.size]? = some (.cells #[.slice A1 n1 c1, .slice A2 n2 c2', .slice A3 n3 c3] 41) := by rw [← hW]; exact heap_alloc_new w5 _
    have hlt : w5.heap.size < W.heap.size := by rw [← hW]; simp
    rw [hW]
    have hs3 : sumC (fun k => match k with | 0 => n1 | 1 => n2 | _ => n3) 3 = n1 + n2 + n3 := by simp [sumC]
    have hc := concatC_any w5.heap.size (fun k => match k with | 0 => A1 | 1 => A2 | _ => A3) (fun k => match k with | 0 => n1 | 1 => n2 | _ => n3) (fun k => match k with | 0 => c1 | 1 => c2' | _ => c3) (fun k => match k with | 0 => M1 | 1 => M2 | _ => M3) W (by rw [hs3]; omega) hlt
      (fun k hk => by
        obtain rfl | rfl | rfl : k = 0 ∨ k = 1 ∨ k = 2 := by omega
        all_goals first | (simp [World.cell?, hblk]; done) | (simp [World.cell?, hblk]; rfl))
      (fun k hk => by
        obtain rfl | rfl | rfl : k = 0 ∨ k = 1 ∨ k = 2 := by omega
        · exact HN1.out
        · exact HN2.out
        · exact hn3)
      (fun k hk => by
        obtain rfl | rfl | rfl : k = 0 ∨ k = 1 ∨ k = 2 := by omega
        · exact (HS1.out.below HX35.out).below hxW
        · exact (HS2.out.below hx5).below hxW
        · exact s3.below hxW)
      (fun k hk => by
        obtain rfl | rfl | rfl : k = 0 ∨ k = 1 ∨ k = 2 := by omega
        · exact k1
        · exact k2
        · exact k3)
      (fun k hk => by
        obtain rfl | rfl | rfl : k = 0 ∨ k = 1 ∨ k = 2 := by omega
        · exact HNO1.out
        · exact HNO2.out
        · exact hN3)
    refine hc.mono ?_
    rintro e w' ⟨v, rfl, hown, hx⟩
    have hcat : catC (fun k => match k with | 0 => M1 | 1 => M2 | _ => M3) 3 = M1 ++ M2 ++ M3 := by simp [catC]
    rw [hcat] at hown
    obtain ⟨A9, c9, rfl, hk9, hs9⟩ := hown.seen
    have hl9 : (M1 ++ M2 ++ M3).length = (T.diffL a b).length := by unfold T.diffL; rw [List.length_append, List.length_append, List.length_append, List.length_append, HG1.out, HG2.out, g3]
    have hx5' : Below w5.heap.size w5 w' := bthen hxW hx
    rw [hl9] at hk9
    refine ⟨A9, c9, by rw [hl9], ⟨M1 ++ M2 ++ M3, hl9, hs9, ?_⟩, hk9, Own.nilOk hown, bthen HX5.out hx5'⟩
    exact chs_app (by rw [List.length_append, List.length_append, HG1.out, HG2.out]) g3 (chs_app HG1.out HG2.out (fun i h1 h2 => ((HE1.out i h1 h2).1.below HX35.out).below hx5') (fun i h1 h2 => ((HE2.out i h1 h2).1.below hx5).below hx5')) (fun i h1 h2 => (e3 i h1 h2).1.below hx5')
  clear hN3 hn3 g3 e3 o3 s3 hx5 hsum
  go_wp2_with fail
  refine hcall.mono ?_
  rintro e w6 ⟨A9, c9, rfl, hs9, hk9, hN9, hx9⟩
  have HS9 := Lib.hid hs9
  have HK9 := Lib.hid hk9
  have HN9 := Lib.hid hN9
  clear hcall hs9 hk9 hN9
  go_wp2
  go_ret2
  exact ⟨A9, c9, rfl, HS9.out, HK9.out, HN9.out, hx9⟩
set_option maxRecDepth 100000 in
set_option maxHeartbeats 1000000 in
theorem diff_bad (A B : Option Addr) (c d n m : Nat) (a b : List T.Ln) (w : World) (hA : TArg w A c n a) (hB : TArg w B d m b) (h : ¬ (T.RightT a ∧ T.RightT b)) :
    Calls Try.prog 19 #[.slice A n c, .slice B m d] w (OfS w [] 1) := by
  obtain ⟨rfl, hl, hc, hsA, hNA⟩ := hA
  obtain ⟨rfl, hl2, hc2, hsB, hNB⟩ := hB
  have HA := Lib.hid hsA
  have HB := Lib.hid hsB
  clear hsA hsB hNA hNB
  by_cases ha : T.RightT a
  · have hbad : ¬ T.RightT b := fun hb => h ⟨ha, hb⟩
    have HRA := Lib.hid ha
    have HRB := Lib.hid hbad
    clear h ha hbad
    go_enter Try.func19, Try.ntmps19
    go_wp2_with fail
    refine (right_is A c a true _ HA.out hl (yes_iff HRA.out)).mono ?_
    rintro e w1 ⟨rfl, hx1⟩
    go_wp2_with fail
    refine (right_is B d b false _ (HB.out.below hx1) hl2 (no_iff HRB.out)).mono ?_
    rintro e w2 ⟨rfl, hx2⟩
    go_wp2
    go_ret2
    exact ⟨none, 0, rfl, SeenC.nil, Nat.le_refl _, fun _ => rfl, bthen hx1 hx2⟩
  · have HRA := Lib.hid ha
    clear h ha
    go_enter Try.func19, Try.ntmps19
    go_wp2_with fail
    refine (right_is A c a false _ HA.out hl (no_iff HRA.out)).mono ?_
    rintro e w1 ⟨rfl, hx1⟩
    go_wp2
    go_ret2
    exact ⟨none, 0, rfl, SeenC.nil, Nat.le_refl _, fun _ => rfl, hx1⟩
end Go.Proofs.Ytfajfjocpgbmeaa
