/-
  Contracts of slices.Grow and slices.Concat at slices of changes (layer 8). Condition: at most 2^30 changes.
-/
import Derived.Test.YtgjnafnmdieniaaDoorDiffH
import Derived.Test.YtgjnafnmdieniaaDoorSlices
import Derived.Deep.LoopGhost
namespace Go.Proofs.YtgjnafnmdieniaaDoor
open Go.ChangeShapes Go.WideShapes Go.ChangeAt Go.RowKit
set_option linter.unusedVariables false

set_option maxRecDepth 100000 in
set_option maxHeartbeats 2000000 in
theorem growC_any (n : Nat) (w : World) (h0 : 0 < n) (hl : n ≤ 1073741824) :
    Calls Tryd.prog 43 #[.slice none 0 0, .int .i64 (n : Int)] w (OwnS eD w []) := by
  obtain ⟨i0, hi0, hz0, hz1, hz2⟩ := info_parts eD.hin
  have hz3 : i0.size = 3 := hz1
  have hz4 : i0.bytes = 40 := hz2
  have hz5 : i0.zero = some zeroCh := hz0
  have h1 : decide ((n : Int) < 0) = false := decide_eq_false (by omega)
  have h4 : decide ((0 : Int) < (n : Int)) = true := decide_eq_true (by omega)
  have h5 : decide (0 < n) = true := decide_eq_true h0
  have hold : (Builtin.firstCells i0.size 0 (.slice none 0 0)).run Tryd.prog w.drew = .ok (#[] : Array Value) w.drew := run_firstCells_none w.drew i0.size 0 0 0
  have hr := fun ty => Lib.run_append_grow_zeros (P := Tryd.prog) w 25 3 ty 41 i0 zeroCh .i64 .i64 Tryd.underlying25 Tryd.underlying3 hi0 hz5 none 0 0 [] hold n h0 (by omega) (by omega) (by omega) (by rw [hz4]; omega) (by rw [Nat.zero_add]; exact growslice_fits h0 (by rw [hz4]; omega))
  rw [Nat.zero_add] at hr
  obtain ⟨G, hG⟩ : ∃ G, grownCap w n 0 41 = G := ⟨_, rfl⟩
  have hGn : n ≤ G := by rw [← hG]; exact grownCap_ge w _ _ _
  have hGm : G ≤ maxLen := by rw [← hG]; exact grownCap_le_maxLen w n 0 _ (by unfold maxLen; omega)
  rw [hG] at hr
  obtain ⟨cs, hcs⟩ : ∃ cs, (([] : List Value).toArray ++ Builtin.zeroCells zeroCh.cells n ++ Builtin.zeroCells zeroCh.cells (G - n)) = cs := ⟨_, rfl⟩
  have hsz : cs.size = G * 3 := by
    rw [← hcs, Array.size_append, Array.size_append, size_zeroCells, size_zeroCells]
    show 0 + n * 3 + (G - n) * 3 = G * 3
    omega
  rw [hcs] at hr
  obtain ⟨W1, hW1⟩ : ∃ W1, w.drew.alloc (.cells cs 41) = W1 := ⟨_, rfl⟩
  rw [hW1] at hr
  have hB : Below w.heap.size w W1 := by rw [← hW1]; exact ((Below.refl w.heap.size w).drew).alloc (Nat.le_refl _) _
  have hO : Own eD W1 w.heap.size (.slice (some ⟨w.heap.size, 0, none⟩) 0 G) [] := by
    refine ⟨rfl, .inr ⟨w.heap.size, G, cs, rfl, Nat.le_refl _, ?_, Nat.zero_le _, hGm, hsz, ?_⟩⟩
    · rw [← hW1]; exact heap_alloc_new w.drew _
    · rfl
  have HR := Lib.hid hr
  have HO := Lib.hid hO
  have HB := Lib.hid hB
  clear hr hG hold hW1 hcs hO hB hsz hi0 hz0 hz1 hz2 hz3 hz4 hz5
  go_enter Tryd.func43, Tryd.ntmps43
  go_wp2_with (at_builtin; refine Lib.wpList_append_run _ rfl (.tmp 20) (.tmp 21) _ _ rfl _ _ rfl rfl _ _ (HR.out _) ?_)
  go_ret
  exact ⟨_, rfl, HO.out, HB.out⟩
set_option maxRecDepth 100000 in
theorem growC_zero (w : World) : Calls Tryd.prog 43 #[.slice none 0 0, .int .i64 0] w (OwnS eD w []) := by
  go_enter Tryd.func43, Tryd.ntmps43
  go_wp2
  go_ret
  exact ⟨_, rfl, Own.nil _ _, Below.refl _ _⟩
theorem growC_all (n : Nat) (w : World) (hl : n ≤ 1073741824) : Calls Tryd.prog 43 #[.slice none 0 0, .int .i64 (n : Int)] w (OwnS eD w []) := by
  rcases Nat.eq_zero_or_pos n with rfl | h
  · exact growC_zero w
  · exact growC_any n w h hl
/-- The first lists, one behind the other. -/
def catC (L : Nat → List ChM) : Nat → List ChM
  | 0 => []
  | k + 1 => catC L k ++ L k
def sumC (N : Nat → Nat) : Nat → Nat
  | 0 => 0
  | k + 1 => sumC N k + N k
theorem catC_len {L : Nat → List ChM} {N : Nat → Nat} (h : ∀ k, k < 3 → (L k).length = N k) : ∀ k, k ≤ 3 → (catC L k).length = sumC N k
  | 0, _ => rfl
  | k + 1, hk => by unfold catC sumC; rw [List.length_append, catC_len h k (by omega), h k (by omega)]
theorem sumC_mono (N : Nat → Nat) : ∀ (k j : Nat), k ≤ j → sumC N k ≤ sumC N j
  | k, 0, h => by obtain rfl : k = 0 := by omega
                  exact Nat.le_refl _
  | k, j + 1, h => by
    rcases Nat.eq_or_lt_of_le h with rfl | h1
    · exact Nat.le_refl _
    · have := sumC_mono N k j (by omega)
      show _ ≤ sumC N j + N j
      omega
set_option maxRecDepth 100000 in
set_option maxHeartbeats 2000000 in
theorem concatC_any (b : Nat) (ad : Nat → Option Addr) (N C : Nat → Nat) (L : Nat → List ChM) (w : World) (hs : sumC N 3 ≤ 1073741824) (hb : b < w.heap.size) (hc : ∀ k, k < 3 → w.cell? ⟨b, k, none⟩ = some (.slice (ad k) (N k) (C k))) (hN : ∀ k, k < 3 → (L k).length = N k) (hL : ∀ k, k < 3 → Seen eD w (ad k) (L k)) (hCC : ∀ k, k < 3 → N k ≤ C k) (hNL : ∀ k, k < 3 → NilOk (ad k) (C k)) :
    Calls Tryd.prog 24 #[.slice (some ⟨b, 0, none⟩) 3 3] w (OwnS eD w (catC L 3)) := by
  have HS := Lib.hid hs
  have HC := Lib.hid hc
  have HN := Lib.hid hN
  have HL := Lib.hid hL
  obtain ⟨s4, hs4⟩ : ∃ s, sumC N 3 = s := ⟨_, rfl⟩
  have HS4 := Lib.hid hs4
  have HCC := Lib.hid hCC
  have HNL := Lib.hid hNL
  clear hs hc hN hL hs4 hCC hNL
  go_enter Tryd.func24, Tryd.ntmps24
  go_wp2
  go_loopg [3, 11] 3 (fun gk x y wr => ∃ k s : Nat, Hid (k + gk = 3) ∧ k ≤ 3 ∧ Hid (sumC N k = s) ∧ x = .int .i64 (s : Int) ∧ y = .int .i64 (k : Int) ∧ w = wr)
  case atStart => exact ⟨0, 0, Nat.zero_add _, Nat.zero_le _, rfl, rfl, rfl, rfl⟩
  case round =>
    obtain ⟨k, s, HG, hk, HK, rfl, rfl, rfl⟩ := hrel
    by_cases hlt : k < 3
    · have blt : decide ((k : Int) < 3) = true := decide_eq_true (by omega)
      have blt2 : decide (k < 3) = true := decide_eq_true hlt
      obtain ⟨nk, hnk⟩ : ∃ nk, N k = nk := ⟨_, rfl⟩
      have c0 := HC.out k hlt
      rw [hnk] at c0
      have hki : (k : Int) < 3 := by omega
      have hsum : sumC N (k + 1) = s + nk := by show sumC N k + N k = _; rw [HK.out, hnk]
      have hle := sumC_mono N (k + 1) 3 (by omega)
      have hs4 := HS.out
      have hsn : s + nk ≤ 1073741824 := by omega
      have hneg : decide ((s : Int) + (nk : Int) < 0) = false := decide_eq_false (by omega)
      have HSM := Lib.hid hsum
      clear hsum hle hs4 hnk
      go_wp2
      have hgk := HG.out
      go_roundg (3 - (k + 1))
      case rel => exact ⟨k + 1, s + nk, (by show _ = _; omega), by omega, HSM, by go_num, by go_num, rfl⟩
      case measure => omega
    · have blt : decide ((k : Int) < 3) = false := decide_eq_false (by omega)
      have blt2 : decide (k < 3) = false := decide_eq_false hlt
      obtain rfl : k = 3 := by omega
      have hss : s = s4 := HK.out.symm.trans HS4.out
      subst hss
      have h4 := HS4.out
      have hs0 := HS.out
      rw [h4] at hs0
      clear h4
      go_wp2_with fail
      refine (growC_all s w hs0).mono ?_
      rintro e w1 ⟨v1, rfl, hown1, hx1⟩
      have HO1 := Lib.hid hown1
      have HX1 := Lib.hid hx1
      clear hown1 hx1 hs0
      go_wp2
      go_loopg [6, 27] 3 (fun gk x y wr => ∃ k : Nat, Hid (k + gk = 3) ∧ k ≤ 3 ∧ Own eD wr w.heap.size x (catC L k) ∧ y = .int .i64 (k : Int) ∧ Below w.heap.size w wr)
      case atStart => exact ⟨0, Nat.zero_add _, Nat.zero_le _, HO1.out, rfl, HX1.out⟩
      case round =>
        obtain ⟨k, HG, hk, hown, rfl, hbr⟩ := hrel
        have hsz := hbr.size
        by_cases hlt : k < 3
        · have blt : decide ((k : Int) < 3) = true := decide_eq_true (by omega)
          have blt2 : decide (k < 3) = true := decide_eq_true hlt
          obtain ⟨nk, hnk⟩ : ∃ nk, N k = nk := ⟨_, rfl⟩
          have c0 := (hbr.cell (p := ⟨b, k, none⟩) hb).trans (HC.out k hlt)
          rw [hnk] at c0
          have hki : (k : Int) < 3 := by omega
          have HNK := Lib.hid ((HN.out k hlt).trans hnk)
          have HLK := Lib.hid ((HL.out k hlt).below hbr)
          have hcl := catC_len HN.out k hk
          have hle := sumC_mono N (k + 1) 3 (by omega)
          have hle2 : (catC L k).length + nk ≤ 1099511627776 := by
            have e : sumC N (k + 1) = sumC N k + N k := rfl
            have := HS.out
            rw [hcl]
            omega
          have HO := Lib.hid hown
          have HB := Lib.hid hbr
          have HCK := Lib.hid (show nk ≤ C k by rw [← hnk]; exact HCC.out k hlt)
          clear hown hcl hle hnk
          go_wp2_with (at_builtin; refine wpList_appAny eD wr rfl (.tmp 31) (.tmp 32) rfl w.heap.size _ (catC L k) rfl HO.out (ad k) (L k) nk (C k) HNK.out rfl HCK.out (HNL.out k hlt) HLK.out hle2 hsz ?_; intro v3 w3 hown3 hb3)
          have hgk := HG.out
          go_roundg (3 - (k + 1))
          case rel => exact ⟨k + 1, (by show _ = _; omega), by omega, hown3, by go_num, HB.out.trans hb3⟩
          case measure => omega
        · have blt : decide ((k : Int) < 3) = false := decide_eq_false (by omega)
          have blt2 : decide (k < 3) = false := decide_eq_false hlt
          obtain rfl : k = 3 := by omega
          go_wp2
          go_ret
          exact ⟨_, rfl, hown, hbr⟩

end Go.Proofs.YtgjnafnmdieniaaDoor
