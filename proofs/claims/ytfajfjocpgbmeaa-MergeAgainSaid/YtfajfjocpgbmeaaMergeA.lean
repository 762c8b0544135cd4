/-
  What layer 9's statements need of merge.Of, as one premise (MergeOk); few and same of the statements' package; the fixed answer 'awake'. Condition: at most 2^30 lines.
  merge.Of with its answer as variables (layer 9's statements). Condition: at most 200 lines each.
  The fixed answer 'awake' of layer 9's statements, from what merge.Of does. No conditions.
-/
import Derived.Test.YtfajfjocpgbmeaaDiffF
import Derived.Test.YtfajfjocpgbmeaaLinesP
import Derived.Test.YtfajfjocpgbmeaaPureK
import Derived.Deep.RegionHeld3

namespace Go.Proofs.Ytfajfjocpgbmeaa
open Go.RowKit
set_option linter.unusedVariables false

/-- Lines, paths and an error's number. -/
def MergeS (w : World) (u : List T.Ln) (l : List T.Pth) (er : Int) (e : Ending) (w' : World) : Prop := ∃ A c B d, e = .returned (.tuple #[.slice A u.length c, .slice B l.length d, .int .i64 er]) ∧ Seen eL w' A u ∧ u.length ≤ c ∧ NilOk A c ∧ SeenP w' B l ∧ l.length ≤ d ∧ Below w.heap.size w w'
/-- What merge.Of does. -/
def MergeOk : Prop := ∀ (A B C : Option Addr) (c d f n m k : Nat) (b s t u : List T.Ln) (l : List T.Pth) (er : Int) (w : World), TArg w A c n b → TArg w B d m s → TArg w C f k t → n ≤ 200 → m ≤ 200 → k ≤ 200 → T.MergeIs b s t u l er →
  Calls Try.prog 11 #[.slice A n c, .slice B m d, .slice C k f] w (MergeS w u l er)
theorem leq30 (n : Nat) : decide ((n : Int) ≤ 30) = decide (n ≤ 30) := decide_eq_decide.2 (by omega)
set_option maxRecDepth 100000 in
set_option maxHeartbeats 4000000 in
theorem few_any (A B C : Option Addr) (c d f n m k : Nat) (b s t : List T.Ln) (w : World) (hn : b.length = n) (hm : s.length = m) (hk : t.length = k) (hA : Seen eL w A b) (hB : Seen eL w B s) (hC : Seen eL w C t) :
    Calls Try.prog 9 #[.slice A n c, .slice B m d, .slice C k f] w (fun e w' => ∃ r : Bool, e = .returned (.bool r) ∧ (r = true → n ≤ 30 ∧ m ≤ 30 ∧ k ≤ 30) ∧ Below w.heap.size w w') := by
  have HA := Lib.hid hA
  have HB := Lib.hid hB
  have HC := Lib.hid hC
  have HN := Lib.hid hn
  have HM := Lib.hid hm
  have HK := Lib.hid hk
  clear hA hB hC hn hm hk
  have hb : Below w.heap.size w w := Below.refl _ _
  by_cases h1 : n ≤ 30
  · have e1 : decide ((n : Int) ≤ 30) = true := decide_eq_true (by omega)
    have e1b : decide (n ≤ 30) = true := decide_eq_true h1
    by_cases h2 : m ≤ 30
    · have e2 : decide ((m : Int) ≤ 30) = true := decide_eq_true (by omega)
      have e2b : decide (m ≤ 30) = true := decide_eq_true h2
      by_cases h3 : k ≤ 30
      · have e3 : decide ((k : Int) ≤ 30) = true := decide_eq_true (by omega)
        have e3b : decide (k ≤ 30) = true := decide_eq_true h3
        go_enter Try.func9, Try.ntmps9
        go_wp2_with fail
        refine (smallQ A c n b _ HN.out HA.out).mono ?_
        rintro e w1 ⟨bs, rfl, _, hx⟩
        replace HB := Lib.hid (HB.out.below hx)
        replace HC := Lib.hid (HC.out.below hx)
        replace hb := bthen hb hx
        clear hx
        cases bs with
        | false =>
          go_wp2
          go_ret
          exact ⟨false, rfl, (fun h => by cases h), hb⟩
        | true =>
          go_wp2_with fail
          refine (smallQ B d m s _ HM.out HB.out).mono ?_
          rintro e w2 ⟨bs, rfl, _, hx⟩
          replace HC := Lib.hid (HC.out.below hx)
          replace hb := bthen hb hx
          clear hx
          cases bs with
          | false =>
            go_wp2
            go_ret
            exact ⟨false, rfl, (fun h => by cases h), hb⟩
          | true =>
            go_wp2_with fail
            refine (smallQ C f k t _ HK.out HC.out).mono ?_
            rintro e w3 ⟨bs, rfl, _, hx⟩
            replace hb := bthen hb hx
            clear hx
            cases bs with
            | false =>
              go_wp2
              go_ret
              exact ⟨false, rfl, (fun h => by cases h), hb⟩
            | true =>
              go_wp2
              go_ret
              exact ⟨true, rfl, (fun _ => ⟨h1, h2, h3⟩), hb⟩
      · have e3 : decide ((k : Int) ≤ 30) = false := decide_eq_false (by omega)
        have e3b : decide (k ≤ 30) = false := decide_eq_false h3
        go_enter Try.func9, Try.ntmps9
        go_wp2
        go_ret
        exact ⟨false, rfl, (fun h => by cases h), hb⟩
    · have e2 : decide ((m : Int) ≤ 30) = false := decide_eq_false (by omega)
      have e2b : decide (m ≤ 30) = false := decide_eq_false h2
      go_enter Try.func9, Try.ntmps9
      go_wp2
      go_ret
      exact ⟨false, rfl, (fun h => by cases h), hb⟩
  · have e1 : decide ((n : Int) ≤ 30) = false := decide_eq_false (by omega)
    have e1b : decide (n ≤ 30) = false := decide_eq_false h1
    go_enter Try.func9, Try.ntmps9
    go_wp2
    go_ret
    exact ⟨false, rfl, (fun h => by cases h), hb⟩
set_option maxRecDepth 100000 in
set_option maxHeartbeats 4000000 in
theorem sameP_yes (A B : Option Addr) (c d n : Nat) (L : List T.Pth) (w : World) (hn : L.length = n) (hl : n ≤ 1000000) (hp : ∀ x ∈ L, x.length ≤ 1073741824) (hA : SeenP w A L) (hB : SeenP w B L) :
    Calls Try.prog 14 #[.slice A n c, .slice B n d] w (TrueS w) := by
  have HA := Lib.hid hA
  have HB := Lib.hid hB
  have HN := Lib.hid hn
  have HP := Lib.hid hp
  clear hA hB hn hp
  go_enter Try.func14, Try.ntmps14
  go_wp2
  go_loopg [13] n (fun gk vi wr => ∃ k : Nat, Hid (k + gk = n) ∧ k ≤ n ∧ vi = .int .i64 (k : Int) ∧ Below w.heap.size w wr)
  case atStart => exact ⟨0, Nat.zero_add _, Nat.zero_le _, rfl, Below.refl _ _⟩
  case round =>
    obtain ⟨k, HG, hk, rfl, hb⟩ := hrel
    by_cases hlt : k < n
    · have blt : decide ((k : Int) < (n : Int)) = true := decide_eq_true (by omega)
      have blt2 : decide (k < n) = true := decide_eq_true hlt
      have hkL : k < L.length := by have := HN.out; omega
      obtain ⟨b, o, rfl, hbw, hat⟩ := HA.out (by omega)
      obtain ⟨b2, o2, rfl, hbw2, hat2⟩ := HB.out (by omega)
      obtain ⟨B1, c1, x1, hc1, hs1⟩ := hat k hkL
      obtain ⟨B2, c2, x2, hc2, hs2⟩ := hat2 k hkL
      have HQ := Lib.hid (HP.out L[k] (List.getElem_mem hkL))
      obtain ⟨P, hP⟩ : ∃ P, L[k] = P := ⟨_, rfl⟩
      rw [hP] at x1 x2 hc1 hc2 hs1 hs2 HQ
      obtain ⟨np, hnp⟩ : ∃ np, P.length = np := ⟨_, rfl⟩
      rw [hnp] at x1 x2 hc1 hc2
      have HNP := Lib.hid hnp
      have hnp30 : np ≤ 1073741824 := by rw [← hnp]; exact HQ.out
      have HKP := Lib.hid (fun w' (h : Below w.heap.size w w') => show w'.cell? ⟨b, o + k, none⟩ = some (.slice B1 np c1) ∧ w'.cell? ⟨b2, o2 + k, none⟩ = some (.slice B2 np c2) from
        ⟨(h.cell (p := ⟨b, _, none⟩) hbw).trans x1, (h.cell (p := ⟨b2, _, none⟩) hbw2).trans x2⟩)
      have HS1 := Lib.hid hs1
      have HS2 := Lib.hid hs2
      have HEQ := Lib.hid (fun w' (h : Below w.heap.size w w') => equal_yes B1 B2 c1 c2 P P np np w' rfl HNP.out HNP.out hnp30 (HS1.out.below h) (HS2.out.below h))
      have hbd : Below w.heap.size w wr.drew := hb.drew
      have hki : (k : Int) < (n : Int) := by omega
      have hgk := HG.out
      clear hP hnp hat hat2 x1 x2 hs1 hs2 hc1 hc2
      go_wp2
      go_region_held3 (fun w' => Below w.heap.size w w' ∧ w'.cell? ⟨b, o + k, none⟩ = some (.slice B1 np c1) ∧ w'.cell? ⟨b2, o2 + k, none⟩ = some (.slice B2 np c2)) (first | ((refine ⟨?_, HKP.out _ ?_⟩) <;> (first | assumption | (refine Below.drew ?_; assumption))) | go_keep) (first | (go_at_call 22; refine (HEQ.out _ (by assumption)).mono ?_; rintro e w' ⟨rfl, hx⟩; have hbx := bthen (show Below w.heap.size w _ by assumption) hx))
      all_goals go_wp2
      all_goals
        go_roundg (n - (k + 1))
        case rel => exact ⟨k + 1, (by show _ = _; omega), by omega, by go_num, hbx⟩
        case measure => omega
    · have blt : decide ((k : Int) < (n : Int)) = false := decide_eq_false (by omega)
      have blt2 : decide (k < n) = false := decide_eq_false hlt
      go_wp2
      go_ret
      exact ⟨rfl, hb⟩
end Go.Proofs.Ytfajfjocpgbmeaa

namespace Go.Proofs.Ytfajfjocpgbmeaa
open Go.RowKit
set_option linter.unusedVariables false

theorem merge_len {b m t u : List T.Ln} {l : List T.Pth} {er : Int} (h : T.MergeIs b m t u l er) : u.length ≤ 200 := by
  by_cases h0 : er = 0
  · subst h0; exact h.right.len
  · rw [h.err h0]; exact Nat.zero_le _
theorem merge_q (E : MergeOk) (A B C : Option Addr) (c d f n m k nu nl : Nat) (b s t u : List T.Ln) (l : List T.Pth) (er : Int) (w : World) (hA : TArg w A c n b) (hB : TArg w B d m s) (hC : TArg w C f k t) (h1 : n ≤ 200) (h2 : m ≤ 200) (h3 : k ≤ 200) (h : T.MergeIs b s t u l er) (hu : u.length = nu) (hl : l.length = nl) :
    Calls Try.prog 11 #[.slice A n c, .slice B m d, .slice C k f] w (fun e w' => ∃ A1 c1 B1 d1, e = .returned (.tuple #[.slice A1 nu c1, .slice B1 nl d1, .int .i64 er]) ∧ TArg w' A1 c1 nu u ∧ SeenP w' B1 l ∧ Below w.heap.size w w') := by
  refine (E A B C c d f n m k b s t u l er w hA hB hC h1 h2 h3 h).mono ?_
  rintro e w' ⟨A1, c1, B1, d1, rfl, hs, hc, hN, hp, hd, hx⟩
  have := merge_len h
  rw [hu] at hc this ⊢
  rw [hl]
  exact ⟨A1, c1, B1, d1, rfl, ⟨hu, by omega, hc, hs, hN⟩, hp, hx⟩
theorem conf_short {b m t u : List T.Ln} {l : List T.Pth} {er : Int} (h : T.MergeIs b m t u l er) (hb : b.length ≤ 30) (hm : m.length ≤ 30) (ht : t.length ≤ 30) : l.length ≤ 90 ∧ ∀ x ∈ l, x.length ≤ 16 := by
  rcases h with ⟨_, _, rfl, _⟩ | ⟨⟨hR1, hR2, hR3⟩, ⟨_, _, rfl, _⟩ | ⟨_, _, _, rfl, _⟩ | ⟨_, _, _, rfl, _⟩⟩
  · exact ⟨by simp, fun x hx => by simp at hx⟩
  · refine ⟨?_, fun x hx => ?_⟩
    · have h1 := List.length_filter_le (T.badB b m t) (T.allP b m t)
      have h2 := T.all_len b m t
      unfold T.confL
      omega
    · have hx2 := (List.mem_filter.1 hx).1
      rcases T.mem_all.1 hx2 with h | h | h
      · obtain ⟨s, hs⟩ := T.isIn_entries.1 h; exact hR1.good.deep _ hs
      · obtain ⟨s, hs⟩ := T.isIn_entries.1 h; exact hR2.good.deep _ hs
      · obtain ⟨s, hs⟩ := T.isIn_entries.1 h; exact hR3.good.deep _ hs
  · exact ⟨by simp, fun x hx => by simp at hx⟩
  · exact ⟨by simp, fun x hx => by simp at hx⟩
end Go.Proofs.Ytfajfjocpgbmeaa

namespace Go.Proofs.Ytfajfjocpgbmeaa
open Go.RowKit
set_option linter.unusedVariables false

def aw9A : List T.Ln := [⟨0, [97], 0⟩]
def aw9B : List T.Ln := [⟨0, [97], 0⟩, ⟨1, [98], 0⟩]
def aw9C : List T.Ln := [⟨0, [97], 1⟩]
def aw9U : List T.Ln := [⟨0, [97], 1⟩, ⟨1, [98], 0⟩]
theorem aw9_rightA : T.RightT aw9A := by
  have h1 : ∀ k, k < 1 → (0 ≤ T.dp aw9A k ∧ T.dp aw9A k ≤ 15) ∧ (T.wd aw9A k).length ≤ 40 ∧ 0 ≤ (T.at_ aw9A k).mark ∧ (T.at_ aw9A k).mark ≤ 3 := by decide +kernel
  exact ⟨by decide, fun i hi => (h1 i hi).1, fun i hi => (h1 i hi).2.1, fun i hi => (h1 i hi).2.2, fun _ => by decide +kernel, fun i hi => (by have : i + 1 < 1 := hi; omega), fun i k h4 h5 h6 h7 => (by have : k < 1 := h5; omega)⟩
theorem aw9_rightC : T.RightT aw9C := by
  have h1 : ∀ k, k < 1 → (0 ≤ T.dp aw9C k ∧ T.dp aw9C k ≤ 15) ∧ (T.wd aw9C k).length ≤ 40 ∧ 0 ≤ (T.at_ aw9C k).mark ∧ (T.at_ aw9C k).mark ≤ 3 := by decide +kernel
  exact ⟨by decide, fun i hi => (h1 i hi).1, fun i hi => (h1 i hi).2.1, fun i hi => (h1 i hi).2.2, fun _ => by decide +kernel, fun i hi => (by have : i + 1 < 1 := hi; omega), fun i k h4 h5 h6 h7 => (by have : k < 1 := h5; omega)⟩
theorem aw9_rightB : T.RightT aw9B := by
  have h1 : ∀ k, k < 2 → (0 ≤ T.dp aw9B k ∧ T.dp aw9B k ≤ 15) ∧ (T.wd aw9B k).length ≤ 40 ∧ 0 ≤ (T.at_ aw9B k).mark ∧ (T.at_ aw9B k).mark ≤ 3 := by decide +kernel
  have h2 : ∀ k, k < 1 → T.dp aw9B (k + 1) ≤ T.dp aw9B k + 1 := by decide +kernel
  have h3 : ∀ k, k < 2 → ∀ i, i < k → T.dp aw9B k = T.dp aw9B i → (∀ j, j < k → i < j → T.dp aw9B i ≤ T.dp aw9B j) → Op.bytesLess (T.wd aw9B i) (T.wd aw9B k) = true := by decide +kernel
  exact ⟨by decide, fun i hi => (h1 i hi).1, fun i hi => (h1 i hi).2.1, fun i hi => (h1 i hi).2.2, fun _ => by decide +kernel, fun i hi => h2 i (by have : i + 1 < 2 := hi; omega), fun i k h4 h5 h6 h7 => h3 k h5 i h4 h6 (fun j h8 h9 => h7 j h9 h8)⟩
theorem aw9_nil : T.RightT [] := ⟨by decide, fun i h => absurd h (Nat.not_lt_zero i), fun i h => absurd h (Nat.not_lt_zero i), fun i h => absurd h (Nat.not_lt_zero i), fun h => absurd h (Nat.lt_irrefl 0), fun i h => absurd h (Nat.not_lt_zero _), fun i k _ h => absurd h (Nat.not_lt_zero k)⟩
theorem aw9_one : T.MergeIs aw9A aw9B aw9C aw9U [] 0 := .inr ⟨⟨aw9_rightA, aw9_rightB, aw9_rightC⟩, .inr (.inr ⟨by decide +kernel, by decide +kernel, by kernel_rfl, rfl, rfl⟩)⟩
theorem aw9_two : T.MergeIs aw9A aw9B [] [] [[[97], [98]]] 8 := .inr ⟨⟨aw9_rightA, aw9_rightB, aw9_nil⟩, .inl ⟨by decide +kernel, rfl, by decide +kernel, rfl⟩⟩
set_option maxRecDepth 100000 in
set_option maxHeartbeats 4000000 in
theorem awake_of9 (E : MergeOk) (w : World) : Calls Try.prog 10 #[] w (TrueS w) := by
  have hA : ∀ w, Seen eL (World.alloc w (.cells #[.int .i64 0, .string ⟨#[97]⟩, .int .i64 0] 35)) (some ⟨w.heap.size, 0, none⟩) aw9A := fun w => lit_seen eL w aw9A _ rfl (by decide)
  have hB : ∀ w, Seen eL (World.alloc w (.cells #[.int .i64 0, .string ⟨#[97]⟩, .int .i64 0, .int .i64 1, .string ⟨#[98]⟩, .int .i64 0] 35)) (some ⟨w.heap.size, 0, none⟩) aw9B := fun w => lit_seen eL w aw9B _ rfl (by decide)
  have hC : ∀ w, Seen eL (World.alloc w (.cells #[.int .i64 0, .string ⟨#[97]⟩, .int .i64 1] 35)) (some ⟨w.heap.size, 0, none⟩) aw9C := fun w => lit_seen eL w aw9C _ rfl (by decide)
  have s1 : (w.alloc (.cells #[.int .i64 0, .string ⟨#[97]⟩, .int .i64 0] 35)).heap.size = w.heap.size + 1 := by simp
  have s2 : ((w.alloc (.cells #[.int .i64 0, .string ⟨#[97]⟩, .int .i64 0] 35)).alloc (.cells #[.int .i64 0, .string ⟨#[97]⟩, .int .i64 0, .int .i64 1, .string ⟨#[98]⟩, .int .i64 0] 35)).heap.size = w.heap.size + 1 + 1 := by simp
  have g1 := hA w
  have g2 := hB (w.alloc (.cells #[.int .i64 0, .string ⟨#[97]⟩, .int .i64 0] 35))
  rw [s1] at g2
  have g3 := hC ((w.alloc (.cells #[.int .i64 0, .string ⟨#[97]⟩, .int .i64 0] 35)).alloc (.cells #[.int .i64 0, .string ⟨#[97]⟩, .int .i64 0, .int .i64 1, .string ⟨#[98]⟩, .int .i64 0] 35))
  rw [s2] at g3
  have HA := Lib.hid ((g1.below (up _ (.cells #[.int .i64 0, .string ⟨#[97]⟩, .int .i64 0, .int .i64 1, .string ⟨#[98]⟩, .int .i64 0] 35))).below (up _ (.cells #[.int .i64 0, .string ⟨#[97]⟩, .int .i64 1] 35)))
  have HB := Lib.hid (g2.below (up _ (.cells #[.int .i64 0, .string ⟨#[97]⟩, .int .i64 1] 35)))
  have HC := Lib.hid g3
  have hb := bthen (bthen (up w (.cells #[.int .i64 0, .string ⟨#[97]⟩, .int .i64 0] 35)) (up _ (.cells #[.int .i64 0, .string ⟨#[97]⟩, .int .i64 0, .int .i64 1, .string ⟨#[98]⟩, .int .i64 0] 35))) (up _ (.cells #[.int .i64 0, .string ⟨#[97]⟩, .int .i64 1] 35))
  clear hA hB hC s1 s2 g1 g2 g3
  go_enter Try.func10, Try.ntmps10
  go_wp2_with fail
  refine (merge_q E _ _ _ 1 2 1 1 2 1 2 0 aw9A aw9B aw9C aw9U [] 0 _ ⟨rfl, by omega, by omega, HA.out, by intro h; cases h⟩ ⟨rfl, by omega, by omega, HB.out, by intro h; cases h⟩ ⟨rfl, by omega, by omega, HC.out, by intro h; cases h⟩ (by omega) (by omega) (by omega) aw9_one rfl rfl).mono ?_
  rintro e w1 ⟨A1, c1, B1, d1, rfl, hs1, _, hx⟩
  replace HA := Lib.hid (HA.out.below hx)
  replace HB := Lib.hid (HB.out.below hx)
  have HU := Lib.hid hs1
  replace hb := bthen hb hx
  clear hx hs1 HC
  go_wp2_with fail
  refine (merge_q E _ _ none 1 2 0 1 2 0 0 1 aw9A aw9B [] [] [[[97], [98]]] 8 _ ⟨rfl, by omega, by omega, HA.out, by intro h; cases h⟩ ⟨rfl, by omega, by omega, HB.out, by intro h; cases h⟩ ⟨rfl, by omega, by omega, Seen.nil, fun _ => rfl⟩ (by omega) (by omega) (by omega) aw9_two rfl rfl).mono ?_
  rintro e w2 ⟨A2, c2, B2, d2, rfl, _, hp2, hx⟩
  replace HU := Lib.hid (HU.out.below hx)
  replace hb := bthen hb hx
  clear hx
  obtain ⟨b1, o1, rfl, hb1, hH1⟩ := HU.out.hA (by decide)
  obtain ⟨b2, o2, rfl, hb2, hat⟩ := hp2 (by decide)
  obtain ⟨B3, c3, x0, hc3, hs3⟩ := hat 0 (by decide)
  have k0 : w2.cell? ⟨b1, o1 + 2, none⟩ = some (.int .i64 1) := (hH1.line (i := 0) (by decide)).2.2
  have k1 : w2.cell? ⟨b1, o1 + 3 + 1, none⟩ = some (.string ⟨#[98]⟩) := (hH1.line (i := 1) (by decide)).2.1
  have k2 : w2.cell? ⟨b1, o1 + 4, none⟩ = some (.string ⟨#[98]⟩) := k1
  have k3 : w2.cell? ⟨b2, o2, none⟩ = some (.slice B3 2 c3) := x0
  have HP := Lib.hid hs3
  clear hH1 hat x0 hp2 hs3 HU hc3
  go_wp2_with fail
  refine (equal_yes B3 _ c3 2 [[97], [98]] [[97], [98]] 2 2 _ rfl rfl rfl (by omega) (HP.out.below (up _ _)) (aw_s2 _ 97 98)).mono ?_
  rintro e w3 ⟨rfl, hx⟩
  replace hb := bthen (bthen hb (up _ _)) hx
  clear hx
  go_wp2
  go_ret
  exact ⟨rfl, hb⟩
end Go.Proofs.Ytfajfjocpgbmeaa
