/-
  Layer 12: what groups does, as one premise (GroupsOk); few, brief and same of the statements' package; the fixed answer 'awake'. Condition: at most 200 lines.
-/
import Derived.Test.YtkifapbiimlafaaGroupU
import Derived.Deep.RegionHeld3
namespace Go.Proofs.Ytkifapbiimlafaa
open Go.RowKit
set_option linter.unusedVariables false

/-- Lines that are handed over. -/
structure LArg (w : World) (A : Option Addr) (c n : Nat) (t : List T.Ln) : Prop where
  len : t.length = n
  most : n ≤ 200
  cap : n ≤ c
  nil : NilOk A c
  seen : Seen eL w A t
theorem LArg.below {w w1 : World} {A : Option Addr} {c n : Nat} {t : List T.Ln} (h : LArg w A c n t) (hb : Below w.heap.size w w1) : LArg w1 A c n t := ⟨h.len, h.most, h.cap, h.nil, h.seen.below hb⟩
theorem LArg.small {w : World} {A : Option Addr} {c n : Nat} {t : List T.Ln} (h : LArg w A c n t) : n ≤ 1073741824 := by have := h.most; omega
/-- Lines, and an error, made by a call. -/
def MadeE (w : World) (m : Nat) (u : List T.Ln) (er : Int) (e : Ending) (w' : World) : Prop := ∃ B d, e = .returned (.tuple #[.slice B m d, .int .i64 er]) ∧ LArg w' B d m u ∧ Below w.heap.size w w'
def ActiveIs (t u : List T.Ln) (er : Int) : Prop := (T.RightT t ∧ u = T.actL t ∧ er = 0) ∨ (¬ T.RightT t ∧ u = [] ∧ er = 1)
def ExplicitIs (t u : List T.Ln) (er : Int) : Prop := (T.RightT t ∧ u = T.expL t ∧ er = 0) ∨ (¬ T.RightT t ∧ u = [] ∧ er = 1)
def ExpandIs (t u : List T.Ln) (er : Int) : Prop := (T.RightT t ∧ T.expandL t = (u, er)) ∨ (¬ T.RightT t ∧ u = [] ∧ er = 1)
def PathsAre (t : List T.Ln) (g : List UInt8) (L : List T.Pth) (er : Int) : Prop := (T.RightT t ∧ PathsIs t g L er) ∨ (¬ T.RightT t ∧ L = [] ∧ er = 1)
/-- What groups does: for lines of at most 200, and any word of at most 100 bytes. -/
structure GroupsOk : Prop where
  activeOf : ∀ (A : Option Addr) (c n m : Nat) (t u : List T.Ln) (er : Int) (w : World), LArg w A c n t → ActiveIs t u er → u.length = m → Calls Try.prog 12 #[.slice A n c] w (MadeE w m u er)
  explicitOf : ∀ (A : Option Addr) (c n m : Nat) (t u : List T.Ln) (er : Int) (w : World), LArg w A c n t → ExplicitIs t u er → u.length = m → Calls Try.prog 13 #[.slice A n c] w (MadeE w m u er)
  expandOf : ∀ (A : Option Addr) (c n m : Nat) (t u : List T.Ln) (er : Int) (w : World), LArg w A c n t → ExpandIs t u er → u.length = m → Calls Try.prog 18 #[.slice A n c] w (MadeE w m u er)
  pathsOf : ∀ (A : Option Addr) (c n m : Nat) (t : List T.Ln) (g : List UInt8) (L : List T.Pth) (er : Int) (w : World), LArg w A c n t → g.length ≤ 100 → PathsAre t g L er → L.length = m → Calls Try.prog 19 #[.slice A n c, .string (sB g)] w (fun e w' => ∃ B d, e = .returned (.tuple #[.slice B m d, .int .i64 er]) ∧ ManyQ w' w.heap.size (.slice B m d) L ∧ Below w.heap.size w w')
theorem active_len {t u : List T.Ln} {er : Int} (h : ActiveIs t u er) : u.length ≤ 200 := by
  rcases h with ⟨h, rfl, _⟩ | ⟨_, rfl, _⟩
  · exact (T.act_right h).len
  · exact Nat.zero_le _
theorem explicit_len {t u : List T.Ln} {er : Int} (h : ExplicitIs t u er) : u.length ≤ 200 := by
  rcases h with ⟨h, rfl, _⟩ | ⟨_, rfl, _⟩
  · exact (T.exp_right h).len
  · exact Nat.zero_le _
theorem expand_len {t u : List T.Ln} {er : Int} (h : ExpandIs t u er) : u.length ≤ 200 := by
  rcases h with ⟨h, e⟩ | ⟨_, rfl, _⟩
  · rcases T.expand_cases h with ⟨e2, _⟩ | ⟨e2, _⟩ | ⟨v, e2, _, k⟩
    · rw [e2] at e; cases e; exact Nat.zero_le _
    · rw [e2] at e; cases e; exact Nat.zero_le _
    · rw [e2] at e; cases e; exact k.right.len
  · exact Nat.zero_le _
theorem pathsAre_len {t : List T.Ln} {g : List UInt8} {L : List T.Pth} {er : Int} (h : PathsAre t g L er) : L.length ≤ 40200 ∧ ∀ p ∈ L, T.FitP p := by
  rcases h with ⟨h, ⟨_, rfl, _⟩ | ⟨_, rfl, _⟩⟩ | ⟨_, rfl, _⟩
  · exact ⟨T.paths_len h g, fun p hp => T.paths_fit h hp⟩
  · exact ⟨Nat.zero_le _, fun p hp => by cases hp⟩
  · exact ⟨Nat.zero_le _, fun p hp => by cases hp⟩
theorem active_ex (t : List T.Ln) : ∃ u er, ActiveIs t u er := by
  by_cases h : T.RightT t
  · exact ⟨_, _, .inl ⟨h, rfl, rfl⟩⟩
  · exact ⟨_, _, .inr ⟨h, rfl, rfl⟩⟩
theorem explicit_ex (t : List T.Ln) : ∃ u er, ExplicitIs t u er := by
  by_cases h : T.RightT t
  · exact ⟨_, _, .inl ⟨h, rfl, rfl⟩⟩
  · exact ⟨_, _, .inr ⟨h, rfl, rfl⟩⟩
theorem expand_ex (t : List T.Ln) : ∃ u er, ExpandIs t u er := by
  by_cases h : T.RightT t
  · exact ⟨_, _, .inl ⟨h, rfl⟩⟩
  · exact ⟨_, _, .inr ⟨h, rfl, rfl⟩⟩
theorem paths_ex (t : List T.Ln) (g : List UInt8) : ∃ L er, PathsAre t g L er := by
  by_cases h : T.RightT t
  · cases e : T.inB (T.actL t) [T.wGroups, g] with
    | true => exact ⟨_, _, .inl ⟨h, .inl ⟨e, rfl, rfl⟩⟩⟩
    | false => exact ⟨_, _, .inl ⟨h, .inr ⟨e, rfl, rfl⟩⟩⟩
  · exact ⟨_, _, .inr ⟨h, rfl, rfl⟩⟩
/-- few: a short tree. -/
theorem small12 (A : Option Addr) (c n : Nat) (t : List T.Ln) (w : World) (hn : t.length = n) (hA : Seen eL w A t) : Calls Try.prog 32 #[.slice A n c] w (fun e w' => ∃ b : Bool, e = .returned (.bool b) ∧ (b = true → n ≤ 220) ∧ Below w.heap.size w w') := by subst hn; exact small_any A c t w hA
set_option maxRecDepth 100000 in
theorem few12 (A : Option Addr) (c n : Nat) (t : List T.Ln) (w : World) (hn : t.length = n) (hA : Seen eL w A t) : Calls Try.prog 10 #[.slice A n c] w (fun e w' => ∃ b : Bool, e = .returned (.bool b) ∧ (b = true → n ≤ 60) ∧ Below w.heap.size w w') := by
  have HA := Lib.hid hA
  have HN := Lib.hid hn
  clear hA hn
  by_cases h : n ≤ 60
  · have b1 : decide ((n : Int) ≤ 60) = true := decide_eq_true (by omega)
    have b2 : decide (n ≤ 60) = true := decide_eq_true h
    go_enter Try.func10, Try.ntmps10
    go_wp2_with fail
    refine (small12 A c n t _ HN.out HA.out).mono ?_
    rintro e w1 ⟨b, rfl, _, hb⟩
    cases b with
    | true =>
      go_wp2
      go_ret
      exact ⟨true, rfl, fun _ => h, hb⟩
    | false =>
      go_wp2
      go_ret
      exact ⟨false, rfl, (fun h => by cases h), hb⟩
  · have b1 : decide ((n : Int) ≤ 60) = false := decide_eq_false (by omega)
    have b2 : decide (n ≤ 60) = false := decide_eq_false h
    go_enter Try.func10, Try.ntmps10
    go_wp2_with fail
    refine (small12 A c n t _ HN.out HA.out).mono ?_
    rintro e w1 ⟨b, rfl, _, hb⟩
    cases b with
    | true =>
      go_wp2
      go_ret
      exact ⟨false, rfl, (fun h => by cases h), hb⟩
    | false =>
      go_wp2
      go_ret
      exact ⟨false, rfl, (fun h => by cases h), hb⟩
/-- Some answer or other. -/
def AnyB (w : World) (e : Ending) (w' : World) : Prop := ∃ b : Bool, e = .returned (.bool b) ∧ Below w.heap.size w w'
set_option maxRecDepth 100000 in
set_option maxHeartbeats 4000000 in
theorem brief12 (A : Option Addr) (c n : Nat) (t : List T.Ln) (w : World) (hn : t.length = n) (hA : Seen eL w A t) (hl : n ≤ 1073741824) : Calls Try.prog 20 #[.slice A n c] w (AnyB w) := by
  have HA := Lib.hid hA
  have HN := Lib.hid hn
  clear hA hn
  go_enter Try.func20, Try.ntmps20
  go_wp2
  go_loopg [3, 4, 5, 8] n (fun g v3 v4 v5 vi wr => ∃ i : Nat, Hid (i + g = n) ∧ vi = .int .i64 (i : Int) ∧ Hid (Below w.heap.size w wr))
  case atStart => exact ⟨0, Nat.zero_add _, rfl, Below.refl _ _⟩
  case round =>
    obtain ⟨i, HG, rfl, HB⟩ := hrel
    have hgk := HG.out
    by_cases hlt : i < n
    · have blt : decide ((i : Int) < (n : Int)) = true := decide_eq_true (by omega)
      have blt2 : decide (i < n) = true := decide_eq_true hlt
      obtain ⟨wo, hwo⟩ : ∃ wo, wo = wr := ⟨_, rfl⟩
      subst hwo
      go_wp2
      go_loopg [4, 5] (i + 1) (fun g2 vn vk w2 => ∃ (m : Nat) (k : Int), Hid (k + 1 = (g2 : Int)) ∧ -1 ≤ k ∧ k ≤ (i : Int) ∧ m + g2 ≤ n + 1 ∧ vn = .int .i64 (m : Int) ∧ vk = .int .i64 k ∧ Hid (Below wo.heap.size wo w2))
      case atStart => exact ⟨0, (i : Int), (by show _ = _; omega), by omega, by omega, by omega, rfl, rfl, Below.refl _ _⟩
      case round =>
        obtain ⟨m, k0, HG2, hlo, hhi, hmg, rfl, rfl, HB2⟩ := hrel
        have HBW := Lib.hid (HB.out.trans (HB2.out.mono HB.out.size))
        have hg2 := HG2.out
        by_cases hk0 : 0 ≤ k0
        · obtain ⟨k, rfl⟩ := Int.eq_ofNat_of_zero_le hk0
          have bk : decide ((0 : Int) ≤ (k : Int)) = true := decide_eq_true hk0
          have hkn : k < n := by omega
          have hkt : k < t.length := by rw [HN.out]; exact hkn
          have hkz : (k : Int) < (n : Int) := by omega
          obtain ⟨b, o, rfl, hbw, hL⟩ := HA.out.lines (by omega)
          obtain ⟨_, c1, _⟩ := (hL.below HBW.out hbw).line hkt
          have hul := T.under_lt t k
          have HUL := Lib.hid hul
          clear hL
          cases hs : (T.wd t k == T.starW) with
          | true =>
            have q1 : ((sB (T.wd t k)).toList == [42]) = true := by rw [sB_toList]; exact hs
            clear hs hul
            go_wp2_with fail
            refine (underN12 _ c n t k _ HN.out (HA.out.below HBW.out) hkn hl).mono ?_
            rintro e w3 ⟨rfl, hb3⟩
            have HB3 := Lib.hid (HB2.out.trans (hb3.mono HB2.out.size))
            clear hb3
            go_wp2
            go_roundg (T.underL t k + 1).toNat
            case rel => exact ⟨m + 1, T.underL t k, (by show _ = _; have := HUL.out; omega), HUL.out.1, by have := HUL.out; omega, by have := HUL.out; omega, by go_num, rfl, HB3.out⟩
            case measure => have := HUL.out; omega
          | false =>
            have q1 : ((sB (T.wd t k)).toList == [42]) = false := by rw [sB_toList]; exact hs
            clear hs hul
            go_wp2_with fail
            refine (underN12 _ c n t k _ HN.out (HA.out.below HBW.out) hkn hl).mono ?_
            rintro e w3 ⟨rfl, hb3⟩
            have HB3 := Lib.hid (HB2.out.trans (hb3.mono HB2.out.size))
            clear hb3
            go_wp2
            go_roundg (T.underL t k + 1).toNat
            case rel => exact ⟨m, T.underL t k, (by show _ = _; have := HUL.out; omega), HUL.out.1, by have := HUL.out; omega, by have := HUL.out; omega, by go_num, rfl, HB3.out⟩
            case measure => have := HUL.out; omega
        · have bk : decide ((0 : Int) ≤ k0) = false := decide_eq_false hk0
          by_cases h2 : 2 < m
          · have d1 : decide ((2 : Int) < (m : Int)) = true := decide_eq_true (by omega)
            have d2 : decide (2 < m) = true := decide_eq_true h2
            go_wp2
            go_ret
            exact ⟨false, rfl, HBW.out⟩
          · have d1 : decide ((2 : Int) < (m : Int)) = false := decide_eq_false (by omega)
            have d2 : decide (2 < m) = false := decide_eq_false h2
            go_wp2
            go_roundg (n - (i + 1))
            case rel => exact ⟨i + 1, (by show _ = _; omega), by go_num, HBW.out⟩
            case measure => omega
    · have blt : decide ((i : Int) < (n : Int)) = false := decide_eq_false (by omega)
      have blt2 : decide (i < n) = false := decide_eq_false hlt
      go_wp2
      go_ret
      exact ⟨true, rfl, HB.out⟩
set_option maxRecDepth 100000 in
set_option maxHeartbeats 4000000 in
theorem sameP12 (A B : Option Addr) (c d n : Nat) (L : List T.Pth) (w : World) (hn : L.length = n) (hl : n ≤ 1000000) (hp : ∀ x ∈ L, x.length ≤ 1073741824) (hA : SeenP w A L) (hB : SeenP w B L) :
    Calls Try.prog 23 #[.slice A n c, .slice B n d] w (TrueS w) := by
  have HA := Lib.hid hA
  have HB := Lib.hid hB
  have HN := Lib.hid hn
  have HP := Lib.hid hp
  clear hA hB hn hp
  go_enter Try.func23, Try.ntmps23
  go_wp2
  go_loopg [13] n (fun gk vi wr => ∃ k : Nat, Hid (k + gk = n) ∧ k ≤ n ∧ vi = .int .i64 (k : Int) ∧ Below w.heap.size w wr)
  case atStart => exact ⟨0, Nat.zero_add _, Nat.zero_le _, rfl, Below.refl _ _⟩
  case round =>
    obtain ⟨k, HG, hk, rfl, hb⟩ := hrel
    by_cases hlt : k < n
    · have blt : decide ((k : Int) < (n : Int)) = true := decide_eq_true (by omega)
      have blt2 : decide (k < n) = true := decide_eq_true hlt
      have hkL : k < L.length := by have := HN.out; omega
      obtain ⟨b, o, rfl, hbw, hat⟩ := HA.out (by omega)
      obtain ⟨b2, o2, rfl, hbw2, hat2⟩ := HB.out (by omega)
      obtain ⟨B1, c1, x1, hc1, hs1⟩ := hat k hkL
      obtain ⟨B2, c2, x2, hc2, hs2⟩ := hat2 k hkL
      have HQ := Lib.hid (HP.out L[k] (List.getElem_mem hkL))
      obtain ⟨P, hP⟩ : ∃ P, L[k] = P := ⟨_, rfl⟩
      rw [hP] at x1 x2 hc1 hc2 hs1 hs2 HQ
      obtain ⟨np, hnp⟩ : ∃ np, P.length = np := ⟨_, rfl⟩
      rw [hnp] at x1 x2 hc1 hc2
      have HNP := Lib.hid hnp
      have hnp30 : np ≤ 1073741824 := by rw [← hnp]; exact HQ.out
      have HKP := Lib.hid (fun w' (h : Below w.heap.size w w') => show w'.cell? ⟨b, o + k, none⟩ = some (.slice B1 np c1) ∧ w'.cell? ⟨b2, o2 + k, none⟩ = some (.slice B2 np c2) from
        ⟨(h.cell (p := ⟨b, _, none⟩) hbw).trans x1, (h.cell (p := ⟨b2, _, none⟩) hbw2).trans x2⟩)
      have HS1 := Lib.hid hs1
      have HS2 := Lib.hid hs2
      have HEQ := Lib.hid (fun w' (h : Below w.heap.size w w') => equal_yes B1 B2 c1 c2 P P np np w' rfl HNP.out HNP.out hnp30 (HS1.out.below h) (HS2.out.below h))
      have hbd : Below w.heap.size w wr.drew := hb.drew
      have hki : (k : Int) < (n : Int) := by omega
      have hgk := HG.out
      clear hP hnp hat hat2 x1 x2 hs1 hs2 hc1 hc2
      go_wp2
      go_region_held3 (fun w' => Below w.heap.size w w' ∧ w'.cell? ⟨b, o + k, none⟩ = some (.slice B1 np c1) ∧ w'.cell? ⟨b2, o2 + k, none⟩ = some (.slice B2 np c2)) (first | ((refine ⟨?_, HKP.out _ ?_⟩) <;> (first | assumption | (refine Below.drew ?_; assumption))) | go_keep) (first | (go_at_call 28; refine (HEQ.out _ (by assumption)).mono ?_; rintro e w' ⟨rfl, hx⟩; have hbx := bthen (show Below w.heap.size w _ by assumption) hx))
      all_goals go_wp2
      all_goals
        go_roundg (n - (k + 1))
        case rel => exact ⟨k + 1, (by show _ = _; omega), by omega, by go_num, hbx⟩
        case measure => omega
    · have blt : decide ((k : Int) < (n : Int)) = false := decide_eq_false (by omega)
      have blt2 : decide (k < n) = false := decide_eq_false hlt
      go_wp2
      go_ret
      exact ⟨rfl, hb⟩
def aw12T : List T.Ln := [⟨0, [97, 112, 112, 108, 121], 0⟩, ⟨1, [103], 0⟩, ⟨0, [103, 114, 111, 117, 112, 115], 0⟩, ⟨1, [103], 0⟩, ⟨2, [104], 0⟩, ⟨3, [42], 0⟩, ⟨4, [109], 0⟩, ⟨5, [57], 0⟩, ⟨0, [104], 0⟩, ⟨1, [97], 0⟩, ⟨1, [98], 0⟩, ⟨2, [109], 0⟩, ⟨3, [49], 0⟩]
def aw12U : List T.Ln := [⟨0, [104], 0⟩, ⟨1, [97], 0⟩, ⟨2, [109], 0⟩, ⟨3, [57], 0⟩, ⟨1, [98], 0⟩, ⟨2, [109], 0⟩, ⟨3, [49], 0⟩]
theorem aw12_right : T.RightT aw12T := by
  have h1 : ∀ k, k < 13 → (0 ≤ T.dp aw12T k ∧ T.dp aw12T k ≤ 15) ∧ (T.wd aw12T k).length ≤ 40 ∧ 0 ≤ (T.at_ aw12T k).mark ∧ (T.at_ aw12T k).mark ≤ 3 := by decide +kernel
  have h2 : ∀ k, k < 12 → T.dp aw12T (k + 1) ≤ T.dp aw12T k + 1 := by decide +kernel
  have h3 : ∀ k, k < 13 → ∀ i, i < k → T.dp aw12T k = T.dp aw12T i → (∀ j, j < k → i < j → T.dp aw12T i ≤ T.dp aw12T j) → Op.bytesLess (T.wd aw12T i) (T.wd aw12T k) = true := by decide +kernel
  exact ⟨by decide, fun i hi => (h1 i hi).1, fun i hi => (h1 i hi).2.1, fun i hi => (h1 i hi).2.2, fun _ => by decide +kernel, fun i hi => h2 i (by have : i + 1 < 13 := hi; omega), fun i k h4 h5 h6 h7 => h3 k h5 i h4 h6 (fun j h8 h9 => h7 j h9 h8)⟩
theorem aw12_expand : T.expandL aw12T = (aw12U, 0) := by kernel_rfl
theorem aw12_paths : PathsIs aw12T [103] [[[104], [97], [109], [57]], [[104], [98], [109], [57]]] 0 := .inl ⟨by kernel_rfl, by kernel_rfl, rfl⟩
theorem aw12_none : PathsIs aw12T [113] [] 3 := .inr ⟨by kernel_rfl, rfl, rfl⟩
theorem aw12_at : T.pathL aw12U 3 = [[104], [97], [109], [57]] := by decide +kernel
theorem aw12_no : ∀ i, i < aw12U.length → T.pathL aw12U i ≠ [[104], [98], [109], [57]] := by
  have h : ∀ i, i < 7 → T.pathL aw12U i ≠ [[104], [98], [109], [57]] := by decide +kernel
  exact fun i hi => h i hi
set_option maxRecDepth 100000 in
set_option maxHeartbeats 4000000 in
theorem awake12 (E : GroupsOk) (w : World) : Calls Try.prog 11 #[] w (TrueS w) := by
  have HT := Lib.hid (show Seen eL (World.alloc w (.cells #[.int .i64 0, .string ⟨#[97, 112, 112, 108, 121]⟩, .int .i64 0, .int .i64 1, .string ⟨#[103]⟩, .int .i64 0, .int .i64 0, .string ⟨#[103, 114, 111, 117, 112, 115]⟩, .int .i64 0, .int .i64 1, .string ⟨#[103]⟩, .int .i64 0, .int .i64 2, .string ⟨#[104]⟩, .int .i64 0, .int .i64 3, .string ⟨#[42]⟩, .int .i64 0, .int .i64 4, .string ⟨#[109]⟩, .int .i64 0, .int .i64 5, .string ⟨#[57]⟩, .int .i64 0, .int .i64 0, .string ⟨#[104]⟩, .int .i64 0, .int .i64 1, .string ⟨#[97]⟩, .int .i64 0, .int .i64 1, .string ⟨#[98]⟩, .int .i64 0, .int .i64 2, .string ⟨#[109]⟩, .int .i64 0, .int .i64 3, .string ⟨#[49]⟩, .int .i64 0] 40)) (some ⟨w.heap.size, 0, none⟩) aw12T from lit_seen eL w aw12T _ rfl (by decide))
  have hb := up w (.cells #[.int .i64 0, .string ⟨#[97, 112, 112, 108, 121]⟩, .int .i64 0, .int .i64 1, .string ⟨#[103]⟩, .int .i64 0, .int .i64 0, .string ⟨#[103, 114, 111, 117, 112, 115]⟩, .int .i64 0, .int .i64 1, .string ⟨#[103]⟩, .int .i64 0, .int .i64 2, .string ⟨#[104]⟩, .int .i64 0, .int .i64 3, .string ⟨#[42]⟩, .int .i64 0, .int .i64 4, .string ⟨#[109]⟩, .int .i64 0, .int .i64 5, .string ⟨#[57]⟩, .int .i64 0, .int .i64 0, .string ⟨#[104]⟩, .int .i64 0, .int .i64 1, .string ⟨#[97]⟩, .int .i64 0, .int .i64 1, .string ⟨#[98]⟩, .int .i64 0, .int .i64 2, .string ⟨#[109]⟩, .int .i64 0, .int .i64 3, .string ⟨#[49]⟩, .int .i64 0] 40)
  have HRU := Lib.hid (T.expand_ok aw12_right aw12_expand).right
  go_enter Try.func11, Try.ntmps11
  go_wp2_with fail
  refine (E.expandOf _ 13 13 7 aw12T aw12U 0 _ ⟨rfl, by omega, by omega, (by intro h; cases h), HT.out⟩ (.inl ⟨aw12_right, aw12_expand⟩) rfl).mono ?_
  rintro e w1 ⟨B1, d1, rfl, hu, hx⟩
  replace HT := Lib.hid (HT.out.below hx)
  have HU := Lib.hid hu
  replace hb := bthen hb hx
  clear hx hu
  go_wp2_with fail
  refine (E.pathsOf _ 13 13 2 aw12T [103] _ 0 _ ⟨rfl, by omega, by omega, (by intro h; cases h), HT.out⟩ (by decide) (.inl ⟨aw12_right, aw12_paths⟩) rfl).mono ?_
  rintro e w2 ⟨B2, d2, rfl, _, hx⟩
  replace HT := Lib.hid (HT.out.below hx)
  replace HU := Lib.hid (HU.out.below hx)
  replace hb := bthen hb hx
  clear hx
  go_wp2_with fail
  refine (find_some B1 _ d1 4 aw12U 3 [[104], [97], [109], [57]] _ (HU.out.seen.below (up _ _)) (lit_seen eS w2 [[104], [97], [109], [57]] _ rfl (by decide)) (by decide) (by decide) HRU.out (by decide) aw12_at).mono ?_
  rintro e w3 ⟨rfl, hx⟩
  replace HT := Lib.hid (HT.out.below (bthen (up _ _) hx))
  replace HU := Lib.hid (HU.out.below (bthen (up _ _) hx))
  replace hb := bthen hb (bthen (up _ _) hx)
  clear hx
  go_wp2_with fail
  refine (find_not B1 _ d1 4 aw12U [[104], [98], [109], [57]] _ (HU.out.seen.below (up _ _)) (lit_seen eS w3 [[104], [98], [109], [57]] _ rfl (by decide)) (by decide) (by decide) HRU.out aw12_no).mono ?_
  rintro e w4 ⟨rfl, hx⟩
  replace HT := Lib.hid (HT.out.below (bthen (up _ _) hx))
  replace hb := bthen hb (bthen (up _ _) hx)
  clear hx
  go_wp2_with fail
  refine (E.pathsOf _ 13 13 0 aw12T [113] [] 3 _ ⟨rfl, by omega, by omega, (by intro h; cases h), HT.out⟩ (by decide) (.inl ⟨aw12_right, aw12_none⟩) rfl).mono ?_
  rintro e w5 ⟨B5, d5, rfl, _, hx⟩
  replace hb := bthen hb hx
  clear hx
  go_wp2
  go_ret
  exact ⟨rfl, hb⟩
end Go.Proofs.Ytkifapbiimlafaa
