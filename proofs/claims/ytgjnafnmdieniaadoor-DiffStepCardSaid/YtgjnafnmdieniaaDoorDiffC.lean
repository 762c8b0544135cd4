/-
  Contract of the document's Text (layer 8): the rows of changes. Condition: at most 2^10 changes, paths of at most 40 words.
-/
import Derived.Test.YtgjnafnmdieniaaDoorDiffA
import Derived.Test.YtgjnafnmdieniaaDoorWordR
namespace Go.Proofs.YtgjnafnmdieniaaDoor
open Go.RowKit
set_option linter.unusedVariables false

theorem digit_cast (n : Nat) : (UInt8.ofNat (48 + n % 10)).toNat = 48 + n % 10 := by
  rw [UInt8.toNat_ofNat']
  omega
theorem digit_small {n : Nat} (h : n < 10) : n % 10 = n := Nat.mod_eq_of_lt h
theorem one_byte (w : World) (r : Nat) (h : r < 10) : (convert 56 9 (.slice (some ⟨w.heap.size, 0, none⟩) 1 1)).run Tryd.prog (w.alloc (.cells #[.int .u8 (48 + (r : Int))] 5)) = .ok (.string (sB [UInt8.ofNat (48 + r)])) (w.alloc (.cells #[.int .u8 (48 + (r : Int))] 5)) := by
  refine run_convert_bytes_back _ _ _ _ ⟨w.heap.size, 0, none⟩ 1 [UInt8.ofNat (48 + r)] Tryd.underlying56 Tryd.underlying5 Tryd.underlying9 ?_
  intro j hj
  obtain rfl : j = 0 := by simpa using hj
  have e : (UInt8.ofNat (48 + r)).toNat = 48 + r := by rw [UInt8.toNat_ofNat']; omega
  rw [add_off, Nat.zero_add]
  refine (World.cell?_alloc_mark w #[.int .u8 (48 + (r : Int))] 5 (0, 0) 0).trans ?_
  simp only [List.getElem_cons_zero, e]
  rfl
set_option maxRecDepth 100000 in
set_option maxHeartbeats 1000000 in
theorem digitsR_small (n : Nat) (h : n < 10) (w : World) :
    Calls Tryd.prog 38 #[.int .i64 (n : Int)] w (fun e w' => e = .returned (.string (sB (T.decL n))) ∧ Below w.heap.size w w') := by
  have h9 : decide ((9 : Int) < (n : Int)) = false := decide_eq_false (by omega)
  have h9b : decide (9 < n) = false := decide_eq_false (by omega)
  have hm : Int.tmod (n : Int) 10 = (n : Int) := by rw [Int.tmod_eq_emod_of_nonneg (by omega)]; omega
  have hcv := one_byte w n h
  rw [T.decL_small h]
  obtain ⟨s, hs⟩ : ∃ s, sB [UInt8.ofNat (48 + n)] = s := ⟨_, rfl⟩
  rw [hs] at hcv ⊢
  clear hs
  go_enter Tryd.func38, Tryd.ntmps38
  go_wp2
  go_ret
  exact ⟨rfl, (Below.refl _ _).alloc (Nat.le_refl _) _⟩
theorem sB_app (a b : List UInt8) : sB a ++ sB b = sB (a ++ b) := ByteArray.ext (by simp [ByteArray.data_append, sB])
set_option maxRecDepth 100000 in
set_option maxHeartbeats 1000000 in
theorem digitsR_any : ∀ (k n : Nat), n < 10 ^ (k + 1) → k ≤ 9 → ∀ w : World, Calls Tryd.prog 38 #[.int .i64 (n : Int)] w (fun e w' => e = .returned (.string (sB (T.decL n))) ∧ Below w.heap.size w w')
  | 0, n, h, _, w => digitsR_small n (by simpa using h) w
  | k + 1, n, h, hk, w => by
    by_cases h1 : n < 10
    · exact digitsR_small n h1 w
    · have hlt : n / 10 < 10 ^ (k + 1) := by rw [Nat.pow_succ] at h; omega
      have ih := digitsR_any k (n / 10) hlt (by omega)
      have h9 : decide ((9 : Int) < (n : Int)) = true := decide_eq_true (by omega)
      have h9b : decide (9 < n) = true := decide_eq_true (by omega)
      have hn18 : n < 100000000000 := by
        have : (10 : Nat) ^ (k + 1 + 1) ≤ 10 ^ 11 := Nat.pow_le_pow_right (by omega) (by omega)
        omega
      obtain ⟨r, hr⟩ : ∃ r, n % 10 = r := ⟨_, rfl⟩
      obtain ⟨q, hq⟩ : ∃ q, n / 10 = q := ⟨_, rfl⟩
      have hr10 : r < 10 := by omega
      have hm : Int.tmod (n : Int) 10 = (r : Int) := by rw [Int.tmod_eq_emod_of_nonneg (by omega)]; omega
      have hd : Int.tdiv (n : Int) 10 = (q : Int) := by rw [Int.tdiv_eq_ediv_of_nonneg (by omega)]; omega
      have hq11 : q < 100000000000 := by omega
      have hw : wrap64 (q : Int) = (q : Int) := by unfold wrap64; omega
      have hcv := one_byte w r hr10
      have hdec := T.decL_big (n := n) (by omega)
      rw [hr, hq] at hdec
      rw [hq] at ih
      rw [hdec, ← sB_app]
      obtain ⟨s, hs⟩ : ∃ s, sB [UInt8.ofNat (48 + r)] = s := ⟨_, rfl⟩
      obtain ⟨s2, hs2⟩ : ∃ s2, sB (T.decL q) = s2 := ⟨_, rfl⟩
      have hl2 : s2.size ≤ 1000 := by
        rw [← hs2, sB_size]
        have := T.decL_len k q (by rw [← hq]; exact hlt)
        omega
      have hl1 : s.size = 1 := by rw [← hs, sB_size]; rfl
      rw [hs] at hcv ⊢
      rw [hs2] at ih ⊢
      have HI := Lib.hid ih
      clear hs hs2 hr hq hdec ih h hlt
      go_enter Tryd.func38, Tryd.ntmps38
      go_wp2_with fail
      refine (HI.out _).mono ?_
      rintro e w1 ⟨rfl, hx⟩
      go_wp2
      go_ret
      exact ⟨rfl, bthen ((Below.refl _ _).alloc (Nat.le_refl _) _) hx⟩
-- THE TEXT
theorem flat_le {α β : Type} (f : α → List β) (K : Nat) : ∀ l : List α, (∀ c ∈ l, (f c).length ≤ K) → (l.flatMap f).length ≤ K * l.length
  | [], _ => by simp
  | c :: l, h => by
    have := flat_le f K l fun x hx => h x (List.mem_cons_of_mem _ hx)
    have := h c (List.mem_cons_self ..)
    rw [List.flatMap_cons, List.length_append, List.length_cons, Nat.mul_add]
    omega
/-- Changes that Text is asked of. -/
def FewC (L : List T.Chg) : Prop := L.length ≤ 1024 ∧ ∀ x ∈ L, x.path.length ≤ 40 ∧ 0 ≤ x.mark ∧ x.mark ≤ 1000000000
theorem rowD_len {x : T.Chg} (hp : x.path.length ≤ 40) (h0 : 0 ≤ x.mark) (h1 : x.mark ≤ 1000000000) : (T.rowD x).length ≤ 6600 := by
  have h2 := T.wordsD_len x.path
  have h3 := T.decL_len 9 x.mark.toNat (by omega)
  unfold T.rowD
  by_cases h : T.toldD x = true
  · rw [if_pos h]
    simp only [List.length_append, List.length_cons, List.length_nil]
    omega
  · rw [if_neg h]
    simp only [List.length_append, List.length_cons, List.length_nil]
    omega
theorem textD_len {L : List T.Chg} (h : FewC L) : (T.textD L).length ≤ 7000000 := by
  have := flat_le T.rowD 6600 L fun c hc => rowD_len (h.2 c hc).1 (h.2 c hc).2.1 (h.2 c hc).2.2
  have := h.1
  unfold T.textD
  omega
theorem FewC.take {L : List T.Chg} (h : FewC L) (k : Nat) : FewC (L.take k) := ⟨by have := h.1; rw [List.length_take]; omega, fun x hx => h.2 x (List.mem_of_mem_take hx)⟩
theorem quoteP (x q : List UInt8) (w : World) (hx : x.length ≤ 1073741824) (h : W.quoteL x = q) : Calls Tryd.prog 37 #[.string (sB x)] w (fun e w' => e = .returned (.string ⟨q.toArray⟩) ∧ Below w.heap.size w w') := quoteR_is (sB x) q w (by rw [sB_size]; exact hx) (by rw [sB_data]; exact h)
theorem toldD_val (kd mk : Int) (P : T.Pth) : T.toldD ⟨kd, P, mk⟩ = (decide (kd < 1) || decide (2 < kd) || (kd == 2 && mk != 0)) := rfl
/-- What a row of the text leaves. -/
def RowS (w : World) (k : Nat) (l : List UInt8) (wr : World) : Prop := Below w.heap.size w wr
set_option maxRecDepth 100000 in
set_option maxHeartbeats 8000000 in
theorem refText_any (A : Option Addr) (c n : Nat) (L : List T.Chg) (w : World) (hn : L.length = n) (hA : SeenC eF w A L) (hf : FewC L) :
    Calls Tryd.prog 17 #[.slice A n c] w (fun e w' => e = .returned (.string (sB (T.textD L))) ∧ Below w.heap.size w w') := by
  have HA := Lib.hid hA
  have HN := Lib.hid hn
  have HF := Lib.hid hf
  have hn1024 : n ≤ 1024 := by rw [← hn]; exact hf.1
  clear hA hn hf
  go_enter Tryd.func17, Tryd.ntmps17
  go_wp2
  go_loopg [3, 4] n (fun gk vs vi wr => ∃ (k : Nat) (l : List UInt8), Hid (k + gk = n) ∧ k ≤ n ∧ vi = .int .i64 (k : Int) ∧ vs = .string ⟨l.toArray⟩ ∧ Hid (l = T.textD (L.take k)) ∧ Below w.heap.size w wr)
  case atStart => exact ⟨0, [], Nat.zero_add _, Nat.zero_le _, rfl, rfl, (by show _ = _; simp [T.textD]), Below.refl _ _⟩
  case round =>
    obtain ⟨k, l, HG, hk, rfl, rfl, HL, hb⟩ := hrel
    have hll : l.length ≤ 7000000 := by rw [HL.out]; exact textD_len (HF.out.take k)
    by_cases hlt : k < n
    · have blt : decide ((k : Int) < (n : Int)) = true := decide_eq_true (by omega)
      have blt2 : decide (k < n) = true := decide_eq_true hlt
      have hkL : k < L.length := by have := HN.out; omega
      have hfew := HF.out.2 L[k] (List.getElem_mem hkL)
      obtain ⟨b, o, B2, c2, nn, rfl, hpn, hnc, hat⟩ := HA.out.atF hkL
      have HNX := Lib.hid (show T.textD (L.take (k + 1)) = T.textD (L.take k) ++ T.rowD L[k] by rw [List.take_succ_eq_append_getElem hkL, T.textD_snoc])
      have hek : L[k] = ⟨(L[k]).kind, (L[k]).path, (L[k]).mark⟩ := rfl
      obtain ⟨kd, hkd0⟩ : ∃ z, (L[k]).kind = z := ⟨_, rfl⟩
      obtain ⟨P, hP⟩ : ∃ z, (L[k]).path = z := ⟨_, rfl⟩
      obtain ⟨mk, hmk⟩ : ∃ z, (L[k]).mark = z := ⟨_, rfl⟩
      rw [hkd0, hP, hmk] at hek
      rw [hek] at HNX
      rw [hP] at hpn
      rw [hP, hmk] at hfew
      simp only [hkd0, hP, hmk] at hat
      obtain ⟨hp40, hm00, hm01⟩ := hfew
      rw [hpn] at hp40
      have HPN := Lib.hid hpn
      obtain ⟨x0, x1, x2, hPs0⟩ := hat _ hb
      have hki : (k : Int) < (n : Int) := by omega
      have HC0 := Lib.hid (show ∀ w', Below (wr.alloc (.cells #[.int .i64 kd, .slice B2 nn c2, .int .i64 mk] 52)).heap.size (wr.alloc (.cells #[.int .i64 kd, .slice B2 nn c2, .int .i64 mk] 52)) w' → w'.cell? ⟨wr.heap.size, 0, none⟩ = some (.int .i64 kd) ∧ w'.cell? ⟨wr.heap.size, 1, none⟩ = some (.slice B2 nn c2) ∧ w'.cell? ⟨wr.heap.size, 2, none⟩ = some (.int .i64 mk) ∧ Seen eS w' B2 P from fun w' h => by
        have hlt : wr.heap.size < (wr.alloc (.cells #[.int .i64 kd, .slice B2 nn c2, .int .i64 mk] 52)).heap.size := by simp
        have hbk := fun j => World.cell?_alloc_mark wr #[.int .i64 kd, .slice B2 nn c2, .int .i64 mk] 52 (0, 0) j
        exact ⟨(h.cell (p := ⟨wr.heap.size, 0, none⟩) hlt).trans (hbk 0), (h.cell (p := ⟨wr.heap.size, 1, none⟩) hlt).trans (hbk 1), (h.cell (p := ⟨wr.heap.size, 2, none⟩) hlt).trans (hbk 2), (hPs0.below (up wr _)).below h⟩)
      have HBU0 := Lib.hid (hb.alloc hb.size (.cells #[.int .i64 kd, .slice B2 nn c2, .int .i64 mk] 52))
      have hszu0 := HBU0.out.size
      clear hkd0 hP hmk hek hat hPs0 hpn
      have hcase : kd = 1 ∨ (kd = 2 ∧ mk = 0) ∨ (kd = 2 ∧ mk ≠ 0) ∨ kd = 3 ∨ kd < 1 ∨ 3 < kd := by omega
      rcases hcase with rfl | ⟨rfl, rfl⟩ | ⟨rfl, hm0⟩ | rfl | hkd | hkd
      · have HC := HC0
        have HBU := HBU0
        have hszu := hszu0
        clear HC0 HBU0 hszu0
        have HRW := Lib.hid (show T.rowD ⟨1, P, mk⟩ = 45 :: T.wordsD P ++ [] ++ [10] by
          have ht : T.toldD ⟨1, P, mk⟩ = false := by rw [toldD_val]; rfl
          have hs : T.signD 1 = 45 := rfl
          unfold T.rowD
          rw [ht, if_neg (by decide)]
          show T.signD 1 :: _ ++ _ ++ _ = _
          rw [hs])
        go_wp2
        go_loopg [3, 6] nn (fun g2 vs vj wq => ∃ (j : Nat) (l2 : List UInt8), Hid (j + g2 = nn) ∧ j ≤ nn ∧ vj = .int .i64 (j : Int) ∧ vs = .string ⟨l2.toArray⟩ ∧ Hid (l2 = l ++ 45 :: T.wordsD (P.take j)) ∧ Below (wr.alloc (.cells #[.int .i64 1, .slice B2 nn c2, .int .i64 mk] 52)).heap.size (wr.alloc (.cells #[.int .i64 1, .slice B2 nn c2, .int .i64 mk] 52)) wq)
        case atStart => exact ⟨0, l ++ [45], Nat.zero_add _, Nat.zero_le _, rfl, congrArg Value.string (ByteArray.ext (by simp [ByteArray.data_append])), (by show _ = _; simp [T.wordsD]), Below.refl _ _⟩
        case round =>
          obtain ⟨j, l2, HG2, hj, rfl, rfl, HL2, hb2⟩ := hrel
          obtain ⟨y0, y1, y2, hPs⟩ := HC.out _ hb2
          have hl2 : l2.length ≤ 8000000 := by
            have h1 := T.wordsD_len (P.take j)
            rw [List.length_take] at h1
            rw [HL2.out, List.length_append, List.length_cons]
            omega
          by_cases hjn : j < nn
          · have blt : decide ((j : Int) < (nn : Int)) = true := decide_eq_true (by omega)
            have blt2 : decide (j < nn) = true := decide_eq_true hjn
            have hjp : j < P.length := by have := HPN.out; omega
            obtain ⟨b3, o3, rfl, hb3w, hH3⟩ := hPs (by omega)
            have z1 := hH3.str hjp
            obtain ⟨x, hx⟩ : ∃ x, P[j] = x := ⟨_, rfl⟩
            rw [hx] at z1
            have HW := Lib.hid (show T.wordsD (P.take (j + 1)) = T.wordsD (P.take j) ++ 32 :: T.wordD x by rw [List.take_succ_eq_append_getElem hjp, T.wordsD_snoc, hx])
            have hji : (j : Int) < (nn : Int) := by omega
            have hgk2 := HG2.out
            have hxs := sB_size x
            by_cases h40 : x.length ≤ 40
            · have b40 : decide (((sB x).size : Int) ≤ 40) = true := decide_eq_true (by rw [hxs]; omega)
              have b40b : decide ((sB x).size ≤ 40) = true := decide_eq_true (by rw [hxs]; omega)
              obtain ⟨q, hq⟩ : ∃ q, W.quoteL x = q := ⟨_, rfl⟩
              have HWD := Lib.hid (show T.wordD x = q by unfold T.wordD; rw [if_pos h40, hq])
              have hql : q.length ≤ 162 := by have := (W.quote_len x).2; rw [hq] at this; omega
              have hquo := quoteP x q
              have HQU := Lib.hid (fun w => hquo w (by omega) hq)
              clear hx hq hH3 hPs h40 hxs hquo
              go_wp2_with fail
              refine (HQU.out _).mono ?_
              rintro e w2 ⟨rfl, hx2⟩
              have hbn := bthen hb2 hx2
              clear hx2 z1 hb2 y0 y1 y2
              go_wp2
              go_roundg (nn - (j + 1))
              case rel => exact ⟨j + 1, l2 ++ 32 :: q, (by show _ = _; omega), by omega, by go_num, congrArg Value.string (ByteArray.ext (by simp [ByteArray.data_append])), (by show _ = _; rw [HW.out, HL2.out, HWD.out]; simp), hbn⟩
              case measure => omega
            · have b40 : decide (((sB x).size : Int) ≤ 40) = false := decide_eq_false (by rw [hxs]; omega)
              have b40b : decide ((sB x).size ≤ 40) = false := decide_eq_false (by rw [hxs]; omega)
              have HWD := Lib.hid (show T.wordD x = [] by unfold T.wordD; rw [if_neg h40])
              clear hx hH3 hPs h40 hxs
              go_wp2
              go_roundg (nn - (j + 1))
              case rel => exact ⟨j + 1, l2 ++ [32], (by show _ = _; omega), by omega, by go_num, congrArg Value.string (ByteArray.ext (by simp [ByteArray.data_append])), (by show _ = _; rw [HW.out, HL2.out, HWD.out]; simp), hb2⟩
              case measure => omega
          · have blt : decide ((j : Int) < (nn : Int)) = false := decide_eq_false (by omega)
            have blt2 : decide (j < nn) = false := decide_eq_false hjn
            have HE := Lib.hid (show l2 = l ++ 45 :: T.wordsD P by rw [HL2.out, List.take_of_length_le (by have := HPN.out; omega)])
            have hgk := HG.out
            have HB2 := Lib.hid (HBU.out.trans (hb2.mono hszu))
            clear hPs hjn
            go_wp2
            go_roundg (n - (k + 1))
            case rel => exact ⟨k + 1, l2 ++ [10], (by show _ = _; omega), by omega, by go_num, congrArg Value.string (ByteArray.ext (by simp [ByteArray.data_append])), (by show _ = _; rw [HNX.out, ← HL.out, HRW.out, HE.out]; simp), HB2.out⟩
            case measure => omega
      · have HC := HC0
        have HBU := HBU0
        have hszu := hszu0
        clear HC0 HBU0 hszu0
        have HRW := Lib.hid (show T.rowD ⟨2, P, 0⟩ = 43 :: T.wordsD P ++ [] ++ [10] by
          have ht : T.toldD ⟨2, P, 0⟩ = false := by rw [toldD_val]; rfl
          have hs : T.signD 2 = 43 := rfl
          unfold T.rowD
          rw [ht, if_neg (by decide)]
          show T.signD 2 :: _ ++ _ ++ _ = _
          rw [hs])
        go_wp2
        go_loopg [3, 6] nn (fun g2 vs vj wq => ∃ (j : Nat) (l2 : List UInt8), Hid (j + g2 = nn) ∧ j ≤ nn ∧ vj = .int .i64 (j : Int) ∧ vs = .string ⟨l2.toArray⟩ ∧ Hid (l2 = l ++ 43 :: T.wordsD (P.take j)) ∧ Below (wr.alloc (.cells #[.int .i64 2, .slice B2 nn c2, .int .i64 0] 52)).heap.size (wr.alloc (.cells #[.int .i64 2, .slice B2 nn c2, .int .i64 0] 52)) wq)
        case atStart => exact ⟨0, l ++ [43], Nat.zero_add _, Nat.zero_le _, rfl, congrArg Value.string (ByteArray.ext (by simp [ByteArray.data_append])), (by show _ = _; simp [T.wordsD]), Below.refl _ _⟩
        case round =>
          obtain ⟨j, l2, HG2, hj, rfl, rfl, HL2, hb2⟩ := hrel
          obtain ⟨y0, y1, y2, hPs⟩ := HC.out _ hb2
          have hl2 : l2.length ≤ 8000000 := by
            have h1 := T.wordsD_len (P.take j)
            rw [List.length_take] at h1
            rw [HL2.out, List.length_append, List.length_cons]
            omega
          by_cases hjn : j < nn
          · have blt : decide ((j : Int) < (nn : Int)) = true := decide_eq_true (by omega)
            have blt2 : decide (j < nn) = true := decide_eq_true hjn
            have hjp : j < P.length := by have := HPN.out; omega
            obtain ⟨b3, o3, rfl, hb3w, hH3⟩ := hPs (by omega)
            have z1 := hH3.str hjp
            obtain ⟨x, hx⟩ : ∃ x, P[j] = x := ⟨_, rfl⟩
            rw [hx] at z1
            have HW := Lib.hid (show T.wordsD (P.take (j + 1)) = T.wordsD (P.take j) ++ 32 :: T.wordD x by rw [List.take_succ_eq_append_getElem hjp, T.wordsD_snoc, hx])
            have hji : (j : Int) < (nn : Int) := by omega
            have hgk2 := HG2.out
            have hxs := sB_size x
            by_cases h40 : x.length ≤ 40
            · have b40 : decide (((sB x).size : Int) ≤ 40) = true := decide_eq_true (by rw [hxs]; omega)
              have b40b : decide ((sB x).size ≤ 40) = true := decide_eq_true (by rw [hxs]; omega)
              obtain ⟨q, hq⟩ : ∃ q, W.quoteL x = q := ⟨_, rfl⟩
              have HWD := Lib.hid (show T.wordD x = q by unfold T.wordD; rw [if_pos h40, hq])
              have hql : q.length ≤ 162 := by have := (W.quote_len x).2; rw [hq] at this; omega
              have hquo := quoteP x q
              have HQU := Lib.hid (fun w => hquo w (by omega) hq)
              clear hx hq hH3 hPs h40 hxs hquo
              go_wp2_with fail
              refine (HQU.out _).mono ?_
              rintro e w2 ⟨rfl, hx2⟩
              have hbn := bthen hb2 hx2
              clear hx2 z1 hb2 y0 y1 y2
              go_wp2
              go_roundg (nn - (j + 1))
              case rel => exact ⟨j + 1, l2 ++ 32 :: q, (by show _ = _; omega), by omega, by go_num, congrArg Value.string (ByteArray.ext (by simp [ByteArray.data_append])), (by show _ = _; rw [HW.out, HL2.out, HWD.out]; simp), hbn⟩
              case measure => omega
            · have b40 : decide (((sB x).size : Int) ≤ 40) = false := decide_eq_false (by rw [hxs]; omega)
              have b40b : decide ((sB x).size ≤ 40) = false := decide_eq_false (by rw [hxs]; omega)
              have HWD := Lib.hid (show T.wordD x = [] by unfold T.wordD; rw [if_neg h40])
              clear hx hH3 hPs h40 hxs
              go_wp2
              go_roundg (nn - (j + 1))
              case rel => exact ⟨j + 1, l2 ++ [32], (by show _ = _; omega), by omega, by go_num, congrArg Value.string (ByteArray.ext (by simp [ByteArray.data_append])), (by show _ = _; rw [HW.out, HL2.out, HWD.out]; simp), hb2⟩
              case measure => omega
          · have blt : decide ((j : Int) < (nn : Int)) = false := decide_eq_false (by omega)
            have blt2 : decide (j < nn) = false := decide_eq_false hjn
            have HE := Lib.hid (show l2 = l ++ 43 :: T.wordsD P by rw [HL2.out, List.take_of_length_le (by have := HPN.out; omega)])
            have hgk := HG.out
            have HB2 := Lib.hid (HBU.out.trans (hb2.mono hszu))
            clear hPs hjn
            go_wp2
            go_roundg (n - (k + 1))
            case rel => exact ⟨k + 1, l2 ++ [10], (by show _ = _; omega), by omega, by go_num, congrArg Value.string (ByteArray.ext (by simp [ByteArray.data_append])), (by show _ = _; rw [HNX.out, ← HL.out, HRW.out, HE.out]; simp), HB2.out⟩
            case measure => omega
      · have HC := HC0
        have HBU := HBU0
        have hszu := hszu0
        clear HC0 HBU0 hszu0
        have b6 : (mk != 0) = true := bne_iff_ne.2 hm0
        have HRW := Lib.hid (show T.rowD ⟨2, P, mk⟩ = 43 :: T.wordsD P ++ ([32, 40] ++ T.decL mk.toNat ++ [41]) ++ [10] by
          have ht : T.toldD ⟨2, P, mk⟩ = true := by rw [toldD_val, b6]; rfl
          have hs : T.signD 2 = 43 := rfl
          unfold T.rowD
          rw [ht, if_pos rfl]
          show T.signD 2 :: _ ++ _ ++ _ = _
          rw [hs])
        go_wp2
        go_loopg [3, 6] nn (fun g2 vs vj wq => ∃ (j : Nat) (l2 : List UInt8), Hid (j + g2 = nn) ∧ j ≤ nn ∧ vj = .int .i64 (j : Int) ∧ vs = .string ⟨l2.toArray⟩ ∧ Hid (l2 = l ++ 43 :: T.wordsD (P.take j)) ∧ Below (wr.alloc (.cells #[.int .i64 2, .slice B2 nn c2, .int .i64 mk] 52)).heap.size (wr.alloc (.cells #[.int .i64 2, .slice B2 nn c2, .int .i64 mk] 52)) wq)
        case atStart => exact ⟨0, l ++ [43], Nat.zero_add _, Nat.zero_le _, rfl, congrArg Value.string (ByteArray.ext (by simp [ByteArray.data_append])), (by show _ = _; simp [T.wordsD]), Below.refl _ _⟩
        case round =>
          obtain ⟨j, l2, HG2, hj, rfl, rfl, HL2, hb2⟩ := hrel
          obtain ⟨y0, y1, y2, hPs⟩ := HC.out _ hb2
          have hl2 : l2.length ≤ 8000000 := by
            have h1 := T.wordsD_len (P.take j)
            rw [List.length_take] at h1
            rw [HL2.out, List.length_append, List.length_cons]
            omega
          by_cases hjn : j < nn
          · have blt : decide ((j : Int) < (nn : Int)) = true := decide_eq_true (by omega)
            have blt2 : decide (j < nn) = true := decide_eq_true hjn
            have hjp : j < P.length := by have := HPN.out; omega
            obtain ⟨b3, o3, rfl, hb3w, hH3⟩ := hPs (by omega)
            have z1 := hH3.str hjp
            obtain ⟨x, hx⟩ : ∃ x, P[j] = x := ⟨_, rfl⟩
            rw [hx] at z1
            have HW := Lib.hid (show T.wordsD (P.take (j + 1)) = T.wordsD (P.take j) ++ 32 :: T.wordD x by rw [List.take_succ_eq_append_getElem hjp, T.wordsD_snoc, hx])
            have hji : (j : Int) < (nn : Int) := by omega
            have hgk2 := HG2.out
            have hxs := sB_size x
            by_cases h40 : x.length ≤ 40
            · have b40 : decide (((sB x).size : Int) ≤ 40) = true := decide_eq_true (by rw [hxs]; omega)
              have b40b : decide ((sB x).size ≤ 40) = true := decide_eq_true (by rw [hxs]; omega)
              obtain ⟨q, hq⟩ : ∃ q, W.quoteL x = q := ⟨_, rfl⟩
              have HWD := Lib.hid (show T.wordD x = q by unfold T.wordD; rw [if_pos h40, hq])
              have hql : q.length ≤ 162 := by have := (W.quote_len x).2; rw [hq] at this; omega
              have hquo := quoteP x q
              have HQU := Lib.hid (fun w => hquo w (by omega) hq)
              clear hx hq hH3 hPs h40 hxs hquo
              go_wp2_with fail
              refine (HQU.out _).mono ?_
              rintro e w2 ⟨rfl, hx2⟩
              have hbn := bthen hb2 hx2
              clear hx2 z1 hb2 y0 y1 y2
              go_wp2
              go_roundg (nn - (j + 1))
              case rel => exact ⟨j + 1, l2 ++ 32 :: q, (by show _ = _; omega), by omega, by go_num, congrArg Value.string (ByteArray.ext (by simp [ByteArray.data_append])), (by show _ = _; rw [HW.out, HL2.out, HWD.out]; simp), hbn⟩
              case measure => omega
            · have b40 : decide (((sB x).size : Int) ≤ 40) = false := decide_eq_false (by rw [hxs]; omega)
              have b40b : decide ((sB x).size ≤ 40) = false := decide_eq_false (by rw [hxs]; omega)
              have HWD := Lib.hid (show T.wordD x = [] by unfold T.wordD; rw [if_neg h40])
              clear hx hH3 hPs h40 hxs
              go_wp2
              go_roundg (nn - (j + 1))
              case rel => exact ⟨j + 1, l2 ++ [32], (by show _ = _; omega), by omega, by go_num, congrArg Value.string (ByteArray.ext (by simp [ByteArray.data_append])), (by show _ = _; rw [HW.out, HL2.out, HWD.out]; simp), hb2⟩
              case measure => omega
          · have blt : decide ((j : Int) < (nn : Int)) = false := decide_eq_false (by omega)
            have blt2 : decide (j < nn) = false := decide_eq_false hjn
            have HE := Lib.hid (show l2 = l ++ 43 :: T.wordsD P by rw [HL2.out, List.take_of_length_le (by have := HPN.out; omega)])
            have hgk := HG.out
            have HB2 := Lib.hid (HBU.out.trans (hb2.mono hszu))
            obtain ⟨sd, hsd⟩ : ∃ sd, T.decL mk.toNat = sd := ⟨_, rfl⟩
            have hsdl : sd.length ≤ 10 := by rw [← hsd]; exact T.decL_len 9 _ (by omega)
            have HDG := Lib.hid (show ∀ w, Calls Tryd.prog 38 #[.int .i64 mk] w (fun e w' => e = .returned (.string ⟨sd.toArray⟩) ∧ Below w.heap.size w w') from fun w => by
              have h := digitsR_any 9 mk.toNat (by omega) (by omega) w
              rw [Int.toNat_of_nonneg (by omega), hsd] at h
              exact h)
            have HSD := Lib.hid hsd
            clear hsd hPs hjn
            go_wp2_with fail
            refine (HDG.out _).mono ?_
            rintro e w3 ⟨rfl, hx3⟩
            have HB3 := Lib.hid (bthen HB2.out hx3)
            clear hx3 y0 y1 y2
            go_wp2
            go_roundg (n - (k + 1))
            case rel => exact ⟨k + 1, l2 ++ ([32, 40] ++ sd ++ [41]) ++ [10], (by show _ = _; omega), by omega, by go_num, congrArg Value.string (ByteArray.ext (by simp [ByteArray.data_append])), (by show _ = _; rw [HNX.out, ← HL.out, HRW.out, HE.out, HSD.out]; simp), HB3.out⟩
            case measure => omega
      · have HC := HC0
        have HBU := HBU0
        have hszu := hszu0
        clear HC0 HBU0 hszu0
        have HRW := Lib.hid (show T.rowD ⟨3, P, mk⟩ = 33 :: T.wordsD P ++ ([32, 40] ++ T.decL mk.toNat ++ [41]) ++ [10] by
          have ht : T.toldD ⟨3, P, mk⟩ = true := by rw [toldD_val]; rfl
          have hs : T.signD 3 = 33 := rfl
          unfold T.rowD
          rw [ht, if_pos rfl]
          show T.signD 3 :: _ ++ _ ++ _ = _
          rw [hs])
        go_wp2
        go_loopg [3, 6] nn (fun g2 vs vj wq => ∃ (j : Nat) (l2 : List UInt8), Hid (j + g2 = nn) ∧ j ≤ nn ∧ vj = .int .i64 (j : Int) ∧ vs = .string ⟨l2.toArray⟩ ∧ Hid (l2 = l ++ 33 :: T.wordsD (P.take j)) ∧ Below (wr.alloc (.cells #[.int .i64 3, .slice B2 nn c2, .int .i64 mk] 52)).heap.size (wr.alloc (.cells #[.int .i64 3, .slice B2 nn c2, .int .i64 mk] 52)) wq)
        case atStart => exact ⟨0, l ++ [33], Nat.zero_add _, Nat.zero_le _, rfl, congrArg Value.string (ByteArray.ext (by simp [ByteArray.data_append])), (by show _ = _; simp [T.wordsD]), Below.refl _ _⟩
        case round =>
          obtain ⟨j, l2, HG2, hj, rfl, rfl, HL2, hb2⟩ := hrel
          obtain ⟨y0, y1, y2, hPs⟩ := HC.out _ hb2
          have hl2 : l2.length ≤ 8000000 := by
            have h1 := T.wordsD_len (P.take j)
            rw [List.length_take] at h1
            rw [HL2.out, List.length_append, List.length_cons]
            omega
          by_cases hjn : j < nn
          · have blt : decide ((j : Int) < (nn : Int)) = true := decide_eq_true (by omega)
            have blt2 : decide (j < nn) = true := decide_eq_true hjn
            have hjp : j < P.length := by have := HPN.out; omega
            obtain ⟨b3, o3, rfl, hb3w, hH3⟩ := hPs (by omega)
            have z1 := hH3.str hjp
            obtain ⟨x, hx⟩ : ∃ x, P[j] = x := ⟨_, rfl⟩
            rw [hx] at z1
            have HW := Lib.hid (show T.wordsD (P.take (j + 1)) = T.wordsD (P.take j) ++ 32 :: T.wordD x by rw [List.take_succ_eq_append_getElem hjp, T.wordsD_snoc, hx])
            have hji : (j : Int) < (nn : Int) := by omega
            have hgk2 := HG2.out
            have hxs := sB_size x
            by_cases h40 : x.length ≤ 40
            · have b40 : decide (((sB x).size : Int) ≤ 40) = true := decide_eq_true (by rw [hxs]; omega)
              have b40b : decide ((sB x).size ≤ 40) = true := decide_eq_true (by rw [hxs]; omega)
              obtain ⟨q, hq⟩ : ∃ q, W.quoteL x = q := ⟨_, rfl⟩
              have HWD := Lib.hid (show T.wordD x = q by unfold T.wordD; rw [if_pos h40, hq])
              have hql : q.length ≤ 162 := by have := (W.quote_len x).2; rw [hq] at this; omega
              have hquo := quoteP x q
              have HQU := Lib.hid (fun w => hquo w (by omega) hq)
              clear hx hq hH3 hPs h40 hxs hquo
              go_wp2_with fail
              refine (HQU.out _).mono ?_
              rintro e w2 ⟨rfl, hx2⟩
              have hbn := bthen hb2 hx2
              clear hx2 z1 hb2 y0 y1 y2
              go_wp2
              go_roundg (nn - (j + 1))
              case rel => exact ⟨j + 1, l2 ++ 32 :: q, (by show _ = _; omega), by omega, by go_num, congrArg Value.string (ByteArray.ext (by simp [ByteArray.data_append])), (by show _ = _; rw [HW.out, HL2.out, HWD.out]; simp), hbn⟩
              case measure => omega
            · have b40 : decide (((sB x).size : Int) ≤ 40) = false := decide_eq_false (by rw [hxs]; omega)
              have b40b : decide ((sB x).size ≤ 40) = false := decide_eq_false (by rw [hxs]; omega)
              have HWD := Lib.hid (show T.wordD x = [] by unfold T.wordD; rw [if_neg h40])
              clear hx hH3 hPs h40 hxs
              go_wp2
              go_roundg (nn - (j + 1))
              case rel => exact ⟨j + 1, l2 ++ [32], (by show _ = _; omega), by omega, by go_num, congrArg Value.string (ByteArray.ext (by simp [ByteArray.data_append])), (by show _ = _; rw [HW.out, HL2.out, HWD.out]; simp), hb2⟩
              case measure => omega
          · have blt : decide ((j : Int) < (nn : Int)) = false := decide_eq_false (by omega)
            have blt2 : decide (j < nn) = false := decide_eq_false hjn
            have HE := Lib.hid (show l2 = l ++ 33 :: T.wordsD P by rw [HL2.out, List.take_of_length_le (by have := HPN.out; omega)])
            have hgk := HG.out
            have HB2 := Lib.hid (HBU.out.trans (hb2.mono hszu))
            obtain ⟨sd, hsd⟩ : ∃ sd, T.decL mk.toNat = sd := ⟨_, rfl⟩
            have hsdl : sd.length ≤ 10 := by rw [← hsd]; exact T.decL_len 9 _ (by omega)
            have HDG := Lib.hid (show ∀ w, Calls Tryd.prog 38 #[.int .i64 mk] w (fun e w' => e = .returned (.string ⟨sd.toArray⟩) ∧ Below w.heap.size w w') from fun w => by
              have h := digitsR_any 9 mk.toNat (by omega) (by omega) w
              rw [Int.toNat_of_nonneg (by omega), hsd] at h
              exact h)
            have HSD := Lib.hid hsd
            clear hsd hPs hjn
            go_wp2_with fail
            refine (HDG.out _).mono ?_
            rintro e w3 ⟨rfl, hx3⟩
            have HB3 := Lib.hid (bthen HB2.out hx3)
            clear hx3 y0 y1 y2
            go_wp2
            go_roundg (n - (k + 1))
            case rel => exact ⟨k + 1, l2 ++ ([32, 40] ++ sd ++ [41]) ++ [10], (by show _ = _; omega), by omega, by go_num, congrArg Value.string (ByteArray.ext (by simp [ByteArray.data_append])), (by show _ = _; rw [HNX.out, ← HL.out, HRW.out, HE.out, HSD.out]; simp), HB3.out⟩
            case measure => omega
      · have HC := HC0
        have HBU := HBU0
        have hszu := hszu0
        clear HC0 HBU0 hszu0
        have b1 : (kd == 1) = false := beq_eq_false_iff_ne.2 (by omega)
        have b2 : (kd == 2) = false := beq_eq_false_iff_ne.2 (by omega)
        have b3 : (kd == 3) = false := beq_eq_false_iff_ne.2 (by omega)
        have b4 : decide (kd < 1) = true := decide_eq_true (by omega)
        have HRW := Lib.hid (show T.rowD ⟨kd, P, mk⟩ = 63 :: T.wordsD P ++ ([32, 40] ++ T.decL mk.toNat ++ [41]) ++ [10] by
          have ht : T.toldD ⟨kd, P, mk⟩ = true := by rw [toldD_val, b4]; rfl
          have hs : T.signD kd = 63 := by unfold T.signD; rw [if_neg (by omega), if_neg (by omega), if_neg (by omega)]
          unfold T.rowD
          rw [ht, if_pos rfl]
          show T.signD kd :: _ ++ _ ++ _ = _
          rw [hs])
        clear hkd
        go_wp2
        go_loopg [3, 6] nn (fun g2 vs vj wq => ∃ (j : Nat) (l2 : List UInt8), Hid (j + g2 = nn) ∧ j ≤ nn ∧ vj = .int .i64 (j : Int) ∧ vs = .string ⟨l2.toArray⟩ ∧ Hid (l2 = l ++ 63 :: T.wordsD (P.take j)) ∧ Below (wr.alloc (.cells #[.int .i64 kd, .slice B2 nn c2, .int .i64 mk] 52)).heap.size (wr.alloc (.cells #[.int .i64 kd, .slice B2 nn c2, .int .i64 mk] 52)) wq)
        case atStart => exact ⟨0, l ++ [63], Nat.zero_add _, Nat.zero_le _, rfl, congrArg Value.string (ByteArray.ext (by simp [ByteArray.data_append])), (by show _ = _; simp [T.wordsD]), Below.refl _ _⟩
        case round =>
          obtain ⟨j, l2, HG2, hj, rfl, rfl, HL2, hb2⟩ := hrel
          obtain ⟨y0, y1, y2, hPs⟩ := HC.out _ hb2
          have hl2 : l2.length ≤ 8000000 := by
            have h1 := T.wordsD_len (P.take j)
            rw [List.length_take] at h1
            rw [HL2.out, List.length_append, List.length_cons]
            omega
          by_cases hjn : j < nn
          · have blt : decide ((j : Int) < (nn : Int)) = true := decide_eq_true (by omega)
            have blt2 : decide (j < nn) = true := decide_eq_true hjn
            have hjp : j < P.length := by have := HPN.out; omega
            obtain ⟨b3, o3, rfl, hb3w, hH3⟩ := hPs (by omega)
            have z1 := hH3.str hjp
            obtain ⟨x, hx⟩ : ∃ x, P[j] = x := ⟨_, rfl⟩
            rw [hx] at z1
            have HW := Lib.hid (show T.wordsD (P.take (j + 1)) = T.wordsD (P.take j) ++ 32 :: T.wordD x by rw [List.take_succ_eq_append_getElem hjp, T.wordsD_snoc, hx])
            have hji : (j : Int) < (nn : Int) := by omega
            have hgk2 := HG2.out
            have hxs := sB_size x
            by_cases h40 : x.length ≤ 40
            · have b40 : decide (((sB x).size : Int) ≤ 40) = true := decide_eq_true (by rw [hxs]; omega)
              have b40b : decide ((sB x).size ≤ 40) = true := decide_eq_true (by rw [hxs]; omega)
              obtain ⟨q, hq⟩ : ∃ q, W.quoteL x = q := ⟨_, rfl⟩
              have HWD := Lib.hid (show T.wordD x = q by unfold T.wordD; rw [if_pos h40, hq])
              have hql : q.length ≤ 162 := by have := (W.quote_len x).2; rw [hq] at this; omega
              have hquo := quoteP x q
              have HQU := Lib.hid (fun w => hquo w (by omega) hq)
              clear hx hq hH3 hPs h40 hxs hquo
              go_wp2_with fail
              refine (HQU.out _).mono ?_
              rintro e w2 ⟨rfl, hx2⟩
              have hbn := bthen hb2 hx2
              clear hx2 z1 hb2 y0 y1 y2
              go_wp2
              go_roundg (nn - (j + 1))
              case rel => exact ⟨j + 1, l2 ++ 32 :: q, (by show _ = _; omega), by omega, by go_num, congrArg Value.string (ByteArray.ext (by simp [ByteArray.data_append])), (by show _ = _; rw [HW.out, HL2.out, HWD.out]; simp), hbn⟩
              case measure => omega
            · have b40 : decide (((sB x).size : Int) ≤ 40) = false := decide_eq_false (by rw [hxs]; omega)
              have b40b : decide ((sB x).size ≤ 40) = false := decide_eq_false (by rw [hxs]; omega)
              have HWD := Lib.hid (show T.wordD x = [] by unfold T.wordD; rw [if_neg h40])
              clear hx hH3 hPs h40 hxs
              go_wp2
              go_roundg (nn - (j + 1))
              case rel => exact ⟨j + 1, l2 ++ [32], (by show _ = _; omega), by omega, by go_num, congrArg Value.string (ByteArray.ext (by simp [ByteArray.data_append])), (by show _ = _; rw [HW.out, HL2.out, HWD.out]; simp), hb2⟩
              case measure => omega
          · have blt : decide ((j : Int) < (nn : Int)) = false := decide_eq_false (by omega)
            have blt2 : decide (j < nn) = false := decide_eq_false hjn
            have HE := Lib.hid (show l2 = l ++ 63 :: T.wordsD P by rw [HL2.out, List.take_of_length_le (by have := HPN.out; omega)])
            have hgk := HG.out
            have HB2 := Lib.hid (HBU.out.trans (hb2.mono hszu))
            obtain ⟨sd, hsd⟩ : ∃ sd, T.decL mk.toNat = sd := ⟨_, rfl⟩
            have hsdl : sd.length ≤ 10 := by rw [← hsd]; exact T.decL_len 9 _ (by omega)
            have HDG := Lib.hid (show ∀ w, Calls Tryd.prog 38 #[.int .i64 mk] w (fun e w' => e = .returned (.string ⟨sd.toArray⟩) ∧ Below w.heap.size w w') from fun w => by
              have h := digitsR_any 9 mk.toNat (by omega) (by omega) w
              rw [Int.toNat_of_nonneg (by omega), hsd] at h
              exact h)
            have HSD := Lib.hid hsd
            clear hsd hPs hjn
            go_wp2_with fail
            refine (HDG.out _).mono ?_
            rintro e w3 ⟨rfl, hx3⟩
            have HB3 := Lib.hid (bthen HB2.out hx3)
            clear hx3 y0 y1 y2
            go_wp2
            go_roundg (n - (k + 1))
            case rel => exact ⟨k + 1, l2 ++ ([32, 40] ++ sd ++ [41]) ++ [10], (by show _ = _; omega), by omega, by go_num, congrArg Value.string (ByteArray.ext (by simp [ByteArray.data_append])), (by show _ = _; rw [HNX.out, ← HL.out, HRW.out, HE.out, HSD.out]; simp), HB3.out⟩
            case measure => omega
      · have HC := HC0
        have HBU := HBU0
        have hszu := hszu0
        clear HC0 HBU0 hszu0
        have b1 : (kd == 1) = false := beq_eq_false_iff_ne.2 (by omega)
        have b2 : (kd == 2) = false := beq_eq_false_iff_ne.2 (by omega)
        have b3 : (kd == 3) = false := beq_eq_false_iff_ne.2 (by omega)
        have b4 : decide (kd < 1) = false := decide_eq_false (by omega)
        have b5 : decide (2 < kd) = true := decide_eq_true (by omega)
        have HRW := Lib.hid (show T.rowD ⟨kd, P, mk⟩ = 63 :: T.wordsD P ++ ([32, 40] ++ T.decL mk.toNat ++ [41]) ++ [10] by
          have ht : T.toldD ⟨kd, P, mk⟩ = true := by rw [toldD_val, b5]; simp
          have hs : T.signD kd = 63 := by unfold T.signD; rw [if_neg (by omega), if_neg (by omega), if_neg (by omega)]
          unfold T.rowD
          rw [ht, if_pos rfl]
          show T.signD kd :: _ ++ _ ++ _ = _
          rw [hs])
        clear hkd
        go_wp2
        go_loopg [3, 6] nn (fun g2 vs vj wq => ∃ (j : Nat) (l2 : List UInt8), Hid (j + g2 = nn) ∧ j ≤ nn ∧ vj = .int .i64 (j : Int) ∧ vs = .string ⟨l2.toArray⟩ ∧ Hid (l2 = l ++ 63 :: T.wordsD (P.take j)) ∧ Below (wr.alloc (.cells #[.int .i64 kd, .slice B2 nn c2, .int .i64 mk] 52)).heap.size (wr.alloc (.cells #[.int .i64 kd, .slice B2 nn c2, .int .i64 mk] 52)) wq)
        case atStart => exact ⟨0, l ++ [63], Nat.zero_add _, Nat.zero_le _, rfl, congrArg Value.string (ByteArray.ext (by simp [ByteArray.data_append])), (by show _ = _; simp [T.wordsD]), Below.refl _ _⟩
        case round =>
          obtain ⟨j, l2, HG2, hj, rfl, rfl, HL2, hb2⟩ := hrel
          obtain ⟨y0, y1, y2, hPs⟩ := HC.out _ hb2
          have hl2 : l2.length ≤ 8000000 := by
            have h1 := T.wordsD_len (P.take j)
            rw [List.length_take] at h1
            rw [HL2.out, List.length_append, List.length_cons]
            omega
          by_cases hjn : j < nn
          · have blt : decide ((j : Int) < (nn : Int)) = true := decide_eq_true (by omega)
            have blt2 : decide (j < nn) = true := decide_eq_true hjn
            have hjp : j < P.length := by have := HPN.out; omega
            obtain ⟨b3, o3, rfl, hb3w, hH3⟩ := hPs (by omega)
            have z1 := hH3.str hjp
            obtain ⟨x, hx⟩ : ∃ x, P[j] = x := ⟨_, rfl⟩
            rw [hx] at z1
            have HW := Lib.hid (show T.wordsD (P.take (j + 1)) = T.wordsD (P.take j) ++ 32 :: T.wordD x by rw [List.take_succ_eq_append_getElem hjp, T.wordsD_snoc, hx])
            have hji : (j : Int) < (nn : Int) := by omega
            have hgk2 := HG2.out
            have hxs := sB_size x
            by_cases h40 : x.length ≤ 40
            · have b40 : decide (((sB x).size : Int) ≤ 40) = true := decide_eq_true (by rw [hxs]; omega)
              have b40b : decide ((sB x).size ≤ 40) = true := decide_eq_true (by rw [hxs]; omega)
              obtain ⟨q, hq⟩ : ∃ q, W.quoteL x = q := ⟨_, rfl⟩
              have HWD := Lib.hid (show T.wordD x = q by unfold T.wordD; rw [if_pos h40, hq])
              have hql : q.length ≤ 162 := by have := (W.quote_len x).2; rw [hq] at this; omega
              have hquo := quoteP x q
              have HQU := Lib.hid (fun w => hquo w (by omega) hq)
              clear hx hq hH3 hPs h40 hxs hquo
              go_wp2_with fail
              refine (HQU.out _).mono ?_
              rintro e w2 ⟨rfl, hx2⟩
              have hbn := bthen hb2 hx2
              clear hx2 z1 hb2 y0 y1 y2
              go_wp2
              go_roundg (nn - (j + 1))
              case rel => exact ⟨j + 1, l2 ++ 32 :: q, (by show _ = _; omega), by omega, by go_num, congrArg Value.string (ByteArray.ext (by simp [ByteArray.data_append])), (by show _ = _; rw [HW.out, HL2.out, HWD.out]; simp), hbn⟩
              case measure => omega
            · have b40 : decide (((sB x).size : Int) ≤ 40) = false := decide_eq_false (by rw [hxs]; omega)
              have b40b : decide ((sB x).size ≤ 40) = false := decide_eq_false (by rw [hxs]; omega)
              have HWD := Lib.hid (show T.wordD x = [] by unfold T.wordD; rw [if_neg h40])
              clear hx hH3 hPs h40 hxs
              go_wp2
              go_roundg (nn - (j + 1))
              case rel => exact ⟨j + 1, l2 ++ [32], (by show _ = _; omega), by omega, by go_num, congrArg Value.string (ByteArray.ext (by simp [ByteArray.data_append])), (by show _ = _; rw [HW.out, HL2.out, HWD.out]; simp), hb2⟩
              case measure => omega
          · have blt : decide ((j : Int) < (nn : Int)) = false := decide_eq_false (by omega)
            have blt2 : decide (j < nn) = false := decide_eq_false hjn
            have HE := Lib.hid (show l2 = l ++ 63 :: T.wordsD P by rw [HL2.out, List.take_of_length_le (by have := HPN.out; omega)])
            have hgk := HG.out
            have HB2 := Lib.hid (HBU.out.trans (hb2.mono hszu))
            obtain ⟨sd, hsd⟩ : ∃ sd, T.decL mk.toNat = sd := ⟨_, rfl⟩
            have hsdl : sd.length ≤ 10 := by rw [← hsd]; exact T.decL_len 9 _ (by omega)
            have HDG := Lib.hid (show ∀ w, Calls Tryd.prog 38 #[.int .i64 mk] w (fun e w' => e = .returned (.string ⟨sd.toArray⟩) ∧ Below w.heap.size w w') from fun w => by
              have h := digitsR_any 9 mk.toNat (by omega) (by omega) w
              rw [Int.toNat_of_nonneg (by omega), hsd] at h
              exact h)
            have HSD := Lib.hid hsd
            clear hsd hPs hjn
            go_wp2_with fail
            refine (HDG.out _).mono ?_
            rintro e w3 ⟨rfl, hx3⟩
            have HB3 := Lib.hid (bthen HB2.out hx3)
            clear hx3 y0 y1 y2
            go_wp2
            go_roundg (n - (k + 1))
            case rel => exact ⟨k + 1, l2 ++ ([32, 40] ++ sd ++ [41]) ++ [10], (by show _ = _; omega), by omega, by go_num, congrArg Value.string (ByteArray.ext (by simp [ByteArray.data_append])), (by show _ = _; rw [HNX.out, ← HL.out, HRW.out, HE.out, HSD.out]; simp), HB3.out⟩
            case measure => omega
    · have blt : decide ((k : Int) < (n : Int)) = false := decide_eq_false (by omega)
      have blt2 : decide (k < n) = false := decide_eq_false hlt
      have HE := Lib.hid (show l = T.textD L by rw [HL.out, List.take_of_length_le (by have := HN.out; omega)])
      go_wp2
      go_ret
      exact ⟨by rw [← HE.out]; rfl, hb⟩
end Go.Proofs.YtgjnafnmdieniaaDoor
