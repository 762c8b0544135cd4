/-
  Contracts of the code's sign, tellsMark and Text (layer 8). Condition: at most 1024 changes of at most 40 words, marks from 0 to 10^9 (of 100 and more: the library's table holds its numbers).
-/
import Derived.Test.YtgjnafnmdieniaaDoorDiffF
import Derived.Test.YtgjnafnmdieniaaDoorLaysN
namespace Go.Proofs.YtgjnafnmdieniaaDoor
open Go.RowKit
set_option linter.unusedVariables false

theorem codeSign (kd : Int) (w : World) : Calls Tryd.prog 31 #[.int .i64 kd] w (fun e w' => e = .returned (.int .u8 ((T.signD kd).toNat : Int)) ∧ w = w') := by
  have hcase : kd = 1 ∨ kd = 2 ∨ kd = 3 ∨ (kd ≠ 1 ∧ kd ≠ 2 ∧ kd ≠ 3) := by omega
  rcases hcase with rfl | rfl | rfl | ⟨h1, h2, h3⟩
  · have hs : T.signD 1 = 45 := rfl
    rw [hs]
    go_enter Tryd.func31, Tryd.ntmps31
    go_wp2
    go_ret
    exact ⟨rfl, rfl⟩
  · have hs : T.signD 2 = 43 := rfl
    rw [hs]
    go_enter Tryd.func31, Tryd.ntmps31
    go_wp2
    go_ret
    exact ⟨rfl, rfl⟩
  · have hs : T.signD 3 = 33 := rfl
    rw [hs]
    go_enter Tryd.func31, Tryd.ntmps31
    go_wp2
    go_ret
    exact ⟨rfl, rfl⟩
  · have hs : T.signD kd = 63 := by unfold T.signD; rw [if_neg h1, if_neg h2, if_neg h3]
    have b1 : (kd == 1) = false := beq_eq_false_iff_ne.2 h1
    have b2 : (kd == 2) = false := beq_eq_false_iff_ne.2 h2
    have b3 : (kd == 3) = false := beq_eq_false_iff_ne.2 h3
    rw [hs]
    clear h1 h2 h3 hs
    go_enter Tryd.func31, Tryd.ntmps31
    go_wp2
    go_ret
    exact ⟨rfl, rfl⟩
theorem codeTells (kd mk : Int) (P : T.Pth) (B : Option Addr) (n c : Nat) (r : Bool) (w : World) (hr : T.toldD ⟨kd, P, mk⟩ = r) :
    Calls Tryd.prog 34 #[.agg #[.int .i64 kd, .slice B n c, .int .i64 mk]] w (BoolS w r) := by
  have hx : Below w.heap.size w (w.alloc (.cells #[.int .i64 kd, .slice B n c, .int .i64 mk] 41)) := (Below.refl _ _).alloc (Nat.le_refl _) _
  have hcase : kd = 1 ∨ kd = 2 ∨ (kd ≠ 1 ∧ kd ≠ 2) := by omega
  rw [toldD_val] at hr
  rcases hcase with rfl | rfl | ⟨h1, h2⟩
  · have hs : r = false := by rw [← hr]; rfl
    subst hs
    clear hr
    go_enter Tryd.func34, Tryd.ntmps34
    go_wp2
    go_ret
    exact ⟨rfl, hx⟩
  · have hs : r = (mk != 0) := by rw [← hr]; rfl
    subst hs
    clear hr
    go_enter Tryd.func34, Tryd.ntmps34
    go_wp2
    go_ret
    exact ⟨rfl, hx⟩
  · have hs : r = true := by
      rw [← hr]
      rcases Int.lt_or_gt_of_ne h1 with h | h
      · rw [decide_eq_true h]; rfl
      · rw [decide_eq_true (show 2 < kd by omega), Bool.or_true]; rfl
    have b1 : (kd == 1) = false := beq_eq_false_iff_ne.2 h1
    have b2 : (kd == 2) = false := beq_eq_false_iff_ne.2 h2
    subst hs
    clear h1 h2 hr
    go_enter Tryd.func34, Tryd.ntmps34
    go_wp2
    go_ret
    exact ⟨rfl, hx⟩
theorem quoteD (x q : List UInt8) (w : World) (h : T.wordD x = q) : Calls Tryd.prog 32 #[.string (sB x)] w (fun e w' => ∃ er : Int, e = .returned (.tuple #[.string ⟨q.toArray⟩, .int .i64 er]) ∧ Below w.heap.size w w') := by
  have hq := quote_any (sB x) w
  rw [sB_size, sB_data] at hq
  have e : (if x.length ≤ 40 then W.quoteL x else []) = q := h
  rw [e] at hq
  exact hq.mono fun e w' ⟨h1, h2⟩ => ⟨_, h1, h2⟩
theorem dec_is (n : Nat) : Lib.decDigits n = T.decL n := by
  induction n using Nat.strongRecOn with
  | _ n ih =>
    by_cases h : n < 10
    · rw [T.decL_small h, Lib.decDigits, dif_pos h]
    · rw [T.decL_big (by omega), Lib.decDigits, dif_neg h, ih (n / 10) (by omega)]
/-- A change in a block of its own. -/
def chO (kd : Int) (B : Option Addr) (n c : Nat) (mk : Int) : Obj := .cells #[.int .i64 kd, .slice B n c, .int .i64 mk] 41
theorem ch_cells {w : World} {g n c : Nat} {kd mk : Int} {B : Option Addr} (h : w.heap[g]? = some (chO kd B n c mk)) : w.cell? ⟨g, 0, none⟩ = some (.int .i64 kd) ∧ w.cell? ⟨g, 1, none⟩ = some (.slice B n c) ∧ w.cell? ⟨g, 2, none⟩ = some (.int .i64 mk) := by
  unfold chO at h
  refine ⟨?_, ?_, ?_⟩ <;> rw [Lib.cell_of_heap h] <;> rfl
theorem ch_below {w w1 : World} {g : Nat} {o : Obj} (h : w.heap[g]? = some o) (hb : Below w.heap.size w w1) : w1.heap[g]? = some o := (hb.block g (Array.getElem?_eq_some_iff.1 h).1).trans h
theorem ch_keep {w w1 : World} {base b g n c : Nat} {kd mk : Int} {B : Option Addr} (h : w.heap[g]? = some (chO kd B n c mk)) (hk : KeepB base b w w1) (hne : g ≠ b) : w1.heap[g]? = some (chO kd B n c mk) :=
  hk.2 g _ h (fun e => hne (Option.some.inj e)) (fun c fz e => by simp [chO] at e)
set_option maxRecDepth 100000 in
set_option maxHeartbeats 8000000 in
theorem diff_text (A : Option Addr) (c n : Nat) (L : List T.Chg) (w : World) (hA : CArg w A c n L) (hf : FewC L) (ht : (∀ x ∈ L, x.mark < 100) ∨ TabOk w) :
    Calls Tryd.prog 16 #[.slice A n c] w (fun e w' => e = .returned (.string (sB (T.textD L))) ∧ Below w.heap.size w w') := by
  obtain ⟨hn, hl, hc, hsA⟩ := hA
  have HA := Lib.hid hsA
  have HN := Lib.hid hn
  have HF := Lib.hid hf
  have HT := Lib.hid ht
  have HB0 := Lib.hid (HasB.new w)
  have HW0 := Lib.hid (up w (.cells #[.pointer none, .slice none 0 0] 58))
  clear hsA hn hf ht
  go_enter Tryd.func16, Tryd.ntmps16
  go_wp2
  go_loopg [12] n (fun gk vi wr => ∃ k : Nat, Hid (k + gk = n) ∧ k ≤ n ∧ vi = .int .i64 (k : Int) ∧ Hid (HasB wr w.heap.size w.heap.size (T.textD (L.take k))) ∧ Below w.heap.size w wr)
  case atStart => exact ⟨0, Nat.zero_add _, Nat.zero_le _, rfl, HB0.out.eq (by simp [T.textD]), HW0.out⟩
  case round =>
    obtain ⟨k, HG, hk, rfl, HBk, hbr⟩ := hrel
    obtain ⟨wo, hwo⟩ : ∃ wo, wo = wr := ⟨_, rfl⟩
    subst hwo
    by_cases hlt : k < n
    · have blt : decide ((k : Int) < (n : Int)) = true := decide_eq_true (by omega)
      have blt2 : decide (k < n) = true := decide_eq_true hlt
      have hkL : k < L.length := by have := HN.out; omega
      have hll := textD_len (HF.out.take k)
      have hfew := HF.out.2 L[k] (List.getElem_mem hkL)
      have hsmall : (L[k]).mark < 100 ∨ TabOk w := HT.out.imp (fun h => h _ (List.getElem_mem hkL)) id
      have hnx : T.textD (L.take (k + 1)) = T.textD (L.take k) ++ T.rowD L[k] := by rw [List.take_succ_eq_append_getElem hkL, T.textD_snoc]
      obtain ⟨b, o, B2, c2, nn, rfl, hpn, hnc, hat⟩ := HA.out.atD hkL
      obtain ⟨x, hx⟩ : ∃ x, L[k] = x := ⟨_, rfl⟩
      rw [hx] at hfew hsmall hnx hpn hat
      obtain ⟨kd, P, mk⟩ := x
      simp only at hfew hsmall hpn hat
      obtain ⟨hp40, hm0, hm9⟩ := hfew
      obtain ⟨mn, rfl⟩ := Int.eq_ofNat_of_zero_le hm0
      rw [hpn] at hp40
      obtain ⟨l, hl0⟩ : ∃ l, T.textD (L.take k) = l := ⟨_, rfl⟩
      rw [hl0] at hnx hll
      have HNX := Lib.hid hnx
      have HPN := Lib.hid hpn
      have HAT := Lib.hid hat
      obtain ⟨x0, x1, x2, hPs0⟩ := hat _ hbr
      have HMS := Lib.hid hsmall
      have hB1 : HasB (wo.alloc (chO kd B2 nn c2 mn)) w.heap.size w.heap.size l := by have h := HBk.out.keep (up wo (chO kd B2 nn c2 mn)); rw [hl0] at h; exact h
      have HB1 := Lib.hid hB1
      have HG1 := Lib.hid (show (wo.alloc (chO kd B2 nn c2 mn)).heap[wo.heap.size]? = some (chO kd B2 nn c2 mn) from heap_alloc_new wo _)
      have HX1 := Lib.hid (bthen hbr (up wo (chO kd B2 nn c2 mn)))
      have HNE := Lib.hid (show wo.heap.size ≠ w.heap.size by have := HBk.out.lt; omega)
      have hki : (k : Int) < (n : Int) := by omega
      have hgk := HG.out
      simp only [chO] at HB1 HX1
      clear hx hnx hpn hat hPs0 hsmall hB1 hl0 hm0
      go_wp2_with fail
      refine (codeSign kd _).mono ?_
      rintro e w2 ⟨rfl, rfl⟩
      go_wp2_with fail
      refine (writeByte_any w.heap.size w.heap.size l (T.signD kd) _ HB1.out (by omega)).mono ?_
      rintro e w3 ⟨rfl, hB3, hK3⟩
      have HB3 := Lib.hid hB3
      have HG3 := Lib.hid (ch_keep HG1.out hK3 HNE.out)
      have HX3 := Lib.hid (HX1.out.trans hK3.1)
      clear hB3 hK3 x0 x1 x2
      obtain ⟨y0, y1, y2⟩ := ch_cells HG3.out
      go_wp2
      go_loopg [23] nn (fun g2 vj wq => ∃ j : Nat, Hid (j + g2 = nn) ∧ j ≤ nn ∧ vj = .int .i64 (j : Int) ∧ Hid (HasB wq w.heap.size w.heap.size (l ++ T.signD kd :: T.wordsD (P.take j))) ∧ Hid (wq.heap[wo.heap.size]? = some (chO kd B2 nn c2 mn)) ∧ Hid (Below w.heap.size w wq))
      case atStart => exact ⟨0, Nat.zero_add _, Nat.zero_le _, rfl, HB3.out.eq (by simp [T.wordsD]), HG3, HX3⟩
      case round =>
        obtain ⟨j, HG2, hj, rfl, HBj, HGj, HXj⟩ := hrel
        have hl2 : (l ++ T.signD kd :: T.wordsD (P.take j)).length ≤ 8000000 := by
          have h1 := T.wordsD_len (P.take j)
          rw [List.length_take] at h1
          rw [List.length_append, List.length_cons]
          omega
        clear y0 y1 y2
        by_cases hjn : j < nn
        · have blt : decide ((j : Int) < (nn : Int)) = true := decide_eq_true (by omega)
          have blt2 : decide (j < nn) = true := decide_eq_true hjn
          have hjp : j < P.length := by have := HPN.out; omega
          obtain ⟨_, _, _, hPs⟩ := HAT.out _ HXj.out
          obtain ⟨b3, o3, rfl, hb3w, hH3⟩ := hPs (by omega)
          have z1 := hH3.str hjp
          obtain ⟨x, hx⟩ : ∃ x, P[j] = x := ⟨_, rfl⟩
          rw [hx] at z1
          have HW := Lib.hid (show T.wordsD (P.take (j + 1)) = T.wordsD (P.take j) ++ 32 :: T.wordD x by rw [List.take_succ_eq_append_getElem hjp, T.wordsD_snoc, hx])
          have hji : (j : Int) < (nn : Int) := by omega
          have hgk2 := HG2.out
          obtain ⟨q, hq⟩ : ∃ q, T.wordD x = q := ⟨_, rfl⟩
          have hql : q.length ≤ 162 := by rw [← hq]; exact T.wordD_len x
          have HQ := Lib.hid hq
          obtain ⟨l2, hl20⟩ : ∃ l2, l ++ T.signD kd :: T.wordsD (P.take j) = l2 := ⟨_, rfl⟩
          rw [hl20] at HBj hl2
          have HL2 := Lib.hid hl20
          clear hx hq hH3 hPs hl20
          go_wp2_with fail
          refine (quoteD x q _ HQ.out).mono ?_
          rintro e w4 ⟨er, rfl, hx4⟩
          have HB4 := Lib.hid (HBj.out.keep hx4)
          have HG4 := Lib.hid (ch_below HGj.out hx4)
          have HX4 := Lib.hid (bthen HXj.out hx4)
          clear hx4 z1
          go_wp2_with fail
          refine (write_any w.heap.size w.heap.size l2 _ _ HB4.out ?_).mono ?_
          · simp only [ByteArray.size_append]
            show l2.length + (1 + q.toArray.size) ≤ _
            rw [List.size_toArray]
            omega
          · rintro e w5 ⟨rfl, hB5, hK5⟩
            have HB5 := Lib.hid hB5
            have HG5 := Lib.hid (ch_keep HG4.out hK5 HNE.out)
            have HX5 := Lib.hid (HX4.out.trans hK5.1)
            clear hB5 hK5
            go_wp2
            go_roundg (nn - (j + 1))
            case rel => exact ⟨j + 1, (by show _ = _; omega), by omega, by go_num, HB5.out.eq (by rw [HW.out, ← HL2.out, HQ.out]; simp [ByteArray.data_append]), HG5, HX5⟩
            case measure => omega
        · have blt : decide ((j : Int) < (nn : Int)) = false := decide_eq_false (by omega)
          have blt2 : decide (j < nn) = false := decide_eq_false hjn
          have htk : P.take j = P := List.take_of_length_le (by have := HPN.out; omega)
          rw [htk] at HBj hl2
          obtain ⟨l2, hl20⟩ : ∃ l2, l ++ T.signD kd :: T.wordsD P = l2 := ⟨_, rfl⟩
          rw [hl20] at HBj hl2
          have HL2 := Lib.hid hl20
          obtain ⟨y0, y1, y2⟩ := ch_cells HGj.out
          clear htk hl20 hjn
          cases hr : T.toldD ⟨kd, P, mn⟩ with
          | false =>
            have HRW := Lib.hid (show T.rowD ⟨kd, P, mn⟩ = T.signD kd :: T.wordsD P ++ [] ++ [10] by unfold T.rowD; rw [hr, if_neg (by decide)])
            have HR := Lib.hid hr
            clear hr
            go_wp2_with fail
            refine (codeTells kd mn P B2 nn c2 false _ HR.out).mono ?_
            rintro e w6 ⟨rfl, hx6⟩
            have HB6 := Lib.hid (HBj.out.keep hx6)
            have HX6 := Lib.hid (bthen HXj.out hx6)
            clear hx6 y0 y1 y2
            go_wp2_with fail
            refine (writeByte_any w.heap.size w.heap.size l2 10 _ HB6.out (by omega)).mono ?_
            rintro e w7 ⟨rfl, hB7, hK7⟩
            have HB7 := Lib.hid hB7
            have HX7 := Lib.hid (HX6.out.trans hK7.1)
            clear hB7 hK7
            go_wp2
            go_roundg (n - (k + 1))
            case rel => exact ⟨k + 1, (by show _ = _; omega), by omega, by go_num, HB7.out.eq (by rw [HNX.out, HRW.out, ← HL2.out]; simp), HX7.out⟩
            case measure => omega
          | true =>
            have HRW := Lib.hid (show T.rowD ⟨kd, P, mn⟩ = T.signD kd :: T.wordsD P ++ ([32, 40] ++ T.decL mn ++ [41]) ++ [10] by unfold T.rowD; rw [hr, if_pos rfl]; rfl)
            have HR := Lib.hid hr
            obtain ⟨sd, hsd⟩ : ∃ sd, T.decL mn = sd := ⟨_, rfl⟩
            have hsdl : sd.length ≤ 10 := by rw [← hsd]; exact T.decL_len 9 _ (by omega)
            have HDG := Lib.hid (show ∀ W, Below w.heap.size w W → Calls Tryd.prog 35 #[.int .i64 (mn : Int)] W (fun e w' => e = .returned (.string ⟨sd.toArray⟩) ∧ Below W.heap.size W w') from fun W hW => by
              have h := itoa_any mn W (HMS.out.imp (fun h => by omega) fun h => ⟨by omega, h.below hW⟩)
              rw [dec_is, hsd] at h
              exact h)
            have HSD := Lib.hid hsd
            clear hr hsd
            go_wp2_with fail
            refine (codeTells kd mn P B2 nn c2 true _ HR.out).mono ?_
            rintro e w6 ⟨rfl, hx6⟩
            have HB6 := Lib.hid (HBj.out.keep hx6)
            have HG6 := Lib.hid (ch_below HGj.out hx6)
            have HX6 := Lib.hid (bthen HXj.out hx6)
            clear hx6 y0 y1 y2
            obtain ⟨y0, y1, y2⟩ := ch_cells HG6.out
            go_wp2_with fail
            refine (HDG.out _ HX6.out).mono ?_
            rintro e w8 ⟨rfl, hx8⟩
            have HB8 := Lib.hid (HB6.out.keep hx8)
            have HX8 := Lib.hid (bthen HX6.out hx8)
            clear hx8 y0 y1 y2
            go_wp2_with fail
            refine (write_any w.heap.size w.heap.size l2 _ _ HB8.out ?_).mono ?_
            · simp only [ByteArray.size_append]
              show l2.length + (2 + sd.toArray.size + 1) ≤ _
              rw [List.size_toArray]
              omega
            · rintro e w9 ⟨rfl, hB9, hK9⟩
              have HB9 := Lib.hid hB9
              have HX9 := Lib.hid (HX8.out.trans hK9.1)
              clear hB9 hK9
              go_wp2_with fail
              refine (writeByte_any w.heap.size w.heap.size _ 10 _ HB9.out ?_).mono ?_
              · rw [List.length_append, ← Lib.size_eq, ByteArray.size_append, ByteArray.size_append]
                show l2.length + (2 + sd.toArray.size + 1) + 1 ≤ _
                rw [List.size_toArray]
                omega
              · rintro e w7 ⟨rfl, hB7, hK7⟩
                have HB7 := Lib.hid hB7
                have HX7 := Lib.hid (HX9.out.trans hK7.1)
                clear hB7 hK7
                go_wp2
                go_roundg (n - (k + 1))
                case rel => exact ⟨k + 1, (by show _ = _; omega), by omega, by go_num, HB7.out.eq (by rw [HNX.out, HRW.out, HSD.out, ← HL2.out]; simp [ByteArray.data_append]), HX7.out⟩
                case measure => omega
    · have blt : decide ((k : Int) < (n : Int)) = false := decide_eq_false (by omega)
      have blt2 : decide (k < n) = false := decide_eq_false hlt
      have HBE := Lib.hid (show HasB wo w.heap.size w.heap.size (T.textD L) by have h := HBk.out; rw [List.take_of_length_le (by have := HN.out; omega)] at h; exact h)
      clear HBk
      go_wp2_with fail
      refine (string_any _ _ _ _ HBE.out).mono ?_
      rintro e w4 ⟨rfl, hK⟩
      go_wp2
      go_ret
      exact ⟨rfl, hbr.trans hK.1⟩
end Go.Proofs.YtgjnafnmdieniaaDoor
