/-
  Contracts of the document's blanks and Text (layer 4): the text of a tree is what the plain definition says; below the heap's size at the call the world is as it was. Condition: a tree.
-/
import Derived.Test.YtjgogjamkbmcjaaShowC
import Derived.Test.YtjgogjamkbmcjaaWordR
namespace Go.Proofs.Ytjgogjamkbmcjaa
open Go.RowKit
open S (RightT.text_len)

theorem byt_app (a b : List UInt8) : (⟨a.toArray⟩ : ByteArray) ++ (⟨b.toArray⟩ : ByteArray) = ⟨(a ++ b).toArray⟩ := by
  apply ByteArray.ext; simp [ByteArray.data_append]
theorem byt_size (a : List UInt8) : (⟨a.toArray⟩ : ByteArray).size = a.length := by show a.toArray.size = _; simp
theorem blanks_snoc (k : Nat) : S.blanksL (k + 1) = S.blanksL k ++ [32, 32] := by
  unfold S.blanksL
  rw [show 2 * (k + 1) = 2 * k + 2 by omega, ← List.replicate_append_replicate]; rfl

theorem refBlanks_any (n : Nat) (w : World) (hn : n ≤ 16) :
    Calls Try.prog 32 #[.int .i64 n] w (fun e w' => e = .returned (.string ⟨(S.blanksL n).toArray⟩) ∧ w = w') := by
  go_enter Try.func32, Try.ntmps32
  go_wp2
  go_loopg [3, 4] n (fun g v i wr => ∃ k : Nat, Hid (k + g = n) ∧ k ≤ n ∧ i = .int .i64 k ∧ v = .string ⟨(S.blanksL k).toArray⟩ ∧ w = wr)
  case atStart => exact ⟨0, Nat.zero_add _, Nat.zero_le _, rfl, rfl, rfl⟩
  case round =>
    obtain ⟨k, HG, hk, rfl, rfl, rfl⟩ := hrel
    have hlen := S.blanks_len k
    obtain ⟨B, hB⟩ : ∃ B, S.blanksL k = B := ⟨_, rfl⟩
    rw [hB] at hlen ⊢
    have HS := Lib.hid (show S.blanksL (k + 1) = B ++ [32, 32] by rw [blanks_snoc, hB])
    have HBe := Lib.hid hB
    clear hB
    by_cases hlt : k < n
    · have blt : decide (k < n) = true := decide_eq_true hlt
      go_wp2
      go_roundg (n - (k + 1))
      case rel => exact ⟨k + 1, (by show _ = _; have := HG.out; omega), by omega, by go_num, by rw [HS.out]; exact congrArg Value.string (ByteArray.ext (by simp [ByteArray.data_append])), rfl⟩
      case measure => have := HG.out; omega
    · have blt : decide (k < n) = false := decide_eq_false hlt
      obtain rfl : k = n := by omega
      go_wp2
      go_ret
      exact ⟨by rw [HBe.out]; rfl, rfl⟩
theorem blanks_is (n : Nat) (l : List UInt8) (w : World) (hn : n ≤ 16) (h : S.blanksL n = l) :
    Calls Try.prog 32 #[.int .i64 n] w (fun e w' => e = .returned (.string ⟨l.toArray⟩) ∧ w = w') := by rw [← h]; exact refBlanks_any n w hn
theorem refQuote_is (x l : List UInt8) (w : World) (hx : x.length ≤ 40) (h : W.quoteL x = l) : Calls Try.prog 33 #[.string (sB x)] w (WroteQ w.heap.size w l) := by
  have := quoteR_any (sB x) w (by rw [sB_size]; omega)
  rw [sB_data, h] at this
  exact this
theorem refEnd_is (A : Option Addr) (c : Nat) (t : List T.Ln) (i e : Nat) (w : World) (hA : Seen eL w A t) (hl : t.length ≤ 1073741824) (hi : i < t.length) (h : T.endL t i = e) :
    Calls Try.prog 34 #[.slice A t.length c, .int .i64 i] w (IntS w (e : Nat)) := by rw [← h]; exact refEnd_any A c t i w hA hi hl
/-- What a line's row is, as the document's answer makes it. -/
def lineR (B q : List UInt8) (m : Int) (o : Bool) : List UInt8 := B ++ S.markT m ++ q ++ (if o = true then [32, 123, 10] else [59, 10])

set_option maxRecDepth 100000 in
set_option maxHeartbeats 8000000 in
theorem refText_yes (A : Option Addr) (c : Nat) (t : List T.Ln) (w : World) (hA : Seen eL w A t) (hR : T.RightT t) :
    Calls Try.prog 18 #[.slice A t.length c] w (WroteQ w.heap.size w (S.textL t)) := by
  have HA := Lib.hid hA
  have HR := Lib.hid hR
  have hl : t.length ≤ 1073741824 := by have := hR.len; omega
  clear hA hR
  go_enter Try.func18, Try.ntmps18
  go_wp2
  go_loopg [3, 4] t.length (fun g v i wr => ∃ k : Nat, Hid (k + g = t.length) ∧ k ≤ t.length ∧ i = .int .i64 k ∧ v = .string ⟨(S.textTo t k).toArray⟩ ∧ Below w.heap.size w wr)
  case atStart => exact ⟨0, Nat.zero_add _, Nat.zero_le _, rfl, rfl, Below.refl _ _⟩
  case round =>
    obtain ⟨k, HG, hk, rfl, rfl, hb⟩ := hrel
    have HB := Lib.hid hb
    clear hb
    have htl := RightT.text_len HR.out k hk
    obtain ⟨T0, hT0⟩ : ∃ T0, S.textTo t k = T0 := ⟨_, rfl⟩
    rw [hT0] at htl ⊢
    by_cases hlt : k < t.length
    · have blt : decide (k < t.length) = true := decide_eq_true hlt
      obtain ⟨b, o, rfl, hbw, hL⟩ := HA.out.lines (by omega)
      have HL := Lib.hid hL
      obtain ⟨c0, c1, c2⟩ := (hL.below HB.out hbw).line hlt
      clear hL
      have hk200 : k < 200 := by have := HR.out.len; omega
      have hT1 : T0.length ≤ 200000 := by omega
      obtain ⟨nx, hnx⟩ : ∃ n, S.nextD t k = n := ⟨_, rfl⟩
      obtain ⟨d, hd⟩ := Int.eq_ofNat_of_zero_le (HR.out.deep k hlt).1
      have hd15 : d ≤ 15 := by have := (HR.out.deep k hlt).2; omega
      obtain ⟨o1, ho1⟩ : ∃ x, S.openB t k = x := ⟨_, rfl⟩
      obtain ⟨mk, hmk⟩ : ∃ x, (T.at_ t k).mark = x := ⟨_, rfl⟩
      obtain ⟨Bl, hBl⟩ : ∃ x, S.blanksL d = x := ⟨_, rfl⟩
      obtain ⟨q, hq⟩ : ∃ x, W.quoteL (T.wd t k) = x := ⟨_, rfl⟩
      obtain ⟨e1, he1⟩ : ∃ x, T.endL t k = x := ⟨_, rfl⟩
      have hBlen : Bl.length ≤ 30 := by rw [← hBl, S.blanks_len]; omega
      have hw := HR.out.long k hlt
      have hqlen : q.length ≤ 162 := by have := (W.quote_len (T.wd t k)).2; rw [hq] at this; omega
      have hge := (T.end_spec t k hlt).1
      have hop : S.openB t k = decide (k + 1 < e1) := by
        rw [S.leaf_open hlt, ← he1]; unfold T.leafB
        by_cases h : T.endL t k = k + 1
        · rw [h]; simp
        · have : k + 1 < T.endL t k := by omega
          simp [h, this]
      have boN : decide (k + 1 < e1) = o1 := by rw [← hop, ho1]
      have boI : decide ((k : Int) + 1 < (e1 : Int)) = o1 := by rw [← boN, Bool.eq_iff_iff, decide_eq_true_iff, decide_eq_true_iff]; omega
      have HRow := Lib.hid (show S.rowT t k = lineR Bl q mk o1 ++ S.closeT d nx by unfold S.rowT S.lineT lineR; rw [ho1, hnx, hd, Int.toNat_natCast, hBl, hq, hmk])
      obtain ⟨R, hRR⟩ : ∃ R, lineR Bl q mk o1 = R := ⟨_, rfl⟩
      have hRl : R.length ≤ 220 := by
        rw [← hRR]; unfold lineR
        have h1 : (S.markT mk).length ≤ 19 := by rw [S.mark_len]; split <;> split <;> omega
        have h2 : (if o1 = true then [32, 123, 10] else [59, 10] : List UInt8).length ≤ 3 := by split <;> simp
        rw [List.length_append, List.length_append, List.length_append]; omega
      have HRow2 := Lib.hid (HRow.out.trans (by rw [hRR]) : S.rowT t k = R ++ S.closeT d nx)
      have HRR := Lib.hid hRR
      have HD := Lib.hid hd
      have HNx := Lib.hid hnx
      have HBl := Lib.hid hBl
      have HQ := Lib.hid hq
      have HE := Lib.hid he1
      have HT0 := Lib.hid hT0
      have hm := HR.out.mark k hlt
      have hcl := S.close_len d nx hd15
      rw [hd] at c0
      rw [hmk] at c2 hm
      have hmks : mk = 0 ∨ mk = 1 ∨ mk = 2 ∨ mk = 3 := by omega
      have HX0 := Lib.hid (LineAt.new wr ⟨d, T.wd t k, mk⟩)
      have HW := Lib.hid (up wr (lnO ⟨d, T.wd t k, mk⟩))
      simp only [lnO] at HX0 HW
      clear HRow hRR hnx hd ho1 hmk hBl hq he1 hge hop hT0 hm
      rcases hmks with rfl | rfl | rfl | rfl <;> cases o1
      all_goals
        go_wp2_with fail
        refine (blanks_is d Bl _ (by omega) HBl.out).mono ?_
        rintro e wz ⟨rfl, rfl⟩
        go_wp2_with fail
        refine (refQuote_is _ q _ hw HQ.out).mono ?_
        rintro e w1 ⟨rfl, hb1⟩
        have HX := Lib.hid (HX0.out.below hb1)
        replace HB := Lib.hid (HB.out.trans ((bthen HW.out hb1).mono HB.out.size))
        clear hb1 c0 c1 c2
        obtain ⟨c0, c1, c2⟩ := HX.out.cells
        simp only [] at c0 c1 c2
        go_wp2_with fail
        refine (refEnd_is _ c t k e1 _ (HA.out.below HB.out) hl hlt HE.out).mono ?_
        rintro e w2 ⟨rfl, hb2⟩
        replace HX := Lib.hid (HX.out.below hb2)
        replace HB := Lib.hid (HB.out.trans (hb2.mono HB.out.size))
        clear hb2 c0 c1 c2
        obtain ⟨c0, c1, c2⟩ := HX.out.cells
        simp only [] at c0 c1 c2
        go_wp2
        go_loopg [3, 6] d (fun g v x wq => ∃ y : Int, y + 1 = g ∧ g ≤ d ∧ x = .int .i64 y ∧ (∃ acc, v = .string ⟨(T0 ++ R ++ acc).toArray⟩ ∧ acc ++ S.closeT g nx = S.closeT d nx) ∧ Below w.heap.size w wq)
        case atStart => exact ⟨(d : Int) - 1, by omega, Nat.le_refl _, rfl, ⟨[], by rw [← HRR.out]; exact congrArg Value.string (ByteArray.ext (by simp [lineR, S.markT, W.inactiveL, W.protectL, ByteArray.data_append])), rfl⟩, HB.out⟩
        case round =>
          obtain ⟨y, hy, hgd, rfl, ⟨acc, rfl, hacc⟩, hbq⟩ := hrel
          have HBq := Lib.hid hbq
          have hal : acc.length ≤ 480 := by
            have h1 := congrArg List.length hacc
            rw [List.length_append] at h1; omega
          have Hacc := Lib.hid hacc
          clear hbq hacc c0 c1 c2
          by_cases h0 : 0 ≤ y
          · obtain ⟨dd, rfl⟩ := Int.eq_ofNat_of_zero_le h0
            have hg1 : gk = dd + 1 := by omega
            subst hg1
            clear hy h0
            have HC := Lib.hid (S.close_step dd nx)
            obtain ⟨V, hV⟩ : ∃ V, T0 ++ R ++ acc = V := ⟨_, rfl⟩
            have hVl : V.length ≤ 200700 := by rw [← hV, List.length_append, List.length_append]; omega
            rw [hV]
            have HV := Lib.hid hV
            clear hV
            go_wp2
            go_loopg [7] k (fun g x wz => g ≤ k ∧ x = .int .i64 g ∧ Hid (∀ m, g < m → m ≤ k → (dd : Int) < T.dp t m) ∧ Below w.heap.size w wz)
            case atStart => exact ⟨Nat.le_refl _, rfl, (fun m h1 h2 => absurd h2 (by omega)), HBq.out⟩
            case round =>
              obtain ⟨hgk, rfl, HAll, hbz⟩ := hrel
              have HBz := Lib.hid hbz
              clear hbz
              have hgt : gk < t.length := by omega
              obtain ⟨k0, _, _⟩ := (HL.out.below HBz.out hbw).line hgt
              by_cases hdg : (dd : Int) < T.dp t gk
              · have bdg : decide ((dd : Int) < T.dp t gk) = true := decide_eq_true hdg
                have h0g : gk ≠ 0 := by
                  intro h
                  have := HR.out.first (by omega)
                  rw [h, this] at hdg; omega
                obtain ⟨g1, rfl⟩ : ∃ g1, gk = g1 + 1 := ⟨gk - 1, by omega⟩
                have HA2 : Hid (∀ m, g1 < m → m ≤ k → (dd : Int) < T.dp t m) := by
                  intro m h1 h2
                  rcases Nat.eq_or_lt_of_le h1 with h | h
                  · rw [← h]; exact hdg
                  · exact HAll m h h2
                clear hdg h0g
                go_wp2
                go_roundg g1
                case rel => exact ⟨by omega, by go_num, HA2, HBz.out⟩
                case measure => omega
              · have bdg : decide ((dd : Int) < T.dp t gk) = false := decide_eq_false hdg
                obtain ⟨e2, he2⟩ : ∃ x, T.endL t gk = x := ⟨_, rfl⟩
                have hci : e2 = k + 1 ↔ nx ≤ dd := by
                  have := S.RightT.closer_iff HR.out (i := k) (k := gk) (d := dd) hlt (by rw [HD.out]; omega) hgk HAll.out (by omega)
                  rw [he2, HNx.out] at this
                  exact this
                have HE2 := Lib.hid he2
                clear he2 hdg
                by_cases hnd : nx ≤ dd
                · have h2 := hci.2 hnd
                  have HC2 := Lib.hid (HC.out.trans (by rw [if_pos hnd]) : S.closeT (dd + 1) nx = (S.blanksL dd ++ [125, 10]) ++ S.closeT dd nx)
                  obtain ⟨B2, hB2⟩ : ∃ x, S.blanksL dd = x := ⟨_, rfl⟩
                  have hB2l : B2.length ≤ 30 := by rw [← hB2, S.blanks_len]; omega
                  have HB2 := Lib.hid hB2
                  subst h2
                  clear hci hnd hB2
                  go_wp2_with fail
                  refine (refEnd_is _ c t gk (k + 1) _ (HA.out.below HBz.out) hl hgt HE2.out).mono ?_
                  rintro e w3 ⟨rfl, hb3⟩
                  replace HBz := Lib.hid (HBz.out.trans (hb3.mono HBz.out.size))
                  clear hb3
                  go_wp2_with fail
                  refine (blanks_is dd B2 _ (by omega) HB2.out).mono ?_
                  rintro e wy ⟨rfl, rfl⟩
                  go_wp2
                  go_roundg dd
                  case rel =>
                    refine ⟨(dd : Int) - 1, by omega, by omega, by go_num, ⟨acc ++ (B2 ++ [125, 10]), ?_, ?_⟩, HBz.out⟩
                    · rw [← List.append_assoc, HV.out]; exact congrArg Value.string (ByteArray.ext (by simp [ByteArray.data_append]))
                    · rw [← Hacc.out, HC2.out, HB2.out]; simp only [List.append_assoc]
                  case measure => omega
                · have bnd : ((e2 : Int) == (k : Int) + 1) = false := beq_eq_false_iff_ne.2 (fun h => hnd (hci.1 (by omega)))
                  have bnd2 : (e2 == k + 1) = false := beq_eq_false_iff_ne.2 (fun h => hnd (hci.1 h))
                  have HC2 := Lib.hid (HC.out.trans (by rw [if_neg hnd]; rfl) : S.closeT (dd + 1) nx = S.closeT dd nx)
                  clear hci hnd
                  go_wp2_with fail
                  refine (refEnd_is _ c t gk e2 _ (HA.out.below HBz.out) hl hgt HE2.out).mono ?_
                  rintro e w3 ⟨rfl, hb3⟩
                  replace HBz := Lib.hid (HBz.out.trans (hb3.mono HBz.out.size))
                  clear hb3
                  go_wp2
                  go_roundg dd
                  case rel =>
                    refine ⟨(dd : Int) - 1, by omega, by omega, by go_num, ⟨acc, by rw [HV.out], ?_⟩, HBz.out⟩
                    rw [← Hacc.out, HC2.out]
                  case measure => omega
          · have hg0 : gk = 0 := by omega
            subst hg0
            have b0 : decide ((0 : Int) ≤ y) = false := decide_eq_false h0
            go_wp2
            go_roundg (t.length - (k + 1))
            case rel =>
              refine ⟨k + 1, (by show _ = _; have := HG.out; omega), by omega, by go_num, ?_, HBq.out⟩
              rw [S.text_next, HT0.out, HRow2.out, ← Hacc.out]
              simp only [S.closeT, List.append_nil]
            case measure => have := HG.out; omega
    · have blt : decide (k < t.length) = false := decide_eq_false hlt
      obtain rfl : k = t.length := by omega
      go_wp2
      go_ret
      exact ⟨by rw [← hT0]; rfl, HB.out⟩
end Go.Proofs.Ytjgogjamkbmcjaa
