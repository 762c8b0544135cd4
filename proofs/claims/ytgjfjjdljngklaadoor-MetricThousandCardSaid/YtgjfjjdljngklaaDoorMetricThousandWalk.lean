/-
  The walk of layer 11's statement MetricThousand, from what metric does: it returns true whatever the two numbers are. No conditions.
-/
import Derived.Test.YtgjfjjdljngklaaDoorMetricA
import Derived.Laws.Concat
namespace Go.Proofs.YtgjfjjdljngklaaDoor
open Go.RowKit
open F
set_option linter.unusedVariables false

theorem F.rank_plus {x : Nat} (h : x < 9218868437227405312) : rankF x = (x : Int) := by
  obtain ⟨h1, h2, h3, _⟩ := plus_parts h
  rw [rank_pos h3 h2, h1]
theorem F.thou_ahead {n m : Nat} (hn : n < 1000000000) (hm : m < 1000000000) : aheadB (thouW n) (thouW m) = decide (n < m) := by
  unfold aheadB
  rw [rank_plus (thou_word hn).2.1, rank_plus (thou_word hm).2.1]
  refine decide_eq_decide.2 ⟨fun h => ?_, fun h => ?_⟩
  · rcases Nat.lt_or_ge n m with k | k
    · exact k
    · rcases Nat.lt_or_ge m n with k2 | k2
      · have := thouW_lt k2 hn; omega
      · obtain rfl : n = m := by omega
        omega
  · have := thouW_lt h hm; omega
theorem F.neg_ahead {x : Nat} (h : x < 9218868437227405312) : aheadB (negW x) x = true ∧ negW x < 18446744073709551616 := by
  obtain ⟨h1, h2, h3, _⟩ := plus_parts h
  obtain ⟨q1, q2, q3⟩ := neg_parts (show x < 18446744073709551616 by omega)
  have hn : nanB (negW x) = false := by unfold nanB; rw [q1, h1]; exact decide_eq_false (by omega)
  refine ⟨?_, q3⟩
  unfold aheadB
  rw [rank_plus h, rank_neg hn (by rw [q2, h2]; rfl)]
  exact decide_eq_true (by omega)
theorem bounds_u32 {n : Int} (h : (Lit.int .u32 n).wf = true) : 0 ≤ n ∧ n ≤ 4294967295 := by
  unfold Lit.wf at h
  simp only [Bool.and_eq_true, decide_eq_true_eq] at h
  rw [show IntKind.u32.min = 0 by decide, show IntKind.u32.max = 4294967295 by decide] at h
  exact h
set_option maxRecDepth 100000 in
set_option maxHeartbeats 4000000 in
theorem metricThousand_walk (E : MetricOk) (AW : ∀ w, TabOk w → Calls Tryd.prog 16 #[] w (TrueS w)) (w : World) (HTAB : TabOk w) (a : Int) (wa : (Lit.int .u32 a).wf = true) (b : Int) (wb : (Lit.int .u32 b).wf = true) :
    Calls Tryd.prog 10 #[.int .u32 a, .int .u32 b] w (TrueS w) := by
  have TAB := Lib.hid HTAB
  clear HTAB
  have ba := bounds_u32 wa
  have bb := bounds_u32 wb
  clear wa wb
  obtain ⟨p, rfl⟩ := Int.eq_ofNat_of_zero_le ba.1
  obtain ⟨o, rfl⟩ := Int.eq_ofNat_of_zero_le bb.1
  obtain ⟨n, hn⟩ : ∃ n, p % 1000000000 = n := ⟨_, rfl⟩
  obtain ⟨m, hm⟩ : ∃ m, o % 1000000000 = m := ⟨_, rfl⟩
  have hn9 : n < 1000000000 := by omega
  have hm9 : m < 1000000000 := by omega
  have e1 : Int.tmod (p : Int) 1000000000 = (n : Int) := by rw [Int.tmod_eq_emod_of_nonneg (by omega)]; omega
  have e2 : Int.tmod (o : Int) 1000000000 = (m : Int) := by rw [Int.tmod_eq_emod_of_nonneg (by omega)]; omega
  have u1 : IntKind.u32.wrap (n : Int) = (n : Int) := by rw [IntKind.wrap_u32]; omega
  have u2 : IntKind.u32.wrap (m : Int) = (m : Int) := by rw [IntKind.wrap_u32]; omega
  have v1 : IntKind.i64.wrap (n : Int) = (n : Int) := wrap_big (by omega)
  have v2 : IntKind.i64.wrap (m : Int) = (m : Int) := wrap_big (by omega)
  obtain ⟨x, hx⟩ : ∃ x, thouW n = x := ⟨_, rfl⟩
  obtain ⟨y, hy⟩ : ∃ y, thouW m = y := ⟨_, rfl⟩
  have hxi : x < 9218868437227405312 := by rw [← hx]; exact (thou_word hn9).2.1
  have hyi : y < 9218868437227405312 := by rw [← hy]; exact (thou_word hm9).2.1
  obtain ⟨x1, x2, x3, x4⟩ := plus_parts hxi
  obtain ⟨z, hz⟩ : ∃ z, negW x = z := ⟨_, rfl⟩
  have kn := fun (w : World) => show Sem.run Tryd.prog (Op.unary UnOp.neg (Value.float FloatKind.f64 x)) w = .ok (.float .f64 z) w by
    have e : Op.negFloat .f64 x = z := hz
    rw [← e]; rfl
  obtain ⟨q1, q2, q3⟩ := neg_parts (show x < 18446744073709551616 by omega)
  rw [hz] at q1 q2 q3
  have k1 := fun (t : TypeId) (w : World) => run_float_arith (P := Tryd.prog) w .quo t .f64 (floatOfInt .f64 (n : Int)) 4652007308841189376 x (by rw [← hx]; exact thou_quo hn9)
  have k2 := fun (t : TypeId) (w : World) => run_float_arith (P := Tryd.prog) w .quo t .f64 (floatOfInt .f64 (m : Int)) 4652007308841189376 y (by rw [← hy]; exact thou_quo hm9)
  have HTX := Lib.hid (show TextIs x (some (thoT n)) from .inr (.inr (.inl ⟨n, hn9, by rw [x1, hx], by rw [x2]; rfl⟩)))
  have HTZ := Lib.hid (show TextIs z (some (45 :: thoT n)) from .inr (.inr (.inl ⟨n, hn9, by rw [q1, x1, hx], by rw [q2, x2]; rfl⟩)))
  obtain ⟨s, hs⟩ : ∃ s, sB (thoT n) = s := ⟨_, rfl⟩
  obtain ⟨t, ht⟩ : ∃ t, sB (45 :: thoT n) = t := ⟨_, rfl⟩
  have hcat : (⟨#[45]⟩ : ByteArray) ++ s = t := by rw [← hs, ← ht]; exact ByteArray.ext (by simp [ByteArray.data_append, sB])
  have hadd := fun (w : World) => show Sem.run Tryd.prog (Op.stringOp .add (⟨#[45]⟩ : ByteArray) s) w = .ok (.string t) w by
    rw [run_string_add_sum (P := Tryd.prog) (w := w) ⟨#[45]⟩ s (by rw [← hs, sB_size]; have := thoT_len n hn9; show 1 + _ ≤ _; omega), hcat]
  clear hcat
  have HS := Lib.hid (show sB ((some (thoT n)).getD []) = s from hs)
  have HT := Lib.hid (show sB ((some (45 :: thoT n)).getD []) = t from ht)
  have HSZ := Lib.hid (show s.size ≤ 100 by rw [← hs, sB_size]; have := thoT_len n hn9; omega)
  have HSD := Lib.hid (show s.data.toList = thoT n by rw [← hs, sB_data])
  have HX := Lib.hid (show x < 18446744073709551616 by omega)
  have HY := Lib.hid (show y < 18446744073709551616 by omega)
  have HZ := Lib.hid q3
  have b1 : (FloatKind.f64.format.order x x == some .eq) = true := by rw [cmp_eq HX.out HX.out, eq_self, x3]; rfl
  obtain ⟨lb, hlb⟩ : ∃ lb, decide (n < m) = lb := ⟨_, rfl⟩
  have HLB := Lib.hid (show aheadB x y = lb by rw [← hx, ← hy, thou_ahead hn9 hm9]; exact hlb)
  have hlbi : decide ((n : Int) < (m : Int)) = lb := by rw [← hlb]; exact decide_eq_decide.2 (by omega)
  have HNZ := Lib.hid (show aheadB z x = true by rw [← hz]; exact (neg_ahead hxi).1)
  have HX3 := Lib.hid x3
  have hb : Below w.heap.size w w := Below.refl _ _
  clear hn hm hx hy hxi hyi x1 x2 x3 x4 hz q1 q2 q3 hs ht hn9 hm9 ba bb
  by_cases h0 : n = 0
  · have c1 : ((n : Int) == 0) = true := beq_iff_eq.2 (by omega)
    have c2 : (n == 0) = true := beq_iff_eq.2 h0
    clear h0
    go_enter Tryd.func10, Tryd.ntmps10
    go_wp2_with fail
    refine (E.textOf x _ s true _ HX.out (tabAt11 TAB (by first | assumption | exact Below.refl _ _ | exact below_drawn11 (by first | assumption | exact Below.refl _ _) _)) HTX.out HS.out rfl).mono ?_
    rintro e w1 ⟨rfl, hx⟩
    replace hb := bthen hb hx
    clear hx
    go_wp2_with fail
    refine (E.textOf z _ t true _ HZ.out (tabAt11 TAB (by first | assumption | exact Below.refl _ _ | exact below_drawn11 (by first | assumption | exact Below.refl _ _) _)) HTZ.out HT.out rfl).mono ?_
    rintro e w2 ⟨rfl, hx⟩
    replace hb := bthen hb hx
    clear hx
    go_wp2_with fail
    refine (E.readOf s _ HSZ.out).mono ?_
    rintro e w3 ⟨r, ok, rfl, hr, hx⟩
    replace hb := bthen hb hx
    clear hx
    rw [HSD.out] at hr
    obtain ⟨rfl, h5⟩ := text_read HX.out HTX.out hr
    obtain rfl : r = x := h5.elim id (fun h => by have := HX3.out; rw [h.1] at this; cases this)
    clear hr h5
    go_wp2_with fail
    refine (E.lessOf r y lb _ HX.out HY.out HLB.out).mono ?_
    rintro e w4 ⟨rfl, hx⟩
    replace hb := bthen hb hx
    clear hx
    go_wp2_with fail
    refine (AW _ (tabAt11 TAB (by first | assumption | exact Below.refl _ _ | exact below_drawn11 (by first | assumption | exact Below.refl _ _) _))).mono ?_
    rintro e w5 ⟨rfl, hx⟩
    go_wp2
    go_ret
    exact ⟨rfl, bthen hb hx⟩
  · have c1 : ((n : Int) == 0) = false := beq_eq_false_iff_ne.2 (by omega)
    have c2 : (n == 0) = false := beq_eq_false_iff_ne.2 h0
    clear h0
    go_enter Tryd.func10, Tryd.ntmps10
    go_wp2_with fail
    refine (E.textOf x _ s true _ HX.out (tabAt11 TAB (by first | assumption | exact Below.refl _ _ | exact below_drawn11 (by first | assumption | exact Below.refl _ _) _)) HTX.out HS.out rfl).mono ?_
    rintro e w1 ⟨rfl, hx⟩
    replace hb := bthen hb hx
    clear hx
    go_wp2_with fail
    refine (E.textOf z _ t true _ HZ.out (tabAt11 TAB (by first | assumption | exact Below.refl _ _ | exact below_drawn11 (by first | assumption | exact Below.refl _ _) _)) HTZ.out HT.out rfl).mono ?_
    rintro e w2 ⟨rfl, hx⟩
    replace hb := bthen hb hx
    clear hx
    go_wp2_with fail
    refine (E.readOf s _ HSZ.out).mono ?_
    rintro e w3 ⟨r, ok, rfl, hr, hx⟩
    replace hb := bthen hb hx
    clear hx
    rw [HSD.out] at hr
    obtain ⟨rfl, h5⟩ := text_read HX.out HTX.out hr
    obtain rfl : r = x := h5.elim id (fun h => by have := HX3.out; rw [h.1] at this; cases this)
    clear hr h5
    go_wp2_with fail
    refine (E.lessOf r y lb _ HX.out HY.out HLB.out).mono ?_
    rintro e w4 ⟨rfl, hx⟩
    replace hb := bthen hb hx
    clear hx
    go_wp2_with fail
    refine (E.lessOf z r true _ HZ.out HX.out HNZ.out).mono ?_
    rintro e w5 ⟨rfl, hx⟩
    replace hb := bthen hb hx
    clear hx
    go_wp2_with fail
    refine (AW _ (tabAt11 TAB (by first | assumption | exact Below.refl _ _ | exact below_drawn11 (by first | assumption | exact Below.refl _ _) _))).mono ?_
    rintro e w6 ⟨rfl, hx⟩
    go_wp2
    go_ret
    exact ⟨rfl, bthen hb hx⟩
end Go.Proofs.YtgjfjjdljngklaaDoor
