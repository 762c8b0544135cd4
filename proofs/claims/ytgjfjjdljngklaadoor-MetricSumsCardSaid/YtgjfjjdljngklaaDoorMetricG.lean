/-
  Layer 11's code: decimal, Text. Condition: that the library's table uint64pow10 holds its numbers.
-/
import Derived.Test.YtgjfjjdljngklaaDoorMetricF
import Derived.Test.YtgjfjjdljngklaaDoorMetricJ
namespace Go.Proofs.YtgjfjjdljngklaaDoor
open Go.RowKit
open F
set_option linter.unusedVariables false

theorem dec_is11 (n : Nat) : Lib.decDigits n = T.decL n := by
  induction n using Nat.strongRecOn with
  | _ n ih =>
    by_cases h : n < 10
    · rw [T.decL_small h, Lib.decDigits, dif_pos h]
    · rw [T.decL_big (by omega), Lib.decDigits, dif_neg h, ih (n / 10) (by omega)]
theorem itoa_q11 (n : Nat) (z : Int) (q : ByteArray) (w : World) (hz : z = (n : Int)) (hn : n ≤ 1000000000) (HT : TabOk w) (hq : sB (T.decL n) = q) : Calls Tryd.prog 43 #[.int .i64 z] w (fun e w' => e = .returned (.string q) ∧ Below w.heap.size w w') := by
  subst hz
  refine (itoa_any n w (.inr ⟨hn, HT⟩)).mono ?_
  rintro e w1 ⟨rfl, hb⟩
  refine ⟨?_, hb⟩
  rw [dec_is11, ← hq]; rfl
theorem F.dec_size {n : Nat} (h : n < 10000000000) : (T.decL n).length ≤ 10 := T.decL_len 9 n h
set_option maxRecDepth 100000 in
set_option maxHeartbeats 2000000 in
theorem decimal_any (n : Nat) (z : Int) (q : ByteArray) (w : World) (hz : z = (n : Int)) (hn : n < 1000000000) (HT : TabOk w) (hq : sB (thoT n) = q) : Calls Tryd.prog 36 #[.int .i64 z] w (fun e w' => e = .returned (.string q) ∧ Below w.heap.size w w') := by
  subst hz
  have TAB := Lib.hid HT
  obtain ⟨na, hna⟩ : ∃ na, n / 1000 = na := ⟨_, rfl⟩
  obtain ⟨kk, hkk⟩ : ∃ kk, n % 1000 = kk := ⟨_, rfl⟩
  obtain ⟨e1, e2, e3, e4, hna6, hk1000⟩ := parts11 hn hna hkk
  obtain ⟨sa, hsa⟩ : ∃ sa, sB (T.decL na) = sa := ⟨_, rfl⟩
  have HSA := Lib.hid hsa
  have HNA := Lib.hid (show na ≤ 1000000000 by omega)
  have HSAZ := Lib.hid (show sa.size ≤ 10 by rw [← hsa, sB_size]; exact dec_size (by omega))
  by_cases h0 : kk = 0
  · have c1 : ((kk : Int) == 0) = true := beq_iff_eq.2 (by omega)
    have c2 : (kk == 0) = true := beq_iff_eq.2 h0
    have HQ := Lib.hid (show sa = q by rw [← hsa, ← hq]; unfold thoT; rw [hna, hkk, if_pos h0, List.append_nil])
    clear hna hkk hn HT hq hsa h0 hna6 hk1000
    go_enter Tryd.func36, Tryd.ntmps36
    go_wp2_with fail
    refine (itoa_q11 na _ sa _ rfl HNA.out TAB.out HSA.out).mono ?_
    rintro e w1 ⟨rfl, hb⟩
    go_wp2
    go_ret
    exact ⟨by rw [HQ.out]; rfl, hb⟩
  · have c1 : ((kk : Int) == 0) = false := beq_eq_false_iff_ne.2 (by omega)
    have c2 : (kk == 0) = false := beq_eq_false_iff_ne.2 h0
    obtain ⟨p, hp⟩ : ∃ p, 1000 + kk = p := ⟨_, rfl⟩
    have w3 : IntKind.i64.wrap (1000 + (kk : Int)) = (p : Int) := by rw [← hp]; exact thou11 hk1000
    obtain ⟨sp, hsp⟩ : ∃ sp, sB (T.decL p) = sp := ⟨_, rfl⟩
    have hd4 : T.decL p = [49, digC (kk / 100), digC (kk / 10 % 10), digC (kk % 10)] := by rw [← hp]; exact dec_four hk1000
    have hspz : sp.size = 4 := by rw [← hsp, sB_size, hd4]; rfl
    obtain ⟨tp, htp⟩ : ∃ tp, sp.extract 1 4 = tp := ⟨_, rfl⟩
    have htd : tp.data.toList = [digC (kk / 100), digC (kk / 10 % 10), digC (kk % 10)] := by
      rw [← htp, Lib.extract_data, ← hsp, sB_data, hd4]; rfl
    have htpz : tp.size = 3 := by rw [Lib.size_eq, htd]; rfl
    obtain ⟨tn, htn⟩ : ∃ tn : ByteArray, (⟨(Lib.trimRightB tp.data.toList 48).toArray⟩ : ByteArray) = tn := ⟨_, rfl⟩
    have htn2 : tn = sB (fracT kk) := by rw [← htn, htd, trim_frac hk1000 h0]; rfl
    have htnz : tn.size ≤ 3 := by rw [htn2, sB_size]; exact (frac_len kk).2
    have hadd1 := fun (w : World) => show Sem.run Tryd.prog (Op.stringOp .add sa (⟨#[46]⟩ : ByteArray)) w = .ok (.string (sa ++ (⟨#[46]⟩ : ByteArray))) w from run_string_add_sum (P := Tryd.prog) (w := w) sa ⟨#[46]⟩ (by have := HSAZ.out; show _ + 1 ≤ _; omega)
    have hadd2 : ∀ w : World, Sem.run Tryd.prog (Op.stringOp .add (sa ++ (⟨#[46]⟩ : ByteArray)) tn) w = .ok (.string q) w := fun w => by
      rw [run_string_add_sum (P := Tryd.prog) (w := w) _ tn (by rw [ByteArray.size_append]; have := HSAZ.out; show _ + 1 + _ ≤ _; omega), htn2, ← hsa, show (⟨#[46]⟩ : ByteArray) = sB [46] from rfl, sB_add11, sB_add11, ← hq]
      unfold thoT
      rw [hna, hkk, if_neg h0, List.append_assoc]; rfl
    have HP := Lib.hid (show p ≤ 1000000000 by omega)
    have HSP := Lib.hid hsp
    have HTN := Lib.hid htn
    have HTPZ := Lib.hid htpz
    clear hna hkk hn HT hq hsa h0 hna6 hk1000 hp hsp hd4 htd htn htn2 htnz htpz
    go_enter Tryd.func36, Tryd.ntmps36
    go_wp2_with fail
    refine (itoa_q11 na _ sa _ rfl HNA.out TAB.out HSA.out).mono ?_
    rintro e w1 ⟨rfl, hb⟩
    go_wp2_with fail
    refine (itoa_q11 p _ sp _ rfl HP.out (tabAt11 TAB hb) HSP.out).mono ?_
    rintro e w2 ⟨rfl, hx⟩
    replace hb := bthen hb hx
    clear hx
    go_wp2_with fail
    refine (trimRight_one tp 48 (by decide) _ (by rw [HTPZ.out]; decide)).mono ?_
    rintro e w3 ⟨rfl, rfl⟩
    rw [HTN.out]
    go_wp2
    go_ret
    exact ⟨rfl, hb⟩
theorem F.text_none {x : Nat} (hn : nanB x = false) (hi : infB x = false) (h : ∀ n, n < 1000000000 → rung x ≠ thouW n) {o : Option (List UInt8)} (ht : TextIs x o) : o = none :=
  text_one ht (.inr (.inr (.inr ⟨hn, hi, h, rfl⟩)))
theorem F.le_mio {g : Nat} (h : g < 9218868437227405312) : ltB 4696837146684686336 g = decide (4696837146684686336 < g) := by
  obtain ⟨a, b, c, d⟩ := plus_parts h
  obtain ⟨h1, _⟩ := big_cmp c
  rw [h1, a, b]; rfl
set_option maxRecDepth 100000 in
set_option maxHeartbeats 2000000 in
theorem text_any11 (x : Nat) (o : Option (List UInt8)) (q : ByteArray) (ok : Bool) (w : World) (hx : x < 18446744073709551616) (HT : TabOk w) (ht : TextIs x o) (hq : sB (o.getD []) = q) (hok : o.isSome = ok) :
    Calls Tryd.prog 20 #[.float .f64 x] w (fun e w' => e = .returned (.tuple #[.string q, .bool ok]) ∧ Below w.heap.size w w') := by
  have HX := Lib.hid hx
  have TAB := Lib.hid HT
  clear HT
  cases hn : nanB x with
  | true =>
    have HN := Lib.hid hn
    obtain rfl : o = some [110, 97, 110] := text_one ht (.inl ⟨hn, rfl⟩)
    have HQ0 := Lib.hid hq
    subst hok
    clear hq hn hx ht
    go_enter Tryd.func20, Tryd.ntmps20
    go_wp2_with fail
    refine (isNan_any x true _ HX.out HN.out).mono ?_
    rintro e w1 ⟨rfl, rfl⟩
    go_wp2
    go_ret2
    exact ⟨by rw [← HQ0.out]; rfl, Below.refl _ _⟩
  | false =>
  have HN := Lib.hid hn
  cases hi : infB x with
  | true =>
    obtain rfl : o = some (sgnT (negB x) [105, 110, 102]) := text_one ht (.inr (.inl ⟨hi, rfl⟩))
    subst hok
    cases hs : negB x with
    | true =>
      have HI1 := Lib.hid (show (infB x && !negB x) = false by rw [hi, hs]; rfl)
      have HI2 := Lib.hid (show (infB x && negB x) = true by rw [hi, hs]; rfl)
      rw [hs] at hq
      have HQ0 := Lib.hid hq
      clear hq hn hx ht hi hs
      go_enter Tryd.func20, Tryd.ntmps20
      go_wp2_with fail
      refine (isNan_any x false _ HX.out HN.out).mono ?_
      rintro e w1 ⟨rfl, rfl⟩
      go_wp2_with fail
      refine (isInf_plus x false _ HX.out HI1.out).mono ?_
      rintro e w1 ⟨rfl, rfl⟩
      go_wp2_with fail
      refine (isInf_minus x true _ HX.out HI2.out).mono ?_
      rintro e w1 ⟨rfl, rfl⟩
      go_wp2
      go_ret2
      exact ⟨by rw [← HQ0.out]; rfl, Below.refl _ _⟩
    | false =>
      have HI1 := Lib.hid (show (infB x && !negB x) = true by rw [hi, hs]; rfl)
      rw [hs] at hq
      have HQ0 := Lib.hid hq
      clear hq hn hx ht hi hs
      go_enter Tryd.func20, Tryd.ntmps20
      go_wp2_with fail
      refine (isNan_any x false _ HX.out HN.out).mono ?_
      rintro e w1 ⟨rfl, rfl⟩
      go_wp2_with fail
      refine (isInf_plus x true _ HX.out HI1.out).mono ?_
      rintro e w1 ⟨rfl, rfl⟩
      go_wp2
      go_ret2
      exact ⟨by rw [← HQ0.out]; rfl, Below.refl _ _⟩
  | false =>
  have HI1 := Lib.hid (show (infB x && !negB x) = false by rw [hi]; rfl)
  have HI2 := Lib.hid (show (infB x && negB x) = false by rw [hi]; rfl)
  obtain ⟨g, hg⟩ : ∃ g, rung x = g := ⟨_, rfl⟩
  have hgi : g < 9218868437227405312 := by
    have h1 := nan_no hn
    have h2 : ¬ rung x = 9218868437227405312 := of_decide_eq_false hi
    omega
  have HG := Lib.hid hg
  have hb : Below w.heap.size w w := Below.refl _ _
  by_cases hbig : 4696837146684686336 ≤ g
  · obtain rfl : o = none := text_none hn hi (fun n hn9 e => by have := thou_mio hn9; omega) ht
    subst hok
    have c1 : (FloatKind.f64.format.order g 4696837146684686336 == some .gt || FloatKind.f64.format.order g 4696837146684686336 == some .eq) = true := by
      rw [cmp_gt (by omega) (by omega), cmp_eq (by omega) (by omega), le_mio hgi, plus_eq hgi (by omega)]
      by_cases e : 4696837146684686336 < g
      · rw [decide_eq_true e]; rfl
      · rw [decide_eq_true (show g = 4696837146684686336 by omega), Bool.or_true]
    have HQ0 := Lib.hid hq
    clear hq hn hx ht hi hg hgi hbig
    go_enter Tryd.func20, Tryd.ntmps20
    go_wp2_with fail
    refine (isNan_any x false _ HX.out HN.out).mono ?_
    rintro e w1 ⟨rfl, rfl⟩
    go_wp2_with fail
    refine (isInf_plus x false _ HX.out HI1.out).mono ?_
    rintro e w1 ⟨rfl, rfl⟩
    go_wp2_with fail
    refine (isInf_minus x false _ HX.out HI2.out).mono ?_
    rintro e w1 ⟨rfl, rfl⟩
    go_wp2_with fail
    refine (abs_any x g _ HX.out HG.out).mono ?_
    rintro e w1 ⟨rfl, rfl⟩
    go_wp2
    go_ret2
    exact ⟨by rw [← HQ0.out]; rfl, hb⟩
  have c1 : (FloatKind.f64.format.order g 4696837146684686336 == some .gt || FloatKind.f64.format.order g 4696837146684686336 == some .eq) = false := by
    rw [cmp_gt (by omega) (by omega), cmp_eq (by omega) (by omega), le_mio hgi, plus_eq hgi (by omega), decide_eq_false (show ¬ 4696837146684686336 < g by omega), decide_eq_false (show ¬ g = 4696837146684686336 by omega)]; rfl
  obtain ⟨y, m, f1, f2, f3, f4, f5, f6, f7, f8⟩ := text_back (g := g) (by omega)
  obtain ⟨tm, htm⟩ : ∃ tm, thouW m = tm := ⟨_, rfl⟩
  have hni := near_int f4
  obtain ⟨wm, hwm⟩ : ∃ wm, Ieee.double.nearest false m 0 = wm := ⟨_, rfl⟩
  rw [hwm] at f3 f5 hni
  rw [htm] at f5 f6 f7
  have k1 := fun (t : TypeId) (w : World) => run_float_arith (P := Tryd.prog) w .mul t .f64 g 4652007308841189376 y f1
  have k2 := fun (t : TypeId) (w : World) => run_float_arith (P := Tryd.prog) w .quo t .f64 wm 4652007308841189376 tm f5
  have HF2 := Lib.hid f2
  have HF3 := Lib.hid f3
  by_cases he : tm = g
  · have hm9 := f7 he
    have d1 : (FloatKind.f64.format.order tm g != some .eq) = false := by rw [cmp_ne (by omega) (by omega), plus_eq f6 hgi, decide_eq_true he]; rfl
    obtain rfl : o = some (sgnT (negB x) (thoT m)) := text_one ht (.inr (.inr (.inl ⟨m, hm9, by rw [hg, ← he, htm], rfl⟩)))
    subst hok
    have k3 := fun (w : World) => run_convert_float_int (P := Tryd.prog) w 22 3 .f64 .i64 wm (m : Int) (by kernel_rfl) (by kernel_rfl) hni
    obtain ⟨s3, hs3⟩ : ∃ s3, sB (thoT m) = s3 := ⟨_, rfl⟩
    have HS3 := Lib.hid hs3
    have HM := Lib.hid hm9
    cases hs : negB x with
    | true =>
      have HS := Lib.hid hs
      rw [hs] at hq
      have hadd : ∀ w : World, Sem.run Tryd.prog (Op.stringOp .add (⟨#[45]⟩ : ByteArray) s3) w = .ok (.string q) w := fun w => by
        rw [run_string_add_sum (P := Tryd.prog) (w := w) ⟨#[45]⟩ s3 (by rw [← HS3.out, sB_size]; have := thoT_len m HM.out; show 1 + _ ≤ _; omega), ← hs3, ← hq, show (⟨#[45]⟩ : ByteArray) = sB [45] from rfl, sB_add11]; rfl
      clear hq hn hx ht hi hg hgi hbig f1 f2 f3 f4 f5 f6 f7 f8 htm hni hwm he hm9 hs3 hs
      go_enter Tryd.func20, Tryd.ntmps20
      go_wp2_with fail
      refine (isNan_any x false _ HX.out HN.out).mono ?_
      rintro e w1 ⟨rfl, rfl⟩
      go_wp2_with fail
      refine (isInf_plus x false _ HX.out HI1.out).mono ?_
      rintro e w1 ⟨rfl, rfl⟩
      go_wp2_with fail
      refine (isInf_minus x false _ HX.out HI2.out).mono ?_
      rintro e w1 ⟨rfl, rfl⟩
      go_wp2_with fail
      refine (abs_any x g _ HX.out HG.out).mono ?_
      rintro e w1 ⟨rfl, rfl⟩
      go_wp2_with fail
      refine (round_any y wm _ HF2.out HF3.out).mono ?_
      rintro e w1 ⟨rfl, rfl⟩
      go_wp2_with fail
      refine (decimal_any m _ s3 _ rfl HM.out (tabAt11 TAB hb) HS3.out).mono ?_
      rintro e w2 ⟨rfl, hx⟩
      replace hb := bthen hb hx
      clear hx
      go_wp2_with fail
      refine (signbit_any x true _ HX.out HS.out).mono ?_
      rintro e w3 ⟨rfl, rfl⟩
      go_wp2
      go_ret2
      exact ⟨rfl, hb⟩
    | false =>
      have HS := Lib.hid hs
      rw [hs] at hq
      have HQ0 := Lib.hid (show s3 = q by rw [← hs3, ← hq]; rfl)
      clear hq hn hx ht hi hg hgi hbig f1 f2 f3 f4 f5 f6 f7 f8 htm hni hwm he hm9 hs3 hs
      go_enter Tryd.func20, Tryd.ntmps20
      go_wp2_with fail
      refine (isNan_any x false _ HX.out HN.out).mono ?_
      rintro e w1 ⟨rfl, rfl⟩
      go_wp2_with fail
      refine (isInf_plus x false _ HX.out HI1.out).mono ?_
      rintro e w1 ⟨rfl, rfl⟩
      go_wp2_with fail
      refine (isInf_minus x false _ HX.out HI2.out).mono ?_
      rintro e w1 ⟨rfl, rfl⟩
      go_wp2_with fail
      refine (abs_any x g _ HX.out HG.out).mono ?_
      rintro e w1 ⟨rfl, rfl⟩
      go_wp2_with fail
      refine (round_any y wm _ HF2.out HF3.out).mono ?_
      rintro e w1 ⟨rfl, rfl⟩
      go_wp2_with fail
      refine (decimal_any m _ s3 _ rfl HM.out (tabAt11 TAB hb) HS3.out).mono ?_
      rintro e w2 ⟨rfl, hx⟩
      replace hb := bthen hb hx
      clear hx
      go_wp2_with fail
      refine (signbit_any x false _ HX.out HS.out).mono ?_
      rintro e w3 ⟨rfl, rfl⟩
      go_wp2
      go_ret2
      exact ⟨by rw [HQ0.out]; rfl, hb⟩
  · have d1 : (FloatKind.f64.format.order tm g != some .eq) = true := by rw [cmp_ne (by omega) (by omega), plus_eq f6 hgi, decide_eq_false he]; rfl
    obtain rfl : o = none := text_none hn hi (fun n hn9 e => he (by have e2 : m = n := f8 n hn9 (by rw [← hg, e]); rw [← htm, e2, ← e, hg])) ht
    subst hok
    have HQ0 := Lib.hid hq
    clear hq hn hx ht hi hg hgi hbig f1 f2 f3 f4 f5 f6 f7 f8 htm hni hwm he
    go_enter Tryd.func20, Tryd.ntmps20
    go_wp2_with fail
    refine (isNan_any x false _ HX.out HN.out).mono ?_
    rintro e w1 ⟨rfl, rfl⟩
    go_wp2_with fail
    refine (isInf_plus x false _ HX.out HI1.out).mono ?_
    rintro e w1 ⟨rfl, rfl⟩
    go_wp2_with fail
    refine (isInf_minus x false _ HX.out HI2.out).mono ?_
    rintro e w1 ⟨rfl, rfl⟩
    go_wp2_with fail
    refine (abs_any x g _ HX.out HG.out).mono ?_
    rintro e w1 ⟨rfl, rfl⟩
    go_wp2_with fail
    refine (round_any y wm _ HF2.out HF3.out).mono ?_
    rintro e w1 ⟨rfl, rfl⟩
    go_wp2
    go_ret2
    exact ⟨by rw [← HQ0.out]; rfl, hb⟩
end Go.Proofs.YtgjfjjdljngklaaDoor
