/-
  Layer 11's code: thousandths, Read. Condition: at most 100 bytes.
-/
import Derived.Test.YtgjfjjdljngklaaDoorMetricE
namespace Go.Proofs.YtgjfjjdljngklaaDoor
open Go.RowKit
open F
open N (digB valL val_snoc val_lt)
set_option linter.unusedVariables false

theorem below_bytes11 (w : World) (t : TypeId) (q : ByteArray) : Below w.heap.size w (Lib.bytesWorld w t q) :=
  ⟨by rfl, by rfl, by rfl, by rw [Lib.bytesWorld_size]; omega, fun j hj => Lib.bytesWorld_at_old w t q j hj⟩
theorem conv_bytes11 (w : World) (q : ByteArray) (sz : Nat) (h : q.size = sz) : ∃ (cp : Nat) (wq : World), (convert 9 55 (.string q)).run Tryd.prog w = .ok (.slice (some ⟨w.heap.size, 0, none⟩) sz cp) wq ∧ Below w.heap.size w wq ∧ ∀ (j : Nat) (c : UInt8), q.data.toList[j]? = some c → wq.cell? ⟨w.heap.size, j, none⟩ = some (.int .u8 (c.toNat : Int)) := by
  refine ⟨_, _, by rw [← h]; exact Lib.run_convert_string_bytes w _ _ 5 q Tryd.underlying9 Tryd.underlying55 Tryd.underlying5, ?_, fun j c hc => ?_⟩
  · exact below_bytes11 w _ q
  · obtain ⟨h5, h6⟩ := List.getElem?_eq_some_iff.1 hc
    rw [Lib.bytesWorld_cell w _ q j (by rw [Lib.size_eq]; exact h5)]
    have e : q.data.toList.getD j 0 = c := by rw [List.getD_eq_getElem?_getD, hc]; rfl
    rw [e]
theorem F.val_thou {l : List UInt8} {m : Nat} (h : l.all digB = true) (hl : l.length + m ≤ 9) : valL l * 10 ^ m < 1000000000 := by
  have h1 := val_lt l h l.length (Nat.le_refl _)
  have h2 := Nat.mul_lt_mul_of_pos_right h1 (Nat.pow_pos (n := m) (show 0 < 10 by omega))
  rw [← Nat.pow_add] at h2
  have h3 : 10 ^ (l.length + m) ≤ 10 ^ 9 := Nat.pow_le_pow_right (by omega) hl
  exact Nat.lt_of_lt_of_le h2 h3
theorem F.val_nine {l : List UInt8} {i : Nat} (h : l.all digB = true) (hl : l.length ≤ 9) : valL (l.take i) < 1000000000 := by
  have h1 := val_lt (l.take i) (by
    rw [List.all_eq_true] at h ⊢
    exact fun x hx => h x (List.mem_of_mem_take hx)) 9 (by rw [List.length_take]; omega)
  exact h1
theorem F.pow_step {v u j m : Nat} (h : v * 10 ^ j = u) (hj : j ≤ m) (hm : v * 10 ^ m < 1000000000) : u < 1000000000 := by
  have h3 : 10 ^ j ≤ 10 ^ m := Nat.pow_le_pow_right (by omega) hj
  have := Nat.mul_le_mul_left v h3
  omega
theorem F.sub48 {c d : Nat} (h : c - 48 = d) (h2 : 48 ≤ c) (h3 : c < 256) : IntKind.u8.wrap ((c : Int) - 48) = (d : Int) := by rw [IntKind.wrap_u8]; omega
theorem F.times10 {v v1 : Nat} (h : v * 10 = v1) (h2 : v < 1000000000) : IntKind.i64.wrap ((v : Int) * 10) = (v1 : Int) := by rw [IntKind.wrap_i64]; omega
theorem F.plus10 {v v1 v2 d : Nat} (h : v * 10 = v1) (h2 : v1 + d = v2) (h3 : v < 1000000000) (h4 : d ≤ 9) : IntKind.i64.wrap ((v1 : Int) + (d : Int)) = (v2 : Int) := by rw [IntKind.wrap_i64]; omega
theorem F.small9 {d : Nat} (h : d ≤ 9) : IntKind.i64.wrap (d : Int) = (d : Int) := by rw [IntKind.wrap_i64]; omega
theorem F.whole_parts {a : List UInt8} (h : wholeB a = true) : a.length ≤ 6 ∧ a.all digB = true := by
  unfold wholeB digsB at h
  simp only [Bool.and_eq_true, decide_eq_true_eq] at h
  exact ⟨h.1.1.2, h.1.2⟩
theorem F.part_parts {b : List UInt8} (h : partB b = true) : b.length ≤ 3 ∧ b.all digB = true := by
  unfold partB digsB at h
  simp only [Bool.and_eq_true, decide_eq_true_eq] at h
  exact ⟨h.1.1.2, h.1.2⟩
/-- What thousandths answers. -/
def ThouIs (s : List UInt8) (n : Nat) (ok : Bool) : Prop := (ok = true ∧ n < 1000000000 ∧ thoL s = some n) ∨ (ok = false ∧ n = 0 ∧ thoL s = none)
set_option maxRecDepth 100000 in
set_option maxHeartbeats 4000000 in
theorem thousandths_any (s : ByteArray) (w : World) (hs : s.size ≤ 100) : Calls Tryd.prog 32 #[.string s] w (fun e w' => ∃ (n : Nat) (ok : Bool), e = .returned (.tuple #[.int .i64 (n : Int), .bool ok]) ∧ ThouIs s.data.toList n ok ∧ Below w.heap.size w w') := by
  go_enter Tryd.func32, Tryd.ntmps32
  go_wp2_with fail
  refine (cut_any10 s 46 _ (by omega)).mono ?_
  rintro e w1 ⟨⟨a, b, f, rfl, hc⟩, hb⟩
  have HT := Lib.hid (tho_cut hc)
  have hlen : a.length + b.length ≤ 100 := by
    have hz : s.data.toList.length = s.size := (Lib.size_eq s).symm
    rcases hc with ⟨_, e1, e2, _⟩ | ⟨_, e1, _⟩
    · rw [e1, e2]; simp; omega
    · have := congrArg List.length e1
      rw [List.length_append, List.length_cons] at this; omega
  have HLA := Lib.hid hlen
  have HB0 := Lib.hid (show f = false → b = [] from fun hf => by
    rcases hc with ⟨_, _, e2, _⟩ | ⟨e1, _, _⟩
    · exact e2
    · rw [hf] at e1; cases e1)
  obtain ⟨qa, hqa⟩ : ∃ q, sB a = q := ⟨_, rfl⟩
  obtain ⟨qb, hqb⟩ : ∃ q, sB b = q := ⟨_, rfl⟩
  rw [hqa, hqb]
  have HQA := Lib.hid hqa
  have HQB := Lib.hid hqb
  have HSA := Lib.hid (show qa.size ≤ 1000 by rw [← hqa, sB_size]; omega)
  have HSB := Lib.hid (show qb.size ≤ 1000 by rw [← hqb, sB_size]; omega)
  have HDQA := Lib.hid (show qa.data.toList = a by rw [← hqa, sB_data])
  have HDQB := Lib.hid (show qb.data.toList = b by rw [← hqb, sB_data])
  clear hc hlen hqa hqb hs
  cases hw : wholeB a with
  | false =>
    have HW := Lib.hid (show wholeB qa.data.toList = false by rw [HDQA.out]; exact hw)
    have HE := Lib.hid (show thoL s.data.toList = none by rw [HT.out, hw, Bool.false_and, if_neg (by decide)])
    clear hw
    go_wp2_with fail
    refine (isWhole_any qa false _ HSA.out HW.out).mono ?_
    rintro e w2 ⟨rfl, rfl⟩
    go_wp2
    go_ret2
    exact ⟨0, false, rfl, .inr ⟨rfl, rfl, HE.out⟩, hb⟩
  | true =>
  have HW := Lib.hid (show wholeB qa.data.toList = true by rw [HDQA.out]; exact hw)
  have HDA := Lib.hid (whole_parts hw).2
  have HLA2 := Lib.hid (whole_parts hw).1
  cases f with
  | false =>
    have hb0 := HB0.out rfl
    have HDB := Lib.hid (show b.all digB = true by rw [hb0]; rfl)
    have HLB2 := Lib.hid (show b.length ≤ 3 by rw [hb0]; exact Nat.zero_le _)
    have HOK := Lib.hid (show (wholeB a && (!false || partB b)) = true by rw [hw]; rfl)
    clear hw hb0
    go_wp2_with fail
    refine (isWhole_any qa true _ HSA.out HW.out).mono ?_
    rintro e w1 ⟨rfl, rfl⟩
    obtain ⟨qs, hqs⟩ : ∃ q, qa ++ qb = q := ⟨_, rfl⟩
    have hL : qs.data.toList = a ++ b := by rw [← hqs, ByteArray.data_append, Array.toList_append, ← HQA.out, ← HQB.out, sB_data, sB_data]
    obtain ⟨sz, hsz⟩ : ∃ sz, qs.size = sz := ⟨_, rfl⟩
    have hszl : sz = a.length + b.length := by rw [← hsz, Lib.size_eq, hL, List.length_append]
    have hadd : ∀ w : World, Sem.run Tryd.prog (Op.stringOp .add qa qb) w = .ok (.string qs) w := fun w => by
      rw [run_string_add_sum (P := Tryd.prog) (w := w) qa qb (by rw [← HQA.out, ← HQB.out, sB_size, sB_size]; have := HLA.out; omega), hqs]
    obtain ⟨cp, wq, hconv, hbq, hcl⟩ := conv_bytes11 w1 qs sz hsz
    have HCL := Lib.hid hcl
    have HL := Lib.hid hL
    have HBQ := Lib.hid (bthen hb hbq)
    have HSZ := Lib.hid hszl
    have hsz9 : sz ≤ 9 := by have := HLA2.out; have := HLB2.out; omega
    have HALL := Lib.hid (show (a ++ b).all digB = true by rw [List.all_append, HDA.out, HDB.out]; rfl)
    obtain ⟨m, hm⟩ : ∃ m, 3 - b.length = m := ⟨_, rfl⟩
    have hlb : b.length = qb.size := by rw [← HQB.out, sB_size]
    obtain ⟨lb, hlbe⟩ : ∃ lb, qb.size = lb := ⟨_, rfl⟩
    have wm : IntKind.i64.wrap (3 - (lb : Int)) = (m : Int) := by have := HLB2.out; rw [IntKind.wrap_i64]; omega
    have HM := Lib.hid hm
    have hm3 : m ≤ 3 := by omega
    have HV9 := Lib.hid (show valL (a ++ b) * 10 ^ m < 1000000000 from val_thou HALL.out (by rw [List.length_append]; have := HLA2.out; have := HLB2.out; omega))
    clear hqs hL hsz hszl hcl hbq hm hlb
    go_wp2
    go_loopg [7, 32] sz (fun gk vn vi wr => ∃ i v : Nat, Hid (i + gk = sz) ∧ i ≤ sz ∧ vi = .int .i64 (i : Int) ∧ vn = .int .i64 (v : Int) ∧ Hid (valL ((a ++ b).take i) = v) ∧ wr = wq)
    case atStart => exact ⟨0, 0, Nat.zero_add _, Nat.zero_le _, rfl, rfl, rfl, rfl⟩
    case round =>
      obtain ⟨i, v, HG, hi, rfl, rfl, HV, rfl⟩ := hrel
      by_cases hlt0 : i < sz
      · have blt : decide ((i : Int) < (sz : Int)) = true := decide_eq_true (by omega)
        have blt2 : decide (i < sz) = true := decide_eq_true hlt0
        have hii : (i : Int) < (sz : Int) := by omega
        have hgk := HG.out
        obtain ⟨c, hc⟩ : ∃ c, (a ++ b)[i]? = some c := ⟨_, List.getElem?_eq_getElem (by rw [List.length_append]; have := HSZ.out; omega)⟩
        have hcell := HCL.out i c (by rw [HL.out]; exact hc)
        have hcd : digB c = true := List.all_eq_true.1 HALL.out c (List.mem_of_getElem? hc)
        have hvb : v < 1000000000 := by rw [← HV.out]; exact val_nine HALL.out (by rw [List.length_append]; have := HSZ.out; omega)
        obtain ⟨d, hd, hd9⟩ : ∃ d, c.toNat - 48 = d ∧ (48 ≤ c.toNat ∧ d ≤ 9) := by
          unfold N.digB at hcd
          simp only [Bool.and_eq_true, decide_eq_true_eq] at hcd
          exact ⟨_, rfl, by omega, by omega⟩
        obtain ⟨v1, hv1⟩ : ∃ v1, v * 10 = v1 := ⟨_, rfl⟩
        obtain ⟨v2, hv2⟩ : ∃ v2, v1 + d = v2 := ⟨_, rfl⟩
        have hcb := c.toNat_lt
        have s1 : IntKind.u8.wrap ((c.toNat : Int) - 48) = (d : Int) := sub48 hd hd9.1 hcb
        have s2 : IntKind.i64.wrap ((v : Int) * 10) = (v1 : Int) := times10 hv1 hvb
        have s3 : IntKind.i64.wrap ((v1 : Int) + (d : Int)) = (v2 : Int) := plus10 hv1 hv2 hvb hd9.2
        have s4 : IntKind.i64.wrap (d : Int) = (d : Int) := small9 hd9.2
        have HV2 := Lib.hid (show valL ((a ++ b).take (i + 1)) = v2 by
          obtain ⟨h5, h6⟩ := List.getElem?_eq_some_iff.1 hc
          rw [List.take_succ_eq_append_getElem h5, h6, val_snoc, HV.out, hd, ← hv2, ← hv1, Nat.mul_comm])
        clear hc hcd hd hd9 hv1 hv2 hvb hcb
        go_wp2
        go_roundg (sz - (i + 1))
        case rel => exact ⟨i + 1, v2, (by show _ = _; omega), by omega, by go_num, rfl, HV2.out, rfl⟩
        case measure => omega
      · have blt : decide ((i : Int) < (sz : Int)) = false := decide_eq_false (by omega)
        have blt2 : decide (i < sz) = false := decide_eq_false hlt0
        obtain rfl : i = sz := by omega
        have HVV := Lib.hid (show valL (a ++ b) = v by rw [← HV.out, List.take_of_length_le (by rw [List.length_append]; have := HSZ.out; omega)])
        have HV10 := Lib.hid (show v * 10 ^ m < 1000000000 by rw [← HVV.out]; exact HV9.out)
        go_wp2
        go_loopg [7, 46] m (fun gk vn vi w2 => ∃ j u : Nat, Hid (j + gk = m) ∧ j ≤ m ∧ vi = .int .i64 (j : Int) ∧ vn = .int .i64 (u : Int) ∧ Hid (v * 10 ^ j = u) ∧ w2 = wr)
        case atStart => exact ⟨0, v, Nat.zero_add _, Nat.zero_le _, rfl, rfl, (by show _ = _; omega), rfl⟩
        case round =>
          obtain ⟨j, u, HG2, hj, rfl, rfl, HU, rfl⟩ := hrel
          by_cases hlt2 : j < m
          · have blt3 : decide ((j : Int) < (m : Int)) = true := decide_eq_true (by omega)
            have blt4 : decide (j < m) = true := decide_eq_true hlt2
            have hgk2 := HG2.out
            obtain ⟨u1, hu1⟩ : ∃ u1, u * 10 = u1 := ⟨_, rfl⟩
            have hub : u < 1000000000 := pow_step HU.out hj HV10.out
            have s2 : IntKind.i64.wrap ((u : Int) * 10) = (u1 : Int) := times10 hu1 hub
            have HU2 := Lib.hid (show v * 10 ^ (j + 1) = u1 by rw [Nat.pow_succ, ← Nat.mul_assoc, HU.out, hu1])
            clear hu1 hub
            go_wp2
            go_roundg (m - (j + 1))
            case rel => exact ⟨j + 1, u1, (by show _ = _; omega), by omega, by go_num, rfl, HU2.out, rfl⟩
            case measure => omega
          · have blt3 : decide ((j : Int) < (m : Int)) = false := decide_eq_false (by omega)
            have blt4 : decide (j < m) = false := decide_eq_false hlt2
            obtain rfl : j = m := by omega
            have HE := Lib.hid (show thoL s.data.toList = some u ∧ u < 1000000000 by
              rw [HT.out, if_pos HOK.out, HM.out, HVV.out, HU.out]
              exact ⟨rfl, by rw [← HU.out]; exact HV10.out⟩)
            go_wp2
            go_ret2
            exact ⟨u, true, rfl, .inl ⟨rfl, HE.out.2, HE.out.1⟩, HBQ.out⟩
  | true =>
  cases hp : partB b with
  | false =>
    have HP := Lib.hid (show partB qb.data.toList = false by rw [HDQB.out]; exact hp)
    have HE := Lib.hid (show thoL s.data.toList = none by rw [HT.out, hw, hp]; rfl)
    clear hw hp
    go_wp2_with fail
    refine (isWhole_any qa true _ HSA.out HW.out).mono ?_
    rintro e w2 ⟨rfl, rfl⟩
    go_wp2_with fail
    refine (isPart_any qb false _ HSB.out HP.out).mono ?_
    rintro e w2 ⟨rfl, rfl⟩
    go_wp2
    go_ret2
    exact ⟨0, false, rfl, .inr ⟨rfl, rfl, HE.out⟩, hb⟩
  | true =>
    have HP := Lib.hid (show partB qb.data.toList = true by rw [HDQB.out]; exact hp)
    have HDB := Lib.hid (part_parts hp).2
    have HLB2 := Lib.hid (part_parts hp).1
    have HOK := Lib.hid (show (wholeB a && (!true || partB b)) = true by rw [hw, hp]; rfl)
    clear hw hp
    go_wp2_with fail
    refine (isWhole_any qa true _ HSA.out HW.out).mono ?_
    rintro e w1 ⟨rfl, rfl⟩
    go_wp2_with fail
    refine (isPart_any qb true _ HSB.out HP.out).mono ?_
    rintro e w1 ⟨rfl, rfl⟩
    obtain ⟨qs, hqs⟩ : ∃ q, qa ++ qb = q := ⟨_, rfl⟩
    have hL : qs.data.toList = a ++ b := by rw [← hqs, ByteArray.data_append, Array.toList_append, ← HQA.out, ← HQB.out, sB_data, sB_data]
    obtain ⟨sz, hsz⟩ : ∃ sz, qs.size = sz := ⟨_, rfl⟩
    have hszl : sz = a.length + b.length := by rw [← hsz, Lib.size_eq, hL, List.length_append]
    have hadd : ∀ w : World, Sem.run Tryd.prog (Op.stringOp .add qa qb) w = .ok (.string qs) w := fun w => by
      rw [run_string_add_sum (P := Tryd.prog) (w := w) qa qb (by rw [← HQA.out, ← HQB.out, sB_size, sB_size]; have := HLA.out; omega), hqs]
    obtain ⟨cp, wq, hconv, hbq, hcl⟩ := conv_bytes11 w1 qs sz hsz
    have HCL := Lib.hid hcl
    have HL := Lib.hid hL
    have HBQ := Lib.hid (bthen hb hbq)
    have HSZ := Lib.hid hszl
    have hsz9 : sz ≤ 9 := by have := HLA2.out; have := HLB2.out; omega
    have HALL := Lib.hid (show (a ++ b).all digB = true by rw [List.all_append, HDA.out, HDB.out]; rfl)
    obtain ⟨m, hm⟩ : ∃ m, 3 - b.length = m := ⟨_, rfl⟩
    have hlb : b.length = qb.size := by rw [← HQB.out, sB_size]
    obtain ⟨lb, hlbe⟩ : ∃ lb, qb.size = lb := ⟨_, rfl⟩
    have wm : IntKind.i64.wrap (3 - (lb : Int)) = (m : Int) := by have := HLB2.out; rw [IntKind.wrap_i64]; omega
    have HM := Lib.hid hm
    have hm3 : m ≤ 3 := by omega
    have HV9 := Lib.hid (show valL (a ++ b) * 10 ^ m < 1000000000 from val_thou HALL.out (by rw [List.length_append]; have := HLA2.out; have := HLB2.out; omega))
    clear hqs hL hsz hszl hcl hbq hm hlb
    go_wp2
    go_loopg [7, 32] sz (fun gk vn vi wr => ∃ i v : Nat, Hid (i + gk = sz) ∧ i ≤ sz ∧ vi = .int .i64 (i : Int) ∧ vn = .int .i64 (v : Int) ∧ Hid (valL ((a ++ b).take i) = v) ∧ wr = wq)
    case atStart => exact ⟨0, 0, Nat.zero_add _, Nat.zero_le _, rfl, rfl, rfl, rfl⟩
    case round =>
      obtain ⟨i, v, HG, hi, rfl, rfl, HV, rfl⟩ := hrel
      by_cases hlt0 : i < sz
      · have blt : decide ((i : Int) < (sz : Int)) = true := decide_eq_true (by omega)
        have blt2 : decide (i < sz) = true := decide_eq_true hlt0
        have hii : (i : Int) < (sz : Int) := by omega
        have hgk := HG.out
        obtain ⟨c, hc⟩ : ∃ c, (a ++ b)[i]? = some c := ⟨_, List.getElem?_eq_getElem (by rw [List.length_append]; have := HSZ.out; omega)⟩
        have hcell := HCL.out i c (by rw [HL.out]; exact hc)
        have hcd : digB c = true := List.all_eq_true.1 HALL.out c (List.mem_of_getElem? hc)
        have hvb : v < 1000000000 := by rw [← HV.out]; exact val_nine HALL.out (by rw [List.length_append]; have := HSZ.out; omega)
        obtain ⟨d, hd, hd9⟩ : ∃ d, c.toNat - 48 = d ∧ (48 ≤ c.toNat ∧ d ≤ 9) := by
          unfold N.digB at hcd
          simp only [Bool.and_eq_true, decide_eq_true_eq] at hcd
          exact ⟨_, rfl, by omega, by omega⟩
        obtain ⟨v1, hv1⟩ : ∃ v1, v * 10 = v1 := ⟨_, rfl⟩
        obtain ⟨v2, hv2⟩ : ∃ v2, v1 + d = v2 := ⟨_, rfl⟩
        have hcb := c.toNat_lt
        have s1 : IntKind.u8.wrap ((c.toNat : Int) - 48) = (d : Int) := sub48 hd hd9.1 hcb
        have s2 : IntKind.i64.wrap ((v : Int) * 10) = (v1 : Int) := times10 hv1 hvb
        have s3 : IntKind.i64.wrap ((v1 : Int) + (d : Int)) = (v2 : Int) := plus10 hv1 hv2 hvb hd9.2
        have s4 : IntKind.i64.wrap (d : Int) = (d : Int) := small9 hd9.2
        have HV2 := Lib.hid (show valL ((a ++ b).take (i + 1)) = v2 by
          obtain ⟨h5, h6⟩ := List.getElem?_eq_some_iff.1 hc
          rw [List.take_succ_eq_append_getElem h5, h6, val_snoc, HV.out, hd, ← hv2, ← hv1, Nat.mul_comm])
        clear hc hcd hd hd9 hv1 hv2 hvb hcb
        go_wp2
        go_roundg (sz - (i + 1))
        case rel => exact ⟨i + 1, v2, (by show _ = _; omega), by omega, by go_num, rfl, HV2.out, rfl⟩
        case measure => omega
      · have blt : decide ((i : Int) < (sz : Int)) = false := decide_eq_false (by omega)
        have blt2 : decide (i < sz) = false := decide_eq_false hlt0
        obtain rfl : i = sz := by omega
        have HVV := Lib.hid (show valL (a ++ b) = v by rw [← HV.out, List.take_of_length_le (by rw [List.length_append]; have := HSZ.out; omega)])
        have HV10 := Lib.hid (show v * 10 ^ m < 1000000000 by rw [← HVV.out]; exact HV9.out)
        go_wp2
        go_loopg [7, 46] m (fun gk vn vi w2 => ∃ j u : Nat, Hid (j + gk = m) ∧ j ≤ m ∧ vi = .int .i64 (j : Int) ∧ vn = .int .i64 (u : Int) ∧ Hid (v * 10 ^ j = u) ∧ w2 = wr)
        case atStart => exact ⟨0, v, Nat.zero_add _, Nat.zero_le _, rfl, rfl, (by show _ = _; omega), rfl⟩
        case round =>
          obtain ⟨j, u, HG2, hj, rfl, rfl, HU, rfl⟩ := hrel
          by_cases hlt2 : j < m
          · have blt3 : decide ((j : Int) < (m : Int)) = true := decide_eq_true (by omega)
            have blt4 : decide (j < m) = true := decide_eq_true hlt2
            have hgk2 := HG2.out
            obtain ⟨u1, hu1⟩ : ∃ u1, u * 10 = u1 := ⟨_, rfl⟩
            have hub : u < 1000000000 := pow_step HU.out hj HV10.out
            have s2 : IntKind.i64.wrap ((u : Int) * 10) = (u1 : Int) := times10 hu1 hub
            have HU2 := Lib.hid (show v * 10 ^ (j + 1) = u1 by rw [Nat.pow_succ, ← Nat.mul_assoc, HU.out, hu1])
            clear hu1 hub
            go_wp2
            go_roundg (m - (j + 1))
            case rel => exact ⟨j + 1, u1, (by show _ = _; omega), by omega, by go_num, rfl, HU2.out, rfl⟩
            case measure => omega
          · have blt3 : decide ((j : Int) < (m : Int)) = false := decide_eq_false (by omega)
            have blt4 : decide (j < m) = false := decide_eq_false hlt2
            obtain rfl : j = m := by omega
            have HE := Lib.hid (show thoL s.data.toList = some u ∧ u < 1000000000 by
              rw [HT.out, if_pos HOK.out, HM.out, HVV.out, HU.out]
              exact ⟨rfl, by rw [← HU.out]; exact HV10.out⟩)
            go_wp2
            go_ret2
            exact ⟨u, true, rfl, .inl ⟨rfl, HE.out.2, HE.out.1⟩, HBQ.out⟩
theorem F.pre_minus (s : ByteArray) : (s.data.toList.head? = some 45 ∧ Lib.trimPrefix s.data.toList [45] = s.data.toList.tail ∧ Lib.hasPrefix s.data.toList [45] = true) ∨ (s.data.toList.head? ≠ some 45 ∧ Lib.trimPrefix s.data.toList [45] = s.data.toList ∧ Lib.hasPrefix s.data.toList [45] = false) := by
  unfold Lib.trimPrefix Lib.hasPrefix
  cases s.data.toList with
  | nil => right; exact ⟨by simp, rfl, rfl⟩
  | cons c l =>
    by_cases h : c = 45
    · subst h; left; exact ⟨rfl, by simp [List.isPrefixOf], by simp [List.isPrefixOf]⟩
    · right
      have e : ((45 : UInt8) == c) = false := beq_eq_false_iff_ne.2 (fun e => h e.symm)
      refine ⟨by simp [h], ?_, ?_⟩ <;> simp [List.isPrefixOf, e]
set_option maxRecDepth 100000 in
set_option maxHeartbeats 2000000 in
theorem read_any11 (s : ByteArray) (w : World) (hs : s.size ≤ 100) : Calls Tryd.prog 17 #[.string s] w (fun e w' => ∃ (x : Nat) (ok : Bool), e = .returned (.tuple #[.float .f64 x, .bool ok]) ∧ ReadIs s.data.toList x ok ∧ Below w.heap.size w w') := by
  by_cases h1 : s.data.toList = [110, 97, 110]
  · have b1 : (s.toList == [110, 97, 110]) = true := by rw [Lib.toList_data, h1]; rfl
    have HR := Lib.hid (show ReadIs s.data.toList 9221120237041090561 true from ⟨by omega, by unfold readM; rw [if_pos h1]; exact ⟨by decide, rfl⟩⟩)
    clear h1
    go_enter Tryd.func17, Tryd.ntmps17
    go_wp2_with fail
    refine (nanC _).mono ?_
    rintro e w1 ⟨rfl, rfl⟩
    go_wp2
    go_ret2
    exact ⟨_, _, rfl, HR.out, Below.refl _ _⟩
  have b1 : (s.toList == [110, 97, 110]) = false := by rw [Lib.toList_data]; exact beq_eq_false_iff_ne.2 h1
  by_cases h2 : s.data.toList = [105, 110, 102]
  · have b2 : (s.toList == [105, 110, 102]) = true := by rw [Lib.toList_data, h2]; rfl
    have HR := Lib.hid (show ReadIs s.data.toList posInf true from ⟨by decide, by unfold readM; rw [if_neg h1, if_pos h2]; exact ⟨rfl, rfl⟩⟩)
    clear h1 h2
    go_enter Tryd.func17, Tryd.ntmps17
    go_wp2_with fail
    refine (infC _).mono ?_
    rintro e w1 ⟨rfl, rfl⟩
    go_wp2
    go_ret2
    exact ⟨_, _, rfl, HR.out, Below.refl _ _⟩
  have b2 : (s.toList == [105, 110, 102]) = false := by rw [Lib.toList_data]; exact beq_eq_false_iff_ne.2 h2
  by_cases h3 : s.data.toList = [45, 105, 110, 102]
  · have b3 : (s.toList == [45, 105, 110, 102]) = true := by rw [Lib.toList_data, h3]; rfl
    have HR := Lib.hid (show ReadIs s.data.toList negInf true from ⟨by decide, by unfold readM; rw [if_neg h1, if_neg h2, if_pos h3]; exact ⟨rfl, rfl⟩⟩)
    clear h1 h2 h3
    go_enter Tryd.func17, Tryd.ntmps17
    go_wp2_with fail
    refine (ninfC _).mono ?_
    rintro e w1 ⟨rfl, rfl⟩
    go_wp2
    go_ret2
    exact ⟨_, _, rfl, HR.out, Below.refl _ _⟩
  have b3 : (s.toList == [45, 105, 110, 102]) = false := by rw [Lib.toList_data]; exact beq_eq_false_iff_ne.2 h3
  obtain ⟨q, hq⟩ : ∃ q : ByteArray, (⟨(Lib.trimPrefix s.data.toList [45]).toArray⟩ : ByteArray) = q := ⟨_, rfl⟩
  have hqd : q.data.toList = Lib.trimPrefix s.data.toList [45] := by rw [← hq]
  obtain ⟨mi, hmi⟩ : ∃ mi, Lib.hasPrefix s.data.toList [45] = mi := ⟨_, rfl⟩
  have HQE := Lib.hid hq
  have HMI := Lib.hid hmi
  have hql : q.size ≤ 100 := by
    rw [Lib.size_eq, hqd]
    have hz : s.data.toList.length = s.size := (Lib.size_eq s).symm
    rcases pre_minus s with ⟨_, e, _⟩ | ⟨_, e, _⟩ <;> rw [e]
    · rw [List.length_tail]; omega
    · omega
  have hno : thoL q.data.toList = none → ReadIs s.data.toList 0 false := by
    rw [hqd]
    rcases pre_minus s with ⟨h4, e, _⟩ | ⟨h4, e, _⟩ <;> rw [e]
    · exact (read_signed h1 h2 h3 h4).1
    · exact (read_plain h1 h2 h3 h4).1
  have hyes : ∀ n, n < 1000000000 → thoL q.data.toList = some n → ReadIs s.data.toList (if mi = true then negW (thouW n) else thouW n) true := by
    rw [hqd, ← hmi]
    rcases pre_minus s with ⟨h4, e, e2⟩ | ⟨h4, e, e2⟩ <;> rw [e, e2]
    · exact (read_signed h1 h2 h3 h4).2
    · exact (read_plain h1 h2 h3 h4).2
  have HNO := Lib.hid hno
  have HYES := Lib.hid hyes
  have HQL := Lib.hid hql
  clear h1 h2 h3 hq hmi hqd hql hno hyes hs
  go_enter Tryd.func17, Tryd.ntmps17
  go_wp2_with fail
  refine (cutPrefix_any s ⟨#[45]⟩ _).mono ?_
  rintro e w1 ⟨rfl, rfl⟩
  rw [show (⟨#[45]⟩ : ByteArray).data.toList = [45] from rfl, HQE.out, HMI.out]
  go_wp2_with fail
  refine (thousandths_any q _ HQL.out).mono ?_
  rintro e w2 ⟨n, ok, rfl, hth, hb⟩
  cases ok with
  | false =>
    have HR := Lib.hid (HNO.out (hth.elim (fun h => absurd h.1 (by decide)) (fun h => h.2.2)))
    clear hth
    go_wp2
    go_ret2
    exact ⟨_, _, rfl, HR.out, hb⟩
  | true =>
    have hth2 : n < 1000000000 ∧ thoL q.data.toList = some n := by
      rcases hth with ⟨_, h1, h2⟩ | ⟨h, _⟩
      · exact ⟨h1, h2⟩
      · cases h
    have HR := Lib.hid (HYES.out n hth2.1 hth2.2)
    have hd := thou_quo hth2.1
    obtain ⟨x, hx⟩ : ∃ x, thouW n = x := ⟨_, rfl⟩
    obtain ⟨g, hg⟩ : ∃ g, floatOfInt .f64 (n : Int) = g := ⟨_, rfl⟩
    have hxl : x < 9223372036854775808 := by rw [← hx]; have := (thou_word hth2.1).2.1; omega
    rw [hx, hg] at hd
    rw [hx] at HR
    have kd := fun (t : TypeId) (w : World) => run_float_arith (P := Tryd.prog) w .quo t .f64 g 4652007308841189376 x hd
    have HXL := Lib.hid hxl
    have HG := Lib.hid hg
    clear hth hth2 hd hx hxl
    cases mi with
    | false =>
      go_wp2
      go_ret2
      exact ⟨_, _, rfl, HR.out, hb⟩
    | true =>
      go_wp2_with fail
      refine (copysign_neg x _ _ HXL.out rfl).mono ?_
      rintro e w3 ⟨rfl, rfl⟩
      go_wp2
      go_ret2
      exact ⟨_, _, rfl, HR.out, hb⟩
end Go.Proofs.YtgjfjjdljngklaaDoor
