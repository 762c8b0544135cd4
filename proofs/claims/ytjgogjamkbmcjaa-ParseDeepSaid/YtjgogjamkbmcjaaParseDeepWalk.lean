/-
  The walk of layer 5's statement ParseDeep: it returns true whatever the number is. No conditions.
-/
import Derived.Test.YtjgogjamkbmcjaaParseAwake
import Derived.Test.YtjgogjamkbmcjaaPureD
namespace Go.Proofs.Ytjgogjamkbmcjaa
open Go.RowKit

theorem manyA_app (n : Nat) (r : List UInt8) : S.manyA n r = S.manyA n [] ++ r := by
  induction n with
  | zero => rfl
  | succ n ih => simp only [S.manyA, List.cons_append]; rw [ih]
theorem manyA_next (n : Nat) : S.manyA (n + 1) [] = S.manyA n [] ++ [97, 123] := by
  rw [← manyA_app n [97, 123]]
  induction n with
  | zero => rfl
  | succ n ih => rw [S.manyA, ih]; rfl
theorem manyA_len (n : Nat) : (S.manyA n []).length = 2 * n := by
  induction n with
  | zero => rfl
  | succ n ih => simp only [S.manyA, List.length_cons]; rw [ih]; omega
theorem manyC_next (n : Nat) : S.manyC (n + 1) = S.manyC n ++ [125] := by unfold S.manyC; rw [List.replicate_succ']
theorem add_data (x y : ByteArray) : (x ++ y).data.toList = x.data.toList ++ y.data.toList := by simp [ByteArray.data_append]
/-- What a text as ParseDeep has it is read as. -/
theorem deep_is (k : Nat) (done : Bool) (h1 : 1 ≤ k) (h2 : k ≤ 30) :
    (16 < k ∧ S.parseL (S.manyA k (if done then S.manyC k else [])) = .bad 32 6) ∨ (k ≤ 16 ∧ done = false ∧ S.parseL (S.manyA k (if done then S.manyC k else [])) = .bad (2 * k) 2) ∨
    (k ≤ 16 ∧ done = true ∧ ∃ t, S.parseL (S.manyA k (if done then S.manyC k else [])) = .ok t ∧ t.length = k ∧ T.dp t (k - 1) = (k : Int) - 1) := by
  have h := S.deep_one h1 h2 done
  unfold S.deepOk at h
  cases hp : S.parseL (S.manyA k (if done then S.manyC k else [])) with
  | ok t =>
    rw [hp] at h
    simp only [Bool.and_eq_true, decide_eq_true_eq] at h
    obtain ⟨⟨⟨a, b⟩, c⟩, d⟩ := h
    exact .inr (.inr ⟨b, a, t, rfl, c, d⟩)
  | bad q e =>
    rw [hp] at h
    by_cases h16 : 16 < k
    · simp only [h16, if_true, Bool.and_eq_true, decide_eq_true_eq] at h
      obtain ⟨rfl, rfl⟩ := h
      exact .inl ⟨h16, rfl⟩
    · simp only [h16, if_false, Bool.and_eq_true, decide_eq_true_eq, Bool.not_eq_true'] at h
      obtain ⟨⟨a, rfl⟩, rfl⟩ := h
      exact .inr (.inl ⟨by omega, a, rfl⟩)

set_option maxRecDepth 100000 in
set_option maxHeartbeats 2000000 in
theorem parseDeep_walk (w : World) (a : Int) (wa : (Lit.int .u8 a).wf = true) (done : Bool) :
    Calls Try.prog 7 #[.int .u8 a, .bool done] w (TrueS w) := by
  obtain ⟨ha0, ha1⟩ := bounds_u8 wa
  obtain ⟨m, rfl⟩ := Int.eq_ofNat_of_zero_le ha0
  clear wa ha0
  obtain ⟨q, hq⟩ : ∃ q, m % 30 = q := ⟨_, rfl⟩
  have hq30 : q < 30 := by rw [← hq]; exact Nat.mod_lt _ (by decide)
  have hk2 : (m : Int) % 30 = (q : Int) := by rw [← hq]; omega
  clear hq
  obtain ⟨k, hk⟩ : ∃ k, q + 1 = k := ⟨_, rfl⟩
  have hk3 : (1 : Int) + (q : Int) = (k : Int) := by omega
  have hk1 : 1 ≤ k := by omega
  have hk30 : k ≤ 30 := by omega
  have hkq : (k : Int) - 1 = (q : Int) := by omega
  have HKQ := Lib.hid (show k - 1 = q by omega)
  have HKK := Lib.hid hk
  clear hk
  have hb : Below w.heap.size w w := Below.refl _ _
  cases done with
  | false =>
    have HD := Lib.hid (deep_is k false hk1 hk30)
    go_enter Try.func7, Try.ntmps7
    go_wp2
    go_loopg [6, 15] k (fun gk z x wr => ∃ (j : Nat) (y : ByteArray), Hid (j + gk = k) ∧ j ≤ k ∧ x = .int .i64 j ∧ z = .string y ∧ Hid (y.data.toList = S.manyA j []) ∧ w = wr)
    case atStart => exact ⟨0, ⟨#[]⟩, Nat.zero_add _, Nat.zero_le _, rfl, rfl, rfl, rfl⟩
    case round =>
      obtain ⟨j, y, HG, hj, rfl, rfl, HY, rfl⟩ := hrel
      have hyl : y.size ≤ 100 := by rw [Lib.size_eq, HY.out, manyA_len]; omega
      by_cases hlt : j < k
      · have blt : decide (j < k) = true := decide_eq_true hlt
        have hadd : y.size + (⟨#[97, 123]⟩ : ByteArray).size ≤ 140737488355328 := by show y.size + 2 ≤ _; omega
        have HN := Lib.hid (show (y ++ (⟨#[97, 123]⟩ : ByteArray)).data.toList = S.manyA (j + 1) [] by rw [add_data, HY.out, manyA_next])
        go_wp2
        go_roundg (k - (j + 1))
        case rel => exact ⟨j + 1, _, (by show _ = _; omega), by omega, by go_num, rfl, HN, rfl⟩
        case measure => have := HG.out; omega
      · have blt : decide (j < k) = false := decide_eq_false hlt
        obtain rfl : j = k := by omega
        have hys : y.size = 2 * j := by rw [Lib.size_eq, HY.out, manyA_len]
        rcases HD.out with ⟨h16, hp⟩ | ⟨h16, _, hp⟩ | ⟨_, h, _⟩
        · have b16 : decide ((16 : Int) < (j : Int)) = true := decide_eq_true (by omega)
          have hc := tree_bad y 32 6 w (by omega) (by rw [HY.out]; exact hp)
          clear hp h16
          go_wp2_with fail
          refine hc.mono ?_
          rintro e w1 ⟨rfl, hx⟩
          replace hb := bthen hb hx
          clear hx hc
          go_wp2_with fail
          refine (awake_any _).mono ?_
          rintro e wz ⟨rfl, hx⟩
          go_wp2
          go_ret
          exact ⟨rfl, bthen hb hx⟩
        · have b16 : decide ((16 : Int) < (j : Int)) = false := decide_eq_false (by omega)
          have hc := tree_bad y (2 * j) 2 w (by omega) (by rw [HY.out]; exact hp)
          rw [← hys] at hc
          clear hp h16 hys
          go_wp2_with fail
          refine hc.mono ?_
          rintro e w1 ⟨rfl, hx⟩
          replace hb := bthen hb hx
          clear hx hc
          go_wp2_with fail
          refine (awake_any _).mono ?_
          rintro e wz ⟨rfl, hx⟩
          go_wp2
          go_ret
          exact ⟨rfl, bthen hb hx⟩
        · cases h
  | true =>
    have HD := Lib.hid (deep_is k true hk1 hk30)
    go_enter Try.func7, Try.ntmps7
    go_wp2
    go_loopg [6, 15] k (fun gk z x wr => ∃ (j : Nat) (y : ByteArray), Hid (j + gk = k) ∧ j ≤ k ∧ x = .int .i64 j ∧ z = .string y ∧ Hid (y.data.toList = S.manyA j []) ∧ w = wr)
    case atStart => exact ⟨0, ⟨#[]⟩, Nat.zero_add _, Nat.zero_le _, rfl, rfl, rfl, rfl⟩
    case round =>
      obtain ⟨j, y, HG, hj, rfl, rfl, HY, rfl⟩ := hrel
      have hyl : y.size ≤ 100 := by rw [Lib.size_eq, HY.out, manyA_len]; omega
      by_cases hlt : j < k
      · have blt : decide (j < k) = true := decide_eq_true hlt
        have hadd : y.size + (⟨#[97, 123]⟩ : ByteArray).size ≤ 140737488355328 := by show y.size + 2 ≤ _; omega
        have HN := Lib.hid (show (y ++ (⟨#[97, 123]⟩ : ByteArray)).data.toList = S.manyA (j + 1) [] by rw [add_data, HY.out, manyA_next])
        go_wp2
        go_roundg (k - (j + 1))
        case rel => exact ⟨j + 1, _, (by show _ = _; omega), by omega, by go_num, rfl, HN, rfl⟩
        case measure => have := HG.out; omega
      · have blt : decide (j < k) = false := decide_eq_false hlt
        obtain rfl : j = k := by omega
        clear HG hlt
        go_wp2
        go_loopg [6, 22] j (fun gk z x wr => ∃ (i : Nat) (y : ByteArray), Hid (i + gk = j) ∧ i ≤ j ∧ x = .int .i64 i ∧ z = .string y ∧ Hid (y.data.toList = S.manyA j [] ++ S.manyC i) ∧ w = wr)
        case atStart => exact ⟨0, y, Nat.zero_add _, Nat.zero_le _, rfl, rfl, by show _ = _; rw [HY.out]; exact (List.append_nil _).symm, rfl⟩
        case round =>
          obtain ⟨i, z, HG, hi, rfl, rfl, HZ, rfl⟩ := hrel
          have hzl : z.size ≤ 100 := by rw [Lib.size_eq, HZ.out, List.length_append, manyA_len]; unfold S.manyC; rw [List.length_replicate]; omega
          by_cases hlt : i < j
          · have blt2 : decide (i < j) = true := decide_eq_true hlt
            have hadd : z.size + (⟨#[125]⟩ : ByteArray).size ≤ 140737488355328 := by show z.size + 1 ≤ _; omega
            have HN := Lib.hid (show (z ++ (⟨#[125]⟩ : ByteArray)).data.toList = S.manyA j [] ++ S.manyC (i + 1) by rw [add_data, HZ.out, manyC_next, List.append_assoc])
            go_wp2
            go_roundg (j - (i + 1))
            case rel => exact ⟨i + 1, _, (by show _ = _; omega), by omega, by go_num, rfl, HN, rfl⟩
            case measure => have := HG.out; omega
          · have blt2 : decide (i < j) = false := decide_eq_false hlt
            obtain rfl : i = j := by omega
            have hz : z.data.toList = S.manyA i (if true = true then S.manyC i else []) := by rw [HZ.out, if_pos rfl, manyA_app i (S.manyC i)]
            rcases HD.out with ⟨h16, hp⟩ | ⟨_, h, _⟩ | ⟨h16, _, t, hp, htl, hdp⟩
            · have b16 : decide ((16 : Int) < (i : Int)) = true := decide_eq_true (by omega)
              have hc := tree_bad z 32 6 w (by omega) (by rw [hz]; exact hp)
              clear hp h16 hz
              go_wp2_with fail
              refine hc.mono ?_
              rintro e w1 ⟨rfl, hx⟩
              replace hb := bthen hb hx
              clear hx hc
              go_wp2_with fail
              refine (awake_any _).mono ?_
              rintro e wz ⟨rfl, hx⟩
              go_wp2
              go_ret
              exact ⟨rfl, bthen hb hx⟩
            · cases h
            · have b16 : decide ((16 : Int) < (i : Int)) = false := decide_eq_false (by omega)
              have hc := tree_ok z t i w (by omega) (by rw [hz]; exact hp) htl
              rw [HKQ.out, hkq] at hdp
              have hqi : q < t.length := by omega
              have hqi2 : (q : Int) < (i : Int) := by omega
              clear hp h16 hz
              go_wp2_with fail
              refine hc.mono ?_
              rintro e w1 ⟨B, cap, rfl, hcap, hS, hx⟩
              obtain ⟨b, o, rfl, hbw, hH⟩ := hS.lines (by omega)
              obtain ⟨c0, _, _⟩ := hH.line hqi
              rw [hdp] at c0
              replace hb := bthen hb hx
              clear hx hc hS hH htl
              go_wp2_with fail
              refine (awake_any _).mono ?_
              rintro e wz ⟨rfl, hx⟩
              go_wp2
              go_ret
              exact ⟨rfl, bthen hb hx⟩
end Go.Proofs.Ytjgogjamkbmcjaa
