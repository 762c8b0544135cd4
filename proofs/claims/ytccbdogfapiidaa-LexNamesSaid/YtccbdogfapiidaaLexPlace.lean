/-
  Contracts of layer 2's Place and of the document's: the line and the byte of a place are what the plain definitions say; the world is as it was. Condition: strings of at most 2^30 bytes.
-/
import Derived.Test.YtccbdogfapiidaaWordIs
import Derived.Test.YtccbdogfapiidaaWordPure4
import Derived.WalkMore
namespace Go.Proofs.Ytccbdogfapiidaa.W

def rowL (l : List UInt8) : Nat := Lib.countByte l 10 + 1
def colF (c : Nat) (b : UInt8) : Nat := if b.toNat = 10 then 1 else c + 1
def colL (l : List UInt8) : Nat := l.foldl colF 1
theorem colL_snoc (l : List UInt8) (b : UInt8) : colL (l ++ [b]) = if b.toNat = 10 then 1 else colL l + 1 := by
  unfold colL; rw [List.foldl_append]; rfl
theorem rowL_snoc (l : List UInt8) (b : UInt8) : rowL (l ++ [b]) = if b.toNat = 10 then rowL l + 1 else rowL l := by
  unfold rowL Lib.countByte
  rw [List.count_append]
  by_cases h : b.toNat = 10
  · obtain rfl : b = 10 := UInt8.toNat_inj.1 h
    simp
  · have hb : ¬ b = 10 := fun e => h (by rw [e]; rfl)
    rw [if_neg h]
    simp [hb]
theorem col_le (s : ByteArray) (k : Nat) : 1 ≤ colL (s.data.toList.take k) ∧ (k ≤ s.size → colL (s.data.toList.take k) ≤ k + 1) := by
  induction k with
  | zero => simp [colL]
  | succ k ih =>
    by_cases h : k < s.size
    · rw [take_snoc s k h, colL_snoc]
      split
      · omega
      · refine ⟨by omega, fun _ => ?_⟩
        have := ih.2 (by omega)
        omega
    · have e : s.data.toList.take (k + 1) = s.data.toList.take k := by
        rw [List.take_of_length_le (by rw [← Lib.size_eq]; omega), List.take_of_length_le (by rw [← Lib.size_eq]; omega)]
      rw [e]
      exact ⟨ih.1, fun hk => by omega⟩
theorem row_le (s : ByteArray) (k : Nat) : 1 ≤ rowL (s.data.toList.take k) ∧ (k ≤ s.size → rowL (s.data.toList.take k) ≤ k + 1) := by
  unfold rowL Lib.countByte
  refine ⟨by omega, fun _ => ?_⟩
  have h1 : (s.data.toList.take k).count 10 ≤ (s.data.toList.take k).length := List.count_le_length
  have h2 : (s.data.toList.take k).length ≤ k := List.length_take_le _ _
  omega
/-- From j on no byte 10 is. -/
def Behind (s : ByteArray) (j : Nat) : Prop := j ≤ s.size ∧ colL s.data.toList = colL (s.data.toList.take j) + (s.size - j)
theorem Behind.start (s : ByteArray) : Behind s s.size := ⟨Nat.le_refl _, by rw [List.take_of_length_le (by rw [← Lib.size_eq]; omega)]; omega⟩
theorem Behind.next {s : ByteArray} {j : Nat} (h : Behind s (j + 1)) (hj : j < s.size) (hp : s[j].toNat ≠ 10) : Behind s j :=
  ⟨by omega, by rw [h.2, take_snoc s j hj, colL_snoc, if_neg hp]; omega⟩
theorem Behind.hit {s : ByteArray} {j : Nat} (h : Behind s (j + 1)) (hj : j < s.size) (hp : s[j].toNat = 10) : (j : Int) = (s.size : Int) - colL s.data.toList := by
  rw [h.2, take_snoc s j hj, colL_snoc, if_pos hp]; omega
theorem Behind.none {s : ByteArray} (h : Behind s 0) : (-1 : Int) = (s.size : Int) - colL s.data.toList := by
  have : colL (s.data.toList.take 0) = 1 := by simp [colL]
  rw [h.2, this]; omega
end Go.Proofs.Ytccbdogfapiidaa.W
namespace Go.Proofs.Ytccbdogfapiidaa
open Go.RowKit

theorem retP {a b c d : Int} (h : a = b) (h2 : c = d) : Ending.returned (.tuple #[.int .i64 a, .int .i64 c]) = .returned (.tuple #[.int .i64 b, .int .i64 d]) := by rw [h, h2]
theorem retN {a b : Int} (h : a = b) : Ending.returned (.int .i64 a) = .returned (.int .i64 b) := by rw [h]

set_option maxRecDepth 100000 in
theorem count_any (s : ByteArray) (w : World) :
    Calls Try.prog 26 #[.string s, .string ⟨#[10]⟩] w fun e w' => e = .returned (.int .i64 (Lib.countByte s.data.toList 10)) ∧ w = w' := by
  go_enter Try.func26, Try.ntmps26
  go_wp2
  rw [run_callFunc_extern Try.func38 (by kernel_rfl) (by kernel_rfl) (by kernel_rfl) (e := Extern.BytealgCount.count) (by kernel_rfl), Lib.run_countString]
  simp only [Result.andThen]
  rw [Oper.upon_value]
  go_wp2
  go_ret
  exact ⟨rfl, rfl⟩

theorem lastIdx_any (s : ByteArray) (w : World) (hs : s.size ≤ 1099511627776) :
    Calls Try.prog 40 #[.string s, .int .u8 10] w fun e w' => e = .returned (.int .i64 ((s.size : Int) - W.colL s.data.toList)) ∧ w = w' := by
  go_enter Try.func40, Try.ntmps40
  go_wp2
  go_loop [5] (fun i => ∃ j : Nat, j ≤ s.size ∧ i = .int .i64 ((j : Int) - 1) ∧ Hid (W.Behind s j)) (fun i => (intOf i + 1).toNat)
  case atStart => exact ⟨s.size, Nat.le_refl _, by go_num, W.Behind.start s⟩
  case round =>
    obtain ⟨j, hj, rfl, H⟩ := hrel
    match j, hj, H with
    | 0, hj, H =>
      have HN := Lib.hid H.out.none
      go_wp2
      go_ret
      exact ⟨retN HN.out, rfl⟩
    | j + 1, hj, H =>
      have hlt : j < s.size := by omega
      have e : (((j + 1 : Nat) : Int) - 1) = (j : Int) := by omega
      rw [e]
      clear e
      by_cases h10 : s[j].toNat = 10
      · have b10 : ((s[j].toNat : Int) == 10) = true := by simp; omega
        have HN := Lib.hid (H.out.hit hlt h10)
        clear h10
        go_wp2
        go_ret
        exact ⟨retN HN.out, rfl⟩
      · have b10 : ((s[j].toNat : Int) == 10) = false := by simp; omega
        have HN := Lib.hid (H.out.next hlt h10)
        clear h10
        go_wp2
        go_round
        case rel => exact ⟨j, by omega, by go_num, HN⟩
        case measure => simp [intOf]

theorem lastByte_any (s : ByteArray) (w : World) (hs : s.size ≤ 1099511627776) :
    Calls Try.prog 27 #[.string s, .int .u8 10] w fun e w' => e = .returned (.int .i64 ((s.size : Int) - W.colL s.data.toList)) ∧ w = w' := by
  go_enter Try.func27, Try.ntmps27
  go_wp2_with fail
  refine (lastIdx_any _ _ hs).mono ?_
  rintro e w' ⟨rfl, rfl⟩
  go_wp2
  go_ret
  exact ⟨rfl, rfl⟩

theorem count_is (s : ByteArray) (n : Nat) (w : World) (h : Lib.countByte s.data.toList 10 = n) :
    Calls Try.prog 26 #[.string s, .string ⟨#[10]⟩] w fun e w' => e = .returned (.int .i64 n) ∧ w = w' := by
  rw [← h]; exact count_any s w
theorem last_is (s : ByteArray) (n : Int) (w : World) (hs : s.size ≤ 1099511627776) (h : (s.size : Int) - W.colL s.data.toList = n) :
    Calls Try.prog 27 #[.string s, .int .u8 10] w fun e w' => e = .returned (.int .i64 n) ∧ w = w' := by
  rw [← h]; exact lastByte_any s w hs

/-- The place that is meant. -/
def cutP (s : ByteArray) (a : Int) : Nat := min a.toNat s.size
theorem ext_full (s : ByteArray) (m : Nat) (h : m ≤ s.size) : (s.extract 0 m).size = m ∧ (s.extract 0 m).data.toList = s.data.toList.take m :=
  ⟨by rw [W.rest_size _ _ _ h]; omega, by rw [Lib.extract_data]; simp⟩
theorem place_is (s : ByteArray) (a : Int) (m : Nat) (w : World) (hs : s.size ≤ 1073741824) (hm : m ≤ s.size) (ha : (a < 0 ∧ m = 0) ∨ (a = m) ∨ ((s.size : Int) < a ∧ m = s.size)) :
    Calls Try.prog 15 #[.string s, .int .i64 a] w fun e w' => e = .returned (.tuple #[.int .i64 (W.rowL (s.data.toList.take m)), .int .i64 (W.colL (s.data.toList.take m))]) ∧ w = w' := by
  obtain ⟨hX1, hX2⟩ := ext_full s m hm
  obtain ⟨n, hn⟩ : ∃ n : Nat, Lib.countByte (s.extract 0 m).data.toList 10 = n := ⟨_, rfl⟩
  obtain ⟨c, hc⟩ : ∃ c : Int, ((s.extract 0 m).size : Int) - W.colL (s.extract 0 m).data.toList = c := ⟨_, rfl⟩
  have hr := W.row_le s m
  have hl := W.col_le s m
  have hrow : (W.rowL (s.data.toList.take m) : Int) = n + 1 := by rw [← hX2]; unfold W.rowL; rw [hn]; omega
  have hcol : (W.colL (s.data.toList.take m) : Int) = m - c := by rw [← hX2, ← hc, hX1]; omega
  have hn1 : (n : Int) ≤ s.size := by omega
  have hc1 : -1 ≤ c := by omega
  have hc2 : c ≤ m := by omega
  obtain ⟨X, hX⟩ : ∃ X, s.extract 0 m = X := ⟨_, rfl⟩
  rw [hX] at hX1 hn hc
  have hXs : X.size ≤ 1099511627776 := by omega
  have HX := Lib.hid hX
  have HX1 := Lib.hid hX1
  have HN := Lib.hid hn
  have HC := Lib.hid hc
  have HROW := Lib.hid hrow
  have HCOL := Lib.hid hcol
  clear hX hX1 hX2 hn hc hrow hcol hr hl
  rcases ha with ⟨ha, rfl⟩ | rfl | ⟨ha, rfl⟩
  · go_enter Try.func15, Try.ntmps15
    go_wp2_with fail
    rw [show ByteArray.empty = X by rw [← HX.out]; simp]
    refine (count_is X n _ HN.out).mono ?_
    rintro e w' ⟨rfl, rfl⟩
    go_wp2_with fail
    refine (last_is X c _ hXs HC.out).mono ?_
    rintro e w' ⟨rfl, rfl⟩
    have hx : (X.size : Int) = 0 := by rw [HX1.out]; rfl
    go_wp2
    go_ret2
    exact ⟨retP HROW.out.symm (by rw [HCOL.out]; omega), rfl⟩
  · go_enter Try.func15, Try.ntmps15
    go_wp2_with fail
    rw [HX.out]
    refine (count_is X n _ HN.out).mono ?_
    rintro e w' ⟨rfl, rfl⟩
    go_wp2_with fail
    refine (last_is X c _ hXs HC.out).mono ?_
    rintro e w' ⟨rfl, rfl⟩
    have hx : (X.size : Int) = m := by rw [HX1.out]
    go_wp2
    go_ret2
    exact ⟨retP HROW.out.symm (by rw [HCOL.out]), rfl⟩
  · obtain rfl : s = X := by rw [← HX.out]; simp
    go_enter Try.func15, Try.ntmps15
    go_wp2_with fail
    refine (count_is s n _ HN.out).mono ?_
    rintro e w' ⟨rfl, rfl⟩
    go_wp2_with fail
    refine (last_is s c _ hXs HC.out).mono ?_
    rintro e w' ⟨rfl, rfl⟩
    go_wp2
    go_ret2
    exact ⟨retP HROW.out.symm (by rw [HCOL.out]), rfl⟩
theorem cut_cases (s : ByteArray) (a : Int) : ∃ m : Nat, m ≤ s.size ∧ ((a < 0 ∧ m = 0) ∨ (a = m) ∨ ((s.size : Int) < a ∧ m = s.size)) := by
  by_cases h0 : a < 0
  · exact ⟨0, Nat.zero_le _, .inl ⟨h0, rfl⟩⟩
  · obtain ⟨k, rfl⟩ := Int.eq_ofNat_of_zero_le (show 0 ≤ a by omega)
    by_cases hk : k ≤ s.size
    · exact ⟨k, hk, .inr (.inl rfl)⟩
    · exact ⟨s.size, Nat.le_refl _, .inr (.inr ⟨by omega, rfl⟩)⟩

set_option maxHeartbeats 400000 in
theorem placeR_is (s : ByteArray) (a : Int) (m : Nat) (w : World) (hs : s.size ≤ 1073741824) (hm : m ≤ s.size) (ha : (a < 0 ∧ m = 0) ∨ (a = m) ∨ ((s.size : Int) < a ∧ m = s.size)) :
    Calls Try.prog 16 #[.string s, .int .i64 a] w fun e w' => e = .returned (.tuple #[.int .i64 (W.rowL (s.data.toList.take m)), .int .i64 (W.colL (s.data.toList.take m))]) ∧ w = w' := by
  have HA := Lib.hid ha
  clear ha
  go_enter Try.func16, Try.ntmps16
  go_wp2
  go_loop [6, 7, 8] (fun r c i => ∃ k : Nat, k ≤ m ∧ i = .int .i64 k ∧ r = .int .i64 (W.rowL (s.data.toList.take k)) ∧ c = .int .i64 (W.colL (s.data.toList.take k))) (fun _ _ i => m - (intOf i).toNat)
  case atStart => exact ⟨0, Nat.zero_le _, rfl, rfl, rfl⟩
  case round =>
    obtain ⟨k, hk, rfl, rfl, rfl⟩ := hrel
    have hr := (W.row_le s k).2 (by omega)
    have hl := (W.col_le s k).2 (by omega)
    by_cases hlt : k < m
    · have hks : k < s.size := by omega
      have hka : (k : Int) < a := by have := HA.out; omega
      by_cases h10 : s[k].toNat = 10
      · have b10 : ((s[k].toNat : Int) == 10) = true := by simp; omega
        have H1 := Lib.hid (show W.rowL (s.data.toList.take (k + 1)) = W.rowL (s.data.toList.take k) + 1 by rw [W.take_snoc s k hks, W.rowL_snoc, if_pos h10])
        have H2 := Lib.hid (show W.colL (s.data.toList.take (k + 1)) = 1 by rw [W.take_snoc s k hks, W.colL_snoc, if_pos h10])
        clear h10
        go_wp2
        go_round
        case rel => exact ⟨k + 1, by omega, by go_num, by rw [H1.out]; go_num, by rw [H2.out]; go_num⟩
        case measure => simp [intOf]; omega
      · have b10 : ((s[k].toNat : Int) == 10) = false := by simp; omega
        have H1 := Lib.hid (show W.rowL (s.data.toList.take (k + 1)) = W.rowL (s.data.toList.take k) by rw [W.take_snoc s k hks, W.rowL_snoc, if_neg h10])
        have H2 := Lib.hid (show W.colL (s.data.toList.take (k + 1)) = W.colL (s.data.toList.take k) + 1 by rw [W.take_snoc s k hks, W.colL_snoc, if_neg h10])
        clear h10
        go_wp2
        go_round
        case rel => exact ⟨k + 1, by omega, by go_num, by rw [H1.out], by rw [H2.out]; go_num⟩
        case measure => simp [intOf]; omega
    · obtain rfl : k = m := by omega
      by_cases hks : k < s.size
      · have hka : a ≤ (k : Int) := by have := HA.out; omega
        go_wp2
        go_ret2
        exact ⟨rfl, rfl⟩
      · go_wp2
        go_ret2
        exact ⟨rfl, rfl⟩
end Go.Proofs.Ytccbdogfapiidaa
