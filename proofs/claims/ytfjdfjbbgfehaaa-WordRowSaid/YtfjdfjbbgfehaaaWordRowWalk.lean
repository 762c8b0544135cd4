/-
  The walk of layer 1's statement WordRow: it returns true whatever the strings are. No conditions.
-/
import Derived.Test.YtfjdfjbbgfehaaaWordQuotesWalk
import Derived.Test.YtfjdfjbbgfehaaaLawStrs
namespace Go.Proofs.Ytfjdfjbbgfehaaa
open Go.RowKit

/-- The words written, a blank behind each. -/
def rowL (xs : List ByteArray) : List UInt8 := xs.flatMap fun x => W.quoteL x.data.toList ++ [32]
theorem rowL_append (a b : List ByteArray) : rowL (a ++ b) = rowL a ++ rowL b := by simp [rowL]
theorem take_next (xs : List ByteArray) (k : Nat) (h : k < xs.length) : xs.take (k + 1) = xs.take k ++ [xs.getD k ByteArray.empty] := by
  rw [List.take_succ_eq_append_getElem h]; simp [List.getD, List.getElem?_eq_getElem h]
theorem rowL_next (xs : List ByteArray) (k : Nat) (h : k < xs.length) : rowL (xs.take (k + 1)) = rowL (xs.take k) ++ (W.quoteL (xs.getD k ByteArray.empty).data.toList ++ [32]) := by
  rw [take_next xs k h, rowL_append]; simp [rowL]
theorem rowL_split (xs : List ByteArray) (k : Nat) (h : k < xs.length) : ∃ r, rowL xs = rowL (xs.take k) ++ (W.quoteL (xs.getD k ByteArray.empty).data.toList ++ 32 :: r) := by
  refine ⟨rowL (xs.drop (k + 1)), ?_⟩
  conv => lhs; rw [← List.take_append_drop (k + 1) xs, rowL_append, rowL_next xs k h]
  simp
theorem rowL_len (xs : List ByteArray) (h : ∀ x ∈ xs, x.size ≤ 40) : (rowL xs).length ≤ 163 * xs.length := by
  induction xs with
  | nil => simp [rowL]
  | cons x xs ih =>
    have h1 := ih (fun y hy => h y (by simp [hy]))
    have h2 := (W.quote_len x.data.toList).2
    have h3 := h x (by simp)
    rw [Lib.size_eq] at h3
    have e : rowL (x :: xs) = (W.quoteL x.data.toList ++ [32]) ++ rowL xs := by simp [rowL]
    rw [e]
    simp only [List.length_append, List.length_cons, List.length_nil]
    omega

theorem cat3 (p q : List UInt8) : (⟨p.toArray⟩ : ByteArray) ++ ((⟨q.toArray⟩ : ByteArray) ++ (⟨#[32]⟩ : ByteArray)) = ⟨(p ++ (q ++ [32])).toArray⟩ := by
  apply ByteArray.ext
  simp [ByteArray.data_append]

theorem all_next {xs : List ByteArray} {k : Nat} (h : k < xs.length) (h1 : ∀ x ∈ xs.take k, x.size ≤ 40) (h2 : (xs.getD k ByteArray.empty).size ≤ 40) : ∀ x ∈ xs.take (k + 1), x.size ≤ 40 := by
  rw [take_next xs k h]
  intro x hx
  rcases List.mem_append.1 hx with hx | hx
  · exact h1 x hx
  · simp at hx; subst hx; simpa using h2

set_option maxRecDepth 100000 in
set_option maxHeartbeats 1000000 in
theorem wordRow_walk (A : Option Addr) (n c : Nat) (xs : List ByteArray) (w : World) (hx : HoldsS w A n xs) (hn : n ≤ maxLen) (hws : ∀ x ∈ xs, x.size ≤ maxLen) :
    Calls Try.prog 8 #[.slice A n c] w (TrueS w) := by
  unfold maxLen at hn
  by_cases h20 : n ≤ 20
  · go_enter Try.func8, Try.ntmps8
    go_wp2
    go_loopw [3, 21] (fun s i wr => ∃ k : Nat, k ≤ n ∧ i = .int .i64 k ∧ s = .string ⟨(rowL (xs.take k)).toArray⟩ ∧ Below w.heap.size w wr ∧ Hid (∀ x ∈ xs.take k, x.size ≤ 40)) (fun _ i _ => n - (intOf i).toNat)
    case atStart => exact ⟨0, Nat.zero_le _, rfl, by simp [rowL], Below.refl _ _, fun x hx => by simp at hx⟩
    case round =>
      obtain ⟨k, hk, rfl, rfl, hb, H40⟩ := hrel
      by_cases hlt : k < n
      · obtain ⟨ad, rfl, hc⟩ := (hx.below hb).2 k hlt
        obtain ⟨x, hxk⟩ : ∃ x, xs.getD k ByteArray.empty = x := ⟨_, rfl⟩
        rw [hxk] at hc
        have HK := Lib.hid hxk
        have hmx : x ∈ xs := by rw [← hxk]; simp [List.getD, List.getElem?_eq_getElem (show k < xs.length by rw [hx.1]; exact hlt)]
        have hxs := hws x hmx
        unfold maxLen at hxs
        clear hxk hmx
        by_cases h40 : x.size ≤ 40
        · obtain ⟨q, hq⟩ : ∃ q, W.quoteL x.data.toList = q := ⟨_, rfl⟩
          have HQ := Lib.hid hq
          obtain ⟨p, hp⟩ : ∃ p, rowL (xs.take k) = p := ⟨_, rfl⟩
          have HP := Lib.hid hp
          have hql := (W.quote_len x.data.toList).2
          rw [hq, ← Lib.size_eq] at hql
          have hpl := rowL_len _ H40.out
          have htl : (xs.take k).length ≤ k := List.length_take_le _ _
          rw [hp] at hpl
          rw [hp]
          clear hq hp
          go_wp2_with fail
          refine (quote_is x q _ h40 HQ.out).mono ?_
          rintro e w1 ⟨rfl, hb1⟩
          go_wp2
          go_roundw
          case rel => exact ⟨k + 1, by omega, by go_num, by rw [cat3, rowL_next xs k (by rw [hx.1]; exact hlt), HK.out, HQ.out, HP.out], bthen hb hb1, all_next (by rw [hx.1]; exact hlt) H40.out (by rw [HK.out]; exact h40)⟩
          case measure => simp [intOf]; omega
        · go_wp2_with fail
          refine (quote_long x _ h40).mono ?_
          rintro e w1 ⟨rfl, hb1⟩
          go_wp2_with fail
          refine (awake_any _).mono ?_
          rintro e w2 ⟨rfl, hb2⟩
          go_wp2
          go_ret
          exact ⟨rfl, bthen (bthen hb hb1) hb2⟩
      · obtain ⟨S, hS⟩ : ∃ S : ByteArray, (⟨(rowL (xs.take k)).toArray⟩ : ByteArray) = S := ⟨_, rfl⟩
        rw [hS]
        have hSl : S.data.toList = rowL xs := by rw [← hS, List.take_of_length_le (by rw [hx.1]; omega)]
        have hSz : S.size ≤ 163 * 20 := by
          rw [Lib.size_eq, hSl]
          have := rowL_len (xs.take k) H40.out
          rw [List.take_of_length_le (by rw [hx.1]; omega)] at this
          rw [hx.1] at this
          omega
        have HSl := Lib.hid hSl
        have hx40 : ∀ x ∈ xs, x.size ≤ 40 := by have := H40.out; rwa [List.take_of_length_le (by rw [hx.1]; omega)] at this
        have HX40 := Lib.hid hx40
        clear hS hSl hx40
        have hx2 := hx.below hb
        go_wp2
        go_loopw [8, 45] (fun a i wq => ∃ j : Nat, j ≤ n ∧ i = .int .i64 j ∧ a = .int .i64 (rowL (xs.take j)).length ∧ Below wr.heap.size wr wq) (fun _ i _ => n - (intOf i).toNat)
        case atStart => exact ⟨0, Nat.zero_le _, rfl, by simp [rowL], Below.refl _ _⟩
        case round =>
          obtain ⟨j, hj, rfl, rfl, hbq⟩ := hrel
          obtain ⟨P, hP⟩ : ∃ P, rowL (xs.take j) = P := ⟨_, rfl⟩
          rw [hP]
          have HP := Lib.hid hP
          clear hP
          by_cases hjl : j < n
          · have hjx : j < xs.length := by rw [hx.1]; exact hjl
            obtain ⟨ad, rfl, hc⟩ := (hx2.below hbq).2 j hjl
            obtain ⟨r, hr⟩ := rowL_split xs j hjx
            have hnx := rowL_next xs j hjx
            obtain ⟨x, hxk⟩ : ∃ x, xs.getD j ByteArray.empty = x := ⟨_, rfl⟩
            rw [hxk] at hc hr hnx
            have h40 : x.size ≤ 40 := HX40.out x (by rw [← hxk]; simp [List.getD, List.getElem?_eq_getElem hjx])
            obtain ⟨q, hq⟩ : ∃ q, W.quoteL x.data.toList = q := ⟨_, rfl⟩
            have hqp : 0 < q.length := by rw [← hq]; exact W.quote_pos _
            rw [hq, HP.out] at hr hnx
            have hsc : W.scanL S.data.toList (P.length : Nat) = some (P.length + q.length) := by rw [HSl.out, hr, ← hq]; exact W.scanL_row P _ r
            have hlen : P.length + q.length < S.size := by rw [Lib.size_eq, HSl.out, hr]; simp
            have hby : S[P.length + q.length].toNat = 32 := by
              have e : S.data.toList[P.length + q.length]? = some 32 := by
                rw [HSl.out, hr, ← List.append_assoc, List.getElem?_append_right (by simp)]; simp
              rw [List.getElem?_eq_getElem (by rw [← Lib.size_eq]; exact hlen)] at e
              injection e with e
              have e2 : S[P.length + q.length] = 32 := e
              rw [e2]; rfl
            have hex : (S.extract P.length (P.length + q.length)).data.toList = q := by
              rw [Lib.extract_data, HSl.out, hr, List.drop_left]; simp
            have hun : W.unqL (S.extract P.length (P.length + q.length)).data.toList = (x.data.toList, 0) := by rw [hex, ← hq]; exact W.unq_quote _ (by rw [← Lib.size_eq]; exact h40)
            have hes : (S.extract P.length (P.length + q.length)).size ≤ 1099511627776 := by rw [W.rest_size _ _ _ (by omega)]; omega
            have b32 : ((S[P.length + q.length].toNat : Int) != 32) = false := by rw [hby]; rfl
            have HSC := Lib.hid hsc
            have HUN := Lib.hid hun
            have HNX := Lib.hid hnx
            clear hsc hun hnx hby hex hr hxk hq
            go_wp2_with fail
            refine (scan_is S P.length (P.length + q.length) _ (by omega) HSC.out).mono ?_
            rintro e w' ⟨rfl, rfl⟩
            go_wp2_with fail
            refine (unq_is (S.extract P.length (P.length + q.length)) x.data.toList 0 _ hes HUN.out).mono ?_
            rintro e w1 ⟨rfl, hb1⟩
            rw [Lib.mk_data]
            go_wp2
            go_roundw
            case rel => exact ⟨j + 1, by omega, by go_num, by rw [HNX.out]; simp; omega, bthen hbq hb1⟩
            case measure => simp [intOf]; omega
          · have hfin : P.length = S.size := by
              rw [Lib.size_eq, HSl.out, ← HP.out, List.take_of_length_le (by rw [hx.1]; omega)]
            have bfin : ((P.length : Int) == (S.size : Int)) = true := by rw [hfin]; simp
            clear hfin
            go_wp2_with fail
            refine (awake_any _).mono ?_
            rintro e w2 ⟨rfl, hb2⟩
            go_wp2
            go_ret
            exact ⟨rfl, bthen (bthen hb hbq) hb2⟩
  · go_enter Try.func8, Try.ntmps8
    go_wp2_with fail
    refine (awake_any _).mono ?_
    rintro e w1 ⟨rfl, hb1⟩
    go_wp2
    go_ret
    exact ⟨rfl, hb1⟩
end Go.Proofs.Ytfjdfjbbgfehaaa
