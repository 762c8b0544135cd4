/-
  The walk of layer 4's statement ShowBytes: it returns true whatever the lines are. No conditions.
-/
import Derived.Test.YtokhflpeeibeeaaShowAwake
namespace Go.Proofs.Ytokhflpeeibeeaa
open Go.RowKit

/-- What Text answers of any lines, with its bytes. -/
theorem text_bytes (t : List T.Ln) (hl : t.length ≤ 1073741824) : ∃ q : ByteArray, ((T.RightT t ∧ q.data.toList = S.textL t) ∨ (¬ T.RightT t ∧ q = ⟨#[]⟩)) ∧ q.size ≤ 201000 ∧ (∀ k (h : k < q.size), q[k].toNat = 10 ∨ (32 ≤ q[k].toNat ∧ q[k].toNat ≤ 126)) ∧
    ∀ (A : Option Addr) (c : Nat) (w : World), Seen eL w A t → Calls Try.prog 11 #[.slice A t.length c] w fun e w' => (∃ er : Int, e = .returned (.tuple #[.string q, .int .i64 er]) ∧ ((er = 0 ∧ T.RightT t) ∨ (er = 1 ∧ ¬ T.RightT t))) ∧ Below w.heap.size w w' := by
  by_cases hR : T.RightT t
  · refine ⟨⟨(S.textL t).toArray⟩, .inl ⟨hR, by simp⟩, ?_, ?_, fun A c w hA => (text_yes A c t w hA hR).mono fun e w' h => ⟨⟨0, h.1, .inl ⟨rfl, hR⟩⟩, h.2⟩⟩
    · have := S.RightT.text_len hR t.length (Nat.le_refl _)
      have := hR.len
      show (S.textL t).toArray.size ≤ _
      simp [S.textL]; omega
    · intro k h
      obtain ⟨n, hn, _⟩ := S.RightT.rows_text hR
      have hk : k < (S.textL t).length := by have h2 : k < (S.textL t).toArray.size := h; simpa using h2
      have := hn.bytes (S.textL t)[k] (List.getElem_mem hk)
      unfold S.okB at this
      have e : (⟨(S.textL t).toArray⟩ : ByteArray)[k]'h = (S.textL t)[k] := by show (S.textL t).toArray[k]'_ = _; simp
      rw [e]; exact this
  · exact ⟨⟨#[]⟩, .inr ⟨hR, rfl⟩, by decide, fun k h => absurd h (Nat.not_lt_zero k), fun A c w hA => (text_no A c t w hA hl hR).mono fun e w' h => ⟨⟨1, h.1, .inr ⟨rfl, hR⟩⟩, h.2⟩⟩

set_option maxRecDepth 100000 in
set_option maxHeartbeats 1000000 in
theorem showBytes_walk (w : World) (A : Option Addr) (c : Nat) (t : List T.Ln) (_hc : t.length ≤ c) (hA : Seen eL w A t) (hl : t.length ≤ maxLen) :
    Calls Try.prog 7 #[.slice A t.length c] w (TrueS w) := by
  unfold maxLen at hl
  have HA := Lib.hid hA
  clear hA
  have hb : Below w.heap.size w w := Below.refl _ _
  go_enter Try.func7, Try.ntmps7
  go_wp2_with fail
  refine (small_is A c t _ HA.out).mono ?_
  rintro e wx1 ⟨bs, rfl, hsm, hx⟩
  replace HA := Lib.hid (HA.out.below hx)
  replace hb := bthen hb hx
  clear hx
  cases bs with
  | false =>
    clear hsm
    go_wp2_with fail
    refine (awake_any _).mono ?_
    rintro e wz ⟨rfl, hx⟩
    go_wp2
    go_ret
    exact ⟨rfl, bthen hb hx⟩
  | true =>
    replace hsm := hsm rfl
    have hll : t.length ≤ 1073741824 := by omega
    obtain ⟨q, _, hq, hB, hT⟩ := text_bytes t hll
    have HB := Lib.hid hB
    have HT := Lib.hid hT
    clear hB hT
    go_wp2_with fail
    refine (HT.out A c _ HA.out).mono ?_
    rintro e wx2 ⟨⟨er, rfl, her⟩, hx⟩
    replace HA := Lib.hid (HA.out.below hx)
    replace hb := bthen hb hx
    clear hx
    rcases her with ⟨rfl, hR⟩ | ⟨rfl, hR⟩
    all_goals
      have HR := Lib.hid hR
      clear hR
      go_wp2
      go_loopg [17] q.size (fun g x wr => ∃ k : Nat, k + g = q.size ∧ x = .int .i64 k ∧ wx2 = wr)
      case atStart => exact ⟨0, Nat.zero_add _, rfl, rfl⟩
      case round =>
        obtain ⟨k, hg, rfl, rfl⟩ := hrel
        have HG := Lib.hid hg
        clear hg
        by_cases hlt : k < q.size
        · have blt : decide (k < q.size) = true := decide_eq_true hlt
          have hok := HB.out k hlt
          by_cases h10 : q[k].toNat = 10
          · have b10 : ((q[k].toNat : Int) != 10) = false := by simp; omega
            clear hok h10
            go_wp2
            go_roundg (q.size - (k + 1))
            case rel => exact ⟨k + 1, by have := HG.out; omega, by go_num, rfl⟩
            case measure => have := HG.out; omega
          · have b10 : ((q[k].toNat : Int) != 10) = true := by simp; omega
            have b32 : decide ((q[k].toNat : Int) < 32) = false := decide_eq_false (by omega)
            have b126 : decide ((126 : Int) < (q[k].toNat : Int)) = false := decide_eq_false (by omega)
            clear hok h10
            go_wp2
            go_roundg (q.size - (k + 1))
            case rel => exact ⟨k + 1, by have := HG.out; omega, by go_num, rfl⟩
            case measure => have := HG.out; omega
        · have blt : decide (k < q.size) = false := decide_eq_false hlt
          go_wp2_with fail
          first
            | refine (rightR_is A c t true _ HA.out hll (yes_iff HR.out)).mono ?_
            | refine (rightR_is A c t false _ HA.out hll (no_iff HR.out)).mono ?_
          rintro e wx3 ⟨rfl, hx⟩
          replace hb := bthen hb hx
          clear hx
          go_wp2_with fail
          refine (awake_any _).mono ?_
          rintro e wz ⟨rfl, hx⟩
          go_wp2
          go_ret
          exact ⟨rfl, bthen hb hx⟩
end Go.Proofs.Ytokhflpeeibeeaa
