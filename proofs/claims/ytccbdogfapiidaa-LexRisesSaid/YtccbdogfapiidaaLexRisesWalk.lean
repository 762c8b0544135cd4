/-
  The walk of layer 2's statement LexRises: it returns true whatever the string is. No conditions.
-/
import Derived.Test.YtccbdogfapiidaaLexAwake
import Derived.Test.YtccbdogfapiidaaLexPure3
namespace Go.Proofs.Ytccbdogfapiidaa
open Go.RowKit

/-- What a token of a rising list says of its byte, as the walk asks it. -/
theorem rise_at {s : ByteArray} {l : List W.Tok} {i lo : Nat} (hi : i < l.length) (h : W.Rising s.data.toList lo (l.drop i)) :
    ∃ kd pos wd b, l[i] = ⟨kd, pos, wd, b⟩ ∧ lo ≤ pos ∧ ∃ hp : pos < s.size, W.goodB s[pos] kd ∧ W.Rising s.data.toList (pos + 1) (l.drop (i + 1)) := by
  rw [List.drop_eq_getElem_cons hi] at h
  obtain ⟨h1, ⟨c, hc, hg⟩, h2⟩ := h
  have hp : l[i].pos < s.size := by
    have := (List.getElem?_eq_some_iff.1 hc).1
    rw [← Lib.size_eq] at this; exact this
  refine ⟨_, _, _, _, rfl, h1, hp, ?_, h2⟩
  rw [List.getElem?_eq_getElem (by rw [← Lib.size_eq]; exact hp)] at hc
  injection hc with hc
  have e : s[l[i].pos] = c := hc
  show W.goodB s[l[i].pos] l[i].kind
  rw [e]; exact hg
theorem bsame {x y : Bool} (h : x = true ↔ y = true) : x = y := by cases x <;> cases y <;> simp_all

set_option maxRecDepth 100000 in
set_option maxHeartbeats 2000000 in
theorem lexRises_walk (s : ByteArray) (hs : s.size ≤ maxLen) (w : World) :
    Calls Try.prog 9 #[.string s] w (TrueS w) := by
  unfold maxLen at hs
  by_cases h600 : s.size ≤ 600
  · have b600 : decide ((600 : Int) < (s.size : Int)) = false := by simp; omega
    cases hr : W.lexL 0 s.data.toList with
    | bad p er =>
      obtain ⟨hp0, hp1, her⟩ := W.bad_lt _ _ _ _ hr
      rw [Nat.zero_add, ← Lib.size_eq] at hp1
      have ber : (er != 0) = true := bne_iff_ne.2 her
      have HR := Lib.hid hr
      clear hr her
      go_enter Try.func9, Try.ntmps9
      go_wp2_with fail
      refine (all_err s p er _ (by omega) HR.out).mono ?_
      rintro e w1 ⟨A, cap, rfl, hb1⟩
      go_wp2_with fail
      refine (awake_any _).mono ?_
      rintro e w2 ⟨rfl, hb2⟩
      go_wp2
      go_ret
      exact ⟨rfl, bthen hb1 hb2⟩
    | ok l =>
      have hln := W.lexL_len _ _ _ hr
      rw [← Lib.size_eq] at hln
      have HI := Lib.hid (W.rising_of s.data.toList s.data.toList 0 l (List.drop_zero ..) hr)
      have HR := Lib.hid hr
      clear hr
      go_enter Try.func9, Try.ntmps9
      go_wp2_with fail
      refine (all_saw s (.ok l) _ (by omega) HR.out).mono ?_
      rintro e w1 ⟨v, rfl, ⟨A, cap, rfl, hseen⟩, hb1⟩
      have HS := Lib.hid hseen
      clear hseen
      simp only [W.Res.toks, W.Res.place, W.Res.err]
      go_wp2
      go_loopg [6, 40] l.length (fun g la i wr => ∃ k lo : Nat, Hid (k + g = l.length) ∧ k ≤ l.length ∧ i = .int .i64 k ∧ la = .int .i64 ((lo : Int) - 1) ∧ lo ≤ 600 ∧ Hid (W.Rising s.data.toList lo (l.drop k)) ∧ Below w1.heap.size w1 wr)
      case atStart => exact ⟨0, 0, Nat.zero_add _, Nat.zero_le _, rfl, rfl, by omega, HI.out, Below.refl _ _⟩
      case round =>
        obtain ⟨k, lo, HG, hk, rfl, rfl, hlo, HRi, hb⟩ := hrel
        by_cases hlt : k < l.length
        · obtain ⟨g, rfl, hg⟩ := HS.out (by show 0 < l.length; omega)
          obtain ⟨kd, pos, wd, b, ht, h1, hp, ⟨g2, g3, g4, n32, n10, n35⟩, hnext⟩ := rise_at hlt HRi.out
          obtain ⟨c0, c1, c2, c3⟩ := HoldsT.cells (hg.below hb) hlt ht
          have HN := Lib.hid hnext
          clear hnext ht
          have d2 : (kd == 2) = ((s[pos].toNat : Int) == 123) := bsame (by rw [beq_iff_eq, beq_iff_eq]; omega)
          have d3 : (kd == 3) = ((s[pos].toNat : Int) == 125) := bsame (by rw [beq_iff_eq, beq_iff_eq]; omega)
          have d4 : (kd == 4) = ((s[pos].toNat : Int) == 59) := bsame (by rw [beq_iff_eq, beq_iff_eq]; omega)
          have e32 : ((s[pos].toNat : Int) == 32) = false := by simp; omega
          have e10 : ((s[pos].toNat : Int) == 10) = false := by simp; omega
          have e35 : ((s[pos].toNat : Int) == 35) = false := by simp; omega
          clear g2 g3 g4 n32 n10 n35
          go_wp2
          go_roundg (l.length - (k + 1))
          case rel => exact ⟨k + 1, pos + 1, (by show _ = _; omega), by omega, by go_num, by go_num, by omega, HN, hb.alloc hb.size _⟩
          case measure => have := HG.out; omega
        · go_wp2_with fail
          refine (awake_any _).mono ?_
          rintro e w2 ⟨rfl, hb2⟩
          go_wp2
          go_ret
          exact ⟨rfl, bthen (bthen hb1 hb) hb2⟩
  · go_enter Try.func9, Try.ntmps9
    go_wp2_with fail
    refine (awake_any _).mono ?_
    rintro e w1 ⟨rfl, hb1⟩
    go_wp2
    go_ret
    exact ⟨rfl, hb1⟩
end Go.Proofs.Ytccbdogfapiidaa
