/-
  The walk of layer 8's statement DiffText, from what diff's functions do: it returns true whatever the changes are. No conditions.
-/
import Derived.Test.YtgjnafnmdieniaaDoorDiffG
namespace Go.Proofs.YtgjnafnmdieniaaDoor
open Go.RowKit
set_option linter.unusedVariables false

set_option maxRecDepth 100000 in
set_option maxHeartbeats 4000000 in
theorem diffText_walk (E : DiffOk) (w : World) (TAB : TabOk w) (A : Option Addr) (c : Nat) (L : List T.Chg) (hc : L.length ≤ c) (hA : SeenC eD w A L) :
    Calls Tryd.prog 6 #[.slice A L.length c] w (TrueS w) := by
  obtain ⟨n, hn⟩ : ∃ n, L.length = n := ⟨_, rfl⟩
  rw [hn] at hc ⊢
  have HA := Lib.hid hA
  have HN := Lib.hid hn
  have HTAB := Lib.hid TAB
  clear hA hn TAB
  go_enter Tryd.func6, Tryd.ntmps6
  go_wp2_with fail
  refine (refs_any A c n L w HN.out HA.out).mono ?_
  rintro e w1 ⟨ok, v, rfl, h1, h2, hb⟩
  clear h2
  cases ok with
  | false =>
    clear h1
    go_wp2_with fail
    refine (awake_of E _).mono ?_
    rintro e wz ⟨rfl, hx⟩
    go_wp2
    go_ret
    exact ⟨rfl, bthen hb hx⟩
  | true =>
    obtain ⟨ho, h420, hp40⟩ := h1 rfl
    obtain ⟨A2, c2, rfl, hc2, hs2⟩ := ho.seen
    rw [HN.out] at h420 hc2
    rw [HN.out]
    have HS := Lib.hid hs2
    have HP := Lib.hid hp40
    clear h1 ho hs2 hp40
    by_cases h60 : 60 < n
    · have b60 : decide ((60 : Int) < (n : Int)) = true := decide_eq_true (by omega)
      have b61 : decide (60 < n) = true := decide_eq_true h60
      go_wp2_with fail
      refine (awake_of E _).mono ?_
      rintro e wz ⟨rfl, hx⟩
      go_wp2
      go_ret
      exact ⟨rfl, bthen hb hx⟩
    · have b60 : decide ((60 : Int) < (n : Int)) = false := decide_eq_false (by omega)
      have b61 : decide (60 < n) = false := decide_eq_false h60
      replace h60 : n ≤ 60 := by omega
      go_wp2
      go_loopg [22] n (fun gk vi wr => ∃ k : Nat, Hid (k + gk = n) ∧ k ≤ n ∧ vi = .int .i64 (k : Int) ∧ Hid (∀ x ∈ L.take k, 0 ≤ x.mark ∧ x.mark ≤ 1000000000) ∧ Below w.heap.size w wr ∧ Hid (SeenC eF wr A2 L))
      case atStart => exact ⟨0, Nat.zero_add _, Nat.zero_le _, rfl, (fun x hx => by simp at hx), hb, HS⟩
      case round =>
        obtain ⟨k, HG, hk, rfl, HK, hb, HS⟩ := hrel
        by_cases hlt : k < n
        · have blt : decide ((k : Int) < (n : Int)) = true := decide_eq_true (by omega)
          have blt2 : decide (k < n) = true := decide_eq_true hlt
          have hkL : k < L.length := by have := HN.out; omega
          obtain ⟨b, o, B2, c3, nn, rfl, hpn, hnc, hat⟩ := HA.out.atD hkL
          have HT := Lib.hid (show L.take (k + 1) = L.take k ++ [L[k]] from List.take_succ_eq_append_getElem hkL)
          obtain ⟨x, hx⟩ : ∃ x, L[k] = x := ⟨_, rfl⟩
          rw [hx] at HT hpn hat
          obtain ⟨kd, P, mk⟩ := x
          simp only at hpn hat
          obtain ⟨x0, x1, x2, hPs0⟩ := hat _ hb
          have HS1 := Lib.hid (HS.out.below (up wr (.cells #[.int .i64 kd, .slice B2 nn c3, .int .i64 mk] 41)))
          have HB1 := Lib.hid (hb.alloc hb.size (.cells #[.int .i64 kd, .slice B2 nn c3, .int .i64 mk] 41))
          have hbk := fun j => World.cell?_alloc_mark wr #[.int .i64 kd, .slice B2 nn c3, .int .i64 mk] 41 (0, 0) j
          have y2' : (wr.alloc (.cells #[.int .i64 kd, .slice B2 nn c3, .int .i64 mk] 41)).cell? ⟨wr.heap.size, 2, none⟩ = some (.int .i64 mk) := hbk 2
          have hki : (k : Int) < (n : Int) := by omega
          have hgk := HG.out
          clear hx hat hPs0 hpn hbk
          by_cases hm0 : mk < 0
          · have bm0 : decide (mk < 0) = true := decide_eq_true hm0
            clear hm0
            go_wp2_with fail
            refine (awake_of E _).mono ?_
            rintro e wz ⟨rfl, hx⟩
            go_wp2
            go_ret
            exact ⟨rfl, bthen HB1.out hx⟩
          · have bm0 : decide (mk < 0) = false := decide_eq_false hm0
            by_cases hm9 : 1000000000 < mk
            · have bm9 : decide (1000000000 < mk) = true := decide_eq_true hm9
              clear hm0 hm9
              go_wp2_with fail
              refine (awake_of E _).mono ?_
              rintro e wz ⟨rfl, hx⟩
              go_wp2
              go_ret
              exact ⟨rfl, bthen HB1.out hx⟩
            · have bm9 : decide (1000000000 < mk) = false := decide_eq_false hm9
              have HM := Lib.hid (show 0 ≤ mk ∧ mk ≤ 1000000000 by omega)
              clear hm0 hm9
              go_wp2
              go_roundg (n - (k + 1))
              case rel => exact ⟨k + 1, (by show _ = _; omega), by omega, by go_num, Lib.hid (fun x hx => by
                rw [HT.out] at hx
                rcases List.mem_append.1 hx with hx | hx
                · exact HK.out x hx
                · rw [List.mem_singleton.1 hx]; exact HM.out), HB1.out, HS1⟩
              case measure => omega
        · have blt : decide ((k : Int) < (n : Int)) = false := decide_eq_false (by omega)
          have blt2 : decide (k < n) = false := decide_eq_false hlt
          have hkn : n ≤ k := by omega
          have HE := Lib.hid (show L.take k = L from List.take_of_length_le (by have := HN.out; omega))
          have HF := Lib.hid (show FewC L from ⟨by have := HN.out; omega, fun x hx => ⟨HP.out x hx, HK.out x (by rw [HE.out]; exact hx)⟩⟩)
          obtain ⟨q, hq⟩ : ∃ q, sB (T.textD L) = q := ⟨_, rfl⟩
          have HQ := Lib.hid hq
          clear hq
          go_wp2_with fail
          refine (text_is8 E A c n L q _ ⟨HN.out, by omega, hc, HA.out.below hb⟩ HF.out (Or.inr (HTAB.out.below hb)) HQ.out).mono ?_
          rintro e w4 ⟨rfl, hx⟩
          replace HS := Lib.hid (HS.out.below hx)
          replace hb := bthen hb hx
          clear hx
          go_wp2_with fail
          refine (refTextQ A2 c2 n L q _ HN.out HS.out HF.out HQ.out).mono ?_
          rintro e w5 ⟨rfl, hx⟩
          replace hb := bthen hb hx
          clear hx
          go_wp2_with fail
          refine (awake_of E _).mono ?_
          rintro e wz ⟨rfl, hx⟩
          go_wp2
          go_ret
          exact ⟨rfl, bthen hb hx⟩
end Go.Proofs.YtgjnafnmdieniaaDoor
