/-
  Contract of the document's Same at changes (layer 8's statements). Condition: at most 2^30 changes.
-/
import Derived.Test.YtgjnafnmdieniaaDoorDiffD
namespace Go.Proofs.YtgjnafnmdieniaaDoor
open Go.RowKit
set_option linter.unusedVariables false

set_option maxRecDepth 100000 in
set_option maxHeartbeats 4000000 in
theorem refSame_yes (A B : Option Addr) (c d n : Nat) (L : List T.Chg) (w : World) (hn : L.length = n) (hn30 : n ≤ 1073741824) (hp30 : ∀ x ∈ L, x.path.length ≤ 1073741824) (hA : SeenC eF w A L) (hB : SeenC eF w B L) :
    Calls Tryd.prog 15 #[.slice A n c, .slice B n d] w (TrueS w) := by
  have HA := Lib.hid hA
  have HB := Lib.hid hB
  have HN := Lib.hid hn
  have HP := Lib.hid hp30
  clear hA hB hn hp30
  go_enter Tryd.func15, Tryd.ntmps15
  go_wp2
  go_loopg [5] n (fun gk vi wr => ∃ k : Nat, Hid (k + gk = n) ∧ k ≤ n ∧ vi = .int .i64 (k : Int) ∧ Below w.heap.size w wr)
  case atStart => exact ⟨0, Nat.zero_add _, Nat.zero_le _, rfl, Below.refl _ _⟩
  case round =>
    obtain ⟨k, HG, hk, rfl, hb⟩ := hrel
    by_cases hlt : k < n
    · have blt : decide ((k : Int) < (n : Int)) = true := decide_eq_true (by omega)
      have blt2 : decide (k < n) = true := decide_eq_true hlt
      have hkL : k < L.length := by have := HN.out; omega
      obtain ⟨b, o, B1, c1, n1, rfl, hpn1, hnc1, hat1⟩ := HA.out.atF hkL
      obtain ⟨b2, o2, B2, c2, n2, rfl, hpn2, hnc2, hat2⟩ := HB.out.atF hkL
      have HQ := Lib.hid (HP.out L[k] (List.getElem_mem hkL))
      obtain rfl : n2 = n1 := by omega
      obtain ⟨x, hx⟩ : ∃ x, L[k] = x := ⟨_, rfl⟩
      rw [hx] at hpn1 hat1 hat2 HQ
      obtain ⟨kd, P, mk⟩ := x
      simp only at hpn1 hat1 hat2 HQ
      have HPN := Lib.hid hpn1
      have hn1le : n2 ≤ 1073741824 := by have := HQ.out; omega
      have HKP := Lib.hid (fun w' (h : Below w.heap.size w w') => show (w'.cell? ⟨b, o + k * 3, none⟩ = some (.int .i64 kd) ∧ w'.cell? ⟨b, o + k * 3 + 1, none⟩ = some (.slice B1 n2 c1) ∧ w'.cell? ⟨b, o + k * 3 + 2, none⟩ = some (.int .i64 mk)) ∧ w'.cell? ⟨b2, o2 + k * 3, none⟩ = some (.int .i64 kd) ∧ w'.cell? ⟨b2, o2 + k * 3 + 1, none⟩ = some (.slice B2 n2 c2) ∧ w'.cell? ⟨b2, o2 + k * 3 + 2, none⟩ = some (.int .i64 mk) from
        ⟨⟨(hat1 w' h).1, (hat1 w' h).2.1, (hat1 w' h).2.2.1⟩, (hat2 w' h).1, (hat2 w' h).2.1, (hat2 w' h).2.2.1⟩)
      have HS := Lib.hid (fun w' (h : Below w.heap.size w w') => (show Seen eS w' B1 P ∧ Seen eS w' B2 P from ⟨(hat1 w' h).2.2.2, (hat2 w' h).2.2.2⟩))
      have HEQ := Lib.hid (fun w' (h : Below w.heap.size w w') => equal_yes B1 B2 c1 c2 P P n2 n2 w' rfl HPN.out HPN.out hn1le (HS.out w' h).1 (HS.out w' h).2)
      have hbd : Below w.heap.size w wr.drew := hb.drew
      have hki : (k : Int) < (n : Int) := by omega
      have hgk := HG.out
      clear hx hpn1 hpn2 hnc1 hnc2 hat1 hat2
      go_wp2
      go_region_held3 (fun w' => Below w.heap.size w w' ∧ (w'.cell? ⟨b, o + k * 3, none⟩ = some (.int .i64 kd) ∧ w'.cell? ⟨b, o + k * 3 + 1, none⟩ = some (.slice B1 n2 c1) ∧ w'.cell? ⟨b, o + k * 3 + 2, none⟩ = some (.int .i64 mk)) ∧ w'.cell? ⟨b2, o2 + k * 3, none⟩ = some (.int .i64 kd) ∧ w'.cell? ⟨b2, o2 + k * 3 + 1, none⟩ = some (.slice B2 n2 c2) ∧ w'.cell? ⟨b2, o2 + k * 3 + 2, none⟩ = some (.int .i64 mk)) (first | ((refine ⟨?_, HKP.out _ ?_⟩) <;> (first | assumption | (refine Below.drew ?_; assumption))) | go_keep) (first | (go_at_call 20; refine (HEQ.out _ (by assumption)).mono ?_; rintro e w' ⟨rfl, hx⟩; have hbx := bthen (show Below w.heap.size w _ by assumption) hx))
      all_goals go_wp2
      all_goals
        go_roundg (n - (k + 1))
        case rel => exact ⟨k + 1, (by show _ = _; omega), by omega, by go_num, hbx⟩
        case measure => omega
    · have blt : decide ((k : Int) < (n : Int)) = false := decide_eq_false (by omega)
      have blt2 : decide (k < n) = false := decide_eq_false hlt
      go_wp2
      go_ret
      exact ⟨rfl, hb⟩
end Go.Proofs.YtgjnafnmdieniaaDoor
