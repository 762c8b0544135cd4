/-
  The walk of layer 7's statement EditTree, from what edit's functions do: it returns true whatever the acts are. No conditions.
-/
import Derived.Test.YtfjpeonfkhcpfaaEditK
import Derived.Test.YtfjpeonfkhcpfaaEditQ
namespace Go.Proofs.Ytfjpeonfkhcpfaa
open Go.RowKit
set_option linter.unusedVariables false

theorem shortQ (A : Option Addr) (c n : Nat) (l : List (List UInt8)) (w : World) (hn : l.length = n) (hA : Seen eS w A l) :
    Calls Try.prog 11 #[.slice A n c] w (FewS w n 40) := by subst hn; exact short_any A c l w hA
set_option maxRecDepth 100000 in
set_option maxHeartbeats 4000000 in
theorem editTree_walk (E : EditOk) (w : World) (A : Option Addr) (c : Nat) (L : List ActM) (hl : L.length ≤ maxLen) (hA : SeenA w A L) :
    Calls Try.prog 4 #[.slice A L.length c] w (TrueS w) := by
  unfold maxLen at hl
  have HA := Lib.hid hA
  obtain ⟨n, hn⟩ : ∃ n, L.length = n := ⟨_, rfl⟩
  have HN := Lib.hid hn
  rw [hn] at hl ⊢
  clear hA hn
  go_enter Try.func4, Try.ntmps4
  go_wp2
  go_loopg [3, 4] 30 (fun gk x y wr => ∃ (k : Nat) (t : List T.Ln) (B : Option Addr) (d : Nat), Hid (k + gk = 30) ∧ k ≤ 30 ∧ x = .slice B t.length d ∧ Hid (Seen eL wr B t) ∧ Hid (NilOk B d) ∧ t.length ≤ d ∧ Hid (T.RightT t) ∧ y = .int .i64 (k : Int) ∧ Below w.heap.size w wr)
  case atStart => exact ⟨0, [], none, 0, Nat.zero_add _, Nat.zero_le _, rfl, Seen.nil, (fun _ => rfl), Nat.le_refl _, nil_right, rfl, Below.refl _ _⟩
  case round =>
    obtain ⟨k, t, B, d, HG, hk, rfl, HT, HNB, htd, HR, rfl, hb⟩ := hrel
    obtain ⟨nt, hnt⟩ : ∃ nt, t.length = nt := ⟨_, rfl⟩
    have HNT := Lib.hid hnt
    have ht200 : nt ≤ 200 := by rw [← hnt]; exact HR.out.len
    rw [hnt] at htd
    rw [hnt]
    clear hnt
    by_cases hkn : k < n
    · have bkn : decide ((k : Int) < (n : Int)) = true := decide_eq_true (by omega)
      have bkn2 : decide (k < n) = true := decide_eq_true hkn
      by_cases hk30 : k < 30
      · have bk30 : decide ((k : Int) < 30) = true := decide_eq_true (by omega)
        have bk30b : decide (k < 30) = true := decide_eq_true hk30
        have hkL : k < L.length := by have := HN.out; omega
        obtain ⟨b, o, rfl, hbw, hh⟩ := HA.out (by omega)
        obtain ⟨P, cp, x0, x1, x2, x3, hcp, hpm, hP⟩ := hh k hkL
        obtain ⟨kd, hkd⟩ : ∃ z, (L[k]).kind = z := ⟨_, rfl⟩
        obtain ⟨bit, hbit⟩ : ∃ z, (L[k]).bit = z := ⟨_, rfl⟩
        obtain ⟨p, hp⟩ : ∃ z, (L[k]).path = z := ⟨_, rfl⟩
        obtain ⟨wd, hwd⟩ : ∃ z, (L[k]).wd = z := ⟨_, rfl⟩
        rw [hkd] at x0
        rw [hp] at x1 hcp hpm hP
        rw [hbit] at x2
        rw [hwd] at x3
        obtain ⟨m, hm⟩ : ∃ m, p.length = m := ⟨_, rfl⟩
        rw [hm] at x1 hcp hpm
        have HM := Lib.hid hm
        have HC := Lib.hid (show ∀ w', Below w.heap.size w w' → w'.cell? ⟨b, o + k * 4, none⟩ = some (.int .i64 kd) ∧ w'.cell? ⟨b, o + k * 4 + 1, none⟩ = some (.slice P m cp) ∧ w'.cell? ⟨b, o + k * 4 + 2, none⟩ = some (.int .i64 bit) ∧ w'.cell? ⟨b, o + k * 4 + 3, none⟩ = some (.string (sB wd)) from fun w' h =>
          ⟨(h.cell (p := ⟨b, _, none⟩) hbw).trans x0, (h.cell (p := ⟨b, _, none⟩) hbw).trans x1, (h.cell (p := ⟨b, _, none⟩) hbw).trans x2, (h.cell (p := ⟨b, _, none⟩) hbw).trans x3⟩)
        have HP := Lib.hid hP
        have hki : (k : Int) < (n : Int) := by omega
        obtain ⟨u, er, hai⟩ := act_is t kd p bit wd
        have HAI := Lib.hid hai
        clear hh x0 x1 x2 x3 hkd hbit hp hwd hm hP hai
        obtain ⟨x0, x1, x2, x3⟩ := HC.out _ hb
        by_cases h16 : m ≤ 16
        · have b16 : decide ((16 : Int) < (m : Int)) = false := decide_eq_false (by omega)
          have b16b : decide (16 < m) = false := decide_eq_false (by omega)
          go_wp2_with fail
          refine (shortQ P cp m p _ HM.out (HP.out.below hb)).mono ?_
          rintro e w2 ⟨bs, rfl, hsp, hx⟩
          replace hb := bthen hb hx
          replace HT := Lib.hid (HT.out.below hx)
          clear hx x0 x1 x2 x3
          obtain ⟨x0, x1, x2, x3⟩ := HC.out _ hb
          cases bs with
          | false =>
            clear hsp
            go_wp2_with fail
            refine (awake_of E _).mono ?_
            rintro e wz ⟨rfl, hx⟩
            go_wp2
            go_ret
            exact ⟨rfl, bthen hb hx⟩
          | true =>
            clear hsp
            by_cases h100 : 100 < (sB wd).size
            · have b100 : decide ((100 : Int) < ((sB wd).size : Int)) = true := decide_eq_true (by omega)
              have b100b : decide (100 < (sB wd).size) = true := decide_eq_true h100
              go_wp2_with fail
              refine (awake_of E _).mono ?_
              rintro e wz ⟨rfl, hx⟩
              go_wp2
              go_ret
              exact ⟨rfl, bthen hb hx⟩
            · have b100 : decide ((100 : Int) < ((sB wd).size : Int)) = false := decide_eq_false (by omega)
              have b100b : decide (100 < (sB wd).size) = false := decide_eq_false h100
              clear h100
              go_wp2_with fail
              refine (do_edit E B P d cp nt m t u p kd bit er wd _ ⟨HNT.out, HM.out, HT.out, HP.out.below hb, HNB.out, htd, hcp, by omega, by omega⟩ HAI.out).mono ?_
              rintro e w3 ⟨A1, c1, rfl, hs1, hn1, hc1, hx⟩
              replace hb := bthen hb hx
              replace HT := Lib.hid (HT.out.below hx)
              have HU := Lib.hid hs1
              have HNU := Lib.hid hn1
              clear hx x0 x1 x2 x3 hs1 hn1
              have HUR := Lib.hid (HAI.out.right HR.out)
              have hul : u.length ≤ 1073741824 := by have := HUR.out.len; omega
              have HUL := Lib.hid hul
              obtain ⟨nu, hnu⟩ : ∃ nu, u.length = nu := ⟨_, rfl⟩
              have HNU2 := Lib.hid hnu
              have hright := right_n A1 c1 u nu w3 HU.out hnu (by omega) HUR.out
              rw [hnu] at hc1
              rw [hnu]
              clear hul hnu
              go_wp2_with fail
              refine hright.mono ?_
              rintro e w4 ⟨rfl, hx⟩
              replace hb := bthen hb hx
              replace HT := Lib.hid (HT.out.below hx)
              replace HU := Lib.hid (HU.out.below hx)
              clear hx hright
              by_cases h0 : er = 0
              · have b0 : (er != 0) = false := by rw [h0]; rfl
                clear h0
                go_wp2
                have hgk := HG.out
                have HU3 := HU
                have hnu := HNU2.out
                go_roundg (30 - (k + 1))
                case rel => exact ⟨k + 1, u, A1, c1, (by show _ = _; omega), by omega, by rw [HNU2.out], HU, HNU, by rw [HNU2.out]; exact hc1, HUR, by go_num, hb⟩
                case measure => omega
              · have b0 : (er != 0) = true := bne_iff_ne.2 h0
                have hut := HAI.out.err h0
                have hsame := same_any B A1 d c1 t u w4 true (yes_iff hut.symm) (by rw [HNT.out]; omega) HT.out HU.out
                rw [HNT.out, HNU2.out] at hsame
                clear h0 hut
                go_wp2_with fail
                refine hsame.mono ?_
                rintro e w5 ⟨rfl, hx⟩
                replace hb := bthen hb hx
                replace HU := Lib.hid (HU.out.below hx)
                clear hx hsame
                go_wp2
                have hgk := HG.out
                have hnu := HNU2.out
                go_roundg (30 - (k + 1))
                case rel => exact ⟨k + 1, u, A1, c1, (by show _ = _; omega), by omega, by rw [HNU2.out], HU, HNU, by rw [HNU2.out]; exact hc1, HUR, by go_num, hb⟩
                case measure => omega
        · have b16 : decide ((16 : Int) < (m : Int)) = true := decide_eq_true (by omega)
          have b16b : decide (16 < m) = true := decide_eq_true (by omega)
          go_wp2_with fail
          refine (awake_of E _).mono ?_
          rintro e wz ⟨rfl, hx⟩
          go_wp2
          go_ret
          exact ⟨rfl, bthen hb hx⟩
      · have bk30 : decide ((k : Int) < 30) = false := decide_eq_false (by omega)
        have bk30b : decide (k < 30) = false := decide_eq_false hk30
        go_wp2_with fail
        refine (awake_of E _).mono ?_
        rintro e wz ⟨rfl, hx⟩
        go_wp2
        go_ret
        exact ⟨rfl, bthen hb hx⟩
    · have bkn : decide ((k : Int) < (n : Int)) = false := decide_eq_false (by omega)
      have bkn2 : decide (k < n) = false := decide_eq_false hkn
      go_wp2_with fail
      refine (awake_of E _).mono ?_
      rintro e wz ⟨rfl, hx⟩
      go_wp2
      go_ret
      exact ⟨rfl, bthen hb hx⟩
end Go.Proofs.Ytfjpeonfkhcpfaa
