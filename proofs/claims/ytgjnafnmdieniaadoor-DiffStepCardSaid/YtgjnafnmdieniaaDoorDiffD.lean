/-
  Contracts of refs and of the document's Same (layer 8's statements). Condition: at most 2^30 changes.
-/
import Derived.Test.YtgjnafnmdieniaaDoorDiffC
import Derived.Deep.RegionHeld3
namespace Go.Proofs.YtgjnafnmdieniaaDoor
open Go.RowKit
set_option linter.unusedVariables false

def ShortS (w : World) (l : T.Pth) (e : Ending) (w' : World) : Prop := ∃ b, e = .returned (.bool b) ∧ (b = true → l.length ≤ 40) ∧ ((l.length ≤ 40 ∧ ∀ x ∈ l, x.length ≤ 100) → b = true) ∧ w = w'
set_option maxRecDepth 100000 in
theorem shortB (A : Option Addr) (c n : Nat) (l : T.Pth) (w : World) (hn : l.length = n) (hA : Seen eS w A l) :
    Calls Tryd.prog 21 #[.slice A n c] w (ShortS w l) := by
  have HA := Lib.hid hA
  have HN := Lib.hid hn
  clear hA hn
  by_cases h40 : n ≤ 40
  · have b40 : decide ((40 : Int) < (n : Int)) = false := decide_eq_false (by omega)
    have b40b : decide (40 < n) = false := decide_eq_false (by omega)
    go_enter Tryd.func21, Tryd.ntmps21
    go_wp2
    go_loopg [3] n (fun g i wr => ∃ k : Nat, Hid (k + g = n) ∧ k ≤ n ∧ i = .int .i64 k ∧ w = wr)
    case atStart => exact ⟨0, Nat.zero_add _, Nat.zero_le _, rfl, rfl⟩
    case round =>
      obtain ⟨k, HG, hk, rfl, rfl⟩ := hrel
      by_cases hlt : k < n
      · have blt : decide ((k : Int) < (n : Int)) = true := decide_eq_true (by omega)
        have blt2 : decide (k < n) = true := decide_eq_true hlt
        have hkl : k < l.length := by have := HN.out; omega
        obtain ⟨b, o, rfl, hbw, hL⟩ := HA.out (by omega)
        have c1 := hL.str hkl
        have hki : (k : Int) < (n : Int) := by omega
        obtain ⟨x, hx⟩ : ∃ x, l[k] = x := ⟨_, rfl⟩
        rw [hx] at c1
        have HX := Lib.hid (show x ∈ l from hx ▸ List.getElem_mem hkl)
        have hxs := sB_size x
        clear hL hx
        by_cases h100 : 100 < x.length
        · have b100 : decide ((100 : Int) < ((sB x).size : Int)) = true := decide_eq_true (by rw [hxs]; omega)
          have b100b : decide (100 < (sB x).size) = true := decide_eq_true (by rw [hxs]; omega)
          clear hxs
          go_wp2
          go_ret
          exact ⟨false, rfl, (fun h => by cases h), (fun h => by have := h.2 x HX.out; omega), rfl⟩
        · have b100 : decide ((100 : Int) < ((sB x).size : Int)) = false := decide_eq_false (by rw [hxs]; omega)
          have b100b : decide (100 < (sB x).size) = false := decide_eq_false (by rw [hxs]; omega)
          clear hxs
          have hgk := HG.out
          go_wp2
          go_roundg (n - (k + 1))
          case rel => exact ⟨k + 1, (by show _ = _; omega), by omega, by go_num, rfl⟩
          case measure => omega
      · have blt : decide ((k : Int) < (n : Int)) = false := decide_eq_false (by omega)
        have blt2 : decide (k < n) = false := decide_eq_false hlt
        go_wp2
        go_ret
        exact ⟨true, rfl, (fun _ => by have := HN.out; omega), (fun _ => rfl), rfl⟩
  · have b40 : decide ((40 : Int) < (n : Int)) = true := decide_eq_true (by omega)
    have b40b : decide (40 < n) = true := decide_eq_true (by omega)
    go_enter Tryd.func21, Tryd.ntmps21
    go_wp2
    go_ret
    exact ⟨false, rfl, (fun h => by cases h), (fun h => by have := HN.out; omega), rfl⟩
/-- What lies in elder memory lies outside a slice of the call's own. -/
theorem Free.elder {E : Elem ChM} {w w0 : World} {base : Nat} {v : Value} {L : List T.Chg} {m : ChM} {x : T.Chg} (h : OwnC E w base v L) (hx : Seen eS w0 m.A x.path) (hb : w0.heap.size ≤ base) : Free v m x := by
  intro hp a ha e
  obtain ⟨M, _, h2, _⟩ := h
  obtain ⟨b, o, e2, hb2, _⟩ := hx hp
  rw [e2] at ha
  injection ha with ha
  have h3 := (h2.lt _ e).1
  rw [← ha] at h3
  have h4 : base ≤ b := h3
  omega
def GoodR (L : List T.Chg) : Prop := L.length ≤ 420 ∧ ∀ x ∈ L, x.path.length ≤ 40 ∧ ∀ y ∈ x.path, y.length ≤ 100
def RefsS (w : World) (L : List T.Chg) (e : Ending) (w' : World) : Prop := ∃ ok v, e = .returned (.tuple #[v, .bool ok]) ∧ (ok = true → OwnC eF w' w.heap.size v L ∧ L.length ≤ 420 ∧ ∀ x ∈ L, x.path.length ≤ 40) ∧ (GoodR L → ok = true) ∧ Below w.heap.size w w'
set_option maxRecDepth 100000 in
set_option maxHeartbeats 4000000 in
theorem refs_any (A : Option Addr) (c n : Nat) (L : List T.Chg) (w : World) (hn : L.length = n) (hA : SeenC eD w A L) :
    Calls Tryd.prog 13 #[.slice A n c] w (RefsS w L) := by
  have HA := Lib.hid hA
  have HN := Lib.hid hn
  clear hA hn
  by_cases h420 : n ≤ 420
  · have b420 : decide ((420 : Int) < (n : Int)) = false := decide_eq_false (by omega)
    have b420b : decide (420 < n) = false := decide_eq_false (by omega)
    go_enter Tryd.func13, Tryd.ntmps13
    go_wp2
    go_loopg [4, 13] n (fun gk vo vi wr => ∃ k : Nat, Hid (k + gk = n) ∧ k ≤ n ∧ Hid (OwnC eF wr w.heap.size vo (L.take k)) ∧ vi = .int .i64 (k : Int) ∧ Hid (∀ x ∈ L.take k, x.path.length ≤ 40) ∧ Below w.heap.size w wr)
    case atStart => exact ⟨0, Nat.zero_add _, Nat.zero_le _, OwnC.nil _ _ _, rfl, (fun x hx => by simp at hx), Below.refl _ _⟩
    case round =>
      obtain ⟨k, HG, hk, HO, rfl, HS, hb⟩ := hrel
      by_cases hlt : k < n
      · have blt : decide ((k : Int) < (n : Int)) = true := decide_eq_true (by omega)
        have blt2 : decide (k < n) = true := decide_eq_true hlt
        have hkL : k < L.length := by have := HN.out; omega
        obtain ⟨b, o, B2, c2, nn, rfl, hpn, hnc, hat⟩ := HA.out.atD hkL
        have hSw := (hat w (Below.refl _ _)).2.2.2
        have HT := Lib.hid (show L.take (k + 1) = L.take k ++ [L[k]] from List.take_succ_eq_append_getElem hkL)
        have HMEM := Lib.hid (show L[k] ∈ L from List.getElem_mem hkL)
        obtain ⟨x, hx⟩ : ∃ x, L[k] = x := ⟨_, rfl⟩
        rw [hx] at HT HMEM hpn hat hSw
        obtain ⟨kd, P, mk⟩ := x
        simp only at hpn hat hSw
        obtain ⟨x0, x1, x2, hPs0⟩ := hat _ hb
        have HPN := Lib.hid hpn
        have HP1 := Lib.hid (hPs0.below (up wr (.cells #[.int .i64 kd, .slice B2 nn c2, .int .i64 mk] 41)))
        have HO1 := Lib.hid (HO.out.keep (up wr (.cells #[.int .i64 kd, .slice B2 nn c2, .int .i64 mk] 41)))
        have HB1 := Lib.hid (hb.alloc hb.size (.cells #[.int .i64 kd, .slice B2 nn c2, .int .i64 mk] 41))
        have hbk := fun j => World.cell?_alloc_mark wr #[.int .i64 kd, .slice B2 nn c2, .int .i64 mk] 41 (0, 0) j
        have y0 := hbk 0
        have y1 := hbk 1
        have y2 := hbk 2
        have y0' : (wr.alloc (.cells #[.int .i64 kd, .slice B2 nn c2, .int .i64 mk] 41)).cell? ⟨wr.heap.size, 0, none⟩ = some (.int .i64 kd) := y0
        have y1' : (wr.alloc (.cells #[.int .i64 kd, .slice B2 nn c2, .int .i64 mk] 41)).cell? ⟨wr.heap.size, 1, none⟩ = some (.slice B2 nn c2) := y1
        have y2' : (wr.alloc (.cells #[.int .i64 kd, .slice B2 nn c2, .int .i64 mk] 41)).cell? ⟨wr.heap.size, 2, none⟩ = some (.int .i64 mk) := y2
        have HY := Lib.hid (show ChS (wr.alloc (.cells #[.int .i64 kd, .slice B2 nn c2, .int .i64 mk] 41)) ⟨kd, B2, nn, c2, mk⟩ ⟨kd, P, mk⟩ from ⟨rfl, rfl, hpn, hnc, HP1.out⟩)
        have HF := Lib.hid (Free.elder (m := ⟨kd, B2, nn, c2, mk⟩) (x := ⟨kd, P, mk⟩) HO.out hSw (Nat.le_refl _))
        have hgk := HG.out
        have hki : (k : Int) < (n : Int) := by omega
        have HLN := Lib.hid (show (L.take k).length + 1 ≤ 1099511627776 by rw [List.length_take]; omega)
        have hsz1 := HB1.out.size
        clear hx hat hPs0 hpn hbk y0 y1 y2 hSw
        go_wp2_with fail
        refine (shortB B2 c2 nn P _ HPN.out HP1.out).mono ?_
        rintro e w2 ⟨bs, rfl, hs1, hs2, rfl⟩
        cases bs with
        | false =>
          have HS2 := Lib.hid hs2
          clear hs1 hs2
          go_wp2
          go_ret2
          refine ⟨false, _, rfl, (fun h => by cases h), (fun h => ?_), HB1.out⟩
          have h3 := h.2 _ HMEM.out
          exact HS2.out ⟨h3.1, h3.2⟩
        | true =>
          have HS1 := Lib.hid (hs1 rfl)
          clear hs1 hs2
          go_wp2_with (at_builtin; refine wpList_appC eF _ rfl (.tmp 22) (.tmp 24) rfl w.heap.size u4 (L.take k) rfl HO1.out ⟨kd, P, mk⟩ _ HY.out HF.out 1 _ rfl (wr.heap.size + 1) (by simp) rfl HLN.out hsz1 ?_; intro v3 w3 hown3 hb3)
          go_roundg (n - (k + 1))
          case rel => exact ⟨k + 1, (by show _ = _; omega), by omega, Lib.hid (by rw [HT.out]; exact hown3), by go_num, Lib.hid (fun x hx => by
            rw [HT.out] at hx
            rcases List.mem_append.1 hx with hx | hx
            · exact HS.out x hx
            · rw [List.mem_singleton.1 hx]; exact HS1.out), HB1.out.trans hb3⟩
          case measure => omega
      · have blt : decide ((k : Int) < (n : Int)) = false := decide_eq_false (by omega)
        have blt2 : decide (k < n) = false := decide_eq_false hlt
        have HE := Lib.hid (show L.take k = L from List.take_of_length_le (by have := HN.out; omega))
        have HO1 := Lib.hid (HE.out ▸ HO.out)
        have HS1 := Lib.hid (HE.out ▸ HS.out)
        go_wp2
        go_ret2
        exact ⟨true, _, rfl, (fun _ => ⟨HO1.out, by have := HN.out; omega, HS1.out⟩), (fun _ => rfl), hb⟩
  · have b420 : decide ((420 : Int) < (n : Int)) = true := decide_eq_true (by omega)
    have b420b : decide (420 < n) = true := decide_eq_true (by omega)
    go_enter Tryd.func13, Tryd.ntmps13
    go_wp2
    go_ret2
    exact ⟨false, _, rfl, (fun h => by cases h), (fun h => by have := h.1; have := HN.out; omega), Below.refl _ _⟩
end Go.Proofs.YtgjnafnmdieniaaDoor
