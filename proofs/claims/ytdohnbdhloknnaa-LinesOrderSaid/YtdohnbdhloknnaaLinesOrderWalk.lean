/-
  The walk of layer 6's statement LinesOrder: it returns true whatever the paths and the number are. No conditions.
-/
import Derived.Test.YtdohnbdhloknnaaLinesAwake
import Derived.Test.YtdohnbdhloknnaaLinesP
namespace Go.Proofs.Ytdohnbdhloknnaa
open Go.RowKit
set_option linter.unusedVariables false

/-- A path as the statement asks it. -/
def GoodPth (p : T.Pth) : Prop := 0 < p.length ∧ p.length ≤ 16 ∧ ∀ x ∈ p, x.length ≤ 40
theorem GoodPth.gen {p : T.Pth} (h1 : 0 < p.length) (h2 : p.length ≤ 16) (h3 : ∀ j (h : j < p.length), p[j].length ≤ 40) : GoodPth p := ⟨h1, h2, fun x hx => by obtain ⟨j, hj, rfl⟩ := List.getElem_of_mem hx; exact h3 j hj⟩
def listB (L : List T.Pth) (by_ k : Nat) : List T.Pth := (List.range k).map fun i => L.getD ((L.length - i + by_) % L.length) []
theorem listB_next (L : List T.Pth) (by_ k : Nat) : listB L by_ (k + 1) = listB L by_ k ++ [L.getD ((L.length - k + by_) % L.length) []] := by unfold listB; rw [List.range_succ, List.map_append]; rfl
theorem getD_at {L : List T.Pth} {i : Nat} (h : i < L.length) : L.getD i [] = L[i] := by unfold List.getD; rw [List.getElem?_eq_getElem h]; rfl
theorem listB_mem (L : List T.Pth) (by_ : Nat) (p : T.Pth) : p ∈ L ↔ p ∈ listB L by_ L.length := by
  constructor
  · intro hp
    obtain ⟨j, hj, rfl⟩ := List.getElem_of_mem hp
    obtain ⟨n, hn⟩ : ∃ n, L.length = n := ⟨_, rfl⟩
    have hq := Nat.div_add_mod by_ n
    have hs := Nat.mod_lt by_ (show 0 < n by omega)
    have key : ∃ i, i < n ∧ (n - i + by_) % n = j := by
      rcases Nat.lt_or_ge (by_ % n) j with h1 | h1
      · refine ⟨by_ % n + n - j, by omega, ?_⟩
        have e : n - (by_ % n + n - j) + by_ = j + n * (by_ / n) := by omega
        rw [e, Nat.add_mul_mod_self_left, Nat.mod_eq_of_lt (by omega)]
      · refine ⟨by_ % n - j, by omega, ?_⟩
        have e : n - (by_ % n - j) + by_ = n + j + n * (by_ / n) := by omega
        rw [e, Nat.add_mul_mod_self_left, Nat.add_mod_left, Nat.mod_eq_of_lt (by omega)]
    obtain ⟨i, hi, hx⟩ := key
    refine List.mem_map.2 ⟨i, List.mem_range.2 (by omega), ?_⟩
    rw [hn, hx, getD_at hj]
  · intro hp
    obtain ⟨i, hi, rfl⟩ := List.mem_map.1 hp
    have hi := List.mem_range.1 hi
    rw [getD_at (Nat.mod_lt _ (by omega))]
    exact List.getElem_mem _
/-- Lines in memory, as Add takes them. -/
def VecO (w : World) (v : Value) (t : List T.Ln) : Prop := ∃ A c, v = .slice A t.length c ∧ t.length ≤ c ∧ NilOk A c ∧ Seen eL w A t
theorem VecO.below {w w1 : World} {v : Value} {t : List T.Ln} (h : VecO w v t) (hb : Below w.heap.size w w1) : VecO w1 v t := by
  obtain ⟨A, c, h1, h2, h3, h4⟩ := h
  exact ⟨A, c, h1, h2, h3, h4.below hb⟩
theorem VecO.of {w : World} {base : Nat} {v : Value} {t : List T.Ln} (h : Own eL w base v t) : VecO w v t := by
  obtain ⟨A, c, rfl, hc, hs⟩ := h.seen
  exact ⟨A, c, rfl, hc, h.nilOk, hs⟩
theorem add_two {t : List T.Ln} {p : T.Pth} (hR : T.RightT t) (hp : GoodPth p) : ∃ u er, AddIs t p u er ∧ ((er = 0 ∧ u = T.addL t p ∧ (T.addL t p).length ≤ 200) ∨ er = 5) := by
  by_cases h : (T.addL t p).length ≤ 200
  · exact ⟨_, 0, AddIs.ok hp.1 hp.2.2 hR hp.2.1 h, .inl ⟨rfl, rfl, h⟩⟩
  · exact ⟨t, 5, .inr ⟨⟨hp.1, longB_of hp.2.2, hR⟩, .inr ⟨hp.2.1, .inl ⟨by omega, rfl, rfl⟩⟩⟩, .inr rfl⟩
theorem addV_any (v : Value) (B : Option Addr) (d : Nat) (t u : List T.Ln) (p : T.Pth) (er : Int) (w : World) (hv : VecO w v t) (hB : Seen eS w B p) (hd : p.length ≤ d) (ht : t.length ≤ 200) (hp : p.length ≤ 16) (h : AddIs t p u er) :
    Calls Try.prog 13 #[v, .slice B p.length d] w (AddS w u er) := by
  obtain ⟨A, c, rfl, hc, hn, hs⟩ := hv
  exact lines_add A B c d t.length p.length t u p er w rfl rfl hs hB hn hc hd (by omega) (by omega) h
set_option maxRecDepth 100000 in
set_option maxHeartbeats 8000000 in
theorem linesOrder_walk (w : World) (A : Option Addr) (c : Nat) (L : List T.Pth) (hL : SeenP w A L) (by0 : Int) (hb0 : 0 ≤ by0) (hb255 : by0 ≤ 255) :
    Calls Try.prog 8 #[.slice A L.length c, .int .u8 by0] w (TrueS w) := by
  have HL := Lib.hid hL
  clear hL
  obtain ⟨N, hN⟩ : ∃ N, L.length = N := ⟨_, rfl⟩
  obtain ⟨by_, rfl⟩ := Int.eq_ofNat_of_zero_le hb0
  have hby : by_ ≤ 255 := by omega
  have HN := Lib.hid hN
  rw [hN]
  clear hN hb0 hb255
  have hb : Below w.heap.size w w := Below.refl _ _
  by_cases h20 : 20 < N
  · have b1 : decide ((20 : Int) < (N : Int)) = true := decide_eq_true (by omega)
    have b2 : decide (20 < N) = true := decide_eq_true h20
    go_enter Try.func8, Try.ntmps8
    go_wp2_with fail
    refine (awake_any _).mono ?_
    rintro e wz ⟨rfl, hx⟩
    go_wp2
    go_ret
    exact ⟨rfl, bthen hb hx⟩
  · have b1 : decide ((20 : Int) < (N : Int)) = false := decide_eq_false (by omega)
    have b2 : decide (20 < N) = false := decide_eq_false h20
    by_cases h0 : N = 0
    · have b3 : ((N : Int) == 0) = true := beq_iff_eq.2 (by omega)
      have b4 : (N == 0) = true := beq_iff_eq.2 h0
      clear h20
      go_enter Try.func8, Try.ntmps8
      go_wp2_with fail
      refine (awake_any _).mono ?_
      rintro e wz ⟨rfl, hx⟩
      go_wp2
      go_ret
      exact ⟨rfl, bthen hb hx⟩
    · have b3 : ((N : Int) == 0) = false := beq_eq_false_iff_ne.2 (by omega)
      have b4 : (N == 0) = false := beq_eq_false_iff_ne.2 h0
      have hN0 : 0 < N := by omega
      have hN20 : N ≤ 20 := by omega
      clear h0 h20
      obtain ⟨b, o, rfl, hbw, hcells⟩ := HL.out (by have := HN.out; omega)
      have HC := Lib.hid hcells
      clear hcells
      go_enter Try.func8, Try.ntmps8
      go_wp2
      go_loopg [27] N (fun gk x wr => ∃ k : Nat, Hid (k + gk = N) ∧ k ≤ N ∧ x = .int .i64 k ∧ Hid (∀ j (hj : j < L.length), j < k → GoodPth L[j]) ∧ Below w.heap.size w wr)
      case atStart => exact ⟨0, Nat.zero_add _, Nat.zero_le _, rfl, (fun j h1 h2 => absurd h2 (Nat.not_lt_zero j)), hb⟩
      case round =>
        obtain ⟨k, HG, hk, rfl, HI, hb⟩ := hrel
        by_cases hlt : k < N
        · have blt : decide (k < N) = true := decide_eq_true hlt
          have hkL : k < L.length := by have := HN.out; omega
          obtain ⟨B, d, hcell, hBd, hBs⟩ := HC.out k hkL
          obtain ⟨p, hp⟩ : ∃ p, L[k] = p := ⟨_, rfl⟩
          rw [hp] at hcell hBd hBs
          have HB := Lib.hid (hBs.below hb)
          have c0 := (hb.cell (p := ⟨b, o + k, none⟩) hbw).trans hcell
          obtain ⟨m, hm⟩ : ∃ m, p.length = m := ⟨_, rfl⟩
          have HM := Lib.hid hm
          have HP := Lib.hid hp
          have hsh := short_any B d p
          rw [hm] at c0 hsh hBd
          clear hcell hBs hm hp
          by_cases hm0 : m = 0
          · have d1 : ((m : Int) == 0) = true := beq_iff_eq.2 (by omega)
            have d2 : (m == 0) = true := beq_iff_eq.2 hm0
            clear hm0
            go_wp2_with fail
            refine (awake_any _).mono ?_
            rintro e wz ⟨rfl, hx⟩
            go_wp2
            go_ret
            exact ⟨rfl, bthen hb hx⟩
          · have d1 : ((m : Int) == 0) = false := beq_eq_false_iff_ne.2 (by omega)
            have d2 : (m == 0) = false := beq_eq_false_iff_ne.2 hm0
            by_cases hm16 : 16 < m
            · have d3 : decide ((16 : Int) < (m : Int)) = true := decide_eq_true (by omega)
              have d4 : decide (16 < m) = true := decide_eq_true hm16
              clear hm0 hm16
              go_wp2_with fail
              refine (awake_any _).mono ?_
              rintro e wz ⟨rfl, hx⟩
              go_wp2
              go_ret
              exact ⟨rfl, bthen hb hx⟩
            · have d3 : decide ((16 : Int) < (m : Int)) = false := decide_eq_false (by omega)
              have d4 : decide (16 < m) = false := decide_eq_false hm16
              have hmp : 0 < m := by omega
              have hm1 : m ≤ 16 := by omega
              clear hm0 hm16
              go_wp2_with fail
              refine (hsh _ HB.out).mono ?_
              rintro e w2 ⟨bs, rfl, _, hx⟩
              replace HB := Lib.hid (HB.out.below hx)
              replace hb := bthen hb hx
              clear hx hsh
              cases bs with
              | false =>
                go_wp2_with fail
                refine (awake_any _).mono ?_
                rintro e wz ⟨rfl, hx⟩
                go_wp2
                go_ret
                exact ⟨rfl, bthen hb hx⟩
              | true =>
                go_wp2
                go_loopg [47] m (fun gj x wr => ∃ j : Nat, Hid (j + gj = m) ∧ j ≤ m ∧ x = .int .i64 j ∧ Hid (∀ i (hi : i < p.length), i < j → p[i].length ≤ 40) ∧ Hid (Seen eS wr B p) ∧ Below w.heap.size w wr)
                case atStart => exact ⟨0, Nat.zero_add _, Nat.zero_le _, rfl, (fun j h1 h2 => absurd h2 (Nat.not_lt_zero j)), HB, hb⟩
                case round =>
                  obtain ⟨j, HJ, hj, rfl, HI2, HB, hb⟩ := hrel
                  by_cases hjm : j < m
                  · have bjm : decide (j < m) = true := decide_eq_true hjm
                    have hjp : j < p.length := by have := HM.out; omega
                    obtain ⟨b1', o1, rfl, hw1, hH⟩ := HB.out (by omega)
                    have c1 := hH.str hjp
                    obtain ⟨x, hx⟩ : ∃ x, p[j] = x := ⟨_, rfl⟩
                    have hs := sB_size x
                    rw [hx] at c1
                    clear hH
                    by_cases h40 : 40 < x.length
                    · have e1 : decide ((40 : Int) < ((sB x).size : Int)) = true := decide_eq_true (by rw [hs]; omega)
                      clear h40 hx hs
                      go_wp2_with fail
                      refine (awake_any _).mono ?_
                      rintro e wz ⟨rfl, hx⟩
                      go_wp2
                      go_ret
                      exact ⟨rfl, bthen hb hx⟩
                    · have e1 : decide ((40 : Int) < ((sB x).size : Int)) = false := decide_eq_false (by rw [hs]; omega)
                      have HI3 := Lib.hid (show ∀ i (hi : i < p.length), i < j + 1 → p[i].length ≤ 40 from fun i hi hij => by
                        rcases Nat.lt_or_ge i j with h1 | h1
                        · exact HI2.out i hi h1
                        · obtain rfl : i = j := by omega
                          rw [hx]; omega)
                      clear h40 hx hs
                      go_wp2
                      have hgj := HJ.out
                      go_roundg (m - (j + 1))
                      case rel => exact ⟨j + 1, (by show _ = _; omega), by omega, by go_num, HI3, HB, hb⟩
                      case measure => omega
                  · have bjm : decide (j < m) = false := decide_eq_false hjm
                    have HGP := Lib.hid (show ∀ j' (hj' : j' < L.length), j' < k + 1 → GoodPth L[j'] from fun j' hj' hjk => by
                      rcases Nat.lt_or_ge j' k with h1 | h1
                      · exact HI.out j' hj' h1
                      · obtain rfl : j' = k := by omega
                        rw [HP.out]
                        have hm := HM.out
                        exact GoodPth.gen (by omega) (by omega) fun i hi => HI2.out i hi (by omega))
                    have hgk := HG.out
                    go_wp2
                    go_roundg (N - (k + 1))
                    case rel => exact ⟨k + 1, (by show _ = _; omega), by omega, by go_num, HGP, hb⟩
                    case measure => omega
        · have blt : decide (k < N) = false := decide_eq_false hlt
          have HGP := Lib.hid (show ∀ j (hj : j < L.length), GoodPth L[j] from fun j hj => HI.out j hj (by have := HN.out; omega))
          clear HI HG
          go_wp2
          go_loopg [9, 10, 59] N (fun gk va vb x wr => ∃ (k : Nat) (ta tb : List T.Ln), Hid (k + gk = N) ∧ k ≤ N ∧ x = .int .i64 k ∧ Hid (VecO wr va ta) ∧ Hid (VecO wr vb tb) ∧ Hid (T.Built (L.take k) ta) ∧ Hid (T.Built (listB L by_ k) tb) ∧ Below w.heap.size w wr)
          case atStart => exact ⟨0, [], [], Nat.zero_add _, Nat.zero_le _, rfl, ⟨none, 0, rfl, Nat.le_refl _, fun _ => rfl, Seen.nil⟩, ⟨none, 0, rfl, Nat.le_refl _, fun _ => rfl, Seen.nil⟩, T.Built.nil, T.Built.nil, hb⟩
          case round =>
            obtain ⟨k, ta, tb, HG, hk, rfl, HVA, HVB, HBA, HBB, hb⟩ := hrel
            by_cases hlt : k < N
            · have blt : decide (k < N) = true := decide_eq_true hlt
              have hkL : k < L.length := by have := HN.out; omega
              obtain ⟨x, hx⟩ : ∃ x, (N - k + by_) % N = x := ⟨_, rfl⟩
              have hxN : x < N := by rw [← hx]; exact Nat.mod_lt _ hN0
              have hxL : x < L.length := by have := HN.out; omega
              have hxi : (x : Int) < (N : Int) := by omega
              have hsub : (N : Int) - (k : Int) + (by_ : Int) = ((N - k + by_ : Nat) : Int) := by omega
              have hm1 : ((N : Int) - (k : Int) + (by_ : Int)) % (N : Int) = (x : Int) := by rw [hsub, ← hx]; rfl
              have hm2 : ((N : Int) - (k : Int) + (by_ : Int)).tmod (N : Int) = (x : Int) := by rw [hsub, ← hx]; rfl
              obtain ⟨B, d, hcell, hBd, hBs⟩ := HC.out k hkL
              obtain ⟨B2, d2, hcell2, hBd2, hBs2⟩ := HC.out x hxL
              have hga := HGP.out k hkL
              have hgb := HGP.out x hxL
              obtain ⟨p, hp⟩ : ∃ p, L[k] = p := ⟨_, rfl⟩
              obtain ⟨q, hq⟩ : ∃ q, L[x] = q := ⟨_, rfl⟩
              rw [hp] at hcell hBd hBs hga
              rw [hq] at hcell2 hBd2 hBs2 hgb
              have HTA := Lib.hid (show L.take (k + 1) = L.take k ++ [p] by rw [List.take_succ_eq_append_getElem hkL, hp])
              have HTB := Lib.hid (show listB L by_ (k + 1) = listB L by_ k ++ [q] by rw [listB_next, HN.out, hx, getD_at hxL, hq])
              obtain ⟨u1, er1, ha1, hc1⟩ := add_two HBA.out.right hga
              obtain ⟨u2, er2, ha2, hc2⟩ := add_two HBB.out.right hgb
              have HGA := Lib.hid hga
              have HGB := Lib.hid hgb
              have HA1 := Lib.hid ha1
              have HA2 := Lib.hid ha2
              have HBs := Lib.hid (hBs.below hb)
              have HBs2 := Lib.hid (hBs2.below hb)
              have c0 := (hb.cell (p := ⟨b, o + k, none⟩) hbw).trans hcell
              have c1 := (hb.cell (p := ⟨b, o + x, none⟩) hbw).trans hcell2
              clear hx hp hq hga hgb ha1 ha2 hBs hBs2 hcell hcell2 hsub
              have HC1 := Lib.hid hc1
              have HC2 := Lib.hid hc2
              have hbk := Nat.lt_of_lt_of_le hbw hb.size
              clear hc1 hc2
              go_wp2_with fail
              refine (addV_any _ B d ta u1 p er1 _ HVA.out HBs.out hBd HBA.out.right.len HGA.out.2.1 HA1.out).mono ?_
              rintro e w3 ⟨v3, rfl, ho3, hx3⟩
              have HV3 := Lib.hid (VecO.of ho3)
              have HVB3 := Lib.hid (HVB.out.below hx3)
              have HBs3 := Lib.hid (HBs2.out.below hx3)
              have hb3 := bthen hb hx3
              replace c1 := (hx3.cell (p := ⟨b, o + x, none⟩) hbk).trans c1
              clear hx3 ho3 hb hbk
              go_wp2_with fail
              refine (addV_any _ B2 d2 tb u2 q er2 _ HVB3.out HBs3.out hBd2 HBB.out.right.len HGB.out.2.1 HA2.out).mono ?_
              rintro e w4 ⟨v4, rfl, ho4, hx4⟩
              have HV4 := Lib.hid (VecO.of ho4)
              have HV34 := Lib.hid (HV3.out.below hx4)
              have hb4 := bthen hb3 hx4
              clear hx4 ho4 hb3
              have hgk := HG.out
              rcases HC1.out with ⟨z1, z2, z3⟩ | z1 <;> rcases HC2.out with ⟨y1, y2, y3⟩ | y1 <;> subst z1 <;> subst y1
              · have HBA2 := Lib.hid (show T.Built (L.take (k + 1)) u1 by rw [HTA.out, z2]; exact HBA.out.add HGA.out.2.1 HGA.out.2.2 z3)
                have HBB2 := Lib.hid (show T.Built (listB L by_ (k + 1)) u2 by rw [HTB.out, y2]; exact HBB.out.add HGB.out.2.1 HGB.out.2.2 y3)
                clear z2 z3 y2 y3
                go_wp2
                go_roundg (N - (k + 1))
                case rel => exact ⟨k + 1, u1, u2, (by show _ = _; omega), by omega, by go_num, HV34, HV4, HBA2, HBB2, hb4⟩
                case measure => omega
              · clear z2 z3
                go_wp2_with fail
                refine (awake_any _).mono ?_
                rintro e wz ⟨rfl, hx⟩
                go_wp2
                go_ret
                exact ⟨rfl, bthen hb4 hx⟩
              · clear y2 y3
                go_wp2_with fail
                refine (awake_any _).mono ?_
                rintro e wz ⟨rfl, hx⟩
                go_wp2
                go_ret
                exact ⟨rfl, bthen hb4 hx⟩
              · go_wp2_with fail
                refine (awake_any _).mono ?_
                rintro e wz ⟨rfl, hx⟩
                go_wp2
                go_ret
                exact ⟨rfl, bthen hb4 hx⟩
            · have blt : decide (k < N) = false := decide_eq_false hlt
              have hkN : k = N := by omega
              have hab : ta = tb := by
                have h1 := HBA.out
                have h2 := HBB.out
                have hn := HN.out
                rw [hkN, ← hn] at h1 h2
                rw [List.take_length] at h1
                exact T.Built.same h1 h2 (fun p => listB_mem L by_ p)
              have hla := HBA.out.right.len
              subst hab
              obtain ⟨Aa, ca, rfl, _, _, hsa⟩ := HVA.out
              obtain ⟨Ab, cb, rfl, _, _, hsb⟩ := HVB.out
              have HSA := Lib.hid hsa
              have HSB := Lib.hid hsb
              clear hsa hsb hkN HVA HVB HBA HBB
              go_wp2_with fail
              refine (same_any Aa Ab ca cb ta ta _ true (yes_iff rfl) (by omega) HSA.out HSB.out).mono ?_
              rintro e w5 ⟨rfl, hx⟩
              replace hb := bthen hb hx
              clear hx
              go_wp2_with fail
              refine (awake_any _).mono ?_
              rintro e wz ⟨rfl, hx⟩
              go_wp2
              go_ret
              exact ⟨rfl, bthen hb hx⟩
end Go.Proofs.Ytdohnbdhloknnaa
