/-
  The walk of layer 15's statement RouteTurned, from what route does: it returns true whatever comes in. No conditions.
-/
import Derived.Test.YtggdpnkekgmimaaBase5
namespace Go.Proofs.Ytggdpnkekgmimaa
open Go.RowKit
set_option linter.unusedVariables false
set_option linter.unusedSimpArgs false

namespace O
def turnTo (l : List H.En) (b k : Nat) : List H.En := (List.range k).map fun i => l.getD (turnI l.length b i) ⟨[], 0, [], []⟩
theorem turn_next (l : List H.En) (b k : Nat) : turnTo l b (k + 1) = turnTo l b k ++ [l.getD (turnI l.length b k) ⟨[], 0, [], []⟩] := by
  unfold turnTo
  rw [List.range_succ, List.map_append]; rfl
theorem turnTo_all (l : List H.En) (b : Nat) : turnTo l b l.length = turnL l b := rfl
theorem turnTo_len (l : List H.En) (b k : Nat) : (turnTo l b k).length = k := by unfold turnTo; rw [List.length_map, List.length_range]
/-- The first entries are unlike. -/
def UnlikeTo (l : List H.En) (k : Nat) : Prop := ∀ i j (hi : i < l.length) (hj : j < l.length), i < k → j < i → ¬ (l[i].key = l[j].key ∨ (0 ≤ (N.prefL l[i].key).1 ∧ (N.prefL l[i].key).1 = (N.prefL l[j].key).1 ∧ (N.prefL l[i].key).2 = (N.prefL l[j].key).2))
end O
set_option maxRecDepth 100000 in
set_option maxHeartbeats 16000000 in
theorem routeTurned_walk (E : RouteOk) (AW : ∀ w, Calls Try.prog 10 #[] w (TrueS w)) (w : World) (A : Option Addr) (c : Nat) (l : List H.En) (hc : l.length ≤ c) (hNA : NilOk A c) (hA : Seen eEc w A l) (hlA : l.length ≤ maxLen) (hw : ByteArray) (hhw : hw.size ≤ maxLen) (fr : Int) (wfr : (Lit.int .i64 fr).wf = true) (ip : Int) (wip : (Lit.int .i64 ip).wf = true) (by0 : Int) (wby : (Lit.int .u8 by0).wf = true) :
    Calls Try.prog 5 #[.slice A l.length c, .string hw, .int .i64 fr, .int .i64 ip, .int .u8 by0] w (TrueS w) := by
  unfold maxLen at hlA
  obtain ⟨h, hs⟩ : ∃ s, hw.data.toList = s := ⟨_, rfl⟩
  obtain rfl : hw = sB h := by rw [← hs]; exact (sB_of hw).symm
  clear hs hhw
  have HI2 := Lib.hid (int_of wfr)
  have HI := Lib.hid (int_of wip)
  clear wfr wip
  obtain ⟨hb0, hb255⟩ := bounds_u8 wby
  obtain ⟨by_, rfl⟩ := Int.eq_ofNat_of_zero_le hb0
  have hby : by_ ≤ 255 := by omega
  clear wby hb0 hb255
  obtain ⟨n, hnA⟩ : ∃ n, l.length = n := ⟨_, rfl⟩
  rw [hnA] at hc hlA ⊢
  have HNA := Lib.hid hnA
  have HA := Lib.hid hA
  have HOA := Lib.hid hNA
  clear hA hnA hNA
  have hb : Below w.heap.size w w := Below.refl _ _
  go_enter Try.func5, Try.ntmps5
  go_wp2_with fail
  refine (few15 A c n l _ HNA.out HA.out (by omega)).mono ?_
  rintro e wx1 ⟨bs, rfl, hsm, hx⟩
  replace HA := Lib.hid (HA.out.below hx)
  replace hb := bthen hb hx
  clear hx
  cases bs with
  | false =>
    clear hsm
    go_wp2_with fail
    refine (AW _).mono ?_
    rintro e wz ⟨rfl, hx⟩
    go_wp2
    go_ret
    exact ⟨rfl, bthen hb hx⟩
  | true =>
    obtain ⟨h60, hfit⟩ := hsm rfl
    have HF := Lib.hid hfit
    replace HA := Lib.hid (show EArg wx1 A c n l from ⟨HNA.out, by omega, hfit, hc, HA.out⟩)
    clear hsm hfit
    by_cases h30 : n ≤ 30
    · have r1 : decide ((30 : Int) < (n : Int)) = false := decide_eq_false (by omega)
      have r2 : decide (30 < n) = false := decide_eq_false (by omega)
      by_cases hz : n = 0
      · subst hz
        go_wp2_with fail
        refine (AW _).mono ?_
        rintro e wz ⟨rfl, hx⟩
        go_wp2
        go_ret
        exact ⟨rfl, bthen hb hx⟩
      · have r3 : ((n : Int) == 0) = false := by rw [beq_eq_false_iff_ne]; omega
        by_cases hg : h.length ≤ 100
        · have hg2 := long_no hg
          have HG := Lib.hid hg
          clear hg
          have hn0 : 0 < n := by omega
          have q0 : ((n : Int) == 0) = false := by rw [beq_eq_false_iff_ne]; omega
          obtain ⟨e0, he0⟩ : ∃ z, by_ % n = z := ⟨_, rfl⟩
          have he0n : e0 < n := by rw [← he0]; exact Nat.mod_lt _ hn0
          have m1 : (by_ : Int) % (n : Int) = (e0 : Int) := by rw [← he0]; rfl
          have m2 : ((by_ : Int)).tmod (n : Int) = (e0 : Int) := by rw [← he0]; rfl
          have HE0 := Lib.hid he0
          clear he0
          go_wp2
          go_loopg [11, 12, 46] n (fun g vo v12 vi wr => ∃ k : Nat, Hid (k + g = n) ∧ vi = .int .i64 (k : Int) ∧ Hid (Own eEc wr wx1.heap.size vo (O.turnTo l by_ k)) ∧ Hid (Below wx1.heap.size wx1 wr))
          case atStart => exact ⟨0, Nat.zero_add _, rfl, Own.nil _ _, Below.refl _ _⟩
          case round =>
            obtain ⟨k, HGK, rfl, HO, HB⟩ := hrel
            have hgk := HGK.out
            by_cases hlt : k < n
            · have blt : decide ((k : Int) < (n : Int)) = true := decide_eq_true (by omega)
              have blt2 : decide (k < n) = true := decide_eq_true hlt
              have hkz : (k : Int) < (n : Int) := by omega
              obtain ⟨d0, hd0⟩ : ∃ z, n - k = z := ⟨_, rfl⟩
              have m3 : (n : Int) - (k : Int) = (d0 : Int) := by omega
              obtain ⟨p0, hp0⟩ : ∃ z, d0 + e0 = z := ⟨_, rfl⟩
              have m4 : (d0 : Int) + (e0 : Int) = (p0 : Int) := by omega
              obtain ⟨f0, hf0⟩ : ∃ z, p0 % n = z := ⟨_, rfl⟩
              have hfn : f0 < n := by rw [← hf0]; exact Nat.mod_lt _ hn0
              have m5 : (p0 : Int) % (n : Int) = (f0 : Int) := by rw [← hf0]; rfl
              have m6 : ((p0 : Int)).tmod (n : Int) = (f0 : Int) := by rw [← hf0]; rfl
              have hfz : (f0 : Int) < (n : Int) := by omega
              have hd60 : d0 ≤ 60 := by omega
              have hp60 : p0 ≤ 90 := by omega
              have hfl : f0 < l.length := by rw [HNA.out]; exact hfn
              have HTI := Lib.hid (show O.turnI l.length by_ k = f0 by unfold O.turnI; rw [HNA.out, HE0.out, hd0, hp0, hf0])
              obtain ⟨b, o, rfl, hwb, hL⟩ := HA.out.seen (by omega)
              obtain ⟨l0, l1, l2, l3⟩ := (hL.below HB.out hwb).entry rfl rfl hfl
              have HNX := Lib.hid (show O.turnTo l by_ (k + 1) = O.turnTo l by_ k ++ [l[f0]] by
                rw [O.turn_next, HTI.out, List.getD_eq_getElem?_getD, List.getElem?_eq_getElem hfl]; rfl)
              generalize l[f0] = x at l0 l1 l2 l3 HNX
              obtain ⟨xh, xk, xy, xv⟩ := x
              simp only at l0 l1 l2 l3
              have HLN := Lib.hid (show (O.turnTo l by_ k).length ≤ 60 by rw [O.turnTo_len]; omega)
              have hsz := HB.out.size
              clear hL hd0 hp0 hf0
              go_wp2_with (at_builtin; refine wpList_appG eEc wr rfl (.tmp 49) (.tmp 66) rfl wx1.heap.size u11 (O.turnTo l by_ k) rfl HO.out ⟨xh, xk, xy, xv⟩ 1 _ rfl wr.heap.size rfl rfl (by have := HLN.out; omega) hsz ?_; intro v5 w5 hown5 hb5; have HB5 := Lib.hid (HB.out.trans hb5); have HO5 := Lib.hid hown5; clear hown5 hb5)
              go_roundg (n - (k + 1))
              case rel => exact ⟨k + 1, (by show _ = _; omega), by go_num, (by rw [HNX.out]; exact HO5.out), HB5.out⟩
              case measure => omega
            · have blt : decide ((k : Int) < (n : Int)) = false := decide_eq_false (by omega)
              have blt2 : decide (k < n) = false := decide_eq_false hlt
              have hown := HO.out
              rw [show k = l.length by rw [HNA.out]; omega, O.turnTo_all] at hown
              obtain ⟨tu, htu⟩ : ∃ z, O.turnL l by_ = z := ⟨_, rfl⟩
              have htl : tu.length = n := by rw [← htu, ← O.turnTo_all, O.turnTo_len, HNA.out]
              rw [htu] at hown
              obtain ⟨A6, c6, rfl, hc6, hs6⟩ := hown.seen
              rw [htl] at hc6 ⊢
              have HMT := Lib.hid (fun e => show e ∈ tu ↔ e ∈ l by rw [← htu]; exact O.mem_turn l by_ e)
              have HTE := Lib.hid (show EArg wr A6 c6 n tu from ⟨htl, by omega, fun x hx => HF.out x ((HMT.out x).1 hx), hc6, hs6⟩)
              have HAE := Lib.hid (earg_below HA.out HB.out)
              have HBB := Lib.hid (bthen hb HB.out)
              obtain ⟨wz, hwz⟩ : ∃ z, z = wr := ⟨_, rfl⟩
              subst hwz
              clear hown htl hc6 hs6 htu hb HO HB
              go_wp2
              go_loopg [13, 14, 16, 17, 18, 19, 20, 71] n (fun g v13 v14 v16 v17 v18 v19 v20 vi wr => ∃ k : Nat, Hid (k + g = n) ∧ vi = .int .i64 (k : Int) ∧ Hid (O.UnlikeTo l k) ∧ Hid (Below wz.heap.size wz wr))
              case atStart => exact ⟨0, Nat.zero_add _, rfl, (fun i j hi hj h => absurd h (Nat.not_lt_zero i)), Below.refl _ _⟩
              case round =>
                obtain ⟨k, HGK, rfl, HUN, HB⟩ := hrel
                have hgk := HGK.out
                by_cases hlt : k < n
                · have blt : decide ((k : Int) < (n : Int)) = true := decide_eq_true (by omega)
                  have blt2 : decide (k < n) = true := decide_eq_true hlt
                  have hkz : (k : Int) < (n : Int) := by omega
                  have hkl : k < l.length := by rw [HNA.out]; exact hlt
                  have hcap := HAE.out.cap
                  have hkc : (k : Int) ≤ (c : Int) := by omega
                  obtain ⟨b, o, rfl, hwb, hL⟩ := HAE.out.seen (by omega)
                  have HLL := Lib.hid hL
                  obtain ⟨l0, l1, l2, l3⟩ := (hL.below HB.out hwb).entry rfl rfl hkl
                  obtain ⟨x, hx⟩ : ∃ z, l[k] = z := ⟨_, rfl⟩
                  have HXK := Lib.hid hx
                  have HFX := Lib.hid (show Fit15 x by rw [← hx]; exact HF.out _ (List.getElem_mem hkl))
                  rw [hx] at l0 l1 l2 l3
                  obtain ⟨xh, xk, xy, xv⟩ := x
                  simp only at l0 l1 l2 l3
                  have HEX := Lib.hid (ent_laid wr xh xk xy xv)
                  obtain ⟨y0, y1, y2, y3⟩ := (ent_laid wr xh xk xy xv).cells
                  have HUP := Lib.hid (HB.out.trans ((up wr (.cells #[.string (sB xh), .int .i64 xk, .string (sB xy), .string (sB xv)] 26)).mono HB.out.size))
                  obtain ⟨pn, pb, hpf⟩ : ∃ pn pb, N.prefL xy = (pn, pb) := ⟨_, _, rfl⟩
                  have HPF := Lib.hid hpf
                  clear hL hx hpf hcap
                  go_wp2
                  go_loopg [16, 17, 18, 19, 20, 80] k (fun g2 v16 v17 v18 v19 v20 vj w2 => ∃ j : Nat, Hid (j + g2 = k) ∧ vj = .int .i64 (j : Int) ∧ Hid (∀ i (hi : i < l.length), i < j → ¬ (xy = l[i].key ∨ (0 ≤ pn ∧ pn = (N.prefL l[i].key).1 ∧ pb = (N.prefL l[i].key).2))) ∧ Hid (EntAt w2 wr.heap.size xh xk xy xv) ∧ Hid (Below wz.heap.size wz w2))
                  case atStart => exact ⟨0, Nat.zero_add _, rfl, (fun i hi h => absurd h (Nat.not_lt_zero i)), HEX.out, HUP.out⟩
                  case round =>
                    obtain ⟨j, HGJ, rfl, HUJ, HE2, HB2⟩ := hrel
                    have hgj := HGJ.out
                    obtain ⟨z0, z1, z2, z3⟩ := HE2.out.cells
                    by_cases hlj : j < k
                    · have blj : decide ((j : Int) < (k : Int)) = true := decide_eq_true (by omega)
                      have blj2 : decide (j < k) = true := decide_eq_true hlj
                      have hjz : (j : Int) < (k : Int) := by omega
                      have hjl : j < l.length := by rw [HNA.out]; omega
                      obtain ⟨r0, r1, r2, r3⟩ := (HLL.out.below HB2.out hwb).entry rfl rfl hjl
                      have HNX := Lib.hid (fun (hh : ¬ (xy = l[j].key ∨ (0 ≤ pn ∧ pn = (N.prefL l[j].key).1 ∧ pb = (N.prefL l[j].key).2))) => show ∀ i (hi : i < l.length), i < j + 1 → ¬ (xy = l[i].key ∨ (0 ≤ pn ∧ pn = (N.prefL l[i].key).1 ∧ pb = (N.prefL l[i].key).2)) from fun i hi h1 => by
                        rcases Nat.lt_or_ge i j with h2 | h2
                        · exact HUJ.out i hi h2
                        · obtain rfl : i = j := by omega
                          exact hh)
                      have HFY := Lib.hid (HF.out l[j] (List.getElem_mem hjl))
                      generalize l[j] = y at r0 r1 r2 r3 HNX HFY
                      obtain ⟨yh, yk, yy, yv⟩ := y
                      simp only at r0 r1 r2 r3 HNX
                      obtain ⟨wj, hwj⟩ : ∃ z, z = wr := ⟨_, rfl⟩
                      subst hwj
                      have HEY := Lib.hid (ent_laid wj yh yk yy yv)
                      obtain ⟨s0, s1, s2, s3⟩ := (ent_laid wj yh yk yy yv).cells
                      have hupj := up wj (.cells #[.string (sB yh), .int .i64 yk, .string (sB yy), .string (sB yv)] 26)
                      have HUPJ := Lib.hid hupj
                      obtain ⟨t0, t1, t2, t3⟩ := (ent_below HE2.out hupj).cells
                      obtain ⟨qn, qb, hqf⟩ : ∃ pn pb, N.prefL yy = (pn, pb) := ⟨_, _, rfl⟩
                      have HQF := Lib.hid hqf
                      rw [hqf] at HNX
                      clear hqf hupj z0 z1 z2 z3
                      go_wp2_with fail
                      refine (pref15 xy pn pb _ (Nat.le_trans HFX.out.2.1 (by omega)) HPF.out).mono ?_
                      rintro e w3 ⟨rfl, hx3⟩
                      obtain ⟨g0, g1, g2, g3⟩ := (ent_below HEY.out hx3).cells
                      have HEY3 := Lib.hid (ent_below HEY.out hx3)
                      have HEX3 := Lib.hid (ent_below HE2.out (bthen HUPJ.out hx3))
                      have HB3 := Lib.hid (HB2.out.trans ((bthen HUPJ.out hx3).mono HB2.out.size))
                      clear hx3 s0 s1 s2 s3 t0 t1 t2 t3
                      go_wp2_with fail
                      refine (pref15 yy qn qb _ (Nat.le_trans HFY.out.2.1 (by omega)) HQF.out).mono ?_
                      rintro e w4 ⟨rfl, hx4⟩
                      obtain ⟨t0, t1, t2, t3⟩ := (ent_below HEY3.out hx4).cells
                      obtain ⟨s0, s1, s2, s3⟩ := (ent_below HEX3.out hx4).cells
                      have HEX4 := Lib.hid (ent_below HEX3.out hx4)
                      have HB4 := Lib.hid (HB3.out.trans (hx4.mono HB3.out.size))
                      clear hx4 g0 g1 g2 g3
                      by_cases e1 : xy = yy
                      · have n1 := sB_eq e1
                        clear e1
                        go_wp2_with fail
                        refine (AW _).mono ?_
                        rintro e wy ⟨rfl, hx⟩
                        go_wp2
                        go_ret
                        exact ⟨rfl, bthen HBB.out (HB4.out.trans (hx.mono HB4.out.size))⟩
                      · have n1 := sB_ne e1
                        by_cases e2 : 0 ≤ pn
                        · have n2 : decide ((0 : Int) ≤ pn) = true := decide_eq_true e2
                          by_cases e3 : pn = qn
                          · have n3 : (pn == qn) = true := by rw [beq_iff_eq]; exact e3
                            by_cases e4 : pb = qb
                            · have n4 : (pb == qb) = true := by rw [beq_iff_eq]; exact e4
                              clear e1 e2 e3 e4
                              go_wp2_with fail
                              refine (AW _).mono ?_
                              rintro e wy ⟨rfl, hx⟩
                              go_wp2
                              go_ret
                              exact ⟨rfl, bthen HBB.out (HB4.out.trans (hx.mono HB4.out.size))⟩
                            · have n4 : (pb == qb) = false := by rw [beq_eq_false_iff_ne]; exact e4
                              have HN2 := Lib.hid (HNX.out (by rintro (h | ⟨_, _, h⟩); exact e1 h; exact e4 h))
                              clear e1 e2 e3 e4
                              go_wp2
                              go_roundg (k - (j + 1))
                              case rel => exact ⟨j + 1, (by show _ = _; omega), by go_num, HN2.out, HEX4.out, HB4.out⟩
                              case measure => omega
                          · have n3 : (pn == qn) = false := by rw [beq_eq_false_iff_ne]; exact e3
                            have HN2 := Lib.hid (HNX.out (by rintro (h | ⟨_, h, _⟩); exact e1 h; exact e3 h))
                            clear e1 e2 e3
                            go_wp2
                            go_roundg (k - (j + 1))
                            case rel => exact ⟨j + 1, (by show _ = _; omega), by go_num, HN2.out, HEX4.out, HB4.out⟩
                            case measure => omega
                        · have n2 : decide ((0 : Int) ≤ pn) = false := decide_eq_false e2
                          have HN2 := Lib.hid (HNX.out (by rintro (h | ⟨h, _, _⟩); exact e1 h; exact e2 h))
                          clear e1 e2
                          go_wp2
                          go_roundg (k - (j + 1))
                          case rel => exact ⟨j + 1, (by show _ = _; omega), by go_num, HN2.out, HEX4.out, HB4.out⟩
                          case measure => omega
                    · have blj : decide ((j : Int) < (k : Int)) = false := decide_eq_false (by omega)
                      have blj2 : decide (j < k) = false := decide_eq_false hlj
                      have HN2 := Lib.hid (show O.UnlikeTo l (k + 1) from fun i m hi hm h1 h2 => by
                        rcases Nat.lt_or_ge i k with h3 | h3
                        · exact HUN.out i m hi hm h3 h2
                        · obtain rfl : i = k := by omega
                          have h4 := HUJ.out m hm (by omega)
                          simp only [HXK.out, HPF.out]
                          exact h4)
                      go_wp2
                      go_roundg (n - (k + 1))
                      case rel => exact ⟨k + 1, (by show _ = _; omega), by go_num, HN2.out, HB2.out⟩
                      case measure => omega
                · have blt : decide ((k : Int) < (n : Int)) = false := decide_eq_false (by omega)
                  have blt2 : decide (k < n) = false := decide_eq_false hlt
                  have hU : O.Unlike l := fun i j hi hj h => HUN.out i j hi hj (by have := HNA.out; omega) h
                  obtain ⟨s, hs⟩ : ∃ z, O.lookS l h ip = z := ⟨_, rfl⟩
                  obtain ⟨q, hq⟩ : ∃ z, O.lookB l h ip = z := ⟨_, rfl⟩
                  obtain ⟨p, hp⟩ : ∃ z, O.permB l h fr ip = z := ⟨_, rfl⟩
                  have HS1 := Lib.hid hs
                  have HQ1 := Lib.hid hq
                  have HP1 := Lib.hid hp
                  have HS2 := Lib.hid (show O.lookS tu h ip = s by rw [← hs]; unfold O.lookS; rw [O.look_members hU HMT.out])
                  have HQ2 := Lib.hid (show O.lookB tu h ip = q by rw [← hq]; unfold O.lookB; rw [O.look_members hU HMT.out])
                  have HP2 := Lib.hid (show O.permB tu h fr ip = p by rw [← hp]; exact O.perm_members hU HMT.out h fr ip)
                  have s1 : ((sB s).toList == (sB s).toList) = true := by simp
                  have s2 : (q == q) = true := by simp
                  have s3 : (p == p) = true := by simp
                  replace HAE := Lib.hid (earg_below HAE.out HB.out)
                  replace HTE := Lib.hid (earg_below HTE.out HB.out)
                  replace HBB := Lib.hid (bthen HBB.out HB.out)
                  clear hs hq hp hU
                  go_wp2_with fail
                  refine (E.lookupOf A c n l h ip s q _ HAE.out HG.out HI.out HS1.out HQ1.out).mono ?_
                  rintro e w1 ⟨rfl, hx⟩
                  replace HAE := Lib.hid (earg_below HAE.out hx)
                  replace HTE := Lib.hid (earg_below HTE.out hx)
                  replace HBB := Lib.hid (bthen HBB.out hx)
                  clear hx
                  go_wp2_with fail
                  refine (E.lookupOf A6 c6 n tu h ip s q _ HTE.out HG.out HI.out HS2.out HQ2.out).mono ?_
                  rintro e w2 ⟨rfl, hx⟩
                  replace HAE := Lib.hid (earg_below HAE.out hx)
                  replace HTE := Lib.hid (earg_below HTE.out hx)
                  replace HBB := Lib.hid (bthen HBB.out hx)
                  clear hx
                  go_wp2_with fail
                  refine (E.permitOf A c n l h fr ip p _ HAE.out HG.out HI2.out HI.out HP1.out).mono ?_
                  rintro e w3 ⟨rfl, hx⟩
                  replace HTE := Lib.hid (earg_below HTE.out hx)
                  replace HBB := Lib.hid (bthen HBB.out hx)
                  clear hx
                  go_wp2_with fail
                  refine (E.permitOf A6 c6 n tu h fr ip p _ HTE.out HG.out HI2.out HI.out HP2.out).mono ?_
                  rintro e w4 ⟨rfl, hx⟩
                  replace HBB := Lib.hid (bthen HBB.out hx)
                  clear hx
                  go_wp2_with fail
                  refine (AW _).mono ?_
                  rintro e wy ⟨rfl, hx⟩
                  go_wp2
                  go_ret
                  exact ⟨rfl, bthen HBB.out hx⟩
        · have hg2 := long_yes hg
          clear hg
          go_wp2_with fail
          refine (AW _).mono ?_
          rintro e wz ⟨rfl, hx⟩
          go_wp2
          go_ret
          exact ⟨rfl, bthen hb hx⟩
    · have r1 : decide ((30 : Int) < (n : Int)) = true := decide_eq_true (by omega)
      have r2 : decide (30 < n) = true := decide_eq_true (by omega)
      go_wp2_with fail
      refine (AW _).mono ?_
      rintro e wz ⟨rfl, hx⟩
      go_wp2
      go_ret
      exact ⟨rfl, bthen hb hx⟩
end Go.Proofs.Ytggdpnkekgmimaa
