/-
  The walk of layer 16's statement PatchParts, from what patch does: it returns true whatever comes in. No conditions.
-/
import Derived.Test.YtpkhnchbamjgjaaBase5
import Derived.BigQuiet
namespace Go.Proofs.Ytpkhnchbamjgjaa
namespace Pt
/-- How many entries of the first k hosts. -/
def sumH (l : List H.En) (hs : List C.Wd) (k : Nat) : Nat := ((hs.take k).map fun h => (onlyE l h).length).sum
theorem sumH_next (l : List H.En) {hs : List C.Wd} {k : Nat} {h : C.Wd} (hx : hs[k]? = some h) : sumH l hs (k + 1) = sumH l hs k + (onlyE l h).length := by
  unfold sumH
  obtain ⟨h5, h6⟩ := List.getElem?_eq_some_iff.1 hx
  rw [List.take_succ_eq_append_getElem h5, h6, List.map_append, List.sum_append]
  simp
theorem only_len (l : List H.En) (h : C.Wd) : (onlyE l h).length ≤ l.length := List.length_filter_le _ _
theorem sumH_le (l : List H.En) (hs : List C.Wd) : ∀ k, sumH l hs k ≤ k * l.length
  | 0 => by simp [sumH]
  | k + 1 => by
    by_cases hk : k < hs.length
    · rw [sumH_next l (List.getElem?_eq_getElem hk), Nat.add_mul, Nat.one_mul]
      exact Nat.add_le_add (sumH_le l hs k) (only_len l _)
    · have e : sumH l hs (k + 1) = sumH l hs k := by unfold sumH; rw [List.take_of_length_le (by omega), List.take_of_length_le (by omega)]
      rw [e]
      exact Nat.le_trans (sumH_le l hs k) (Nat.mul_le_mul_right _ (by omega))
theorem sumH_all {l m : List H.En} (hs : ∀ x ∈ l, x ∈ m) : sumH l (hostsE m) (hostsE m).length = l.length := by
  unfold sumH
  rw [List.take_of_length_le (Nat.le_refl _)]
  exact parts_all hs
theorem rise_at {hs : List C.Wd} (h : hs.Pairwise fun a b => Op.bytesLess a b = true) {k : Nat} {a b : C.Wd} (ha : hs[k]? = some a) (hb : hs[k + 1]? = some b) : Op.bytesLess a b = true := by
  obtain ⟨h1, h2⟩ := List.getElem?_eq_some_iff.1 ha
  obtain ⟨h3, h4⟩ := List.getElem?_eq_some_iff.1 hb
  rw [← h2, ← h4]
  exact List.pairwise_iff_getElem.1 h k (k + 1) h1 h3 (by omega)
end Pt
open Go.RowKit
set_option linter.unusedVariables false

set_option maxRecDepth 100000 in
set_option maxHeartbeats 8000000 in
theorem patchParts_walk (E : PatchOk) (AW : ∀ w, Calls Try.prog 11 #[] w (TrueS w)) (w : World)
    (D : Option Addr) (dc : Nat) (d : List H.En) (hdc : d.length ≤ dc) (hD : Seen eEc w D d) (hlD : d.length ≤ maxLen) (P : Option Addr) (pc : Nat) (u : List H.En) (hpc : u.length ≤ pc) (hP : Seen eEc w P u) (hlP : u.length ≤ maxLen) :
    Calls Try.prog 9 #[patV D d.length dc P u.length pc] w (TrueS w) := by
  unfold maxLen at hlD hlP
  unfold patV
  obtain ⟨p, hp⟩ : ∃ n, d.length = n := ⟨_, rfl⟩
  obtain ⟨q, hq⟩ : ∃ n, u.length = n := ⟨_, rfl⟩
  rw [hp] at hdc hlD ⊢
  rw [hq] at hpc hlP ⊢
  have HNp := Lib.hid hp
  have HNq := Lib.hid hq
  have hb := up w (.cells #[.slice D p dc, .slice P q pc] 24)
  have HD := Lib.hid (hD.below hb)
  have HP := Lib.hid (hP.below hb)
  have HB0 := Lib.hid (PatAt.new16 w D P p dc q pc)
  obtain ⟨c0, c1⟩ := HB0.out.cells16
  clear hp hq hD hP
  go_enter Try.func9, Try.ntmps9
  go_wp2_with fail
  refine (few16 D dc p d _ HNp.out HD.out (by omega)).mono ?_
  rintro e w1 ⟨f2, rfl, hf2, hx⟩
  replace HD := Lib.hid (HD.out.below hx)
  replace HP := Lib.hid (HP.out.below hx)
  replace HB0 := Lib.hid (HB0.out.on16 hx)
  have hgw : w.heap.size < w1.heap.size := HB0.out.lt16
  replace hb := bthen hb hx
  clear hx c0 c1
  cases f2 with
  | false =>
    go_wp2_with fail
    refine (AW _).mono ?_
    rintro e wz ⟨rfl, hx⟩
    go_wp2
    go_ret
    exact ⟨rfl, bthen hb hx⟩
  | true =>
  obtain ⟨h602, hl2⟩ := hf2 rfl
  have HF2 := Lib.hid hl2
  clear hf2 hl2
  obtain ⟨c0, c1⟩ := HB0.out.cells16
  go_wp2_with fail
  refine (few16 P pc q u _ HNq.out HP.out (by omega)).mono ?_
  rintro e w2 ⟨f3, rfl, hf3, hx⟩
  replace HD := Lib.hid (HD.out.below hx)
  replace HP := Lib.hid (HP.out.below hx)
  replace HB0 := Lib.hid (HB0.out.on16 hx)
  replace hb := bthen hb hx
  clear hx c0 c1
  cases f3 with
  | false =>
    go_wp2_with fail
    refine (AW _).mono ?_
    rintro e wz ⟨rfl, hx⟩
    go_wp2
    go_ret
    exact ⟨rfl, bthen hb hx⟩
  | true =>
  obtain ⟨h603, hl3⟩ := hf3 rfl
  have HF3 := Lib.hid hl3
  clear hf3 hl3
  have GD := Lib.hid (earg16 HNp.out h602 HF2.out hdc HD.out)
  have GP := Lib.hid (earg16 HNq.out h603 HF3.out hpc HP.out)
  obtain ⟨x, hx0⟩ : ∃ x, Pt.hostsE (d ++ u) = x := ⟨_, rfl⟩
  obtain ⟨m, hm⟩ : ∃ m, x.length = m := ⟨_, rfl⟩
  have HX := Lib.hid hx0
  have HM := Lib.hid hm
  have hm120 : m ≤ 120 := by
    have := Pt.hosts_len (d ++ u)
    rw [hx0, hm, List.length_append, HNp.out, HNq.out] at this; omega
  have HRI := Lib.hid (show x.Pairwise fun a b => Op.bytesLess a b = true by rw [← hx0]; exact Pt.hosts_rise _)
  have HAD := Lib.hid (show Pt.sumH d x m = p by rw [← hm, ← hx0, ← HNp.out]; exact Pt.sumH_all fun y hy => List.mem_append_left _ hy)
  have HAP := Lib.hid (show Pt.sumH u x m = q by rw [← hm, ← hx0, ← HNq.out]; exact Pt.sumH_all fun y hy => List.mem_append_right _ hy)
  have HHS := Lib.hid (show ∀ h ∈ x, h.length ≤ 100 ∧ 0 < (Pt.onlyE d h).length + (Pt.onlyE u h).length by
    intro h hh
    rw [← hx0] at hh
    refine ⟨?_, Pt.part_some hh⟩
    obtain ⟨y, hy, e⟩ := Pt.mem_hosts.1 hh
    rw [← e]
    rcases List.mem_append.1 hy with k | k
    · exact (HF2.out y k).1
    · exact (HF3.out y k).1)
  clear hx0 hm
  obtain ⟨c0, c1⟩ := HB0.out.cells16
  go_wp2_with fail
  refine (E.hostsOf D P dc pc p q m d u x _ GD.out GP.out HX.out HM.out).mono ?_
  rintro e w3 ⟨B, b, rfl, hmb, hs, hx⟩
  replace GD := Lib.hid (earg16_below GD.out hx)
  replace GP := Lib.hid (earg16_below GP.out hx)
  replace HB0 := Lib.hid (HB0.out.on16 hx)
  replace hb := bthen hb hx
  have HS := Lib.hid hs
  clear hx c0 c1 hs
  have hg3 : w.heap.size < w3.heap.size := HB0.out.lt16
  go_wp2
  go_loopg [3, 4, 5, 23] m (fun gk v3 v4 v5 vi wr => ∃ (k : Nat) (lst : List UInt8) (sd sp : Nat), Hid (k + gk = m) ∧ vi = .int .i64 (k : Int) ∧ v3 = .int .i64 (sd : Int) ∧ v4 = .int .i64 (sp : Int) ∧ v5 = .string (sB lst) ∧ Hid (Pt.sumH d x k = sd) ∧ Hid (Pt.sumH u x k = sp) ∧ Hid (0 < k → x[k - 1]? = some lst) ∧ Hid (Below w3.heap.size w3 wr))
  case atStart => exact ⟨0, [], 0, 0, Nat.zero_add _, rfl, rfl, rfl, rfl, rfl, rfl, (fun h => absurd h (Nat.lt_irrefl _)), Below.refl _ _⟩
  case round =>
    obtain ⟨k, lst, sd, sp, HG, rfl, rfl, rfl, rfl, HSD, HSP, HLS, HBR⟩ := hrel
    have hgk := HG.out
    by_cases hlt : k < m
    · have blt : decide ((k : Int) < (m : Int)) = true := decide_eq_true (by omega)
      have blt2 : decide (k < m) = true := decide_eq_true hlt
      have hki : (k : Int) < (m : Int) := by omega
      obtain ⟨h, hh⟩ : ∃ h, x[k]? = some h := ⟨_, List.getElem?_eq_getElem (by rw [HM.out]; exact hlt)⟩
      obtain ⟨b5, o5, rfl, hw5, hL5⟩ := HS.out (by rw [HM.out]; omega)
      have c5 : wr.cell? ⟨b5, o5 + k, none⟩ = some (.string (sB h)) := by
        obtain ⟨h5, h6⟩ := List.getElem?_eq_some_iff.1 hh
        rw [← h6]; exact (hL5.below HBR.out hw5).str h5
      obtain ⟨q1, q2⟩ := HHS.out h (List.mem_of_getElem? hh)
      obtain ⟨dx, hdx⟩ : ∃ z, Pt.onlyE d h = z := ⟨_, rfl⟩
      obtain ⟨ux, hux⟩ : ∃ z, Pt.onlyE u h = z := ⟨_, rfl⟩
      obtain ⟨md, hmd⟩ : ∃ z, dx.length = z := ⟨_, rfl⟩
      obtain ⟨mu, hmu⟩ : ∃ z, ux.length = z := ⟨_, rfl⟩
      have HDX := Lib.hid hdx
      have HUX := Lib.hid hux
      have HMD := Lib.hid hmd
      have HMU := Lib.hid hmu
      have hmd60 : md ≤ 60 := by have := Pt.only_len d h; rw [hdx, hmd, HNp.out] at this; omega
      have hmu60 : mu ≤ 60 := by have := Pt.only_len u h; rw [hux, hmu, HNq.out] at this; omega
      have hpos : 0 < md + mu := by rw [hdx, hux, hmd, hmu] at q2; exact q2
      have HSD2 := Lib.hid (show Pt.sumH d x (k + 1) = sd + md by rw [Pt.sumH_next d hh, HSD.out, hdx, hmd])
      have HSP2 := Lib.hid (show Pt.sumH u x (k + 1) = sp + mu by rw [Pt.sumH_next u hh, HSP.out, hux, hmu])
      have hsd : sd ≤ 7200 := by have := Pt.sumH_le d x k; rw [HSD.out, HNp.out] at this; exact Nat.le_trans this (Nat.le_trans (Nat.mul_le_mul (show k ≤ 120 by omega) h602) (by omega))
      have hsp : sp ≤ 7200 := by have := Pt.sumH_le u x k; rw [HSP.out, HNq.out] at this; exact Nat.le_trans this (Nat.le_trans (Nat.mul_le_mul (show k ≤ 120 by omega) h603) (by omega))
      have HHK := Lib.hid hh
      have HQ1 := Lib.hid q1
      have a1 : IntKind.i64.wrap ((md : Int) + (mu : Int)) = (md : Int) + (mu : Int) := by rw [IntKind.wrap_i64]; omega
      have a2 : ((md : Int) + (mu : Int) == 0) = false := beq_eq_false_iff_ne.2 (by omega)
      have a3 : IntKind.i64.wrap ((sd : Int) + (md : Int)) = ((sd + md : Nat) : Int) := by rw [IntKind.wrap_i64]; omega
      have a4 : IntKind.i64.wrap ((sp : Int) + (mu : Int)) = ((sp + mu : Nat) : Int) := by rw [IntKind.wrap_i64]; omega
      have HB1 := Lib.hid (HB0.out.on16 HBR.out)
      have GD1 := Lib.hid (earg16_below GD.out HBR.out)
      have GP1 := Lib.hid (earg16_below GP.out HBR.out)
      obtain ⟨c0, c1⟩ := HB1.out.cells16
      clear hL5 hdx hux hmd hmu hh q1 q2
      go_wp2_with fail
      refine (E.onlyOf D P dc pc p q md mu d u dx ux h _ GD1.out GP1.out HQ1.out HDX.out HUX.out HMD.out HMU.out).mono ?_
      rintro e w6 ⟨X, xc, Y, yc, rfl, _, _, _, _, hx⟩
      have HB6 := Lib.hid (bthen HBR.out hx)
      have hu := up w6 (.cells #[.slice X md xc, .slice Y mu yc] 24)
      obtain ⟨z0, z1⟩ := (PatAt.new16 w6 X Y md xc mu yc).cells16
      obtain ⟨W6, hW6⟩ : ∃ W, w6.alloc (.cells #[.slice X md xc, .slice Y mu yc] 24) = W := ⟨_, rfl⟩
      rw [hW6] at hu z0 z1
      have HW6 := Lib.hid hW6
      have HBW := Lib.hid (bthen HB6.out hu)
      clear hx hW6 hu c0 c1 c5
      by_cases hk0 : k = 0
      · have t1 : decide ((0 : Int) < (k : Int)) = false := decide_eq_false (by omega)
        have t1a : decide ((k : Int) > 0) = false := decide_eq_false (by omega)
        have t1b : decide (0 < k) = false := decide_eq_false (by omega)
        have HLN := Lib.hid (show 0 < k + 1 → x[k + 1 - 1]? = some h from fun _ => HHK.out)
        clear hk0
        go_wp2
        rw [HW6.out]
        go_wp2
        go_quiet (fail)
        go_wp2
        go_roundg (m - (k + 1))
        case rel => exact ⟨k + 1, h, sd + md, sp + mu, (by show _ = _; omega), by go_num, by go_num, by go_num, rfl, HSD2.out, HSP2.out, HLN.out, below_drawn16 HBW.out _⟩
        case measure => omega
      · have t1 : decide ((0 : Int) < (k : Int)) = true := decide_eq_true (by omega)
        have t1a : decide ((k : Int) > 0) = true := decide_eq_true (by omega)
        have t1b : decide (0 < k) = true := decide_eq_true (by omega)
        have hless : Op.bytesLess lst h = true := Pt.rise_at HRI.out (k := k - 1) (HLS.out (by omega)) (by rw [show k - 1 + 1 = k by omega]; exact HHK.out)
        obtain ⟨t2, t3⟩ := leq_no hless
        have HLN := Lib.hid (show 0 < k + 1 → x[k + 1 - 1]? = some h from fun _ => HHK.out)
        clear hk0 hless
        go_wp2
        rw [HW6.out]
        go_wp2
        go_quiet (fail)
        go_wp2
        go_roundg (m - (k + 1))
        case rel => exact ⟨k + 1, h, sd + md, sp + mu, (by show _ = _; omega), by go_num, by go_num, by go_num, rfl, HSD2.out, HSP2.out, HLN.out, below_drawn16 HBW.out _⟩
        case measure => omega
    · have blt : decide ((k : Int) < (m : Int)) = false := decide_eq_false (by omega)
      have blt2 : decide (k < m) = false := decide_eq_false hlt
      obtain rfl : k = m := by omega
      have e1 : ((sd : Int) == (p : Int)) = true := beq_iff_eq.2 (by rw [← HSD.out, HAD.out])
      have e1b : (sd == p) = true := beq_iff_eq.2 (by rw [← HSD.out, HAD.out])
      have e2 : ((sp : Int) == (q : Int)) = true := beq_iff_eq.2 (by rw [← HSP.out, HAP.out])
      have e2b : (sp == q) = true := beq_iff_eq.2 (by rw [← HSP.out, HAP.out])
      have HB1 := Lib.hid (HB0.out.on16 HBR.out)
      obtain ⟨c0, c1⟩ := HB1.out.cells16
      have HBZ := Lib.hid (bthen hb HBR.out)
      go_wp2_with fail
      refine (AW _).mono ?_
      rintro e wz ⟨rfl, hx⟩
      go_wp2
      go_ret
      exact ⟨rfl, bthen HBZ.out hx⟩
end Go.Proofs.Ytpkhnchbamjgjaa
