/-
  The walk of layer 5's statement ParseCut: it returns true whatever the lines and the number are. No conditions.
-/
import Derived.Test.YtjgogjamkbmcjaaParseAwake
import Derived.Test.YtjgogjamkbmcjaaTreeC
import Derived.Test.YtjgogjamkbmcjaaShowRef
import Derived.Test.YtjgogjamkbmcjaaPureC
namespace Go.Proofs.Ytjgogjamkbmcjaa
open Go.RowKit

theorem text_pos {t : List T.Ln} (h : T.RightT t) (h0 : 0 < t.length) : 0 < (S.textL t).length := by
  rcases Nat.eq_zero_or_pos (S.textL t).length with hz | hz
  · have e := List.eq_nil_of_length_eq_zero hz
    have hp := S.parse_text h
    rw [e] at hp
    have : S.parseL [] = .ok [] := rfl
    rw [this] at hp
    injection hp with hp
    subst hp
    exact absurd h0 (Nat.lt_irrefl 0)
  · exact hz
theorem cut_text (L : List UInt8) (k : Nat) (x : ByteArray) (h : (⟨L.toArray⟩ : ByteArray).extract 0 k = x) : x.data.toList = L.take k := by
  subst h
  rw [Lib.extract_data]; simp

set_option maxRecDepth 100000 in
set_option maxHeartbeats 2000000 in
theorem parseCut_walk (w : World) (A : Option Addr) (c : Nat) (t : List T.Ln) (_hc : t.length ≤ c) (hA : Seen eL w A t) (hl : t.length ≤ maxLen) (a : Int) (wa : (Lit.int .u16 a).wf = true) :
    Calls Try.prog 9 #[.slice A t.length c, .int .u16 a] w (TrueS w) := by
  obtain ⟨ha0, ha1⟩ := bounds_u16 wa
  obtain ⟨m, rfl⟩ := Int.eq_ofNat_of_zero_le ha0
  clear wa ha0
  unfold maxLen at hl
  have HA := Lib.hid hA
  clear hA
  have hb : Below w.heap.size w w := Below.refl _ _
  go_enter Try.func9, Try.ntmps9
  go_wp2_with fail
  refine (small_is A c t _ HA.out).mono ?_
  rintro e wx1 ⟨bs, rfl, hsm, hx⟩
  replace HA := Lib.hid (HA.out.below hx)
  replace hb := bthen hb hx
  clear hx
  cases bs with
  | false =>
    clear hsm
    go_wp2_with fail
    refine (awake_any _).mono ?_
    rintro e wz ⟨rfl, hx⟩
    go_wp2
    go_ret
    exact ⟨rfl, bthen hb hx⟩
  | true =>
    replace hsm := hsm rfl
    have hla : t.length ≤ 1073741824 := by omega
    clear hsm
    by_cases h60 : 60 < t.length
    · have b60 : decide ((60 : Int) < (t.length : Int)) = true := decide_eq_true (by omega)
      clear h60
      go_wp2_with fail
      refine (awake_any _).mono ?_
      rintro e wz ⟨rfl, hx⟩
      go_wp2
      go_ret
      exact ⟨rfl, bthen hb hx⟩
    have b60 : decide ((60 : Int) < (t.length : Int)) = false := decide_eq_false (by omega)
    clear h60
    by_cases h0 : t.length = 0
    · have b0 : ((t.length : Int) == 0) = true := by rw [h0]; rfl
      clear h0
      go_wp2_with fail
      refine (awake_any _).mono ?_
      rintro e wz ⟨rfl, hx⟩
      go_wp2
      go_ret
      exact ⟨rfl, bthen hb hx⟩
    have b0 : ((t.length : Int) == 0) = false := beq_eq_false_iff_ne.2 (by omega)
    by_cases hR : T.RightT t
    · have HR := Lib.hid hR
      clear hR
      go_wp2_with fail
      refine (rightR_is A c t true _ HA.out hla (yes_iff HR.out)).mono ?_
      rintro e w2 ⟨rfl, hx⟩
      replace HA := Lib.hid (HA.out.below hx)
      replace hb := bthen hb hx
      clear hx
      obtain ⟨L, hL⟩ : ∃ L, S.textL t = L := ⟨_, rfl⟩
      have HL := Lib.hid hL
      clear hL
      have hlenL : L.length ≤ 200000 := by rw [← HL.out]; exact text_small HR.out
      have hposL : 0 < L.length := by rw [← HL.out]; exact text_pos HR.out (by omega)
      have hrt := refText_yes A c t _ HA.out HR.out
      rw [HL.out] at hrt
      go_wp2_with fail
      refine hrt.mono ?_
      rintro e w3 ⟨rfl, hx⟩
      replace HA := Lib.hid (HA.out.below hx)
      replace hb := bthen hb hx
      clear hx hrt
      obtain ⟨k, hk⟩ : ∃ k, m % L.length = k := ⟨_, rfl⟩
      have hkl : k < L.length := by rw [← hk]; exact Nat.mod_lt _ hposL
      have hsz : (⟨L.toArray⟩ : ByteArray).size = L.length := byt_size L
      have hk2 : (m : Int) % (L.length : Int) = (k : Int) := by rw [← hk]; omega
      obtain ⟨x, hx⟩ : ∃ x, (⟨L.toArray⟩ : ByteArray).extract 0 k = x := ⟨_, rfl⟩
      have hxd := cut_text L k x hx
      have hxs : x.size = k := by rw [Lib.size_eq, hxd, List.length_take]; omega
      have HXD := Lib.hid hxd
      have HX := Lib.hid hx
      have bz : ((L.length : Int) == 0) = false := beq_eq_false_iff_ne.2 (by omega)
      clear hk hxd hx
      go_wp2_with fail
      have hxs2 : x.size ≤ 1073741824 := by omega
      cases hp : S.parseL (L.take k) with
      | bad p er =>
        obtain ⟨hpl, her⟩ := S.parseL_bad hp
        have hpk : p ≤ k := by rw [List.length_take] at hpl; omega
        have bpk : decide (p ≤ k) = true := decide_eq_true hpk
        have be : (er != 0) = true := by simp [her]
        have hc := tree_bad x p er w3 hxs2 (by rw [HXD.out]; exact hp)
        rw [← HX.out] at hc
        clear hp hpl her hxs hpk
        refine hc.mono ?_
        rintro e w4 ⟨rfl, hx⟩
        replace hb := bthen hb hx
        clear hx
        go_wp2_with fail
        refine (awake_any _).mono ?_
        rintro e wz ⟨rfl, hx⟩
        go_wp2
        go_ret
        exact ⟨rfl, bthen hb hx⟩
      | ok u =>
        have hcut := S.parse_cut HR.out k (u := u) (by rw [HL.out]; exact hp)
        obtain ⟨n, hn, rfl, hcase⟩ := hcut
        have hnl : (t.take n).length = n := by rw [List.length_take]; omega
        have hc := tree_ok x (t.take n) n w3 hxs2 (by rw [HXD.out]; exact hp) hnl
        rw [← HX.out] at hc
        clear hp hxs
        refine hc.mono ?_
        rintro e w4 ⟨B, cap, rfl, hcap, hseen, hx⟩
        replace HA := Lib.hid (HA.out.below hx)
        replace hb := bthen hb hx
        clear hx
        have HU := Lib.hid hseen
        clear hseen
        obtain ⟨b, o, rfl, hbw, hH⟩ := HA.out.lines (by omega)
        have HH := Lib.hid hH
        have HTK := Lib.hid ((Holds.seen hH hbw : Seen eL w4 (some ⟨b, o, none⟩) t))
        have hsame := same_any B (some ⟨b, o, none⟩) cap c (t.take n) (t.take n) w4 true (yes_iff rfl) (by omega) HU.out (Holds.seen (hH.take n) hbw)
        rw [hnl] at hsame
        have bnl : decide (n ≤ t.length) = true := decide_eq_true hn
        have hnc : (n : Int) ≤ (c : Int) := by omega
        clear hH
        by_cases hnt : n = t.length
        · subst hnt
          clear hcase
          go_wp2_with fail
          refine hsame.mono ?_
          rintro e w5 ⟨rfl, hx⟩
          replace hb := bthen hb hx
          clear hx hsame
          go_wp2_with fail
          refine (awake_any _).mono ?_
          rintro e wz ⟨rfl, hx⟩
          go_wp2
          go_ret
          exact ⟨rfl, bthen hb hx⟩
        · have hd : T.dp t n = 0 := by rcases hcase with h | h; exact absurd h hnt; exact h
          have hlt : n < t.length := by omega
          have b1 : ((n : Int) == (t.length : Int)) = false := beq_eq_false_iff_ne.2 (by omega)
          have b2 : (n : Int) < (t.length : Int) := by omega
          clear hcase hnt
          go_wp2_with fail
          refine hsame.mono ?_
          rintro e w5 ⟨rfl, hx⟩
          obtain ⟨c0, _, _⟩ := (HH.out.below hx hbw).line hlt
          rw [hd] at c0
          replace hb := bthen hb hx
          clear hx hsame
          go_wp2_with fail
          refine (awake_any _).mono ?_
          rintro e wz ⟨rfl, hx⟩
          go_wp2
          go_ret
          exact ⟨rfl, bthen hb hx⟩
    · have HR := Lib.hid hR
      clear hR
      go_wp2_with fail
      refine (rightR_is A c t false _ HA.out hla (no_iff HR.out)).mono ?_
      rintro e w2 ⟨rfl, hx⟩
      replace HA := Lib.hid (HA.out.below hx)
      replace hb := bthen hb hx
      clear hx
      go_wp2_with fail
      refine (awake_any _).mono ?_
      rintro e wz ⟨rfl, hx⟩
      go_wp2
      go_ret
      exact ⟨rfl, bthen hb hx⟩
end Go.Proofs.Ytjgogjamkbmcjaa
