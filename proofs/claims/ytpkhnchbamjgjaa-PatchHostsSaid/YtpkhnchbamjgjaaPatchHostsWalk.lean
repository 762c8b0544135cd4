/-
  The walk of layer 16's statement PatchHosts, from what patch does: it returns true whatever comes in. No conditions.
-/
import Derived.Test.YtpkhnchbamjgjaaBase5
namespace Go.Proofs.Ytpkhnchbamjgjaa
namespace Pt
/-- The first k hosts, begun at the place b. -/
def rotL (hs : List C.Wd) (b k : Nat) : List C.Wd := (List.range k).map fun i => hs.getD ((i + b) % hs.length) []
theorem rot_next (hs : List C.Wd) (b k : Nat) : rotL hs b (k + 1) = rotL hs b k ++ [hs.getD ((k + b) % hs.length) []] := by unfold rotL; rw [List.range_succ, List.map_append]; rfl
theorem rot_all (hs : List C.Wd) (b : Nat) (h : C.Wd) (hh : h ∈ hs) : h ∈ rotL hs b hs.length := by
  obtain ⟨j, hj, rfl⟩ := List.getElem_of_mem hh
  obtain ⟨n, hn⟩ : ∃ n, hs.length = n := ⟨_, rfl⟩
  have hq := Nat.div_add_mod b n
  have hs' := Nat.mod_lt b (show 0 < n by omega)
  have key : ∃ i, i < n ∧ (i + b) % n = j := by
    rcases Nat.lt_or_ge j (b % n) with h1 | h1
    · refine ⟨n + j - b % n, by omega, ?_⟩
      have e : n + j - b % n + b = n + j + n * (b / n) := by omega
      rw [e, Nat.add_mul_mod_self_left, Nat.add_mod_left, Nat.mod_eq_of_lt (by omega)]
    · refine ⟨j - b % n, by omega, ?_⟩
      have e : j - b % n + b = j + n * (b / n) := by omega
      rw [e, Nat.add_mul_mod_self_left, Nat.mod_eq_of_lt (by omega)]
  obtain ⟨i, hi, hx⟩ := key
  refine List.mem_map.2 ⟨i, List.mem_range.2 (by omega), ?_⟩
  rw [hn, hx, List.getD_eq_getElem?_getD, List.getElem?_eq_getElem hj]; rfl
theorem by_snoc (d p l : List H.En) (hs : List C.Wd) (h : C.Wd) : byHost d p l (hs ++ [h]) = applyE (byHost d p l hs) (onlyE d h) (onlyE p h) := by unfold byHost; rw [List.foldl_append]; rfl
/-- Hosts patched one by one: no more than what was there and what is put. -/
theorem by_in (d p : List H.En) (l : List H.En) : ∀ (hs : List C.Wd), (∀ x ∈ byHost d p l hs, x ∈ l ++ p) := by
  intro hs
  induction hs generalizing l with
  | nil => exact fun x hx => List.mem_append_left _ hx
  | cons h t ih =>
    intro x hx
    have h1 : x ∈ applyE l (onlyE d h) (onlyE p h) ++ p := ih _ x hx
    rcases List.mem_append.1 h1 with h2 | h2
    · rcases mem_apply.1 h2 with h3 | h3
      · exact List.mem_append_left _ h3.1
      · exact List.mem_append_right _ (mem_only.1 h3).1
    · exact List.mem_append_right _ h2
theorem next_few {d p l : List H.En} (hs : List C.Wd) (h : C.Wd) {n q : Nat} (hn : l.length = n) (hq : p.length = q) : (applyE (byHost d p l hs) (onlyE d h) (onlyE p h)).length ≤ n + q := by
  have h1 := (H.sort_nodup (apply_sort (byHost d p l hs) (onlyE d h) (onlyE p h))).length_le_of_subset (l₂ := l ++ p) (by
    intro x hx
    rcases mem_apply.1 hx with h3 | h3
    · exact by_in d p l hs x h3.1
    · exact List.mem_append_right _ (mem_only.1 h3).1)
  rw [List.length_append, hn, hq] at h1; exact h1
end Pt
open Go.RowKit
set_option linter.unusedVariables false

set_option maxRecDepth 100000 in
set_option maxHeartbeats 8000000 in
theorem patchHosts_walk (E : PatchOk) (AW : ∀ w, Calls Try.prog 11 #[] w (TrueS w)) (w : World) (A : Option Addr) (c : Nat) (a : List H.En) (hc : a.length ≤ c) (hA : Seen eEc w A a) (hlA : a.length ≤ maxLen) (B : Option Addr) (d : Nat) (b : List H.En) (hd : b.length ≤ d) (hB : Seen eEc w B b) (hlB : b.length ≤ maxLen) (by0 : Int) (wby : (Lit.int .u8 by0).wf = true) :
    Calls Try.prog 6 #[.slice A a.length c, .slice B b.length d, .int .u8 by0] w (TrueS w) := by
  obtain ⟨hb0, hb255⟩ := bounds_u8 wby
  obtain ⟨by_, rfl⟩ := Int.eq_ofNat_of_zero_le hb0
  have hby : by_ ≤ 255 := by omega
  clear wby hb0 hb255
  unfold maxLen at hlA hlB
  obtain ⟨n, hnn⟩ : ∃ n, a.length = n := ⟨_, rfl⟩
  obtain ⟨m, hnm⟩ : ∃ n, b.length = n := ⟨_, rfl⟩
  rw [hnn] at hc hlA ⊢
  rw [hnm] at hd hlB ⊢
  have HNn := Lib.hid hnn
  have HNm := Lib.hid hnm
  have hb : Below w.heap.size w w := Below.refl _ _
  have HA := Lib.hid (hA.below hb)
  have HB := Lib.hid (hB.below hb)
  clear hnn hnm hA hB
  go_enter Try.func6, Try.ntmps6
  go_wp2_with fail
  refine (few16 A c n a _ HNn.out HA.out (by omega)).mono ?_
  rintro e w1 ⟨f1, rfl, hf1, hx⟩
  replace HA := Lib.hid (HA.out.below hx)
  replace HB := Lib.hid (HB.out.below hx)
  replace hb := bthen hb hx
  clear hx
  cases f1 with
  | false =>
    go_wp2_with fail
    refine (AW _).mono ?_
    rintro e wz ⟨rfl, hx⟩
    go_wp2
    go_ret
    exact ⟨rfl, bthen hb hx⟩
  | true =>
  obtain ⟨h601, hl1⟩ := hf1 rfl
  have HF1 := Lib.hid hl1
  clear hf1 hl1
  go_wp2_with fail
  refine (few16 B d m b _ HNm.out HB.out (by omega)).mono ?_
  rintro e w2 ⟨f2, rfl, hf2, hx⟩
  replace HA := Lib.hid (HA.out.below hx)
  replace HB := Lib.hid (HB.out.below hx)
  replace hb := bthen hb hx
  clear hx
  cases f2 with
  | false =>
    go_wp2_with fail
    refine (AW _).mono ?_
    rintro e wz ⟨rfl, hx⟩
    go_wp2
    go_ret
    exact ⟨rfl, bthen hb hx⟩
  | true =>
  obtain ⟨h602, hl2⟩ := hf2 rfl
  have HF2 := Lib.hid hl2
  clear hf2 hl2
  have GA := Lib.hid (earg16 HNn.out h601 HF1.out hc HA.out)
  have GB := Lib.hid (earg16 HNm.out h602 HF2.out hd HB.out)
  obtain ⟨x1x, hx1x⟩ : ∃ x, Pt.lessE a b = x := ⟨_, rfl⟩
  obtain ⟨y1x, hy1x⟩ : ∃ x, Pt.lessE b a = x := ⟨_, rfl⟩
  obtain ⟨p1x, hp1x⟩ : ∃ m, x1x.length = m := ⟨_, rfl⟩
  obtain ⟨q1x, hq1x⟩ : ∃ m, y1x.length = m := ⟨_, rfl⟩
  have HX1x := Lib.hid hx1x
  have HY1x := Lib.hid hy1x
  have HP1x := Lib.hid hp1x
  have HQ1x := Lib.hid hq1x
  have hp1xb : p1x ≤ n := by have := Pt.less_len a b; rw [hx1x, hp1x, GA.out.len] at this; exact this
  have hq1xb : q1x ≤ m := by have := Pt.less_len b a; rw [hy1x, hq1x, GB.out.len] at this; exact this
  have HFX1x := Lib.hid (show ∀ y ∈ x1x, Fit16 y by rw [← hx1x]; exact less_fit GA.out.fits)
  have HFY1x := Lib.hid (show ∀ y ∈ y1x, Fit16 y by rw [← hy1x]; exact less_fit GB.out.fits)
  clear hx1x hy1x hp1x hq1x
  go_wp2_with fail
  refine (E.ofOf A B c d n m p1x q1x a b x1x y1x _ GA.out GB.out HX1x.out HY1x.out HP1x.out HQ1x.out).mono ?_
  rintro e w3 ⟨D1x, dc1x, P1x, pc1x, rfl, hdc1x, hpc1x, hsd1x, hsp1x, hx⟩
  have hmx1x := GA.out.most
  have hmy1x := GB.out.most
  have GD1x := Lib.hid (show EArg16 w3 D1x dc1x p1x x1x from ⟨HP1x.out, by omega, HFX1x.out, hdc1x, hsd1x⟩)
  have GP1x := Lib.hid (show EArg16 w3 P1x pc1x q1x y1x from ⟨HQ1x.out, by omega, HFY1x.out, hpc1x, hsp1x⟩)
  clear hsd1x hsp1x hmx1x hmy1x
  replace GA := Lib.hid (earg16_below GA.out hx)
  replace GB := Lib.hid (earg16_below GB.out hx)
  replace hb := bthen hb hx
  clear hx
  have hu := up w3 (.cells #[.slice D1x p1x dc1x, .slice P1x q1x pc1x] 24)
  have HZ := Lib.hid (PatAt.new16 w3 D1x P1x p1x dc1x q1x pc1x)
  replace GA := Lib.hid (earg16_below GA.out hu)
  replace GB := Lib.hid (earg16_below GB.out hu)
  replace GD1x := Lib.hid (earg16_below GD1x.out hu)
  replace GP1x := Lib.hid (earg16_below GP1x.out hu)
  replace hb := bthen hb hu
  clear hu
  obtain ⟨x, hx0⟩ : ∃ x, Pt.hostsE (x1x ++ y1x) = x := ⟨_, rfl⟩
  obtain ⟨k0, hk0⟩ : ∃ m, x.length = m := ⟨_, rfl⟩
  have HX := Lib.hid hx0
  have HM := Lib.hid hk0
  have hk120 : k0 ≤ 120 := by
    have := Pt.hosts_len (x1x ++ y1x)
    rw [hx0, hk0, List.length_append, HP1x.out, HQ1x.out] at this; omega
  have HHS := Lib.hid (show ∀ h ∈ x, h.length ≤ 100 by
    intro h hh
    rw [← hx0] at hh
    obtain ⟨y, hy, e⟩ := Pt.mem_hosts.1 hh
    rw [← e]
    rcases List.mem_append.1 hy with k | k
    · exact (HFX1x.out y k).1
    · exact (HFY1x.out y k).1)
  clear hx0 hk0
  obtain ⟨c0, c1⟩ := HZ.out.cells16
  go_wp2_with fail
  refine (E.hostsOf D1x P1x dc1x pc1x p1x q1x k0 x1x y1x x _ GD1x.out GP1x.out HX.out HM.out).mono ?_
  rintro e w4 ⟨B4, b4, rfl, hmb4, hs4, hx⟩
  replace GA := Lib.hid (earg16_below GA.out hx)
  replace GB := Lib.hid (earg16_below GB.out hx)
  replace GD1x := Lib.hid (earg16_below GD1x.out hx)
  replace GP1x := Lib.hid (earg16_below GP1x.out hx)
  replace HZ := Lib.hid (HZ.out.on16 hx)
  replace hb := bthen hb hx
  clear hx
  have HS := Lib.hid hs4
  obtain ⟨g, hg⟩ : ∃ g, w3.heap.size = g := ⟨_, rfl⟩
  rw [hg] at HZ
  have HGG := Lib.hid hg
  clear hs4 c0 c1 hg
  go_wp2
  rw [HGG.out]
  go_loopg [9, 28] k0 (fun gk v9 vi wr => ∃ (k n1 c1 : Nat) (A1 : Option Addr), Hid (k + gk = k0) ∧ vi = .int .i64 (k : Int) ∧ v9 = .slice A1 n1 c1 ∧ n1 ≤ 120 ∧ Hid (EArg16 wr A1 c1 n1 (Pt.byHost x1x y1x a (Pt.rotL x by_ k))) ∧ Hid (Below w4.heap.size w4 wr))
  case atStart => exact ⟨0, n, c, A, Nat.zero_add _, rfl, rfl, by omega, GA.out, Below.refl _ _⟩
  case round =>
    obtain ⟨k, n1, c1, A1, HGK, rfl, rfl, hn120, GL, HBR⟩ := hrel
    have hgk := HGK.out
    by_cases hlt : k < k0
    · have blt : decide ((k : Int) < (k0 : Int)) = true := decide_eq_true (by omega)
      have blt2 : decide (k < k0) = true := decide_eq_true hlt
      have hki : (k : Int) < (k0 : Int) := by omega
      have q0 : ((k0 : Int) == 0) = false := by rw [beq_eq_false_iff_ne]; omega
      have q1 : ¬ k0 = 0 := by omega
      obtain ⟨s, hs⟩ : ∃ z, k + by_ = z := ⟨_, rfl⟩
      obtain ⟨j, hj⟩ : ∃ z, s % k0 = z := ⟨_, rfl⟩
      have hjk : j < k0 := by rw [← hj]; exact Nat.mod_lt _ (by omega)
      have hji : (j : Int) < (k0 : Int) := by omega
      have a0 : IntKind.i64.wrap (by_ : Int) = (by_ : Int) := by rw [IntKind.wrap_i64]; omega
      have a1 : IntKind.i64.wrap ((k : Int) + (by_ : Int)) = (s : Int) := by rw [IntKind.wrap_i64]; omega
      have a2 : ((s : Int)).tmod (k0 : Int) = (j : Int) := by rw [← hj]; rfl
      have a3 : (s : Int) % (k0 : Int) = (j : Int) := by rw [← hj]; rfl
      have a4 : IntKind.i64.wrap (j : Int) = (j : Int) := by rw [IntKind.wrap_i64]; omega
      have hjl : j < x.length := by rw [HM.out]; exact hjk
      obtain ⟨h, hh⟩ : ∃ h, x[j]? = some h := ⟨_, List.getElem?_eq_getElem hjl⟩
      obtain ⟨b5, o5, hA5, hw5, hL5⟩ := HS.out (by omega)
      have hA5 : B4 = some ⟨b5, o5, none⟩ := hA5
      subst hA5
      have c5 : ∀ w2, Below w4.heap.size w4 w2 → w2.cell? ⟨b5, o5 + j, none⟩ = some (.string (sB h)) := fun w2 hb2 => by
        obtain ⟨h5, h6⟩ := List.getElem?_eq_some_iff.1 hh
        rw [← h6]; exact (hL5.below hb2 hw5).str h5
      have HC5 := Lib.hid c5
      have HHL := Lib.hid (HHS.out h (List.mem_of_getElem? hh))
      obtain ⟨xo, hxo⟩ : ∃ z, Pt.onlyE x1x h = z := ⟨_, rfl⟩
      obtain ⟨yo, hyo⟩ : ∃ z, Pt.onlyE y1x h = z := ⟨_, rfl⟩
      obtain ⟨po, hpo⟩ : ∃ z, xo.length = z := ⟨_, rfl⟩
      obtain ⟨qo, hqo⟩ : ∃ z, yo.length = z := ⟨_, rfl⟩
      obtain ⟨lk, hlk⟩ : ∃ z, Pt.byHost x1x y1x a (Pt.rotL x by_ k) = z := ⟨_, rfl⟩
      obtain ⟨ln, hln⟩ : ∃ z, Pt.applyE lk xo yo = z := ⟨_, rfl⟩
      obtain ⟨n2, hn2⟩ : ∃ z, ln.length = z := ⟨_, rfl⟩
      have HNX := Lib.hid (show Pt.byHost x1x y1x a (Pt.rotL x by_ (k + 1)) = ln by rw [Pt.rot_next, Pt.by_snoc, HM.out, hs, hj, List.getD_eq_getElem?_getD, hh]; rw [Option.getD_some, hxo, hyo, hlk, hln])
      have hn2b : n2 ≤ 120 := by have := Pt.next_few (d := x1x) (p := y1x) (l := a) (Pt.rotL x by_ k) h HNn.out HQ1x.out; rw [hlk, hxo, hyo, hln, hn2] at this; omega
      have hpo60 : po ≤ 60 := by have h2 : po ≤ p1x := (by rw [← hpo, ← hxo, ← HP1x.out]; exact List.length_filter_le _ _); omega
      have hqo60 : qo ≤ 60 := by have h2 : qo ≤ q1x := (by rw [← hqo, ← hyo, ← HQ1x.out]; exact List.length_filter_le _ _); omega
      have HFXO := Lib.hid (show ∀ y ∈ xo, Fit16 y by rw [← hxo]; exact only_fit HFX1x.out)
      have HFYO := Lib.hid (show ∀ y ∈ yo, Fit16 y by rw [← hyo]; exact only_fit HFY1x.out)
      rw [hlk] at GL
      have HFLN := Lib.hid (show ∀ y ∈ ln, Fit16 y by rw [← hln]; exact apply_fit GL.out.fits HFYO.out)
      have HXO := Lib.hid hxo
      have HYO := Lib.hid hyo
      have HPO := Lib.hid hpo
      have HQO := Lib.hid hqo
      have HLN := Lib.hid hln
      have HN2 := Lib.hid hn2
      have HLT := Lib.hid hlt
      clear hxo hyo hpo hqo hlk hln hn2 hs hj hL5 c5 hh hjl hgk
      have HZ2 := Lib.hid (HZ.out.on16 HBR.out)
      have GD2 := Lib.hid (earg16_below GD1x.out HBR.out)
      have GP2 := Lib.hid (earg16_below GP1x.out HBR.out)
      go_wp2
      refine wp_region_held_drew (S := fun w' => PatAt w' g D1x p1x dc1x P1x q1x pc1x ∧ w'.cell? ⟨b5, o5 + j, none⟩ = some (.string (sB h))) (by kernel_rfl) ⟨HZ2.out, HC5.out _ HBR.out.drew⟩ (fun hHeld => ?_)
      refine takeD16 (i := 0) (v := ?vh0) (d := some 31) rfl rfl (by kernel_rfl) (by kernel_rfl) (by kernel_rfl) (fun _ _ _ h => h) (Or.inl ⟨by rfl, ?hyh0⟩) (by assumption) ?resth0
      case hyh0 => intro w hSw; obtain ⟨h1, h2⟩ := hSw; obtain ⟨v0, v1⟩ := h1.cells16; go_simp; try (with_reducible rfl)
      try simp only [Act.put, List.setIfInBounds_toArray, List.set_cons_zero, List.set_cons_succ]
      refine takeD16 (i := 1) (v := ?vh1) (d := some 32) rfl rfl (by kernel_rfl) (by kernel_rfl) (by kernel_rfl) (fun _ _ _ h => h) (Or.inl ⟨by rfl, ?hyh1⟩) (by assumption) ?resth1
      case hyh1 => intro w hSw; obtain ⟨h1, h2⟩ := hSw; obtain ⟨v0, v1⟩ := h1.cells16; go_simp; try (with_reducible rfl)
      try simp only [Act.put, List.setIfInBounds_toArray, List.set_cons_zero, List.set_cons_succ]
      refine takeD16 (i := 2) (v := ?vh2) (d := some 33) rfl rfl (by kernel_rfl) (by kernel_rfl) (by kernel_rfl) (fun _ _ _ h => h) (Or.inl ⟨by rfl, ?hyh2⟩) (by assumption) ?resth2
      case hyh2 => intro w hSw; obtain ⟨h1, h2⟩ := hSw; obtain ⟨v0, v1⟩ := h1.cells16; go_simp; try (with_reducible rfl)
      try simp only [Act.put, List.setIfInBounds_toArray, List.set_cons_zero, List.set_cons_succ]
      refine takeD16 (i := 3) (v := ?vh3) (d := some 34) rfl rfl (by kernel_rfl) (by kernel_rfl) (by kernel_rfl) (fun _ _ _ h => h) (Or.inl ⟨by rfl, ?hyh3⟩) (by assumption) ?resth3
      case hyh3 => intro w hSw; obtain ⟨h1, h2⟩ := hSw; obtain ⟨v0, v1⟩ := h1.cells16; go_simp; try (with_reducible rfl)
      try simp only [Act.put, List.setIfInBounds_toArray, List.set_cons_zero, List.set_cons_succ]
      refine takeD16 (i := 4) (v := ?vh4) (d := some 35) rfl rfl (by kernel_rfl) (by kernel_rfl) (by kernel_rfl) (fun _ _ _ h => h) (Or.inl ⟨by rfl, ?hyh4⟩) (by assumption) ?resth4
      case hyh4 => intro w hSw; obtain ⟨h1, h2⟩ := hSw; obtain ⟨v0, v1⟩ := h1.cells16; go_simp; try (with_reducible rfl)
      try simp only [Act.put, List.setIfInBounds_toArray, List.set_cons_zero, List.set_cons_succ]
      refine takeD16 (i := 5) (v := ?vh5) (d := some 36) rfl rfl (by kernel_rfl) (by kernel_rfl) (by kernel_rfl) (fun _ _ _ h => h) (Or.inl ⟨by rfl, ?hyh5⟩) (by assumption) ?resth5
      case hyh5 => intro w hSw; obtain ⟨h1, h2⟩ := hSw; obtain ⟨v0, v1⟩ := h1.cells16; go_simp; try (with_reducible rfl)
      try simp only [Act.put, List.setIfInBounds_toArray, List.set_cons_zero, List.set_cons_succ]
      refine takeD16 (i := 6) (v := ?vh6) (d := some 37) rfl rfl (by kernel_rfl) (by kernel_rfl) (by kernel_rfl) (fun _ _ _ h => h) (Or.inl ⟨by rfl, ?hyh6⟩) (by assumption) ?resth6
      case hyh6 => intro w hSw; obtain ⟨h1, h2⟩ := hSw; obtain ⟨v0, v1⟩ := h1.cells16; go_simp; try (with_reducible rfl)
      try simp only [Act.put, List.setIfInBounds_toArray, List.set_cons_zero, List.set_cons_succ]
      refine takeD16 (i := 7) (v := ?vh7) (d := some 38) rfl rfl (by kernel_rfl) (by kernel_rfl) (by kernel_rfl) (fun _ _ _ h => h) (Or.inl ⟨by rfl, ?hyh7⟩) (by assumption) ?resth7
      case hyh7 => intro w hSw; obtain ⟨h1, h2⟩ := hSw; obtain ⟨v0, v1⟩ := h1.cells16; go_simp; try (with_reducible rfl)
      try simp only [Act.put, List.setIfInBounds_toArray, List.set_cons_zero, List.set_cons_succ]
      refine takeD16 (i := 8) (v := ?vh8) (d := some 39) rfl rfl (by kernel_rfl) (by kernel_rfl) (by kernel_rfl) (fun _ _ _ h => h) (Or.inl ⟨by rfl, ?hyh8⟩) (by assumption) ?resth8
      case hyh8 => intro w hSw; obtain ⟨h1, h2⟩ := hSw; obtain ⟨v0, v1⟩ := h1.cells16; go_simp; try (with_reducible rfl)
      try simp only [Act.put, List.setIfInBounds_toArray, List.set_cons_zero, List.set_cons_succ]
      refine takeD16 (i := 9) (v := ?vh9) (d := some 40) rfl rfl (by kernel_rfl) (by kernel_rfl) (by kernel_rfl) (fun _ _ _ h => h) (Or.inl ⟨by rfl, ?hyh9⟩) (by assumption) ?resth9
      case hyh9 => intro w hSw; obtain ⟨h1, h2⟩ := hSw; obtain ⟨v0, v1⟩ := h1.cells16; go_simp; try (with_reducible rfl)
      try simp only [Act.put, List.setIfInBounds_toArray, List.set_cons_zero, List.set_cons_succ]
      refine takeD16 (i := 10) (v := ?vh10) (d := some 41) rfl rfl (by kernel_rfl) (by kernel_rfl) (by kernel_rfl) (fun _ _ _ h => h) (Or.inl ⟨by rfl, ?hyh10⟩) (by assumption) ?resth10
      case hyh10 => intro w hSw; obtain ⟨h1, h2⟩ := hSw; obtain ⟨v0, v1⟩ := h1.cells16; go_simp; try (with_reducible rfl)
      try simp only [Act.put, List.setIfInBounds_toArray, List.set_cons_zero, List.set_cons_succ]
      refine takeD16 (i := 11) (v := ?vh11) (d := some 42) rfl rfl (by kernel_rfl) (by kernel_rfl) (by kernel_rfl) (fun _ _ _ h => h) (Or.inl ⟨by rfl, ?hyh11⟩) (by assumption) ?resth11
      case hyh11 => intro w hSw; obtain ⟨h1, h2⟩ := hSw; obtain ⟨v0, v1⟩ := h1.cells16; go_simp; try (with_reducible rfl)
      try simp only [Act.put, List.setIfInBounds_toArray, List.set_cons_zero, List.set_cons_succ]
      have hdr : Below wr.heap.size wr wr.drew := (Below.refl _ _).drew
      refine wpAnyH_ready (rs := [12]) (by kernel_rfl) (by simp) ?_
      refine AllReadyH.cons rfl (fun K hK => ?_) AllReadyH.nil
      go_simp
      go_at_call 14
      refine (E.onlyOf D1x P1x dc1x pc1x p1x q1x po qo x1x y1x xo yo h _ (earg16_below GD2.out hdr) (earg16_below GP2.out hdr) HHL.out HXO.out HYO.out HPO.out HQO.out).mono ?_
      rintro e6 w6 ⟨X, xc, Y, yc, rfl, hxc, hyc, hsx, hsy, hx⟩
      have GX := Lib.hid (show EArg16 w6 X xc po xo from ⟨HPO.out, by omega, HFXO.out, hxc, hsx⟩)
      have GY := Lib.hid (show EArg16 w6 Y yc qo yo from ⟨HQO.out, by omega, HFYO.out, hyc, hsy⟩)
      have hx6 := bthen hdr hx
      have HB6 := Lib.hid (bthen HBR.out hx6)
      have GL6 := Lib.hid (earg16_below GL.out hx6)
      have HZ6 := Lib.hid (HZ2.out.on16 hx6)
      have hc6 := HC5.out _ HB6.out
      clear hx hx6 hdr hsx hsy hHeld
      refine hK.out _ _ ⟨HZ6.out, hc6⟩ (fun hHeld => ?_)
      clear hK K hc6
      try simp only [Act.put, List.setIfInBounds_toArray, List.set_cons_zero, List.set_cons_succ]
      refine wpAnyH_ready (rs := [13]) (by kernel_rfl) (by simp) ?_
      refine AllReadyH.cons rfl (fun K hK => ?_) AllReadyH.nil
      go_simp
      go_at_call 18
      refine (E.applyOf A1 X Y c1 xc yc n1 po qo n2 lk xo yo ln _ GL6.out GX.out GY.out HLN.out HN2.out).mono ?_
      rintro e7 w7 ⟨A2, c2, rfl, hc2, hs2, hx⟩
      have GN := Lib.hid (show EArg16 w7 A2 c2 n2 ln from ⟨HN2.out, by omega, HFLN.out, hc2, hs2⟩)
      have HB7 := Lib.hid (bthen HB6.out hx)
      have HZ7 := Lib.hid (HZ6.out.on16 hx)
      have hc7 := HC5.out _ HB7.out
      clear hx hs2 hHeld
      refine hK.out _ _ ⟨HZ7.out, hc7⟩ (fun hHeld => ?_)
      clear hK K hc7
      try simp only [Act.put, List.setIfInBounds_toArray, List.set_cons_zero, List.set_cons_succ]
      refine takeD16 (i := 14) (v := ?vh14) (d := some 9) rfl rfl (by kernel_rfl) (by kernel_rfl) (by kernel_rfl) (fun _ _ _ h => h) (Or.inl ⟨by rfl, ?hyh14⟩) (by assumption) ?resth14
      case hyh14 => intro w hSw; obtain ⟨h1, h2⟩ := hSw; obtain ⟨v0, v1⟩ := h1.cells16; go_simp; try (with_reducible rfl)
      try simp only [Act.put, List.setIfInBounds_toArray, List.set_cons_zero, List.set_cons_succ]
      refine wpAnyH_done (by kernel_rfl) ?_ _
      go_wp2
      go_roundg (k0 - (k + 1))
      case rel => exact ⟨k + 1, n2, c2, A2, (by show _ = _; have := HGK.out; have := HLT.out; omega), (by have q9 := HLT.out; go_num), rfl, hn2b, (by rw [HNX.out]; exact GN.out), HB7.out⟩
      case measure => have q8 := HGK.out; have q9 := HLT.out; show _ < _; omega
    · have blt : decide ((k : Int) < (k0 : Int)) = false := decide_eq_false (by omega)
      have blt2 : decide (k < k0) = false := decide_eq_false hlt
      obtain rfl : k0 = k := by omega
      have HEQ := Lib.hid (show H.setE (Pt.byHost x1x y1x a (Pt.rotL x by_ k0)) = H.setE b by
        have := Pt.byHost_all (a := a) (b := b) (hs := Pt.rotL x by_ k0) (fun h hh => by
          rw [HX1x.out, HY1x.out, HX.out] at hh
          have h2 := Pt.rot_all x by_ h hh
          rw [HM.out] at h2; exact h2)
        rw [HX1x.out, HY1x.out] at this; exact this)
      obtain ⟨lk, hlk⟩ : ∃ z, Pt.byHost x1x y1x a (Pt.rotL x by_ k0) = z := ⟨_, rfl⟩
      rw [hlk] at GL HEQ
      clear hlk
      obtain ⟨sb, hsb⟩ : ∃ x, H.setE b = x := ⟨_, rfl⟩
      obtain ⟨mb, hmb⟩ : ∃ m, sb.length = m := ⟨_, rfl⟩
      have HSB2 := Lib.hid hsb
      have HMB := Lib.hid hmb
      have hmbb : mb ≤ 60 := by have := H.set_len b; rw [hsb, hmb, HNm.out] at this; omega
      rw [hsb] at HEQ
      clear hsb hmb
      replace hb := bthen hb HBR.out
      replace GB := Lib.hid (earg16_below GB.out HBR.out)
      go_wp2_with fail
      refine (refs16 A1 c1 n1 lk _ GL.out).mono ?_
      rintro e w5 ⟨R1, r1, rfl, hr1, hs3, hx⟩
      have HR1 := Lib.hid hs3
      clear hs3
      replace GB := Lib.hid (earg16_below GB.out hx)
      replace hb := bthen hb hx
      clear hx
      go_wp2_with fail
      refine (setR R1 r1 n1 mb lk _ GL.out.len (by omega) HR1.out (by rw [HEQ.out]; exact HMB.out)).mono ?_
      rintro e w6 ⟨R3, r3, rfl, hr3, hs5, hx⟩
      rw [HEQ.out] at hs5
      have HR3 := Lib.hid hs5
      clear hs5
      replace GB := Lib.hid (earg16_below GB.out hx)
      replace hb := bthen hb hx
      clear hx
      go_wp2_with fail
      refine (refs16 B d m b _ GB.out).mono ?_
      rintro e w7 ⟨R2, r2, rfl, hr2, hs4, hx⟩
      have HR2 := Lib.hid hs4
      clear hs4
      replace GB := Lib.hid (earg16_below GB.out hx)
      replace HR3 := Lib.hid (HR3.out.below hx)
      replace hb := bthen hb hx
      clear hx
      go_wp2_with fail
      refine (setR R2 r2 m mb b _ HNm.out (by omega) HR2.out (by rw [HSB2.out]; exact HMB.out)).mono ?_
      rintro e w8 ⟨R4, r4, rfl, hr4, hs6, hx⟩
      rw [HSB2.out] at hs6
      have HR4 := Lib.hid hs6
      clear hs6
      replace GB := Lib.hid (earg16_below GB.out hx)
      replace HR3 := Lib.hid (HR3.out.below hx)
      replace hb := bthen hb hx
      clear hx
      go_wp2_with fail
      refine (sameR14 R3 R4 r3 r4 mb sb _ HMB.out (by omega) HR3.out HR4.out).mono ?_
      rintro e w9 ⟨rfl, hx⟩
      replace hb := bthen hb hx
      clear hx
      go_wp2_with fail
      refine (AW _).mono ?_
      rintro e wz ⟨rfl, hx⟩
      go_wp2
      go_ret
      exact ⟨rfl, bthen hb hx⟩
end Go.Proofs.Ytpkhnchbamjgjaa
