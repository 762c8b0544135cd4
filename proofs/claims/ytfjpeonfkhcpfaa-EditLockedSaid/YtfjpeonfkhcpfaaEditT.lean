/-
  Contract of the document's put (layer 7): a part, put under another word, line by line. Condition: a tree, a part as PartOk says it.
-/
import Derived.Test.YtfjpeonfkhcpfaaEditS
namespace Go.Proofs.Ytfjpeonfkhcpfaa
open Go.RowKit
set_option linter.unusedVariables false

theorem refPathN_is {N : Nat} (A : Option Addr) (c n i : Nat) (t : List T.Ln) (w : World) (hn : t.length = n) (hA : Seen eL w A t) (hl : n ≤ 1073741824) (hi : i < t.length) (hR : T.RightN N t) (p : T.Pth) (m : Nat) (hp : T.pathL t i = p) (hm : p.length = m) :
    Calls Try.prog 21 #[.slice A n c, .int .i64 i] w (fun e w' => ∃ B d, e = .returned (.slice B m d) ∧ m ≤ d ∧ Seen eS w' B p ∧ Below w.heap.size w w') := by
  subst hn; subst hp; subst hm; exact refPath_any A c t i w hA hl hi hR
theorem drop_last_take (P : T.Pth) (y : Nat) (h : P.length = y + 1) : P.take y = P.dropLast ∧ P.getLastD [] = P.getD y [] := by
  obtain ⟨q, v, e⟩ := T.snoc_of (p := P) (by intro e; subst e; simp at h)
  subst e
  rw [List.length_append, List.length_singleton] at h
  have hq : q.length = y := by omega
  refine ⟨?_, ?_⟩
  · rw [List.dropLast_concat, ← hq, List.take_left]
  · rw [T.last_snoc, ← hq]; unfold List.getD; simp
set_option maxRecDepth 100000 in
set_option maxHeartbeats 8000000 in
theorem refPut7_any {N : Nat} (hN : N ≤ 1000) (vt : Value) (u : List T.Ln) (b o m d : Nat) (p : T.Pth) (wd : List UInt8) (As : Option Addr) (cs n : Nat) (ls : List T.Ln) (s : List (T.Pth × Int)) (w : World)
    (hT : VecE w vt u) (hb : b < w.heap.size) (hB : Holds eS w b o p) (hm : p.length = m + 1) (hd : m + 1 ≤ d) (hm16 : m ≤ 15) (hS : Seen eL w As ls) (hls : T.RightN N ls) (hn : ls.length = n) (hsn : s.length = n) (hn0 : 0 < n)
    (hsk : ∀ k (h : k < s.length), s[k] = ((T.pathL ls k).drop 1, (T.at_ ls k).mark)) (h2 : ∀ k, 0 < k → k < ls.length → 2 ≤ (T.pathL ls k).length)
    (hR : T.RightN N u) (hw : wd.length ≤ 40) (hop : T.Open u (p.take m)) (hno : ∀ i, i < u.length → T.pathL u i ≠ p.take m ++ [wd]) (hOk : T.PartOk (p.take m ++ [wd]) s) (hNl : u.length + s.length ≤ N) :
    Calls Try.prog 51 #[vt, .slice (some ⟨b, o, none⟩) (m + 1) d, .string (sB wd), .slice As n cs] w (VecS eL w (T.putAll (p.take m ++ [wd]) u s)) := by
  have hnN : n ≤ 1000 := by have := hls.len; omega
  obtain ⟨bs, os, rfl, hbs, hHs⟩ := hS (by omega)
  have HTL := Lib.hid (show (p.take m).length = m by rw [List.length_take]; omega)
  obtain ⟨base, hbase⟩ : ∃ base, p.take m ++ [wd] = base := ⟨_, rfl⟩
  have HBL := Lib.hid (show base.length = m + 1 by rw [← hbase, List.length_append, HTL.out]; rfl)
  have hpart := fun k hk => T.put_part hR hw hop hno hOk hNl k hk
  have hopen := fun k hk => T.put_open hR hw hop hno hOk hNl (k := k) hk
  have h0 := hsk 0 (by omega)
  have hp00 : (T.pathL ls 0).drop 1 = [] := by
    have := hls.path_len 0 0 (Nat.le_refl _) (by omega)
    have h3 := hls.first (by omega)
    exact List.drop_eq_nil_of_le (by omega)
  have hst0 : T.putL u (p.take m) wd (T.at_ ls 0).mark = T.putAll base u (s.take 1) := by
    have e := T.putAll_next base u s 0 (by omega)
    rw [Nat.zero_add] at e
    rw [e, h0, hp00]
    unfold T.putStep
    rw [List.append_nil, ← hbase, List.dropLast_concat, T.last_snoc]
    rfl
  rw [hbase] at hpart hopen hOk hno ⊢
  obtain ⟨m0, hm0⟩ : ∃ x, (T.at_ ls 0).mark = x := ⟨_, rfl⟩
  rw [hm0] at hst0
  have c0 : w.cell? ⟨bs, os + 2, none⟩ = some (.int .i64 m0) := by
    have := (hHs.line (i := 0) (by omega)).2.2
    rw [hm0, Nat.zero_mul, Nat.add_zero] at this
    exact this
  have HT := Lib.hid hT
  have HVP := Lib.hid (show VecAt eS w (.slice (some ⟨b, o, none⟩) m d) (p.take m) from .inr ⟨b, o, d, by rw [HTL.out], by rw [HTL.out]; omega, hb, hB.take m⟩)
  have HHS := Lib.hid hHs
  have HLS := Lib.hid hls
  have HN := Lib.hid hn
  have HSN := Lib.hid hsn
  have HSK := Lib.hid hsk
  have H2 := Lib.hid h2
  have HR := Lib.hid hR
  have HOP := Lib.hid hop
  have HPT := Lib.hid hpart
  have HOPN := Lib.hid hopen
  have HST := Lib.hid hst0
  have HBA := Lib.hid hbase
  have hmd : (m : Int) ≤ (d : Int) := by omega
  have hmd2 : m ≤ d := by omega
  have hn0i : (0 : Int) < (n : Int) := by omega
  clear hT hB hHs hls hn hsn hsk h2 hR hop hno hOk hpart hopen h0 hp00 hst0 hbase hm hm0 hS hNl
  go_enter Try.func51, Try.ntmps51
  go_wp2_with fail
  refine (put_gen hN vt _ u (p.take m) wd m0 _ HT.out HVP.out HR.out HOP.out (by rw [HTL.out]; omega)).mono ?_
  rintro e w1 ⟨v1, rfl, hv1, hx1⟩
  rw [HST.out] at hv1
  have HV1 := Lib.hid hv1
  have HVP1 := Lib.hid (HVP.out.below hx1)
  have HB1 := Lib.hid hx1
  clear hv1 hx1 c0
  go_wp2_with fail
  refine (with_any _ (p.take m) wd _ HVP1.out (by rw [HTL.out]; omega)).mono ?_
  rintro e w2 ⟨v2, rfl, hv2, hx2⟩
  rw [HBA.out] at hv2
  have HV2 := Lib.hid (HV1.out.below hx2)
  have HB2 := Lib.hid (bthen HB1.out hx2)
  obtain ⟨bt, ot, ct, ebt, hct, hbt, hHt⟩ : ∃ b o c, v2 = .slice (some ⟨b, o, none⟩) (m + 1) c ∧ m + 1 ≤ c ∧ b < w2.heap.size ∧ Holds eS w2 b o base := by
    rcases hv2 with ⟨_, e⟩ | ⟨b, o, c, h1, h2, h3, h4⟩
    · have := HBL.out; rw [e] at this; simp at this
    · rw [HBL.out] at h1 h2; exact ⟨b, o, c, h1, h2, h3, h4⟩
  subst ebt
  have HHT := Lib.hid hHt
  clear hv2 hx2 hHt HV1 HVP1 HB1
  go_wp2
  go_loopg [10, 12] (n - 1) (fun gk vo vi wr => ∃ k : Nat, Hid (k + gk = n) ∧ 1 ≤ k ∧ k ≤ n ∧ vi = .int .i64 (k : Int) ∧ Hid (VecAt eL wr vo (T.putAll base u (s.take k))) ∧ Below w.heap.size w wr ∧ Below w2.heap.size w2 wr)
  case atStart => exact ⟨1, (by show _ = _; omega), Nat.le_refl _, by omega, rfl, HV2, HB2.out, Below.refl _ _⟩
  case round =>
    obtain ⟨k, HG, hk1, hkn, rfl, HVO, hb1, hb2⟩ := hrel
    have hgk := HG.out
    by_cases hlt : k < n
    · have blt : decide (k < n) = true := decide_eq_true hlt
      have hkl : k < ls.length := by have := HN.out; omega
      have hks : k < s.length := by have := HSN.out; omega
      obtain ⟨q, hq⟩ : ∃ q, T.pathL ls k = q := ⟨_, rfl⟩
      have hq2 := H2.out k (by omega) hkl
      rw [hq] at hq2
      obtain ⟨nq, hnq⟩ : ∃ nq, q.length = nq := ⟨_, rfl⟩
      rw [hnq] at hq2
      obtain ⟨x, hx⟩ : ∃ x, nq - 1 = x := ⟨_, rfl⟩
      have hx1 : 1 ≤ x := by omega
      have hsx := HSK.out k hks
      rw [hq] at hsx
      obtain ⟨mk, hmk⟩ : ∃ mk, (T.at_ ls k).mark = mk := ⟨_, rfl⟩
      rw [hmk] at hsx
      have HQD := Lib.hid (show (q.drop 1).length = x by rw [List.length_drop, hnq]; exact hx)
      obtain ⟨P, hP⟩ : ∃ P, base ++ q.drop 1 = P := ⟨_, rfl⟩
      obtain ⟨y, hy⟩ : ∃ y, m + x = y := ⟨_, rfl⟩
      have hPl : P.length = y + 1 := by rw [← hP, List.length_append, HBL.out, HQD.out]; omega
      obtain ⟨e1, e2⟩ := drop_last_take P y hPl
      have hstep : T.putAll base u (s.take (k + 1)) = T.putL (T.putAll base u (s.take k)) (P.take y) (P.getD y []) mk := by
        rw [T.putAll_next _ _ _ _ hks, hsx]
        unfold T.putStep
        show T.putL _ (base ++ q.drop 1).dropLast ((base ++ q.drop 1).getLastD []) mk = _
        rw [hP, e1, e2]
      have hopk := HOPN.out k hks
      rw [hsx] at hopk
      have hopk2 : T.Open (T.putAll base u (s.take k)) (P.take y) := by rw [e1, ← hP]; exact hopk
      have hrk := (HPT.out k (by omega)).1
      have hPd : P.length ≤ 16 := by
        obtain ⟨z1, z2⟩ := HPT.out (k + 1) (by omega)
        obtain ⟨i2, h3, e3, _⟩ := (T.mem_entries _ _ _).1 ((z2.2 (base ++ s[k].1, s[k].2)).2 (.inr ⟨k, by omega, hks, rfl⟩))
        have := (S.RightN.path_deep z1 h3).2
        rw [e3, hsx] at this
        rw [← hP]; exact this
      have HST2 := Lib.hid hstep
      have HOPK := Lib.hid hopk2
      have HRK := Lib.hid hrk
      have HP := Lib.hid hP
      have HPL := Lib.hid hPl
      have HPY := Lib.hid (show (P.take y).length = y by rw [List.length_take]; omega)
      have HQ := Lib.hid hq
      have HNQ := Lib.hid hnq
      obtain ⟨wl, hwl⟩ : ∃ wl, P.getD y [] = wl := ⟨_, rfl⟩
      have HWL := Lib.hid hwl
      have hPy : P[y]'(by omega) = wl := by rw [← hwl]; unfold List.getD; rw [List.getElem?_eq_getElem (show y < P.length by omega)]; rfl
      have HPG := Lib.hid (show P[y]? = some wl by rw [List.getElem?_eq_getElem (show y < P.length by omega), hPy])
      have c3 := (((HHS.out.below (hb1) hbs).line hkl).2.2)
      rw [hmk] at c3
      have hy16 : y ≤ 15 := by omega
      have hnq1 : (1 : Int) ≤ (nq : Int) := by omega
      have hnq2 : 1 < nq := by omega
      have HHT2 := HHT.out.belowN hb2 hbt
      have HC3 := Lib.hid c3
      have hbsr : bs < wr.heap.size := Nat.lt_of_lt_of_le hbs hb1.size
      have hki : (k : Int) < (n : Int) := by omega
      clear hq hnq hsx hmk hP hPl e1 e2 hstep hopk hopk2 hrk hPd hwl hPy c3
      go_wp2_with (at_builtin; refine wpList_appSrc eS wr rfl (.tmp 37) (.tmp 38) rfl wr.heap.size (.slice none 0 0) [] rfl (Own.nil _ _) bt ot base (m + 1) ct HBL.out rfl HHT2 (by simp; omega) (Nat.le_refl _) ?_; intro v3 w3 hown3 hx3)
      refine (refPathN_is _ cs n k ls _ HN.out ((HHS.out.seen hbs).below (hb1.trans (hx3.mono hb1.size))) (by omega) hkl HLS.out q nq HQ.out HNQ.out).mono ?_
      rintro e w4 ⟨Bq, cq, rfl, hcq, hsq, hx4⟩
      have HO4 := Lib.hid (hown3.keep hx4)
      have HX4 := Lib.hid (bthen hx3 hx4)
      obtain ⟨bq, oq, rfl, hbq, hHq⟩ := hsq (by rw [HNQ.out]; omega)
      have HHQ := Lib.hid hHq
      have hs4 := HX4.out.size
      have hcq1 : (1 : Int) ≤ (cq : Int) := by omega
      have hcq2 : 1 < cq := by omega
      clear hown3 hx3 hx4 hsq hHq
      go_wp2_with (at_builtin; refine wpList_appSrc eS w4 rfl (.tmp 43) (.tmp 45) rfl wr.heap.size v3 ([] ++ base) rfl HO4.out bq (oq + 1) (q.drop 1) x (cq - 1) HQD.out rfl (HHQ.out.drop 1) (by rw [List.nil_append, HBL.out]; omega) hs4 ?_; intro v5 w5 hown5 hx5)
      have HX5 := Lib.hid (HX4.out.trans hx5)
      obtain ⟨Ap, cp, e, hcp, hsp⟩ := (show Own eS w5 wr.heap.size v5 P by rw [← HP.out]; exact hown5).seen
      obtain ⟨g5, o5, rfl, hg5, hH5⟩ := hsp (by rw [HPL.out]; omega)
      have hc5 := hH5.str (show y < P.length by rw [HPL.out]; omega)
      have hPy5 : P[y]'(by rw [HPL.out]; omega) = wl := by have := HPG.out; rw [List.getElem?_eq_getElem (by rw [HPL.out]; omega)] at this; exact Option.some.inj this
      rw [hPy5] at hc5
      rw [HPL.out] at e hcp
      subst e
      have HVP5 := Lib.hid (show VecAt eS w5 (.slice (some ⟨g5, o5, none⟩) y cp) (P.take y) from .inr ⟨g5, o5, cp, by rw [HPY.out], by rw [HPY.out]; omega, hg5, hH5.take y⟩)
      have HVO5 := Lib.hid (HVO.out.below (HX5.out.mono (Nat.le_refl _)))
      have c5 := (HX5.out.cell (p := ⟨bs, os + k * 3 + 2, none⟩) hbsr).trans HC3.out
      have hwy : IntKind.i64.wrap ((y : Int) + 1 - 1) = (y : Int) := by rw [wrapI _ (by omega)]; omega
      have hwy2 : IntKind.i64.wrap (y : Int) = (y : Int) := wrapI _ (by omega)
      have hyc : y ≤ cp := by omega
      have hyci : (y : Int) ≤ (cp : Int) := by omega
      have hyi : (y : Int) < (y : Int) + 1 := by omega
      have hyn : y < y + 1 := by omega
      clear hown5 hx5 hsp hH5 hPy5
      go_wp2
      go_still_tail 17, (by kernel_rfl)
      change wpList _ _ _ _ _ w5.drew
      clear hwy hwy2
      go_wp2_with fail
      refine (put_gen hN _ _ (T.putAll base u (s.take k)) (P.take y) wl mk _ (.inl (HVO5.out.below ((Below.refl _ _).drew))) (HVP5.out.below ((Below.refl _ _).drew)) HRK.out HOPK.out (by rw [HPY.out]; omega)).mono ?_
      rintro e w6 ⟨v6, rfl, hv6, hx6⟩
      have hst2 := HST2.out
      rw [HWL.out] at hst2
      have HV6 := Lib.hid (show VecAt eL w6 v6 (T.putAll base u (s.take (k + 1))) by rw [hst2]; exact hv6)
      have HB6 := Lib.hid ((hb1.trans (HX5.out.mono hb1.size)).drew.trans (hx6.mono (Nat.le_trans hb1.size HX5.out.size)))
      have HB62 := Lib.hid ((hb2.trans (HX5.out.mono hb2.size)).drew.trans (hx6.mono (Nat.le_trans hb2.size HX5.out.size)))
      clear hv6 hx6 hst2
      go_wp2
      go_roundg (n - (k + 1))
      case rel => exact ⟨k + 1, (by show _ = _; omega), by omega, by omega, by go_num, HV6, HB6.out, HB62.out⟩
      case measure => omega
    · have blt : decide (k < n) = false := decide_eq_false hlt
      have hke : k = s.length := by have := HSN.out; omega
      have HVE := Lib.hid (show VecAt eL wr u10 (T.putAll base u s) by have := HVO.out; rw [hke, List.take_length] at this; exact this)
      clear hke
      go_wp2
      go_ret
      exact ⟨u10, rfl, HVE.out, hb1⟩
end Go.Proofs.Ytfjpeonfkhcpfaa
