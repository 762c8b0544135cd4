/-
  Contracts of the document's without and Set (layer 7). Condition: a tree; at most 2^30 words.
-/
import Derived.Test.YtfjpeonfkhcpfaaEditR
namespace Go.Proofs.Ytfjpeonfkhcpfaa
open Go.RowKit
set_option linter.unusedVariables false

theorem cutL_is (t : List T.Ln) (a e : Nat) (h : T.endL t a = e) : [] ++ t.take a ++ t.drop e = T.cutL t a := by rw [← h]; simp [T.cutL]
set_option maxRecDepth 100000 in
set_option maxHeartbeats 2000000 in
theorem refWithout_any (b o c a : Nat) (t : List T.Ln) (w : World) (hb : b < w.heap.size) (hH : Holds eL w b o t) (hc : t.length ≤ c) (hl : t.length ≤ 1073741824) (ha : a < t.length) :
    Calls Try.prog 49 #[.slice (some ⟨b, o, none⟩) t.length c, .int .i64 (a : Int)] w (VecS eL w (T.cutL t a)) := by
  obtain ⟨e0, he⟩ : ∃ e, T.endL t a = e := ⟨_, rfl⟩
  obtain ⟨g1, g2, _⟩ := T.end_spec t a ha
  rw [he] at g1 g2
  have HE := Lib.hid he
  have HC := Lib.hid (cutL_is t a e0 he)
  have HS := Lib.hid (hH.seen hb)
  have HH := Lib.hid hH
  have HTK := Lib.hid (show (t.take a).length = a by rw [List.length_take]; omega)
  have HDR := Lib.hid (show (t.drop e0).length = t.length - e0 by rw [List.length_drop])
  have hai : (a : Int) ≤ (c : Int) := by omega
  have hei : (e0 : Int) ≤ (t.length : Int) := by omega
  have hac : a ≤ c := by omega
  clear he hH
  rcases Nat.lt_or_ge e0 c with hec | hec
  · go_enter Try.func49, Try.ntmps49
    go_wp2_with (at_builtin; refine wpList_appSrc eL w rfl (.tmp 6) (.tmp 9) rfl w.heap.size (.slice none 0 0) [] rfl (Own.nil _ _) b o (t.take a) a c HTK.out rfl (HH.out.take a) (by simp; omega) (Nat.le_refl _) ?_; intro v3 w3 hown3 hx3; have hs3 := hx3.size)
    refine (refEndE_is (some ⟨b, o, none⟩) c t a e0 _ (HS.out.below hx3) hl ha HE.out).mono ?_
    rintro e w4 ⟨rfl, hx4⟩
    have HO4 := Lib.hid (hown3.keep hx4)
    have HB4 := Lib.hid (bthen hx3 hx4)
    have hs4 := HB4.out.size
    clear hown3 hx3 hx4
    go_wp2_with (at_builtin; refine wpList_appSrc eL w4 rfl (.tmp 11) (.tmp 16) rfl w.heap.size v3 ([] ++ t.take a) rfl HO4.out b (o + e0 * 3) (t.drop e0) (t.length - e0) (c - e0) HDR.out rfl ((HH.out.belowN HB4.out hb).drop e0) (by rw [List.nil_append, HTK.out]; omega) hs4 ?_; intro v5 w5 hown5 hx5)
    go_ret
    rw [HC.out] at hown5
    exact ⟨v5, rfl, VecAt.own hown5, HB4.out.trans hx5⟩
  · have e1 : e0 = t.length := by omega
    have e2 : c = t.length := by omega
    subst e1
    subst e2
    go_enter Try.func49, Try.ntmps49
    go_wp2_with (at_builtin; refine wpList_appSrc eL w rfl (.tmp 6) (.tmp 9) rfl w.heap.size (.slice none 0 0) [] rfl (Own.nil _ _) b o (t.take a) a t.length HTK.out rfl (HH.out.take a) (by simp; omega) (Nat.le_refl _) ?_; intro v3 w3 hown3 hx3; have hs3 := hx3.size)
    refine (refEndE_is (some ⟨b, o, none⟩) t.length t a t.length _ (HS.out.below hx3) hl ha HE.out).mono ?_
    rintro e w4 ⟨rfl, hx4⟩
    have HO4 := Lib.hid (hown3.keep hx4)
    have HB4 := Lib.hid (bthen hx3 hx4)
    have hs4 := HB4.out.size
    clear hown3 hx3 hx4
    go_wp2_with (at_builtin; refine wpList_appSeen eL w4 rfl (.tmp 11) (.tmp 16) rfl w.heap.size v3 ([] ++ t.take a) rfl HO4.out _ (t.drop t.length) 0 0 (by simp) rfl (by rw [List.drop_length]; exact Seen.nil) (by rw [List.nil_append, HTK.out]; omega) hs4 ?_; intro v5 w5 hown5 hx5)
    go_ret
    rw [HC.out] at hown5
    exact ⟨v5, rfl, VecAt.own hown5, HB4.out.trans hx5⟩

/-- What Set makes of lines and a path. -/
def SetIs (t : List T.Ln) (p : T.Pth) (v : List T.Ln) (er : Int) : Prop :=
  (v = t ∧ er ≠ 0 ∧ AddIs t p t er) ∨ (AddIs t p (T.addL t p) 0 ∧ ((T.keptL t p p.length = true ∧ v = t ∧ er = 12) ∨ (T.keptL t p p.length = false ∧ v = T.addL t p ∧ er = 0)))
theorem set_is (t : List T.Ln) (p : T.Pth) : ∃ v er, SetIs t p v er := by
  obtain ⟨u, er, h⟩ := add_is t p
  by_cases h0 : er = 0
  · subst h0
    have hu := h.zero.2.2.2.2.2.1
    rw [hu] at h
    cases hk : T.keptL t p p.length with
    | true => exact ⟨t, 12, .inr ⟨h, .inl ⟨hk, rfl, rfl⟩⟩⟩
    | false => exact ⟨_, 0, .inr ⟨h, .inr ⟨hk, rfl, rfl⟩⟩⟩
  · have hu := h.err h0
    subst hu
    exact ⟨u, er, .inl ⟨rfl, h0, h⟩⟩
set_option maxRecDepth 100000 in
set_option maxHeartbeats 2000000 in
theorem refSet_any (A B : Option Addr) (c d : Nat) (t v : List T.Ln) (p : T.Pth) (er : Int) (w : World) (hA : Seen eL w A t) (hB : Seen eS w B p) (hc : NilOk A c) (htc : t.length ≤ c) (hd : p.length ≤ d) (hl : t.length ≤ 1073741824) (hp : p.length ≤ 1073741824) (h : SetIs t p v er) :
    Calls Try.prog 31 #[.slice A t.length c, .slice B p.length d] w (RefAddS w v er) := by
  have HA := Lib.hid hA
  have HB := Lib.hid hB
  have HC := Lib.hid hc
  clear hA hB hc
  rcases h with ⟨rfl, h0, hadd⟩ | ⟨hadd, ⟨hk, rfl, rfl⟩ | ⟨hk, rfl, rfl⟩⟩
  · have b0 : (er != 0) = true := bne_iff_ne.2 h0
    have HAD := Lib.hid hadd
    clear hadd h0
    go_enter Try.func31, Try.ntmps31
    go_wp2_with fail
    refine (ref_add A B c d v.length p.length v v p er _ rfl rfl HA.out HB.out HC.out htc hd hl hp HAD.out).mono ?_
    rintro e w1 ⟨A1, c1, rfl, _, hx⟩
    go_wp2
    go_ret2
    exact ⟨A, c, rfl, HA.out.below hx, hx⟩
  · have hz := hadd.zero
    have HR := Lib.hid hz.2.2.1
    have HAD := Lib.hid hadd
    have HK := Lib.hid hk
    clear hadd hz hk
    go_enter Try.func31, Try.ntmps31
    go_wp2_with fail
    refine (ref_add A B c d v.length p.length v _ p 0 _ rfl rfl HA.out HB.out HC.out htc hd hl hp HAD.out).mono ?_
    rintro e w1 ⟨A1, c1, rfl, _, hx⟩
    go_wp2_with fail
    refine (refKept_any A B c d p.length p.length v p _ rfl (HA.out.below hx) (HB.out.below hx) hl (Nat.le_refl _) hd hp HR.out).mono ?_
    rintro e w2 ⟨rfl, hx2⟩
    rw [HK.out]
    have hbn := bthen hx hx2
    clear hx hx2
    go_wp2
    go_ret2
    exact ⟨A, c, rfl, HA.out.below hbn, hbn⟩
  · have hz := hadd.zero
    have HR := Lib.hid hz.2.2.1
    have HAD := Lib.hid hadd
    have HK := Lib.hid hk
    clear hadd hz hk
    go_enter Try.func31, Try.ntmps31
    go_wp2_with fail
    refine (ref_add A B c d t.length p.length t _ p 0 _ rfl rfl HA.out HB.out HC.out htc hd hl hp HAD.out).mono ?_
    rintro e w1 ⟨A1, c1, rfl, hs1, hx⟩
    have HS1 := Lib.hid hs1
    clear hs1
    go_wp2_with fail
    refine (refKept_any A B c d p.length p.length t p _ rfl (HA.out.below hx) (HB.out.below hx) hl (Nat.le_refl _) hd hp HR.out).mono ?_
    rintro e w2 ⟨rfl, hx2⟩
    rw [HK.out]
    have HS2 := Lib.hid (HS1.out.below hx2)
    have hbn := bthen hx hx2
    clear hx hx2
    go_wp2
    go_ret2
    exact ⟨A1, c1, rfl, HS2.out, hbn⟩
end Go.Proofs.Ytfjpeonfkhcpfaa
