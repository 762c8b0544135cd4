/-
  Contract of the document's All (layer 2): the tokens of a text, or the first error, are what the plain definitions say; below the heap's size at the call the world is as it was. Condition: strings of at most 2^30 bytes.
-/
import Derived.Test.YtccbdogfapiidaaLexOpen
import Derived.Test.YtccbdogfapiidaaLexRefs
namespace Go.Proofs.Ytccbdogfapiidaa
open Go.RowKit

theorem gap_is (s : ByteArray) (k0 : Nat) (i : Int) (w : World) (hs : s.size ≤ 1073741824) (hk0 : k0 ≤ s.size) (h : gapI k0 (W.gapD (s.data.toList.drop k0)) = i) :
    Calls Try.prog 22 #[.string s, .int .i64 k0] w fun e w' => e = .returned (.int .i64 i) ∧ w = w' := by
  rw [← h]; exact gapR_any s k0 w hs hk0
theorem reading_gap {s : ByteArray} {k m : Nat} {acc : List W.Tok} (hr : W.Reading s k acc) (hg : W.gapD (s.data.toList.drop k) = some m) : W.Reading s (k + m) acc ∧ W.gapO (s.data.toList.drop (k + m)) = some 0 := by
  obtain ⟨h1, h2, h3⟩ := W.gapD_some _ k m hg
  rw [List.length_drop, ← Lib.size_eq] at h1
  rw [List.drop_drop] at h2 h3
  have ha := hr.1
  have hb := hr.2.1
  exact ⟨⟨by omega, by omega, by rw [hr.2.2, h3]⟩, h2⟩
theorem mark_unq {x : List UInt8} (h : W.markK x ≠ 0) : W.unqL x = ([], 2) := by
  unfold W.markK at h
  by_cases h1 : (x == W.inactiveL) = true
  · have : x = W.inactiveL := by simpa using h1
    subst this; decide +kernel
  · rw [if_neg h1] at h
    by_cases h2 : (x == W.protectL) = true
    · have : x = W.protectL := by simpa using h2
      subst this; decide +kernel
    · rw [if_neg h2] at h; exact absurd rfl h
theorem mark_two (s : ByteArray) : (W.markK s.data.toList = 1 ∧ (s.toList == [105, 110, 97, 99, 116, 105, 118, 101, 58]) = true ∧ (s.toList == [112, 114, 111, 116, 101, 99, 116, 58]) = false) ∨
    (W.markK s.data.toList = 2 ∧ (s.toList == [105, 110, 97, 99, 116, 105, 118, 101, 58]) = false ∧ (s.toList == [112, 114, 111, 116, 101, 99, 116, 58]) = true) ∨
    (W.markK s.data.toList = 0 ∧ (s.toList == [105, 110, 97, 99, 116, 105, 118, 101, 58]) = false ∧ (s.toList == [112, 114, 111, 116, 101, 99, 116, 58]) = false) := by
  by_cases h1 : (s.toList == [105, 110, 97, 99, 116, 105, 118, 101, 58]) = true
  · refine .inl ⟨mark_a s h1, h1, ?_⟩
    have : s.toList = [105, 110, 97, 99, 116, 105, 118, 101, 58] := by simpa using h1
    rw [this]; decide
  · have h1' : (s.toList == [105, 110, 97, 99, 116, 105, 118, 101, 58]) = false := by simpa using h1
    by_cases h2 : (s.toList == [112, 114, 111, 116, 101, 99, 116, 58]) = true
    · exact .inr (.inl ⟨mark_b s h1' h2, h1', h2⟩)
    · have h2' : (s.toList == [112, 114, 111, 116, 101, 99, 116, 58]) = false := by simpa using h2
      exact .inr (.inr ⟨mark_c s h1' h2', h1', h2'⟩)

def RelR (s : ByteArray) (w : World) (g : Nat) (v i : Value) (wr : World) : Prop :=
  ∃ (k : Nat) (acc : List W.Tok), i = .int .i64 k ∧ OwnT 48 wr w.heap.size v acc ∧ Below w.heap.size w wr ∧ W.Reading s k acc ∧ k + g = s.size

set_option maxRecDepth 100000 in
set_option maxHeartbeats 4000000 in
theorem refAll_any (s : ByteArray) (w : World) (hs : s.size ≤ 1073741824) :
    Calls Try.prog 12 #[.string s] w (AllS 48 w (W.lexL 0 s.data.toList)) := by
  go_enter Try.func12, Try.ntmps12
  go_wp2
  go_loopg [5, 6] s.size (fun g v i wr => RelR s w g v i wr)
  case atStart => exact ⟨0, [], rfl, OwnT.nil _ _ _, Below.refl _ _, W.Reading.start s, Nat.zero_add _⟩
  case round =>
    obtain ⟨k, acc, rfl, hown, hb, hR, hg⟩ := hrel
    have hks := hR.1
    have HG := Lib.hid hg
    clear hg
    have hsz := hb.size
    cases hgd : W.gapD (s.data.toList.drop k) with
    | none =>
      have HI := Lib.hid (show gapI k (W.gapD (s.data.toList.drop k)) = -1 by rw [hgd]; rfl)
      have HN := Lib.hid hgd
      have HR := Lib.hid hR
      clear hgd hR
      go_wp2_with fail
      refine (gap_is s k (-1) _ hs hks HI.out).mono ?_
      rintro e w' ⟨rfl, rfl⟩
      go_wp2_with fail
      refine (openR_any s k _ hs HN.out).mono ?_
      rintro e w' ⟨n, rfl, hbad, rfl⟩
      have HD := Lib.hid (show W.lexL 0 s.data.toList = .bad n 2 by rw [HR.out.2.2, hbad]; rfl)
      clear hbad
      go_wp2
      go_ret3
      rw [HD.out]
      exact ⟨_, rfl, OwnT.nil _ _ _, hb⟩
    | some m =>
      obtain ⟨hR2, hgo⟩ := reading_gap hR hgd
      have HI := Lib.hid (show gapI k (W.gapD (s.data.toList.drop k)) = ((k + m : Nat) : Int) by rw [hgd]; rfl)
      clear hgd hR
      obtain ⟨n, hn⟩ : ∃ n, k + m = n := ⟨_, rfl⟩
      rw [hn] at hR2 hgo HI
      have hkn : k ≤ n := by omega
      have hns := hR2.1
      have hac := hR2.2.1
      have HR := Lib.hid hR2
      have HO := Lib.hid hgo
      clear hn hR2 hgo
      by_cases hlt : n < s.size
      · have bn : ((n : Int) == (s.size : Int)) = false := by simp; omega
        by_cases hsg : W.signK s[n] ≠ 0
        · have hsc := W.signK_cases s[n]
          have ht := takeD_sign s n hlt hsg
          have HN := Lib.hid (HR.out.tok hlt HO.out ht)
          clear ht
          have hc : (s[n].toNat = 123 ∧ W.signK s[n] = 2) ∨ (s[n].toNat = 125 ∧ W.signK s[n] = 3) ∨ (s[n].toNat = 59 ∧ W.signK s[n] = 4) := by omega
          clear hsc hsg
          rcases hc with ⟨h, hk⟩ | ⟨h, hk⟩ | ⟨h, hk⟩
          · have b123 : ((s[n].toNat : Int) == 123) = true := by simp; omega
            rw [hk] at HN
            clear h hk
            go_wp2_with fail
            refine (gap_is s k (n : Int) _ hs hks HI.out).mono ?_
            rintro e w' ⟨rfl, rfl⟩
            go_wp2_with (at_builtin; refine wpList_appT 27 48 Try.underlying27 tokR_info _ rfl (.tmp 82) (.tmp 84) rfl w.heap.size u5 acc rfl (OwnT.alloc hown _) ⟨2, n, [], 0⟩ 1 _ rfl (wr.heap.size + 1) (by simp) rfl (by omega) (by simp; omega) ?_; intro v2 w2 hown2 hb2)
            go_roundg (s.size - (n + 1))
            case rel => exact ⟨n + 1, acc ++ [⟨2, n, [], 0⟩], by go_num, hown2, (hb.alloc hsz _).trans hb2, HN.out, by omega⟩
            case measure => have := HG.out; omega
          · have b123 : ((s[n].toNat : Int) == 123) = false := by simp; omega
            have b125 : ((s[n].toNat : Int) == 125) = true := by simp; omega
            rw [hk] at HN
            clear h hk
            go_wp2_with fail
            refine (gap_is s k (n : Int) _ hs hks HI.out).mono ?_
            rintro e w' ⟨rfl, rfl⟩
            go_wp2_with (at_builtin; refine wpList_appT 27 48 Try.underlying27 tokR_info _ rfl (.tmp 82) (.tmp 84) rfl w.heap.size u5 acc rfl (OwnT.alloc hown _) ⟨3, n, [], 0⟩ 1 _ rfl (wr.heap.size + 1) (by simp) rfl (by omega) (by simp; omega) ?_; intro v2 w2 hown2 hb2)
            go_roundg (s.size - (n + 1))
            case rel => exact ⟨n + 1, acc ++ [⟨3, n, [], 0⟩], by go_num, hown2, (hb.alloc hsz _).trans hb2, HN.out, by omega⟩
            case measure => have := HG.out; omega
          · have b123 : ((s[n].toNat : Int) == 123) = false := by simp; omega
            have b125 : ((s[n].toNat : Int) == 125) = false := by simp; omega
            have b59 : ((s[n].toNat : Int) == 59) = true := by simp; omega
            rw [hk] at HN
            clear h hk
            go_wp2_with fail
            refine (gap_is s k (n : Int) _ hs hks HI.out).mono ?_
            rintro e w' ⟨rfl, rfl⟩
            go_wp2_with (at_builtin; refine wpList_appT 27 48 Try.underlying27 tokR_info _ rfl (.tmp 82) (.tmp 84) rfl w.heap.size u5 acc rfl (OwnT.alloc hown _) ⟨4, n, [], 0⟩ 1 _ rfl (wr.heap.size + 1) (by simp) rfl (by omega) (by simp; omega) ?_; intro v2 w2 hown2 hb2)
            go_roundg (s.size - (n + 1))
            case rel => exact ⟨n + 1, acc ++ [⟨4, n, [], 0⟩], by go_num, hown2, (hb.alloc hsz _).trans hb2, HN.out, by omega⟩
            case measure => have := HG.out; omega
        · have hsg0 : W.signK s[n] = 0 := by omega
          have hsc := W.signK_cases s[n]
          have b1 : ((s[n].toNat : Int) == 123) = false := by simp; omega
          have b2 : ((s[n].toNat : Int) == 125) = false := by simp; omega
          have b3 : ((s[n].toNat : Int) == 59) = false := by simp; omega
          have HS := Lib.hid hsg0
          clear hsg hsg0 hsc
          cases hsc : W.scanD (s.data.toList.drop n) with
          | none =>
            have HD := Lib.hid (HR.out.bad hlt HO.out (takeD_none s n hlt HS.out hsc))
            have HL := Lib.hid (show W.scanL s.data.toList n = none by rw [scanL_D, hsc]; rfl)
            clear hsc
            go_wp2_with fail
            refine (gap_is s k (n : Int) _ hs hks HI.out).mono ?_
            rintro e w' ⟨rfl, rfl⟩
            go_wp2_with fail
            refine (scanR_is s n none _ (by omega) HL.out).mono ?_
            rintro e w' ⟨rfl, rfl⟩
            simp only [W.optN, Option.isSome]
            go_wp2
            go_ret3
            rw [HD.out]
            exact ⟨_, rfl, OwnT.nil _ _ _, hb.alloc hsz _⟩
          | some q =>
            have hq := W.scanD_le _ _ hsc
            rw [List.length_drop, ← Lib.size_eq] at hq
            obtain ⟨hq1, hq2⟩ := hq
            have HL := Lib.hid (show W.scanL s.data.toList n = some (n + q) by rw [scanL_D, hsc]; simp; omega)
            have HSC := Lib.hid hsc
            have hes : (s.extract n (n + q)).size ≤ 1073741824 := by rw [W.rest_size _ _ _ (by omega)]; omega
            clear hsc
            obtain ⟨x, er, hu⟩ : ∃ x er, W.unqL (s.extract n (n + q)).data.toList = (x, er) := ⟨_, _, rfl⟩
            have HU := Lib.hid hu
            rcases mark_two (s.extract n (n + q)) with ⟨hm, m1, m2⟩ | ⟨hm, m1, m2⟩ | ⟨hm, m1, m2⟩
            · have HN := Lib.hid (HR.out.tok hlt HO.out (takeD_mark s n q hlt HS.out HSC.out hm (by omega)))
              have hun := mark_unq (show W.markK (s.extract n (n + q)).data.toList ≠ 0 by omega)
              rw [HU.out] at hun
              injection hun with h1 h2
              subst h1; subst h2
              clear hm hu
              go_wp2_with fail
              refine (gap_is s k (n : Int) _ hs hks HI.out).mono ?_
              rintro e w' ⟨rfl, rfl⟩
              go_wp2_with fail
              refine (scanR_is s n (some (n + q)) _ (by omega) HL.out).mono ?_
              rintro e w' ⟨rfl, rfl⟩
              simp only [W.optN, Option.isSome]
              go_wp2_with fail
              refine (unqR_is (s.extract n (n + q)) [] 2 _ hes HU.out).mono ?_
              rintro e w1 ⟨rfl, hb1⟩
              have c0 := blk_cell hb1 0
              have c1 := blk_cell hb1 1
              have c2 := blk_cell hb1 2
              have c3 := blk_cell hb1 3
              have f0 := blk_free hb1 0
              have f1 := blk_free hb1 1
              have f2 := blk_free hb1 2
              have f3 := blk_free hb1 3
              simp only [List.getElem?_toArray, List.getElem?_cons_zero, List.getElem?_cons_succ] at c0 c1 c2 c3
              have hb1' : Below wr.heap.size wr w1 := ((Below.refl _ _).alloc (Nat.le_refl _) _).trans (hb1.mono (by simp))
              have hs1 := hb1'.size
              go_wp2_with (at_builtin; refine wpList_appT 27 48 Try.underlying27 tokR_info _ rfl (.tmp 82) (.tmp 84) rfl w.heap.size u5 acc rfl (own_keep hown ((((hb1'.setCell (Nat.le_refl _) _).setCell (Nat.le_refl _) _).setCell (Nat.le_refl _) _).setCell (Nat.le_refl _) _)) ⟨5, n, [], 1⟩ 1 _ rfl w1.heap.size (by simp) rfl (by omega) (by simp; omega) ?_; intro v2 w2 hown2 hb2)
              go_roundg (s.size - (n + q))
              case rel => exact ⟨n + q, acc ++ [⟨5, n, [], 1⟩], by go_num, hown2, ((hb.trans (((((hb1'.setCell (Nat.le_refl _) _).setCell (Nat.le_refl _) _).setCell (Nat.le_refl _) _).setCell (Nat.le_refl _) _).mono hsz)).trans hb2), HN.out, by omega⟩
              case measure => have := HG.out; omega
            · have HN := Lib.hid (HR.out.tok hlt HO.out (takeD_mark s n q hlt HS.out HSC.out hm (by omega)))
              have hun := mark_unq (show W.markK (s.extract n (n + q)).data.toList ≠ 0 by omega)
              rw [HU.out] at hun
              injection hun with h1 h2
              subst h1; subst h2
              clear hm hu
              go_wp2_with fail
              refine (gap_is s k (n : Int) _ hs hks HI.out).mono ?_
              rintro e w' ⟨rfl, rfl⟩
              go_wp2_with fail
              refine (scanR_is s n (some (n + q)) _ (by omega) HL.out).mono ?_
              rintro e w' ⟨rfl, rfl⟩
              simp only [W.optN, Option.isSome]
              go_wp2_with fail
              refine (unqR_is (s.extract n (n + q)) [] 2 _ hes HU.out).mono ?_
              rintro e w1 ⟨rfl, hb1⟩
              have c0 := blk_cell hb1 0
              have c1 := blk_cell hb1 1
              have c2 := blk_cell hb1 2
              have c3 := blk_cell hb1 3
              have f0 := blk_free hb1 0
              have f1 := blk_free hb1 1
              have f2 := blk_free hb1 2
              have f3 := blk_free hb1 3
              simp only [List.getElem?_toArray, List.getElem?_cons_zero, List.getElem?_cons_succ] at c0 c1 c2 c3
              have hb1' : Below wr.heap.size wr w1 := ((Below.refl _ _).alloc (Nat.le_refl _) _).trans (hb1.mono (by simp))
              have hs1 := hb1'.size
              go_wp2_with (at_builtin; refine wpList_appT 27 48 Try.underlying27 tokR_info _ rfl (.tmp 82) (.tmp 84) rfl w.heap.size u5 acc rfl (own_keep hown ((((hb1'.setCell (Nat.le_refl _) _).setCell (Nat.le_refl _) _).setCell (Nat.le_refl _) _).setCell (Nat.le_refl _) _)) ⟨5, n, [], 2⟩ 1 _ rfl w1.heap.size (by simp) rfl (by omega) (by simp; omega) ?_; intro v2 w2 hown2 hb2)
              go_roundg (s.size - (n + q))
              case rel => exact ⟨n + q, acc ++ [⟨5, n, [], 2⟩], by go_num, hown2, ((hb.trans (((((hb1'.setCell (Nat.le_refl _) _).setCell (Nat.le_refl _) _).setCell (Nat.le_refl _) _).setCell (Nat.le_refl _) _).mono hsz)).trans hb2), HN.out, by omega⟩
              case measure => have := HG.out; omega
            · by_cases her : er ≠ 0
              · have HD := Lib.hid (HR.out.bad hlt HO.out (takeD_err s n q hlt HS.out HSC.out hm hu her))
                have ber : (er != 0) = true := bne_iff_ne.2 her
                clear hm hu her
                go_wp2_with fail
                refine (gap_is s k (n : Int) _ hs hks HI.out).mono ?_
                rintro e w' ⟨rfl, rfl⟩
                go_wp2_with fail
                refine (scanR_is s n (some (n + q)) _ (by omega) HL.out).mono ?_
                rintro e w' ⟨rfl, rfl⟩
                simp only [W.optN, Option.isSome]
                go_wp2_with fail
                refine (unqR_is (s.extract n (n + q)) x er _ hes HU.out).mono ?_
                rintro e w1 ⟨rfl, hb1⟩
                have c0 := blk_cell hb1 0
                have c1 := blk_cell hb1 1
                have c2 := blk_cell hb1 2
                have c3 := blk_cell hb1 3
                have f0 := blk_free hb1 0
                have f1 := blk_free hb1 1
                have f2 := blk_free hb1 2
                have f3 := blk_free hb1 3
                simp only [List.getElem?_toArray, List.getElem?_cons_zero, List.getElem?_cons_succ] at c0 c1 c2 c3
                have hb1' : Below wr.heap.size wr w1 := ((Below.refl _ _).alloc (Nat.le_refl _) _).trans (hb1.mono (by simp))
                have hs1 := hb1'.size
                go_wp2
                go_ret3
                rw [HD.out]
                exact ⟨_, rfl, OwnT.nil _ _ _, hb.trans ((((hb1'.setCell (Nat.le_refl _) _)).setCell (Nat.le_refl _) _).mono hsz)⟩
              · obtain rfl : er = 0 := by omega
                have HN := Lib.hid (HR.out.tok hlt HO.out (takeD_name s n q hlt HS.out HSC.out hm hu))
                clear hm hu her
                go_wp2_with fail
                refine (gap_is s k (n : Int) _ hs hks HI.out).mono ?_
                rintro e w' ⟨rfl, rfl⟩
                go_wp2_with fail
                refine (scanR_is s n (some (n + q)) _ (by omega) HL.out).mono ?_
                rintro e w' ⟨rfl, rfl⟩
                simp only [W.optN, Option.isSome]
                go_wp2_with fail
                refine (unqR_is (s.extract n (n + q)) x 0 _ hes HU.out).mono ?_
                rintro e w1 ⟨rfl, hb1⟩
                have c0 := blk_cell hb1 0
                have c1 := blk_cell hb1 1
                have c2 := blk_cell hb1 2
                have c3 := blk_cell hb1 3
                have f0 := blk_free hb1 0
                have f1 := blk_free hb1 1
                have f2 := blk_free hb1 2
                have f3 := blk_free hb1 3
                simp only [List.getElem?_toArray, List.getElem?_cons_zero, List.getElem?_cons_succ] at c0 c1 c2 c3
                have hb1' : Below wr.heap.size wr w1 := ((Below.refl _ _).alloc (Nat.le_refl _) _).trans (hb1.mono (by simp))
                have hs1 := hb1'.size
                go_wp2_with (at_builtin; refine wpList_appT 27 48 Try.underlying27 tokR_info _ rfl (.tmp 82) (.tmp 84) rfl w.heap.size u5 acc rfl (own_keep hown ((hb1'.setCell (Nat.le_refl _) _).setCell (Nat.le_refl _) _)) ⟨1, n, x, 0⟩ 1 _ rfl w1.heap.size (by simp) rfl (by omega) (by simp; omega) ?_; intro v2 w2 hown2 hb2)
                go_roundg (s.size - (n + q))
                case rel => exact ⟨n + q, acc ++ [⟨1, n, x, 0⟩], by go_num, hown2, ((hb.trans (((hb1'.setCell (Nat.le_refl _) _).setCell (Nat.le_refl _) _).mono hsz)).trans hb2), HN.out, by omega⟩
                case measure => have := HG.out; omega
      · obtain rfl : n = s.size := by omega
        have HD := Lib.hid (HR.out.done (Nat.le_refl _))
        go_wp2_with fail
        refine (gap_is s k (s.size : Int) _ hs hks HI.out).mono ?_
        rintro e w' ⟨rfl, rfl⟩
        go_wp2
        go_ret3
        rw [HD.out]
        exact ⟨_, rfl, hown, hb⟩
end Go.Proofs.Ytccbdogfapiidaa
