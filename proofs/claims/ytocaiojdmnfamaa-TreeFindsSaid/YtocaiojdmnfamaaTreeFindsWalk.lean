/-
  The walk of layer 3's statement TreeFinds: it returns true whatever the lines and the path are. No conditions.
-/
import Derived.Test.YtocaiojdmnfamaaTreeHead
namespace Go.Proofs.Ytocaiojdmnfamaa
open Go.RowKit

theorem refFind_some (A B : Option Addr) (c cd : Nat) (t : List T.Ln) (i : Nat) (p : List (List UInt8)) (w : World) (hA : Seen eL w A t) (hB : Seen eS w B p) (hl : t.length ≤ 1073741824) (hp : p.length ≤ 1073741824) (hR : T.RightT t) (hi : i < t.length) (h : T.pathL t i = p) :
    Calls Try.prog 28 #[.slice A t.length c, .slice B p.length cd] w (IntS w (i : Int)) :=
  (refFind_any A B c cd t p w hA hB hl hp hR).mono fun e w' ⟨he, hb⟩ => by
    rcases he with ⟨k, hk, hkp, rfl⟩ | ⟨hno, _⟩
    · rw [hR.path_inj (max k i) k i (Nat.le_max_left ..) (Nat.le_max_right ..) hk hi (by rw [hkp, h])]
      exact ⟨rfl, hb⟩
    · exact absurd h (hno i hi)
theorem refFind_not (A B : Option Addr) (c cd : Nat) (t : List T.Ln) (p : List (List UInt8)) (w : World) (hA : Seen eL w A t) (hB : Seen eS w B p) (hl : t.length ≤ 1073741824) (hp : p.length ≤ 1073741824) (hR : T.RightT t) (h : ∀ i, i < t.length → T.pathL t i ≠ p) :
    Calls Try.prog 28 #[.slice A t.length c, .slice B p.length cd] w (IntS w (-1)) :=
  (refFind_any A B c cd t p w hA hB hl hp hR).mono fun e w' ⟨he, hb⟩ => by
    rcases he with ⟨k, hk, hkp, rfl⟩ | ⟨_, he⟩
    · exact absurd hkp (h k hk)
    · exact ⟨he, hb⟩
set_option maxRecDepth 100000 in
set_option maxHeartbeats 1000000 in
theorem treeFinds_walk (w : World) (A : Option Addr) (c : Nat) (t : List T.Ln) (_hc : t.length ≤ c) (hA : Seen eL w A t) (hl : t.length ≤ maxLen)
    (B : Option Addr) (n cd : Nat) (xs : List ByteArray) (g1 : HoldsS w B n xs) (gn1 : n ≤ maxLen) (_gs1 : ∀ x ∈ xs, x.size ≤ maxLen) :
    Calls Try.prog 4 #[.slice A t.length c, .slice B n cd] w (TrueS w) := by
  obtain ⟨p, rfl, hB⟩ := seen_strs g1
  unfold maxLen at hl gn1
  have HA := Lib.hid hA
  have HB := Lib.hid hB
  clear hA hB g1
  have hb : Below w.heap.size w w := Below.refl _ _
  go_enter Try.func4, Try.ntmps4
  go_wp2_with fail
  refine (small_is A c t _ (HA.out.below hb)).mono ?_
  rintro e wx1 ⟨bs, rfl, hsm, hx⟩
  replace hb := bthen hb hx
  clear hx
  cases bs with
  | false =>
    clear hsm
    go_wp2_with fail
    refine (awake_any _).mono ?_
    rintro e wz ⟨rfl, hx⟩
    go_wp2
    go_ret
    exact ⟨rfl, bthen hb hx⟩
  | true =>
    replace hsm := hsm rfl
    have hll : t.length ≤ 1073741824 := by omega
    go_wp2_with fail
    refine (short_any B cd p _ (HB.out.below hb)).mono ?_
    rintro e wx2 ⟨bs, rfl, hsp, hx⟩
    replace hb := bthen hb hx
    clear hx
    cases bs with
    | false =>
      clear hsp
      go_wp2_with fail
      refine (awake_any _).mono ?_
      rintro e wz ⟨rfl, hx⟩
      go_wp2
      go_ret
      exact ⟨rfl, bthen hb hx⟩
    | true =>
      replace hsp := hsp rfl
      have hpl : p.length ≤ 1073741824 := by omega
      by_cases hR : T.RightT t
      · have HR := Lib.hid hR
        clear hR
        go_wp2_with fail
        refine (rightR_is A c t true _ (HA.out.below hb) hll (yes_iff HR.out)).mono ?_
        rintro e wx3 ⟨rfl, hx⟩
        replace hb := bthen hb hx
        clear hx
        by_cases hex : ∃ i, i < t.length ∧ T.pathL t i = p
        · obtain ⟨i, hi, hip⟩ := hex
          have HI := Lib.hid hip
          clear hip
          have bi : decide ((0 : Int) ≤ (i : Int)) = true := decide_eq_true (by omega)
          have hmax : max (i : Int) 0 = (i : Int) := by omega
          go_wp2_with fail
          refine (find_some A B c cd t i p _ (HA.out.below hb) (HB.out.below hb) hll hpl HR.out hi HI.out).mono ?_
          rintro e wx4 ⟨rfl, hx⟩
          replace hb := bthen hb hx
          clear hx
          go_wp2_with fail
          refine (refFind_some A B c cd t i p _ (HA.out.below hb) (HB.out.below hb) hll hpl HR.out hi HI.out).mono ?_
          rintro e wx5 ⟨rfl, hx⟩
          replace hb := bthen hb hx
          clear hx
          go_wp2
          go_loopg [9, 44] t.length (fun g v x wr => ∃ k : Nat, Hid (k + g = t.length) ∧ k ≤ t.length ∧ x = .int .i64 k ∧ Own eI wr w.heap.size v (T.leavesTo t k) ∧ Below w.heap.size w wr)
          case atStart => exact ⟨0, Nat.zero_add _, Nat.zero_le _, rfl, Own.nil _ _, hb⟩
          case round =>
            clear hb
            obtain ⟨k, HG, hk, rfl, hown, hb⟩ := hrel
            have HO := Lib.hid hown
            have hfl := T.filter_len k (T.leafB t)
            have hsz := hb.size
            clear hown
            by_cases hlt : k < t.length
            · obtain ⟨e, he⟩ : ∃ e, T.endL t k = e := ⟨_, rfl⟩
              have hspec := T.end_spec t k hlt
              rw [he] at hspec
              by_cases hleaf : e = k + 1
              · have HN := Lib.hid (show T.leavesTo t (k + 1) = T.leavesTo t k ++ [k] by rw [T.leaves_next, if_pos (by unfold T.leafB; rw [he, hleaf]; simp)])
                have HE := Lib.hid he
                subst hleaf
                clear he hspec
                go_wp2_with fail
                refine (refEnd_any A c t k _ (HA.out.below hb) hlt hll).mono ?_
                rintro x w2 ⟨rfl, hb2⟩
                rw [HE.out]
                have hown2 := HO.out.keep hb2
                have hs2 := hb2.size
                go_wp2_with (at_builtin; refine wpList_appG eI _ rfl (.tmp 56) (.tmp 58) rfl w.heap.size u9 (T.leavesTo t k) rfl hown2 k 1 _ rfl w2.heap.size rfl rfl (by unfold T.leavesTo; omega) (by omega) ?_; intro v2 w3 hown3 hb3)
                go_roundg (t.length - (k + 1))
                case rel => exact ⟨k + 1, (by show _ = _; omega), by omega, by go_num, by rw [HN.out]; exact hown3, (hb.trans (hb2.mono hsz)).trans hb3⟩
                case measure => have := HG.out; omega
              · have HN := Lib.hid (show T.leavesTo t (k + 1) = T.leavesTo t k by rw [T.leaves_next, if_neg (by unfold T.leafB; rw [he]; simpa using hleaf), List.append_nil])
                have HE := Lib.hid he
                have be : ((e : Int) == (k : Int) + 1) = false := beq_eq_false_iff_ne.2 (by omega)
                clear he hspec hleaf
                go_wp2_with fail
                refine (refEnd_any A c t k _ (HA.out.below hb) hlt hll).mono ?_
                rintro x w2 ⟨rfl, hb2⟩
                rw [HE.out]
                go_wp2
                go_roundg (t.length - (k + 1))
                case rel => exact ⟨k + 1, (by show _ = _; omega), by omega, by go_num, by rw [HN.out]; exact HO.out.keep hb2, hb.trans (hb2.mono hsz)⟩
                case measure => have := HG.out; omega
            · obtain rfl : k = t.length := by omega
              obtain ⟨A2, cap, rfl, hcap, hseen⟩ := HO.out.seen
              have hLe : T.leavesTo t t.length = T.leavesL t := rfl
              obtain ⟨LL, hLL⟩ : ∃ LL, T.leavesL t = LL := ⟨_, rfl⟩
              rw [hLe, hLL] at hseen ⊢
              have hLn : LL.length ≤ 1073741824 := by rw [← hLL]; exact Nat.le_trans (T.filter_len _ _) hll
              have HLL := Lib.hid hLL
              have HLn := Lib.hid hLn
              have HS := Lib.hid hseen
              clear hLL hLe hLn hseen hcap HO hfl
              go_wp2_with fail
              refine (leaves_is A c t LL _ (HA.out.below hb) hll HR.out HLL.out).mono ?_
              rintro e wx6 ⟨B6, cap6, rfl, hcap6, hseen, hx⟩
              replace HS := Lib.hid (HS.out.below hx)
              have HS2 := Lib.hid hseen
              clear hseen
              replace hb := bthen hb hx
              clear hx
              go_wp2_with fail
              refine (ints_yes _ _ _ _ LL _ HLn.out HS2.out HS.out).mono ?_
              rintro e wx7 ⟨rfl, hx⟩
              replace HS := Lib.hid (HS.out.below hx)
              replace HS2 := Lib.hid (HS2.out.below hx)
              replace hb := bthen hb hx
              clear hx
              go_wp2_with fail
              refine (awake_any _).mono ?_
              rintro e wz ⟨rfl, hx⟩
              go_wp2
              go_ret
              exact ⟨rfl, bthen hb hx⟩
        · have HX := Lib.hid (show ∀ i, i < t.length → T.pathL t i ≠ p from fun i h1 h2 => hex ⟨i, h1, h2⟩)
          clear hex
          go_wp2_with fail
          refine (find_not A B c cd t p _ (HA.out.below hb) (HB.out.below hb) hll hpl HR.out HX.out).mono ?_
          rintro e wx4 ⟨rfl, hx⟩
          replace hb := bthen hb hx
          clear hx
          go_wp2_with fail
          refine (refFind_not A B c cd t p _ (HA.out.below hb) (HB.out.below hb) hll hpl HR.out HX.out).mono ?_
          rintro e wx5 ⟨rfl, hx⟩
          replace hb := bthen hb hx
          clear hx
          go_wp2
          go_loopg [9, 44] t.length (fun g v x wr => ∃ k : Nat, Hid (k + g = t.length) ∧ k ≤ t.length ∧ x = .int .i64 k ∧ Own eI wr w.heap.size v (T.leavesTo t k) ∧ Below w.heap.size w wr)
          case atStart => exact ⟨0, Nat.zero_add _, Nat.zero_le _, rfl, Own.nil _ _, hb⟩
          case round =>
            clear hb
            obtain ⟨k, HG, hk, rfl, hown, hb⟩ := hrel
            have HO := Lib.hid hown
            have hfl := T.filter_len k (T.leafB t)
            have hsz := hb.size
            clear hown
            by_cases hlt : k < t.length
            · obtain ⟨e, he⟩ : ∃ e, T.endL t k = e := ⟨_, rfl⟩
              have hspec := T.end_spec t k hlt
              rw [he] at hspec
              by_cases hleaf : e = k + 1
              · have HN := Lib.hid (show T.leavesTo t (k + 1) = T.leavesTo t k ++ [k] by rw [T.leaves_next, if_pos (by unfold T.leafB; rw [he, hleaf]; simp)])
                have HE := Lib.hid he
                subst hleaf
                clear he hspec
                go_wp2_with fail
                refine (refEnd_any A c t k _ (HA.out.below hb) hlt hll).mono ?_
                rintro x w2 ⟨rfl, hb2⟩
                rw [HE.out]
                have hown2 := HO.out.keep hb2
                have hs2 := hb2.size
                go_wp2_with (at_builtin; refine wpList_appG eI _ rfl (.tmp 56) (.tmp 58) rfl w.heap.size u9 (T.leavesTo t k) rfl hown2 k 1 _ rfl w2.heap.size rfl rfl (by unfold T.leavesTo; omega) (by omega) ?_; intro v2 w3 hown3 hb3)
                go_roundg (t.length - (k + 1))
                case rel => exact ⟨k + 1, (by show _ = _; omega), by omega, by go_num, by rw [HN.out]; exact hown3, (hb.trans (hb2.mono hsz)).trans hb3⟩
                case measure => have := HG.out; omega
              · have HN := Lib.hid (show T.leavesTo t (k + 1) = T.leavesTo t k by rw [T.leaves_next, if_neg (by unfold T.leafB; rw [he]; simpa using hleaf), List.append_nil])
                have HE := Lib.hid he
                have be : ((e : Int) == (k : Int) + 1) = false := beq_eq_false_iff_ne.2 (by omega)
                clear he hspec hleaf
                go_wp2_with fail
                refine (refEnd_any A c t k _ (HA.out.below hb) hlt hll).mono ?_
                rintro x w2 ⟨rfl, hb2⟩
                rw [HE.out]
                go_wp2
                go_roundg (t.length - (k + 1))
                case rel => exact ⟨k + 1, (by show _ = _; omega), by omega, by go_num, by rw [HN.out]; exact HO.out.keep hb2, hb.trans (hb2.mono hsz)⟩
                case measure => have := HG.out; omega
            · obtain rfl : k = t.length := by omega
              obtain ⟨A2, cap, rfl, hcap, hseen⟩ := HO.out.seen
              have hLe : T.leavesTo t t.length = T.leavesL t := rfl
              obtain ⟨LL, hLL⟩ : ∃ LL, T.leavesL t = LL := ⟨_, rfl⟩
              rw [hLe, hLL] at hseen ⊢
              have hLn : LL.length ≤ 1073741824 := by rw [← hLL]; exact Nat.le_trans (T.filter_len _ _) hll
              have HLL := Lib.hid hLL
              have HLn := Lib.hid hLn
              have HS := Lib.hid hseen
              clear hLL hLe hLn hseen hcap HO hfl
              go_wp2_with fail
              refine (leaves_is A c t LL _ (HA.out.below hb) hll HR.out HLL.out).mono ?_
              rintro e wx6 ⟨B6, cap6, rfl, hcap6, hseen, hx⟩
              replace HS := Lib.hid (HS.out.below hx)
              have HS2 := Lib.hid hseen
              clear hseen
              replace hb := bthen hb hx
              clear hx
              go_wp2_with fail
              refine (ints_yes _ _ _ _ LL _ HLn.out HS2.out HS.out).mono ?_
              rintro e wx7 ⟨rfl, hx⟩
              replace HS := Lib.hid (HS.out.below hx)
              replace HS2 := Lib.hid (HS2.out.below hx)
              replace hb := bthen hb hx
              clear hx
              go_wp2_with fail
              refine (awake_any _).mono ?_
              rintro e wz ⟨rfl, hx⟩
              go_wp2
              go_ret
              exact ⟨rfl, bthen hb hx⟩
      · have HR := Lib.hid hR
        clear hR
        go_wp2_with fail
        refine (rightR_is A c t false _ (HA.out.below hb) hll (no_iff HR.out)).mono ?_
        rintro e wx3 ⟨rfl, hx⟩
        replace hb := bthen hb hx
        clear hx
        go_wp2_with fail
        refine (find_wrong A B c cd t p.length _ (HA.out.below hb) hll HR.out).mono ?_
        rintro e wx4 ⟨rfl, hx⟩
        replace hb := bthen hb hx
        clear hx
        go_wp2
        go_loopg [9, 44] t.length (fun g v x wr => ∃ k : Nat, Hid (k + g = t.length) ∧ k ≤ t.length ∧ x = .int .i64 k ∧ v = .slice none 0 0 ∧ Below w.heap.size w wr)
        case atStart => exact ⟨0, Nat.zero_add _, Nat.zero_le _, rfl, rfl, hb⟩
        case round =>
          clear hb
          obtain ⟨k, HG, hk, rfl, rfl, hb⟩ := hrel
          by_cases hlt : k < t.length
          · go_wp2
            go_roundg (t.length - (k + 1))
            case rel => exact ⟨k + 1, (by show _ = _; omega), by omega, by go_num, rfl, hb⟩
            case measure => have := HG.out; omega
          · obtain rfl : k = t.length := by omega
            go_wp2_with fail
            refine (leaves_no A c t _ (HA.out.below hb) hll HR.out).mono ?_
            rintro e wx5 ⟨B5, cap5, rfl, hcap5, hseen, hx⟩
            have HS2 := Lib.hid hseen
            clear hseen
            replace hb := bthen hb hx
            clear hx
            go_wp2_with fail
            refine (ints_yes _ none _ 0 [] _ (by simp) HS2.out Seen.nil).mono ?_
            rintro e wx6 ⟨rfl, hx⟩
            replace HS2 := Lib.hid (HS2.out.below hx)
            replace hb := bthen hb hx
            clear hx
            go_wp2_with fail
            refine (awake_any _).mono ?_
            rintro e wz ⟨rfl, hx⟩
            go_wp2
            go_ret
            exact ⟨rfl, bthen hb hx⟩
end Go.Proofs.Ytocaiojdmnfamaa
