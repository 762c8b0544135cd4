/-
  Layer 12's code: what a word of a group's path stands for; what a path means; which path is inherited. Condition: at most 200 lines, paths of at most 16 words.
-/
import Derived.Test.YtkifapbiimlafaaGroupF
namespace Go.Proofs.Ytkifapbiimlafaa
open Go.RowKit
set_option linter.unusedVariables false

theorem findC12y (A B : Option Addr) (c cd n k : Nat) (t : List T.Ln) (i : Nat) (p : T.Pth) (w : World) (hn : t.length = n) (hk : p.length = k) (hA : Seen eL w A t) (hB : Seen eS w B p) (hl : n ≤ 1073741824) (hp : k ≤ 1073741824) (hR : T.RightT t) (hi : i < n) (h : T.pathL t i = p) :
    Calls Try.prog 26 #[.slice A n c, .slice B k cd] w (fun e w' => e = .returned (.tuple #[.int .i64 (i : Int), .bool true]) ∧ Below w.heap.size w w') := by
  subst hn; subst hk; exact find_some A B c cd t i p w hA hB hl hp hR hi h
theorem findC12n (A B : Option Addr) (c cd n k : Nat) (t : List T.Ln) (p : T.Pth) (w : World) (hn : t.length = n) (hk : p.length = k) (hA : Seen eL w A t) (hB : Seen eS w B p) (hl : n ≤ 1073741824) (hp : k ≤ 1073741824) (hR : T.RightT t) (h : ¬ T.isIn t p) :
    Calls Try.prog 26 #[.slice A n c, .slice B k cd] w (fun e w' => e = .returned (.tuple #[.int .i64 0, .bool false]) ∧ Below w.heap.size w w') := by
  subst hn; subst hk; exact find_not A B c cd t p w hA hB hl hp hR fun i hi e => h ⟨i, hi, e⟩
theorem kidsC12 (A : Option Addr) (c n m : Nat) (t : List T.Ln) (i : Int) (K : List Nat) (w : World) (hn : t.length = n) (hm : K.length = m) (hA : Seen eL w A t) (hl : n ≤ 1073741824) (hi : -1 ≤ i) (hil : i < n) (hR : T.RightT t) (h : T.kidsL t i = K) :
    Calls Try.prog 52 #[.slice A n c, .int .i64 i] w (fun e w' => ∃ B d, e = .returned (.slice B m d) ∧ m ≤ d ∧ Seen eI w' B K ∧ Below w.heap.size w w') := by
  subst hn; subst hm; exact kids_is A c t i K w hA hl hi hil hR h
theorem pick_inst {Q : Nat → Prop} {K : List Nat} (h : ∀ k ∈ K, Q k) {j : Nat} (hj : j < K.length) : Q K[j] := h _ (List.getElem_mem hj)
/-- What a slice of words is, made by a call. -/
def WordsS (w : World) (m : Nat) (M : List (List UInt8)) (e : Ending) (w' : World) : Prop := ∃ C cc, e = .returned (.slice C m cc) ∧ m ≤ cc ∧ Seen eS w' C M ∧ (∀ a, C = some a → w.heap.size ≤ a.block) ∧ Below w.heap.size w w'
set_option maxRecDepth 100000 in
set_option maxHeartbeats 8000000 in
theorem meant_any (A B : Option Addr) (c d n k m : Nat) (x : List T.Ln) (b : T.Pth) (wd : List UInt8) (M : List (List UInt8)) (w : World) (hn : x.length = n) (hA : Seen eL w A x) (hl : n ≤ 200) (hR : T.RightT x) (hk : b.length = k) (hB : Seen eS w B b) (hk1 : k ≤ 100) (hM : T.meantW x b wd = M) (hm : M.length = m) :
    Calls Try.prog 64 #[.slice A n c, .slice B k d, .string (sB wd)] w (WordsS w m M) := by
  have HA := Lib.hid hA
  have HB := Lib.hid hB
  have HN := Lib.hid hn
  have HK := Lib.hid hk
  have HR := Lib.hid hR
  have HM := Lib.hid hm
  by_cases hw : wd = T.starW
  · have q1 : ((sB wd).toList == [42]) = true := by rw [sB_toList, hw]; rfl
    have q2 : ((sB wd).toList != [42]) = false := by rw [bne, q1]; rfl
    have HMU := Lib.hid (show T.underW x b = M by rw [← hM, hw, T.meant_hit])
    clear hA hB hn hk hR hm hM hw
    by_cases hk0 : 0 < k
    · have d1 : decide ((0 : Int) < (k : Int)) = true := decide_eq_true (by omega)
      have d2 : decide (0 < k) = true := decide_eq_true hk0
      by_cases hin : T.isIn x b
      · obtain ⟨i, hi, hp⟩ := hin
        have hin : i < n := by rw [← HN.out]; exact hi
        obtain ⟨K, hK⟩ : ∃ K, T.kidsL x (i : Int) = K := ⟨_, rfl⟩
        have HKW := Lib.hid (show K.map (T.wd x) = M by rw [← hK, T.kids_words HR.out ⟨by omega, by omega⟩, T.pathI_nat, hp, HMU.out])
        have HKL := Lib.hid (show ∀ j ∈ K, j < n by
          intro j hj
          rw [← hK, T.mem_kids] at hj
          rw [← HN.out]; exact hj.1)
        have HPI := Lib.hid hp
        have HKI := Lib.hid hK
        clear hp hi hK
        go_enter Try.func64, Try.ntmps64
        go_wp2_with fail
        refine (findC12y A B c d n k x i b _ HN.out HK.out HA.out HB.out (by omega) (by omega) HR.out hin HPI.out).mono ?_
        rintro e w1 ⟨rfl, hb1⟩
        have HB1 := Lib.hid hb1
        clear hb1
        go_wp2_with fail
        refine (kidsC12 A c n K.length x (i : Int) K _ HN.out rfl (HA.out.below HB1.out) (by omega) (by omega) (by omega) HR.out HKI.out).mono ?_
        rintro e w2 ⟨B2, c2, rfl, hc2, hs2, hb2⟩
        have HB2 := Lib.hid (HB1.out.trans (hb2.mono HB1.out.size))
        have HS2 := Lib.hid hs2
        obtain ⟨kn, hkn⟩ : ∃ z, K.length = z := ⟨_, rfl⟩
        rw [hkn] at hc2 ⊢
        have HKN := Lib.hid hkn
        have hkm : kn = m := by rw [← hkn, ← HM.out, ← HKW.out, List.length_map]
        subst hkm
        have HKX := Lib.hid (show kn ≤ 200 by
          have := T.meant_len HR.out b T.starW
          rw [T.meant_hit, HMU.out, HM.out] at this
          have := HN.out
          have h1 : (T.kidsL x (i : Int)).length ≤ x.length := by
            unfold T.kidsL
            exact Nat.le_trans (List.length_filter_le _ _) (Nat.le_of_eq List.length_range)
          rw [HKI.out, HKN.out] at h1
          omega)
        clear hs2 hb2 hkn
        go_wp2
        go_loopg [10, 12, 33] kn (fun g vo v12 vj wr => ∃ j : Nat, Hid (j + g = kn) ∧ vj = .int .i64 (j : Int) ∧ Hid (Own eS wr w2.heap.size vo ((K.take j).map (T.wd x))) ∧ Hid (Below w2.heap.size w2 wr))
        case atStart => exact ⟨0, Nat.zero_add _, rfl, Own.nil _ _, Below.refl _ _⟩
        case round =>
          obtain ⟨j, HG, rfl, HO, HBR⟩ := hrel
          have hgk := HG.out
          by_cases hlt : j < kn
          · have blt : decide ((j : Int) < (kn : Int)) = true := decide_eq_true (by omega)
            have blt2 : decide (j < kn) = true := decide_eq_true hlt
            have hjK : j < K.length := by rw [HKN.out]; exact hlt
            have hjz : (j : Int) < (kn : Int) := by omega
            obtain ⟨b3, o3, rfl, hw3, hL3⟩ := HS2.out (by omega)
            have k3 := (hL3.below HBR.out hw3).num hjK
            obtain ⟨q, hq⟩ : ∃ q, K[j] = q := ⟨_, rfl⟩
            rw [hq] at k3
            have hqn : q < n := by rw [← hq]; exact pick_inst HKL.out hjK
            have hqx : q < x.length := by rw [HN.out]; exact hqn
            have hqz : (q : Int) < (n : Int) := by omega
            have HBW := Lib.hid (HB2.out.trans (HBR.out.mono HB2.out.size))
            obtain ⟨b, o, rfl, hbw, hL⟩ := HA.out.lines (by omega)
            obtain ⟨c0, c1, c2_⟩ := (hL.below HBW.out hbw).line hqx
            have HNX := Lib.hid (show (K.take (j + 1)).map (T.wd x) = (K.take j).map (T.wd x) ++ [T.wd x q] by
              rw [List.take_succ_eq_append_getElem hjK, List.map_append, hq]; rfl)
            have HLN := Lib.hid (show ((K.take j).map (T.wd x)).length ≤ 200 by
              rw [List.length_map, List.length_take]
              have := HKX.out
              have := HKN.out
              omega)
            have hsz := HBR.out.size
            have hkx := HKX.out
            clear hq hL hL3
            go_wp2_with (at_builtin; refine wpList_appG eS wr rfl (.tmp 37) (.tmp 43) rfl w2.heap.size u10 ((K.take j).map (T.wd x)) rfl HO.out (T.wd x q) 1 _ rfl wr.heap.size rfl rfl (by have := HLN.out; omega) hsz ?_; intro v5 w5 hown5 hb5; have HB5 := Lib.hid (HBR.out.trans hb5); have HO5 := Lib.hid hown5; clear hown5 hb5)
            go_roundg (kn - (j + 1))
            case rel => exact ⟨j + 1, (by show _ = _; omega), by go_num, (by rw [HNX.out]; exact HO5.out), HB5.out⟩
            case measure => omega
          · have blt : decide ((j : Int) < (kn : Int)) = false := decide_eq_false (by omega)
            have blt2 : decide (j < kn) = false := decide_eq_false hlt
            have hown := HO.out
            rw [show j = K.length by rw [HKN.out]; omega, List.take_length, HKW.out] at hown
            obtain ⟨A6, c6, rfl, hp6⟩ := own_pt hown
            have hc6 : M.length ≤ c6 := hp6.pt.cap
            have hs6 : Seen eS wr A6 M := hp6.pt.seen
            have HF6 := Lib.hid (show ∀ a, A6 = some a → w2.heap.size ≤ a.block from hp6.from_)
            rw [HM.out] at hc6 ⊢
            have HS6 := Lib.hid hs6
            have HC6 := Lib.hid hc6
            clear hown hs6 hc6 hp6
            go_wp2
            go_ret
            exact ⟨A6, c6, rfl, HC6.out, HS6.out, (fun a h => Nat.le_trans HB2.out.size (HF6.out a h)), HB2.out.trans (HBR.out.mono HB2.out.size)⟩
      · go_enter Try.func64, Try.ntmps64
        have HNI := Lib.hid hin
        have HME := Lib.hid (show M = [] by rw [← HMU.out]; exact T.underW_out HR.out (by intro e; have := HK.out; rw [e, List.length_nil] at this; omega) hin)
        clear hin
        go_wp2_with fail
        refine (findC12n A B c d n k x b _ HN.out HK.out HA.out HB.out (by omega) (by omega) HR.out HNI.out).mono ?_
        rintro e w1 ⟨rfl, hb1⟩
        have HB1 := Lib.hid hb1
        clear hb1
        obtain rfl : m = 0 := by rw [← HM.out, HME.out]; rfl
        go_wp2
        go_ret
        exact ⟨_, _, rfl, Nat.le_refl _, (by rw [HME.out]; exact Seen.nil), (fun a h => by cases h), HB1.out⟩
    · have d1 : decide ((0 : Int) < (k : Int)) = false := decide_eq_false (by omega)
      have d2 : decide (0 < k) = false := decide_eq_false hk0
      have HB1 : Hid (Below w.heap.size w w) := Lib.hid (Below.refl _ _)
      obtain ⟨w1, hw1⟩ : ∃ w1, w1 = w := ⟨_, rfl⟩
      obtain ⟨K, hK⟩ : ∃ K, T.kidsL x (-1) = K := ⟨_, rfl⟩
      have HKW := Lib.hid (show K.map (T.wd x) = M by
        have hb0 : b = [] := List.eq_nil_of_length_eq_zero (by rw [HK.out]; omega)
        rw [← hK, T.kids_words HR.out ⟨by omega, by omega⟩, T.pathI_none, ← hb0, HMU.out])
      have HKL := Lib.hid (show ∀ j ∈ K, j < n by
        intro j hj
        rw [← hK, T.mem_kids] at hj
        rw [← HN.out]; exact hj.1)
      have HKI := Lib.hid hK
      clear hK
      subst hw1
      go_enter Try.func64, Try.ntmps64
      go_wp2_with fail
      refine (kidsC12 A c n K.length x (-1) K _ HN.out rfl (HA.out.below HB1.out) (by omega) (by omega) (by omega) HR.out HKI.out).mono ?_
      rintro e w2 ⟨B2, c2, rfl, hc2, hs2, hb2⟩
      have HB2 := Lib.hid (HB1.out.trans (hb2.mono HB1.out.size))
      have HS2 := Lib.hid hs2
      obtain ⟨kn, hkn⟩ : ∃ z, K.length = z := ⟨_, rfl⟩
      rw [hkn] at hc2 ⊢
      have HKN := Lib.hid hkn
      have hkm : kn = m := by rw [← hkn, ← HM.out, ← HKW.out, List.length_map]
      subst hkm
      have HKX := Lib.hid (show kn ≤ 200 by
        have := T.meant_len HR.out b T.starW
        rw [T.meant_hit, HMU.out, HM.out] at this
        have := HN.out
        have h1 : (T.kidsL x (-1)).length ≤ x.length := by
          unfold T.kidsL
          exact Nat.le_trans (List.length_filter_le _ _) (Nat.le_of_eq List.length_range)
        rw [HKI.out, HKN.out] at h1
        omega)
      clear hs2 hb2 hkn
      go_wp2
      go_loopg [10, 12, 33] kn (fun g vo v12 vj wr => ∃ j : Nat, Hid (j + g = kn) ∧ vj = .int .i64 (j : Int) ∧ Hid (Own eS wr w2.heap.size vo ((K.take j).map (T.wd x))) ∧ Hid (Below w2.heap.size w2 wr))
      case atStart => exact ⟨0, Nat.zero_add _, rfl, Own.nil _ _, Below.refl _ _⟩
      case round =>
        obtain ⟨j, HG, rfl, HO, HBR⟩ := hrel
        have hgk := HG.out
        by_cases hlt : j < kn
        · have blt : decide ((j : Int) < (kn : Int)) = true := decide_eq_true (by omega)
          have blt2 : decide (j < kn) = true := decide_eq_true hlt
          have hjK : j < K.length := by rw [HKN.out]; exact hlt
          have hjz : (j : Int) < (kn : Int) := by omega
          obtain ⟨b3, o3, rfl, hw3, hL3⟩ := HS2.out (by omega)
          have k3 := (hL3.below HBR.out hw3).num hjK
          obtain ⟨q, hq⟩ : ∃ q, K[j] = q := ⟨_, rfl⟩
          rw [hq] at k3
          have hqn : q < n := by rw [← hq]; exact pick_inst HKL.out hjK
          have hqx : q < x.length := by rw [HN.out]; exact hqn
          have hqz : (q : Int) < (n : Int) := by omega
          have HBW := Lib.hid (HB2.out.trans (HBR.out.mono HB2.out.size))
          obtain ⟨b, o, rfl, hbw, hL⟩ := HA.out.lines (by omega)
          obtain ⟨c0, c1, c2_⟩ := (hL.below HBW.out hbw).line hqx
          have HNX := Lib.hid (show (K.take (j + 1)).map (T.wd x) = (K.take j).map (T.wd x) ++ [T.wd x q] by
            rw [List.take_succ_eq_append_getElem hjK, List.map_append, hq]; rfl)
          have HLN := Lib.hid (show ((K.take j).map (T.wd x)).length ≤ 200 by
            rw [List.length_map, List.length_take]
            have := HKX.out
            have := HKN.out
            omega)
          have hsz := HBR.out.size
          have hkx := HKX.out
          clear hq hL hL3
          go_wp2_with (at_builtin; refine wpList_appG eS wr rfl (.tmp 37) (.tmp 43) rfl w2.heap.size u10 ((K.take j).map (T.wd x)) rfl HO.out (T.wd x q) 1 _ rfl wr.heap.size rfl rfl (by have := HLN.out; omega) hsz ?_; intro v5 w5 hown5 hb5; have HB5 := Lib.hid (HBR.out.trans hb5); have HO5 := Lib.hid hown5; clear hown5 hb5)
          go_roundg (kn - (j + 1))
          case rel => exact ⟨j + 1, (by show _ = _; omega), by go_num, (by rw [HNX.out]; exact HO5.out), HB5.out⟩
          case measure => omega
        · have blt : decide ((j : Int) < (kn : Int)) = false := decide_eq_false (by omega)
          have blt2 : decide (j < kn) = false := decide_eq_false hlt
          have hown := HO.out
          rw [show j = K.length by rw [HKN.out]; omega, List.take_length, HKW.out] at hown
          obtain ⟨A6, c6, rfl, hp6⟩ := own_pt hown
          have hc6 : M.length ≤ c6 := hp6.pt.cap
          have hs6 : Seen eS wr A6 M := hp6.pt.seen
          have HF6 := Lib.hid (show ∀ a, A6 = some a → w2.heap.size ≤ a.block from hp6.from_)
          rw [HM.out] at hc6 ⊢
          have HS6 := Lib.hid hs6
          have HC6 := Lib.hid hc6
          clear hown hs6 hc6 hp6
          go_wp2
          go_ret
          exact ⟨A6, c6, rfl, HC6.out, HS6.out, (fun a h => Nat.le_trans HB2.out.size (HF6.out a h)), HB2.out.trans (HBR.out.mono HB2.out.size)⟩
  · have q1 : ((sB wd).toList == [42]) = false := by
      rw [sB_toList]
      cases e : (wd == [42]) with
      | false => rfl
      | true => exact absurd (beq_iff_eq.1 e) hw
    have q2 : ((sB wd).toList != [42]) = true := by rw [bne, q1]; rfl
    have HME := Lib.hid (show M = [wd] by rw [← hM, T.meant_miss x b hw])
    clear hA hB hn hk hR hm hM hw
    obtain rfl : m = 1 := by rw [← HM.out, HME.out]; rfl
    have HS := Lib.hid (lit_seen eS w [wd] #[.string (sB wd)] rfl (by simp))
    go_enter Try.func64, Try.ntmps64
    go_wp2
    go_ret
    exact ⟨_, _, rfl, Nat.le_refl _, (by rw [HME.out]; exact HS.out), (fun a h => by injection h with h; rw [← h]; exact Nat.le_refl _), up _ _⟩
set_option maxRecDepth 100000 in
theorem cloneZ (c : Nat) (w : World) : Calls Try.prog 65 #[.slice none 0 c] w (OwnS eS w []) := by
  have q := fun (w : World) (a : Option Addr) (n c : Nat) => Lib.run_eql_slice_nil (P := Try.prog) w 41 _ a n c 0 0 Try.underlying41
  go_enter Try.func65, Try.ntmps65
  go_wp2
  go_ret
  exact ⟨_, rfl, Own.nil _ _, Below.refl _ _⟩
theorem cloneS (ad : Addr) (cap n : Nat) (t : T.Pth) (w : World) (hn : t.length = n) (hp : n ≤ 1073741824) (h : Seen eS w (some ad) t) :
    Calls Try.prog 65 #[.slice (some ad) n cap] w (OwnS eS w t) := by
  have HH := Lib.hid (h.below ((Below.refl _ _).alloc (Nat.le_refl _) (.cells #[] eS.T)))
  have HO := Lib.hid (Own.empty eS w)
  clear h
  have q := fun (w : World) (a : Option Addr) (n c : Nat) => Lib.run_eql_slice_nil (P := Try.prog) w 41 _ a n c 0 0 Try.underlying41
  have HN := Lib.hid hn
  clear hn
  go_enter Try.func65, Try.ntmps65
  go_wp2_with (first | (at_builtin; refine wpList_appSeen eS (w.alloc (.cells #[] eS.T)) rfl (.tmp 5) (.tmp 6) rfl w.heap.size _ [] rfl HO.out ad t n cap HN.out rfl HH.out (by simp; omega) (by simp) ?_; intro v3 w3 hown3 hb3))
  go_ret
  exact ⟨v3, rfl, hown3, ((Below.refl _ _).alloc (Nat.le_refl _) _).trans hb3⟩
theorem cloneP12 (A : Option Addr) (c n : Nat) (p : T.Pth) (w : World) (hn : p.length = n) (hp : n ≤ 1073741824) (h : Seen eS w A p) : Calls Try.prog 65 #[.slice A n c] w (OwnS eS w p) := by
  cases A with
  | none =>
    have h0 : p = [] := by
      cases p with
      | nil => rfl
      | cons a r => obtain ⟨b, o, e, _⟩ := h (by simp); cases e
    subst h0
    obtain rfl : n = 0 := hn.symm
    exact cloneZ c w
  | some ad => exact cloneS ad c n p w hn hp h
/-- What an append to v, in the world w, leaves. -/
def G12 (w w' : World) (v v' : Value) : Prop := w.heap.size ≤ w'.heap.size ∧ (∀ b, b < w.heap.size → v.ownBlock ≠ some b → w'.heap[b]? = w.heap[b]?) ∧ ∀ b, v'.ownBlock = some b → v.ownBlock = some b ∨ w.heap.size ≤ b
theorem snocK12 {w w' : World} {base k : Nat} {v v' : Value} {M : List PtM} {L : List T.Pth} {m : PtM} {x : T.Pth} (hl : M.length = L.length) (he : ∀ i (h1 : i < M.length) (h2 : i < L.length), PtK w k M[i] L[i] ∧ FreeQ v M[i] L[i])
    (hx : PtK w k m x) (hf : FreeQ v m x) (hg : Grew eQ w w' base v v' (M ++ [m])) : OwnK w' base k v' (L ++ [x]) := by
  have step : ∀ (m : PtM) (x : T.Pth), PtK w k m x → FreeQ v m x → PtK w' k m x ∧ FreeQ v' m x := by
    intro m x hx hf
    refine ⟨⟨⟨hx.pt.len, hx.pt.cap, fun hp => ?_⟩, hx.from_⟩, fun hp a ha e => ?_⟩
    · obtain ⟨b, o, e, hb, hH⟩ := hx.pt.seen hp
      have hne := hf hp _ e
      exact ⟨b, o, e, Nat.lt_of_lt_of_le hb hg.grown.size, holds_of_block hH (hg.grown.block b hb (fun e => hne e.symm))⟩
    · obtain ⟨b, o, e2, hb, _⟩ := hx.pt.seen hp
      have hne := hf hp a ha
      have eb : a.block = b := by rw [e2] at ha; injection ha with ha; rw [← ha]
      rcases hg.at_ with h | ⟨g, h, h4⟩
      · rw [h] at e; exact hne e
      · rw [h] at e; injection e with e; omega
  refine ⟨M ++ [m], by rw [List.length_append, List.length_append, hl]; rfl, hg.own, fun i h1 h2 => ?_⟩
  rw [List.length_append, List.length_singleton] at h1
  by_cases hi : i < M.length
  · rw [List.getElem_append_left hi, List.getElem_append_left (by omega)]
    exact step _ _ (he i hi (by omega)).1 (he i hi (by omega)).2
  · obtain rfl : i = M.length := by omega
    have e1 : (M ++ [m])[M.length]'(by simp) = m := by simp
    have e2 : (L ++ [x])[M.length]'(by rw [List.length_append, hl]; simp) = x := by simp [hl]
    rw [e1, e2]
    exact step _ _ hx hf
/-- append of one path, whose words lie in newer memory. -/
theorem wpList_appOneK {ops : Array Oper} {rest : List Oper} {o : Oper} {a : Act} {Q : Exit → Act → World → Prop} (w : World) (hgd : o.guard = none) (s x : Operand)
    (ho : o.op = .call { callee := .builtin .append, args := #[s, x], argTypes := #[30, 30] })
    (base k j : Nat) (v : Value) (L : List T.Pth) (hs : a.eval s = v) (w0 : World) (hown0 : OwnK w0 base k v L) (hb0 : Below w0.heap.size w0 w) (hkj : k ≤ w0.heap.size) (m : PtM) (y : T.Pth) (hy : PtK w w0.heap.size m y) (cs : Array Value) (hcs : cs.toList = ptC m) (g : Nat) (hg : w.heap.size = g) (hx : a.eval x = .slice (some ⟨g, 0, none⟩) 1 1) (hln : L.length ≤ j) (hlen : j ≤ 1099511627) (hb : base ≤ w.heap.size)
    (h : ∀ v' w', OwnK w' base k v' (L ++ [y]) → Below base w w' → G12 w w' v v' → wpList Try.prog ops Q rest (a.put o.dst v') w') : wpList Try.prog ops Q (o :: rest) a (w.alloc (.cells cs 41)) := by
  have hf : FreeQ v m y := by
    intro hp a ha e
    have h1 := hy.from_ a ha
    have h2 := (hown0.rowAt _ e).2
    omega
  obtain ⟨M, h1, h2, h3⟩ := hown0.keep hb0
  refine wpList_app3 eQ w hgd s x ho base v M hs h2 m 1 cs hcs g hg hx (by omega) hb fun v' w' hG => h v' w' (snocK12 h1 h3 (hy.less hkj) hf hG) (hG.below h2 hb) ⟨hG.grown.size, fun b hb hne => hG.grown.block b hb (fun e => hne e.symm), fun b e => ?_⟩
  rcases hG.at_ with h | ⟨g, h, h4⟩
  · left; rw [← h]; exact e
  · right; rw [h] at e; injection e with e; omega
/-- What a call has made stays, and lies outside the row. -/
structure Side12 (k : Nat) (w w1 : World) (v : Value) : Prop where
  wide : w.heap.size ≤ w1.heap.size
  same : ∀ b, k ≤ b → b < w.heap.size → w1.heap[b]? = w.heap[b]?
  away : ∀ b, v.ownBlock = some b → b < k ∨ w.heap.size ≤ b
theorem side_grow {k : Nat} {w w1 w2 : World} {v : Value} (h : Side12 k w w1 v) (hb : Below w1.heap.size w1 w2) : Side12 k w w2 v :=
  ⟨Nat.le_trans h.wide hb.size, fun b h1 h2 => (hb.block b (Nat.lt_of_lt_of_le h2 h.wide)).trans (h.same b h1 h2), h.away⟩
theorem side_app {k : Nat} {w w1 w2 : World} {v v2 : Value} (h : Side12 k w w1 v) (hg : G12 w1 w2 v v2) : Side12 k w w2 v2 := by
  obtain ⟨g1, g2, g3⟩ := hg
  refine ⟨Nat.le_trans h.wide g1, fun b h1 h2 => (g2 b (Nat.lt_of_lt_of_le h2 h.wide) (fun e => ?_)).trans (h.same b h1 h2), fun b e => ?_⟩
  · rcases h.away b e with h3 | h3 <;> omega
  · rcases g3 b e with h3 | h3
    · exact h.away b h3
    · have := h.wide; right; omega
theorem side_seen {k : Nat} {w w1 : World} {v : Value} {A : Option Addr} {l : List (List UInt8)} (h : Side12 k w w1 v) (hs : Seen eS w A l) (hA : ∀ a, A = some a → k ≤ a.block) : Seen eS w1 A l := by
  intro hl
  obtain ⟨b, o, e, hb, hH⟩ := hs hl
  exact ⟨b, o, e, Nat.lt_of_lt_of_le hb h.wide, holds_of_block hH (h.same b (hA _ e) hb)⟩
/-- The value of the path i of many, and what its cell says. -/
theorem ManyQ.at_ {w : World} {k n c : Nat} {A : Option Addr} {L : List T.Pth} (h : ManyQ w k (.slice A n c) L) {i : Nat} (hi : i < L.length) : ∃ b o, A = some ⟨b, o, none⟩ ∧ b < w.heap.size ∧ ∃ m : PtM, (∀ w', Below w.heap.size w w' → w'.cell? ⟨b, o + i, none⟩ = some (.slice m.A m.n m.c)) ∧ PtK w k m L[i] := by
  obtain ⟨M, h1, h2, h3⟩ := h
  rcases h2 with ⟨_, e⟩ | ⟨b, o, c2, e, hc, hb, hH⟩
  · subst e
    rw [← h1] at hi; exact absurd hi (Nat.not_lt_zero _)
  · injection e with e1 e2 e3
    refine ⟨b, o, e1, hb, M[i]'(by omega), fun w' hb2 => (hH.below hb2 hb).ptQ (by omega), h3 i (by omega) hi⟩
theorem OwnK.slice {w : World} {base k : Nat} {v : Value} {L : List T.Pth} (h : OwnK w base k v L) : ∃ A c, v = .slice A L.length c := by
  obtain ⟨A, c, e, _⟩ := h.many.seen
  exact ⟨A, c, e⟩
set_option maxRecDepth 100000 in
set_option maxHeartbeats 32000000 in
theorem filled_any (A B : Option Addr) (c d n k m : Nat) (x : List T.Ln) (p : T.Pth) (L : List T.Pth) (w : World) (hn : x.length = n) (hA : Seen eL w A x) (hl : n ≤ 200) (hR : T.RightT x) (hk : p.length = k) (hB : Seen eS w B p) (hk1 : k ≤ 16) (hL : T.fillR x [] p = L) (hm : L.length = m) :
    Calls Try.prog 58 #[.slice A n c, .slice B k d] w (fun e w' => ∃ C cc, e = .returned (.slice C m cc) ∧ ManyQ w' w.heap.size (.slice C m cc) L ∧ Below w.heap.size w w') := by
  have HA := Lib.hid hA
  have HB := Lib.hid hB
  have HN := Lib.hid hn
  have HK := Lib.hid hk
  have HR := Lib.hid hR
  have HM := Lib.hid hm
  have HL := Lib.hid hL
  have HX0 := Lib.hid (show Below w.heap.size w (w.alloc (.cells #[.slice none 0 0] 41)) from up _ _)
  have HQ0 := Lib.hid (show ManyQ (w.alloc (.cells #[.slice none 0 0] 41)) w.heap.size (.slice (some ⟨w.heap.size, 0, none⟩) 1 1) [[]] from
    ManyQ.one (m := ⟨none, 0, 0⟩) (x := []) ⟨⟨rfl, Nat.le_refl _, Seen.nil⟩, fun a h => by cases h⟩ _ rfl (Nat.le_refl _))
  clear hA hB hn hk hR hm hL
  go_enter Try.func58, Try.ntmps58
  go_wp2
  go_loopg [5, 7, 8, 10, 12, 16] k (fun g va v7 v8 v10 v12 vj wr => ∃ j : Nat, Hid (j + g = k) ∧ vj = .int .i64 (j : Int) ∧ Hid (ManyQ wr w.heap.size va (T.fillR x [] (p.take j))) ∧ Hid (Below w.heap.size w wr))
  case atStart => exact ⟨0, Nat.zero_add _, rfl, HQ0.out, HX0.out⟩
  case round =>
    obtain ⟨j, HG, rfl, HQ, HBJ⟩ := hrel
    have hgk := HG.out
    obtain ⟨Lj, hLj⟩ : ∃ z, T.fillR x [] (p.take j) = z := ⟨_, rfl⟩
    have HLJ := Lib.hid hLj
    obtain ⟨Aj, cj, rfl, hcj, _⟩ := HQ.out.seen
    rw [hLj] at HQ hcj ⊢
    obtain ⟨mj, hmj⟩ : ∃ z, Lj.length = z := ⟨_, rfl⟩
    rw [hmj] at HQ hcj ⊢
    have HMJ := Lib.hid hmj
    have hmj201 : mj ≤ 201 := by
      rw [← hmj, ← hLj]
      have := T.fill_most HR.out (p.take j) []
      have := HN.out
      omega
    clear hLj hmj
    by_cases hlt : j < k
    · have blt : decide ((j : Int) < (k : Int)) = true := decide_eq_true (by omega)
      have blt2 : decide (j < k) = true := decide_eq_true hlt
      have hjp : j < p.length := by rw [HK.out]; exact hlt
      have hjz : (j : Int) < (k : Int) := by omega
      obtain ⟨bp, op, rfl, hbp, hLp⟩ := HB.out (by omega)
      have kp := (hLp.below HBJ.out hbp).str hjp
      obtain ⟨wd, hwd⟩ : ∃ z, p[j] = z := ⟨_, rfl⟩
      rw [hwd] at kp
      have HGA := Lib.hid (show T.grownTo x wd Lj mj = T.fillR x [] (p.take (j + 1)) by
        have := T.grown_all x wd (p.take j)
        rw [HLJ.out, HMJ.out] at this
        rw [this, List.take_succ_eq_append_getElem hjp, hwd])
      have HGL := Lib.hid (fun z => show (T.grownTo x wd Lj z).length ≤ 201 by
        have := T.grown_len HR.out wd (p.take j) z
        rw [HLJ.out] at this
        have := HN.out
        omega)
      obtain ⟨wj, hwj⟩ : ∃ wj, wj = wr := ⟨_, rfl⟩
      subst hwj
      clear hwd hLp
      go_wp2
      go_loopg [8, 10, 12, 22] mj (fun g2 vo v10 v12 vi w2 => ∃ i : Nat, Hid (i + g2 = mj) ∧ vi = .int .i64 (i : Int) ∧ Hid (OwnK w2 wj.heap.size w.heap.size vo (T.grownTo x wd Lj i)) ∧ Hid (Below wj.heap.size wj w2))
      case atStart => exact ⟨0, Nat.zero_add _, rfl, OwnK.nil _ _ _, Below.refl _ _⟩
      case round =>
        obtain ⟨i, HG2, rfl, HO, HBI⟩ := hrel
        have hgk2 := HG2.out
        by_cases hli : i < mj
        · have bli : decide ((i : Int) < (mj : Int)) = true := decide_eq_true (by omega)
          have bli2 : decide (i < mj) = true := decide_eq_true hli
          have hiL : i < Lj.length := by rw [HMJ.out]; exact hli
          have hiz : (i : Int) < (mj : Int) := by omega
          obtain ⟨bq, oq, rfl, hbq, ⟨mA, mn, mc⟩, hcell, hpt⟩ := HQ.out.at_ hiL
          have kq := hcell _ HBI.out
          have HCQ := Lib.hid hcell
          obtain ⟨b, hb⟩ : ∃ z, Lj[i] = z := ⟨_, rfl⟩
          rw [hb] at hpt
          have HPT := Lib.hid hpt
          have hbn : b.length = mn := hpt.pt.len
          have HBN := Lib.hid hbn
          have hmn : mn ≤ 16 := by
            rw [← hbn, ← hb]
            have h1 : Lj[i] ∈ T.fillR x [] (p.take j) := by rw [HLJ.out]; exact List.getElem_mem hiL
            have h2 := T.fill_len x _ _ _ h1
            rw [List.length_nil, List.length_take] at h2
            omega
          obtain ⟨M, hM⟩ : ∃ z, T.meantW x b wd = z := ⟨_, rfl⟩
          have HMW := Lib.hid hM
          have HNX := Lib.hid (show T.grownTo x wd Lj (i + 1) = T.grownTo x wd Lj i ++ M.map fun k => b ++ [k] by
            have := T.grown_next x wd Lj hiL
            rw [this, hb, hM])
          obtain ⟨mm, hmm⟩ : ∃ z, M.length = z := ⟨_, rfl⟩
          have HMM := Lib.hid hmm
          have hmm201 : mm ≤ 201 := by
            rw [← hmm, ← hM]
            have := T.meant_len HR.out b wd
            have := HN.out
            omega
          have HBW := Lib.hid (HBJ.out.trans (HBI.out.mono HBJ.out.size))
          obtain ⟨wi, hwi⟩ : ∃ wi, wi = wr := ⟨_, rfl⟩
          subst hwi
          clear hb hpt hbn hM hmm hcell
          go_wp2_with fail
          refine (meant_any A mA c mc n mn mm x b wd M _ HN.out (HA.out.below HBW.out) hl HR.out HBN.out (HPT.out.pt.seen.below HBI.out) (by omega) HMW.out HMM.out).mono ?_
          rintro e w3 ⟨C3, c3, rfl, hc3, hs3, hf3, hb3⟩
          have HB3 := Lib.hid hb3
          have HS3 := Lib.hid hs3
          have HF3 := Lib.hid hf3
          have HO3 := Lib.hid (HO.out.keep hb3)
          have HD3 := Lib.hid (show Side12 wi.heap.size w3 w3 u8 from ⟨Nat.le_refl _, fun _ _ _ => rfl, fun b e => .inl (HO.out.rowAt b e).2⟩)
          have HBI3 := Lib.hid (HBI.out.trans (hb3.mono HBI.out.size))
          clear hc3 hs3 hb3 hf3
          go_wp2
          go_loopg [8, 12, 31] mm (fun g3 vo v12 vq w4 => ∃ q : Nat, Hid (q + g3 = mm) ∧ vq = .int .i64 (q : Int) ∧ Hid (OwnK w4 wj.heap.size w.heap.size vo (T.grownTo x wd Lj i ++ (M.take q).map fun k => b ++ [k])) ∧ Hid (Side12 wi.heap.size w3 w4 vo) ∧ Hid (Below wj.heap.size wj w4))
          case atStart => exact ⟨0, Nat.zero_add _, rfl, (by rw [List.take_zero, List.map_nil, List.append_nil]; exact HO3.out), HD3.out, HBI3.out⟩
          case round =>
            obtain ⟨q, HG3, rfl, HO4, HD4, HBI4⟩ := hrel
            have hgk3 := HG3.out
            have HBW4 := Lib.hid (HBJ.out.trans (HBI4.out.mono HBJ.out.size))
            by_cases hlq : q < mm
            · have blq : decide ((q : Int) < (mm : Int)) = true := decide_eq_true (by omega)
              have blq2 : decide (q < mm) = true := decide_eq_true hlq
              have hqM : q < M.length := by rw [HMM.out]; exact hlq
              have hqz : (q : Int) < (mm : Int) := by omega
              obtain ⟨b5, o5, rfl, hw5, hL5⟩ := side_seen HD4.out HS3.out HF3.out (by omega)
              have k5 := hL5.str hqM
              obtain ⟨nx, hnx⟩ : ∃ z, M[q] = z := ⟨_, rfl⟩
              rw [hnx] at k5
              have HN4 := Lib.hid (show T.grownTo x wd Lj i ++ (M.take (q + 1)).map (fun k => b ++ [k]) = (T.grownTo x wd Lj i ++ (M.take q).map fun k => b ++ [k]) ++ [b ++ [nx]] by
                rw [List.take_succ_eq_append_getElem hqM, List.map_append, hnx, List.append_assoc]; rfl)
              have HL4 := Lib.hid (show (T.grownTo x wd Lj i ++ (M.take q).map fun k => b ++ [k]).length ≤ 500 by
                rw [List.length_append, List.length_map, List.length_take]
                have := HGL.out i
                have := HMM.out
                omega)
              obtain ⟨y, hy⟩ : ∃ z, b ++ [nx] = z := ⟨_, rfl⟩
              have HY := Lib.hid hy
              have HYL := Lib.hid (show y.length = mn + 1 by rw [← hy, List.length_append, HBN.out]; rfl)
              rw [hy] at HN4
              have hbl := HBN.out
              have HBLN := Lib.hid (show b.length + 1 ≤ 1099511627776 by rw [HBN.out]; omega)
              have hszw := HBW4.out.size
              obtain ⟨wq, hwq⟩ : ∃ wq, wq = wr := ⟨_, rfl⟩
              subst hwq
              clear hnx hL5 hbl hy
              go_wp2_with (first
                | (refine (cloneP12 mA mc mn b _ HBN.out (by omega) (HPT.out.pt.seen.below HBI4.out)).mono ?_; rintro e w6 ⟨v6, rfl, ho6, hb6⟩; have HO6 := Lib.hid ho6; have HB6 := Lib.hid hb6; clear ho6 hb6)
                | (at_builtin; refine wpList_appG eS w6 rfl (.tmp 37) (.tmp 39) rfl wq.heap.size v6 b rfl HO6.out nx 1 #[.string (sB nx)] rfl w6.heap.size rfl rfl HBLN.out HB6.out.size ?_; intro v7 w7 ho7 hb7; have HB7 := Lib.hid (HB6.out.trans hb7); rw [HY.out] at ho7; obtain ⟨A7, c7, rfl, hp7⟩ := own_pt ho7; rw [HYL.out] at hp7 ⊢; have HP7 := Lib.hid hp7; clear ho7 hp7 hb7)
                | (at_builtin; refine wpList_appOneK w7 rfl (.tmp 35) (.tmp 41) rfl wj.heap.size w.heap.size 500 u8 _ rfl wq HO4.out HB7.out hszw ⟨A7, mn + 1, c7⟩ y HP7.out #[.slice A7 (mn + 1) c7] rfl w7.heap.size rfl rfl HL4.out (by omega) (Nat.le_trans HBI4.out.size HB7.out.size) ?_; intro v8 w8 ho8 hb8 hg8; have HO8 := Lib.hid ho8; have HB8 := Lib.hid ((HBI4.out.trans (HB7.out.mono HBI4.out.size)).trans hb8); have HD8 := Lib.hid (side_app (side_grow HD4.out HB7.out) hg8); clear ho8 hb8 hg8))
              go_roundg (mm - (q + 1))
              case rel => exact ⟨q + 1, (by show _ = _; omega), by go_num, (by rw [HN4.out]; exact HO8.out), HD8.out, HB8.out⟩
              case measure => omega
            · have blq : decide ((q : Int) < (mm : Int)) = false := decide_eq_false (by omega)
              have blq2 : decide (q < mm) = false := decide_eq_false hlq
              have hown := HO4.out
              rw [show q = M.length by rw [HMM.out]; omega, List.take_length, ← HNX.out] at hown
              have HOE := Lib.hid hown
              clear hown
              go_wp2
              go_roundg (mj - (i + 1))
              case rel => exact ⟨i + 1, (by show _ = _; omega), by go_num, HOE.out, HBI4.out⟩
              case measure => omega
        · have bli : decide ((i : Int) < (mj : Int)) = false := decide_eq_false (by omega)
          have bli2 : decide (i < mj) = false := decide_eq_false hli
          have hown := HO.out
          rw [show i = mj by omega, HGA.out] at hown
          have HOE := Lib.hid hown.many
          clear hown
          go_wp2
          go_roundg (k - (j + 1))
          case rel => exact ⟨j + 1, (by show _ = _; omega), by go_num, HOE.out, HBJ.out.trans (HBI.out.mono HBJ.out.size)⟩
          case measure => omega
    · have blt : decide ((j : Int) < (k : Int)) = false := decide_eq_false (by omega)
      have blt2 : decide (j < k) = false := decide_eq_false hlt
      have HLE := Lib.hid (show Lj = L by rw [← HLJ.out, ← HL.out, List.take_of_length_le (by rw [HK.out]; omega)])
      have hmm : mj = m := by rw [← HMJ.out, ← HM.out, HLE.out]
      subst hmm
      go_wp2
      go_ret
      exact ⟨_, _, rfl, (by rw [← HLE.out]; exact HQ.out), HBJ.out⟩
end Go.Proofs.Ytkifapbiimlafaa
