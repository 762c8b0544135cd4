/-
  The document's side of layer 10 (ferryslipref10): Num, parts, IP, Power, Right, Prefix, value, MAC, Digits, IPText, hex, MACText, In. Condition: texts of at most 2^30 bytes.
-/
import Derived.Test.YtgefbdckngejdaaDoorAddrP
import Derived.Test.YtgefbdckngejdaaDoorTreeE
import Derived.Test.YtgefbdckngejdaaDoorOwnMany
import Derived.Test.YtgefbdckngejdaaDoorSlices
import Derived.Deep.LoopGhost
import Derived.WalkMore
namespace Go.Proofs.YtgefbdckngejdaaDoor
open Go.RowKit
set_option linter.unusedVariables false

theorem num_bad {s : List UInt8} {c : UInt8} (hc : c ∈ s) (h : N.digB c = false) : N.numL s = -1 := by
  unfold N.numL
  rw [if_pos (.inr (.inr (.inr (List.all_eq_false.2 ⟨c, hc, by rw [h]; simp⟩))))]
theorem num_all {s : List UInt8} (h0 : s ≠ []) (h1 : ¬ 10 < s.length) (h2 : ¬ (s.head? = some 48 ∧ 1 < s.length)) (h3 : s.all N.digB = true) : N.numL s = N.valL s := by
  unfold N.numL
  rw [if_neg]
  rintro (e | e | e | e)
  · exact h0 e
  · exact h1 e
  · exact h2 e
  · rw [h3] at e; cases e
theorem head_is (s : ByteArray) (h : 0 < s.size) : s.data.toList.head? = some s[0] := by
  have e : s.data.toList.take 1 = s.data.toList.take 0 ++ [s[0]] := W.take_snoc s 0 h
  cases hl : s.data.toList with
  | nil => rw [hl] at e; simp at e
  | cons x r => rw [hl] at e; simp at e; rw [e]; rfl
theorem digB_lo {c : UInt8} (h : c.toNat < 48) : N.digB c = false := by unfold N.digB; rw [decide_eq_false (by omega)]; rfl
theorem digB_hi {c : UInt8} (h : 57 < c.toNat) : N.digB c = false := by unfold N.digB; rw [decide_eq_false (show ¬ c.toNat ≤ 57 by omega), Bool.and_false]
theorem digB_in {c : UInt8} (h : 48 ≤ c.toNat) (h2 : c.toNat ≤ 57) : N.digB c = true := by unfold N.digB; rw [decide_eq_true h, decide_eq_true h2]; rfl
set_option maxRecDepth 100000 in
set_option maxHeartbeats 2000000 in
theorem numR (s : ByteArray) (w : World) (hs : s.size ≤ 1073741824) : Calls Tryd.prog 12 #[.string s] w (fun e w' => e = .returned (.int .i64 (N.numL s.data.toList)) ∧ w = w') := by
  have hsz : s.data.toList.length = s.size := by simp
  by_cases h0 : s.size = 0
  · have HE := Lib.hid (show N.numL s.data.toList = -1 by rw [List.eq_nil_of_length_eq_zero (hsz.trans h0)]; rfl)
    have b1 : decide ((s.size : Int) < 1) = true := decide_eq_true (by omega)
    have b1b : decide (s.size < 1) = true := decide_eq_true (by omega)
    have b1c : decide (s.size = 0) = true := decide_eq_true h0
    clear hsz h0
    go_enter Tryd.func12, Tryd.ntmps12
    go_wp2
    go_ret
    exact ⟨by rw [HE.out]; rfl, rfl⟩
  have hpos : 0 < s.size := by omega
  have b1 : decide ((s.size : Int) < 1) = false := decide_eq_false (by omega)
  have b1b : decide (s.size < 1) = false := decide_eq_false (by omega)
  have b1c : decide (s.size = 0) = false := decide_eq_false h0
  by_cases h1 : 10 < s.size
  · have HE := Lib.hid (show N.numL s.data.toList = -1 by unfold N.numL; rw [if_pos (.inr (.inl (by rw [hsz]; exact h1)))])
    have b2 : decide ((10 : Int) < (s.size : Int)) = true := decide_eq_true (by omega)
    have b2b : decide (10 < s.size) = true := decide_eq_true h1
    clear hsz h0 h1
    go_enter Tryd.func12, Tryd.ntmps12
    go_wp2
    go_ret
    exact ⟨by rw [HE.out]; rfl, rfl⟩
  have b2 : decide ((10 : Int) < (s.size : Int)) = false := decide_eq_false (by omega)
  have b2b : decide (10 < s.size) = false := decide_eq_false h1
  have hhd := head_is s hpos
  by_cases h2 : s[0].toNat = 48 ∧ 1 < s.size
  · have HE := Lib.hid (show N.numL s.data.toList = -1 by unfold N.numL; rw [if_pos (.inr (.inr (.inl ⟨by rw [hhd, show s[0] = 48 from UInt8.toNat_inj.1 h2.1], by rw [hsz]; exact h2.2⟩)))])
    have b3 : ((s[0].toNat : Int) == 48) = true := by simp; omega
    have b4 : decide ((1 : Int) < (s.size : Int)) = true := decide_eq_true (by omega)
    have b4b : decide (1 < s.size) = true := decide_eq_true h2.2
    clear hsz h0 h1 h2 hhd
    go_enter Tryd.func12, Tryd.ntmps12
    go_wp2
    go_ret
    exact ⟨by rw [HE.out]; rfl, rfl⟩
  have HSZ := Lib.hid hsz
  have HNE := Lib.hid (show s.data.toList ≠ [] from fun e => h0 (by rw [← hsz, e]; rfl))
  have HH := Lib.hid (show ¬ (s.data.toList.head? = some 48 ∧ 1 < s.data.toList.length) by
    rintro ⟨e1, e2⟩
    rw [hhd] at e1
    injection e1 with e1
    exact h2 ⟨by rw [e1]; rfl, by omega⟩)
  by_cases h3 : s[0].toNat = 48
  all_goals
    first
    | (have b3 : ((s[0].toNat : Int) == 48) = true := by (simp; omega)
       have b4 : decide ((1 : Int) < (s.size : Int)) = false := decide_eq_false (by omega)
       have b4b : decide (1 < s.size) = false := decide_eq_false (by omega))
    | (have b3 : ((s[0].toNat : Int) == 48) = false := by (simp; omega))
    clear hsz h0 h2 h3 hhd
    go_enter Tryd.func12, Tryd.ntmps12
    go_wp2
    go_loopg [3, 4] s.size (fun gk vn vi wr => ∃ k v : Nat, Hid (k + gk = s.size) ∧ k ≤ s.size ∧ vi = .int .i64 (k : Int) ∧ vn = .int .i64 (v : Int) ∧ Hid (N.valL (s.data.toList.take k) = v) ∧ Hid ((s.data.toList.take k).all N.digB = true) ∧ w = wr)
    case atStart => exact ⟨0, 0, Nat.zero_add _, Nat.zero_le _, rfl, rfl, rfl, rfl, rfl⟩
    case round =>
      obtain ⟨k, v, HG, hk, rfl, rfl, HV, HD, rfl⟩ := hrel
      by_cases hlt : k < s.size
      · have blt : decide ((k : Int) < (s.size : Int)) = true := decide_eq_true (by omega)
        have blt2 : decide (k < s.size) = true := decide_eq_true hlt
        have hki : (k : Int) < (s.size : Int) := by omega
        have hsn := W.take_snoc s k hlt
        have hmem : s[k] ∈ s.data.toList := List.mem_of_mem_take (i := k + 1) (by rw [hsn]; simp)
        have hv : v < 10000000000 := by
          rw [← HV.out]
          exact N.val_lt _ HD.out 10 (by rw [List.length_take]; omega)
        have hc := s[k].toNat_lt
        by_cases hlo : s[k].toNat < 48
        · have c1 : decide ((s[k].toNat : Int) < 48) = true := decide_eq_true (by omega)
          have HE := Lib.hid (num_bad hmem (digB_lo hlo))
          clear hsn hmem hlo
          go_wp2
          go_ret
          exact ⟨by rw [HE.out]; rfl, rfl⟩
        · have c1 : decide ((s[k].toNat : Int) < 48) = false := decide_eq_false (by omega)
          by_cases hhi : 57 < s[k].toNat
          · have c2 : decide ((57 : Int) < (s[k].toNat : Int)) = true := decide_eq_true (by omega)
            have c2b : decide (57 < s[k].toNat) = true := decide_eq_true hhi
            have HE := Lib.hid (num_bad hmem (digB_hi hhi))
            clear hsn hmem hlo hhi
            go_wp2
            go_ret
            exact ⟨by rw [HE.out]; rfl, rfl⟩
          · have c2 : decide ((57 : Int) < (s[k].toNat : Int)) = false := decide_eq_false (by omega)
            have c2b : decide (57 < s[k].toNat) = false := decide_eq_false hhi
            have HSN := Lib.hid hsn
            have HD2 := Lib.hid (show (s.data.toList.take (k + 1)).all N.digB = true by rw [hsn, List.all_append, HD.out]; show ([s[k]] : List UInt8).all N.digB = true; rw [List.all_cons, digB_in (by omega) (by omega)]; rfl)
            have HV2 := Lib.hid (show N.valL (s.data.toList.take (k + 1)) = 10 * v + (s[k].toNat - 48) by rw [hsn, N.val_snoc, HV.out])
            have hgk := HG.out
            have hu : IntKind.u8.wrap ((s[k].toNat : Int) - 48) = ((s[k].toNat - 48 : Nat) : Int) := by rw [IntKind.wrap_u8]; omega
            clear hsn hmem
            go_wp2
            go_roundg (s.size - (k + 1))
            case rel => exact ⟨k + 1, 10 * v + (s[k].toNat - 48), (by show _ = _; omega), by omega, by go_num, by go_num, HV2, HD2, rfl⟩
            case measure => omega
      · have blt : decide ((k : Int) < (s.size : Int)) = false := decide_eq_false (by omega)
        have blt2 : decide (k < s.size) = false := decide_eq_false hlt
        have htk : s.data.toList.take k = s.data.toList := List.take_of_length_le (by have := HSZ.out; omega)
        have HE := Lib.hid (show N.numL s.data.toList = v by
          have h5 := HV.out
          have h6 := HD.out
          rw [htk] at h5 h6
          rw [num_all HNE.out (by rw [HSZ.out]; exact h1) HH.out h6, h5])
        clear htk
        go_wp2
        go_ret
        exact ⟨by rw [HE.out]; rfl, rfl⟩
theorem numQ (x : List UInt8) (z : Int) (w : World) (hs : x.length ≤ 1073741824) (h : N.numL x = z) : Calls Tryd.prog 12 #[.string (sB x)] w (fun e w' => e = .returned (.int .i64 z) ∧ w = w') := by
  have := numR (sB x) w (by rw [sB_size]; exact hs)
  rw [sB_data, h] at this
  exact this
theorem cut_str (s : ByteArray) (a b : Nat) (hb : b ≤ s.size) : s.extract a b = sB ((s.data.toList.drop a).take (b - a)) := by
  refine ByteArray.ext (Array.ext' ?_)
  have h1 : (s.extract a b).data = s.data.extract a b := by simp [ByteArray.data_extract]
  rw [h1]
  simp [sB, Array.toList_extract, List.extract_eq_take_drop]
set_option maxRecDepth 100000 in
set_option maxHeartbeats 2000000 in
theorem partsR (s : ByteArray) (c : UInt8) (w : World) (hs : s.size ≤ 1073741824) : Calls Tryd.prog 30 #[.string s, .int .u8 c.toNat] w (OwnS eS w (N.splitL c s.data.toList)) := by
  have hsz : s.data.toList.length = s.size := by simp
  have HSZ := Lib.hid hsz
  clear hsz
  go_enter Tryd.func30, Tryd.ntmps30
  go_wp2
  go_loopg [5, 6, 7] (s.size + 1) (fun gk vo vf vi wr => ∃ (i f : Nat) (L : List (List UInt8)), Hid (i + gk = s.size + 1) ∧ vi = .int .i64 (i : Int) ∧ vf = .int .i64 (f : Int) ∧ Hid (Own eS wr w.heap.size vo L) ∧ Hid (L.length ≤ i ∧ f ≤ i) ∧ Hid ((i ≤ s.size ∧ N.CutAt c s.data.toList L f i) ∨ (i = s.size + 1 ∧ N.splitL c s.data.toList = L)) ∧ Below w.heap.size w wr)
  case atStart => exact ⟨0, 0, [], Nat.zero_add _, rfl, rfl, Own.nil _ _, ⟨Nat.le_refl _, Nat.le_refl _⟩, .inl ⟨Nat.zero_le _, N.cut_start c _⟩, Below.refl _ _⟩
  case round =>
    obtain ⟨i, f, L, HG, rfl, rfl, HO, HLF, HC, hbr⟩ := hrel
    have hgk := HG.out
    obtain ⟨hLi, hfi⟩ := HLF.out
    have hsz := hbr.size
    by_cases hle : i ≤ s.size
    · have blt : decide ((i : Int) ≤ (s.size : Int)) = true := decide_eq_true (by omega)
      have blt2 : decide (i ≤ s.size) = true := decide_eq_true hle
      have hcut : N.CutAt c s.data.toList L f i := by
        rcases HC.out with ⟨_, h⟩ | ⟨h, _⟩
        · exact h
        · omega
      have hx := cut_str s f i hle
      obtain ⟨x, hxd⟩ : ∃ x, (s.data.toList.drop f).take (i - f) = x := ⟨_, rfl⟩
      rw [hxd] at hx
      have HXD := Lib.hid hxd
      have HXS := Lib.hid hx
      clear hx
      by_cases heq : i = s.size
      · have be : ((i : Int) == (s.size : Int)) = true := by simp; omega
        have be2 : (i == s.size) = true := by simp; omega
        have HN := Lib.hid (N.cut_end hcut (by rw [HSZ.out]; exact heq))
        have HEQ := Lib.hid heq
        clear hcut hxd heq
        go_wp2_with (at_builtin; refine wpList_appG eS wr rfl (.tmp 25) (.tmp 30) rfl w.heap.size u5 L rfl HO.out x 1 _ (by rw [HXS.out]; rfl) wr.heap.size rfl rfl (by omega) hsz ?_; intro v3 w3 hown3 hb3)
        go_roundg (s.size + 1 - (i + 1))
        case rel => exact ⟨i + 1, i + 1, L ++ [x], (by show _ = _; omega), by go_num, by go_num, hown3, ⟨by rw [List.length_append, List.length_singleton]; omega, Nat.le_refl _⟩, .inr ⟨by have := HEQ.out; omega, by rw [HN.out, HXD.out]⟩, hbr.trans hb3⟩
        case measure => omega
      · have hlt : i < s.size := by omega
        have be : ((i : Int) == (s.size : Int)) = false := by simp; omega
        have be2 : (i == s.size) = false := by simp; omega
        have hki : (i : Int) < (s.size : Int) := by omega
        have hlt2 : i < s.data.toList.length := by rw [HSZ.out]; exact hlt
        have hget : s.data.toList[i] = s[i] := rfl
        by_cases hc : s[i] = c
        · have bc : ((s[i].toNat : Int) == (c.toNat : Int)) = true := by rw [hc]; simp
          have bc2 : (s[i].toNat == c.toNat) = true := by rw [hc]; simp
          have HN := Lib.hid (N.cut_here hcut hlt2 (hget.trans hc))
          clear hcut hxd hget hc
          go_wp2_with (at_builtin; refine wpList_appG eS wr rfl (.tmp 25) (.tmp 30) rfl w.heap.size u5 L rfl HO.out x 1 _ (by rw [HXS.out]; rfl) wr.heap.size rfl rfl (by omega) hsz ?_; intro v3 w3 hown3 hb3)
          go_roundg (s.size + 1 - (i + 1))
          case rel => exact ⟨i + 1, i + 1, L ++ [x], (by show _ = _; omega), by go_num, by go_num, hown3, ⟨by rw [List.length_append, List.length_singleton]; omega, Nat.le_refl _⟩, .inl ⟨by omega, by have := HN.out; rw [HXD.out] at this; exact this⟩, hbr.trans hb3⟩
          case measure => omega
        · have hne : s[i].toNat ≠ c.toNat := fun e => hc (UInt8.toNat_inj.1 e)
          have bc : ((s[i].toNat : Int) == (c.toNat : Int)) = false := by simp; omega
          have bc2 : (s[i].toNat == c.toNat) = false := by simp; omega
          have HN := Lib.hid (N.cut_other hcut hlt2 (fun e => hc (hget.symm.trans e)))
          clear hcut hxd hget hc hne
          go_wp2
          go_roundg (s.size + 1 - (i + 1))
          case rel => exact ⟨i + 1, f, L, (by show _ = _; omega), by go_num, rfl, HO, ⟨by omega, by omega⟩, .inl ⟨by omega, HN.out⟩, hbr⟩
          case measure => omega
    · have blt : decide ((i : Int) ≤ (s.size : Int)) = false := decide_eq_false (by omega)
      have blt2 : decide (i ≤ s.size) = false := decide_eq_false hle
      have HE := Lib.hid (show N.splitL c s.data.toList = L by
        rcases HC.out with ⟨h, _⟩ | ⟨_, h⟩
        · omega
        · exact h)
      go_wp2
      go_ret
      exact ⟨_, rfl, by rw [HE.out]; exact HO.out, hbr⟩
end Go.Proofs.YtgefbdckngejdaaDoor
