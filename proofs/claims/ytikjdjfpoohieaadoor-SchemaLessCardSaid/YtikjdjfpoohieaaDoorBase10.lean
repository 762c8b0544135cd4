/-
  Layer 13's code: a name, the types, the last place of a byte, whether a path meets a row. Condition: words of at most 100 bytes.
  Layer 13's code: the last place of a byte, whether a path meets a row. Condition: words of at most 100 bytes.
  Layer 13's code: the table's rows, one by one; the first row that a path meets. Condition: words of at most 100 bytes; the table holds what it was laid with.
  Layer 13's code: which row's second path a path is, the error of a path that is no statement, what a line holds. Condition: words of at most 100 bytes; the table holds what it was laid with.
  Layer 13's code: what a line of a path needs. Condition: words of at most 100 bytes; the table holds what it was laid with.
  Layer 13's code, plain laws: what its functions tell of a line are the document's faults. No conditions.
  Layer 13's code: is a line there, is an address taken, is it outside. Condition: a tree of at most 200 lines; words of at most 100 bytes; the table holds what it was laid with.
-/
import Derived.Test.YtikjdjfpoohieaaDoorBase9
import Derived.Deep.LoopGhost
import Derived.Laws.Rows
import Derived.ChangeKeysEq
import Derived.StillTailTactics
import Derived.Deep.QuietTactic
import Derived.BigQuiet

namespace Go.Proofs.YtikjdjfpoohieaaDoor
open Go.RowKit
open F
set_option linter.unusedVariables false

theorem isLetter_any (c : Nat) (r : Bool) (w : World) (hr : (decide (97 ≤ c) && decide (c ≤ 122)) = r) : Calls Tryd.prog 71 #[.int .u8 (c : Int)] w (Yes w (.bool r)) := by
  by_cases h1 : 97 ≤ c
  · have b1 : decide ((c : Int) ≥ 97) = true := decide_eq_true (by omega)
    have b1a : decide ((97 : Int) ≤ (c : Int)) = true := decide_eq_true (by omega)
    have b1b : decide (97 ≤ c) = true := decide_eq_true h1
    by_cases h2 : c ≤ 122
    · have b2 : decide ((c : Int) ≤ 122) = true := decide_eq_true (by omega)
      have b2b : decide (c ≤ 122) = true := decide_eq_true h2
      have HR := Lib.hid (show r = true by rw [← hr, b1b, b2b]; rfl)
      clear hr h1 h2
      go_enter Tryd.func71, Tryd.ntmps71
      go_wp2
      go_ret
      exact ⟨by rw [HR.out]; rfl, rfl⟩
    · have b2 : decide ((c : Int) ≤ 122) = false := decide_eq_false (by omega)
      have b2b : decide (c ≤ 122) = false := decide_eq_false h2
      have HR := Lib.hid (show r = false by rw [← hr, b1b, b2b]; rfl)
      clear hr h1 h2
      go_enter Tryd.func71, Tryd.ntmps71
      go_wp2
      go_ret
      exact ⟨by rw [HR.out]; rfl, rfl⟩
  · have b1 : decide ((c : Int) ≥ 97) = false := decide_eq_false (by omega)
    have b1a : decide ((97 : Int) ≤ (c : Int)) = false := decide_eq_false (by omega)
    have b1b : decide (97 ≤ c) = false := decide_eq_false h1
    have HR := Lib.hid (show r = false by rw [← hr, b1b]; rfl)
    clear hr h1
    go_enter Tryd.func71, Tryd.ntmps71
    go_wp2
    go_ret
    exact ⟨by rw [HR.out]; rfl, rfl⟩
set_option maxRecDepth 100000 in
set_option maxHeartbeats 4000000 in
theorem isName_any (s : ByteArray) (r : Bool) (w : World) (hs : s.size ≤ 1073741824) (hr : C.nameB s.data.toList = r) : Calls Tryd.prog 43 #[.string s] w (fun e w' => e = .returned (.bool r) ∧ w = w') := by
  have hsz : s.data.toList.length = s.size := by simp
  by_cases h0 : s.size = 0
  · have e0 : s.data.toList = [] := List.eq_nil_of_length_eq_zero (hsz.trans h0)
    have HE := Lib.hid (show r = false by rw [← hr, e0]; rfl)
    have b0 : (s.toList == []) = true := by rw [Lib.toList_data, e0]; rfl
    have b0a : s.toList = [] := by rw [Lib.toList_data, e0]
    clear hsz h0 hr e0
    go_enter Tryd.func43, Tryd.ntmps43
    go_wp2
    go_ret
    exact ⟨by rw [HE.out]; rfl, rfl⟩
  have hpos : 0 < s.size := by omega
  have e0 : s.data.toList ≠ [] := fun e => h0 (by rw [← hsz, e]; rfl)
  have b0 : (s.toList == []) = false := by rw [Lib.toList_data]; exact beq_eq_false_iff_ne.2 e0
  have b0a : ¬ s.toList = [] := by rw [Lib.toList_data]; exact e0
  by_cases h1 : 16 < s.size
  · have HE := Lib.hid (show r = false by rw [← hr]; exact name_long (by rw [hsz]; exact h1))
    have b2 : decide ((16 : Int) < (s.size : Int)) = true := decide_eq_true (by omega)
    have b2b : decide (16 < s.size) = true := decide_eq_true h1
    clear hsz h0 h1 hr e0
    go_enter Tryd.func43, Tryd.ntmps43
    go_wp2
    go_ret
    exact ⟨by rw [HE.out]; rfl, rfl⟩
  have b2 : decide ((16 : Int) < (s.size : Int)) = false := decide_eq_false (by omega)
  have b2b : decide (16 < s.size) = false := decide_eq_false h1
  have hhd := head_is s hpos
  have hposi : (0 : Int) < (s.size : Int) := by omega
  obtain ⟨lt, hlt⟩ : ∃ lt, (decide (97 ≤ s[0].toNat) && decide (s[0].toNat ≤ 122)) = lt := ⟨_, rfl⟩
  have HLT := Lib.hid hlt
  cases lt with
  | false =>
    have HE := Lib.hid (show r = false by
      rw [← hr]
      refine name_head hhd ?_
      rcases Bool.and_eq_false_iff.1 hlt with h | h
      · exact .inl (by have := of_decide_eq_false h; omega)
      · exact .inr (by have := of_decide_eq_false h; omega))
    clear hsz h0 h1 hhd hlt hr e0
    go_enter Tryd.func43, Tryd.ntmps43
    go_wp2_with fail
    refine (isLetter_any _ false _ HLT.out).mono ?_
    rintro e w1 ⟨rfl, rfl⟩
    go_wp2
    go_ret
    exact ⟨by rw [HE.out]; rfl, rfl⟩
  | true =>
  have hb := Bool.and_eq_true_iff.1 hlt
  have HHD := Lib.hid hhd
  have HSZ := Lib.hid hsz
  have HLO := Lib.hid (show 97 ≤ s[0].toNat ∧ s[0].toNat ≤ 122 ∧ s.size ≤ 16 from ⟨of_decide_eq_true hb.1, of_decide_eq_true hb.2, by omega⟩)
  have HR := Lib.hid hr
  have HPOS := Lib.hid hpos
  clear hsz h0 h1 hhd hlt hb hr e0
  go_enter Tryd.func43, Tryd.ntmps43
  go_wp2_with fail
  refine (isLetter_any _ true _ HLT.out).mono ?_
  rintro e w1 ⟨rfl, rfl⟩
  go_wp2
  go_loopg [3] s.size (fun gk vi wr => ∃ k : Nat, Hid (k + gk = s.size + 1) ∧ k ≤ s.size ∧ vi = .int .i64 (k : Int) ∧ Hid ((s.data.toList.take k).all C.okC = true) ∧ w1 = wr)
  case atStart => exact ⟨1, (by show _ = _; omega), by omega, rfl, (by
    show _ = _
    obtain ⟨h1, h2, _⟩ := HLO.out
    have := HHD.out
    cases hd : s.data.toList with
    | nil => rfl
    | cons x t =>
      rw [hd] at this
      injection this with this
      simp only [List.take_succ_cons, List.take_zero, List.all_cons, List.all_nil, Bool.and_true]
      rw [this]; exact okC_az h1 h2), rfl⟩
  case round =>
    obtain ⟨k, HG, hk, rfl, HD, rfl⟩ := hrel
    by_cases hlt : k < s.size
    · have blt : decide ((k : Int) < (s.size : Int)) = true := decide_eq_true (by omega)
      have blt2 : decide (k < s.size) = true := decide_eq_true hlt
      have hki : (k : Int) < (s.size : Int) := by omega
      have hsn := W.take_snoc s k hlt
      have hmem : s[k] ∈ s.data.toList := List.mem_of_mem_take (i := k + 1) (by rw [hsn]; simp)
      have hgk := HG.out
      obtain ⟨lk, hlk⟩ : ∃ lt, (decide (97 ≤ s[k].toNat) && decide (s[k].toNat ≤ 122)) = lt := ⟨_, rfl⟩
      have HLK := Lib.hid hlk
      have HNX := Lib.hid (show C.okC s[k] = true → (s.data.toList.take (k + 1)).all C.okC = true by intro h; rw [hsn, List.all_append, HD.out, List.all_cons, h]; rfl)
      have HNO := Lib.hid (show C.okC s[k] = false → r = false by intro h; rw [← HR.out]; exact name_bad hmem h)
      clear hsn hmem
      cases lk with
      | true =>
        have hb := Bool.and_eq_true_iff.1 hlk
        have HD2 := Lib.hid (HNX.out (okC_az (of_decide_eq_true hb.1) (of_decide_eq_true hb.2)))
        clear hlk hb
        go_wp2_with fail
        refine (isLetter_any _ true _ HLK.out).mono ?_
        rintro e w2 ⟨rfl, rfl⟩
        go_wp2
        go_roundg (s.size + 1 - (k + 1))
        case rel => exact ⟨k + 1, (by show _ = _; omega), by omega, by go_num, HD2.out, rfl⟩
        case measure => omega
      | false =>
        have hnl : ¬ (97 ≤ s[k].toNat ∧ s[k].toNat ≤ 122) := by
          rintro ⟨h1, h2⟩; rw [decide_eq_true h1, decide_eq_true h2] at hlk; cases hlk
        clear hlk
        by_cases hlo : s[k].toNat < 48
        · have c1 : decide ((s[k].toNat : Int) < 48) = true := decide_eq_true (by omega)
          have c1b : decide (s[k].toNat < 48) = true := decide_eq_true hlo
          by_cases hd : s[k].toNat = 45
          · have c3 : ((s[k].toNat : Int) != 45) = false := by rw [bne_eq_false_iff_eq]; omega
            have c3b : ((s[k].toNat : Int) == 45) = true := by rw [beq_iff_eq]; omega
            have c3c : (s[k].toNat == 45) = true := by rw [beq_iff_eq]; omega
            have HD2 := Lib.hid (HNX.out (okC_dash hd))
            clear hnl hlo hd
            go_wp2_with fail
            refine (isLetter_any _ false _ HLK.out).mono ?_
            rintro e w2 ⟨rfl, rfl⟩
            go_wp2
            go_roundg (s.size + 1 - (k + 1))
            case rel => exact ⟨k + 1, (by show _ = _; omega), by omega, by go_num, HD2.out, rfl⟩
            case measure => omega
          · have c3 : ((s[k].toNat : Int) != 45) = true := by rw [bne_iff_ne]; omega
            have c3b : ((s[k].toNat : Int) == 45) = false := by rw [beq_eq_false_iff_ne]; omega
            have c3c : (s[k].toNat == 45) = false := by rw [beq_eq_false_iff_ne]; omega
            have HE := Lib.hid (HNO.out (okC_no hnl (by omega) hd))
            clear hnl hlo hd
            go_wp2_with fail
            refine (isLetter_any _ false _ HLK.out).mono ?_
            rintro e w2 ⟨rfl, rfl⟩
            go_wp2
            go_ret
            exact ⟨by rw [HE.out]; rfl, rfl⟩
        · have c1 : decide ((s[k].toNat : Int) < 48) = false := decide_eq_false (by omega)
          have c1b : decide (s[k].toNat < 48) = false := decide_eq_false hlo
          by_cases hhi : 57 < s[k].toNat
          · have c2 : decide ((s[k].toNat : Int) > 57) = true := decide_eq_true (by omega)
            have c2a : decide ((57 : Int) < (s[k].toNat : Int)) = true := decide_eq_true (by omega)
            have c2b : decide (57 < s[k].toNat) = true := decide_eq_true hhi
            have c3 : ((s[k].toNat : Int) != 45) = true := by rw [bne_iff_ne]; omega
            have c3b : ((s[k].toNat : Int) == 45) = false := by rw [beq_eq_false_iff_ne]; omega
            have c3c : (s[k].toNat == 45) = false := by rw [beq_eq_false_iff_ne]; omega
            have HE := Lib.hid (HNO.out (okC_no hnl (by omega) (by omega)))
            clear hnl hlo hhi
            go_wp2_with fail
            refine (isLetter_any _ false _ HLK.out).mono ?_
            rintro e w2 ⟨rfl, rfl⟩
            go_wp2
            go_ret
            exact ⟨by rw [HE.out]; rfl, rfl⟩
          · have c2 : decide ((s[k].toNat : Int) > 57) = false := decide_eq_false (by omega)
            have c2a : decide ((57 : Int) < (s[k].toNat : Int)) = false := decide_eq_false (by omega)
            have c2b : decide (57 < s[k].toNat) = false := decide_eq_false hhi
            have HD2 := Lib.hid (HNX.out (okC_dig (by omega) (by omega)))
            clear hnl hlo hhi
            go_wp2_with fail
            refine (isLetter_any _ false _ HLK.out).mono ?_
            rintro e w2 ⟨rfl, rfl⟩
            go_wp2
            go_roundg (s.size + 1 - (k + 1))
            case rel => exact ⟨k + 1, (by show _ = _; omega), by omega, by go_num, HD2.out, rfl⟩
            case measure => omega
    · have blt : decide ((k : Int) < (s.size : Int)) = false := decide_eq_false (by omega)
      have blt2 : decide (k < s.size) = false := decide_eq_false hlt
      have HE := Lib.hid (show r = true by
        obtain ⟨h1, h2, h3⟩ := HLO.out
        rw [← HR.out]
        refine name_yes HHD.out h1 h2 (by rw [HSZ.out]; exact h3) ?_
        rw [← HD.out, List.take_of_length_le (by rw [HSZ.out]; omega)])
      go_wp2
      go_ret
      exact ⟨by rw [HE.out]; rfl, rfl⟩
theorem isNameQ (x : List UInt8) (r : Bool) (w : World) (hs : x.length ≤ 1073741824) (h : C.nameB x = r) : Calls Tryd.prog 43 #[.string (sB x)] w (fun e w' => e = .returned (.bool r) ∧ w = w') := isName_any (sB x) r w (by rw [sB_size]; exact hs) (by rw [sB_data]; exact h)
theorem okA_ok (z : Int) : (okA z).2 = decide (0 ≤ z) := by unfold okA; split <;> simp_all
theorem numA_ok (l : List UInt8) (a b : Int) (ha : 0 ≤ a) : (numA l a b).2 = (decide (a ≤ N.numL l) && decide (N.numL l ≤ b)) := by
  unfold numA
  by_cases h : a ≤ N.numL l ∧ N.numL l ≤ b
  · rw [if_pos ⟨by omega, h.1, h.2⟩, decide_eq_true h.1, decide_eq_true h.2]; rfl
  · rw [if_neg (fun g => h ⟨g.2.1, g.2.2⟩)]
    by_cases g : a ≤ N.numL l
    · rw [decide_eq_false (fun k => h ⟨g, k⟩), Bool.and_false]
    · rw [decide_eq_false g, Bool.false_and]
theorem prefA_ok (l : List UInt8) : (prefA l).2.2 = decide (0 ≤ (N.prefL l).1) := by unfold prefA; split <;> simp_all
set_option maxRecDepth 100000 in
set_option maxHeartbeats 8000000 in
/-- Is a word of a type? -/
theorem typeC (k x : List UInt8) (r : Bool) (w : World) (hx : x.length ≤ 100) (hr : C.typeB k x = r) : Calls Tryd.prog 17 #[.string (sB k), .string (sB x)] w (BoolS w r) := by
  have HL := Lib.hid (show x.length ≤ 1073741824 by omega)
  have HX := Lib.hid (show (sB x).size ≤ 100 by rw [sB_size]; exact hx)
  have HX2 := Lib.hid (show (sB x).size ≤ 1073741824 by rw [sB_size]; omega)
  have hb : Below w.heap.size w w := Below.refl _ _
  by_cases h0 : k = C.kName
  · have q0 : ((sB k).toList == [36, 110, 97, 109, 101]) = true := by rw [sB_toList, beq_iff_eq]; exact h0
    have hv : C.nameB x = r := by rw [← hr]; unfold C.typeB; rw [if_pos h0]
    have HV := Lib.hid hv
    clear h0 hx hr hv
    go_enter Tryd.func17, Tryd.ntmps17
    go_wp2_with fail
    refine (isNameQ x r _ HL.out HV.out).mono ?_
    rintro e w1 ⟨rfl, rfl⟩
    go_wp2
    go_ret
    exact ⟨rfl, hb⟩
  have q0 : ((sB k).toList == [36, 110, 97, 109, 101]) = false := by rw [sB_toList, beq_eq_false_iff_ne]; exact h0
  by_cases h1 : k = C.kIp
  · have q1 : ((sB k).toList == [36, 105, 112]) = true := by rw [sB_toList, beq_iff_eq]; exact h1
    have hv : decide (0 ≤ N.ipL x) = r := by rw [← hr]; unfold C.typeB; rw [if_neg h0, if_pos h1]
    obtain ⟨z, ok, hz⟩ : ∃ z ok, okA (N.ipL (sB x).data.toList) = (z, ok) := ⟨_, _, rfl⟩
    have HZ := Lib.hid hz
    have HV := Lib.hid (show ok = r by rw [← hv, ← okA_ok, ← sB_data x, hz])
    clear h0 h1 hx hr hz hv
    go_enter Tryd.func17, Tryd.ntmps17
    go_wp2_with fail
    refine (ip_any10 (sB x) z ok _ HX.out HZ.out).mono ?_
    rintro e w2 ⟨rfl, hx⟩
    go_wp2
    go_ret
    exact ⟨by rw [HV.out]; rfl, bthen hb hx⟩
  have q1 : ((sB k).toList == [36, 105, 112]) = false := by rw [sB_toList, beq_eq_false_iff_ne]; exact h1
  by_cases h2 : k = C.kPrefix
  · have q2 : ((sB k).toList == [36, 112, 114, 101, 102, 105, 120]) = true := by rw [sB_toList, beq_iff_eq]; exact h2
    have hv : decide (0 ≤ (N.prefL x).1) = r := by rw [← hr]; unfold C.typeB; rw [if_neg h0, if_neg h1, if_pos h2]
    obtain ⟨z, zb, ok, hz⟩ : ∃ z zb ok, prefA (sB x).data.toList = (z, zb, ok) := ⟨_, _, _, rfl⟩
    have HZ := Lib.hid hz
    have HV := Lib.hid (show ok = r by rw [← hv, ← prefA_ok, ← sB_data x, hz])
    clear h0 h1 h2 hx hr hz hv
    go_enter Tryd.func17, Tryd.ntmps17
    go_wp2_with fail
    refine (pref_any10 (sB x) z zb ok _ HX.out HZ.out).mono ?_
    rintro e w2 ⟨rfl, hx⟩
    go_wp2
    go_ret
    exact ⟨by rw [HV.out]; rfl, bthen hb hx⟩
  have q2 : ((sB k).toList == [36, 112, 114, 101, 102, 105, 120]) = false := by rw [sB_toList, beq_eq_false_iff_ne]; exact h2
  by_cases h3 : k = C.kMac
  · have q3 : ((sB k).toList == [36, 109, 97, 99]) = true := by rw [sB_toList, beq_iff_eq]; exact h3
    have hv : decide (0 ≤ N.macL x) = r := by rw [← hr]; unfold C.typeB; rw [if_neg h0, if_neg h1, if_neg h2, if_pos h3]
    obtain ⟨z, ok, hz⟩ : ∃ z ok, okA (N.macL (sB x).data.toList) = (z, ok) := ⟨_, _, rfl⟩
    have HZ := Lib.hid hz
    have HV := Lib.hid (show ok = r by rw [← hv, ← okA_ok, ← sB_data x, hz])
    clear h0 h1 h2 h3 hx hr hz hv
    go_enter Tryd.func17, Tryd.ntmps17
    go_wp2_with fail
    refine (mac_any10 (sB x) z ok _ HZ.out).mono ?_
    rintro e w2 ⟨rfl, rfl⟩
    go_wp2
    go_ret
    exact ⟨by rw [HV.out]; rfl, hb⟩
  have q3 : ((sB k).toList == [36, 109, 97, 99]) = false := by rw [sB_toList, beq_eq_false_iff_ne]; exact h3
  by_cases h4 : k = C.kVni
  · have q4 : ((sB k).toList == [36, 118, 110, 105]) = true := by rw [sB_toList, beq_iff_eq]; exact h4
    have hv : (decide (1 ≤ N.numL x) && decide (N.numL x ≤ 16777215)) = r := by rw [← hr]; unfold C.typeB; rw [if_neg h0, if_neg h1, if_neg h2, if_neg h3, if_pos h4]
    obtain ⟨z, ok, hz⟩ : ∃ z ok, numA (sB x).data.toList 1 16777215 = (z, ok) := ⟨_, _, rfl⟩
    have HZ := Lib.hid hz
    have HV := Lib.hid (show ok = r by rw [← hv, ← numA_ok _ _ _ (by omega), ← sB_data x, hz])
    clear h0 h1 h2 h3 h4 hx hr hz hv
    go_enter Tryd.func17, Tryd.ntmps17
    go_wp2_with fail
    refine (num_any10 (sB x) 1 16777215 z ok _ HX2.out HZ.out).mono ?_
    rintro e w2 ⟨rfl, rfl⟩
    go_wp2
    go_ret
    exact ⟨by rw [HV.out]; rfl, hb⟩
  have q4 : ((sB k).toList == [36, 118, 110, 105]) = false := by rw [sB_toList, beq_eq_false_iff_ne]; exact h4
  by_cases h5 : k = C.kNum
  · have q5 : ((sB k).toList == [36, 110, 117, 109]) = true := by rw [sB_toList, beq_iff_eq]; exact h5
    have hv : (decide (1 ≤ N.numL x) && decide (N.numL x ≤ 1000)) = r := by rw [← hr]; unfold C.typeB; rw [if_neg h0, if_neg h1, if_neg h2, if_neg h3, if_neg h4, if_pos h5]
    obtain ⟨z, ok, hz⟩ : ∃ z ok, numA (sB x).data.toList 1 1000 = (z, ok) := ⟨_, _, rfl⟩
    have HZ := Lib.hid hz
    have HV := Lib.hid (show ok = r by rw [← hv, ← numA_ok _ _ _ (by omega), ← sB_data x, hz])
    clear h0 h1 h2 h3 h4 h5 hx hr hz hv
    go_enter Tryd.func17, Tryd.ntmps17
    go_wp2_with fail
    refine (num_any10 (sB x) 1 1000 z ok _ HX2.out HZ.out).mono ?_
    rintro e w2 ⟨rfl, rfl⟩
    go_wp2
    go_ret
    exact ⟨by rw [HV.out]; rfl, hb⟩
  have q5 : ((sB k).toList == [36, 110, 117, 109]) = false := by rw [sB_toList, beq_eq_false_iff_ne]; exact h5
  by_cases h6 : k = C.kMetric
  · have q6 : ((sB k).toList == [36, 109, 101, 116, 114, 105, 99]) = true := by rw [sB_toList, beq_iff_eq]; exact h6
    have hv : C.readB x = r := by rw [← hr]; unfold C.typeB; rw [if_neg h0, if_neg h1, if_neg h2, if_neg h3, if_neg h4, if_neg h5, if_pos h6]
    have HV := Lib.hid hv
    clear h0 h1 h2 h3 h4 h5 h6 hx hr hv
    go_enter Tryd.func17, Tryd.ntmps17
    go_wp2_with fail
    refine (read_any11 (sB x) _ HX.out).mono ?_
    rintro e w2 ⟨y, ok, rfl, hrd, hx⟩
    rw [sB_data] at hrd
    have HO := Lib.hid (show ok = r by rw [← HV.out]; exact read_readB hrd)
    clear hrd
    go_wp2
    go_ret
    exact ⟨by rw [HO.out]; rfl, bthen hb hx⟩
  have q6 : ((sB k).toList == [36, 109, 101, 116, 114, 105, 99]) = false := by rw [sB_toList, beq_eq_false_iff_ne]; exact h6
  by_cases h7 : k = C.kAction
  · have q7 : ((sB k).toList == [36, 97, 99, 116, 105, 111, 110]) = true := by rw [sB_toList, beq_iff_eq]; exact h7
    have hv : (decide (x = C.wPermit) || decide (x = C.wDeny)) = r := by rw [← hr]; unfold C.typeB; rw [if_neg h0, if_neg h1, if_neg h2, if_neg h3, if_neg h4, if_neg h5, if_neg h6, if_pos h7]
    have e1 : ((sB x).toList == [112, 101, 114, 109, 105, 116]) = decide (x = C.wPermit) := by rw [sB_toList]; exact beq_decW
    have e2 : ((sB x).toList == [100, 101, 110, 121]) = decide (x = C.wDeny) := by rw [sB_toList]; exact beq_decW
    obtain ⟨p1, hp1⟩ : ∃ p, decide (x = C.wPermit) = p := ⟨_, rfl⟩
    obtain ⟨p2, hp2⟩ : ∃ p, decide (x = C.wDeny) = p := ⟨_, rfl⟩
    rw [hp1] at e1 hv
    rw [hp2] at e2 hv
    have HV := Lib.hid hv
    clear h0 h1 h2 h3 h4 h5 h6 h7 hx hr hp1 hp2 hv
    cases p1 <;> cases p2
    all_goals
      go_enter Tryd.func17, Tryd.ntmps17
      go_wp2
      go_ret
      exact ⟨by rw [← HV.out]; rfl, hb⟩
  have q7 : ((sB k).toList == [36, 97, 99, 116, 105, 111, 110]) = false := by rw [sB_toList, beq_eq_false_iff_ne]; exact h7
  have HV := Lib.hid (show r = false by rw [← hr]; unfold C.typeB; rw [if_neg h0, if_neg h1, if_neg h2, if_neg h3, if_neg h4, if_neg h5, if_neg h6, if_neg h7])
  clear h0 h1 h2 h3 h4 h5 h6 h7 hx hr
  go_enter Tryd.func17, Tryd.ntmps17
  go_wp2
  go_ret
  exact ⟨by rw [HV.out]; rfl, hb⟩
theorem pre_dollar (s : List UInt8) : Lib.hasPrefix s [36] = decide (s.head? = some 36) := by
  cases s with
  | nil => rfl
  | cons x t => rw [Bool.eq_iff_iff]; simp [Lib.hasPrefix]; exact eq_comm
/-- May a word stand where the table has that one? -/
theorem standsC (a s : List UInt8) (r : Bool) (w : World) (ha : a.length ≤ 100) (hr : C.standsB a s = r) : Calls Tryd.prog 86 #[.string (sB a), .string (sB s)] w (BoolS w r) := by
  have hb : Below w.heap.size w w := Below.refl _ _
  by_cases h : s.head? = some 36
  · have HP := Lib.hid (show Lib.hasPrefix (sB s).data.toList (⟨#[36]⟩ : ByteArray).data.toList = true by rw [sB_data]; show Lib.hasPrefix s [36] = true; rw [pre_dollar, decide_eq_true h])
    have HV := Lib.hid (show C.typeB s a = r by rw [← hr]; unfold C.standsB; rw [if_pos h])
    clear h hr
    go_enter Tryd.func86, Tryd.ntmps86
    go_wp2_with fail
    refine (prefix_any _ _ _).mono ?_
    rintro e w1 ⟨rfl, rfl⟩
    rw [HP.out]
    go_wp2_with fail
    refine (typeC s a r _ ha HV.out).mono ?_
    rintro e w1 ⟨rfl, hx⟩
    go_wp2
    go_ret
    exact ⟨rfl, bthen hb hx⟩
  · have HP := Lib.hid (show Lib.hasPrefix (sB s).data.toList (⟨#[36]⟩ : ByteArray).data.toList = false by rw [sB_data]; show Lib.hasPrefix s [36] = false; rw [pre_dollar, decide_eq_false h])
    have hv : decide (a = s) = r := by rw [← hr]; unfold C.standsB; rw [if_neg h]
    have e1 : ((sB a).toList == (sB s).toList) = r := by rw [sB_toList, sB_toList, ← hv]; exact beq_decW
    clear h hr hv
    go_enter Tryd.func86, Tryd.ntmps86
    go_wp2_with fail
    refine (prefix_any _ _ _).mono ?_
    rintro e w1 ⟨rfl, rfl⟩
    rw [HP.out]
    go_wp2
    go_ret
    exact ⟨rfl, hb⟩
end Go.Proofs.YtikjdjfpoohieaaDoor

namespace Go.Proofs.YtikjdjfpoohieaaDoor
namespace C
/-- The last place of a byte; -1: there is none. -/
def lastI (c : UInt8) (l : List UInt8) : Int := (l.length : Int) - 1 - ((l.reverse.takeWhile (fun x => x != c)).length : Int)
theorem while_all {c : UInt8} : ∀ (l r : List UInt8), c ∉ l → (l ++ r).takeWhile (fun x => x != c) = l ++ r.takeWhile (fun x => x != c)
  | [], _, _ => rfl
  | x :: l, r, h => by
    rw [List.cons_append, List.takeWhile_cons, if_pos (by rw [bne_iff_ne]; exact fun e => h (e ▸ List.mem_cons_self)), while_all l r (fun g => h (List.mem_cons_of_mem _ g)), List.cons_append]
theorem last_none {c : UInt8} {l : List UInt8} (h : c ∉ l) : lastI c l = -1 := by
  unfold lastI
  have e := while_all l.reverse [] (by rwa [List.mem_reverse])
  rw [List.append_nil] at e
  rw [e, List.takeWhile_nil, List.append_nil, List.length_reverse]; omega
theorem last_at {c : UInt8} {l : List UInt8} {i : Nat} (hc : l[i]? = some c) (h : c ∉ l.drop (i + 1)) : lastI c l = (i : Int) := by
  obtain ⟨hi, hx⟩ := List.getElem?_eq_some_iff.1 hc
  have e : l = l.take i ++ c :: l.drop (i + 1) := by
    have := (List.take_append_drop i l).symm
    rw [List.drop_eq_getElem_cons hi, hx] at this
    exact this
  have e2 : l.reverse = (l.drop (i + 1)).reverse ++ (c :: (l.take i).reverse) := by
    conv => lhs; rw [e]
    rw [List.reverse_append, List.reverse_cons, List.append_assoc]; rfl
  have e3 : l.reverse.takeWhile (fun x => x != c) = (l.drop (i + 1)).reverse := by
    rw [e2, while_all _ _ (by rwa [List.mem_reverse]), List.takeWhile_cons, if_neg (by simp), List.append_nil]
  unfold lastI
  rw [e3, List.length_reverse, List.length_drop]; omega
theorem drop_next {c x : UInt8} {l : List UInt8} {i : Nat} (hx : l[i]? = some x) (hne : x ≠ c) (h : c ∉ l.drop (i + 1)) : c ∉ l.drop i := by
  obtain ⟨hi, hx⟩ := List.getElem?_eq_some_iff.1 hx
  rw [List.drop_eq_getElem_cons hi, hx, List.mem_cons]
  rintro (e | e)
  · exact hne e.symm
  · exact h e
end C
open Go.RowKit
open F
open T (Pth)
set_option linter.unusedVariables false

set_option maxRecDepth 100000 in
theorem lastByte_any (s : ByteArray) (c : UInt8) (z : Int) (w : World) (hs : s.size ≤ 1073741824) (hz : C.lastI c s.data.toList = z) : Calls Tryd.prog 84 #[.string s, .int .u8 (c.toNat : Int)] w (fun e w' => e = .returned (.int .i64 z) ∧ w = w') := by
  obtain ⟨n, hn⟩ : ∃ n, s.size = n := ⟨_, rfl⟩
  have hln : s.data.toList.length = n := by rw [← Lib.size_eq]; exact hn
  have HNS := Lib.hid hn
  have HLN := Lib.hid hln
  have HZ := Lib.hid hz
  rw [hn] at hs
  clear hln hz
  go_enter Tryd.func84, Tryd.ntmps84
  go_wp2
  go_loopg [5] n (fun gk vi wr => ∃ y : Int, Hid (y + 1 = (gk : Int)) ∧ vi = .int .i64 y ∧ gk ≤ n ∧ Hid (c ∉ s.data.toList.drop gk) ∧ w = wr)
  case atStart => exact ⟨(n : Int) - 1, (by show _ = _; omega), (by go_num), Nat.le_refl _, (by show _ ∉ _; rw [List.drop_eq_nil_of_le (by rw [HLN.out]; exact Nat.le_refl _)]; exact List.not_mem_nil), rfl⟩
  case round =>
    obtain ⟨y0, HY, rfl, hgn, HF, rfl⟩ := hrel
    by_cases hy : 0 ≤ y0
    · obtain ⟨y, rfl⟩ := Int.eq_ofNat_of_zero_le hy
      have c1 : decide ((0 : Int) ≤ (y : Int)) = true := decide_eq_true hy
      have c1a : decide ((y : Int) ≥ 0) = true := decide_eq_true hy
      obtain rfl : y + 1 = gk := by have := HY.out; omega
      have hyn : y < n := by omega
      have hys : y < s.size := by rw [HNS.out]; exact hyn
      have hyi : (y : Int) < (n : Int) := by omega
      have HAT := Lib.hid (at_of s y hys)
      by_cases he : s[y] = c
      · have e1 : ((s[y].toNat : Int) == (c.toNat : Int)) = true := by rw [he]; exact beq_self_eq_true _
        have e1b : (s[y].toNat == c.toNat) = true := by rw [he]; exact beq_self_eq_true _
        have e1c : (s[y] == c) = true := by rw [he]; exact beq_self_eq_true _
        have HE := Lib.hid (show z = (y : Int) by rw [← HZ.out]; exact C.last_at (by rw [← he]; exact HAT.out) HF.out)
        clear he hy
        go_wp2
        go_ret
        exact ⟨by rw [HE.out]; rfl, rfl⟩
      · have hne : s[y].toNat ≠ c.toNat := fun e => he (UInt8.toNat_inj.1 e)
        have e1 : ((s[y].toNat : Int) == (c.toNat : Int)) = false := beq_eq_false_iff_ne.2 (by omega)
        have e1b : (s[y].toNat == c.toNat) = false := beq_eq_false_iff_ne.2 hne
        have e1c : (s[y] == c) = false := beq_eq_false_iff_ne.2 he
        have HF2 := Lib.hid (C.drop_next HAT.out he HF.out)
        clear he hne hy
        go_wp2
        go_roundg y
        case rel => exact ⟨(y : Int) - 1, (by show _ = _; omega), (by go_num), by omega, HF2.out, rfl⟩
        case measure => omega
    · have c1 : decide ((0 : Int) ≤ y0) = false := decide_eq_false hy
      have c1a : decide (y0 ≥ 0) = false := decide_eq_false hy
      have HE := Lib.hid (show z = -1 by
        have h0 : gk = 0 := by have := HY.out; omega
        subst h0
        rw [← HZ.out]; exact C.last_none (by simpa using HF.out))
      clear hy
      go_wp2
      go_ret
      exact ⟨by rw [HE.out]; rfl, rfl⟩
theorem lastIndex_any (s : ByteArray) (c : UInt8) (z : Int) (w : World) (hs : s.size ≤ 1073741824) (hz : C.lastI c s.data.toList = z) : Calls Tryd.prog 55 #[.string s, .string ⟨#[c]⟩] w (fun e w' => e = .returned (.int .i64 z) ∧ w = w') := by
  have b1 : ((⟨#[c]⟩ : ByteArray).size : Int) = 1 := rfl
  have b2 : (⟨#[c]⟩ : ByteArray)[0]? = some c := rfl
  go_enter Tryd.func55, Tryd.ntmps55
  go_wp2_with fail
  refine (lastByte_any s c z _ hs hz).mono ?_
  rintro e w1 ⟨rfl, rfl⟩
  go_wp2
  go_ret
  exact ⟨rfl, rfl⟩
theorem cutQ (x : List UInt8) (w : World) (hs : x.length ≤ 100) : Calls Tryd.prog 72 #[.string (sB x), .string ⟨#[32]⟩] w (fun e w' => ∃ a b f, e = .returned (.tuple #[.string (sB a), .string (sB b), .bool f]) ∧ CutIs 32 x a b f ∧ Below w.heap.size w w') := by
  refine (cut_any10 (sB x) 32 w (by rw [sB_size]; omega)).mono ?_
  rintro e w' ⟨⟨a, b, f, rfl, h⟩, hb⟩
  rw [sB_data] at h
  exact ⟨a, b, f, rfl, h, hb⟩
set_option maxRecDepth 100000 in
set_option maxHeartbeats 4000000 in
/-- Is a path, word by word, what the table says? -/
theorem meetsC (A : Option Addr) (c n : Nat) (p : Pth) (s : List UInt8) (r : Bool) (w : World) (hn : p.length = n) (hA : Seen eS w A p) (hsw : ShortW p) (hl : n ≤ 1073741824) (hs : s.length ≤ 100) (hr : C.meetsB p s = r) :
    Calls Tryd.prog 56 #[.slice A n c, .string (sB s)] w (BoolS w r) := by
  rcases Nat.eq_zero_or_pos n with h0 | h0
  · subst h0
    have hp : p = [] := List.eq_nil_of_length_eq_zero hn
    have HE := Lib.hid (show r = false by rw [← hr, hp]; exact C.meets_nil s)
    clear hr hp
    go_enter Tryd.func56, Tryd.ntmps56
    go_wp2
    go_loopg [1, 12] 0 (fun gk vs vi wr => vi = .int .i64 0 ∧ w = wr)
    case atStart => exact ⟨rfl, rfl⟩
    case round =>
      obtain ⟨rfl, rfl⟩ := hrel
      go_wp2
      go_ret
      exact ⟨by rw [HE.out]; rfl, Below.refl _ _⟩
  obtain ⟨m, rfl⟩ : ∃ m, n = m + 1 := ⟨n - 1, by omega⟩
  have j1 : ((m + 1 : Nat) : Int) - 1 = (m : Int) := by omega
  have j2 : IntKind.i64.wrap (m : Int) = (m : Int) := by rw [IntKind.wrap_i64]; omega
  have HN := Lib.hid hn
  have HA := Lib.hid hA
  have HSW := Lib.hid hsw
  have HR := Lib.hid hr
  have hpos : 0 < p.length := by omega
  obtain ⟨b, o, rfl, hbw, hL⟩ := hA hpos
  have HL := Lib.hid hL
  clear hn hA hsw hr hL
  go_enter Tryd.func56, Tryd.ntmps56
  go_wp2
  go_loopg [1, 12] (m + 1) (fun gk vs vi wr => ∃ (k : Nat) (rest : List UInt8), Hid (k + gk = m + 1) ∧ k ≤ m + 1 ∧ vs = .string (sB rest) ∧ vi = .int .i64 (k : Int) ∧ Hid (rest.length ≤ 100) ∧ Hid ((k < m + 1 → C.matchB (p.drop k) (N.splitL 32 rest) = r) ∧ (k = m + 1 → r = true)) ∧ Below w.heap.size w wr)
  case atStart => exact ⟨0, s, Nat.zero_add _, Nat.zero_le _, rfl, rfl, hs, ⟨fun _ => HR.out, fun h => by omega⟩, Below.refl _ _⟩
  case round =>
    obtain ⟨k, rest, HG, hk, rfl, rfl, HRL, HM, hb⟩ := hrel
    have hgk := HG.out
    by_cases hlt : k < m + 1
    · have blt : decide ((k : Int) < ((m + 1 : Nat) : Int)) = true := decide_eq_true (by omega)
      have blt2 : decide (k < m + 1) = true := decide_eq_true hlt
      have hki : (k : Int) < ((m + 1 : Nat) : Int) := by omega
      have hkp : k < p.length := by rw [HN.out]; exact hlt
      obtain ⟨x, hx⟩ : ∃ x, p[k]? = some x := ⟨_, List.getElem?_eq_getElem hkp⟩
      have c0 : wr.cell? ⟨b, o + k, none⟩ = some (.string (sB x)) := cellS (HL.out.below hb hbw) hx
      have HX := Lib.hid (show x.length ≤ 100 from HSW.out x (List.mem_of_getElem? hx))
      have HDR := Lib.hid (show p.drop k = x :: p.drop (k + 1) by rw [List.drop_eq_getElem_cons hkp]; congr 1; exact (List.getElem?_eq_some_iff.1 hx).2)
      clear hx
      go_wp2_with fail
      refine (cutQ rest _ HRL.out).mono ?_
      rintro e w2 ⟨a, b2, f, rfl, hc, hx⟩
      replace hb := bthen hb hx
      clear hx
      have HAB := Lib.hid (hc.small HRL.out)
      obtain ⟨sb, hsb⟩ : ∃ sb, C.standsB x a = sb := ⟨_, rfl⟩
      have HSB := Lib.hid hsb
      have HCU := Lib.hid hc
      clear hc hsb
      have HW := Lib.hid (HM.out.1 hlt)
      cases sb with
      | false =>
        have HE := Lib.hid (show r = false by
          rw [← HW.out, HDR.out]
          cases f with
          | false => rw [(cut_false HCU.out).1]; show (C.standsB x a && _) = false; rw [HSB.out]; rfl
          | true => rw [(cut_true HCU.out).1]; show (C.standsB x a && _) = false; rw [HSB.out]; rfl)
        go_wp2_with fail
        refine (standsC x a false _ HX.out HSB.out).mono ?_
        rintro e w3 ⟨rfl, hx⟩
        go_wp2
        go_ret
        exact ⟨by rw [HE.out]; rfl, bthen hb hx⟩
      | true =>
        by_cases hkm : k < m
        · have d1 : decide ((k : Int) < (m : Int)) = true := decide_eq_true (by omega)
          have d1b : decide (k < m) = true := decide_eq_true hkm
          cases f with
          | false =>
            have HE := Lib.hid (show r = false by
              rw [← HW.out, HDR.out, (cut_false HCU.out).1]
              show (C.standsB x a && _) = false
              rw [C.match_none _ (fun e => by have := congrArg List.length e; rw [List.length_drop, HN.out] at this; simp at this; omega), Bool.and_false])
            go_wp2_with fail
            refine (standsC x a true _ HX.out HSB.out).mono ?_
            rintro e w3 ⟨rfl, hx⟩
            go_wp2
            go_ret
            exact ⟨by rw [HE.out]; rfl, bthen hb hx⟩
          | true =>
            have HM2 := Lib.hid (show C.matchB (p.drop (k + 1)) (N.splitL 32 b2) = r by
              rw [← HW.out, HDR.out, (cut_true HCU.out).1]
              show _ = (C.standsB x a && _)
              rw [HSB.out, Bool.true_and])
            go_wp2_with fail
            refine (standsC x a true _ HX.out HSB.out).mono ?_
            rintro e w3 ⟨rfl, hx⟩
            go_wp2
            go_roundg (m + 1 - (k + 1))
            case rel => exact ⟨k + 1, b2, (by show _ = _; omega), by omega, rfl, by go_num, HAB.out.2, ⟨fun _ => HM2.out, fun h => by omega⟩, bthen hb hx⟩
            case measure => omega
        · have d1 : decide ((k : Int) < (m : Int)) = false := decide_eq_false (by omega)
          have d1b : decide (k < m) = false := decide_eq_false hkm
          have HD0 := Lib.hid (show p.drop (k + 1) = [] from List.drop_eq_nil_of_le (by rw [HN.out]; omega))
          cases f with
          | false =>
            have HE := Lib.hid (show r = true by
              rw [← HW.out, HDR.out, (cut_false HCU.out).1, HD0.out]
              show (C.standsB x a && true) = true
              rw [HSB.out]; rfl)
            go_wp2_with fail
            refine (standsC x a true _ HX.out HSB.out).mono ?_
            rintro e w3 ⟨rfl, hx⟩
            go_wp2
            go_roundg (m + 1 - (k + 1))
            case rel => exact ⟨k + 1, b2, (by show _ = _; omega), by omega, rfl, by go_num, HAB.out.2, ⟨fun h => by omega, fun _ => HE.out⟩, bthen hb hx⟩
            case measure => omega
          | true =>
            have HE := Lib.hid (show r = false by
              rw [← HW.out, HDR.out, (cut_true HCU.out).1, HD0.out]
              show (C.standsB x a && C.matchB [] _) = false
              rw [C.match_nil (N.split_ne 32 b2), Bool.and_false])
            go_wp2_with fail
            refine (standsC x a true _ HX.out HSB.out).mono ?_
            rintro e w3 ⟨rfl, hx⟩
            go_wp2
            go_ret
            exact ⟨by rw [HE.out]; rfl, bthen hb hx⟩
    · have blt : decide ((k : Int) < ((m + 1 : Nat) : Int)) = false := decide_eq_false (by omega)
      have blt2 : decide (k < m + 1) = false := decide_eq_false hlt
      have HE := Lib.hid (HM.out.2 (by omega))
      have d2 : decide (((m + 1 : Nat) : Int) > 0) = true := decide_eq_true (by omega)
      have d2a : decide ((0 : Int) < ((m + 1 : Nat) : Int)) = true := decide_eq_true (by omega)
      go_wp2
      go_ret
      exact ⟨by rw [HE.out]; rfl, hb⟩
end Go.Proofs.YtikjdjfpoohieaaDoor

namespace Go.Proofs.YtikjdjfpoohieaaDoor
namespace C
def rowOf : Option Rw → Wd × Wd × Bool × Bool × Bool
  | none => ([], [], false, false, false)
  | some r => (r.1, r.2.1, r.2.2.1, r.2.2.2, true)
theorem rows_len : rowsL.length = 17 := rfl
theorem rows_short : ∀ r ∈ rowsL, r.1.length ≤ 100 ∧ r.2.1.length ≤ 100 := by decide +kernel
theorem find_next {p : T.Pth} {k : Nat} {r : Rw} (hr : rowsL[k]? = some r) (h : (rowsL.take k).find? (fun r => meetsB p r.1) = none) (hm : meetsB p r.1 = false) : (rowsL.take (k + 1)).find? (fun r => meetsB p r.1) = none := by
  obtain ⟨h5, h6⟩ := List.getElem?_eq_some_iff.1 hr
  rw [List.take_succ_eq_append_getElem h5, h6, List.find?_append, h, List.find?_cons, hm]; rfl
theorem find_hit {p : T.Pth} {k : Nat} {r : Rw} (hr : rowsL[k]? = some r) (h : (rowsL.take k).find? (fun r => meetsB p r.1) = none) (hm : meetsB p r.1 = true) : firstR p = some r := by
  obtain ⟨h5, h6⟩ := List.getElem?_eq_some_iff.1 hr
  unfold firstR
  rw [← List.take_append_drop k rowsL, List.find?_append, h, List.drop_eq_getElem_cons h5, h6, List.find?_cons, hm]; rfl
end C
open Go.RowKit
open F
open T (Pth)
set_option linter.unusedVariables false

def rowsC : Array Value := (rowsL.flatMap rowV).toArray
theorem rows_heap {w : World} (h : RowsOk w) : ∃ t fr, w.heap[0]? = some (.cells rowsC t fr) := by
  unfold RowsOk World.var? at h
  rw [show Tryd.prog.globalNamed "ferryslip/schema.rows" = some 0 by kernel_rfl] at h
  simp only [Option.bind_some] at h
  split at h
  · rename_i cs t fr e
    injection h with h
    rw [e, h]; exact ⟨t, fr, rfl⟩
  · cases h
theorem rows_info : (Tryd.prog.info? 79).map (·.size) = some rowsC.size := by kernel_rfl
/-- A row of the table in a block of its own. -/
def RowB (w : World) (g : Nat) (s1 s2 : C.Wd) (b1 b2 : Bool) : Prop := w.heap[g]? = some (.cells #[.string (sB s1), .string (sB s2), .bool b1, .bool b2] 78 (0, 0))
theorem RowB.cells {w : World} {g : Nat} {s1 s2 : C.Wd} {b1 b2 : Bool} (h : RowB w g s1 s2 b1 b2) : w.cell? ⟨g, 0, none⟩ = some (.string (sB s1)) ∧ w.cell? ⟨g, 1, none⟩ = some (.string (sB s2)) ∧ w.cell? ⟨g, 2, none⟩ = some (.bool b1) ∧ w.cell? ⟨g, 3, none⟩ = some (.bool b2) :=
  ⟨cell_of_row w g 0 _ _ _ h, cell_of_row w g 1 _ _ _ h, cell_of_row w g 2 _ _ _ h, cell_of_row w g 3 _ _ _ h⟩
theorem RowB.fzn {w : World} {g : Nat} {s1 s2 : C.Wd} {b1 b2 : Bool} (h : RowB w g s1 s2 b1 b2) (j : Nat) : w.frozen? ⟨g, j, none⟩ = false := frozen_of_row w g j _ _ h
theorem RowB.keep {w w1 : World} {B g : Nat} {s1 s2 : C.Wd} {b1 b2 : Bool} (h : RowB w g s1 s2 b1 b2) (hb : Below B w w1) (hg : g < B) : RowB w1 g s1 s2 b1 b2 := (hb.block g hg).trans h
theorem RowB.lt {w : World} {g : Nat} {s1 s2 : C.Wd} {b1 b2 : Bool} (h : RowB w g s1 s2 b1 b2) : g < w.heap.size := (Array.getElem?_eq_some_iff.1 h).1
theorem RowB.new (w : World) (s1 s2 : C.Wd) (b1 b2 : Bool) : RowB (w.alloc (.cells #[.string (sB s1), .string (sB s2), .bool b1, .bool b2] 78)) w.heap.size s1 s2 b1 b2 := heap_alloc_new w _
theorem RowB.set {w : World} {g : Nat} {s1 s2 : C.Wd} {b1 b2 : Bool} (h : RowB w g s1 s2 b1 b2) (u1 u2 : C.Wd) (c1 c2 : Bool) : RowB ((((w.setCell ⟨g, 0, none⟩ (.string (sB u1))).setCell ⟨g, 1, none⟩ (.string (sB u2))).setCell ⟨g, 2, none⟩ (.bool c1)).setCell ⟨g, 3, none⟩ (.bool c2)) g u1 u2 c1 c2 :=
  Joins.block_setCell (i := 3) (Joins.block_setCell (i := 2) (Joins.block_setCell (i := 1) (Joins.block_setCell (i := 0) h _) _) _) _
theorem RowB.bare {w : World} {g : Nat} {s1 s2 : C.Wd} {b1 b2 : Bool} (h : RowB w g s1 s2 b1 b2) : ((((w.setCell ⟨g, 0, none⟩ (.string ⟨#[]⟩)).setCell ⟨g, 1, none⟩ (.string ⟨#[]⟩)).setCell ⟨g, 2, none⟩ (.bool false)).setCell ⟨g, 3, none⟩ (.bool false)).cell? ⟨g, 0, none⟩ = some (.string ⟨#[]⟩) ∧ ((((w.setCell ⟨g, 0, none⟩ (.string ⟨#[]⟩)).setCell ⟨g, 1, none⟩ (.string ⟨#[]⟩)).setCell ⟨g, 2, none⟩ (.bool false)).setCell ⟨g, 3, none⟩ (.bool false)).cell? ⟨g, 1, none⟩ = some (.string ⟨#[]⟩) ∧ ((((w.setCell ⟨g, 0, none⟩ (.string ⟨#[]⟩)).setCell ⟨g, 1, none⟩ (.string ⟨#[]⟩)).setCell ⟨g, 2, none⟩ (.bool false)).setCell ⟨g, 3, none⟩ (.bool false)).cell? ⟨g, 2, none⟩ = some (.bool false) ∧ ((((w.setCell ⟨g, 0, none⟩ (.string ⟨#[]⟩)).setCell ⟨g, 1, none⟩ (.string ⟨#[]⟩)).setCell ⟨g, 2, none⟩ (.bool false)).setCell ⟨g, 3, none⟩ (.bool false)).cell? ⟨g, 3, none⟩ = some (.bool false) := (h.set [] [] false false).cells
theorem below_set4 {B g : Nat} {w0 w : World} (h : Below B w0 w) (hg : B ≤ g) (v0 v1 v2 v3 : Value) : Below B w0 ((((w.setCell ⟨g, 0, none⟩ v0).setCell ⟨g, 1, none⟩ v1).setCell ⟨g, 2, none⟩ v2).setCell ⟨g, 3, none⟩ v3) :=
  (((h.setCell hg v0).setCell hg v1).setCell hg v2).setCell hg v3
set_option maxRecDepth 100000 in
theorem rowsCut (k : Nat) (hk : k < 17) : rowsC.extract (k * 4) (k * 4 + 4) = (rowV (rowsL.getD k ([], [], false, false))).toArray := by
  have hs : k = 0 ∨ k = 1 ∨ k = 2 ∨ k = 3 ∨ k = 4 ∨ k = 5 ∨ k = 6 ∨ k = 7 ∨ k = 8 ∨ k = 9 ∨ k = 10 ∨ k = 11 ∨ k = 12 ∨ k = 13 ∨ k = 14 ∨ k = 15 ∨ k = 16 := by omega
  clear hk
  rcases hs with rfl | rfl | rfl | rfl | rfl | rfl | rfl | rfl | rfl | rfl | rfl | rfl | rfl | rfl | rfl | rfl | rfl <;> rfl
theorem rowAt_all (k : Nat) (hk : k < 17) (w : World) : (Instr.index 79 (.agg rowsC) (.int .i64 (k : Int))).run Tryd.prog w = .ok (.agg (rowV (rowsL.getD k ([], [], false, false))).toArray) w := by
  have hn : 0 ≤ (k : Int) ∧ (k : Int) < 17 := by omega
  rw [← rowsCut k hk]
  simp [Instr.index, run_underlying Tryd.underlying79, asIntOf, hn, hk, part, Sem.run_bind]
/-- A row out of the table. -/
theorem row_at {k : Nat} {s1 s2 : C.Wd} {b1 b2 : Bool} (hr : rowsL[k]? = some (s1, s2, b1, b2)) (w : World) : (Instr.index 79 (.agg rowsC) (.int .i64 (k : Int))).run Tryd.prog w = .ok (.agg #[.string (sB s1), .string (sB s2), .bool b1, .bool b2]) w := by
  have hk : k < 17 := (List.getElem?_eq_some_iff.1 hr).1
  rw [rowAt_all k hk w, List.getD_eq_getElem?_getD, hr]; rfl
theorem wpList_index_row {ops : Array Oper} {rest : List Oper} {o : Oper} {a : Act} {w : World} {Q : Exit → Act → World → Prop} (hgd : o.guard = none) (x i : Operand) (ho : o.op = .index 79 x i)
    (cs : Array Value) (hcs : rowsC = cs) (k : Nat) {s1 s2 : C.Wd} {b1 b2 : Bool} (hr : rowsL[k]? = some (s1, s2, b1, b2)) (hx : a.eval x = .agg cs) (hi : a.eval i = .int .i64 (k : Int))
    (h : wpList Tryd.prog ops Q rest (a.put o.dst (.agg #[.string (sB s1), .string (sB s2), .bool b1, .bool b2])) w) : wpList Tryd.prog ops Q (o :: rest) a w :=
  wpList_plain hgd fun _ hK => by
    subst hcs
    unfold Oper.wp execOp
    simp only [ho, hx, hi, Sem.run_bind, Sem.run_pure, Result.andThen_ok, row_at hr]
    exact hK _ _ h
set_option maxRecDepth 100000 in
set_option maxHeartbeats 8000000 in
theorem firstC (A : Option Addr) (c n : Nat) (p : Pth) (k1 k2 : C.Wd) (b1 b2 ok : Bool) (w : World) (hn : p.length = n) (hA : Seen eS w A p) (hsw : ShortW p) (hl : n ≤ 1073741824) (HT : RowsOk w) (hr : C.rowOf (C.firstR p) = (k1, k2, b1, b2, ok)) :
    Calls Tryd.prog 63 #[.slice A n c] w (fun e w' => e = .returned (.tuple #[.agg #[.string (sB k1), .string (sB k2), .bool b1, .bool b2], .bool ok]) ∧ Below w.heap.size w w') := by
  have HN := Lib.hid hn
  have HA := Lib.hid hA
  have HSW := Lib.hid hsw
  have HR := Lib.hid hr
  have hb0 := up w (.cells #[.string ⟨#[]⟩, .string ⟨#[]⟩, .bool false, .bool false] 78)
  obtain ⟨tt, fr, hg1⟩ := rows_heap (HT.below hb0)
  obtain ⟨cs, hcs⟩ : ∃ cs, rowsC = cs := ⟨_, rfl⟩
  have hin := rows_info
  rw [hcs] at hg1 hin
  have HCS := Lib.hid hcs
  have HZ := Lib.hid (show RowB (w.alloc (.cells #[.string ⟨#[]⟩, .string ⟨#[]⟩, .bool false, .bool false] 78)) w.heap.size [] [] false false from RowB.new w [] [] false false)
  clear hn hA hsw hr hcs HT
  go_enter Tryd.func63, Tryd.ntmps63
  go_wp2_with (refine wpList_load_row rfl 79 _ rfl 0 rfl tt _ fr _ hg1 Tryd.underlying79 rfl hin ?_)
  go_loopg [7] 17 (fun gk vi wr => ∃ k : Nat, Hid (k + gk = 17) ∧ k ≤ 17 ∧ vi = .int .i64 (k : Int) ∧ Hid ((rowsL.take k).find? (fun r => C.meetsB p r.1) = none) ∧ Hid (RowB wr w.heap.size [] [] false false) ∧ Below w.heap.size w wr)
  case atStart => exact ⟨0, Nat.zero_add _, Nat.zero_le _, rfl, rfl, HZ.out, hb0⟩
  case round =>
    obtain ⟨k, HG, hk, rfl, HF, HB, hb⟩ := hrel
    have hgk := HG.out
    by_cases hlt : k < 17
    · have blt : decide ((k : Int) < 17) = true := decide_eq_true (by omega)
      have blt2 : decide (k < 17) = true := decide_eq_true hlt
      obtain ⟨⟨s1, s2, d1, d2⟩, hrk⟩ : ∃ r, rowsL[k]? = some r := ⟨_, List.getElem?_eq_getElem (by rw [C.rows_len]; exact hlt)⟩
      have HRK := Lib.hid hrk
      have HSH := Lib.hid (C.rows_short _ (List.mem_of_getElem? hrk))
      obtain ⟨mb, hmb⟩ : ∃ mb, C.meetsB p s1 = mb := ⟨_, rfl⟩
      have HMB := Lib.hid hmb
      have hbr := bthen hb (up wr (.cells #[.string (sB s1), .string (sB s2), .bool d1, .bool d2] 78))
      have HB1 := Lib.hid (HB.out.keep (up wr (.cells #[.string (sB s1), .string (sB s2), .bool d1, .bool d2] 78)) HB.out.lt)
      clear hrk hmb
      go_wp2_with (refine wpList_index_row rfl _ _ rfl cs HCS.out k HRK.out rfl rfl ?_)
      refine (meetsC A c n p s1 mb _ HN.out (HA.out.below hbr) HSW.out hl HSH.out.1 HMB.out).mono ?_
      rintro e w2 ⟨rfl, hx⟩
      have HB2 := Lib.hid (HB1.out.keep hx HB1.out.lt)
      have HRB := Lib.hid ((RowB.new wr s1 s2 d1 d2).keep hx (RowB.new wr s1 s2 d1 d2).lt)
      have hb2 := bthen hbr hx
      clear hx hbr
      cases mb with
      | true =>
        have HE := Lib.hid (show (k1, k2, b1, b2, ok) = (s1, s2, d1, d2, true) by rw [← HR.out, C.find_hit HRK.out HF.out HMB.out]; rfl)
        obtain ⟨c0, c1, c2, c3⟩ := HRB.out.cells
        obtain ⟨z0, z1, z2, z3⟩ := HB2.out.cells
        have f0 := HB2.out.fzn 0
        have f1 := HB2.out.fzn 1
        have f2 := HB2.out.fzn 2
        have f3 := HB2.out.fzn 3
        go_wp2
        have HW := HB2.out.set s1 s2 d1 d2
        obtain ⟨y0, y1, y2, y3⟩ := HW.cells
        refine bodyPost_ret (v := .tuple #[.agg #[.string (sB s1), .string (sB s2), .bool d1, .bool d2], .bool true]) (by simp [results, Tryd.results63, go_sem, y0, y1, y2, y3]) rfl ⟨?_, below_set4 hb2 (Nat.le_refl _) _ _ _ _⟩
        have := HE.out
        simp only [Prod.mk.injEq] at this
        obtain ⟨rfl, rfl, rfl, rfl, rfl⟩ := this
        rfl
      | false =>
        have HF2 := Lib.hid (C.find_next HRK.out HF.out HMB.out)
        go_wp2
        go_roundg (17 - (k + 1))
        case rel => exact ⟨k + 1, (by show _ = _; omega), by omega, by go_num, HF2.out, HB2.out, hb2⟩
        case measure => omega
    · have blt : decide ((k : Int) < 17) = false := decide_eq_false (by omega)
      have blt2 : decide (k < 17) = false := decide_eq_false hlt
      obtain rfl : k = 17 := by omega
      have HE := Lib.hid (show (k1, k2, b1, b2, ok) = ([], [], false, false, false) by
        have := HF.out
        rw [List.take_of_length_le (by rw [C.rows_len]; exact Nat.le_refl _)] at this
        rw [← HR.out, show C.firstR p = none from this]; rfl)
      obtain ⟨z0, z1, z2, z3⟩ := HB.out.cells
      have f0 := HB.out.fzn 0
      have f1 := HB.out.fzn 1
      have f2 := HB.out.fzn 2
      have f3 := HB.out.fzn 3
      go_wp2
      obtain ⟨y0, y1, y2, y3⟩ := HB.out.bare
      refine bodyPost_ret (v := .tuple #[.agg #[.string ⟨#[]⟩, .string ⟨#[]⟩, .bool false, .bool false], .bool false]) (by simp [results, Tryd.results63, go_sem, y0, y1, y2, y3]) rfl ⟨?_, below_set4 hb (Nat.le_refl _) _ _ _ _⟩
      have := HE.out
      simp only [Prod.mk.injEq] at this
      obtain ⟨rfl, rfl, rfl, rfl, rfl⟩ := this
      rfl
end Go.Proofs.YtikjdjfpoohieaaDoor

namespace Go.Proofs.YtikjdjfpoohieaaDoor
namespace C
open T (Pth)
/-- The first path of the row whose second one a path is. -/
def secondB (p : Pth) : Wd := match firstR p.dropLast with
  | some r => if typeB r.2.1 (p.getLastD []) = true then r.1 else []
  | none => []
/-- The error of a path that is no statement. -/
def unsaidB (p : Pth) : Int := if (firstR p).isSome then 0 else match firstR p.dropLast with
  | none => 3
  | some r => if typeB r.2.1 (p.getLastD []) = true then 0 else 2
/-- The error of a line that holds one, and has so many under it. -/
def heldB (p : Pth) (k : Nat) : Int := match firstR p with
  | some r => if r.2.2.1 = true then (if k = 0 then 1 else if k = 1 then 0 else 4) else 0
  | none => 0
theorem second_of {p : Pth} {k1 k2 : Wd} {b1 b2 ok : Bool} (h : rowOf (firstR p.dropLast) = (k1, k2, b1, b2, ok)) : secondB p = if ok = true then (if typeB k2 (p.getLastD []) = true then k1 else []) else [] := by
  unfold secondB
  cases hf : firstR p.dropLast with
  | none => rw [hf] at h; cases h; rfl
  | some r => rw [hf] at h; cases h; rfl
theorem unsaid_of {p : Pth} {k1 k2 : Wd} {b1 b2 ok ok1 : Bool} (h1 : (firstR p).isSome = ok1) (h : rowOf (firstR p.dropLast) = (k1, k2, b1, b2, ok)) : unsaidB p = if ok1 = true then 0 else if ok = true then (if typeB k2 (p.getLastD []) = true then 0 else 2) else 3 := by
  unfold unsaidB
  rw [h1]
  cases hf : firstR p.dropLast with
  | none => rw [hf] at h; cases h; cases ok1 <;> rfl
  | some r => rw [hf] at h; cases h; cases ok1 <;> rfl
theorem held_of {p : Pth} {k1 k2 : Wd} {b1 b2 ok : Bool} (h : rowOf (firstR p) = (k1, k2, b1, b2, ok)) (k : Nat) : heldB p k = if ok = true then (if b1 = true then (if k = 0 then 1 else if k = 1 then 0 else 4) else 0) else 0 := by
  unfold heldB
  cases hf : firstR p with
  | none => rw [hf] at h; cases h; rfl
  | some r => rw [hf] at h; cases h; rfl
theorem row_ex (o : Option Rw) : ∃ k1 k2 b1 b2 ok, rowOf o = (k1, k2, b1, b2, ok) := ⟨_, _, _, _, _, rfl⟩
theorem row_some {o : Option Rw} {k1 k2 : Wd} {b1 b2 ok : Bool} (h : rowOf o = (k1, k2, b1, b2, ok)) : o.isSome = ok := by
  cases o with
  | none => cases h; rfl
  | some r => cases h; rfl
theorem last_get {p : Pth} {m : Nat} {x : Wd} (hn : p.length = m + 1) (hx : p[m]? = some x) : p.getLastD [] = x := by
  rw [List.getLastD_eq_getLast?, List.getLast?_eq_getElem?, hn, Nat.add_sub_cancel, hx]; rfl
theorem drop_take {p : Pth} {m : Nat} (hn : p.length = m + 1) : p.dropLast = p.take m := by rw [List.dropLast_eq_take, hn, Nat.add_sub_cancel]
end C
open Go.RowKit
open F
open T (Pth)
set_option linter.unusedVariables false

theorem seen_take13 {w : World} {b o q : Nat} {P : Pth} (h : Seen eS w (some ⟨b, o, none⟩) P) : Seen eS w (some ⟨b, o, none⟩) (P.take q) := by
  intro h0
  have hP : 0 < P.length := by rw [List.length_take] at h0; omega
  obtain ⟨b2, o2, e, hb, hH⟩ := h hP
  refine ⟨b2, o2, e, hb, fun d hd j u hu => ?_⟩
  rw [List.getElem_take] at hu
  exact hH d (by rw [List.length_take] at hd; omega) j u hu
theorem short_take {p : Pth} (h : ShortW p) (q : Nat) : ShortW (p.take q) := fun x hx => h x (List.mem_of_mem_take hx)
set_option maxRecDepth 100000 in
set_option maxHeartbeats 4000000 in
theorem secondC (A : Option Addr) (c n : Nat) (p : Pth) (s : C.Wd) (w : World) (hn : p.length = n) (hnc : n ≤ c) (hA : Seen eS w A p) (hsw : ShortW p) (h0 : 0 < n) (hl : n ≤ 1073741824) (HT : RowsOk w) (hr : C.secondB p = s) :
    Calls Tryd.prog 87 #[.slice A n c] w (fun e w' => e = .returned (.string (sB s)) ∧ Below w.heap.size w w') := by
  obtain ⟨m, rfl⟩ : ∃ m, n = m + 1 := ⟨n - 1, by omega⟩
  have j1 : ((m + 1 : Nat) : Int) - 1 = (m : Int) := by omega
  have j2 : IntKind.i64.wrap (m : Int) = (m : Int) := by rw [IntKind.wrap_i64]; omega
  have jd : (m : Int) ≤ (c : Int) := by omega
  have j0 : (0 : Int) ≤ (m : Int) := by omega
  have jm : (m : Int) < ((m + 1 : Nat) : Int) := by omega
  have jm2 : (m : Int) < (m : Int) + 1 := by omega
  obtain ⟨x, hx⟩ : ∃ x, p[m]? = some x := ⟨_, List.getElem?_eq_getElem (by omega)⟩
  obtain ⟨b, o, rfl, hbw, hL⟩ := hA (by omega)
  obtain ⟨k1, k2, b1, b2, ok, hrow⟩ := C.row_ex (C.firstR p.dropLast)
  have HR := Lib.hid (show (if ok = true then (if C.typeB k2 x = true then k1 else []) else []) = s by rw [← hr, C.second_of hrow, C.last_get hn hx])
  have HROW := Lib.hid (show C.rowOf (C.firstR (p.take m)) = (k1, k2, b1, b2, ok) by rw [← C.drop_take hn]; exact hrow)
  have HTK := Lib.hid (show (p.take m).length = m by rw [List.length_take, hn]; omega)
  have HA := Lib.hid (seen_take13 (q := m) hA)
  have HSW := Lib.hid (short_take hsw m)
  have HX := Lib.hid (show x.length ≤ 100 from hsw x (List.mem_of_getElem? hx))
  have HL := Lib.hid hL
  have HP := Lib.hid hx
  have HT := Lib.hid HT
  clear hn hA hsw hL hr hrow hx
  go_enter Tryd.func87, Tryd.ntmps87
  go_wp2_with fail
  refine (firstC (some ⟨b, o, none⟩) c m (p.take m) k1 k2 b1 b2 ok _ HTK.out HA.out HSW.out (by omega) HT.out HROW.out).mono ?_
  rintro e w1 ⟨rfl, hx⟩
  have hb1 := bthen hx (up w1 (.cells #[.string (sB k1), .string (sB k2), .bool b1, .bool b2] 78))
  obtain ⟨c0, c1, c2, c3⟩ := (RowB.new w1 k1 k2 b1 b2).cells
  have cp : (w1.alloc (.cells #[.string (sB k1), .string (sB k2), .bool b1, .bool b2] 78)).cell? ⟨b, o + m, none⟩ = some (.string (sB x)) := cellS (HL.out.below hb1 hbw) HP.out
  obtain ⟨W1, hW1⟩ : ∃ W, w1.alloc (.cells #[.string (sB k1), .string (sB k2), .bool b1, .bool b2] 78) = W := ⟨_, rfl⟩
  rw [hW1] at hb1 c0 c1 c2 c3 cp
  have HW1 := Lib.hid hW1
  have HLT := Lib.hid (show w1.heap.size < W1.heap.size by rw [← hW1]; simp)
  clear hx hW1
  cases ok with
  | false =>
    have HE := Lib.hid (show s = [] by rw [← HR.out]; rfl)
    go_wp2
    rw [HW1.out]
    go_quiet (fail)
    go_wp2
    go_ret
    exact ⟨by rw [HE.out]; rfl, below_drawn10 hb1 _⟩
  | true =>
    obtain ⟨tb, htb⟩ : ∃ tb, C.typeB k2 x = tb := ⟨_, rfl⟩
    have HTB := Lib.hid htb
    go_wp2
    rw [HW1.out]
    clear htb
    go_still_tail 8, (by kernel_rfl)
    change wpList _ _ _ _ _ W1.drew
    go_wp2_with fail
    refine (typeC k2 x tb _ HX.out HTB.out).mono ?_
    rintro e w2 ⟨rfl, hx⟩
    have c0' : w2.cell? ⟨w1.heap.size, 0, none⟩ = some (.string (sB k1)) := ((below_drawn13 (Below.refl _ W1) 1).trans hx).cell (p := ⟨w1.heap.size, 0, none⟩) (HLT.out) |>.trans c0
    have hb2 := hb1.drew.trans (hx.mono hb1.size)
    cases tb with
    | false =>
      have HE := Lib.hid (show s = [] by rw [← HR.out, HTB.out]; rfl)
      go_wp2
      go_ret
      exact ⟨by rw [HE.out]; rfl, hb2⟩
    | true =>
      have HE := Lib.hid (show s = k1 by rw [← HR.out, HTB.out]; rfl)
      go_wp2
      go_ret
      exact ⟨by rw [HE.out]; rfl, hb2⟩
set_option maxRecDepth 100000 in
set_option maxHeartbeats 4000000 in
theorem unsaidC (A : Option Addr) (c n : Nat) (p : Pth) (z : Int) (w : World) (hn : p.length = n) (hnc : n ≤ c) (hA : Seen eS w A p) (hsw : ShortW p) (h0 : 0 < n) (hl : n ≤ 1073741824) (HT : RowsOk w) (hr : C.unsaidB p = z) :
    Calls Tryd.prog 34 #[.slice A n c] w (IntS w z) := by
  obtain ⟨m, rfl⟩ : ∃ m, n = m + 1 := ⟨n - 1, by omega⟩
  have j1 : ((m + 1 : Nat) : Int) - 1 = (m : Int) := by omega
  have j2 : IntKind.i64.wrap (m : Int) = (m : Int) := by rw [IntKind.wrap_i64]; omega
  have jd : (m : Int) ≤ (c : Int) := by omega
  have j0 : (0 : Int) ≤ (m : Int) := by omega
  have jm : (m : Int) < ((m + 1 : Nat) : Int) := by omega
  have jm2 : (m : Int) < (m : Int) + 1 := by omega
  obtain ⟨x, hx⟩ : ∃ x, p[m]? = some x := ⟨_, List.getElem?_eq_getElem (by omega)⟩
  obtain ⟨b, o, rfl, hbw, hL⟩ := hA (by omega)
  obtain ⟨h1, h2, e1, e2, ok1, hrow1⟩ := C.row_ex (C.firstR p)
  obtain ⟨k1, k2, b1, b2, ok, hrow⟩ := C.row_ex (C.firstR p.dropLast)
  have HR := Lib.hid (show (if ok1 = true then 0 else if ok = true then (if C.typeB k2 x = true then 0 else 2) else 3) = z by rw [← hr, C.unsaid_of (C.row_some hrow1) hrow, C.last_get hn hx])
  have HROW1 := Lib.hid hrow1
  have HROW := Lib.hid (show C.rowOf (C.firstR (p.take m)) = (k1, k2, b1, b2, ok) by rw [← C.drop_take hn]; exact hrow)
  have HN := Lib.hid hn
  have HTK := Lib.hid (show (p.take m).length = m by rw [List.length_take, hn]; omega)
  have HA0 := Lib.hid hA
  have HA := Lib.hid (seen_take13 (q := m) hA)
  have HSW0 := Lib.hid hsw
  have HSW := Lib.hid (short_take hsw m)
  have HX := Lib.hid (show x.length ≤ 100 from hsw x (List.mem_of_getElem? hx))
  have HL := Lib.hid hL
  have HP := Lib.hid hx
  have HT := Lib.hid HT
  clear hn hA hsw hL hr hrow hrow1 hx
  go_enter Tryd.func34, Tryd.ntmps34
  go_wp2_with fail
  refine (firstC (some ⟨b, o, none⟩) c (m + 1) p h1 h2 e1 e2 ok1 _ HN.out HA0.out HSW0.out (by omega) HT.out HROW1.out).mono ?_
  rintro e w0 ⟨rfl, hx⟩
  have hb0 := bthen hx (up w0 (.cells #[.string (sB h1), .string (sB h2), .bool e1, .bool e2] 78))
  clear hx
  cases ok1 with
  | true =>
    have HE := Lib.hid (show z = 0 by rw [← HR.out]; rfl)
    go_wp2
    go_ret
    exact ⟨by rw [HE.out]; rfl, hb0⟩
  | false =>
  go_wp2_with fail
  refine (firstC (some ⟨b, o, none⟩) c m (p.take m) k1 k2 b1 b2 ok _ HTK.out (HA.out.below hb0) HSW.out (by omega) (HT.out.below hb0) HROW.out).mono ?_
  rintro e w1 ⟨rfl, hx⟩
  have hb1 := bthen (bthen hb0 hx) (up w1 (.cells #[.string (sB k1), .string (sB k2), .bool b1, .bool b2] 78))
  obtain ⟨c0, c1, c2, c3⟩ := (RowB.new w1 k1 k2 b1 b2).cells
  have cp : (w1.alloc (.cells #[.string (sB k1), .string (sB k2), .bool b1, .bool b2] 78)).cell? ⟨b, o + m, none⟩ = some (.string (sB x)) := cellS (HL.out.below hb1 hbw) HP.out
  obtain ⟨W1, hW1⟩ : ∃ W, w1.alloc (.cells #[.string (sB k1), .string (sB k2), .bool b1, .bool b2] 78) = W := ⟨_, rfl⟩
  rw [hW1] at hb1 c0 c1 c2 c3 cp
  have HW1 := Lib.hid hW1
  clear hx hW1 hb0
  cases ok with
  | false =>
    have HE := Lib.hid (show z = 3 by rw [← HR.out]; rfl)
    go_wp2
    rw [HW1.out]
    go_ret
    exact ⟨by rw [HE.out]; rfl, hb1⟩
  | true =>
    obtain ⟨tb, htb⟩ : ∃ tb, C.typeB k2 x = tb := ⟨_, rfl⟩
    have HTB := Lib.hid htb
    go_wp2
    rw [HW1.out]
    clear htb
    go_still_tail 6, (by kernel_rfl)
    change wpList _ _ _ _ _ W1.drew
    go_wp2_with fail
    refine (typeC k2 x tb _ HX.out HTB.out).mono ?_
    rintro e w2 ⟨rfl, hx⟩
    have hb2 := hb1.drew.trans (hx.mono hb1.size)
    cases tb with
    | false =>
      have HE := Lib.hid (show z = 2 by rw [← HR.out, HTB.out]; rfl)
      go_wp2
      go_ret
      exact ⟨by rw [HE.out]; rfl, hb2⟩
    | true =>
      have HE := Lib.hid (show z = 0 by rw [← HR.out, HTB.out]; rfl)
      go_wp2
      go_ret
      exact ⟨by rw [HE.out]; rfl, hb2⟩
theorem kidsC13 (A : Option Addr) (c n m : Nat) (t : List T.Ln) (i : Int) (K : List Nat) (w : World) (hn : t.length = n) (hm : K.length = m) (hA : Seen eL w A t) (hl : n ≤ 1073741824) (hi : -1 ≤ i) (hil : i < n) (hR : T.RightT t) (h : T.kidsL t i = K) :
    Calls Tryd.prog 26 #[.slice A n c, .int .i64 i] w (fun e w' => ∃ B d, e = .returned (.slice B m d) ∧ m ≤ d ∧ Seen eI w' B K ∧ Below w.heap.size w w') := by
  subst hn; subst hm; exact kids_is A c t i K w hA hl hi hil hR h
set_option maxRecDepth 100000 in
set_option maxHeartbeats 4000000 in
/-- The error of a line that holds one, and has none or more. -/
theorem heldC (A B : Option Addr) (c d n i np k : Nat) (t : List T.Ln) (p : Pth) (z : Int) (w : World) (hn : t.length = n) (hA : Seen eL w A t) (hl : n ≤ 200) (hR : T.RightT t) (hi : i < n) (hnp : p.length = np) (hB : Seen eS w B p) (hsw : ShortW p) (hl2 : np ≤ 1073741824) (HT : RowsOk w) (hk : (T.kidsL t (i : Int)).length = k) (hr : C.heldB p k = z) :
    Calls Tryd.prog 64 #[.slice A n c, .int .i64 (i : Int), .slice B np d] w (IntS w z) := by
  obtain ⟨k1, k2, b1, b2, ok, hrow⟩ := C.row_ex (C.firstR p)
  obtain ⟨K, hK⟩ : ∃ K, T.kidsL t (i : Int) = K := ⟨_, rfl⟩
  have hk2 : k ≤ n := by rw [← hk, ← hn]; exact T.filter_len t.length _
  have HR := Lib.hid (show (if ok = true then (if b1 = true then (if k = 0 then 1 else if k = 1 then 0 else 4) else 0) else 0) = z by rw [← hr, C.held_of hrow])
  have HROW := Lib.hid hrow
  have HN := Lib.hid hn
  have HA := Lib.hid hA
  have HRT := Lib.hid hR
  have HNP := Lib.hid hnp
  have HB := Lib.hid hB
  have HSW := Lib.hid hsw
  have HT := Lib.hid HT
  have HK := Lib.hid hK
  have HKL := Lib.hid (show K.length = k by rw [← hK]; exact hk)
  clear hrow hn hA hR hnp hB hsw hr hK hk
  go_enter Tryd.func64, Tryd.ntmps64
  go_wp2_with fail
  refine (firstC B d np p k1 k2 b1 b2 ok _ HNP.out HB.out HSW.out hl2 HT.out HROW.out).mono ?_
  rintro e w1 ⟨rfl, hx⟩
  have hb1 := bthen hx (up w1 (.cells #[.string (sB k1), .string (sB k2), .bool b1, .bool b2] 78))
  obtain ⟨c0, c1, c2, c3⟩ := (RowB.new w1 k1 k2 b1 b2).cells
  clear hx
  cases ok with
  | false =>
    have HE := Lib.hid (show z = 0 by rw [← HR.out]; rfl)
    go_wp2
    go_ret
    exact ⟨by rw [HE.out]; rfl, hb1⟩
  | true =>
    cases b1 with
    | false =>
      have HE := Lib.hid (show z = 0 by rw [← HR.out]; rfl)
      go_wp2
      go_ret
      exact ⟨by rw [HE.out]; rfl, hb1⟩
    | true =>
      go_wp2_with fail
      refine (kidsC13 A c n k t (i : Int) K _ HN.out HKL.out (HA.out.below hb1) (by omega) (by omega) (by omega) HRT.out HK.out).mono ?_
      rintro e w2 ⟨B2, d2, rfl, hd2, hs2, hx⟩
      have hb2 := bthen hb1 hx
      clear hx hs2 hd2
      by_cases g0 : k = 0
      · have d0 : ((k : Int) == 0) = true := beq_iff_eq.2 (by omega)
        have d0b : (k == 0) = true := beq_iff_eq.2 g0
        have HE := Lib.hid (show z = 1 by rw [← HR.out]; simp [g0])
        clear g0
        go_wp2
        go_ret
        exact ⟨by rw [HE.out]; rfl, hb2⟩
      · have d0 : ((k : Int) == 0) = false := beq_eq_false_iff_ne.2 (by omega)
        have d0b : (k == 0) = false := beq_eq_false_iff_ne.2 g0
        have d0c : ¬ k = 0 := g0
        by_cases g1 : k = 1
        · have d1 : ((k : Int) == 1) = true := beq_iff_eq.2 (by omega)
          have d1b : (k == 1) = true := beq_iff_eq.2 g1
          have HE := Lib.hid (show z = 0 by rw [← HR.out]; simp [g1])
          clear g0 g1
          go_wp2
          go_ret
          exact ⟨by rw [HE.out]; rfl, hb2⟩
        · have d1 : ((k : Int) == 1) = false := beq_eq_false_iff_ne.2 (by omega)
          have d1b : (k == 1) = false := beq_eq_false_iff_ne.2 g1
          have d1c : ¬ k = 1 := g1
          have HE := Lib.hid (show z = 4 by rw [← HR.out]; simp [g0, g1])
          clear g0 g1
          go_wp2
          go_ret
          exact ⟨by rw [HE.out]; rfl, hb2⟩
end Go.Proofs.YtikjdjfpoohieaaDoor

namespace Go.Proofs.YtikjdjfpoohieaaDoor
namespace C
open T (Pth)
/-- The place of a row's last blank. -/
def cutR (r : Rw) : Nat := (lastI 32 r.1).toNat
def needOf (p : Pth) (r : Rw) : List Wd := if (r.2.2.2 && meetsB p (r.1.take (cutR r))) = true then [r.1.drop (cutR r + 1)] else []
def needTo (p : Pth) (k : Nat) : List Wd := (rowsL.take k).flatMap (needOf p)
theorem cut_rows : ∀ r ∈ rowsL, r.2.2.2 = true → 0 ≤ lastI 32 r.1 ∧ lastI 32 r.1 + 1 ≤ (r.1.length : Int) := by decide +kernel
theorem need_next (p : Pth) {k : Nat} {r : Rw} (hr : rowsL[k]? = some r) : needTo p (k + 1) = needTo p k ++ needOf p r := by
  unfold needTo
  obtain ⟨h5, h6⟩ := List.getElem?_eq_some_iff.1 hr
  rw [List.take_succ_eq_append_getElem h5, h6, List.flatMap_append]
  simp
theorem need_few (p : Pth) : ∀ k, (needTo p k).length ≤ k
  | 0 => by simp [needTo]
  | k + 1 => by
    by_cases h : k < rowsL.length
    · rw [need_next p (List.getElem?_eq_getElem h), List.length_append]
      have h1 := need_few p k
      have h2 : (needOf p rowsL[k]).length ≤ 1 := by unfold needOf; split <;> simp
      omega
    · have e : needTo p (k + 1) = needTo p k := by unfold needTo; rw [List.take_of_length_le (by omega), List.take_of_length_le (by omega)]
      rw [e]; exact Nat.le_succ_of_le (need_few p k)
/-- The rows that are needed, by their words. -/
def needS : List (List Wd × Wd) := [([wHosts, kName], wIp), ([wVnis, kVni], wSubnet), ([wBindings, kIp], wHost), ([wBindings, kIp], wMac), ([wBindings, kIp], wVni), ([wRoutes, kPrefix], wVia), ([wPolicy, kNum], wAction)]
theorem need_rows : (rowsL.filter fun r => r.2.2.2).map (fun r => (N.splitL 32 (r.1.take (cutR r)), r.1.drop (cutR r + 1))) = needS := by decide +kernel
theorem flat_filter {α β : Type} (f : α → Bool) (g : α → List β) : ∀ l : List α, (∀ x ∈ l, f x = false → g x = []) → l.flatMap g = (l.filter f).flatMap g
  | [], _ => rfl
  | x :: l, h => by
    rw [List.flatMap_cons, flat_filter f g l (fun y hy => h y (List.mem_cons_of_mem _ hy)), List.filter_cons]
    cases hx : f x with
    | false => rw [h x List.mem_cons_self hx]; rfl
    | true => rw [if_pos rfl, List.flatMap_cons]
theorem flat_both {α β γ : Type} (f : α → β) (g : β → List γ) (h : α → List γ) (l : List α) (he : ∀ x ∈ l, h x = g (f x)) : l.flatMap h = (l.map f).flatMap g := by
  rw [List.flatMap_map]
  exact flat_same he
theorem need_words (p : Pth) : needTo p 17 = needS.flatMap fun x => if matchB p x.1 = true then [x.2] else [] := by
  unfold needTo
  rw [show rowsL.take 17 = rowsL from rfl, flat_filter (fun r : Rw => r.2.2.2) (needOf p) rowsL (fun r hr h => by unfold needOf; rw [h]; rfl), ← need_rows]
  refine flat_both _ _ _ _ fun r hr => ?_
  have h := (List.mem_filter.1 hr).2
  unfold needOf meetsB
  rw [show r.2.2.2 = true from h, Bool.true_and]
theorem mB22 (a b s1 s2 : Wd) : matchB [a, b] [s1, s2] = (standsB a s1 && standsB b s2) := by show (standsB a s1 && (standsB b s2 && true)) = _; rw [Bool.and_true]
theorem mB12 (a s1 s2 : Wd) : matchB [a] [s1, s2] = false := by show (standsB a s1 && false) = _; rw [Bool.and_false]
theorem mB32 (a b c : Wd) (r : Pth) (s1 s2 : Wd) : matchB (a :: b :: c :: r) [s1, s2] = false := by show (standsB a s1 && (standsB b s2 && false)) = _; rw [Bool.and_false, Bool.and_false]
theorem need_all (p : Pth) : needTo p 17 = needsL p := by
  rw [need_words]
  match p with
  | [] => rfl
  | [a] => simp only [needS, List.flatMap_cons, List.flatMap_nil, mB12]; rfl
  | a :: b :: c :: r => simp only [needS, List.flatMap_cons, List.flatMap_nil, mB32]; rfl
  | [a, b] =>
    simp only [needS, List.flatMap_cons, List.flatMap_nil, mB22]
    show _ = if secondW a ≠ [] ∧ knownP [a, b] = 0 then needsW a else []
    have hk : knownP [a, b] = if typeB (secondW a) b = true then 0 else 2 := rfl
    rw [hk]
    by_cases h1 : a = wHosts
    · subst h1
      rw [show secondW wHosts = kName from rfl]
      simp only [st_hosts, st_vnis, st_bindings, st_routes, st_policy, sk_name, show decide (wHosts = wVnis) = false from rfl, show decide (wHosts = wBindings) = false from rfl, show decide (wHosts = wRoutes) = false from rfl, show decide (wHosts = wPolicy) = false from rfl, Bool.false_and]
      cases typeB kName b <;> decide +kernel
    by_cases h2 : a = wVnis
    · subst h2
      rw [show secondW wVnis = kVni from rfl]
      simp only [st_hosts, st_vnis, st_bindings, st_routes, st_policy, sk_vni, show decide (wVnis = wHosts) = false from rfl, show decide (wVnis = wBindings) = false from rfl, show decide (wVnis = wRoutes) = false from rfl, show decide (wVnis = wPolicy) = false from rfl, Bool.false_and]
      cases typeB kVni b <;> decide +kernel
    by_cases h3 : a = wBindings
    · subst h3
      rw [show secondW wBindings = kIp from rfl]
      simp only [st_hosts, st_vnis, st_bindings, st_routes, st_policy, sk_ip, show decide (wBindings = wHosts) = false from rfl, show decide (wBindings = wVnis) = false from rfl, show decide (wBindings = wRoutes) = false from rfl, show decide (wBindings = wPolicy) = false from rfl, Bool.false_and]
      cases typeB kIp b <;> decide +kernel
    by_cases h4 : a = wRoutes
    · subst h4
      rw [show secondW wRoutes = kPrefix from rfl]
      simp only [st_hosts, st_vnis, st_bindings, st_routes, st_policy, sk_prefix, show decide (wRoutes = wHosts) = false from rfl, show decide (wRoutes = wVnis) = false from rfl, show decide (wRoutes = wBindings) = false from rfl, show decide (wRoutes = wPolicy) = false from rfl, Bool.false_and]
      cases typeB kPrefix b <;> decide +kernel
    by_cases h5 : a = wPolicy
    · subst h5
      rw [show secondW wPolicy = kNum from rfl]
      simp only [st_hosts, st_vnis, st_bindings, st_routes, st_policy, sk_num, show decide (wPolicy = wHosts) = false from rfl, show decide (wPolicy = wVnis) = false from rfl, show decide (wPolicy = wBindings) = false from rfl, show decide (wPolicy = wRoutes) = false from rfl, Bool.false_and]
      cases typeB kNum b <;> decide +kernel
    have e0 : secondW a = [] := by unfold secondW; rw [if_neg h1, if_neg h2, if_neg h3, if_neg h4, if_neg h5]
    simp only [e0, ne_eq, not_true_eq_false, false_and, st_hosts, st_vnis, st_bindings, st_routes, st_policy, decide_eq_false h1, decide_eq_false h2, decide_eq_false h3, decide_eq_false h4, decide_eq_false h5, Bool.false_and]
    rfl
end C
open Go.RowKit
open F
open T (Pth)
set_option linter.unusedVariables false

theorem lastQ (x : List UInt8) (z : Int) (w : World) (hs : x.length ≤ 100) (hz : C.lastI 32 x = z) : Calls Tryd.prog 55 #[.string (sB x), .string ⟨#[32]⟩] w (fun e w' => e = .returned (.int .i64 z) ∧ w = w') := lastIndex_any (sB x) 32 z w (by rw [sB_size]; omega) (by rw [sB_data]; exact hz)
theorem meetsQ (A : Option Addr) (c n : Nat) (p : Pth) (q : ByteArray) (s : List UInt8) (r : Bool) (w : World) (hq : q = sB s) (hn : p.length = n) (hA : Seen eS w A p) (hsw : ShortW p) (hl : n ≤ 1073741824) (hs : s.length ≤ 100) (hr : C.meetsB p s = r) :
    Calls Tryd.prog 56 #[.slice A n c, .string q] w (BoolS w r) := by subst hq; exact meetsC A c n p s r w hn hA hsw hl hs hr
theorem cut_head13 (s : List UInt8) (z : Nat) : (sB s).extract 0 z = sB (s.take z) := by
  rw [(cut_extract (sB s) z).1, sB_data]
theorem cut_tail13 (s : List UInt8) (z : Nat) : (sB s).extract (z + 1) (sB s).size = sB (s.drop (z + 1)) := by
  rw [(cut_extract (sB s) z).2, sB_data]
set_option maxRecDepth 100000 in
set_option maxHeartbeats 8000000 in
theorem needsC (A : Option Addr) (c n : Nat) (p : Pth) (w : World) (hn : p.length = n) (hA : Seen eS w A p) (hsw : ShortW p) (hl : n ≤ 1073741824) (HT : RowsOk w) :
    Calls Tryd.prog 24 #[.slice A n c] w (fun e w' => ∃ v, e = .returned v ∧ Own eS w' w.heap.size v (needsL p) ∧ Below w.heap.size w w') := by
  have HN := Lib.hid hn
  have HA := Lib.hid hA
  have HSW := Lib.hid hsw
  obtain ⟨tt, fr, hg1⟩ := rows_heap HT
  obtain ⟨cs, hcs⟩ : ∃ cs, rowsC = cs := ⟨_, rfl⟩
  have hin := rows_info
  rw [hcs] at hg1 hin
  have HCS := Lib.hid hcs
  clear hn hA hsw hcs HT
  go_enter Tryd.func24, Tryd.ntmps24
  go_wp2_with (refine wpList_load_row rfl 79 _ rfl 0 rfl tt _ fr _ hg1 Tryd.underlying79 rfl hin ?_)
  go_loopg [3, 8] 17 (fun gk vo vi wr => ∃ k : Nat, Hid (k + gk = 17) ∧ k ≤ 17 ∧ vi = .int .i64 (k : Int) ∧ Hid (Own eS wr w.heap.size vo (C.needTo p k)) ∧ Below w.heap.size w wr)
  case atStart => exact ⟨0, Nat.zero_add _, Nat.zero_le _, rfl, Own.nil _ _, Below.refl _ _⟩
  case round =>
    obtain ⟨k, HG, hk, rfl, HO, hb⟩ := hrel
    have hgk := HG.out
    by_cases hlt : k < 17
    · have blt : decide ((k : Int) < 17) = true := decide_eq_true (by omega)
      have blt2 : decide (k < 17) = true := decide_eq_true hlt
      obtain ⟨⟨s1, s2, d1, d2⟩, hrk⟩ : ∃ r, rowsL[k]? = some r := ⟨_, List.getElem?_eq_getElem (by rw [C.rows_len]; exact hlt)⟩
      have HRK := Lib.hid hrk
      have HSH := Lib.hid (C.rows_short _ (List.mem_of_getElem? hrk))
      obtain ⟨z, hz⟩ : ∃ z, C.lastI 32 s1 = z := ⟨_, rfl⟩
      have HZ := Lib.hid hz
      have HNX := Lib.hid (C.need_next p hrk)
      have hbr := bthen hb (up wr (.cells #[.string (sB s1), .string (sB s2), .bool d1, .bool d2] 78))
      have HO1 := Lib.hid (HO.out.keep (up wr (.cells #[.string (sB s1), .string (sB s2), .bool d1, .bool d2] 78)))
      have HCR := Lib.hid (show d2 = true → 0 ≤ z ∧ z + 1 ≤ (s1.length : Int) by intro h; rw [← hz]; exact C.cut_rows _ (List.mem_of_getElem? hrk) h)
      clear hrk hz
      cases d2 with
      | false =>
        have HE := Lib.hid (show C.needTo p (k + 1) = C.needTo p k by rw [HNX.out]; show _ ++ (if (false && _) = true then _ else []) = _; rw [Bool.false_and, if_neg (by decide), List.append_nil])
        go_wp2_with (refine wpList_index_row rfl _ _ rfl cs HCS.out k HRK.out rfl rfl ?_)
        refine (lastQ s1 z _ HSH.out.1 HZ.out).mono ?_
        rintro e w2 ⟨rfl, rfl⟩
        go_wp2
        go_roundg (17 - (k + 1))
        case rel => exact ⟨k + 1, (by show _ = _; omega), by omega, by go_num, (by rw [HE.out]; exact HO1.out), hbr⟩
        case measure => omega
      | true =>
        obtain ⟨h0, h1⟩ := HCR.out rfl
        obtain ⟨y, rfl⟩ := Int.eq_ofNat_of_zero_le h0
        have hys : y + 1 ≤ s1.length := by omega
        have hsz : (sB s1).size = s1.length := sB_size s1
        obtain ⟨ln, hln⟩ : ∃ ln, s1.length = ln := ⟨_, rfl⟩
        have hl100 : ln ≤ 100 := by rw [← hln]; exact HSH.out.1
        rw [hln] at hys hsz
        have i1 : (0 : Int) ≤ (y : Int) := by omega
        have i2 : (y : Int) ≤ (ln : Int) := by omega
        have i3 : (y : Int) + 1 ≤ (ln : Int) := by omega
        have i4 : (0 : Int) ≤ (y : Int) + 1 := by omega
        have i5 : IntKind.i64.wrap ((y : Int) + 1) = (y : Int) + 1 := by rw [IntKind.wrap_i64]; omega
        obtain ⟨mb, hmb⟩ : ∃ mb, C.meetsB p (s1.take y) = mb := ⟨_, rfl⟩
        have HMB := Lib.hid hmb
        have HCT := Lib.hid (show C.cutR (s1, s2, d1, true) = y by unfold C.cutR; rw [HZ.out]; rfl)
        have HE := Lib.hid (show C.needTo p (k + 1) = C.needTo p k ++ if mb = true then [s1.drop (y + 1)] else [] by
          rw [HNX.out]
          show _ ++ (if (true && C.meetsB p (s1.take (C.cutR (s1, s2, d1, true)))) = true then [s1.drop (C.cutR (s1, s2, d1, true) + 1)] else []) = _
          rw [HCT.out, hmb, Bool.true_and])
        have HTL := Lib.hid (show (s1.take y).length ≤ 100 by rw [List.length_take]; omega)
        clear hmb h0 h1 hln
        go_wp2_with (refine wpList_index_row rfl _ _ rfl cs HCS.out k HRK.out rfl rfl ?_)
        refine (lastQ s1 (y : Int) _ HSH.out.1 HZ.out).mono ?_
        rintro e w2 ⟨rfl, rfl⟩
        go_wp2_with fail
        refine (meetsQ A c n p _ (s1.take y) mb _ (cut_head13 s1 y) HN.out (HA.out.below hbr) HSW.out hl HTL.out HMB.out).mono ?_
        rintro e w2 ⟨rfl, hx⟩
        have HO2 := Lib.hid (HO1.out.keep hx)
        have HRB := Lib.hid ((RowB.new wr s1 s2 d1 true).keep hx (RowB.new wr s1 s2 d1 true).lt)
        have hb2 := bthen hbr hx
        clear hx hbr
        cases mb with
        | false =>
          have HE2 := Lib.hid (show C.needTo p (k + 1) = C.needTo p k by rw [HE.out, if_neg (by decide), List.append_nil])
          go_wp2
          go_roundg (17 - (k + 1))
          case rel => exact ⟨k + 1, (by show _ = _; omega), by omega, by go_num, (by rw [HE2.out]; exact HO2.out), hb2⟩
          case measure => omega
        | true =>
          have HE2 := Lib.hid (show C.needTo p (k + 1) = C.needTo p k ++ [s1.drop (y + 1)] by rw [HE.out, if_pos rfl])
          have HLN := Lib.hid (show (C.needTo p k).length + 1 ≤ 1099511627776 by have := C.need_few p k; omega)
          obtain ⟨c0, c1, c2, c3⟩ := HRB.out.cells
          have HCUT := Lib.hid (cut_tail13 s1 y)
          have HCUT2 := Lib.hid (show (sB s1).extract (y + 1) ln = sB (s1.drop (y + 1)) by rw [← hsz]; exact HCUT.out)
          have hsz2 := hb2.size
          go_wp2_with (at_builtin; refine wpList_appG eS w2 rfl (.tmp 24) (.tmp 30) rfl w.heap.size u3 (C.needTo p k) rfl HO2.out (s1.drop (y + 1)) 1 _ (by first | (rw [HCUT2.out]; rfl) | (rw [HCUT.out]; rfl)) w2.heap.size rfl rfl HLN.out hsz2 ?_; intro v3 w3 hown3 hb3)
          go_roundg (17 - (k + 1))
          case rel => exact ⟨k + 1, (by show _ = _; omega), by omega, by go_num, (by rw [HE2.out]; exact hown3), hb2.trans hb3⟩
          case measure => omega
    · have blt : decide ((k : Int) < 17) = false := decide_eq_false (by omega)
      have blt2 : decide (k < 17) = false := decide_eq_false hlt
      obtain rfl : k = 17 := by omega
      have HE := Lib.hid (C.need_all p)
      go_wp2
      go_ret
      exact ⟨_, rfl, (by rw [← HE.out]; exact HO.out), hb⟩
end Go.Proofs.YtikjdjfpoohieaaDoor

namespace Go.Proofs.YtikjdjfpoohieaaDoor.C
set_option linter.unusedVariables false
open T (Pth pless RightN RightT pathL kidsL underL wd Ln isIn)

theorem live_at {p : Pth} (h : liveP p = true) {k : Nat} (h0 : 0 < k) (hk : k < p.length) : knownP (p.take k) = 0 := by
  unfold liveP at h
  have := List.all_eq_true.1 h k (List.mem_range.2 hk)
  rcases Bool.or_eq_true_iff.1 this with e | e
  · have := of_decide_eq_true e; omega
  · exact of_decide_eq_true e
theorem known_two {a b : Wd} (h : knownP [a, b] = 0) : typeB (secondW a) b = true := by
  have e : knownP [a, b] = if typeB (secondW a) b = true then 0 else 2 := rfl
  rw [e] at h
  by_cases hb : typeB (secondW a) b = true
  · exact hb
  · rw [if_neg hb] at h; cases h
theorem second_ne {a b : Wd} (h : typeB (secondW a) b = true) : secondW a ≠ [] := fun e => by rw [e, type_none] at h; cases h
theorem known_three {a b c : Wd} (h : knownP [a, b, c] = 0) : (thirdK (key a c)).1 ≠ [] := by
  have e : knownP [a, b, c] = if (thirdK (key a c)).1 = [] then 3 else 0 := rfl
  rw [e] at h
  intro hh
  rw [if_pos hh] at h; cases h
theorem known_four {a b c d : Wd} (h : knownP [a, b, c, d] = 0) : typeB (thirdK (key a c)).1 d = true := by
  have e : knownP [a, b, c, d] = if typeB (thirdK (key a c)).1 d = true then 0 else 2 := rfl
  rw [e] at h
  by_cases hb : typeB (thirdK (key a c)).1 d = true
  · exact hb
  · rw [if_neg hb] at h; cases h
theorem row_yes {a b c : Wd} (h1 : typeB (secondW a) b = true) (h2 : (thirdK (key a c)).1 ≠ []) : firstR [a, b, c] = some (said3 a c, thirdK (key a c)) := by
  rw [first_three]; unfold row3; rw [if_pos h1, if_neg h2]
def unsaidV (x : Wd) : Option Rw → Option Rw → Int
  | some _, _ => 0
  | none, none => 3
  | none, some r => if typeB r.2.1 x = true then 0 else 2
def secondV (x : Wd) : Option Rw → Wd
  | some r => if typeB r.2.1 x = true then r.1 else []
  | none => []
theorem unsaid_is {p : Pth} {o1 o2 : Option Rw} {x : Wd} (h1 : firstR p = o1) (h2 : firstR p.dropLast = o2) (hx : p.getLastD [] = x) : unsaidB p = unsaidV x o1 o2 := by
  unfold unsaidB
  rw [h1, h2, hx]
  cases o1 <;> cases o2 <;> rfl
theorem second_is {p : Pth} {o : Option Rw} {x : Wd} (h : firstR p.dropLast = o) (hx : p.getLastD [] = x) : secondB p = secondV x o := by
  unfold secondB
  rw [h, hx]
  cases o <;> rfl
theorem unsaid_known {p : Pth} (hp : p ≠ []) (h : liveP p = true) : unsaidB p = knownP p := by
  match p, hp with
  | [a], _ =>
    rw [unsaid_is (first_one a) (show firstR ([a] : Pth).dropLast = none from first_nil) rfl]
    by_cases hs : secondW a = []
    · rw [if_pos hs, show knownP [a] = if secondW a = [] then 3 else 0 from rfl, if_pos hs]; rfl
    · rw [if_neg hs, show knownP [a] = if secondW a = [] then 3 else 0 from rfl, if_neg hs]; rfl
  | [a, b], _ =>
    have h1 : knownP [a] = 0 := live_at (k := 1) h (by omega) (by simp)
    have hs : secondW a ≠ [] := by
      intro e
      rw [show knownP [a] = if secondW a = [] then 3 else 0 from rfl, if_pos e] at h1; cases h1
    rw [unsaid_is (first_two a b) (show firstR ([a, b] : Pth).dropLast = _ from first_one a) (x := b) rfl, if_neg hs]
    rfl
  | [a, b, c], _ =>
    have h2 : knownP [a, b] = 0 := live_at (k := 2) h (by omega) (by simp)
    have hb := known_two h2
    rw [unsaid_is (first_three a b c) (show firstR ([a, b, c] : Pth).dropLast = none from first_two a b) rfl]
    unfold row3
    rw [if_pos hb]
    by_cases hs : (thirdK (key a c)).1 = []
    · rw [if_pos hs, show knownP [a, b, c] = if (thirdK (key a c)).1 = [] then 3 else 0 from rfl, if_pos hs]; rfl
    · rw [if_neg hs, show knownP [a, b, c] = if (thirdK (key a c)).1 = [] then 3 else 0 from rfl, if_neg hs]; rfl
  | [a, b, c, d], _ =>
    have h2 : knownP [a, b] = 0 := live_at (k := 2) h (by omega) (by simp)
    have h3 : knownP [a, b, c] = 0 := live_at (k := 3) h (by omega) (by simp)
    rw [unsaid_is (first_many a b c d []) (show firstR ([a, b, c, d] : Pth).dropLast = _ from row_yes (known_two h2) (known_three h3)) (x := d) rfl]
    rfl
  | a :: b :: c :: d :: e :: r, _ =>
    rw [unsaid_is (first_many a b c d (e :: r)) (show firstR (a :: b :: c :: d :: e :: r : Pth).dropLast = none from first_many a b c d ((e :: r).dropLast)) rfl]
    rfl
theorem blank_inj {a b x y : Wd} (ha : (32 : UInt8) ∉ a) (hb : (32 : UInt8) ∉ b) (h : a ++ 32 :: x = b ++ 32 :: y) : a = b ∧ x = y := by
  have h1 := N.split_at ha x
  rw [h, N.split_at hb y] at h1
  injection h1 with h1 _
  subst h1
  have := List.append_cancel_left h
  injection this with _ h2
  exact ⟨rfl, h2⟩
theorem second_blank {a : Wd} (h : secondW a ≠ []) : (32 : UInt8) ∉ a := by
  by_cases h1 : a = wHosts
  · subst h1; decide
  by_cases h2 : a = wVnis
  · subst h2; decide
  by_cases h3 : a = wBindings
  · subst h3; decide
  by_cases h4 : a = wRoutes
  · subst h4; decide
  by_cases h5 : a = wPolicy
  · subst h5; decide
  · exact absurd (by unfold secondW; rw [if_neg h1, if_neg h2, if_neg h3, if_neg h4, if_neg h5]) h
theorem said_iff {a c A C : Wd} (ha : (32 : UInt8) ∉ a) (hA : (32 : UInt8) ∉ A) : said3 a c = said3 A C ↔ a = A ∧ c = C := by
  constructor
  · intro h
    unfold said3 at h
    obtain ⟨rfl, h2⟩ := blank_inj ha hA h
    have := List.append_cancel_left h2
    injection this with _ h3
    exact ⟨rfl, h3⟩
  · rintro ⟨rfl, rfl⟩; rfl
theorem key_iff {a c A C : Wd} (ha : (32 : UInt8) ∉ a) (hA : (32 : UInt8) ∉ A) : key a c = key A C ↔ a = A ∧ c = C := by
  constructor
  · intro h; exact blank_inj ha hA h
  · rintro ⟨rfl, rfl⟩; rfl
/-- Does a line not go with what others say? -/
def clashB (P : List Pth) (p : Pth) : Bool :=
  if secondB p = said3 wHosts wIp then twiceP P p (p.getLastD [])
  else if secondB p = said3 wBindings wHost ∨ secondB p = said3 wRoutes wVia then !decide ([wHosts, p.getLastD []] ∈ P)
  else if secondB p = said3 wHosts wVnis then !decide ([wVnis, p.getLastD []] ∈ P)
  else if secondB p = said3 wBindings wVni then (!decide ([wVnis, p.getLastD []] ∈ P)) || outP P (p.getD 1 []) (p.getLastD []) else false
theorem clash_off {P : List Pth} {p : Pth} (h : secondW (secondB p) ≠ [] ∨ secondB p = []) : clashB P p = false := by
  have q : ∀ z : Wd, secondW z = [] → z ≠ [] → secondB p ≠ z := by
    intro z hz hn e
    rcases h with h | h
    · exact h (by rw [e]; exact hz)
    · exact hn (e.symm.trans h)
  unfold clashB
  rw [if_neg (q _ (by decide +kernel) (by decide +kernel)), if_neg (by rintro (e | e); exact q _ (by decide +kernel) (by decide +kernel) e; exact q _ (by decide +kernel) (by decide +kernel) e), if_neg (q _ (by decide +kernel) (by decide +kernel)), if_neg (q _ (by decide +kernel) (by decide +kernel))]
theorem second_one (a : Wd) : secondB [a] = [] := second_is (show firstR ([a] : Pth).dropLast = none from first_nil) rfl
theorem second_two (a b : Wd) : secondB [a, b] = if typeB (secondW a) b = true then a else [] := by
  rw [second_is (show firstR ([a, b] : Pth).dropLast = _ from first_one a) (x := b) rfl]
  by_cases hs : secondW a = []
  · rw [if_pos hs, hs, type_none, if_neg (by decide)]; rfl
  · rw [if_neg hs]; rfl
theorem second_three (a b c : Wd) : secondB [a, b, c] = [] := second_is (show firstR ([a, b, c] : Pth).dropLast = none from first_two a b) rfl
theorem second_four (a b c d : Wd) : secondB [a, b, c, d] = if typeB (secondW a) b = true then (if (thirdK (key a c)).1 = [] then [] else if typeB (thirdK (key a c)).1 d = true then said3 a c else []) else [] := by
  rw [second_is (show firstR ([a, b, c, d] : Pth).dropLast = _ from first_three a b c) (x := d) rfl]
  unfold row3
  by_cases hb : typeB (secondW a) b = true
  · rw [if_pos hb, if_pos hb]
    by_cases hs : (thirdK (key a c)).1 = []
    · rw [if_pos hs, if_pos hs]; rfl
    · rw [if_neg hs, if_neg hs]; rfl
  · rw [if_neg hb, if_neg hb]; rfl
theorem second_five (a b c d e : Wd) (r : Pth) : secondB (a :: b :: c :: d :: e :: r) = [] := second_is (show firstR (a :: b :: c :: d :: e :: r : Pth).dropLast = none from first_many a b c d ((e :: r).dropLast)) rfl
theorem clash_four (P : List Pth) {a b c d : Wd} (h1 : typeB (secondW a) b = true) (h2 : (thirdK (key a c)).1 ≠ []) (h3 : typeB (thirdK (key a c)).1 d = true) : clashB P [a, b, c, d] = meantP P [a, b, c, d] := by
  have ha := second_blank (second_ne h1)
  have e : secondB [a, b, c, d] = said3 a c := by rw [second_four, if_pos h1, if_neg h2, if_pos h3]
  unfold clashB
  rw [e]
  simp only [said_iff ha (show (32 : UInt8) ∉ wHosts by decide), said_iff ha (show (32 : UInt8) ∉ wBindings by decide), said_iff ha (show (32 : UInt8) ∉ wRoutes by decide)]
  show _ = if key a c = key wHosts wIp then twiceP P [a, b, c, d] d else if key a c = key wBindings wHost ∨ key a c = key wRoutes wVia then !decide ([wHosts, d] ∈ P) else if key a c = key wHosts wVnis then !decide ([wVnis, d] ∈ P) else if key a c = key wBindings wVni then (!decide ([wVnis, d] ∈ P)) || outP P b d else false
  simp only [key_iff ha (show (32 : UInt8) ∉ wHosts by decide), key_iff ha (show (32 : UInt8) ∉ wBindings by decide), key_iff ha (show (32 : UInt8) ∉ wRoutes by decide)]
  rfl
theorem held_none {p : Pth} (h : firstR p = none) (k : Nat) : heldB p k = 0 := by unfold heldB; rw [h]
/-- A line's faults, as the code tells them. -/
theorem faults_code (P : List Pth) {p : Pth} (hp : p ≠ []) (hl : liveP p = true) (hk : knownP p = 0) :
    faultsP P p = (if heldB p (kidsP P p).length ≠ 0 then [(p, heldB p (kidsP P p).length)] else []) ++ (((needsL p).filter fun w => !decide (p ++ [w] ∈ P)).map fun w => (p ++ [w], 1)) ++ (if clashB P p = true then [(p, 7)] else []) := by
  have hf : ∀ q, faultsP P q = if knownP q ≠ 0 then [(q, knownP q)] else match q with
    | [a, b] => ((needsW a).filter fun w => !hasP P [a, b] w).map fun w => ([a, b] ++ [w], 1)
    | [a, b, c] => if (thirdK (key a c)).2.1 = true then (if (kidsP P [a, b, c]).length = 0 then [([a, b, c], 1)] else if 1 < (kidsP P [a, b, c]).length then [([a, b, c], 4)] else []) else []
    | [a, b, c, d] => if meantP P [a, b, c, d] = true then [([a, b, c, d], 7)] else []
    | _ => [] := fun q => rfl
  match p, hp with
  | [a], _ =>
    rw [hf, if_neg (fun h => h hk), clash_off (.inr (second_one a))]
    have e : heldB [a] (kidsP P [a]).length = 0 := by
      unfold heldB
      rw [first_one]
      by_cases hs : secondW a = []
      · rw [if_pos hs]
      · rw [if_neg hs]; rfl
    rw [e]; rfl
  | [a, b], _ =>
    have hb := known_two hk
    have hs := second_ne hb
    have e2 : secondB [a, b] = a := by rw [second_two, if_pos hb]
    rw [hf, if_neg (fun h => h hk), clash_off (.inl (by rw [e2]; exact hs)), held_none (first_two a b)]
    show _ = [] ++ _ ++ []
    rw [List.nil_append, List.append_nil]
    have e3 : needsL [a, b] = needsW a := by show (if secondW a ≠ [] ∧ knownP [a, b] = 0 then needsW a else []) = _; rw [if_pos ⟨hs, hk⟩]
    rw [e3]
    have ef : (fun w => !hasP P [a, b] w) = (fun w => !decide ([a, b] ++ [w] ∈ P)) := by
      funext w
      congr 1
      unfold hasP kidsP
      rw [Bool.eq_iff_iff, decide_eq_true_eq, decide_eq_true_eq, List.mem_filter]
      constructor
      · exact fun h => h.1
      · intro h
        refine ⟨h, ?_⟩
        unfold isKid
        exact decide_eq_true ⟨by simp, by simp⟩
    show List.map (fun w => ([a, b] ++ [w], (1 : Int))) (List.filter (fun w => !hasP P [a, b] w) (needsW a)) = _
    rw [ef]
  | [a, b, c], _ =>
    have h2 : knownP [a, b] = 0 := live_at (k := 2) hl (by omega) (by simp)
    have hb := known_two h2
    have hc := known_three hk
    rw [hf, if_neg (fun h => h hk), clash_off (.inr (second_three a b c))]
    show _ = _ ++ [] ++ []
    rw [List.append_nil, List.append_nil]
    have e : ∀ k, heldB [a, b, c] k = if (thirdK (key a c)).2.1 = true then (if k = 0 then 1 else if k = 1 then 0 else 4) else 0 := by
      intro k; unfold heldB; rw [row_yes hb hc]
    rw [e]
    show (if (thirdK (key a c)).2.1 = true then (if (kidsP P [a, b, c]).length = 0 then [([a, b, c], (1 : Int))] else if 1 < (kidsP P [a, b, c]).length then [([a, b, c], 4)] else []) else []) = _
    generalize (kidsP P [a, b, c]).length = k
    by_cases h1 : (thirdK (key a c)).2.1 = true
    · rw [if_pos h1, if_pos h1]
      by_cases g0 : k = 0
      · rw [if_pos g0, if_pos g0]; rfl
      · rw [if_neg g0, if_neg g0]
        by_cases g1 : k = 1
        · rw [if_pos g1, if_neg (by omega)]; rfl
        · rw [if_neg g1, if_pos (by omega)]; rfl
    · rw [if_neg h1, if_neg h1]; rfl
  | [a, b, c, d], _ =>
    have h2 : knownP [a, b] = 0 := live_at (k := 2) hl (by omega) (by simp)
    have h3 : knownP [a, b, c] = 0 := live_at (k := 3) hl (by omega) (by simp)
    rw [hf, if_neg (fun h => h hk), clash_four P (known_two h2) (known_three h3) (known_four hk), held_none (first_many a b c d [])]
    rfl
  | a :: b :: c :: d :: e :: r, _ => exact absurd (show (3 : Int) = 0 from hk) (by decide)
/-- Which paths are hosts $name ip $ip. -/
theorem second_host (q : Pth) : secondB q = said3 wHosts wIp ↔ ∃ b e, q = [wHosts, b, wIp, e] ∧ nameB b = true ∧ typeB kIp e = true := by
  have hne : said3 wHosts wIp ≠ [] := by decide +kernel
  have hs0 : secondW (said3 wHosts wIp) = [] := by decide +kernel
  constructor
  · intro h
    match q with
    | [] => exact absurd (show secondB [] = [] from by unfold secondB; rw [show ([] : Pth).dropLast = [] from rfl, first_nil]) (fun e => hne (h.symm.trans e))
    | [a] => rw [second_one] at h; exact absurd h.symm hne
    | [a, b] =>
      rw [second_two] at h
      by_cases hb : typeB (secondW a) b = true
      · rw [if_pos hb] at h; subst h; exact absurd hs0 (second_ne hb)
      · rw [if_neg hb] at h; exact absurd h.symm hne
    | [a, b, c] => rw [second_three] at h; exact absurd h.symm hne
    | [a, b, c, d] =>
      rw [second_four] at h
      by_cases hb : typeB (secondW a) b = true
      · rw [if_pos hb] at h
        by_cases hs : (thirdK (key a c)).1 = []
        · rw [if_pos hs] at h; exact absurd h.symm hne
        · rw [if_neg hs] at h
          by_cases hd : typeB (thirdK (key a c)).1 d = true
          · rw [if_pos hd] at h
            obtain ⟨rfl, rfl⟩ := (said_iff (second_blank (second_ne hb)) (show (32 : UInt8) ∉ wHosts by decide)).1 h
            exact ⟨b, d, rfl, hb, hd⟩
          · rw [if_neg hd] at h; exact absurd h.symm hne
      · rw [if_neg hb] at h; exact absurd h.symm hne
    | a :: b :: c :: d :: e :: r => rw [second_five] at h; exact absurd h.symm hne
  · rintro ⟨b, e, rfl, hb, he⟩
    rw [second_four, if_pos (show typeB (secondW wHosts) b = true from hb), if_neg (by decide +kernel), if_pos (show typeB (thirdK (key wHosts wIp)).1 e = true from he)]
/-- Does an earlier line give an address? -/
theorem taken_at {t : List Ln} {j : Nat} {d : Wd} (hd : typeB kIp d = true) : sameAd d (pathL t j) = (decide (wd t j = d) && decide (secondB (pathL t j) = said3 wHosts wIp)) := by
  have hlast : (pathL t j).getLastD [] = wd t j := by rw [T.path_under]; simp
  rw [Bool.eq_iff_iff, Bool.and_eq_true_iff, decide_eq_true_eq, decide_eq_true_eq, second_host]
  constructor
  · intro h
    match hq : pathL t j with
    | [a, b, c, e] =>
      rw [hq] at h hlast
      have h : (decide (a = wHosts) && nameB b && decide (c = wIp) && decide (e = d)) = true := h
      simp only [Bool.and_eq_true_iff, decide_eq_true_eq] at h
      obtain ⟨⟨⟨rfl, h2⟩, rfl⟩, rfl⟩ := h
      exact ⟨hlast.symm, b, e, rfl, h2, hd⟩
    | [] => rw [hq] at h; cases h
    | [_] => rw [hq] at h; cases h
    | [_, _] => rw [hq] at h; cases h
    | [_, _, _] => rw [hq] at h; cases h
    | _ :: _ :: _ :: _ :: _ :: _ => rw [hq] at h; cases h
  · rintro ⟨h1, b, e, hq, h2, h3⟩
    rw [hq] at hlast ⊢
    have he : e = d := by rw [← h1]; exact hlast
    subst he
    show (decide (wHosts = wHosts) && nameB b && decide (wIp = wIp) && decide (e = e)) = true
    rw [h2]; simp
end Go.Proofs.YtikjdjfpoohieaaDoor.C

namespace Go.Proofs.YtikjdjfpoohieaaDoor
open Go.RowKit
open F
open T (Pth)
set_option linter.unusedVariables false

theorem findC13 (A B : Option Addr) (c d n m : Nat) (t : List T.Ln) (p : Pth) (w : World) (hn : t.length = n) (hm : p.length = m) (hA : Seen eL w A t) (hB : Seen eS w B p) (hl : n ≤ 1073741824) (hl2 : m ≤ 1073741824) (hR : T.RightT t) :
    Calls Tryd.prog 25 #[.slice A n c, .slice B m d] w (FindS w t p) := by subst hn; subst hm; exact find_any A B c d t p w hA hB hl hl2 hR
theorem pathC13 (A : Option Addr) (c n m i : Nat) (t : List T.Ln) (p : Pth) (w : World) (hn : t.length = n) (hm : p.length = m) (hA : Seen eL w A t) (hl : n ≤ 1073741824) (hi : i < n) (hR : T.RightT t) (h : T.pathL t i = p) :
    Calls Tryd.prog 33 #[.slice A n c, .int .i64 (i : Int)] w (fun e w' => ∃ B d, e = .returned (.tuple #[.slice B m d, .int .i64 0]) ∧ PtK w' w.heap.size ⟨B, m, d⟩ p ∧ Below w.heap.size w w') := by
  subst hn; subst hm
  refine (Path_new A c t i w hA hl hi hR).mono ?_
  rintro e w' ⟨B, d, rfl, hd, hs, hf, hb⟩
  rw [h] at hd hs ⊢
  exact ⟨B, d, rfl, ⟨⟨rfl, hd, hs⟩, hf⟩, hb⟩
set_option maxRecDepth 100000 in
/-- Is there a line of a path? -/
theorem thereC (A B : Option Addr) (c d n m : Nat) (t : List T.Ln) (p : Pth) (r : Bool) (w : World) (hn : t.length = n) (hm : p.length = m) (hA : Seen eL w A t) (hB : Seen eS w B p) (hl : n ≤ 1073741824) (hl2 : m ≤ 1073741824) (hR : T.RightT t) (hr : decide (p ∈ C.pths t) = r) :
    Calls Tryd.prog 66 #[.slice A n c, .slice B m d] w (BoolS w r) := by
  have HA := Lib.hid hA
  have HB := Lib.hid hB
  have HN := Lib.hid hn
  have HM := Lib.hid hm
  have HR := Lib.hid hR
  have HV := Lib.hid hr
  clear hA hB hn hm hR hr
  go_enter Tryd.func66, Tryd.ntmps66
  go_wp2_with fail
  refine (findC13 A B c d n m t p _ HN.out HM.out HA.out HB.out hl hl2 HR.out).mono ?_
  rintro e w1 ⟨⟨i0, hi0, hp0, rfl⟩ | ⟨hno, rfl⟩, hb1⟩
  · have HE := Lib.hid (show r = true by rw [← HV.out]; exact decide_eq_true (C.mem_pths.2 ⟨i0, hi0, hp0⟩))
    clear hp0 hi0
    go_wp2
    go_ret
    exact ⟨by rw [HE.out]; rfl, hb1⟩
  · have HE := Lib.hid (show r = false by rw [← HV.out]; exact decide_eq_false (fun h => by obtain ⟨i, h1, h2⟩ := C.mem_pths.1 h; exact hno i h1 h2))
    clear hno
    go_wp2
    go_ret
    exact ⟨by rw [HE.out]; rfl, hb1⟩
set_option maxRecDepth 100000 in
set_option maxHeartbeats 4000000 in
/-- Has an earlier host a line's address? -/
theorem takenC (A : Option Addr) (c n i : Nat) (t : List T.Ln) (x : List UInt8) (r : Bool) (w : World) (hn : t.length = n) (hA : Seen eL w A t) (hl : n ≤ 200) (hR : T.RightT t) (hi : i < n) (hx : T.wd t i = x) (hx2 : C.typeB C.kIp x = true) (HT : RowsOk w) (hr : ((List.range i).any fun j => C.sameAd x (T.pathL t j)) = r) :
    Calls Tryd.prog 88 #[.slice A n c, .int .i64 (i : Int)] w (BoolS w r) := by
  have HA := Lib.hid hA
  have HN := Lib.hid hn
  have HRT := Lib.hid hR
  have HR := Lib.hid hr
  have HX := Lib.hid hx2
  have HW := Lib.hid hx
  have HT := Lib.hid HT
  obtain ⟨b, o, rfl, hbw, hL⟩ := hA.lines (by rw [hn]; omega)
  have HL := Lib.hid hL
  have hii : (i : Int) < (n : Int) := by omega
  clear hA hn hR hr hx hx2 hL
  go_enter Tryd.func88, Tryd.ntmps88
  go_wp2
  go_loopg [9] i (fun g vi wr => ∃ k : Nat, Hid (k + g = i) ∧ k ≤ i ∧ vi = .int .i64 (k : Int) ∧ Hid (((List.range k).any fun j => C.sameAd x (T.pathL t j)) = false) ∧ Below w.heap.size w wr)
  case atStart => exact ⟨0, Nat.zero_add _, Nat.zero_le _, rfl, rfl, Below.refl _ _⟩
  case round =>
    obtain ⟨k, HG, hk, rfl, HF, hb⟩ := hrel
    have hgk := HG.out
    by_cases hlt : k < i
    · have blt : decide ((k : Int) < (i : Int)) = true := decide_eq_true (by omega)
      have blt2 : decide (k < i) = true := decide_eq_true hlt
      have hkn : (k : Int) < (n : Int) := by omega
      have hkt : k < t.length := by rw [HN.out]; omega
      have hit : i < t.length := by rw [HN.out]; exact hi
      obtain ⟨_, ck, _⟩ := (HL.out.below hb hbw).line hkt
      obtain ⟨_, ci, _⟩ := (HL.out.below hb hbw).line hit
      rw [HW.out] at ci
      obtain ⟨y, hy⟩ : ∃ y, T.wd t k = y := ⟨_, rfl⟩
      rw [hy] at ck
      have HNX := Lib.hid (show ((List.range (k + 1)).any fun j => C.sameAd x (T.pathL t j)) = (decide (y = x) && decide (C.secondB (T.pathL t k) = C.said3 C.wHosts C.wIp)) by rw [C.any_next, HF.out, Bool.false_or, C.taken_at HX.out, hy])
      have HTR := Lib.hid (show C.sameAd x (T.pathL t k) = true → r = true by
        intro h
        rw [← HR.out, List.any_eq_true]
        exact ⟨k, List.mem_range.2 hlt, h⟩)
      have HSA := Lib.hid (show C.sameAd x (T.pathL t k) = (decide (y = x) && decide (C.secondB (T.pathL t k) = C.said3 C.wHosts C.wIp)) by rw [C.taken_at HX.out, hy])
      clear hkt hit hy
      by_cases he : y = x
      · have e1 : ((sB y).toList == (sB x).toList) = true := sB_eq he
        obtain ⟨p, hp⟩ : ∃ p, T.pathL t k = p := ⟨_, rfl⟩
        obtain ⟨m, hm⟩ : ∃ m, p.length = m := ⟨_, rfl⟩
        have hkt : k < t.length := by rw [HN.out]; omega
        have hm16 : m ≤ 16 := by
          have h1 := HRT.out.path_len k k (Nat.le_refl _) hkt
          have h2 := HRT.out.deep k hkt
          rw [hp, hm] at h1; omega
        have hm0 : 0 < m := by rw [← hm, ← hp]; exact List.length_pos_iff.2 T.path_ne
        have HP := Lib.hid hp
        have HM := Lib.hid hm
        have HSW := Lib.hid (show ShortW p by rw [← hp]; exact short_path HRT.out hkt)
        obtain ⟨s, hs⟩ : ∃ s, C.secondB p = s := ⟨_, rfl⟩
        have HS := Lib.hid hs
        have HED := Lib.hid (decide_eq_true he)
        clear hp hm he hs hkt
        go_wp2
        go_quiet (fail)
        go_wp2_with fail
        refine (pathC13 (some ⟨b, o, none⟩) c n m k t p _ HN.out HM.out (HA.out.below (below_drawn13 hb _)) (by omega) (by omega) HRT.out HP.out).mono ?_
        rintro e w2 ⟨B2, d2, rfl, hpt, hx⟩
        replace hb := bthen (below_drawn13 hb _) hx
        clear hx
        go_wp2_with fail
        refine (secondC B2 d2 m p s _ HM.out hpt.pt.cap hpt.pt.seen HSW.out hm0 (by omega) (HT.out.below hb) HS.out).mono ?_
        rintro e w3 ⟨rfl, hx⟩
        replace hb := bthen hb hx
        clear hx hpt
        by_cases hh : s = C.said3 C.wHosts C.wIp
        · have q0 : ((sB s).toList == [104, 111, 115, 116, 115, 32, 36, 110, 97, 109, 101, 32, 105, 112]) = true := by rw [sB_toList, beq_iff_eq]; exact hh
          have HE := Lib.hid (HTR.out (by rw [HSA.out, HED.out, HP.out, HS.out, decide_eq_true hh]; rfl))
          clear hh
          go_wp2
          go_ret
          exact ⟨by rw [HE.out]; rfl, hb⟩
        · have q0 : ((sB s).toList == [104, 111, 115, 116, 115, 32, 36, 110, 97, 109, 101, 32, 105, 112]) = false := by rw [sB_toList, beq_eq_false_iff_ne]; exact hh
          have HF2 := Lib.hid (show ((List.range (k + 1)).any fun j => C.sameAd x (T.pathL t j)) = false by rw [HNX.out, HP.out, HS.out, decide_eq_false hh, Bool.and_false])
          clear hh
          go_wp2
          go_roundg (i - (k + 1))
          case rel => exact ⟨k + 1, (by show _ = _; omega), by omega, by go_num, HF2.out, hb⟩
          case measure => omega
      · have e1 : ((sB y).toList == (sB x).toList) = false := sB_ne he
        have HF2 := Lib.hid (show ((List.range (k + 1)).any fun j => C.sameAd x (T.pathL t j)) = false by rw [HNX.out, decide_eq_false he, Bool.false_and])
        clear he
        go_wp2
        go_quiet (fail)
        go_wp2
        go_roundg (i - (k + 1))
        case rel => exact ⟨k + 1, (by show _ = _; omega), by omega, by go_num, HF2.out, below_drawn13 hb _⟩
        case measure => omega
    · have blt : decide ((k : Int) < (i : Int)) = false := decide_eq_false (by omega)
      have blt2 : decide (k < i) = false := decide_eq_false hlt
      obtain rfl : k = i := by omega
      have HE := Lib.hid (show r = false by rw [← HR.out]; exact HF.out)
      go_wp2
      go_ret
      exact ⟨by rw [HE.out]; rfl, hb⟩
theorem ip_i64 (l : List UInt8) : I64 (okA (N.ipL l)).1 := by
  unfold okA I64
  rcases N.ip_cases l with h | ⟨n, h, h2, _⟩
  · rw [h]; split <;> simp
  · rw [h, if_pos (by omega)]; constructor <;> simp <;> omega
theorem pref_i64 (l : List UInt8) : I64 (prefA l).1 ∧ I64 (prefA l).2.1 := by
  unfold prefA I64
  rcases N.pref_cases l with h | ⟨n, b, h, _, h2, h3, _⟩
  · rw [h]; split <;> simp
  · rw [h, if_pos (by simp)]
    refine ⟨⟨?_, ?_⟩, ⟨?_, ?_⟩⟩ <;> simp <;> omega
set_option maxRecDepth 100000 in
set_option maxHeartbeats 4000000 in
/-- Is an address not in a network's subnet? -/
theorem outsideC (A : Option Addr) (c n : Nat) (t : List T.Ln) (x y : List UInt8) (r : Bool) (w : World) (hn : t.length = n) (hA : Seen eL w A t) (hl : n ≤ 200) (hR : T.RightT t) (hx : x.length ≤ 100) (hx0 : 0 ≤ N.ipL x) (hr : C.outP (C.pths t) x y = r) :
    Calls Tryd.prog 89 #[.slice A n c, .string (sB y), .string (sB x)] w (BoolS w r) := by
  have HA := Lib.hid hA
  have HN := Lib.hid hn
  have HRT := Lib.hid hR
  have HV := Lib.hid hr
  have HXL := Lib.hid (show (sB x).size ≤ 100 by rw [sB_size]; exact hx)
  have HX0 := Lib.hid hx0
  clear hA hn hR hr hx hx0
  go_enter Tryd.func89, Tryd.ntmps89
  go_wp2_with fail
  refine (findC13 A _ c _ n 3 t [C.wVnis, y, C.wSubnet] _ HN.out rfl (HA.out.below (up w _)) (lit_seen eS w [C.wVnis, y, C.wSubnet] _ rfl (by simp)) (by omega) (by omega) HRT.out).mono ?_
  rintro e w1 ⟨hf, hb1⟩
  replace hb1 := (up w (.cells #[.string (sB C.wVnis), .string (sB y), .string (sB C.wSubnet)] 9)).trans (hb1.mono (up w _).size)
  rcases hf with ⟨i0, hi0, hp0, rfl⟩ | ⟨hno, rfl⟩
  · obtain ⟨K, hK⟩ : ∃ K, T.kidsL t (i0 : Int) = K := ⟨_, rfl⟩
    obtain ⟨nk, hnk⟩ : ∃ nk, K.length = nk := ⟨_, rfl⟩
    have HK := Lib.hid hK
    have HNK := Lib.hid hnk
    have HP := Lib.hid hp0
    have HI0 := Lib.hid hi0
    have hin : i0 < n := by rw [← HN.out]; exact hi0
    clear hp0 hK hi0 hnk
    go_wp2_with fail
    refine (kidsC13 A c n nk t (i0 : Int) K _ HN.out HNK.out (HA.out.below hb1) (by omega) (by omega) (by omega) HRT.out HK.out).mono ?_
    rintro e w2 ⟨A2, c2, rfl, hc2, hs2, hb2⟩
    replace hb2 := bthen hb1 hb2
    clear hb1
    cases K with
    | nil =>
      obtain rfl : 0 = nk := HNK.out
      have HE := Lib.hid (show r = false by rw [← HV.out]; exact C.out_bare HRT.out HI0.out HP.out HK.out)
      clear hc2 hs2
      go_wp2
      go_ret
      exact ⟨by rw [HE.out]; rfl, hb2⟩
    | cons q rest =>
      have hnk1 : 1 ≤ nk := by rw [← HNK.out, List.length_cons]; omega
      have d2 : ((nk : Int) == 0) = false := beq_eq_false_iff_ne.2 (by omega)
      have d2b : (nk == 0) = false := beq_eq_false_iff_ne.2 (by omega)
      have d2c : ¬ nk = 0 := by omega
      have hnki : (0 : Int) < (nk : Int) := by omega
      have hqt : q < t.length := ((T.mem_kids t (i0 : Int) q).1 (by rw [HK.out]; exact List.mem_cons_self)).1
      have hqn : q < n := by rw [← HN.out]; exact hqt
      have hqi : (q : Int) < (n : Int) := by omega
      obtain ⟨b3, o3, rfl, hw3, hL3⟩ := hs2 (by rw [List.length_cons]; omega)
      have c3 : w2.cell? ⟨b3, o3, none⟩ = some (.int .i64 ((q : Nat) : Int)) := hL3.num (i := 0) (by simp)
      obtain ⟨b4, o4, hA4, hw4, hL4⟩ := HA.out.lines (by rw [HN.out]; omega)
      subst hA4
      obtain ⟨_, c4, _⟩ := (hL4.below hb2 hw4).line hqt
      obtain ⟨u, hu⟩ : ∃ u, T.wd t q = u := ⟨_, rfl⟩
      rw [hu] at c4
      obtain ⟨z, zb, ok, hz⟩ : ∃ z zb ok, prefA (sB u).data.toList = (z, zb, ok) := ⟨_, _, _, rfl⟩
      obtain ⟨zi, oki, hzi⟩ : ∃ zi oki, okA (N.ipL (sB x).data.toList) = (zi, oki) := ⟨_, _, rfl⟩
      have HZ := Lib.hid hz
      have HZI := Lib.hid hzi
      have HBD := Lib.hid (show I64 z ∧ I64 zb ∧ I64 zi from ⟨by have := (pref_i64 (sB u).data.toList).1; rwa [hz] at this, by have := (pref_i64 (sB u).data.toList).2; rwa [hz] at this, by have := ip_i64 (sB x).data.toList; rwa [hzi] at this⟩)
      have HUL := Lib.hid (show (sB u).size ≤ 100 by rw [sB_size, ← hu]; exact Nat.le_trans (HRT.out.long q hqt) (by omega))
      have HO := Lib.hid (show r = (decide (0 ≤ (N.prefL u).1) && !N.inB (N.prefL u).1 (N.prefL u).2 (N.ipL x)) by rw [← HV.out, ← hu]; exact C.out_kid HRT.out HI0.out HP.out HK.out)
      have HZX := Lib.hid (show N.ipL x = zi by
        have h := hzi
        rw [sB_data] at h
        unfold okA at h
        rw [if_pos HX0.out] at h
        exact congrArg Prod.fst h)
      have HOK := Lib.hid (show ok = decide (0 ≤ (N.prefL u).1) ∧ (ok = true → (N.prefL u).1 = z ∧ (N.prefL u).2 = zb) by
        have h := hz
        rw [sB_data] at h
        refine ⟨by rw [← prefA_ok, h], fun hk => ?_⟩
        have h2 := prefA_ok u
        rw [h] at h2
        have h3 : 0 ≤ (N.prefL u).1 := of_decide_eq_true (h2.symm.trans hk)
        unfold prefA at h
        rw [if_pos h3] at h
        exact ⟨congrArg Prod.fst h, congrArg (fun q => q.2.1) h⟩)
      clear hL3 hL4 hz hzi hc2 hqt hu
      go_wp2_with fail
      refine (pref_any10 (sB u) z zb ok _ HUL.out HZ.out).mono ?_
      rintro e w3 ⟨rfl, hb3⟩
      replace hb3 := bthen hb2 hb3
      cases ok with
      | false =>
        have HE := Lib.hid (show r = false by rw [HO.out, ← HOK.out.1, Bool.false_and])
        go_wp2
        go_ret
        exact ⟨by rw [HE.out]; rfl, hb3⟩
      | true =>
        obtain ⟨ib, hib⟩ : ∃ ib, N.inB z zb zi = ib := ⟨_, rfl⟩
        have HIB := Lib.hid hib
        have HE := Lib.hid (show r = !ib by rw [HO.out, ← HOK.out.1, (HOK.out.2 rfl).1, (HOK.out.2 rfl).2, HZX.out, hib, Bool.true_and])
        clear hib
        go_wp2_with fail
        refine (ip_any10 (sB x) zi oki _ HXL.out HZI.out).mono ?_
        rintro e w4 ⟨rfl, hb4⟩
        replace hb4 := bthen hb3 hb4
        go_wp2_with fail
        refine (in_any10 z zb zi ib _ HBD.out.1 HBD.out.2.1 HBD.out.2.2 HIB.out).mono ?_
        rintro e w5 ⟨rfl, hb5⟩
        replace hb5 := bthen hb4 hb5
        go_wp2
        go_ret
        exact ⟨by rw [HE.out]; rfl, hb5⟩
  · have HE := Lib.hid (show r = false by rw [← HV.out]; exact C.out_off HRT.out (fun ⟨i, h1, h2⟩ => hno i h1 h2))
    clear hno
    go_wp2
    go_ret
    exact ⟨by rw [HE.out]; rfl, hb1⟩
end Go.Proofs.YtikjdjfpoohieaaDoor
