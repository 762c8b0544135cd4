/-
  Contracts of slices.Compact and slices.Clone at entries, and of the code's Set. Condition: at most 2^30 entries.
  Hosts in memory, as the code keeps them (two words and a row of words): what a slice of them holds, one of the call's own, and what append does to it. Condition: at most 2^40 elements.
  Contracts of the code's words, said, node.in and named; a host's copy in a block of its own. Conditions: a tree of at most 200 lines; at most 2^30 hosts.
  Contracts of the code's named and nodesOf: all hosts of a tree in memory, and one of a name. Condition: a tree of at most 200 lines.
  Contract of the code's floods: the entries Flood of all hosts. Condition: at most 200 hosts, each in at most 200 networks.
  The document's side of layer 14: what one host has of another one (pairs). Condition: a tree of at most 200 lines, words of at most 40 bytes.
  Contract of the code's bound: the entries ARP and FDB of all hosts. Condition: a tree of at most 200 lines, at most 200 hosts, each in at most 200 networks.
  Contract of the code's routes: the entries Route of all hosts. Condition: a tree of at most 200 lines, at most 200 hosts, each in at most 200 networks.
  The document's side of layer 13: Check. Condition: a tree of at most 200 lines.
  Layer 13's statements' own functions: faults that are equal are Same, faults as the document's (refs), few, and that 'awake' is true under the premise. No conditions.
  The document's side of layer 14: the tables of a right tree (Compile). Condition: a tree of at most 200 lines.
  What the library proves once of strings.Join, at this program's numbers. No conditions.
-/
import Derived.Test.YtfcikfohmehmkaaGreatDoorBase9
import Derived.Deep.RegionHeld3
import Derived.Shelf.Strings.OnBuilder

namespace Go.Proofs.YtfcikfohmehmkaaGreatDoor
open Go.RowKit
set_option linter.unusedVariables false

set_option maxRecDepth 100000 in
set_option maxHeartbeats 16000000 in
theorem compactE (g cap n : Nat) (X : List H.En) (w : World) (hn : X.length = n) (hc : n ≤ cap) (hl : n ≤ 1073741824) (hR : RowE w g X) :
    Calls Tryz.prog 37 #[.slice (some ⟨g, 0, none⟩) n cap] w (fun e w' => ∃ m, e = .returned (.slice (some ⟨g, 0, none⟩) m cap) ∧ (H.sqE X).length = m ∧ m ≤ n ∧ RowE w' g (H.sqE X) ∧ Below g w w') := by
  have HN := Lib.hid hn
  have HR := Lib.hid hR
  by_cases h2 : n < 2
  · have b2 : decide ((n : Int) < 2) = true := decide_eq_true (by omega)
    have HY := Lib.hid (show H.sqE X = X from H.sqE_short (by omega))
    clear hn hR
    go_enter Tryz.func37, Tryz.ntmps37
    go_wp2
    go_ret
    exact ⟨n, rfl, by rw [HY.out]; exact HN.out, Nat.le_refl _, by rw [HY.out]; exact HR.out, Below.refl _ _⟩
  have b2 : decide ((n : Int) < 2) = false := decide_eq_false (by omega)
  have H1 := Lib.hid (show H.sqE (X.take 1) = X.take 1 from H.sqE_short (by rw [List.length_take]; omega))
  have HLT := Lib.hid hR.lt
  clear hR hn
  go_enter Tryz.func37, Tryz.ntmps37
  go_wp2
  go_loopg [3] (n - 1) (fun gk vi wr => ∃ k : Nat, Hid (k + gk = n) ∧ 1 ≤ k ∧ k ≤ n ∧ vi = .int .i64 (k : Int) ∧ Hid (H.sqE (X.take k) = X.take k) ∧ Below w.heap.size w wr)
  case atStart => exact ⟨1, (by show _ = _; omega), Nat.le_refl _, by omega, by go_num, H1.out, Below.refl _ _⟩
  case round =>
    obtain ⟨k, HG, hk1, hkn, rfl, HQ, hb⟩ := hrel
    by_cases hlt : k < n
    · have blt : decide ((k : Int) < (n : Int)) = true := decide_eq_true (by omega)
      have blt2 : decide (k < n) = true := decide_eq_true hlt
      obtain ⟨j, hj⟩ : ∃ j, k = j + 1 := ⟨k - 1, by omega⟩
      have hkX : k < X.length := by have := HN.out; omega
      have hjX : j < X.length := by omega
      obtain ⟨p, hp⟩ : ∃ p, X[k]? = some p := ⟨_, List.getElem?_eq_getElem hkX⟩
      obtain ⟨q, hq⟩ : ∃ q, X[j]? = some q := ⟨_, List.getElem?_eq_getElem hjX⟩
      have HNX := Lib.hid (H.sqE_step X k j p q hj hp hq)
      obtain ⟨p0, p1, p2, p3⟩ := (HR.out.keep hb HLT.out).at_ hp rfl
      obtain ⟨q0, q1, q2, q3⟩ := (HR.out.keep hb HLT.out).at_ hq rfl
      have hw : IntKind.i64.wrap ((k : Int) - 1) = (j : Int) := by rw [wrapE _ (by omega)]; omega
      have hki : (k : Int) < (n : Int) := by omega
      have hji : (j : Int) < (n : Int) := by omega
      have hgk := HG.out
      have HJ := Lib.hid hj
      clear hp hq hj hkX hjX
      by_cases he : p = q
      · subst he
        obtain ⟨nn, hnn⟩ : ∃ nn, n - k = nn := ⟨_, rfl⟩
        obtain ⟨cc, hcc⟩ : ∃ cc, cap - k = cc := ⟨_, rfl⟩
        have hkc : k ≤ cap := by omega
        have hkne : ¬ cap = k := by omega
        have hkn' : k ≤ n := by omega
        have HNN := Lib.hid hnn
        have HI0 := Lib.hid (fun w' (h : Below w.heap.size w w') => show InE w g X (X.take k) w' (k + 1) k from ⟨by rw [List.length_take, HN.out]; omega, by rw [HNX.out.2.2 (decide_eq_true rfl)]; exact HQ.out.symm, by rw [List.take_append_drop]; exact HR.out.keep h HLT.out, h.mono (Nat.le_of_lt HLT.out)⟩)
        go_wp2
        go_quiet (fail)
        all_goals go_wp2
        go_loopg [3, 5] (nn - 1) (fun gk v5 v7 wr => ∃ (k2 kk : Nat) (Y : List H.En), Hid (k2 + gk = nn) ∧ 1 ≤ k2 ∧ k2 ≤ nn ∧ v5 = .int .i64 (kk : Int) ∧ v7 = .int .i64 (k2 : Int) ∧ Hid (kk < k + k2) ∧ Hid (InE w g X Y wr (k + k2) kk))
        case atStart => exact ⟨1, k, X.take k, (by show _ = _; omega), Nat.le_refl _, by omega, rfl, by go_num, (by show _ < _; omega), HI0.out _ (bthen hb (drew_below _ _))⟩
        case round =>
          obtain ⟨k2, kk, Y, HG2, hk21, hk2n, rfl, rfl, HKK, HI⟩ := hrel
          by_cases hlt2 : k2 < nn
          · have blt3 : decide ((k2 : Int) < (nn : Int)) = true := decide_eq_true (by omega)
            have blt4 : decide (k2 < nn) = true := decide_eq_true hlt2
            obtain ⟨j2, hj2⟩ : ∃ j2, k2 = j2 + 1 := ⟨k2 - 1, by omega⟩
            have hkk := HKK.out
            have hxl : X.length = n := HN.out
            have hnn2 : n - k = nn := HNN.out
            obtain ⟨p, hp⟩ : ∃ p, X[k + k2]? = some p := ⟨_, List.getElem?_eq_getElem (by omega)⟩
            obtain ⟨q, hq⟩ : ∃ q, X[k + j2]? = some q := ⟨_, List.getElem?_eq_getElem (by omega)⟩
            have HNX := Lib.hid (H.sqE_step X (k + k2) (k + j2) p q (by omega) hp hq)
            obtain ⟨p0, p1, p2, p3⟩ := HI.out.row.at_ (o := k * 4 + k2 * 4) ((HI.out.at_ (a := k + k2) (by omega)).trans hp) (by omega)
            obtain ⟨q0, q1, q2, q3⟩ := HI.out.row.at_ (o := k * 4 + j2 * 4) ((HI.out.at_ (a := k + j2) (by omega)).trans hq) (by omega)
            have hw : IntKind.i64.wrap ((k2 : Int) - 1) = (j2 : Int) := by rw [wrapE _ (by omega)]; omega
            have hki : (k2 : Int) < (nn : Int) := by omega
            have hji : (j2 : Int) < (nn : Int) := by omega
            have hkkn : kk < n := by omega
            have hkki : (kk : Int) < (n : Int) := by omega
            have hgk2 := HG2.out
            obtain ⟨z, hz⟩ : ∃ z, (Y ++ X.drop kk)[kk]? = some z := ⟨_, List.getElem?_eq_getElem (by rw [HI.out.full (by omega)]; omega)⟩
            obtain ⟨z0, z1, z2, z3⟩ := HI.out.row.at_ (o := kk * 4) hz rfl
            have f0 := HI.out.row.thaw (kk * 4)
            have f1 := HI.out.row.thaw (kk * 4 + 1)
            have f2 := HI.out.row.thaw (kk * 4 + 2)
            have f3 := HI.out.row.thaw (kk * 4 + 3)
            have HKX := Lib.hid (show kk < X.length by omega)
            clear hp hq hj2 hxl hnn2 hkk hz
            by_cases he : p = q
            · subst he
              clear z0 z1 z2 z3 f0 f1 f2 f3
              go_wp2
              go_quiet (fail)
              all_goals go_wp2
              all_goals
                go_roundg (nn - (k2 + 1))
                case rel => exact ⟨k2 + 1, kk, Y, (by show _ = _; omega), by omega, by omega, rfl, by go_num, (by have := HKK.out; show _ < _; omega), HI.out.skip (drew_below _ _) (HNX.out.2.2 (by simp))⟩
                case measure => omega
            · rcases H.ent_apart he with e1 | ⟨e1, e2⟩ | ⟨e1, e2, e3⟩ | ⟨e1, e2, e3, e4⟩
              · have n1 := sB_ne e1
                have HD := Lib.hid he
                clear e1 he
                go_wp2
                go_quiet (fail)
                all_goals go_wp2
                all_goals
                  go_roundg (nn - (k2 + 1))
                  case rel => exact ⟨k2 + 1, kk + 1, Y ++ [p], (by show _ = _; omega), by omega, by omega, by go_num, by go_num, (by have := HKK.out; show _ < _; omega), HI.out.put (q' := k + (k2 + 1)) (drew_below _ _) HKX.out (HNX.out.1 (decide_eq_false HD.out))⟩
                  case measure => omega
              · have n1 := sB_eq e1
                have n2 : (p.kind == q.kind) = false := beq_eq_false_iff_ne.2 e2
                have HD := Lib.hid he
                clear e1 e2 he
                go_wp2
                go_quiet (fail)
                all_goals go_wp2
                all_goals
                  go_roundg (nn - (k2 + 1))
                  case rel => exact ⟨k2 + 1, kk + 1, Y ++ [p], (by show _ = _; omega), by omega, by omega, by go_num, by go_num, (by have := HKK.out; show _ < _; omega), HI.out.put (q' := k + (k2 + 1)) (drew_below _ _) HKX.out (HNX.out.1 (decide_eq_false HD.out))⟩
                  case measure => omega
              · have n1 := sB_eq e1
                have n2 : (p.kind == q.kind) = true := beq_iff_eq.2 e2
                have n3 := sB_ne e3
                have HD := Lib.hid he
                clear e1 e2 e3 he
                go_wp2
                go_quiet (fail)
                all_goals go_wp2
                all_goals
                  go_roundg (nn - (k2 + 1))
                  case rel => exact ⟨k2 + 1, kk + 1, Y ++ [p], (by show _ = _; omega), by omega, by omega, by go_num, by go_num, (by have := HKK.out; show _ < _; omega), HI.out.put (q' := k + (k2 + 1)) (drew_below _ _) HKX.out (HNX.out.1 (decide_eq_false HD.out))⟩
                  case measure => omega
              · have n1 := sB_eq e1
                have n2 : (p.kind == q.kind) = true := beq_iff_eq.2 e2
                have n3 := sB_eq e3
                have n4 := sB_ne e4
                have HD := Lib.hid he
                clear e1 e2 e3 e4 he
                go_wp2
                go_quiet (fail)
                all_goals go_wp2
                all_goals
                  go_roundg (nn - (k2 + 1))
                  case rel => exact ⟨k2 + 1, kk + 1, Y ++ [p], (by show _ = _; omega), by omega, by omega, by go_num, by go_num, (by have := HKK.out; show _ < _; omega), HI.out.put (q' := k + (k2 + 1)) (drew_below _ _) HKX.out (HNX.out.1 (decide_eq_false HD.out))⟩
                  case measure => omega
          · have blt3 : decide ((k2 : Int) < (nn : Int)) = false := decide_eq_false (by omega)
            have blt4 : decide (k2 < nn) = false := decide_eq_false hlt2
            have hkk := HKK.out
            have hxl : X.length = n := HN.out
            have hnn2 : n - k = nn := HNN.out
            have hkkn : kk ≤ n := by omega
            have hkkc : kk ≤ cap := by omega
            have hkkne : ¬ cap = kk := by omega
            obtain ⟨n3, hn3⟩ : ∃ n3, n - kk = n3 := ⟨_, rfl⟩
            obtain ⟨c3, hc3⟩ : ∃ c3, cap - kk = c3 := ⟨_, rfl⟩
            obtain ⟨vs, hvs, hcl⟩ := run_clear_ent wr g (kk * 4) n3 c3 (by omega) (fun x hx => by
              obtain ⟨z, hz⟩ : ∃ z, (Y ++ X.drop kk)[kk + x / 4]? = some z := ⟨_, List.getElem?_eq_getElem (by rw [HI.out.full (by omega)]; omega)⟩
              obtain ⟨h1, h2⟩ := List.getElem?_eq_some_iff.1 hz
              have hx4 : x % 4 < 4 := Nat.mod_lt _ (by decide)
              have h := HI.out.row.cells (kk + x / 4) h1 (x % 4) ((enC _)[x % 4]'hx4) (List.getElem?_eq_getElem _)
              rw [show 0 + (kk + x / 4) * eEc.sz + x % 4 = kk * 4 + x by show 0 + (kk + x / 4) * 4 + x % 4 = _; omega] at h
              rw [h]; rfl) (fun x hx => HI.out.row.thaw _)
            have HSQ := Lib.hid (show Y = H.sqE X by
              rw [HI.out.sq, List.take_of_length_le (by omega)])
            have HRW := Lib.hid (show RowE (wr.setCells g (kk * 4) vs) g Y from HI.out.row.first.behind vs (by rw [HI.out.len]; exact Nat.le_refl _))
            have HBT := Lib.hid (below_cells g (Nat.le_refl _) vs (kk * 4) HI.out.low)
            have HYL := Lib.hid HI.out.len
            clear hkk hvs
            go_wp2
            go_ret
            exact ⟨kk, rfl, by rw [← HSQ.out]; exact HYL.out, hkkn, by rw [← HSQ.out]; exact HRW.out, HBT.out⟩
      · rcases H.ent_apart he with e1 | ⟨e1, e2⟩ | ⟨e1, e2, e3⟩ | ⟨e1, e2, e3, e4⟩
        · have n1 := sB_ne e1
          have HD := Lib.hid he
          clear e1 he
          go_wp2
          go_quiet (fail)
          all_goals go_wp2
          all_goals
            go_roundg (n - (k + 1))
            case rel => exact ⟨k + 1, (by show _ = _; omega), by omega, by omega, by go_num, (HNX.out.1 (decide_eq_false HD.out)).trans (by rw [HQ.out]; exact HNX.out.2.1), bthen hb (drew_below _ _)⟩
            case measure => omega
        · have n1 := sB_eq e1
          have n2 : (p.kind == q.kind) = false := beq_eq_false_iff_ne.2 e2
          have HD := Lib.hid he
          clear e1 e2 he
          go_wp2
          go_quiet (fail)
          all_goals go_wp2
          all_goals
            go_roundg (n - (k + 1))
            case rel => exact ⟨k + 1, (by show _ = _; omega), by omega, by omega, by go_num, (HNX.out.1 (decide_eq_false HD.out)).trans (by rw [HQ.out]; exact HNX.out.2.1), bthen hb (drew_below _ _)⟩
            case measure => omega
        · have n1 := sB_eq e1
          have n2 : (p.kind == q.kind) = true := beq_iff_eq.2 e2
          have n3 := sB_ne e3
          have HD := Lib.hid he
          clear e1 e2 e3 he
          go_wp2
          go_quiet (fail)
          all_goals go_wp2
          all_goals
            go_roundg (n - (k + 1))
            case rel => exact ⟨k + 1, (by show _ = _; omega), by omega, by omega, by go_num, (HNX.out.1 (decide_eq_false HD.out)).trans (by rw [HQ.out]; exact HNX.out.2.1), bthen hb (drew_below _ _)⟩
            case measure => omega
        · have n1 := sB_eq e1
          have n2 : (p.kind == q.kind) = true := beq_iff_eq.2 e2
          have n3 := sB_eq e3
          have n4 := sB_ne e4
          have HD := Lib.hid he
          clear e1 e2 e3 e4 he
          go_wp2
          go_quiet (fail)
          all_goals go_wp2
          all_goals
            go_roundg (n - (k + 1))
            case rel => exact ⟨k + 1, (by show _ = _; omega), by omega, by omega, by go_num, (HNX.out.1 (decide_eq_false HD.out)).trans (by rw [HQ.out]; exact HNX.out.2.1), bthen hb (drew_below _ _)⟩
            case measure => omega
    · have blt : decide ((k : Int) < (n : Int)) = false := decide_eq_false (by omega)
      have blt2 : decide (k < n) = false := decide_eq_false hlt
      have HY := Lib.hid (show H.sqE X = X by
        have h := HQ.out
        rw [List.take_of_length_le (by rw [HN.out]; omega)] at h
        exact h)
      go_wp2
      go_ret
      exact ⟨n, rfl, by rw [HY.out]; exact HN.out, Nat.le_refl _, by rw [HY.out]; exact HR.out.keep hb HLT.out, hb.mono (Nat.le_of_lt HLT.out)⟩
set_option maxRecDepth 100000 in
theorem cloneEZ (c : Nat) (w : World) : Calls Tryz.prog 35 #[.slice none 0 c] w (OwnS eEc w []) := by
  have q := fun (w : World) (a : Option Addr) (n c : Nat) => Lib.run_eql_slice_nil (P := Tryz.prog) w 25 _ a n c 0 0 Tryz.underlying25
  go_enter Tryz.func35, Tryz.ntmps35
  go_wp2
  go_ret
  exact ⟨_, rfl, Own.nil _ _, Below.refl _ _⟩
set_option maxRecDepth 100000 in
theorem cloneES (ad : Addr) (cap n : Nat) (t : List H.En) (w : World) (hn : t.length = n) (hp : n ≤ 1073741824) (h : Seen eEc w (some ad) t) :
    Calls Tryz.prog 35 #[.slice (some ad) n cap] w (OwnS eEc w t) := by
  have HH := Lib.hid (h.below ((Below.refl _ _).alloc (Nat.le_refl _) (.cells #[] eEc.T)))
  have HO := Lib.hid (Own.empty eEc w)
  clear h
  have q := fun (w : World) (a : Option Addr) (n c : Nat) => Lib.run_eql_slice_nil (P := Tryz.prog) w 25 _ a n c 0 0 Tryz.underlying25
  have HN := Lib.hid hn
  clear hn
  go_enter Tryz.func35, Tryz.ntmps35
  go_wp2_with (first | (at_builtin; refine wpList_appSeen eEc (w.alloc (.cells #[] eEc.T)) rfl (.tmp 5) (.tmp 6) rfl w.heap.size _ [] rfl HO.out ad t n cap HN.out rfl HH.out (by simp; omega) (by simp) ?_; intro v3 w3 hown3 hb3))
  go_ret
  exact ⟨v3, rfl, hown3, ((Below.refl _ _).alloc (Nat.le_refl _) _).trans hb3⟩
theorem cloneE (A : Option Addr) (c n : Nat) (p : List H.En) (w : World) (hn : p.length = n) (hp : n ≤ 1073741824) (h : Seen eEc w A p) : Calls Tryz.prog 35 #[.slice A n c] w (OwnS eEc w p) := by
  cases A with
  | none =>
    have h0 : p = [] := by
      cases p with
      | nil => rfl
      | cons a r => obtain ⟨b, o, e, _⟩ := h (by simp); cases e
    subst h0
    obtain rfl : n = 0 := hn.symm
    exact cloneEZ c w
  | some ad => exact cloneES ad c n p w hn hp h
theorem enters_compare : ∀ args w, (callFunc 19 args).run Tryz.prog w = .ok (.enter 19 args) w := enters_of Tryz.func19 (by kernel_rfl) rfl
/-- slices.Compact of no entries. -/
theorem compactZ (A : Option Addr) (c : Nat) (w : World) : Calls Tryz.prog 37 #[.slice A 0 c] w (fun e w' => e = .returned (.slice A 0 c) ∧ w = w') := by
  go_enter Tryz.func37, Tryz.ntmps37
  go_wp2
  go_ret
  exact ⟨rfl, rfl⟩
set_option maxRecDepth 100000 in
set_option maxHeartbeats 4000000 in
/-- Entries in order, each once. -/
theorem setC (A : Option Addr) (c n m : Nat) (l : List H.En) (w : World) (hn : l.length = n) (hl : n ≤ 1073741824) (hA : Seen eEc w A l) (hm : (H.setE l).length = m) :
    Calls Tryz.prog 17 #[.slice A n c] w (fun e w' => ∃ B d, e = .returned (.slice B m d) ∧ m ≤ d ∧ Seen eEc w' B (H.setE l) ∧ Below w.heap.size w w') := by
  have HC := Lib.hid (cloneE A c n l w hn hl hA)
  have HN := Lib.hid hn
  have HM := Lib.hid hm
  clear hA hm hn
  by_cases h0 : n = 0
  · have HL0 := Lib.hid (show l = [] from List.eq_nil_of_length_eq_zero (by have := HN.out; omega))
    obtain rfl : m = 0 := by rw [← HM.out, HL0.out]; rfl
    subst h0
    go_enter Tryz.func17, Tryz.ntmps17
    go_wp2_with fail
    refine HC.out.mono ?_
    rintro e w1 ⟨v, rfl, ho, hb1⟩
    rw [HL0.out] at ho
    obtain ⟨B, d, rfl, _, _⟩ := ho.seen
    have HB1 := Lib.hid hb1
    clear ho hb1
    simp only [List.length_nil]
    go_wp2_with fail
    refine (AnyF.slices_SortFunc_none (P := Tryz.prog) (ρ := renSortE) laysSortE B d (.func (.func 19) #[] #[]) w1).mono ?_
    rintro e w2 ⟨rfl, rfl⟩
    go_wp2_with fail
    refine (compactZ B d _).mono ?_
    rintro e w3 ⟨rfl, rfl⟩
    go_wp2
    go_ret
    refine ⟨B, d, rfl, Nat.zero_le _, ?_, HB1.out⟩
    rw [HL0.out]
    exact Seen.nil
  · have hn0 : 0 < n := by omega
    go_enter Tryz.func17, Tryz.ntmps17
    go_wp2_with fail
    refine HC.out.mono ?_
    rintro e w1 ⟨v, rfl, ho, hb1⟩
    obtain ⟨B, d, rfl, hd, _⟩ := ho.seen
    rw [HN.out] at ho hd ⊢
    obtain ⟨g, rfl, hg1, hg2, _⟩ := ho.block (by have := HN.out; omega)
    have HR := Lib.hid (RowE.own ho (by have := HN.out; omega))
    have HB1 := Lib.hid hb1
    clear ho hb1
    go_wp2_with fail
    refine (sortE_any 19 enters_compare compareC g n d l w1 HN.out hn0 HR.out hl).mono ?_
    rintro e w2 ⟨rfl, s, hp, hso, hr, hb2⟩
    have HSQ := Lib.hid (H.sq_set hp hso)
    have HSL := Lib.hid (hp.length_eq.trans HN.out)
    have HR2 := Lib.hid hr
    have HB2 := Lib.hid (HB1.out.trans (hb2.mono hg1))
    clear hp hso hr hb2
    go_wp2_with fail
    refine (compactE g d n s _ HSL.out hd hl HR2.out).mono ?_
    rintro e w3 ⟨q, rfl, hq, hqn, hr3, hb3⟩
    have HR3 := Lib.hid hr3
    have HB3 := Lib.hid (HB2.out.trans (hb3.mono hg1))
    have hqm : q = m := by rw [← hq, HSQ.out, HM.out]
    subst hqm
    clear hr3 hb3 hq
    go_wp2
    go_ret
    refine ⟨_, d, rfl, by omega, ?_, HB3.out⟩
    rw [← HSQ.out]
    exact HR3.out.seen
end Go.Proofs.YtfcikfohmehmkaaGreatDoor

namespace Go.Proofs.YtfcikfohmehmkaaGreatDoor
open Go.RowKit
set_option linter.unusedVariables false

/-- A host, as its cells have it: its row of words, its name and address. -/
abbrev NdM := PtM × (List UInt8 × List UInt8)
abbrev NdP := T.Pth × (List UInt8 × List UInt8)
def ndC (x : NdM) : List Value := [.string (sB x.2.1), .string (sB x.2.2), .slice x.1.A x.1.n x.1.c]
theorem ndC_one (x : NdM) (u : Value) (hu : u ∈ ndC x) : u.oneCell' = true := by
  simp [ndC] at hu
  rcases hu with rfl | rfl | rfl <;> rfl
/-- The code's. -/
def eNd : Elem NdM where
  st := 58
  T := 96
  sz := 3
  zero := .agg #[.string ⟨#[]⟩, .string ⟨#[]⟩, .slice none 0 0]
  by_ := 56
  C := ndC
  hst := Tryz.underlying58
  hin := by kernel_rfl
  hzs := rfl
  hsz := by decide
  hby := by decide
  len := fun _ => rfl
  one := ndC_one
structure NdK (w : World) (k : Nat) (m : NdM) (x : NdP) : Prop where
  pt : PtK w k m.1 x.1
  num : m.2 = x.2
theorem NdK.below {w w1 : World} {k : Nat} {m : NdM} {x : NdP} (h : NdK w k m x) (hb : Below w.heap.size w w1) : NdK w1 k m x := ⟨h.pt.below hb, h.num⟩
/-- A slice value owns these hosts; their paths lie elsewhere, from block k on. -/
def OwnNd (E : Elem NdM) (w : World) (base k : Nat) (v : Value) (L : List NdP) : Prop := ∃ M : List NdM, M.length = L.length ∧ Own E w base v M ∧ ∀ i (h1 : i < M.length) (h2 : i < L.length), NdK w k M[i] L[i] ∧ FreeQ v M[i].1 L[i].1
theorem OwnNd.nil (E : Elem NdM) (w : World) (base k : Nat) : OwnNd E w base k (.slice none 0 0) [] := ⟨[], rfl, Own.nil _ _, fun i h => absurd h (Nat.not_lt_zero i)⟩
theorem OwnNd.keep {E : Elem NdM} {w w1 : World} {base k : Nat} {v : Value} {L : List NdP} (h : OwnNd E w base k v L) (hb : Below w.heap.size w w1) : OwnNd E w1 base k v L := by
  obtain ⟨M, h1, h2, h3⟩ := h
  exact ⟨M, h1, h2.keep hb, fun i h4 h5 => ⟨(h3 i h4 h5).1.below hb, (h3 i h4 h5).2⟩⟩
theorem OwnNd.ndBlock {E : Elem NdM} {w : World} {base k : Nat} {v : Value} {L : List NdP} (h : OwnNd E w base k v L) : ∀ b, v.ownBlock = some b → base ≤ b ∧ b < w.heap.size := by
  obtain ⟨M, _, h2, _⟩ := h
  exact h2.lt
/-- Outside the row: a path in elder memory than the row's, or in newer. -/
theorem OwnNd.ndFree {E : Elem NdM} {w w1 : World} {base k j : Nat} {v : Value} {L : List NdP} {m : PtM} {x : T.Pth} (h : OwnNd E w base k v L) (hj : w.heap.size ≤ j) (hm : PtK w1 j m x) : FreeQ v m x := by
  intro _ a ha e
  have h5 := hm.from_ a ha
  have h6 := (h.ndBlock _ e).2
  omega
theorem OwnNd.snoc {E : Elem NdM} {w w' : World} {base k : Nat} {v v' : Value} {M : List NdM} {L : List NdP} {m : NdM} {x : NdP} (hl : M.length = L.length) (he : ∀ i (h1 : i < M.length) (h2 : i < L.length), NdK w k M[i] L[i] ∧ FreeQ v M[i].1 L[i].1)
    (hx : NdK w k m x) (hf : FreeQ v m.1 x.1) (hg : Grew E w w' base v v' (M ++ [m])) : OwnNd E w' base k v' (L ++ [x]) := by
  have step : ∀ (m : NdM) (x : NdP), NdK w k m x → FreeQ v m.1 x.1 → NdK w' k m x ∧ FreeQ v' m.1 x.1 := by
    intro m x hx hf
    refine ⟨⟨⟨⟨hx.pt.pt.len, hx.pt.pt.cap, fun hp => ?_⟩, hx.pt.from_⟩, hx.num⟩, fun hp a ha e => ?_⟩
    · obtain ⟨b, o, e, hb, hH⟩ := hx.pt.pt.seen hp
      have hne := hf hp _ e
      exact ⟨b, o, e, Nat.lt_of_lt_of_le hb hg.grown.size, holds_of_block hH (hg.grown.block b hb (fun e => hne e.symm))⟩
    · obtain ⟨b, o, e2, hb, _⟩ := hx.pt.pt.seen hp
      have hne := hf hp a ha
      have eb : a.block = b := by rw [e2] at ha; injection ha with ha; rw [← ha]
      rcases hg.at_ with h | ⟨g, h, h4⟩
      · rw [h] at e; exact hne e
      · rw [h] at e; injection e with e; omega
  refine ⟨M ++ [m], by rw [List.length_append, List.length_append, hl]; rfl, hg.own, fun i h1 h2 => ?_⟩
  rw [List.length_append, List.length_singleton] at h1
  by_cases hi : i < M.length
  · rw [List.getElem_append_left hi, List.getElem_append_left (by omega)]
    exact step _ _ (he i hi (by omega)).1 (he i hi (by omega)).2
  · obtain rfl : i = M.length := by omega
    have e1 : (M ++ [m])[M.length]'(by simp) = m := by simp
    have e2 : (L ++ [x])[M.length]'(by rw [List.length_append, hl]; simp) = x := by simp [hl]
    rw [e1, e2]
    exact step _ _ hx hf
/-- append of one host. -/
theorem wpList_appNd (E : Elem NdM) {ops : Array Oper} {rest : List Oper} {o : Oper} {a : Act} {Q : Exit → Act → World → Prop} (w : World) (hgd : o.guard = none) (s x : Operand)
    (ho : o.op = .call { callee := .builtin .append, args := #[s, x], argTypes := #[E.st, E.st] })
    (base k : Nat) (v : Value) (L : List NdP) (hs : a.eval s = v) (hown : OwnNd E w base k v L) (y : NdP) (m : NdM) (hy : NdK w k m y) (hf : FreeQ v m.1 y.1) (cap : Nat) (cs : Array Value) (hcs : cs.toList = E.C m)
    (g : Nat) (hg : w.heap.size = g) (hx : a.eval x = .slice (some ⟨g, 0, none⟩) 1 cap) (hlen : L.length + 1 ≤ 1099511627776) (hb : base ≤ w.heap.size)
    (h : ∀ v' w', OwnNd E w' base k v' (L ++ [y]) → Below base w w' → wpList Tryz.prog ops Q rest (a.put o.dst v') w') : wpList Tryz.prog ops Q (o :: rest) a (w.alloc (.cells cs E.T)) := by
  obtain ⟨M, h1, h2, h3⟩ := hown
  exact wpList_app3 E w hgd s x ho base v M hs h2 m cap cs hcs g hg hx (by omega) hb fun v' w' hG => h v' w' (OwnNd.snoc h1 h3 hy hf hG) (hG.below h2 hb)
/-- What stands in the cells of a host. -/
theorem Holds.node {w : World} {b o : Nat} {l : List NdM} (h : Holds eNd w b o l) {i : Nat} (hi : i < l.length) : w.cell? ⟨b, o + i * 3, none⟩ = some (.string (sB l[i].2.1)) ∧ w.cell? ⟨b, o + i * 3 + 1, none⟩ = some (.string (sB l[i].2.2)) ∧ w.cell? ⟨b, o + i * 3 + 2, none⟩ = some (.slice l[i].1.A l[i].1.n l[i].1.c) := by
  have e : ∀ j u, (ndC l[i])[j]? = some u → w.cell? ⟨b, o + i * 3 + j, none⟩ = some u := fun j u hu => h i hi j u hu
  exact ⟨e 0 _ rfl, e 1 _ rfl, e 2 _ rfl⟩
/-- A host of the plain laws. -/
def ndP (x : H.Nd) : NdP := (x.vn, (x.name, x.addr))
end Go.Proofs.YtfcikfohmehmkaaGreatDoor

namespace Go.Proofs.YtfcikfohmehmkaaGreatDoor
open Go.RowKit
set_option linter.unusedVariables false

/-- A host in a block of its own. -/
def NdB (w : World) (g : Nat) (a b : List UInt8) (m : PtM) : Prop := w.heap[g]? = some (.cells #[.string (sB a), .string (sB b), .slice m.A m.n m.c] 96 (0, 0))
theorem NdB.cells {w : World} {g : Nat} {a b : List UInt8} {m : PtM} (h : NdB w g a b m) : w.cell? ⟨g, 0, none⟩ = some (.string (sB a)) ∧ w.cell? ⟨g, 1, none⟩ = some (.string (sB b)) ∧ w.cell? ⟨g, 2, none⟩ = some (.slice m.A m.n m.c) := by
  refine ⟨?_, ?_, ?_⟩ <;> simp [World.cell?, show w.heap[g]? = _ from h]
theorem NdB.fzn {w : World} {g : Nat} {a b : List UInt8} {m : PtM} (h : NdB w g a b m) (j : Nat) : w.frozen? ⟨g, j, none⟩ = false := by simp [World.frozen?, show w.heap[g]? = _ from h]
theorem NdB.keep {w w1 : World} {B g : Nat} {a b : List UInt8} {m : PtM} (h : NdB w g a b m) (hb : Below B w w1) (hg : g < B) : NdB w1 g a b m := (hb.block g hg).trans h
theorem NdB.lt {w : World} {g : Nat} {a b : List UInt8} {m : PtM} (h : NdB w g a b m) : g < w.heap.size := (Array.getElem?_eq_some_iff.1 h).1
theorem NdB.born (w : World) (a b : List UInt8) (m : PtM) : NdB (w.alloc (.cells #[.string (sB a), .string (sB b), .slice m.A m.n m.c] 96)) w.heap.size a b m := heap_alloc_new w _
theorem NdB.side {w w1 : World} {k g : Nat} {v : Value} {a b : List UInt8} {m : PtM} (h : NdB w g a b m) (hs : Side12 k w w1 v) (hk : k ≤ g) : NdB w1 g a b m := (hs.same g hk h.lt).trans h
theorem nd_store (w : World) (g j : Nat) (cs : Array Value) (ty : TypeId) (h : w.heap[g]? = some (.cells cs ty (0, 0))) (u : Value) : (w.setCell ⟨g, j, none⟩ u).heap[g]? = some (.cells (cs.setIfInBounds j u) ty (0, 0)) := by
  simp [World.setCell, Array.getElem?_modify, h]
theorem NdB.set {w : World} {g : Nat} {a b : List UInt8} {m : PtM} (h : NdB w g a b m) (a2 b2 : List UInt8) (m2 : PtM) : NdB (((w.setCell ⟨g, 0, none⟩ (.string (sB a2))).setCell ⟨g, 1, none⟩ (.string (sB b2))).setCell ⟨g, 2, none⟩ (.slice m2.A m2.n m2.c)) g a2 b2 m2 := by
  have h1 := nd_store w g 0 _ _ h (.string (sB a2))
  have h2 := nd_store _ g 1 _ _ h1 (.string (sB b2))
  exact nd_store _ g 2 _ _ h2 (.slice m2.A m2.n m2.c)
theorem below_set3 {B g : Nat} {w0 w : World} (h : Below B w0 w) (hg : B ≤ g) (v0 v1 v2 : Value) : Below B w0 (((w.setCell ⟨g, 0, none⟩ v0).setCell ⟨g, 1, none⟩ v1).setCell ⟨g, 2, none⟩ v2) :=
  ((h.setCell (p := ⟨g, 0, none⟩) hg v0).setCell (p := ⟨g, 1, none⟩) hg v1).setCell (p := ⟨g, 2, none⟩) hg v2

theorem findC14 (A B : Option Addr) (c d n m : Nat) (t : List T.Ln) (p : T.Pth) (w : World) (hn : t.length = n) (hm : p.length = m) (hA : Seen eL w A t) (hB : Seen eS w B p) (hl : n ≤ 1073741824) (hl2 : m ≤ 1073741824) (hR : T.RightT t) :
    Calls Tryz.prog 75 #[.slice A n c, .slice B m d] w (FindS w t p) := by subst hn; subst hm; exact find_any A B c d t p w hA hB hl hl2 hR
theorem kidsC14 (A : Option Addr) (c n m : Nat) (t : List T.Ln) (i : Int) (K : List Nat) (w : World) (hn : t.length = n) (hm : K.length = m) (hA : Seen eL w A t) (hl : n ≤ 1073741824) (hi : -1 ≤ i) (hil : i < n) (hR : T.RightT t) (h : T.kidsL t i = K) :
    Calls Tryz.prog 76 #[.slice A n c, .int .i64 i] w (fun e w' => ∃ B d, e = .returned (.slice B m d) ∧ m ≤ d ∧ Seen eI w' B K ∧ Below w.heap.size w w') := by
  subst hn; subst hm; exact kids_is A c t i K w hA hl hi hil hR h
set_option maxRecDepth 100000 in
set_option maxHeartbeats 8000000 in
/-- All words right under the line of a path. -/
theorem wordsC (A B : Option Addr) (c d n m k : Nat) (t : List T.Ln) (p : T.Pth) (l : List (List UInt8)) (w : World) (hn : t.length = n) (hm : p.length = m) (hA : Seen eL w A t) (hB : Seen eS w B p) (hl : n ≤ 1073741824) (hl2 : m ≤ 1073741824) (h0 : 0 < m) (hR : T.RightT t) (hu : T.underW t p = l) (hk : l.length = k) :
    Calls Tryz.prog 57 #[.slice A n c, .slice B m d] w (fun e w' => ∃ C1 d1, e = .returned (.slice C1 k d1) ∧ k ≤ d1 ∧ PtK w' w.heap.size ⟨C1, k, d1⟩ l ∧ Below w.heap.size w w') := by
  have HA := Lib.hid hA
  have HB := Lib.hid hB
  have HN := Lib.hid hn
  have HM := Lib.hid hm
  have HR := Lib.hid hR
  have HKL := Lib.hid (fun i => T.filter_len t.length (fun k => T.underL t k == i))
  have HUL := Lib.hid hu
  have HLK := Lib.hid hk
  clear hA hB hn hm hR hu hk
  go_enter Tryz.func57, Tryz.ntmps57
  go_wp2_with fail
  refine (findC14 A B c d n m t p _ HN.out HM.out HA.out HB.out hl hl2 HR.out).mono ?_
  rintro e w1 ⟨⟨i0, hi0, hp0, rfl⟩ | ⟨hno, rfl⟩, hb1⟩
  · have HB1 := Lib.hid hb1
    obtain ⟨K, hK⟩ : ∃ K, T.kidsL t (i0 : Int) = K := ⟨_, rfl⟩
    obtain ⟨nk, hnk⟩ : ∃ k, K.length = k := ⟨_, rfl⟩
    have HK := Lib.hid hK
    have HNK := Lib.hid hnk
    have HU := Lib.hid (show K.map (T.wd t) = l by rw [← hK, T.kids_words HR.out ⟨by omega, by omega⟩, T.pathI_nat, hp0]; exact HUL.out)
    have HIN := Lib.hid (show ∀ k ∈ K, k < n by intro k hk; rw [← hK] at hk; have := ((T.mem_kids t _ k).1 hk).1; have := HN.out; omega)
    replace HKL := Lib.hid (show K.length ≤ n by rw [← hK, ← HN.out]; exact HKL.out _)
    have HI0 := Lib.hid (show (i0 : Int) < n by have := HN.out; omega)
    have hnk2 : nk ≤ 1073741824 := by have := HKL.out; omega
    clear hK hp0 hi0 hb1 hnk
    go_wp2_with fail
    refine (kidsC14 A c n nk t (i0 : Int) K _ HN.out HNK.out (HA.out.below HB1.out) hl (by omega) HI0.out HR.out HK.out).mono ?_
    rintro e w2 ⟨A2, c2, rfl, hc2, hs2, hb2⟩
    have HB2 := Lib.hid (bthen HB1.out hb2)
    have HS2 := Lib.hid hs2
    clear hs2 hb2
    go_wp2
    go_loopg [7, 22] nk (fun g vo vi wr => ∃ i : Nat, Hid (i + g = nk) ∧ vi = .int .i64 (i : Int) ∧ Hid (Own eS wr w2.heap.size vo ((K.take i).map (T.wd t))) ∧ Hid (Below w2.heap.size w2 wr))
    case atStart => exact ⟨0, Nat.zero_add _, rfl, Own.nil _ _, Below.refl _ _⟩
    case round =>
      obtain ⟨i, HG, rfl, HO, HBR⟩ := hrel
      have hgk := HG.out
      by_cases hlt : i < nk
      · have blt : decide ((i : Int) < (nk : Int)) = true := decide_eq_true (by omega)
        have blt2 : decide (i < nk) = true := decide_eq_true hlt
        have hiK : i < K.length := by rw [HNK.out]; exact hlt
        have hki : (i : Int) < (nk : Int) := by omega
        obtain ⟨q, hq⟩ : ∃ q, K[i] = q := ⟨_, rfl⟩
        have hqn : q < n := by rw [← hq]; exact HIN.out _ (List.getElem_mem hiK)
        have hqt : q < t.length := by rw [HN.out]; exact hqn
        have hqi : (q : Int) < (n : Int) := by omega
        obtain ⟨b3, o3, rfl, hw3, hL3⟩ := HS2.out (by omega)
        have c3 := (hL3.below HBR.out hw3).num hiK
        rw [hq] at c3
        obtain ⟨b4, o4, hA4, hw4, hL4⟩ := HA.out.lines (by rw [HN.out]; omega)
        subst hA4
        obtain ⟨_, c4, _⟩ := (hL4.below (HB2.out.trans (HBR.out.mono HB2.out.size)) hw4).line hqt
        have HNX := Lib.hid (show (K.take (i + 1)).map (T.wd t) = (K.take i).map (T.wd t) ++ [T.wd t q] by rw [List.take_succ_eq_append_getElem hiK, List.map_append, hq]; rfl)
        have HLN := Lib.hid (show ((K.take i).map (T.wd t)).length ≤ nk by rw [List.length_map, List.length_take]; omega)
        have hsz := HBR.out.size
        clear hq hqt hL3 hL4
        go_wp2_with (at_builtin; refine wpList_appG eS wr rfl (.tmp 26) (.tmp 32) rfl w2.heap.size u7 ((K.take i).map (T.wd t)) rfl HO.out (T.wd t q) 1 _ rfl wr.heap.size rfl rfl (by have := HLN.out; omega) hsz ?_; intro v5 w5 hown5 hb5)
        go_roundg (nk - (i + 1))
        case rel => exact ⟨i + 1, (by show _ = _; omega), by go_num, (by rw [HNX.out]; exact hown5), HBR.out.trans hb5⟩
        case measure => omega
      · have blt : decide ((i : Int) < (nk : Int)) = false := decide_eq_false (by omega)
        have blt2 : decide (i < nk) = false := decide_eq_false hlt
        have HE := Lib.hid (show (K.take i).map (T.wd t) = l by rw [List.take_of_length_le (by rw [HNK.out]; omega)]; exact HU.out)
        have hown := HO.out
        rw [HE.out] at hown
        obtain ⟨A6, c6, rfl, hp6⟩ := own_pt (hown.lower HB2.out.size)
        rw [HLK.out] at hp6 ⊢
        have HP6 := Lib.hid hp6
        clear hown hp6
        go_wp2
        go_ret
        exact ⟨A6, c6, rfl, HP6.out.pt.cap, HP6.out, HB2.out.trans (HBR.out.mono HB2.out.size)⟩
  · have HE := Lib.hid (show l = [] from HUL.out.symm.trans (T.underW_out HR.out (fun e => by have := HM.out; rw [e] at this; simp at this; omega) (fun ⟨i, hi, e⟩ => hno i hi e)))
    obtain rfl : k = 0 := by rw [← HLK.out, HE.out]; rfl
    clear hno
    go_wp2
    go_ret
    refine ⟨none, 0, rfl, Nat.le_refl _, ⟨⟨by rw [HE.out]; rfl, Nat.le_refl _, by rw [HE.out]; exact Seen.nil⟩, fun a h => by cases h⟩, hb1⟩
set_option maxRecDepth 100000 in
set_option maxHeartbeats 4000000 in
/-- The first word under a path, or another one. -/
theorem saidC (A B : Option Addr) (c d n m : Nat) (t : List T.Ln) (p : T.Pth) (o r : List UInt8) (w : World) (hn : t.length = n) (hm : p.length = m) (hA : Seen eL w A t) (hB : Seen eS w B p) (hl : n ≤ 1073741824) (hl2 : m ≤ 1073741824) (h0 : 0 < m) (hR : T.RightT t) (hr : H.wordH t p o = r) :
    Calls Tryz.prog 58 #[.slice A n c, .string (sB o), .slice B m d] w (fun e w' => e = .returned (.string (sB r)) ∧ Below w.heap.size w w') := by
  unfold H.wordH at hr
  cases hu : T.underW t p with
  | nil =>
    rw [hu] at hr
    have HU := Lib.hid (wordsC A B c d n m 0 t p [] w hn hm hA hB hl hl2 h0 hR hu rfl)
    have HR := Lib.hid (show o = r from hr)
    clear hr hu hA hB hn hm hR
    go_enter Tryz.func58, Tryz.ntmps58
    go_wp2_with fail
    refine HU.out.mono ?_
    rintro e w1 ⟨C1, d1, rfl, hd1, hs1, hb⟩
    clear hs1
    go_wp2
    go_ret
    exact ⟨by rw [HR.out]; rfl, hb⟩
  | cons x l =>
    rw [hu] at hr
    have HR := Lib.hid (show x = r from hr)
    obtain ⟨q1, hq1⟩ : ∃ q1, (x :: l).length = q1 := ⟨_, rfl⟩
    have HU := Lib.hid (wordsC A B c d n m q1 t p (x :: l) w hn hm hA hB hl hl2 h0 hR hu hq1)
    have hq0 : 0 < q1 := by rw [← hq1]; simp
    have b4 : ((q1 : Int) == 0) = false := by simp; omega
    have b5 : decide ((0 : Int) < (q1 : Int)) = true := decide_eq_true (by omega)
    clear hr hu hA hB hn hm hq1 hR
    go_enter Tryz.func58, Tryz.ntmps58
    go_wp2_with fail
    refine HU.out.mono ?_
    rintro e w1 ⟨C1, d1, rfl, hd1, hs1, hb⟩
    obtain ⟨b, o1, e1, hwb, hL⟩ := hs1.pt.seen (by simp)
    have e1 : C1 = some ⟨b, o1, none⟩ := e1
    subst e1
    have c0 := hL.str (i := 0) (by simp)
    simp only [List.getElem_cons_zero, Nat.add_zero] at c0
    clear hL hs1
    go_wp2
    go_ret
    exact ⟨by rw [HR.out]; rfl, hb⟩
set_option maxRecDepth 100000 in
set_option maxHeartbeats 4000000 in
/-- Where a word stands in a row of words; -1: nowhere. -/
theorem indexC14 (A : Option Addr) (c n : Nat) (l : List (List UInt8)) (v : List UInt8) (w : World) (hn : l.length = n) (hA : Seen eS w A l) (hl : n ≤ 1073741824) :
    Calls Tryz.prog 131 #[.slice A n c, .string (sB v)] w (fun e w' => ∃ q : Int, e = .returned (.int .i64 q) ∧ ((v ∈ l ∧ 0 ≤ q) ∨ (v ∉ l ∧ q = -1)) ∧ w' = w) := by
  have HN := Lib.hid hn
  have HA := Lib.hid hA
  clear hn hA
  go_enter Tryz.func131, Tryz.ntmps131
  go_wp2
  go_loopg [8] n (fun gk vi wr => ∃ k : Nat, Hid (k + gk = n) ∧ k ≤ n ∧ vi = .int .i64 (k : Int) ∧ Hid (v ∉ l.take k) ∧ wr = w)
  case atStart => exact ⟨0, Nat.zero_add _, Nat.zero_le _, rfl, (by show v ∉ _; simp), rfl⟩
  case round =>
    obtain ⟨k, HG, hk, rfl, HNI, rfl⟩ := hrel
    have hgk := HG.out
    by_cases hlt : k < n
    · have blt : decide ((k : Int) < (n : Int)) = true := decide_eq_true (by omega)
      have blt2 : decide (k < n) = true := decide_eq_true hlt
      have hki : (k : Int) < (n : Int) := by omega
      have hkl : k < l.length := by have := HN.out; omega
      obtain ⟨b, o, rfl, hwb, hL⟩ := HA.out (by omega)
      have c0 := hL.str hkl
      have HX := Lib.hid (List.take_succ_eq_append_getElem hkl)
      have HMI := Lib.hid (List.getElem_mem hkl)
      generalize l[k] = y at c0 HX HMI
      clear hL
      by_cases he : v = y
      · have n0 := sB_eq he
        have HE := Lib.hid (show v ∈ l from he ▸ HMI.out)
        clear he
        go_wp2
        go_ret
        exact ⟨_, rfl, .inl ⟨HE.out, by omega⟩, rfl⟩
      · have n0 := sB_ne he
        have HNX := Lib.hid (show v ∉ l.take (k + 1) by
          rw [HX.out]
          intro q
          rcases List.mem_append.1 q with q | q
          · exact HNI.out q
          · exact he (List.mem_singleton.1 q))
        clear he
        go_wp2
        go_roundg (n - (k + 1))
        case rel => exact ⟨k + 1, (by show _ = _; omega), by omega, by go_num, HNX, rfl⟩
        case measure => omega
    · have blt : decide ((k : Int) < (n : Int)) = false := decide_eq_false (by omega)
      have blt2 : decide (k < n) = false := decide_eq_false hlt
      have HE := Lib.hid (show v ∉ l by
        have := HNI.out
        rwa [List.take_of_length_le (by have := HN.out; omega)] at this)
      go_wp2
      go_ret
      exact ⟨_, rfl, .inr ⟨HE.out, rfl⟩, rfl⟩
set_option maxRecDepth 100000 in
theorem containsC14 (A : Option Addr) (c n : Nat) (l : List (List UInt8)) (v : List UInt8) (r : Bool) (w : World) (hn : l.length = n) (hA : Seen eS w A l) (hl : n ≤ 1073741824) (hr : decide (v ∈ l) = r) :
    Calls Tryz.prog 93 #[.slice A n c, .string (sB v)] w (fun e w' => e = .returned (.bool r) ∧ w' = w) := by
  have HI := Lib.hid (indexC14 A c n l v w hn hA hl)
  have HV := Lib.hid hr
  clear hn hA hr
  go_enter Tryz.func93, Tryz.ntmps93
  go_wp2_with fail
  refine HI.out.mono ?_
  rintro e w1 ⟨q, rfl, ⟨hin, hq⟩ | ⟨hout, rfl⟩, rfl⟩
  · have bq : decide (0 ≤ q) = true := decide_eq_true hq
    have HE := Lib.hid (show r = true by rw [← HV.out]; exact decide_eq_true hin)
    clear hin
    go_wp2
    go_ret
    exact ⟨by rw [HE.out]; rfl, rfl⟩
  · have HE := Lib.hid (show r = false by rw [← HV.out]; exact decide_eq_false hout)
    clear hout
    go_wp2
    go_ret
    exact ⟨by rw [HE.out]; rfl, rfl⟩
set_option maxRecDepth 100000 in
/-- Is a host in a network? -/
theorem inC14 (a b : List UInt8) (A : Option Addr) (c n : Nat) (l : List (List UInt8)) (v : List UInt8) (r : Bool) (w : World) (hn : l.length = n) (hA : Seen eS w A l) (hl : n ≤ 1073741824) (hr : decide (v ∈ l) = r) :
    Calls Tryz.prog 59 #[.agg #[.string (sB a), .string (sB b), .slice A n c], .string (sB v)] w (fun e w' => e = .returned (.bool r) ∧ Below w.heap.size w w') := by
  have hb1 := up w (.cells #[.string (sB a), .string (sB b), .slice A n c] 96)
  have HC := Lib.hid (containsC14 A c n l v r _ hn (hA.below hb1) hl hr)
  obtain ⟨c0, c1, c2⟩ := (NdB.born w a b ⟨A, n, c⟩).cells
  clear hn hA hr
  go_enter Tryz.func59, Tryz.ntmps59
  go_wp2_with fail
  refine HC.out.mono ?_
  rintro e w1 ⟨rfl, rfl⟩
  go_wp2
  go_ret
  exact ⟨rfl, hb1⟩
end Go.Proofs.YtfcikfohmehmkaaGreatDoor

namespace Go.Proofs.YtfcikfohmehmkaaGreatDoor.H
theorem nd_next {N : List Nd} {k : Nat} {y : Nd} {x : C.Wd} (hy : N[k]? = some y) (h : (N.take k).find? (fun n => decide (n.name = x)) = none) (hm : y.name ≠ x) : (N.take (k + 1)).find? (fun n => decide (n.name = x)) = none := by
  obtain ⟨h5, h6⟩ := List.getElem?_eq_some_iff.1 hy
  rw [List.take_succ_eq_append_getElem h5, h6, List.find?_append, h, List.find?_cons, decide_eq_false hm]; rfl
theorem nd_hit {N : List Nd} {k : Nat} {y : Nd} {x : C.Wd} (hy : N[k]? = some y) (h : (N.take k).find? (fun n => decide (n.name = x)) = none) (hm : y.name = x) : namedN N x = y := by
  obtain ⟨h5, h6⟩ := List.getElem?_eq_some_iff.1 hy
  unfold namedN
  rw [← List.take_append_drop k N, List.find?_append, h, List.drop_eq_getElem_cons h5, h6, List.find?_cons, decide_eq_true hm]; rfl
theorem nd_none {N : List Nd} {x : C.Wd} (h : N.find? (fun n => decide (n.name = x)) = none) : namedN N x = ⟨[], [], []⟩ := by
  unfold namedN
  rw [h]; rfl
end Go.Proofs.YtfcikfohmehmkaaGreatDoor.H

namespace Go.Proofs.YtfcikfohmehmkaaGreatDoor
open Go.RowKit
set_option linter.unusedVariables false

/-- A slice of this address reads as these hosts. -/
def SeenN (w : World) (A : Option Addr) (N : List H.Nd) : Prop := ∃ M : List NdM, M.length = N.length ∧ Seen eNd w A M ∧ ∀ i (h1 : i < M.length) (h2 : i < N.length), PtS w M[i].1 N[i].vn ∧ M[i].2 = (N[i].name, N[i].addr)
theorem SeenN.below {w w1 : World} {A : Option Addr} {N : List H.Nd} (h : SeenN w A N) (hb : Below w.heap.size w w1) : SeenN w1 A N := by
  obtain ⟨M, h1, h2, h3⟩ := h
  exact ⟨M, h1, h2.below hb, fun i h4 h5 => ⟨(h3 i h4 h5).1.below hb, (h3 i h4 h5).2⟩⟩
/-- One of them, in whatever world comes later. -/
theorem SeenN.one {w : World} {A : Option Addr} {N : List H.Nd} (h : SeenN w A N) {i : Nat} (hi : i < N.length) : ∃ b o m, A = some ⟨b, o, none⟩ ∧ PtS w m N[i].vn ∧ ∀ w', Below w.heap.size w w' → w'.cell? ⟨b, o + i * 3, none⟩ = some (.string (sB N[i].name)) ∧ w'.cell? ⟨b, o + i * 3 + 1, none⟩ = some (.string (sB N[i].addr)) ∧ w'.cell? ⟨b, o + i * 3 + 2, none⟩ = some (.slice m.A m.n m.c) := by
  obtain ⟨M, h1, h2, h3⟩ := h
  obtain ⟨b, o, e, hb, hH⟩ := h2 (by omega)
  have hM : i < M.length := by omega
  obtain ⟨hp, he⟩ := h3 i hM hi
  refine ⟨b, o, M[i].1, e, hp, fun w' hw => ?_⟩
  have hc := (hH.below hw hb).node hM
  rw [he] at hc
  exact hc

set_option maxRecDepth 100000 in
set_option maxHeartbeats 8000000 in
theorem namedC (A : Option Addr) (c n : Nat) (N : List H.Nd) (x : List UInt8) (g : H.Nd) (w : World) (hn : N.length = n) (hA : SeenN w A N) (hl : n ≤ 1073741824) (hg : H.namedN N x = g) :
    Calls Tryz.prog 60 #[.slice A n c, .string (sB x)] w (fun e w' => ∃ m : PtM, e = .returned (.agg #[.string (sB g.name), .string (sB g.addr), .slice m.A m.n m.c]) ∧ PtS w' m g.vn ∧ Below w.heap.size w w') := by
  have HN := Lib.hid hn
  have HA := Lib.hid hA
  have HG := Lib.hid hg
  have hb0 := up w (.cells #[.string ⟨#[]⟩, .string ⟨#[]⟩, .slice none 0 0] 96)
  have HZ := Lib.hid (show NdB (w.alloc (.cells #[.string ⟨#[]⟩, .string ⟨#[]⟩, .slice none 0 0] 96)) w.heap.size [] [] ⟨none, 0, 0⟩ from NdB.born w [] [] ⟨none, 0, 0⟩)
  clear hn hA hg
  go_enter Tryz.func60, Tryz.ntmps60
  go_wp2
  go_loopg [9] n (fun gk vi wr => ∃ k : Nat, Hid (k + gk = n) ∧ k ≤ n ∧ vi = .int .i64 (k : Int) ∧ Hid ((N.take k).find? (fun n => decide (n.name = x)) = none) ∧ Hid (NdB wr w.heap.size [] [] ⟨none, 0, 0⟩) ∧ Below w.heap.size w wr)
  case atStart => exact ⟨0, Nat.zero_add _, Nat.zero_le _, rfl, rfl, HZ.out, hb0⟩
  case round =>
    obtain ⟨k, HGK, hk, rfl, HF, HB, hb⟩ := hrel
    have hgk := HGK.out
    by_cases hlt : k < n
    · have blt : decide ((k : Int) < (n : Int)) = true := decide_eq_true (by omega)
      have blt2 : decide (k < n) = true := decide_eq_true hlt
      have hki : (k : Int) < (n : Int) := by omega
      have hkl : k < N.length := by have := HN.out; omega
      obtain ⟨b, o, m, rfl, hpt, hcs⟩ := HA.out.one hkl
      obtain ⟨x0, x1, x2⟩ := hcs wr hb
      have HY := Lib.hid (List.getElem?_eq_getElem hkl)
      have HPT := Lib.hid hpt
      clear hcs hpt
      generalize N[k] = y at x0 x1 x2 HY HPT
      have hbr := bthen hb (up wr (.cells #[.string (sB y.name), .string (sB y.addr), .slice m.A m.n m.c] 96))
      have HB2 := Lib.hid (HB.out.keep (up wr (.cells #[.string (sB y.name), .string (sB y.addr), .slice m.A m.n m.c] 96)) HB.out.lt)
      have HRB := Lib.hid (NdB.born wr y.name y.addr m)
      obtain ⟨y0, y1, y2⟩ := (NdB.born wr y.name y.addr m).cells
      by_cases he : y.name = x
      · have n0 := sB_eq he
        have HE := Lib.hid ((H.nd_hit HY.out HF.out he).symm.trans HG.out)
        have f0 := HB2.out.fzn 0
        have f1 := HB2.out.fzn 1
        have f2 := HB2.out.fzn 2
        obtain ⟨z0, z1, z2⟩ := HB2.out.cells
        clear he
        go_wp2
        have HW := HB2.out.set y.name y.addr m
        obtain ⟨q0, q1, q2⟩ := HW.cells
        refine bodyPost_ret (v := .agg #[.string (sB y.name), .string (sB y.addr), .slice m.A m.n m.c]) (by simp [results, Tryz.results60, go_sem, q0, q1, q2]) rfl ⟨m, ?_, ?_, below_set3 hbr (Nat.le_refl _) _ _ _⟩
        · rw [← HE.out]
        · rw [← HE.out]
          exact HPT.out.below (below_set3 hbr (Nat.le_refl _) _ _ _)
      · have n0 := sB_ne he
        have HF2 := Lib.hid (H.nd_next HY.out HF.out he)
        clear he
        go_wp2
        go_roundg (n - (k + 1))
        case rel => exact ⟨k + 1, (by show _ = _; omega), by omega, by go_num, HF2.out, HB2.out, hbr⟩
        case measure => omega
    · have blt : decide ((k : Int) < (n : Int)) = false := decide_eq_false (by omega)
      have blt2 : decide (k < n) = false := decide_eq_false hlt
      have HE := Lib.hid (show g = ⟨[], [], []⟩ by
        have := HF.out
        rw [List.take_of_length_le (by have := HN.out; omega)] at this
        exact HG.out.symm.trans (H.nd_none this))
      obtain ⟨z0, z1, z2⟩ := HB.out.cells
      have f0 := HB.out.fzn 0
      have f1 := HB.out.fzn 1
      have f2 := HB.out.fzn 2
      go_wp2
      have HW := HB.out.set [] [] ⟨none, 0, 0⟩
      obtain ⟨q0, q1, q2⟩ := HW.cells
      have q0 : (((wr.setCell ⟨w.heap.size, 0, none⟩ (.string ⟨#[]⟩)).setCell ⟨w.heap.size, 1, none⟩ (.string ⟨#[]⟩)).setCell ⟨w.heap.size, 2, none⟩ (.slice none 0 0)).cell? ⟨w.heap.size, 0, none⟩ = some (.string ⟨#[]⟩) := q0
      have q1 : (((wr.setCell ⟨w.heap.size, 0, none⟩ (.string ⟨#[]⟩)).setCell ⟨w.heap.size, 1, none⟩ (.string ⟨#[]⟩)).setCell ⟨w.heap.size, 2, none⟩ (.slice none 0 0)).cell? ⟨w.heap.size, 1, none⟩ = some (.string ⟨#[]⟩) := q1
      have q2 : (((wr.setCell ⟨w.heap.size, 0, none⟩ (.string ⟨#[]⟩)).setCell ⟨w.heap.size, 1, none⟩ (.string ⟨#[]⟩)).setCell ⟨w.heap.size, 2, none⟩ (.slice none 0 0)).cell? ⟨w.heap.size, 2, none⟩ = some (.slice none 0 0) := q2
      refine bodyPost_ret (v := .agg #[.string ⟨#[]⟩, .string ⟨#[]⟩, .slice none 0 0]) (by simp [results, Tryz.results60, go_sem, q0, q1, q2]) rfl ⟨⟨none, 0, 0⟩, ?_, ?_, below_set3 hb (Nat.le_refl _) _ _ _⟩
      · rw [HE.out]; rfl
      · rw [HE.out]; exact ⟨rfl, Nat.le_refl _, Seen.nil⟩
set_option maxRecDepth 100000 in
set_option maxHeartbeats 8000000 in
/-- All hosts of a tree. -/
theorem nodesC (A : Option Addr) (c n k : Nat) (t : List T.Ln) (N : List H.Nd) (w : World) (hn : t.length = n) (hA : Seen eL w A t) (hl : n ≤ 1073741824) (hR : T.RightT t) (hN : H.nodesL t = N) (hk : N.length = k) :
    Calls Tryz.prog 27 #[.slice A n c] w (fun e w' => ∃ B d, e = .returned (.slice B k d) ∧ SeenN w' B N ∧ Below w.heap.size w w') := by
  have HN := Lib.hid hn
  have HA := Lib.hid hA
  have HR := Lib.hid hR
  obtain ⟨l, hu⟩ : ∃ l, T.underW t [C.wHosts] = l := ⟨_, rfl⟩
  have HU := Lib.hid hu
  have HLK := Lib.hid (show l.length = k by rw [← hk, ← hN, ← hu]; unfold H.nodesL; rw [List.length_map])
  have HNL := Lib.hid (show l.map (H.ndOf t) = N by rw [← hN, ← hu]; rfl)
  have hkn : k ≤ n := by
    have h1 := T.underW_len hR [C.wHosts]
    rw [hu] at h1
    have := HLK.out
    omega
  clear hn hA hR hN hk hu
  go_enter Tryz.func27, Tryz.ntmps27
  go_wp2_with fail
  refine (wordsC A _ c 1 n 1 k t [C.wHosts] l _ HN.out rfl (HA.out.below (up w _)) (lit_seen eS w [C.wHosts] _ rfl (by simp)) hl (by omega) (by omega) HR.out HU.out HLK.out).mono ?_
  rintro e w1 ⟨C1, d1, rfl, hd1, hp1, hx⟩
  have hb1 := bthen (up w _) hx
  have HP1 := Lib.hid hp1
  clear hp1 hx
  go_wp2
  go_loopg [3, 10] k (fun gk vo vi wr => ∃ q : Nat, Hid (q + gk = k) ∧ q ≤ k ∧ vi = .int .i64 (q : Int) ∧ Hid (OwnNd eNd wr w1.heap.size w1.heap.size vo (((l.take q).map (H.ndOf t)).map ndP)) ∧ Below w1.heap.size w1 wr)
  case atStart => exact ⟨0, Nat.zero_add _, Nat.zero_le _, rfl, OwnNd.nil _ _ _ _, Below.refl _ _⟩
  case round =>
    obtain ⟨q, HGK, hq, rfl, HO, hb⟩ := hrel
    have hgk := HGK.out
    by_cases hlt : q < k
    · have blt : decide ((q : Int) < (k : Int)) = true := decide_eq_true (by omega)
      have blt2 : decide (q < k) = true := decide_eq_true hlt
      have hki : (q : Int) < (k : Int) := by omega
      have hkl : q < l.length := by have := HLK.out; omega
      obtain ⟨b3, o3, e3, hw3, hL3⟩ := HP1.out.pt.seen (by omega)
      have e3 : C1 = some ⟨b3, o3, none⟩ := e3
      subst e3
      have c0 := (hL3.below hb hw3).str hkl
      have HX := Lib.hid (List.take_succ_eq_append_getElem hkl)
      generalize l[q] = y at c0 HX
      obtain ⟨va, hva⟩ : ∃ va, H.ipH t y = va := ⟨_, rfl⟩
      obtain ⟨vl, hvl⟩ : ∃ vl, T.underW t [C.wHosts, y, C.wVnis] = vl := ⟨_, rfl⟩
      obtain ⟨vk, hvk⟩ : ∃ vk, vl.length = vk := ⟨_, rfl⟩
      have HVA := Lib.hid hva
      have HVL := Lib.hid hvl
      have HVK := Lib.hid hvk
      have HSQ := Lib.hid (HA.out.below (hb1.trans (hb.mono hb1.size)))
      have hszr := hb.size
      clear hL3 hva hvl hvk
      go_wp2_with fail
      refine (saidC A _ c 3 n 3 t [C.wHosts, y, C.wIp] [] va _ HN.out rfl (HSQ.out.below (up wr _)) (lit_seen eS wr [C.wHosts, y, C.wIp] _ rfl (by simp)) hl (by omega) (by omega) HR.out HVA.out).mono ?_
      rintro e w2 ⟨rfl, hx⟩
      have hb2 := bthen (up wr _) hx
      clear hx
      go_wp2_with fail
      refine (wordsC A _ c 3 n 3 vk t [C.wHosts, y, C.wVnis] vl _ HN.out rfl (HSQ.out.below (bthen hb2 (up w2 _))) (lit_seen eS w2 [C.wHosts, y, C.wVnis] _ rfl (by simp)) hl (by omega) (by omega) HR.out HVL.out HVK.out).mono ?_
      rintro e w3 ⟨C3, d3, rfl, hd3, hp3, hx⟩
      have hb3 := bthen hb2 (bthen (up w2 _) hx)
      have hsz2 := hb2.size
      have HP3 := Lib.hid (show PtK w3 w1.heap.size ⟨C3, vk, d3⟩ vl from hp3.less (by simp; omega))
      have HFR := Lib.hid (HO.out.ndFree (by simp; omega) hp3)
      have HO3 := Lib.hid (HO.out.keep hb3)
      have HB3 := Lib.hid (hb.trans (hb3.mono hszr))
      have hsz3 := HB3.out.size
      have HLN := Lib.hid (show (((l.take q).map (H.ndOf t)).map ndP).length ≤ k by simp; omega)
      clear hp3 hx hb2 hb3
      go_wp2_with (at_builtin; refine wpList_appNd eNd _ rfl (.tmp 14) (.tmp 25) rfl w1.heap.size w1.heap.size u3 _ rfl HO3.out (vl, (y, va)) (⟨C3, vk, d3⟩, (y, va)) ⟨HP3.out, rfl⟩ HFR.out 1 _ rfl w3.heap.size rfl rfl (by have := HLN.out; omega) hsz3 ?_; intro v5 w5 hown5 hb5)
      go_roundg (k - (q + 1))
      case rel => exact ⟨q + 1, (by show _ = _; omega), by omega, by go_num, (by
        rw [HX.out, List.map_append, List.map_append]
        have e : [y].map (H.ndOf t) = [⟨y, va, vl⟩] := by rw [← HVA.out, ← HVL.out]; rfl
        rw [e]
        exact hown5), HB3.out.trans hb5⟩
      case measure => omega
    · have blt : decide ((q : Int) < (k : Int)) = false := decide_eq_false (by omega)
      have blt2 : decide (q < k) = false := decide_eq_false hlt
      have HE := Lib.hid (show (l.take q).map (H.ndOf t) = N by rw [List.take_of_length_le (by have := HLK.out; omega)]; exact HNL.out)
      obtain ⟨M, hM1, hM2, hM3⟩ := HO.out
      rw [List.length_map, HE.out] at hM1
      have hNk : N.length = k := by rw [← HNL.out, List.length_map]; exact HLK.out
      obtain ⟨A6, c6, rfl, hc6, hs6⟩ := hM2.seen
      have hMk : M.length = k := hM1.trans hNk
      rw [hMk]
      have HSN := Lib.hid (show SeenN wr A6 N from ⟨M, hM1, hs6, fun i h1 h2 => by
        obtain ⟨hk3, _⟩ := hM3 i h1 (by rw [List.length_map, HE.out]; exact h2)
        have eg : (((l.take q).map (H.ndOf t)).map ndP)[i]'(by rw [List.length_map, HE.out]; exact h2) = ndP N[i] := by
          rw [List.getElem_map]
          congr 1
          simp only [HE.out]
        rw [eg] at hk3
        exact ⟨hk3.pt.pt, hk3.num⟩⟩)
      clear hM1 hM2 hM3 hs6 hNk hMk
      go_wp2
      go_ret
      exact ⟨A6, c6, rfl, HSN.out, hb1.trans (hb.mono hb1.size)⟩
end Go.Proofs.YtfcikfohmehmkaaGreatDoor

namespace Go.Proofs.YtfcikfohmehmkaaGreatDoor.H
theorem flat_next {α β : Type} (f : α → List β) {l : List α} {k : Nat} {x : α} (h : l[k]? = some x) : (l.take (k + 1)).flatMap f = (l.take k).flatMap f ++ f x := by
  obtain ⟨h1, rfl⟩ := List.getElem?_eq_some_iff.1 h
  rw [List.take_succ_eq_append_getElem h1, List.flatMap_append]
  simp
theorem flat_take {α β : Type} (f : α → List β) (b c k : Nat) (l : List α) (h : ∀ x ∈ l, (f x).length ≤ b) (hl : l.length ≤ c) : ((l.take k).flatMap f).length ≤ b * c :=
  flat_le f b (l.take k) (fun x hx => h x (List.mem_of_mem_take hx)) (by rw [List.length_take]; omega)
end Go.Proofs.YtfcikfohmehmkaaGreatDoor.H

namespace Go.Proofs.YtfcikfohmehmkaaGreatDoor
open Go.RowKit
set_option linter.unusedVariables false

set_option maxRecDepth 100000 in
set_option maxHeartbeats 16000000 in
theorem floodsC14 (A : Option Addr) (c n : Nat) (N : List H.Nd) (L : List H.En) (w : World) (hn : N.length = n) (hA : SeenN w A N) (hl : n ≤ 200) (hv : ∀ x ∈ N, x.vn.length ≤ 200) (hL : H.floodsC N = L) :
    Calls Tryz.prog 28 #[.slice A n c] w (fun e w' => ∃ v, e = .returned v ∧ Own eEc w' w.heap.size v L ∧ Below w.heap.size w w') := by
  have HN := Lib.hid hn
  have HA := Lib.hid hA
  have HV := Lib.hid hv
  obtain ⟨F0, hF0⟩ : ∃ F0 : H.Nd → List H.En, F0 = fun h => h.vn.flatMap fun v => N.flatMap fun g => H.floodOne h g v := ⟨_, rfl⟩
  have HL := Lib.hid (show N.flatMap F0 = L by rw [← hL, hF0]; rfl)
  have HF0 := Lib.hid hF0
  have HB0 := Lib.hid (show ∀ k, ((N.take k).flatMap F0).length ≤ 8000000 from fun k => by
    refine H.flat_take F0 40000 200 k N (fun h hh => ?_) (by omega)
    rw [hF0]
    exact H.flat_le _ 200 h.vn (q := 200) (fun v _ => H.flat_le _ 1 N (q := 200) (fun g _ => H.floodOne_few h g v) (by omega)) (hv h hh))
  clear hn hA hv hL hF0
  go_enter Tryz.func28, Tryz.ntmps28
  go_wp2
  go_loopg [3, 12] n (fun gk vo vi wr => ∃ k : Nat, Hid (k + gk = n) ∧ k ≤ n ∧ vi = .int .i64 (k : Int) ∧ Hid (Own eEc wr w.heap.size vo ((N.take k).flatMap F0)) ∧ Below w.heap.size w wr)
  case atStart => exact ⟨0, Nat.zero_add _, Nat.zero_le _, rfl, Own.nil _ _, Below.refl _ _⟩
  case round =>
    obtain ⟨k, HG, hk, rfl, HO, hb⟩ := hrel
    have hgk := HG.out
    by_cases hlt : k < n
    · have blt : decide ((k : Int) < (n : Int)) = true := decide_eq_true (by omega)
      have blt2 : decide (k < n) = true := decide_eq_true hlt
      have hki : (k : Int) < (n : Int) := by omega
      have hkl : k < N.length := by have := HN.out; omega
      obtain ⟨b, o, m, rfl, hpt, hcs⟩ := HA.out.one hkl
      obtain ⟨x0, x1, x2⟩ := hcs wr hb
      have HXN := Lib.hid (H.flat_next F0 (List.getElem?_eq_getElem hkl))
      have HMV := Lib.hid (HV.out _ (List.getElem_mem hkl))
      have HPT := Lib.hid hpt
      clear hcs hpt
      generalize N[k] = h at x0 x1 x2 HXN HPT HMV
      obtain ⟨ha, hi, hvn⟩ := h
      obtain ⟨mA, mn, mc⟩ := m
      simp only at x0 x1 x2 HMV HPT
      have HMN := Lib.hid (show hvn.length = mn from HPT.out.len)
      have hmn : mn ≤ 200 := by have := HMN.out; have := HMV.out; omega
      obtain ⟨wo, hwo⟩ : ∃ wo, wo = wr := ⟨_, rfl⟩
      subst hwo
      obtain ⟨gh, hgh⟩ : ∃ gh, wo.heap.size = gh := ⟨_, rfl⟩
      obtain ⟨W1, hW1⟩ : ∃ W1, wo.alloc (.cells #[.string (sB ha), .string (sB hi), .slice mA mn mc] 96) = W1 := ⟨_, rfl⟩
      have HND := Lib.hid (show NdB W1 gh ha hi ⟨mA, mn, mc⟩ by rw [← hW1, ← hgh]; exact NdB.born wo ha hi ⟨mA, mn, mc⟩)
      have HB1 := Lib.hid (show Below w.heap.size w W1 by rw [← hW1]; exact bthen hb (up wo _))
      have HO1 := Lib.hid (show Own eEc W1 w.heap.size u3 ((N.take k).flatMap F0) by rw [← hW1]; exact HO.out.keep (up wo _))
      have HSD := Lib.hid (show Side12 gh W1 W1 u3 from side_start HO.out (by rw [hgh]; exact Nat.le_refl _))
      have HF1 := Lib.hid (show F0 ⟨ha, hi, hvn⟩ = hvn.flatMap fun v => N.flatMap fun g => H.floodOne ⟨ha, hi, hvn⟩ g v by rw [HF0.out])
      obtain ⟨p0, hp0⟩ : ∃ p0, (N.take k).flatMap F0 = p0 := ⟨_, rfl⟩
      have HP0 := Lib.hid (show p0.length ≤ 8000000 by rw [← hp0]; exact HB0.out k)
      rw [hp0] at HO1 HXN
      obtain ⟨F1, hF1⟩ : ∃ F1 : List UInt8 → List H.En, F1 = fun v => N.flatMap fun g => H.floodOne ⟨ha, hi, hvn⟩ g v := ⟨_, rfl⟩
      have HFF := Lib.hid (show F0 ⟨ha, hi, hvn⟩ = hvn.flatMap F1 by rw [HF1.out, hF1])
      have HF1 := Lib.hid hF1
      have HBF := Lib.hid (show ∀ q, ((hvn.take q).flatMap F1).length ≤ 40000 from fun q => by
        refine H.flat_take F1 200 200 q hvn (fun v _ => ?_) (HMV.out)
        rw [hF1]
        exact H.flat_le _ 1 N (q := 200) (fun g _ => H.floodOne_few _ g v) (by have := HN.out; omega))
      obtain ⟨y0, y1, y2⟩ := HND.out.cells
      have HGH := Lib.hid hgh
      have HW1 := Lib.hid hW1
      have y2' : (wo.alloc (.cells #[.string (sB ha), .string (sB hi), .slice mA mn mc] 96)).cell? ⟨wo.heap.size, 2, none⟩ = some (.slice mA mn mc) := by rw [HW1.out, HGH.out]; exact y2
      clear hgh hW1 hp0 hF1 y0 y1 y2
      go_wp2
      go_loopg [3, 19] mn (fun gk2 vo vi w2 => ∃ q : Nat, Hid (q + gk2 = mn) ∧ q ≤ mn ∧ vi = .int .i64 (q : Int) ∧ Hid (Own eEc w2 w.heap.size vo (p0 ++ (hvn.take q).flatMap F1)) ∧ Hid (Below w.heap.size w w2) ∧ Hid (Side12 gh W1 w2 vo))
      case atStart => exact ⟨0, Nat.zero_add _, Nat.zero_le _, rfl, (by show Own eEc _ _ _ _; rw [HW1.out]; simpa using HO1.out), (by show Below _ _ _; rw [HW1.out]; exact HB1.out), (by show Side12 _ _ _ _; rw [HW1.out]; exact HSD.out)⟩
      case round =>
        obtain ⟨q, HG2, hq, rfl, HO2, HB2, HS2⟩ := hrel
        have hgk2 := HG2.out
        by_cases hlq : q < mn
        · have blq : decide ((q : Int) < (mn : Int)) = true := decide_eq_true (by omega)
          have blq2 : decide (q < mn) = true := decide_eq_true hlq
          have hqi : (q : Int) < (mn : Int) := by omega
          have hql : q < hvn.length := by have := HMN.out; omega
          obtain ⟨bv, ov, ev, hwv, hLV⟩ := (HPT.out.seen.below HB2.out) (by omega)
          have ev : mA = some ⟨bv, ov, none⟩ := ev
          subst ev
          have cv := hLV.str hql
          have HXV := Lib.hid (H.flat_next F1 (List.getElem?_eq_getElem hql))
          clear hLV
          generalize hvn[q] = v at cv HXV
          obtain ⟨p1, hp1⟩ : ∃ p1, p0 ++ (hvn.take q).flatMap F1 = p1 := ⟨_, rfl⟩
          have HP1 := Lib.hid (show p1.length ≤ 8040000 by rw [← hp1, List.length_append]; have := HBF.out q; have := HP0.out; omega)
          rw [hp1] at HO2
          have HPP := Lib.hid hp1
          obtain ⟨F2, hF2⟩ : ∃ F2 : H.Nd → List H.En, F2 = fun g => H.floodOne ⟨ha, hi, hvn⟩ g v := ⟨_, rfl⟩
          have HF2 := Lib.hid (show F1 v = N.flatMap F2 by rw [HF1.out, hF2])
          have HBF2 := Lib.hid (show ∀ j, ((N.take j).flatMap F2).length ≤ 200 from fun j => H.flat_take F2 1 200 j N (fun g _ => by rw [hF2]; exact H.floodOne_few _ g v) (by have := HN.out; omega))
          have HF2D := Lib.hid hF2
          obtain ⟨wq, hwq⟩ : ∃ wq, wq = wr := ⟨_, rfl⟩
          subst hwq
          clear hp1 hF2
          go_wp2
          go_loopg [3, 25] n (fun gk3 vo vi w3 => ∃ j : Nat, Hid (j + gk3 = n) ∧ j ≤ n ∧ vi = .int .i64 (j : Int) ∧ Hid (Own eEc w3 w.heap.size vo (p1 ++ (N.take j).flatMap F2)) ∧ Hid (Below w.heap.size w w3) ∧ Hid (Side12 gh W1 w3 vo))
          case atStart => exact ⟨0, Nat.zero_add _, Nat.zero_le _, rfl, (by show Own eEc _ _ _ _; simpa using HO2.out), HB2.out, HS2.out⟩
          case round =>
            obtain ⟨j, HG3, hj, rfl, HO3, HB3, HS3⟩ := hrel
            have hgk3 := HG3.out
            by_cases hlj : j < n
            · have blj : decide ((j : Int) < (n : Int)) = true := decide_eq_true (by omega)
              have blj2 : decide (j < n) = true := decide_eq_true hlj
              have hji : (j : Int) < (n : Int) := by omega
              have hjl : j < N.length := by have := HN.out; omega
              obtain ⟨b9, o9, m9, e9, hpt9, hcs9⟩ := HA.out.one hjl
              injection e9 with e9
              injection e9 with e9a e9b
              subst e9a; subst e9b
              obtain ⟨g0, g1, g2⟩ := hcs9 wr HB3.out
              have HXJ := Lib.hid (H.flat_next F2 (List.getElem?_eq_getElem hjl))
              have HMV9 := Lib.hid (HV.out _ (List.getElem_mem hjl))
              have HPT9 := Lib.hid hpt9
              clear hcs9 hpt9
              generalize N[j] = g at g0 g1 g2 HXJ HPT9 HMV9
              obtain ⟨ga, gi, gvn⟩ := g
              obtain ⟨m9A, m9n, m9c⟩ := m9
              simp only at g0 g1 g2 HMV9 HPT9
              have HFG := Lib.hid (show F2 ⟨ga, gi, gvn⟩ = if ga ≠ ha ∧ decide (v ∈ gvn) = true then [⟨ha, 1, v, gi⟩] else [] by rw [HF2D.out]; rfl)
              obtain ⟨w4, hw4⟩ : ∃ w4, w4 = wr := ⟨_, rfl⟩
              subst hw4
              have hup := up w4 (.cells #[.string (sB ga), .string (sB gi), .slice m9A m9n m9c] 96)
              have HNG := Lib.hid (NdB.born w4 ga gi ⟨m9A, m9n, m9c⟩)
              have HNH := Lib.hid ((HND.out.side HS3.out (Nat.le_refl _)).keep hup (HND.out.side HS3.out (Nat.le_refl _)).lt)
              have HB4 := Lib.hid (bthen HB3.out hup)
              have HS4 := Lib.hid (side_grow HS3.out hup)
              have HO4 := Lib.hid (HO3.out.keep hup)
              obtain ⟨s0, s1, s2⟩ := HNG.out.cells
              obtain ⟨t0, t1, t2⟩ := HNH.out.cells
              have HLN := Lib.hid (show (p1 ++ (N.take j).flatMap F2).length ≤ 8040200 by rw [List.length_append]; have := HBF2.out j; have := HP1.out; omega)
              rw [← HGH.out] at t0 t1 t2
              have HUP := Lib.hid hup
              clear hup
              by_cases he : ga = ha
              · have n0 := sB_eq he
                have HE := Lib.hid (show F2 ⟨ga, gi, gvn⟩ = [] by rw [HFG.out, if_neg (fun h => h.1 he)])
                clear he
                go_wp2
                go_roundg (n - (j + 1))
                case rel => exact ⟨j + 1, (by show _ = _; omega), by omega, by go_num, (by show Own eEc _ _ _ _; rw [HXJ.out, HE.out, List.append_nil]; exact HO4.out), HB4, HS4⟩
                case measure => omega
              · have n0 := sB_ne he
                obtain ⟨r, hr⟩ : ∃ r, decide (v ∈ gvn) = r := ⟨_, rfl⟩
                have HRV := Lib.hid hr
                have HNE := Lib.hid he
                have HIN := Lib.hid (fun W (h : Below w.heap.size w W) => inC14 ga gi m9A m9c m9n gvn v r W HPT9.out.len (HPT9.out.seen.below h) (by have := HMV9.out; have : gvn.length = m9n := HPT9.out.len; omega) hr)
                clear hr he
                go_wp2_with fail
                refine (HIN.out _ HB4.out).mono ?_
                rintro e w5 ⟨rfl, hx⟩
                have HB5 := Lib.hid (bthen HB4.out hx)
                have HS5 := Lib.hid (side_grow HS4.out hx)
                have HO5 := Lib.hid (HO4.out.keep hx)
                obtain ⟨s0, s1, s2⟩ := (HNG.out.keep hx HNG.out.lt).cells
                obtain ⟨t0, t1, t2⟩ := (HNH.out.keep hx HNH.out.lt).cells
                rw [← HGH.out] at t0 t1 t2
                clear hx
                cases r with
                | false =>
                  have HE := Lib.hid (show F2 ⟨ga, gi, gvn⟩ = [] by rw [HFG.out, if_neg (fun h => by rw [HRV.out] at h; exact absurd h.2 (by simp))])
                  go_wp2
                  go_roundg (n - (j + 1))
                  case rel => exact ⟨j + 1, (by show _ = _; omega), by omega, by go_num, (by show Own eEc _ _ _ _; rw [HXJ.out, HE.out, List.append_nil]; exact HO5.out), HB5, HS5⟩
                  case measure => omega
                | true =>
                  have HE := Lib.hid (show F2 ⟨ga, gi, gvn⟩ = [⟨ha, 1, v, gi⟩] by rw [HFG.out, if_pos ⟨HNE.out, HRV.out⟩])
                  have hsz5 := HB5.out.size
                  go_wp2_with (at_builtin; refine wpList_appS eEc _ rfl (.tmp 39) (.tmp 46) rfl w.heap.size u3 _ rfl HO5.out ⟨ha, 1, v, gi⟩ 1 _ rfl w5.heap.size rfl rfl (by have := HLN.out; omega) hsz5 ?_; intro v6 w6 hown6 hb6 hG6)
                  go_roundg (n - (j + 1))
                  case rel => exact ⟨j + 1, (by show _ = _; omega), by omega, by go_num, (by show Own eEc _ _ _ _; rw [HXJ.out, HE.out, ← List.append_assoc]; exact hown6), HB5.out.trans hb6, side_app HS5.out hG6⟩
                  case measure => omega
            · have blj : decide ((j : Int) < (n : Int)) = false := decide_eq_false (by omega)
              have blj2 : decide (j < n) = false := decide_eq_false hlj
              have HE := Lib.hid (show p1 ++ (N.take j).flatMap F2 = p0 ++ (hvn.take (q + 1)).flatMap F1 by
                rw [List.take_of_length_le (by have := HN.out; omega), HXV.out, ← HPP.out, List.append_assoc, HF2.out])
              go_wp2
              go_roundg (mn - (q + 1))
              case rel => exact ⟨q + 1, (by show _ = _; omega), by omega, by go_num, (by show Own eEc _ _ _ _; rw [← HE.out]; exact HO3.out), HB3, HS3⟩
              case measure => omega
        · have blq : decide ((q : Int) < (mn : Int)) = false := decide_eq_false (by omega)
          have blq2 : decide (q < mn) = false := decide_eq_false hlq
          have HE := Lib.hid (show p0 ++ (hvn.take q).flatMap F1 = (N.take (k + 1)).flatMap F0 by
            rw [List.take_of_length_le (by have := HMN.out; omega), HXN.out, HFF.out])
          go_wp2
          go_roundg (n - (k + 1))
          case rel => exact ⟨k + 1, (by show _ = _; omega), by omega, by go_num, (by show Own eEc _ _ _ _; rw [← HE.out]; exact HO2.out), HB2.out⟩
          case measure => omega
    · have blt : decide ((k : Int) < (n : Int)) = false := decide_eq_false (by omega)
      have blt2 : decide (k < n) = false := decide_eq_false hlt
      have HE := Lib.hid (show (N.take k).flatMap F0 = L by rw [List.take_of_length_le (by have := HN.out; omega)]; exact HL.out)
      go_wp2
      go_ret
      exact ⟨_, rfl, by rw [← HE.out]; exact HO.out, hb⟩
end Go.Proofs.YtfcikfohmehmkaaGreatDoor

namespace Go.Proofs.YtfcikfohmehmkaaGreatDoor.H
theorem filter_on {f : List UInt8 → Bool} {l : List (List UInt8)} {i : Nat} (hi : i < l.length) (h : f l[i] = true) : (l.take (i + 1)).filter f = (l.take i).filter f ++ [l[i]] := by
  rw [List.take_succ_eq_append_getElem hi, List.filter_append, List.filter_cons_of_pos h]; rfl
theorem filter_off {f : List UInt8 → Bool} {l : List (List UInt8)} {i : Nat} (hi : i < l.length) (h : f l[i] = false) : (l.take (i + 1)).filter f = (l.take i).filter f := by
  rw [List.take_succ_eq_append_getElem hi, List.filter_append, List.filter_cons_of_neg (by rw [h]; decide)]; simp
end Go.Proofs.YtfcikfohmehmkaaGreatDoor.H
namespace Go.Proofs.YtfcikfohmehmkaaGreatDoor
open Go.RowKit
set_option linter.unusedVariables false
set_option linter.unusedSimpArgs false

theorem g12_of {α : Type} {E : Elem α} {w w' : World} {base : Nat} {v v' : Value} {l : List α} (hG : Grew E w w' base v v' l) : G12 w w' v v' := by
  refine ⟨hG.grown.size, fun b hb hne => hG.grown.block b hb (fun e => hne e.symm), fun b e => ?_⟩
  rcases hG.at_ with h | ⟨g, h, h4⟩
  · left; rw [← h]; exact e
  · right; rw [h] at e; injection e with e; omega
theorem add14 (a b c : List UInt8) (w : World) (ha : a.length ≤ 1000) (hb : b.length ≤ 1000) (h : a ++ b = c) : Sem.run Tryz.prog (Op.stringOp .add (sB a) (sB b)) w = .ok (.string (sB c)) w := by
  rw [← h, sB_join13 a b]
  exact run_string_add_sum (P := Tryz.prog) (w := w) (sB a) (sB b) (by rw [sB_size, sB_size]; omega)
end Go.Proofs.YtfcikfohmehmkaaGreatDoor

namespace Go.Proofs.YtfcikfohmehmkaaGreatDoor
open Go.RowKit
set_option linter.unusedVariables false

set_option maxRecDepth 100000 in
set_option maxHeartbeats 16000000 in
theorem boundC14 (A B : Option Addr) (c d n k : Nat) (t : List T.Ln) (N : List H.Nd) (L : List H.En) (w : World) (hn : t.length = n) (hA : Seen eL w A t) (hl : n ≤ 200) (hR : T.RightT t) (hk : N.length = k) (hB : SeenN w B N) (hkl : k ≤ 200) (hv : ∀ x ∈ N, x.vn.length ≤ 200) (hL : H.boundC t N = L) :
    Calls Tryz.prog 29 #[.slice A n c, .slice B k d] w (fun e w' => ∃ v, e = .returned v ∧ Own eEc w' w.heap.size v L ∧ Below w.heap.size w w') := by
  have HN := Lib.hid hn
  have HA := Lib.hid hA
  have HR := Lib.hid hR
  have HK := Lib.hid hk
  have HBN := Lib.hid hB
  have HV := Lib.hid hv
  obtain ⟨l, hu⟩ : ∃ l, T.underW t [C.wBindings] = l := ⟨_, rfl⟩
  obtain ⟨m, hm⟩ : ∃ m, l.length = m := ⟨_, rfl⟩
  have HU := Lib.hid hu
  have HM := Lib.hid hm
  have HL := Lib.hid (show l.flatMap (H.boundAt t N) = L by rw [← hL, ← hu]; rfl)
  have HLW := Lib.hid (show ∀ x ∈ l, x.length ≤ 40 from fun x hx => T.underW_word hR (by rw [hu]; exact hx))
  have hmn : m ≤ 200 := by
    have h1 := T.underW_len hR [C.wBindings]
    rw [hu] at h1
    omega
  have HBF := Lib.hid (show ∀ q, ((l.take q).flatMap (H.boundAt t N)).length ≤ 80000 from fun q => H.flat_take _ 400 200 q l (fun i _ => H.boundAt_few t (by omega) i) (by omega))
  have HWL := Lib.hid (fun (p : T.Pth) => H.word_long hR p (o := []) (by simp))
  clear hn hA hR hk hB hv hL hu hm
  go_enter Tryz.func29, Tryz.ntmps29
  go_wp2_with fail
  refine (wordsC A _ c 1 n 1 m t [C.wBindings] l _ HN.out rfl (HA.out.below (up w _)) (lit_seen eS w [C.wBindings] _ rfl (by simp)) (by omega) (by omega) (by omega) HR.out HU.out HM.out).mono ?_
  rintro e w1 ⟨C1, d1, rfl, hd1, hp1, hx⟩
  have hb1 := bthen (up w _) hx
  have HP1 := Lib.hid hp1
  clear hp1 hx
  go_wp2
  go_loopg [5, 17] m (fun gk vo vi wr => ∃ q : Nat, Hid (q + gk = m) ∧ q ≤ m ∧ vi = .int .i64 (q : Int) ∧ Hid (Own eEc wr w1.heap.size vo ((l.take q).flatMap (H.boundAt t N))) ∧ Hid (Below w1.heap.size w1 wr))
  case atStart => exact ⟨0, Nat.zero_add _, Nat.zero_le _, rfl, Own.nil _ _, Below.refl _ _⟩
  case round =>
    obtain ⟨q, HGK, hq, rfl, HO, HB⟩ := hrel
    have hgk := HGK.out
    by_cases hlt : q < m
    · have blt : decide ((q : Int) < (m : Int)) = true := decide_eq_true (by omega)
      have blt2 : decide (q < m) = true := decide_eq_true hlt
      have hki : (q : Int) < (m : Int) := by omega
      have hql : q < l.length := by have := HM.out; omega
      obtain ⟨b3, o3, e3, hw3, hL3⟩ := HP1.out.pt.seen (by omega)
      have e3 : C1 = some ⟨b3, o3, none⟩ := e3
      subst e3
      have c0 := (hL3.below HB.out hw3).str hql
      have HXI := Lib.hid (H.flat_next (H.boundAt t N) (List.getElem?_eq_getElem hql))
      have HIL := Lib.hid (HLW.out _ (List.getElem_mem hql))
      clear hL3
      generalize l[q] = i at c0 HXI HIL
      obtain ⟨v, hvv⟩ : ∃ v, H.wordH t [C.wBindings, i, C.wVni] [] = v := ⟨_, rfl⟩
      obtain ⟨mac, hmac⟩ : ∃ v, H.wordH t [C.wBindings, i, C.wMac] [] = v := ⟨_, rfl⟩
      obtain ⟨ho, hho⟩ : ∃ v, H.wordH t [C.wBindings, i, C.wHost] [] = v := ⟨_, rfl⟩
      obtain ⟨g, hg⟩ : ∃ g, H.namedN N ho = g := ⟨_, rfl⟩
      have HVV := Lib.hid hvv
      have HMAC := Lib.hid hmac
      have HHO := Lib.hid hho
      have HGN := Lib.hid hg
      have HVL := Lib.hid (show v.length ≤ 40 by rw [← hvv]; exact HWL.out _)
      have HML := Lib.hid (show mac.length ≤ 40 by rw [← hmac]; exact HWL.out _)
      obtain ⟨F, hF⟩ : ∃ F : H.Nd → List H.En, F = fun h => H.boundTo h g v i mac := ⟨_, rfl⟩
      have HAT := Lib.hid (show H.boundAt t N i = N.flatMap F by rw [hF]; unfold H.boundAt; rw [hho, hg, hvv, hmac])
      have HFD := Lib.hid hF
      have HF := Lib.hid (show ∀ j, ((N.take j).flatMap F).length ≤ 400 from fun j => H.flat_take F 2 200 j N (fun h _ => by rw [hF]; exact H.boundTo_few _ _ _ _ _) (by have := HK.out; omega))
      have HSQ := Lib.hid (HA.out.below (hb1.trans (HB.out.mono hb1.size)))
      have HSN := Lib.hid (HBN.out.below (hb1.trans (HB.out.mono hb1.size)))
      have hszr := HB.out.size
      obtain ⟨wo, hwo⟩ : ∃ wo, wo = wr := ⟨_, rfl⟩
      subst hwo
      clear hvv hmac hho hg hF
      go_wp2_with fail
      refine (saidC A _ c 3 n 3 t [C.wBindings, i, C.wVni] [] v _ HN.out rfl (HSQ.out.below (up wo _)) (lit_seen eS wo [C.wBindings, i, C.wVni] _ rfl (by simp)) (by omega) (by omega) (by omega) HR.out HVV.out).mono ?_
      rintro e w2 ⟨rfl, hx⟩
      have hb2 := bthen (up wo _) hx
      clear hx
      go_wp2_with fail
      refine (saidC A _ c 3 n 3 t [C.wBindings, i, C.wMac] [] mac _ HN.out rfl (HSQ.out.below (bthen hb2 (up w2 _))) (lit_seen eS w2 [C.wBindings, i, C.wMac] _ rfl (by simp)) (by omega) (by omega) (by omega) HR.out HMAC.out).mono ?_
      rintro e w3 ⟨rfl, hx⟩
      have hb3 := bthen hb2 (bthen (up w2 _) hx)
      clear hx
      go_wp2_with fail
      refine (saidC A _ c 3 n 3 t [C.wBindings, i, C.wHost] [] ho _ HN.out rfl (HSQ.out.below (bthen hb3 (up w3 _))) (lit_seen eS w3 [C.wBindings, i, C.wHost] _ rfl (by simp)) (by omega) (by omega) (by omega) HR.out HHO.out).mono ?_
      rintro e w4 ⟨rfl, hx⟩
      have hb4 := bthen hb3 (bthen (up w3 _) hx)
      clear hx
      go_wp2_with fail
      refine (namedC B d k N ho g _ HK.out (HSN.out.below hb4) (by omega) HGN.out).mono ?_
      rintro e w5 ⟨gm, rfl, hgm, hx⟩
      obtain ⟨ga, gi, gvn⟩ := g
      obtain ⟨gA, gn, gc⟩ := gm
      have hb5 := bthen hb4 hx
      obtain ⟨gg, hgg⟩ : ∃ gg, w5.heap.size = gg := ⟨_, rfl⟩
      obtain ⟨W6, hW6⟩ : ∃ W6, w5.alloc (.cells #[.string (sB ga), .string (sB gi), .slice gA gn gc] 96) = W6 := ⟨_, rfl⟩
      have HND := Lib.hid (show NdB W6 gg ga gi ⟨gA, gn, gc⟩ by rw [← hW6, ← hgg]; exact NdB.born w5 ga gi ⟨gA, gn, gc⟩)
      have hb6 : Below wo.heap.size wo W6 := by rw [← hW6]; exact bthen hb5 (up w5 _)
      have HB6 := Lib.hid (show Below w1.heap.size w1 W6 from HB.out.trans (hb6.mono hszr))
      have HO6 := Lib.hid (HO.out.keep hb6)
      have HSD := Lib.hid (show Side12 gg W6 W6 u5 from side_start HO.out (by rw [← hgg]; exact hb5.size))
      obtain ⟨p0, hp0⟩ : ∃ p0, (l.take q).flatMap (H.boundAt t N) = p0 := ⟨_, rfl⟩
      have HP0 := Lib.hid (show p0.length ≤ 80000 by rw [← hp0]; exact HBF.out q)
      rw [hp0] at HO6 HXI
      have HGG := Lib.hid hgg
      have HW6 := Lib.hid hW6
      clear hgg hW6 hp0 hb2 hb3 hb4 hb5 hb6 hx hgm
      go_wp2
      go_loopg [5, 37] k (fun gk2 vo vi w2 => ∃ j : Nat, Hid (j + gk2 = k) ∧ j ≤ k ∧ vi = .int .i64 (j : Int) ∧ Hid (Own eEc w2 w1.heap.size vo (p0 ++ (N.take j).flatMap F)) ∧ Hid (Below w1.heap.size w1 w2) ∧ Hid (Side12 gg W6 w2 vo))
      case atStart => exact ⟨0, Nat.zero_add _, Nat.zero_le _, rfl, (by show Own eEc _ _ _ _; rw [HW6.out]; simpa using HO6.out), (by show Below _ _ _; rw [HW6.out]; exact HB6.out), (by show Side12 _ _ _ _; rw [HW6.out]; exact HSD.out)⟩
      case round =>
        obtain ⟨j, HG3, hj, rfl, HO3, HB3, HS3⟩ := hrel
        have hgk3 := HG3.out
        by_cases hlj : j < k
        · have blj : decide ((j : Int) < (k : Int)) = true := decide_eq_true (by omega)
          have blj2 : decide (j < k) = true := decide_eq_true hlj
          have hji : (j : Int) < (k : Int) := by omega
          have hjl : j < N.length := by have := HK.out; omega
          have HBW := Lib.hid (hb1.trans (HB3.out.mono hb1.size))
          obtain ⟨b9, o9, m9, rfl, hpt9, hcs9⟩ := HBN.out.one hjl
          obtain ⟨x0, x1, x2⟩ := hcs9 wr HBW.out
          have HXJ := Lib.hid (H.flat_next F (List.getElem?_eq_getElem hjl))
          have HMV9 := Lib.hid (HV.out _ (List.getElem_mem hjl))
          have HPT9 := Lib.hid hpt9
          clear hcs9 hpt9
          generalize N[j] = h at x0 x1 x2 HXJ HPT9 HMV9
          obtain ⟨ha, hi, hvn⟩ := h
          obtain ⟨m9A, m9n, m9c⟩ := m9
          simp only at x0 x1 x2 HMV9 HPT9
          have HFG := Lib.hid (show F ⟨ha, hi, hvn⟩ = if decide (v ∈ hvn) = true then ⟨ha, 2, v ++ 32 :: i, mac⟩ :: (if ga = ha then [] else [⟨ha, 3, v ++ 32 :: mac, gi⟩]) else [] by rw [HFD.out]; rfl)
          obtain ⟨w7, hw7⟩ : ∃ w7, w7 = wr := ⟨_, rfl⟩
          subst hw7
          obtain ⟨gh, hgh⟩ : ∃ gh, w7.heap.size = gh := ⟨_, rfl⟩
          have hup := up w7 (.cells #[.string (sB ha), .string (sB hi), .slice m9A m9n m9c] 96)
          have HNH := Lib.hid (NdB.born w7 ha hi ⟨m9A, m9n, m9c⟩)
          have HSH := Lib.hid (show Side12 gh (w7.alloc (.cells #[.string (sB ha), .string (sB hi), .slice m9A m9n m9c] 96)) (w7.alloc (.cells #[.string (sB ha), .string (sB hi), .slice m9A m9n m9c] 96)) u5 from side_start HO3.out (by rw [hgh]; exact Nat.le_refl _))
          have HB4 := Lib.hid (HB3.out.trans (hup.mono HB3.out.size))
          have HBW4 := Lib.hid (bthen HBW.out hup)
          have HS4 := Lib.hid (side_grow HS3.out hup)
          have HO4 := Lib.hid (HO3.out.keep hup)
          obtain ⟨s0, s1, s2⟩ := HNH.out.cells
          have HLN := Lib.hid (show (p0 ++ (N.take j).flatMap F).length ≤ 80400 by rw [List.length_append]; have := HF.out j; have := HP0.out; omega)
          obtain ⟨r, hr⟩ : ∃ r, decide (v ∈ hvn) = r := ⟨_, rfl⟩
          have HRV := Lib.hid hr
          have HIN := Lib.hid (fun W (h : Below w.heap.size w W) => inC14 ha hi m9A m9c m9n hvn v r W HPT9.out.len (HPT9.out.seen.below h) (by have := HMV9.out; have : hvn.length = m9n := HPT9.out.len; omega) hr)
          have HGH := Lib.hid hgh
          clear hup hr hgh
          go_wp2_with fail
          refine (HIN.out _ HBW4.out).mono ?_
          rintro e w8 ⟨rfl, hx⟩
          have HB8 := Lib.hid (HB4.out.trans (hx.mono HB4.out.size))
          have HS8 := Lib.hid (side_grow HS4.out hx)
          have HO8 := Lib.hid (HO4.out.keep hx)
          have HSH8 := Lib.hid (side_grow HSH.out hx)
          have HNH8 := Lib.hid (HNH.out.keep hx HNH.out.lt)
          obtain ⟨s0, s1, s2⟩ := HNH8.out.cells
          clear hx
          cases r with
          | false =>
            have HE := Lib.hid (show F ⟨ha, hi, hvn⟩ = [] by rw [HFG.out, if_neg (fun h => by rw [HRV.out] at h; cases h)])
            go_wp2
            go_roundg (k - (j + 1))
            case rel => exact ⟨j + 1, (by show _ = _; omega), by omega, by go_num, (by show Own eEc _ _ _ _; rw [HXJ.out, HE.out, List.append_nil]; exact HO8.out), HB8, HS8⟩
            case measure => omega
          | true =>
            have HE := Lib.hid (show F ⟨ha, hi, hvn⟩ = ⟨ha, 2, v ++ 32 :: i, mac⟩ :: (if ga = ha then [] else [⟨ha, 3, v ++ 32 :: mac, gi⟩]) by rw [HFG.out, if_pos HRV.out])
            have hsz8 := HB8.out.size
            obtain ⟨k2, hk2⟩ : ∃ z, v ++ 32 :: i = z := ⟨_, rfl⟩
            obtain ⟨k3, hk3⟩ : ∃ z, v ++ 32 :: mac = z := ⟨_, rfl⟩
            have a1 : ∀ w : World, Sem.run Tryz.prog (Op.stringOp .add (sB v) (⟨#[32]⟩ : ByteArray)) w = .ok (.string (sB (v ++ [32]))) w := fun w => add14 v [32] (v ++ [32]) w (Nat.le_trans HVL.out (by omega)) (by simp) rfl
            have a2 : ∀ w : World, Sem.run Tryz.prog (Op.stringOp .add (sB (v ++ [32])) (sB i)) w = .ok (.string (sB k2)) w := fun w => add14 (v ++ [32]) i k2 w (by rw [List.length_append, List.length_singleton]; have := HVL.out; omega) (Nat.le_trans HIL.out (by omega)) (by rw [← hk2]; simp)
            have a3 : ∀ w : World, Sem.run Tryz.prog (Op.stringOp .add (sB (v ++ [32])) (sB mac)) w = .ok (.string (sB k3)) w := fun w => add14 (v ++ [32]) mac k3 w (by rw [List.length_append, List.length_singleton]; have := HVL.out; omega) (Nat.le_trans HML.out (by omega)) (by rw [← hk3]; simp)
            rw [hk2, hk3] at HE
            clear hk2 hk3
            by_cases he : ga = ha
            · have n0 := sB_eq he
              have HE1 := Lib.hid (show F ⟨ha, hi, hvn⟩ = [⟨ha, 2, k2, mac⟩] by rw [HE.out, if_pos he])
              clear he
              go_wp2_with (at_builtin; refine wpList_appS eEc _ rfl (.tmp 45) (.tmp 54) rfl w1.heap.size u5 _ rfl HO8.out ⟨ha, 2, k2, mac⟩ 1 _ rfl w8.heap.size rfl rfl (by have := HLN.out; omega) hsz8 ?_; intro v9 w9 hown9 hb9 hG9; have HS9 := Lib.hid (side_app HS8.out hG9); obtain ⟨t0, t1, t2⟩ := (HNH.out.side (side_app HSH8.out hG9) (Nat.le_of_eq HGH.out.symm)).cells; obtain ⟨z0, z1, z2⟩ := (HND.out.side HS9.out (Nat.le_refl _)).cells; rw [← HGG.out] at z0 z1 z2)
              go_roundg (k - (j + 1))
              case rel => exact ⟨j + 1, (by show _ = _; omega), by omega, by go_num, (by show Own eEc _ _ _ _; rw [HXJ.out, HE1.out, ← List.append_assoc]; exact hown9), HB8.out.trans hb9, HS9⟩
              case measure => omega
            · have n0 := sB_ne he
              have HE1 := Lib.hid (show F ⟨ha, hi, hvn⟩ = [⟨ha, 2, k2, mac⟩] ++ [⟨ha, 3, k3, gi⟩] by rw [HE.out, if_neg he]; rfl)
              clear he
              go_wp2_with (first | (at_builtin; refine wpList_appS eEc _ rfl (.tmp 45) (.tmp 54) rfl w1.heap.size u5 _ rfl HO8.out ⟨ha, 2, k2, mac⟩ 1 _ rfl w8.heap.size rfl rfl (by have := HLN.out; omega) hsz8 ?_; intro v9 w9 hown9 hb9 hG9; have HS9 := Lib.hid (side_app HS8.out hG9); have HO9 := Lib.hid hown9; have HB9 := Lib.hid (HB8.out.trans hb9); have hsz9 := (HB8.out.trans hb9).size; clear hown9 hb9; obtain ⟨t0, t1, t2⟩ := (HNH.out.side (side_app HSH8.out hG9) (Nat.le_of_eq HGH.out.symm)).cells; obtain ⟨z0, z1, z2⟩ := (HND.out.side HS9.out (Nat.le_refl _)).cells; rw [← HGG.out] at z0 z1 z2) | (at_builtin; refine wpList_appS eEc _ rfl (.tmp 61) (.tmp 71) rfl w1.heap.size v9 _ rfl HO9.out ⟨ha, 3, k3, gi⟩ 1 _ rfl w9.heap.size rfl rfl (by rw [List.length_append, List.length_singleton]; have := HLN.out; omega) hsz9 ?_; intro v10 w10 hown10 hb10 hG10))
              go_roundg (k - (j + 1))
              case rel => exact ⟨j + 1, (by show _ = _; omega), by omega, by go_num, (by show Own eEc _ _ _ _; rw [HXJ.out, HE1.out, ← List.append_assoc, ← List.append_assoc]; exact hown10), HB9.out.trans hb10, side_app HS9.out hG10⟩
              case measure => omega
        · have blj : decide ((j : Int) < (k : Int)) = false := decide_eq_false (by omega)
          have blj2 : decide (j < k) = false := decide_eq_false hlj
          have HE := Lib.hid (show p0 ++ (N.take j).flatMap F = (l.take (q + 1)).flatMap (H.boundAt t N) by
            rw [List.take_of_length_le (by have := HK.out; omega), HXI.out, HAT.out])
          go_wp2
          go_roundg (m - (q + 1))
          case rel => exact ⟨q + 1, (by show _ = _; omega), by omega, by go_num, (by show Own eEc _ _ _ _; rw [← HE.out]; exact HO3.out), HB3⟩
          case measure => omega
    · have blt : decide ((q : Int) < (m : Int)) = false := decide_eq_false (by omega)
      have blt2 : decide (q < m) = false := decide_eq_false hlt
      have HE := Lib.hid (show (l.take q).flatMap (H.boundAt t N) = L by rw [List.take_of_length_le (by have := HM.out; omega)]; exact HL.out)
      go_wp2
      go_ret
      exact ⟨_, rfl, by rw [← HE.out]; exact HO.out.lower hb1.size, hb1.trans (HB.out.mono hb1.size)⟩
end Go.Proofs.YtfcikfohmehmkaaGreatDoor

namespace Go.Proofs.YtfcikfohmehmkaaGreatDoor
open Go.RowKit
set_option linter.unusedVariables false

namespace H
theorem map_next {α β : Type} (f : α → β) {l : List α} {k : Nat} {x : α} (h : l[k]? = some x) : (l.take (k + 1)).map f = (l.take k).map f ++ [f x] := by
  obtain ⟨h1, rfl⟩ := List.getElem?_eq_some_iff.1 h
  rw [List.take_succ_eq_append_getElem h1, List.map_append]
  simp
end H
set_option maxRecDepth 100000 in
set_option maxHeartbeats 16000000 in
theorem routesC14 (A B : Option Addr) (c d n k : Nat) (t : List T.Ln) (N : List H.Nd) (L : List H.En) (w : World) (hn : t.length = n) (hA : Seen eL w A t) (hl : n ≤ 200) (hR : T.RightT t) (hk : N.length = k) (hB : SeenN w B N) (hkl : k ≤ 200) (hv : ∀ x ∈ N, x.vn.length ≤ 200) (hip : ∀ x ∈ N, x.addr.length ≤ 40) (hL : H.routesC t N = L) :
    Calls Tryz.prog 30 #[.slice A n c, .slice B k d] w (fun e w' => ∃ v, e = .returned v ∧ Own eEc w' w.heap.size v L ∧ Below w.heap.size w w') := by
  have HN := Lib.hid hn
  have HA := Lib.hid hA
  have HR := Lib.hid hR
  have HK := Lib.hid hk
  have HBN := Lib.hid hB
  have HV := Lib.hid hv
  obtain ⟨l, hu⟩ : ∃ l, T.underW t [C.wRoutes] = l := ⟨_, rfl⟩
  obtain ⟨m, hm⟩ : ∃ m, l.length = m := ⟨_, rfl⟩
  have HU := Lib.hid hu
  have HM := Lib.hid hm
  have HL := Lib.hid (show l.flatMap (H.routeAt t N) = L by rw [← hL, ← hu]; rfl)
  have HLW := Lib.hid (show ∀ x ∈ l, x.length ≤ 40 from fun x hx => T.underW_word hR (by rw [hu]; exact hx))
  have hmn : m ≤ 200 := by
    have h1 := T.underW_len hR [C.wRoutes]
    rw [hu] at h1
    omega
  have HBF := Lib.hid (show ∀ q, ((l.take q).flatMap (H.routeAt t N)).length ≤ 40000 from fun q => H.flat_take _ 200 200 q l (fun i _ => by unfold H.routeAt; rw [List.length_map]; omega) (by omega))
  have HWL := Lib.hid (fun (p : T.Pth) (o : List UInt8) (ho : o.length ≤ 40) => H.word_long hR p ho)
  have HIPL := Lib.hid hip
  clear hn hA hR hk hB hv hip hL hu hm
  go_enter Tryz.func30, Tryz.ntmps30
  go_wp2_with fail
  refine (wordsC A _ c 1 n 1 m t [C.wRoutes] l _ HN.out rfl (HA.out.below (up w _)) (lit_seen eS w [C.wRoutes] _ rfl (by simp)) (by omega) (by omega) (by omega) HR.out HU.out HM.out).mono ?_
  rintro e w1 ⟨C1, d1, rfl, hd1, hp1, hx⟩
  have hb1 := bthen (up w _) hx
  have HP1 := Lib.hid hp1
  clear hp1 hx
  go_wp2
  go_loopg [5, 17] m (fun gk vo vi wr => ∃ q : Nat, Hid (q + gk = m) ∧ q ≤ m ∧ vi = .int .i64 (q : Int) ∧ Hid (Own eEc wr w1.heap.size vo ((l.take q).flatMap (H.routeAt t N))) ∧ Hid (Below w1.heap.size w1 wr))
  case atStart => exact ⟨0, Nat.zero_add _, Nat.zero_le _, rfl, Own.nil _ _, Below.refl _ _⟩
  case round =>
    obtain ⟨q, HGK, hq, rfl, HO, HB⟩ := hrel
    have hgk := HGK.out
    by_cases hlt : q < m
    · have blt : decide ((q : Int) < (m : Int)) = true := decide_eq_true (by omega)
      have blt2 : decide (q < m) = true := decide_eq_true hlt
      have hki : (q : Int) < (m : Int) := by omega
      have hql : q < l.length := by have := HM.out; omega
      obtain ⟨b3, o3, e3, hw3, hL3⟩ := HP1.out.pt.seen (by omega)
      have e3 : C1 = some ⟨b3, o3, none⟩ := e3
      subst e3
      have c0 := (hL3.below HB.out hw3).str hql
      have HXI := Lib.hid (H.flat_next (H.routeAt t N) (List.getElem?_eq_getElem hql))
      have HIL := Lib.hid (HLW.out _ (List.getElem_mem hql))
      clear hL3
      generalize l[q] = i at c0 HXI HIL
      obtain ⟨ho, hho⟩ : ∃ v, H.wordH t [C.wRoutes, i, C.wVia] [] = v := ⟨_, rfl⟩
      obtain ⟨me, hme⟩ : ∃ v, H.wordH t [C.wRoutes, i, C.wMetric] [48] = v := ⟨_, rfl⟩
      obtain ⟨g, hg⟩ : ∃ g, H.namedN N ho = g := ⟨_, rfl⟩
      have HME := Lib.hid hme
      have HHO := Lib.hid hho
      have HGN := Lib.hid hg
      have HML := Lib.hid (show me.length ≤ 40 by rw [← hme]; exact HWL.out _ _ (by simp))
      obtain ⟨F, hF⟩ : ∃ F : H.Nd → H.En, F = fun h => H.routeTo h g i me := ⟨_, rfl⟩
      have HAT := Lib.hid (show H.routeAt t N i = N.map F by rw [hF]; unfold H.routeAt; rw [hho, hg, hme])
      have HFD := Lib.hid hF
      have HIL2 := Lib.hid (show g.addr.length ≤ 40 by
        rw [← hg]
        unfold H.namedN
        cases hf : N.find? (fun n => decide (n.name = ho)) with
        | none => simp
        | some n => exact HIPL.out _ (List.mem_of_find?_eq_some hf))
      have HSQ := Lib.hid (HA.out.below (hb1.trans (HB.out.mono hb1.size)))
      have HSN := Lib.hid (HBN.out.below (hb1.trans (HB.out.mono hb1.size)))
      have hszr := HB.out.size
      obtain ⟨wo, hwo⟩ : ∃ wo, wo = wr := ⟨_, rfl⟩
      subst hwo
      clear hme hho hg hF
      go_wp2_with fail
      refine (saidC A _ c 3 n 3 t [C.wRoutes, i, C.wVia] [] ho _ HN.out rfl (HSQ.out.below (up wo _)) (lit_seen eS wo [C.wRoutes, i, C.wVia] _ rfl (by simp)) (by omega) (by omega) (by omega) HR.out HHO.out).mono ?_
      rintro e w2 ⟨rfl, hx⟩
      have hb2 := bthen (up wo _) hx
      clear hx
      go_wp2_with fail
      refine (namedC B d k N ho g _ HK.out (HSN.out.below hb2) (by omega) HGN.out).mono ?_
      rintro e w3 ⟨gm, rfl, hgm, hx⟩
      obtain ⟨ga, gi, gvn⟩ := g
      obtain ⟨gA, gn, gc⟩ := gm
      have hb3 := bthen hb2 hx
      obtain ⟨gg, hgg⟩ : ∃ gg, w3.heap.size = gg := ⟨_, rfl⟩
      obtain ⟨W4, hW4⟩ : ∃ W4, w3.alloc (.cells #[.string (sB ga), .string (sB gi), .slice gA gn gc] 96) = W4 := ⟨_, rfl⟩
      have HND4 := Lib.hid (show NdB W4 gg ga gi ⟨gA, gn, gc⟩ by rw [← hW4, ← hgg]; exact NdB.born w3 ga gi ⟨gA, gn, gc⟩)
      have hb4 : Below wo.heap.size wo W4 := by rw [← hW4]; exact bthen hb3 (up w3 _)
      have hs34 : W4.heap.size = w3.heap.size + 1 := by rw [← hW4]; simp
      have HS34 := Lib.hid hs34
      have HGG := Lib.hid hgg
      have HW4 := Lib.hid hW4
      have hgb : wo.heap.size ≤ gg := by rw [← hgg]; exact hb3.size
      clear hgg hW4 hx hb2 hgm hs34
      go_wp2_with fail
      rw [HW4.out]
      refine (saidC A (some ⟨w3.heap.size + 1, 0, none⟩) c 3 n 3 t [C.wRoutes, i, C.wMetric] [48] me _ HN.out rfl (HSQ.out.below (bthen hb4 (up W4 _))) (lit_at14 W4 [C.wRoutes, i, C.wMetric] _ _ HS34.out rfl (by simp)) (by omega) (by omega) (by omega) HR.out HME.out).mono ?_
      rintro e W6 ⟨rfl, hx⟩
      have hb46 := bthen (up W4 _) hx
      have hb6 := bthen hb4 hb46
      have HND := Lib.hid (HND4.out.keep hb46 HND4.out.lt)
      have HB6 := Lib.hid (show Below w1.heap.size w1 W6 from HB.out.trans (hb6.mono hszr))
      have HO6 := Lib.hid (HO.out.keep hb6)
      have HSD := Lib.hid (show Side12 gg W6 W6 u5 from side_start HO.out hgb)
      obtain ⟨p0, hp0⟩ : ∃ p0, (l.take q).flatMap (H.routeAt t N) = p0 := ⟨_, rfl⟩
      have HP0 := Lib.hid (show p0.length ≤ 40000 by rw [← hp0]; exact HBF.out q)
      rw [hp0] at HO6 HXI
      clear hp0 hb3 hb4 hb6 hb46 hx
      go_wp2
      go_loopg [5, 33] k (fun gk2 vo vi w2 => ∃ j : Nat, Hid (j + gk2 = k) ∧ j ≤ k ∧ vi = .int .i64 (j : Int) ∧ Hid (Own eEc w2 w1.heap.size vo (p0 ++ (N.take j).map F)) ∧ Hid (Below w1.heap.size w1 w2) ∧ Hid (Side12 gg W6 w2 vo))
      case atStart => exact ⟨0, Nat.zero_add _, Nat.zero_le _, rfl, (by show Own eEc _ _ _ _; simpa using HO6.out), HB6.out, HSD.out⟩
      case round =>
        obtain ⟨j, HG3, hj, rfl, HO3, HB3, HS3⟩ := hrel
        have hgk3 := HG3.out
        by_cases hlj : j < k
        · have blj : decide ((j : Int) < (k : Int)) = true := decide_eq_true (by omega)
          have blj2 : decide (j < k) = true := decide_eq_true hlj
          have hji : (j : Int) < (k : Int) := by omega
          have hjl : j < N.length := by have := HK.out; omega
          have HBW := Lib.hid (hb1.trans (HB3.out.mono hb1.size))
          obtain ⟨b9, o9, m9, rfl, hpt9, hcs9⟩ := HBN.out.one hjl
          obtain ⟨x0, x1, x2⟩ := hcs9 wr HBW.out
          have HXJ := Lib.hid (H.map_next F (List.getElem?_eq_getElem hjl))
          have HMV9 := Lib.hid (HV.out _ (List.getElem_mem hjl))
          have HPT9 := Lib.hid hpt9
          clear hcs9 hpt9
          generalize N[j] = h at x0 x1 x2 HXJ HPT9 HMV9
          obtain ⟨ha, hi, hvn⟩ := h
          obtain ⟨m9A, m9n, m9c⟩ := m9
          simp only at x0 x1 x2 HMV9 HPT9
          have HFG := Lib.hid (show F ⟨ha, hi, hvn⟩ = ⟨ha, 4, i, (if ga = ha then H.wLocal else gi) ++ 32 :: me⟩ by rw [HFD.out]; rfl)
          obtain ⟨w7, hw7⟩ : ∃ w7, w7 = wr := ⟨_, rfl⟩
          subst hw7
          have hup := up w7 (.cells #[.string (sB ha), .string (sB hi), .slice m9A m9n m9c] 96)
          have HNH := Lib.hid (NdB.born w7 ha hi ⟨m9A, m9n, m9c⟩)
          have HB4 := Lib.hid (HB3.out.trans (hup.mono HB3.out.size))
          have HS4 := Lib.hid (side_grow HS3.out hup)
          have HO4 := Lib.hid (HO3.out.keep hup)
          obtain ⟨s0, s1, s2⟩ := HNH.out.cells
          obtain ⟨z0, z1, z2⟩ := (HND.out.side HS4.out (Nat.le_refl _)).cells
          rw [← HGG.out] at z0 z1 z2
          have HLN := Lib.hid (show (p0 ++ (N.take j).map F).length ≤ 40200 by rw [List.length_append, List.length_map, List.length_take]; have := HP0.out; omega)
          have hsz4 := HB4.out.size
          have HGL := Lib.hid (show gi.length ≤ 40 from HIL2.out)
          clear hup
          by_cases he : ga = ha
          · have n0 := sB_eq he
            obtain ⟨k4, hk4⟩ : ∃ z, H.wLocal ++ 32 :: me = z := ⟨_, rfl⟩
            have a1 : ∀ w : World, Sem.run Tryz.prog (Op.stringOp .add (⟨#[108, 111, 99, 97, 108]⟩ : ByteArray) (⟨#[32]⟩ : ByteArray)) w = .ok (.string (sB (H.wLocal ++ [32]))) w := fun w => add14 H.wLocal [32] (H.wLocal ++ [32]) w (by decide) (by simp) rfl
            have a2 : ∀ w : World, Sem.run Tryz.prog (Op.stringOp .add (sB (H.wLocal ++ [32])) (sB me)) w = .ok (.string (sB k4)) w := fun w => add14 (H.wLocal ++ [32]) me k4 w (by decide) (Nat.le_trans HML.out (by omega)) (by rw [← hk4]; simp)
            have HE1 := Lib.hid (show F ⟨ha, hi, hvn⟩ = ⟨ha, 4, i, k4⟩ by rw [HFG.out, if_pos he, hk4])
            clear he hk4
            go_wp2_with (at_builtin; refine wpList_appS eEc _ rfl (.tmp 44) (.tmp 53) rfl w1.heap.size u5 _ rfl HO4.out ⟨ha, 4, i, k4⟩ 1 _ rfl (w7.heap.size + 1) (by simp) rfl (by have := HLN.out; omega) hsz4 ?_; intro v9 w9 hown9 hb9 hG9)
            go_roundg (k - (j + 1))
            case rel => exact ⟨j + 1, (by show _ = _; omega), by omega, by go_num, (by show Own eEc _ _ _ _; rw [HXJ.out, HE1.out, ← List.append_assoc]; exact hown9), HB4.out.trans hb9, side_app HS4.out hG9⟩
            case measure => omega
          · have n0 := sB_ne he
            obtain ⟨k4, hk4⟩ : ∃ z, gi ++ 32 :: me = z := ⟨_, rfl⟩
            have a1 : ∀ w : World, Sem.run Tryz.prog (Op.stringOp .add (sB gi) (⟨#[32]⟩ : ByteArray)) w = .ok (.string (sB (gi ++ [32]))) w := fun w => add14 gi [32] (gi ++ [32]) w (Nat.le_trans HGL.out (by omega)) (by simp) rfl
            have a2 : ∀ w : World, Sem.run Tryz.prog (Op.stringOp .add (sB (gi ++ [32])) (sB me)) w = .ok (.string (sB k4)) w := fun w => add14 (gi ++ [32]) me k4 w (by rw [List.length_append, List.length_singleton]; have := HGL.out; omega) (Nat.le_trans HML.out (by omega)) (by rw [← hk4]; simp)
            have HE1 := Lib.hid (show F ⟨ha, hi, hvn⟩ = ⟨ha, 4, i, k4⟩ by rw [HFG.out, if_neg he, hk4])
            clear he hk4
            go_wp2_with (at_builtin; refine wpList_appS eEc _ rfl (.tmp 44) (.tmp 53) rfl w1.heap.size u5 _ rfl HO4.out ⟨ha, 4, i, k4⟩ 1 _ rfl (w7.heap.size + 1) (by simp) rfl (by have := HLN.out; omega) hsz4 ?_; intro v9 w9 hown9 hb9 hG9)
            go_roundg (k - (j + 1))
            case rel => exact ⟨j + 1, (by show _ = _; omega), by omega, by go_num, (by show Own eEc _ _ _ _; rw [HXJ.out, HE1.out, ← List.append_assoc]; exact hown9), HB4.out.trans hb9, side_app HS4.out hG9⟩
            case measure => omega
        · have blj : decide ((j : Int) < (k : Int)) = false := decide_eq_false (by omega)
          have blj2 : decide (j < k) = false := decide_eq_false hlj
          have HE := Lib.hid (show p0 ++ (N.take j).map F = (l.take (q + 1)).flatMap (H.routeAt t N) by
            rw [List.take_of_length_le (by have := HK.out; omega), HXI.out, HAT.out])
          go_wp2
          go_roundg (m - (q + 1))
          case rel => exact ⟨q + 1, (by show _ = _; omega), by omega, by go_num, (by show Own eEc _ _ _ _; rw [← HE.out]; exact HO3.out), HB3⟩
          case measure => omega
    · have blt : decide ((q : Int) < (m : Int)) = false := decide_eq_false (by omega)
      have blt2 : decide (q < m) = false := decide_eq_false hlt
      have HE := Lib.hid (show (l.take q).flatMap (H.routeAt t N) = L by rw [List.take_of_length_le (by have := HM.out; omega)]; exact HL.out)
      go_wp2
      go_ret
      exact ⟨_, rfl, by rw [← HE.out]; exact HO.out.lower hb1.size, hb1.trans (HB.out.mono hb1.size)⟩
end Go.Proofs.YtfcikfohmehmkaaGreatDoor

namespace Go.Proofs.YtfcikfohmehmkaaGreatDoor
namespace C
open T (Pth pless RightN RightT pathL kidsL endL wd Ln isIn)
theorem step_live {Z : Nat} {t : List Ln} (h : RightN Z t) {i : Nat} (hi : i < t.length) (g : Going t i) {p : Pth} (hp : pathL t i = p) : checkTo t (i + 1) = checkTo t i ++ faultsP (pths t) p := by
  rw [check_step hi, ← hp]; unfold atP; rw [if_pos (Going.live h hi g)]
theorem step_end {Z : Nat} {t : List Ln} (h : RightN Z t) {i : Nat} (hi : i < t.length) (g : Going t i) {p : Pth} (hp : pathL t i = p) {k : Int} (hk : knownP p = k) (h0 : k ≠ 0) : checkTo t (endL t i) = checkTo t i ++ [(p, k)] := by
  subst hp; subst hk
  rw [check_end h hi h0]
  unfold atP
  rw [if_pos (Going.live h hi g)]
  unfold faultsP
  rw [if_pos h0]
theorem needs_few (a : Wd) : (needsW a).length ≤ 3 := by
  unfold needsW
  repeat' split
  all_goals simp
theorem faults_few (P : List Pth) (p : Pth) : (faultsP P p).length ≤ 3 := by
  unfold faultsP
  split
  · simp
  · split
    · rw [List.length_map]; exact Nat.le_trans (List.length_filter_le _ _) (needs_few _)
    · repeat' split
      all_goals simp
    · split <;> simp
    · simp
theorem check_few (t : List Ln) : ∀ i, i ≤ t.length → (checkTo t i).length ≤ 3 * i
  | 0, _ => by rw [check_none0]; simp
  | i + 1, h => by
    rw [check_step (by omega), List.length_append]
    have h1 := check_few t i (by omega)
    have h2 : (atP (pths t) (pathL t i)).length ≤ 3 := by
      unfold atP
      split
      · exact faults_few _ _
      · simp
    omega
end C
open Go.RowKit
open F
set_option linter.unusedVariables false

theorem free13 {E : Elem FlM} {w : World} {base k : Nat} {v : Value} {L : List Fl} {m : PtM} {x : T.Pth} (h : OwnF E w base k v L) (hf : ∀ a, m.A = some a → w.heap.size ≤ a.block) : FreeQ v m x := by
  intro _ a ha e
  have h5 := hf a ha
  have h6 := (h.flBlock _ e).2
  omega
/-- append of one fault: what lies outside the row stays, outside. -/
theorem wpList_appF2 (E : Elem FlM) {ops : Array Oper} {rest : List Oper} {o : Oper} {a : Act} {Q : Exit → Act → World → Prop} (w : World) (hgd : o.guard = none) (s x : Operand)
    (ho : o.op = .call { callee := .builtin .append, args := #[s, x], argTypes := #[E.st, E.st] })
    (base k : Nat) (v : Value) (L : List Fl) (hs : a.eval s = v) (hown : OwnF E w base k v L) (y : Fl) (m : FlM) (hy : FlK w k m y) (hf : FreeQ v m.1 y.1) (cap : Nat) (cs : Array Value) (hcs : cs.toList = E.C m)
    (g : Nat) (hg : w.heap.size = g) (hx : a.eval x = .slice (some ⟨g, 0, none⟩) 1 cap) (hlen : L.length + 1 ≤ 1099511627776) (hb : base ≤ w.heap.size)
    (h : ∀ v' w', OwnF E w' base k v' (L ++ [y]) → Below base w w' → (∀ (m : PtM) (x : T.Pth), PtS w m x → FreeQ v m x → PtS w' m x ∧ FreeQ v' m x) → wpList Tryz.prog ops Q rest (a.put o.dst v') w') : wpList Tryz.prog ops Q (o :: rest) a (w.alloc (.cells cs E.T)) := by
  obtain ⟨M, h1, h2, h3⟩ := hown
  refine wpList_app3 E w hgd s x ho base v M hs h2 m cap cs hcs g hg hx (by omega) hb fun v' w' hG => h v' w' (OwnF.snoc h1 h3 hy hf hG) (hG.below h2 hb) fun m x hx hf => ?_
  refine ⟨⟨hx.len, hx.cap, fun hp => ?_⟩, fun hp a ha e => ?_⟩
  · obtain ⟨b, o, e, hb, hH⟩ := hx.seen hp
    have hne := hf hp _ e
    exact ⟨b, o, e, Nat.lt_of_lt_of_le hb hG.grown.size, holds_of_block hH (hG.grown.block b hb (fun e => hne e.symm))⟩
  · obtain ⟨b, o, e2, hb, _⟩ := hx.seen hp
    have hne := hf hp a ha
    have eb : a.block = b := by rw [e2] at ha; injection ha with ha; rw [← ha]
    rcases hG.at_ with h | ⟨g, h, h4⟩
    · rw [h] at e; exact hne e
    · rw [h] at e; injection e with e; omega
end Go.Proofs.YtfcikfohmehmkaaGreatDoor

namespace Go.Proofs.YtfcikfohmehmkaaGreatDoor
open Go.RowKit
set_option linter.unusedVariables false

/-- A slice of this address reads as these faults. -/
def SeenF (E : Elem FlM) (w : World) (A : Option Addr) (L : List Fl) : Prop := ∃ M : List FlM, M.length = L.length ∧ Seen E w A M ∧ ∀ i (h1 : i < M.length) (h2 : i < L.length), PtS w M[i].1 L[i].1 ∧ M[i].2 = L[i].2
theorem ManyF.seenF {E : Elem FlM} {w : World} {k : Nat} {v : Value} {L : List Fl} (h : ManyF E w k v L) : ∃ A c, v = .slice A L.length c ∧ L.length ≤ c ∧ SeenF E w A L := by
  obtain ⟨M, h1, h2, h3⟩ := h
  obtain ⟨A, c, e, h4, h5⟩ := h2.seen
  rw [h1] at e h4
  exact ⟨A, c, e, h4, M, h1, h5, fun i h6 h7 => ⟨(h3 i h6 h7).pt.pt, (h3 i h6 h7).num⟩⟩
end Go.Proofs.YtfcikfohmehmkaaGreatDoor

namespace Go.Proofs.YtfcikfohmehmkaaGreatDoor
open Go.RowKit
open Go.ChangeShapes Go.WideShapes Go.ChangeAt
set_option linter.unusedVariables false
set_option linter.unusedSimpArgs false

/-- append of many, in a region that draws. -/
theorem wp_appMr {α : Type} (E : Elem α) {o : Oper} {a : Act} {K : Act → World → Prop} {Q : Exit → Act → World → Prop} (w : World) (s x : Operand)
    (ho : o.op = .call { callee := .builtin .append, args := #[s, x], argTypes := #[E.st, E.st] })
    (base : Nat) (v : Value) (l : List α) (hs : a.eval s = v) (hown : Own E w base v l) (v2 : Value) (l2 : List α) (hx : a.eval x = v2) (h2 : VecAt E w v2 l2) (hlen : l.length + l2.length ≤ 1099511627776) (hb : base ≤ w.heap.size)
    (h : ∀ v' w', Own E w' base v' (l ++ l2) → Below base w w' → G12 w w' v v' → K (a.put o.dst v') w') : o.wp Tryz.prog a w K Q := by
  rcases h2 with ⟨rfl, rfl⟩ | ⟨b, q, c, rfl, hc, hbw, hH⟩
  · refine wp_appNone E w s x ho base v l hs hown hx ?_
    exact h v w (by rw [List.append_nil]; exact hown) (Below.refl _ _) ⟨Nat.le_refl _, fun _ _ _ => rfl, fun b e => .inl e⟩
  · obtain ⟨i0, hi0, hz0, hz1, hz2⟩ := info_parts E.hin
    have hby := E.hby
    have hmul : (l.length + l2.length) * E.by_ ≤ 1099511627776 * 64 := Nat.mul_le_mul hlen hby
    obtain ⟨v', w', hr, h1, h2, _, h3⟩ := run_append_own_at (P := Tryz.prog) (w := w) base E.st o.type E.T i0 _ E.sz E.by_ E.hst hi0 hz0 hz1 hz2 E.hzs E.hsz v l.length (cellsG E l) hown ⟨b, q, none⟩ l2.length c (cellsG E l2)
      (cellsG_len E l2) (fun j u hu => cells_from hH j u hu) (cellsG_onec E _) (by unfold maxLen; omega) (by omega) hb
    have hG : Grew E w w' base v v' (l ++ l2) := by
      refine ⟨?_, ⟨h2.os, h2.tape, h2.output, h2.size, fun k hk hne => h2.block k hk hne⟩, ?_⟩
      · unfold Own; rw [cellsG_append, List.length_append]; exact h1
      · rcases h3 with h3 | h3
        · exact .inl h3
        · exact .inr ⟨_, h3, Nat.le_refl _⟩
    unfold Oper.wp execOp
    simp only [ho, resolve, invoke, builtin, Sem.run_bind, Sem.run_pure, Result.andThen_ok, List.map_toArray, List.map_cons, List.map_nil, hs, hx, hr]
    exact h v' w' hG.own (hG.below hown hb) (g12_of hG)
end Go.Proofs.YtfcikfohmehmkaaGreatDoor

namespace Go.Proofs.YtfcikfohmehmkaaGreatDoor
open Go.Shelf Go.RowKit
set_option linter.unusedVariables false

def ren156 : Go.Shelf.Ren := ⟨fun | 156 => 61 | 165 => 94 | 166 => 95 | 169 => 96 | 240 => 132 | 241 => 133 | 276 => 163 | 277 => 164 | n => n, fun | 0 => 0 | 3 => 3 | 4 => 4 | 5 => 5 | 9 => 9 | 20 => 20 | 31 => 42 | 37 => 134 | 70 => 133 | 72 => 136 | 75 => 139 | 76 => 140 | 80 => 142 | 127 => 171 | 164 => 190 | n => n, fun  n => n⟩
set_option maxRecDepth 100000 in
theorem lays156 : Go.Proofs.Lays.n156 Tryz.prog ren156 := {
  mixed := by kernel_rfl
  f156 := Tryz.func61.trans (congrArg some (by kernel_rfl))
  f165 := Tryz.func94.trans (congrArg some (by kernel_rfl))
  f166 := Tryz.func95.trans (congrArg some (by kernel_rfl))
  f169 := Tryz.func96.trans (congrArg some (by kernel_rfl))
  f240 := Tryz.func132.trans (congrArg some (by kernel_rfl))
  f241 := Tryz.func133.trans (congrArg some (by kernel_rfl))
  f276 := Tryz.func163.trans (congrArg some (by kernel_rfl))
  f277 := Tryz.func164.trans (congrArg some (by kernel_rfl))
  t0 := Tryz.underlying0
  a0 := Tryz.isAgg0
  z0 := Tryz.sizeOf0
  v0 := Tryz.zeroValue0
  t3 := Tryz.underlying3
  a3 := Tryz.isAgg3
  z3 := Tryz.sizeOf3
  v3 := Tryz.zeroValue3
  t4 := Tryz.underlying4
  a4 := Tryz.isAgg4
  z4 := Tryz.sizeOf4
  v4 := Tryz.zeroValue4
  t9 := Tryz.underlying9
  a9 := Tryz.isAgg9
  z9 := Tryz.sizeOf9
  v9 := Tryz.zeroValue9
  t20 := Tryz.underlying20
  a20 := Tryz.isAgg20
  z20 := Tryz.sizeOf20
  v20 := Tryz.zeroValue20
  t31 := Tryz.underlying42
  a31 := Tryz.isAgg42
  z31 := Tryz.sizeOf42
  v31 := Tryz.zeroValue42
  t37 := Tryz.underlying134
  a37 := Tryz.isAgg134
  z37 := Tryz.sizeOf134
  v37 := Tryz.zeroValue134
  t70 := Tryz.underlying133
  a70 := Tryz.isAgg133
  z70 := Tryz.sizeOf133
  v70 := Tryz.zeroValue133
  t72 := Tryz.underlying136
  a72 := Tryz.isAgg136
  z72 := Tryz.sizeOf136
  v72 := Tryz.zeroValue136
  t75 := Tryz.underlying139
  a75 := Tryz.isAgg139
  z75 := Tryz.sizeOf139
  v75 := Tryz.zeroValue139
  t76 := Tryz.underlying140
  a76 := Tryz.isAgg140
  z76 := Tryz.sizeOf140
  v76 := Tryz.zeroValue140
  t127 := Tryz.underlying171
  a127 := Tryz.isAgg171
  z127 := Tryz.sizeOf171
  v127 := Tryz.zeroValue171
  t164 := Tryz.underlying190
  a164 := Tryz.isAgg190
  z164 := Tryz.sizeOf190
  v164 := Tryz.zeroValue190 }
theorem extra156 : Builder.Extra Tryz.prog ren156 := { sizeBuilder := by kernel_rfl, liesBuilder := by kernel_rfl, t5 := Tryz.underlying5, a5 := Tryz.isAgg5, z5 := Tryz.sizeOf5, v5 := Tryz.zeroValue5, infoByte := by kernel_rfl, cellsByte := by kernel_rfl, sizeByte := by kernel_rfl, neB5 := by decide }
/-- Three words, a blank between two. -/
theorem join3 (g c : Nat) (x y z r : List UInt8) (w : World) (hA : Seen eS w (some ⟨g, 0, none⟩) [x, y, z]) (hc : 3 ≤ c) (hx : x.length ≤ 100) (hy : y.length ≤ 100) (hz : z.length ≤ 100) (hr : x ++ 32 :: (y ++ 32 :: z) = r) :
    Calls Tryz.prog 61 #[.slice (some ⟨g, 0, none⟩) 3 c, .string ⟨#[32]⟩] w (fun e w' => e = .returned (.string (sB r)) ∧ Below w.heap.size w w') := by
  obtain ⟨b, o, e, hb, hH⟩ := hA (by simp)
  injection e with e
  injection e with e1 e2
  subst e1; subst e2
  have hj : Lib.join ([sB x, sB y, sB z].map (·.data.toList)) (⟨#[32]⟩ : ByteArray).data.toList = r := by rw [← hr]; simp [Lib.join, sB]
  have h := Any.strings_Join (P := Tryz.prog) (ρ := ren156) lays156 extra156 g 0 c [sB x, sB y, sB z] ⟨#[32]⟩ w (fun j s hs => by
    match j, hs with
    | 0, hs => injection hs with hs; subst hs; exact hH.str (i := 0) (by simp)
    | 1, hs => injection hs with hs; subst hs; exact hH.str (i := 1) (by simp)
    | 2, hs => injection hs with hs; subst hs; exact hH.str (i := 2) (by simp)
    | _ + 3, hs => cases hs) hb (by simp) (by simpa using hc) (by rw [hj, ← hr]; simp; omega)
  rw [hj] at h
  exact h
end Go.Proofs.YtfcikfohmehmkaaGreatDoor
