/-
  Contracts of layer 6's writeCommand (lines): a command, written; what Path and Leaves leave lies in a row of the call's own. Condition: a tree.
  Contract of layer 6's Text (lines): the commands of a tree, or ErrArg. Condition: at most 2^30 lines.
-/
import Derived.Test.YtdohnbdhloknnaaLinesC
import Derived.Test.YtdohnbdhloknnaaShowC
import Derived.Test.YtdohnbdhloknnaaPureL

namespace Go.Proofs.Ytdohnbdhloknnaa
open Go.RowKit
set_option linter.unusedVariables false

theorem Own.keepB {α : Type} {E : Elem α} {w w1 : World} {base base2 b : Nat} {v : Value} {l : List α} (h : Own E w base2 v l) (hk : KeepB base b w w1) (hne : b < base2) (hT : E.T ≠ 5) : Own E w1 base2 v l := by
  refine ⟨h.1, ?_⟩
  rcases h.2 with hn | ⟨g, cap, cur, rfl, hbg, hgg, rest⟩
  · exact .inl hn
  · refine .inr ⟨g, cap, cur, rfl, hbg, ?_, rest⟩
    exact hk.2 g _ hgg (fun e => by have := Option.some.inj e; omega) (fun c fz e => hT (by injection e))
theorem rowIs_keepB {w w1 : World} {base b g n : Nat} {T : TypeId} {F : Nat → Value} (h : w.rowIs g T n F) (hk : KeepB base b w w1) (hne : g ≠ b) (hT : T ≠ 5) : w1.rowIs g T n F := by
  obtain ⟨c, h1, h2, h3⟩ := h
  exact ⟨c, hk.2 g _ h1 (fun e => hne (Option.some.inj e)) (fun c fz e => hT (by injection e)), h2, h3⟩
/-- What Path leaves, and where. -/
def PathB (w : World) (p : List (List UInt8)) (e : Ending) (w' : World) : Prop := ∃ (g : Nat) (F : Nat → List UInt8) (cap : Nat), e = .returned (.tuple #[.slice (some ⟨g, 0, none⟩) p.length cap, .int .i64 0]) ∧ w'.rowIs g 9 p.length (fun d => .string (sB (F d))) ∧ (∀ d, d < p.length → F d = p.getD d []) ∧ w.heap.size ≤ g ∧ Below w.heap.size w w'
set_option maxRecDepth 100000 in
set_option maxHeartbeats 1000000 in
theorem Path_row (A : Option Addr) (c : Nat) (t : List T.Ln) (i : Nat) (w : World) (hA : Seen eL w A t) (hl : t.length ≤ 1073741824) (hi : i < t.length) (hR : T.RightT t) (p : List (List UInt8)) (hp : T.pathL t i = p) :
    Calls Try.prog 22 #[.slice A t.length c, .int .i64 i] w (PathB w p) := by
  have hlen := hR.path_len i i (Nat.le_refl _) hi
  have hdp := hR.deep i hi
  rw [hp] at hlen
  obtain ⟨b, o, rfl, hbw, hL⟩ := hA.lines (by omega)
  obtain ⟨e, he⟩ := Int.eq_ofNat_of_zero_le hdp.1
  have hpl : p.length = e + 1 := by omega
  have he15 : e ≤ 15 := by omega
  have HPL := Lib.hid hpl
  have HP := Lib.hid hp
  have HR := Lib.hid hR
  have HA := Lib.hid hA
  have HL := Lib.hid hL
  have HE := Lib.hid he
  have hmk := run_make_row' (P := Try.prog) 23 9 (.string ⟨#[]⟩) 16 Try.underlying23 str_info rfl .i64 .i64 (e + 1) (by omega) (by omega)
  have ec : ((e + 1 : Nat) : Int) = (e : Int) + 1 := by omega
  rw [ec] at hmk
  clear ec hp hR hA hL he hdp hlen hpl
  go_enter Try.func22, Try.ntmps22
  go_wp2_with fail
  refine (has_yes _ c t i _ HA.out hl hi HR.out).mono ?_
  rintro x w1 ⟨rfl, hb1⟩
  have hbw1 : b < w1.heap.size := Nat.lt_of_lt_of_le hbw hb1.size
  obtain ⟨c0, _, _⟩ := (HL.out.below hb1 hbw).line hi
  rw [HE.out] at c0
  go_wp2
  go_loopg [1] (i + 1) (fun g x wr => RelPa w t p w1.heap.size g x wr)
  case atStart => exact ⟨i, fun _ => [], rfl, by omega, by rw [← HP.out]; exact T.Laid.start t i hi _, by rw [HPL.out]; exact World.rowIs_made w1 (.string ⟨#[]⟩) (e + 1) 9, hb1.size, hb1.alloc hb1.size _⟩
  case round =>
    obtain ⟨j, F, rfl, hjg, hLd, hrow, hgw, hb⟩ := hrel
    have hgr := hrow.lt
    by_cases hj : 0 ≤ j
    · obtain ⟨k, rfl⟩ := Int.eq_ofNat_of_zero_le hj
      have hkl : k < t.length := by have := hLd.2.1; omega
      have hdk := HR.out.deep k hkl
      obtain ⟨d, hd⟩ := Int.eq_ofNat_of_zero_le hdk.1
      obtain ⟨hdl, hLn⟩ := HR.out.laid hLd hd
      have hde : d < e + 1 := by have := HPL.out; omega
      obtain ⟨q0, q1, _⟩ := (HL.out.below hb hbw).line hkl
      rw [hd] at q0
      have qc : wr.cell? ⟨w1.heap.size, d, none⟩ = some (.string (sB (F d))) := hrow.cell hdl
      have qf : wr.frozen? ⟨w1.heap.size, d, none⟩ = false := hrow.frozen d
      have HLn := Lib.hid hLn
      have HW := Lib.hid (row_path (d := d) hrow (T.wd t k))
      clear hLd hrow hd hdk hLn
      go_wp2
      go_region
      go_wp2_with fail
      refine (under_any _ c t k _ (HA.out.below (((hb.setCell hgw _)).drew)) hkl hl).mono ?_
      rintro x w2 ⟨rfl, hb2⟩
      go_wp2
      have hun := T.under_lt t k
      go_roundg k
      case rel => exact ⟨T.underL t k, _, rfl, by omega, HLn.out, HW.out.of_block (hb2.block _ (by simp; omega)), hgw, (hb.setCell hgw _).drew.trans (hb2.mono (by simp; omega))⟩
      case measure => omega
    · have hj1 : j = -1 := by have := hLd.1; omega
      subst hj1
      have HN := Lib.hid hLd.done
      have HW := Lib.hid hrow
      clear hLd hrow
      go_wp2
      go_ret2
      refine ⟨w1.heap.size, F, e + 1, ?_, HW.out, HN.out, hgw, hb⟩
      rw [HPL.out]
      first | rfl | skip
set_option maxRecDepth 100000 in
set_option maxHeartbeats 1000000 in
theorem leaves_own (A : Option Addr) (c : Nat) (t : List T.Ln) (w : World) (hA : Seen eL w A t) (hl : t.length ≤ 1073741824) (hR : T.RightT t) :
    Calls Try.prog 23 #[.slice A t.length c] w (OwnS eI w (T.leavesL t)) := by
  have HA := Lib.hid hA
  have HR := Lib.hid hR
  clear hA hR
  go_enter Try.func23, Try.ntmps23
  go_wp2_with fail
  refine (right_is _ c t true _ HA.out hl (yes_iff HR.out)).mono ?_
  rintro e w1 ⟨rfl, hb1⟩
  go_wp2
  go_loopg [3, 10] t.length (fun g v x wr => RelLv w t g v x wr)
  case atStart => exact ⟨0, Nat.zero_add _, rfl, Own.nil _ _, hb1⟩
  case round =>
    obtain ⟨k, hg, rfl, hown, hb⟩ := hrel
    have HG := Lib.hid hg
    have HO := Lib.hid hown
    have hfl := T.filter_len k (T.leafB t)
    have hsz := hb.size
    clear hg hown
    by_cases hlt : k < t.length
    · obtain ⟨e, he⟩ : ∃ e, T.endL t k = e := ⟨_, rfl⟩
      have hspec := T.end_spec t k hlt
      rw [he] at hspec
      by_cases hleaf : e = k + 1
      · have HN := Lib.hid (show T.leavesTo t (k + 1) = T.leavesTo t k ++ [k] by rw [T.leaves_next, if_pos (by unfold T.leafB; rw [he, hleaf]; simp)])
        have HE := Lib.hid he
        subst hleaf
        clear he hspec
        go_wp2_with fail
        refine (end_any _ c t k _ (HA.out.below hb) hlt hl).mono ?_
        rintro x w2 ⟨rfl, hb2⟩
        rw [HE.out]
        have hown2 := HO.out.keep hb2
        have hs2 := hb2.size
        go_wp2_with (at_builtin; refine wpList_appG eI _ rfl (.tmp 19) (.tmp 21) rfl w.heap.size u3 (T.leavesTo t k) rfl hown2 k 1 _ rfl w2.heap.size rfl rfl (by unfold T.leavesTo; omega) (by omega) ?_; intro v2 w3 hown3 hb3)
        go_roundg (t.length - (k + 1))
        case rel => exact ⟨k + 1, by omega, by go_num, by rw [HN.out]; exact hown3, (hb.trans (hb2.mono hsz)).trans hb3⟩
        case measure => have := HG.out; omega
      · have HN := Lib.hid (show T.leavesTo t (k + 1) = T.leavesTo t k by rw [T.leaves_next, if_neg (by unfold T.leafB; rw [he]; simpa using hleaf), List.append_nil])
        have HE := Lib.hid he
        have be : ((e : Int) == (k : Int) + 1) = false := beq_eq_false_iff_ne.2 (by omega)
        clear he hspec hleaf
        go_wp2_with fail
        refine (end_any _ c t k _ (HA.out.below hb) hlt hl).mono ?_
        rintro x w2 ⟨rfl, hb2⟩
        rw [HE.out]
        go_wp2
        go_roundg (t.length - (k + 1))
        case rel => exact ⟨k + 1, by omega, by go_num, by rw [HN.out]; exact HO.out.keep hb2, hb.trans (hb2.mono hsz)⟩
        case measure => have := HG.out; omega
    · obtain rfl : k = t.length := by have := HG.out; omega
      go_wp2
      go_ret
      exact ⟨_, rfl, HO.out, hb⟩

set_option maxRecDepth 100000 in
set_option maxHeartbeats 2000000 in
theorem writeCommand_any (base b : Nat) (l : List UInt8) (v : ByteArray) (A : Option Addr) (c i : Nat) (t : List T.Ln) (p : T.Pth) (w : World) (h : HasB w base b l) (hv : v.size ≤ 10) (hA : ∀ w1, Below base w w1 → Seen eL w1 A t) (hi : i < t.length) (hR : T.RightT t) (hp : T.pathL t i = p) (hlen : l.length ≤ 1099511627776) :
    Calls Try.prog 30 #[.pointer (some ⟨b, 0, none⟩), .string v, .slice A t.length c, .int .i64 i] w (WroteB base b w (l ++ S.cmdT v.data.toList p)) := by
  have hl : t.length ≤ 200 := hR.len
  have hp16 := (S.RightN.path_deep hR hi).2
  have hp40 := S.RightN.path_long hR i i (Nat.le_refl _) hi
  rw [hp] at hp16 hp40
  have HW40 := Lib.hid hp40
  have HH := Lib.hid h
  have HA := Lib.hid hA
  have HR := Lib.hid hR
  have HP := Lib.hid hp
  have HBL := Lib.hid h.base_le
  clear h hA hR hp hp40
  go_enter Try.func30, Try.ntmps30
  go_wp2_with fail
  refine (write_any base b l v _ HH.out (by omega)).mono ?_
  rintro e w1 ⟨rfl, hB1, hK1⟩
  have HB1 := Lib.hid hB1
  have HK1 := Lib.hid hK1
  clear hB1 hK1
  go_wp2_with fail
  refine (Path_row A c t i _ (HA.out _ HK1.out.1) (by omega) hi HR.out p HP.out).mono ?_
  rintro e w2 ⟨g, F, cap, rfl, hrow, hF, hg, hx⟩
  have hgb : g ≠ b := by have := HB1.out.lt; omega
  have HRow := Lib.hid hrow
  have HF := Lib.hid hF
  have HB2 := Lib.hid (HB1.out.keep hx)
  have HK2 := Lib.hid (HK1.out.trans (KeepB.of hx (by have := HBL.out; have := HB1.out.lt; omega)))
  clear hrow hF hx HB1 HK1
  go_wp2
  go_loopg [25] p.length (fun gk x wr => ∃ k : Nat, Hid (k + gk = p.length) ∧ k ≤ p.length ∧ x = .int .i64 k ∧ Hid (HasB wr base b (l ++ v.data.toList ++ S.wordsT (p.take k))) ∧ Hid (KeepB base b w wr) ∧ Hid (wr.rowIs g 9 p.length (fun d => .string (sB (F d)))))
  case atStart => exact ⟨0, Nat.zero_add _, Nat.zero_le _, rfl, HB2.out.eq (by simp [S.wordsT]), HK2, HRow⟩
  case round =>
    obtain ⟨k, HG, hk, rfl, HBk, HKk, HRk⟩ := hrel
    have hls : v.data.toList.length = v.size := by simp
    have HLN := Lib.hid (show (l ++ v.data.toList ++ S.wordsT (p.take k)).length ≤ 1099511630400 by
      have h1 := S.wordsT_len (p.take k) fun x hx => HW40.out x (List.mem_of_mem_take hx)
      rw [List.length_take] at h1
      rw [List.length_append, List.length_append, hls]
      omega)
    clear hls
    by_cases hlt : k < p.length
    · have blt : decide ((k : Int) < (p.length : Int)) = true := decide_eq_true (by omega)
      have c1 := HRk.out.cell hlt
      obtain ⟨x, hx⟩ : ∃ x, F k = x := ⟨_, rfl⟩
      have hxp : x = p.getD k [] := by rw [← hx]; exact HF.out k hlt
      have hx40 : x.length ≤ 40 := by rw [hxp]; exact HW40.out _ (T.getD_mem p hlt)
      rw [hx] at c1
      have HN := Lib.hid (show S.wordsT (p.take (k + 1)) = S.wordsT (p.take k) ++ 32 :: W.quoteL x by rw [hxp, ← T.take_next p k hlt, S.wordsT_snoc])
      have hq := (W.quote_len x).2
      clear hx hxp
      go_wp2_with fail
      refine (quote_is x _ hx40).mono ?_
      rintro e w3 ⟨rfl, hx3⟩
      have HB3 := Lib.hid (HBk.out.keep hx3)
      have HK3 := Lib.hid (HKk.out.trans (KeepB.of hx3 (by have := HBL.out; have := HBk.out.lt; omega)))
      have HR3 := Lib.hid (HRk.out.of_block (hx3.block _ HRk.out.lt))
      clear hx3 c1
      go_wp2_with fail
      refine (write_any base b _ _ _ HB3.out ?_).mono ?_
      · have := HLN.out
        simp only [ByteArray.size_append]
        show _ + (1 + (W.quoteL x).toArray.size) ≤ _
        rw [List.size_toArray]
        omega
      · rintro e w4 ⟨rfl, hB4, hK4⟩
        have HB4 := Lib.hid hB4
        have HK4 := Lib.hid (HK3.out.trans hK4)
        have HR4 := Lib.hid (rowIs_keepB HR3.out hK4 hgb (by decide))
        clear hB4 hK4
        go_wp2
        have hgk := HG.out
        go_roundg (p.length - (k + 1))
        case rel => exact ⟨k + 1, (by show _ = _; omega), by omega, by go_num, HB4.out.eq (by rw [HN.out]; simp [ByteArray.data_append]), HK4, HR4⟩
        case measure => omega
    · have blt : decide ((k : Int) < (p.length : Int)) = false := decide_eq_false (by omega)
      have hko : k = p.length := by omega
      have HE := Lib.hid (show S.wordsT (p.take k) = S.wordsT p by rw [hko, List.take_length])
      go_wp2_with fail
      refine (write_any base b _ _ _ HBk.out (by have := HLN.out; show _ + 2 ≤ _; omega)).mono ?_
      rintro e w4 ⟨rfl, hB4, hK4⟩
      have HB4 := Lib.hid hB4
      have HK4 := Lib.hid (HKk.out.trans hK4)
      clear hB4 hK4
      go_wp2
      go_end0
      exact ⟨rfl, HB4.out.eq (by rw [HE.out]; unfold S.cmdT; simp), HK4.out⟩
end Go.Proofs.Ytdohnbdhloknnaa

namespace Go.Proofs.Ytdohnbdhloknnaa
open Go.RowKit
set_option linter.unusedVariables false

set_option maxRecDepth 100000 in
theorem linesText_no (A : Option Addr) (c : Nat) (t : List T.Ln) (w : World) (hA : Seen eL w A t) (hl : t.length ≤ 1073741824) (hR : ¬ T.RightT t) :
    Calls Try.prog 16 #[.slice A t.length c] w (WroteS w.heap.size w [] 1) := by
  have HA := Lib.hid hA
  have HR := Lib.hid hR
  clear hA hR
  go_enter Try.func16, Try.ntmps16
  go_wp2_with fail
  refine (right_is A c t false _ HA.out hl (no_iff HR.out)).mono ?_
  rintro e w1 ⟨rfl, hb1⟩
  go_wp2
  go_ret2
  exact ⟨rfl, hb1⟩

set_option maxRecDepth 100000 in
set_option maxHeartbeats 4000000 in
theorem linesText_yes (A : Option Addr) (c : Nat) (t : List T.Ln) (w : World) (hA : Seen eL w A t) (hR : T.RightT t) :
    Calls Try.prog 16 #[.slice A t.length c] w (WroteS w.heap.size w (S.cmdsT t) 0) := by
  have hl : t.length ≤ 200 := hR.len
  obtain ⟨K, hK⟩ : ∃ K, T.leavesL t = K := ⟨_, rfl⟩
  have hKl : K.length ≤ 200 := by rw [← hK]; have := T.filter_len t.length (T.leafB t); unfold T.leavesL; omega
  have hKm : ∀ i ∈ K, i < t.length := fun i hi => S.leaf_lt (by rw [hK]; exact hi)
  have HSL := Lib.hid (S.sets_len hR K hKm)
  have HML := Lib.hid (S.marks_len hR)
  have HKM := Lib.hid hKm
  have HK := Lib.hid hK
  have HA := Lib.hid hA
  have HR := Lib.hid hR
  clear hA hR hK hKm
  go_enter Try.func16, Try.ntmps16
  go_wp2_with fail
  refine (right_is A c t true _ HA.out (by omega) (yes_iff HR.out)).mono ?_
  rintro e w1 ⟨rfl, hb1⟩
  have HA1 := Lib.hid (HA.out.below hb1)
  have HB1 := Lib.hid hb1
  clear hb1
  have HB := Lib.hid (HasB.new w1)
  have HW1 := Lib.hid (up w1 (.cells #[.pointer none, .slice none 0 0] 61))
  go_wp2_with fail
  refine (leaves_own A c t _ (HA1.out.below HW1.out) (by omega) HR.out).mono ?_
  rintro e w2 ⟨vK, rfl, hown, hx⟩
  rw [HK.out] at hown
  have HO2 := Lib.hid (hown.base (show w1.heap.size + 1 ≤ _ by simp))
  have HB2 := Lib.hid (HB.out.keep hx)
  have HW2 := Lib.hid (bthen HW1.out hx)
  clear hown hx HB
  obtain ⟨BK, cK, e, hcK, _⟩ := HO2.out.seen
  subst e
  go_wp2
  go_loopg [15] K.length (fun gk x wr => ∃ k : Nat, Hid (k + gk = K.length) ∧ k ≤ K.length ∧ x = .int .i64 k ∧ Hid (HasB wr w1.heap.size w1.heap.size (S.setsT t (K.take k))) ∧ Hid (Own eI wr (w1.heap.size + 1) (.slice BK K.length cK) K) ∧ Below w1.heap.size w1 wr)
  case atStart => exact ⟨0, Nat.zero_add _, Nat.zero_le _, rfl, HB2, HO2, HW2.out⟩
  case round =>
    obtain ⟨k, HG, hk, rfl, HBk, HOk, hb⟩ := hrel
    by_cases hlt : k < K.length
    · have blt : decide ((k : Int) < (K.length : Int)) = true := decide_eq_true (by omega)
      obtain ⟨g, e, _, hgl, hhK⟩ := HOk.out.block (by omega)
      subst e
      have k0 := hhK.num hlt
      rw [Nat.zero_add] at k0
      obtain ⟨i, hi⟩ : ∃ i, K[k] = i := ⟨_, rfl⟩
      have hit : i < t.length := by rw [← hi]; exact HKM.out _ (List.getElem_mem hlt)
      rw [hi] at k0
      have HN := Lib.hid (show S.setsT t (K.take (k + 1)) = S.setsT t (K.take k) ++ S.cmdT S.setW (T.pathL t i) by rw [List.take_succ_eq_append_getElem hlt, S.setsT_snoc, hi])
      have hlen : (S.setsT t (K.take k)).length ≤ 3000 * k := by
        have := S.sets_len HR.out (K.take k) fun j hj => HKM.out j (List.mem_of_mem_take hj)
        rw [List.length_take] at this
        omega
      have HLN := Lib.hid (show (S.setsT t (K.take k)).length ≤ 1099511627776 by omega)
      have HBB := Lib.hid hb
      clear hi hhK hlen hb
      go_wp2_with fail
      refine (writeCommand_any w1.heap.size w1.heap.size (S.setsT t (K.take k)) ⟨#[115, 101, 116]⟩ A c i t _ _ HBk.out (by decide) (fun w9 h9 => HA1.out.below (HBB.out.trans h9)) hit HR.out rfl HLN.out).mono ?_
      rintro e w3 ⟨rfl, hB3, hK3⟩
      have HB3 := Lib.hid hB3
      have HO3 := Lib.hid (HOk.out.keepB hK3 (Nat.lt_succ_self _) (by decide))
      have hb3 := HBB.out.trans hK3.1
      clear hB3 hK3 k0
      go_wp2
      have hgk := HG.out
      go_roundg (K.length - (k + 1))
      case rel => exact ⟨k + 1, (by show _ = _; omega), by omega, by go_num, HB3.out.eq (by rw [HN.out]; rfl), HO3, hb3⟩
      case measure => omega
    · have blt : decide ((k : Int) < (K.length : Int)) = false := decide_eq_false (by omega)
      have hko : k = K.length := by omega
      have HB3 := Lib.hid (show HasB wr w1.heap.size w1.heap.size (S.setsT t K) by have := HBk.out; rwa [hko, List.take_length] at this)
      have HBB := Lib.hid hb
      clear HBk HOk HG hko hb HO2 HB2
      go_wp2
      go_loopg [25] t.length (fun gk x wq => ∃ j : Nat, Hid (j + gk = t.length) ∧ j ≤ t.length ∧ x = .int .i64 j ∧ Hid (HasB wq w1.heap.size w1.heap.size (S.setsT t K ++ S.marksT t j)) ∧ Below w1.heap.size w1 wq)
      case atStart => exact ⟨0, Nat.zero_add _, Nat.zero_le _, rfl, HB3.out.eq (List.append_nil _).symm, HBB.out⟩
      case round =>
        obtain ⟨j, HG, hj, rfl, HBj, hb⟩ := hrel
        by_cases hlt : j < t.length
        · have blt : decide ((j : Int) < (t.length : Int)) = true := decide_eq_true (by omega)
          obtain ⟨tb, to, rfl, hbw, hL⟩ := HA1.out.lines (by omega)
          obtain ⟨c0, c1, c2⟩ := (hL.below hb hbw).line hlt
          obtain ⟨d, hd⟩ : ∃ d, T.dp t j = d := ⟨_, rfl⟩
          obtain ⟨x, hx⟩ : ∃ x, T.wd t j = x := ⟨_, rfl⟩
          obtain ⟨m, hm⟩ : ∃ m, (T.at_ t j).mark = m := ⟨_, rfl⟩
          have hm03 := HR.out.mark j hlt
          rw [hm] at hm03 c2
          rw [hd] at c0
          rw [hx] at c1
          have hll : (S.setsT t K ++ S.marksT t j).length ≤ 2000000 := by
            have h1 := HSL.out
            have h2 := HML.out j hj
            rw [List.length_append]
            omega
          have HLN := Lib.hid hll
          have HX := Lib.hid (LineAt.new wr ⟨d, x, m⟩)
          have HW := Lib.hid (up wr (lnO ⟨d, x, m⟩))
          have HBq := Lib.hid (HBj.out.keep HW.out)
          have HBB2 := Lib.hid (hb.trans (HW.out.mono hb.size))
          have HNE := Lib.hid (show wr.heap.size ≠ w1.heap.size by have := HBj.out.lt; omega)
          have HM := Lib.hid (show S.marksT t (j + 1) = S.marksT t j ++ ((if m % 2 = 1 then S.cmdT S.deW (T.pathL t j) else []) ++ (if 1 < m then S.cmdT S.prW (T.pathL t j) else [])) by rw [S.marksT_next]; unfold S.markC; rw [hm])
          have HCL := Lib.hid (show (S.cmdT (⟨#[100, 101, 97, 99, 116, 105, 118, 97, 116, 101]⟩ : ByteArray).data.toList (T.pathL t j)).length ≤ 3000 from S.cmdT_len S.deW (T.pathL t j) (by decide) (S.RightN.path_deep HR.out hlt).2 (S.RightN.path_long HR.out j j (Nat.le_refl _) hlt))
          have h4 : m = 0 ∨ m = 1 ∨ m = 2 ∨ m = 3 := by omega
          simp only [lnO] at HX HW HBq HBB2
          clear hd hx hm hm03 hL hll HBj hb
          rcases h4 with rfl | rfl | rfl | rfl
          · go_wp2
            have hgk := HG.out
            go_roundg (t.length - (j + 1))
            case rel => exact ⟨j + 1, (by show _ = _; omega), by omega, by go_num, HBq.out.eq (by rw [HM.out]; simp), HBB2.out⟩
            case measure => omega
          · go_wp2_with fail
            refine (writeCommand_any w1.heap.size w1.heap.size _ ⟨#[100, 101, 97, 99, 116, 105, 118, 97, 116, 101]⟩ _ c j t _ _ HBq.out (by decide) (fun w9 h9 => HA1.out.below (HBB2.out.trans h9)) hlt HR.out rfl (by have := HLN.out; omega)).mono ?_
            rintro e w3 ⟨rfl, hB3, hK3⟩
            have HX3 := Lib.hid (HX.out.keep hK3 HNE.out)
            have HB4 := Lib.hid hB3
            have HBB3 := Lib.hid (HBB2.out.trans hK3.1)
            clear hB3 hK3 c0 c1 c2
            obtain ⟨c0, c1, c2⟩ := HX3.out.cells
            simp only [] at c0 c1 c2
            go_wp2
            have hgk := HG.out
            go_roundg (t.length - (j + 1))
            case rel => exact ⟨j + 1, (by show _ = _; omega), by omega, by go_num, HB4.out.eq (by rw [HM.out, List.append_assoc]; simp [S.deW]), HBB3.out⟩
            case measure => omega
          · go_wp2_with fail
            refine (writeCommand_any w1.heap.size w1.heap.size _ ⟨#[112, 114, 111, 116, 101, 99, 116]⟩ _ c j t _ _ HBq.out (by decide) (fun w9 h9 => HA1.out.below (HBB2.out.trans h9)) hlt HR.out rfl (by have := HLN.out; omega)).mono ?_
            rintro e w3 ⟨rfl, hB3, hK3⟩
            have HB4 := Lib.hid hB3
            have HBB3 := Lib.hid (HBB2.out.trans hK3.1)
            clear hB3 hK3
            go_wp2
            have hgk := HG.out
            go_roundg (t.length - (j + 1))
            case rel => exact ⟨j + 1, (by show _ = _; omega), by omega, by go_num, HB4.out.eq (by rw [HM.out, List.append_assoc]; simp [S.prW]), HBB3.out⟩
            case measure => omega
          · go_wp2_with fail
            refine (writeCommand_any w1.heap.size w1.heap.size _ ⟨#[100, 101, 97, 99, 116, 105, 118, 97, 116, 101]⟩ _ c j t _ _ HBq.out (by decide) (fun w9 h9 => HA1.out.below (HBB2.out.trans h9)) hlt HR.out rfl (by have := HLN.out; omega)).mono ?_
            rintro e w3 ⟨rfl, hB3, hK3⟩
            have HX3 := Lib.hid (HX.out.keep hK3 HNE.out)
            have HB4 := Lib.hid hB3
            have HBB3 := Lib.hid (HBB2.out.trans hK3.1)
            clear hB3 hK3 c0 c1 c2
            obtain ⟨c0, c1, c2⟩ := HX3.out.cells
            simp only [] at c0 c1 c2
            go_wp2_with fail
            refine (writeCommand_any w1.heap.size w1.heap.size _ ⟨#[112, 114, 111, 116, 101, 99, 116]⟩ _ c j t _ _ HB4.out (by decide) (fun w9 h9 => HA1.out.below (HBB3.out.trans h9)) hlt HR.out rfl (by have h1 := HLN.out; have h2 := HCL.out; rw [List.length_append]; omega)).mono ?_
            rintro e w4 ⟨rfl, hB4, hK4⟩
            have HB5 := Lib.hid hB4
            have HBB4 := Lib.hid (HBB3.out.trans hK4.1)
            clear hB4 hK4
            go_wp2
            have hgk := HG.out
            go_roundg (t.length - (j + 1))
            case rel => exact ⟨j + 1, (by show _ = _; omega), by omega, by go_num, HB5.out.eq (by rw [HM.out]; simp [S.prW, S.deW]), HBB4.out⟩
            case measure => omega
        · have blt : decide ((j : Int) < (t.length : Int)) = false := decide_eq_false (by omega)
          have hjo : j = t.length := by omega
          have HB4 := Lib.hid (show HasB wr w1.heap.size w1.heap.size (S.cmdsT t) by have := HBj.out; rw [hjo] at this; unfold S.cmdsT; rw [HK.out]; exact this)
          have HBB4 := Lib.hid hb
          clear HBj HG hjo hb
          go_wp2_with fail
          refine (string_any _ _ _ _ HB4.out).mono ?_
          rintro e w4 ⟨rfl, hK⟩
          go_wp2
          go_ret2
          exact ⟨rfl, HB1.out.trans ((HBB4.out.trans hK.1).mono HB1.out.size)⟩
end Go.Proofs.Ytdohnbdhloknnaa
