/-
  Part 16 of what the proofs of this claim stand on. No conditions but those that each theorem states.
-/
import Derived.Test.YtfcikfohmehmkaaGreatDoorTabs15
import Derived.Test.YtfcikfohmehmkaaGreatDoorRows
import Derived.LaidLaws
import Derived.LaidHandle
import Derived.LaidMore
import Derived.OpenShut
import Derived.Stop.LaidErr
import Derived.Stop.Joined

namespace Go.Proofs.YtfcikfohmehmkaaGreatDoor
namespace C
open T (Pth)
def lackC (P : List Pth) (p : Pth) (l : List Wd) (k : Nat) : List (Pth × Int) := ((l.take k).filter fun w => !decide (p ++ [w] ∈ P)).map fun w => (p ++ [w], 1)
theorem lackC_next (P : List Pth) (p : Pth) {l : List Wd} {k : Nat} {x : Wd} {hz : Bool} (hx : l[k]? = some x) (hh : decide (p ++ [x] ∈ P) = hz) : lackC P p l (k + 1) = lackC P p l k ++ if hz = true then [] else [(p ++ [x], 1)] := by
 unfold lackC
 obtain ⟨h5, h6⟩ := List.getElem?_eq_some_iff.1 hx
 rw [List.take_succ_eq_append_getElem h5, h6, List.filter_append, List.map_append]
 congr 1
 subst hh
 cases h : decide (p ++ [x] ∈ P) <;> simp [List.filter, h]
theorem lackC_all (P : List Pth) (p : Pth) (l : List Wd) : lackC P p l l.length = (l.filter fun w => !decide (p ++ [w] ∈ P)).map fun w => (p ++ [w], 1) := by
 unfold lackC; rw [List.take_of_length_le (Nat.le_refl _)]
theorem lackC_few (P : List Pth) (p : Pth) (l : List Wd) (k : Nat) (h : l.length ≤ 17) : (lackC P p l k).length ≤ 17 := by
 unfold lackC
 rw [List.length_map]
 refine Nat.le_trans (List.length_filter_le _ _) ?_
 rw [List.length_take]; omega
def heldF (p : Pth) (e : Int) : List (Pth × Int) := if e ≠ 0 then [(p, e)] else []
def clashF (p : Pth) (c : Bool) : List (Pth × Int) := if c = true then [(p, 7)] else []
theorem faults_three13 (P : List Pth) {p : Pth} (hp : p ≠ []) (hl : liveP p = true) (hk : knownP p = 0) {e : Int} {l : List Wd} {c : Bool} (he : heldB p (kidsP P p).length = e) (hn : needsL p = l) (hc : clashB P p = c) : faultsP P p = heldF p e ++ lackC P p l l.length ++ clashF p c := by
 subst he; subst hn; subst hc
 rw [faults_code P hp hl hk, lackC_all]; rfl
end C
open Go.RowKit
open F
open T (Pth)
set_option linter.unusedVariables false
set_option maxRecDepth 100000 in
theorem clone13 (ad : Addr) (cap n : Nat) (t : Pth) (w : World) (hn : t.length = n) (hp : n ≤ 1073741824) (h : Seen eS w (some ad) t) :
  Calls Tryz.prog 89 #[.slice (some ad) n cap] w (OwnS eS w t) := by
 have HH := Lib.hid (h.below ((Below.refl _ _).alloc (Nat.le_refl _) (.cells #[] eS.T)))
 have HO := Lib.hid (Own.empty eS w)
 clear h
 have q := fun (w : World) (a : Option Addr) (n c : Nat) => Lib.run_eql_slice_nil (P := Tryz.prog) w 42 _ a n c 0 0 Tryz.underlying42
 have HN := Lib.hid hn
 clear hn
 go_enter Tryz.func89, Tryz.ntmps89
 go_wp2_with (first | (at_builtin; refine wpList_appSeen eS (w.alloc (.cells #[] eS.T)) rfl (.tmp 5) (.tmp 6) rfl w.heap.size _ [] rfl HO.out ad t n cap HN.out rfl HH.out (by simp; omega) (by simp) ?_; intro v3 w3 hown3 hb3))
 go_ret
 exact ⟨v3, rfl, hown3, ((Below.refl _ _).alloc (Nat.le_refl _) _).trans hb3⟩
theorem cloneQ13 (ad : Addr) (cap n : Nat) (t : Pth) (w : World) (hn : t.length = n) (hp : n ≤ 1073741824) (h : Seen eS w (some ad) t) :
  Calls Tryz.prog 89 #[.slice (some ad) n cap] w (fun e w' => ∃ A c, e = .returned (.slice A n c) ∧ Own eS w' w.heap.size (.slice A n c) t ∧ Below w.heap.size w w') := by
 refine (clone13 ad cap n t w hn hp h).mono ?_
 rintro e w' ⟨v, rfl, ho, hb⟩
 obtain ⟨A, c, e, hc, hs⟩ := ho.seen
 subst e
 rw [hn] at ho ⊢
 exact ⟨A, c, rfl, ho, hb⟩
theorem ptk13 {w : World} {base n c : Nat} {A : Option Addr} {p : Pth} (h : Own eS w base (.slice A n c) p) (hn : p.length = n) : PtK w base ⟨A, n, c⟩ p := by
 obtain ⟨A2, c2, e, hp⟩ := own_pt h
 injection e with e1 e2 e3
 subst e1; subst e3
 rw [hn] at hp
 exact hp
set_option maxRecDepth 100000 in
set_option maxHeartbeats 16000000 in
theorem faultsC (A B : Option Addr) (c d n m i : Nat) (t : List T.Ln) (p : Pth) (w : World) (hn : t.length = n) (hA : Seen eL w A t) (hl : n ≤ 200) (hR : T.RightT t) (hi : i < n) (hp : T.pathL t i = p) (hm : p.length = m) (hmd : m ≤ d) (hB : Seen eS w B p) (HT : RowsOk w) (hlv : C.liveP p = true) (hk : C.knownP p = 0) :
  Calls Tryz.prog 56 #[.slice A n c, .int .i64 (i : Int), .slice B m d] w (fun e w' => ∃ v, e = .returned v ∧ OwnF eFc w' w.heap.size w.heap.size v (C.faultsP (C.pths t) p) ∧ Below w.heap.size w w') := by
 have hit : i < t.length := by rw [hn]; exact hi
 have hm16 : m ≤ 16 := by
  have h1 := hR.path_len i i (Nat.le_refl _) hit
  have h2 := hR.deep i hit
  rw [hp, hm] at h1; omega
 have hne : p ≠ [] := by rw [← hp]; exact T.path_ne
 have hm0 : 0 < m := by rw [← hm]; exact List.length_pos_iff.2 hne
 have hsw : ShortW p := by rw [← hp]; exact short_path hR hit
 obtain ⟨b, o, rfl, hbw, hLp⟩ := hB (by omega)
 obtain ⟨kk, hkk⟩ : ∃ kk, (T.kidsL t (i : Int)).length = kk := ⟨_, rfl⟩
 obtain ⟨er, her⟩ : ∃ er, C.heldB p kk = er := ⟨_, rfl⟩
 obtain ⟨l, hl0⟩ : ∃ l, needsL p = l := ⟨_, rfl⟩
 obtain ⟨nl, hnl⟩ : ∃ nl, l.length = nl := ⟨_, rfl⟩
 obtain ⟨cb, hcb⟩ : ∃ cb, C.clashB (C.pths t) p = cb := ⟨_, rfl⟩
 have hnl17 : nl ≤ 17 := by rw [← hnl, ← hl0, ← C.need_all]; exact C.need_few p 17
 have HALL := Lib.hid (show C.faultsP (C.pths t) p = C.heldF p er ++ C.lackC (C.pths t) p l nl ++ C.clashF p cb by
  rw [← hnl]
  exact C.faults_three13 (C.pths t) hne hlv hk (by rw [← hp, C.kids_count hR hit, hkk, hp]; exact her) hl0 hcb)
 have HLF := Lib.hid (show ∀ k, (C.lackC (C.pths t) p l k).length ≤ 17 from fun k => C.lackC_few _ _ _ _ (by omega))
 have HA := Lib.hid hA
 have HN := Lib.hid hn
 have HRT := Lib.hid hR
 have HP := Lib.hid hp
 have HM := Lib.hid hm
 have HB := Lib.hid hB
 have HSW := Lib.hid hsw
 have HT := Lib.hid HT
 have HKK := Lib.hid hkk
 have HER := Lib.hid her
 have HLL := Lib.hid hl0
 have HNL := Lib.hid hnl
 have HCB := Lib.hid hcb
 clear hn hA hR hp hm hB hsw hLp hkk her hl0 hnl hcb hlv hk hne hit
 go_enter Tryz.func56, Tryz.ntmps56
 go_wp2_with fail
 refine (heldC A (some ⟨b, o, none⟩) c d n i m kk t p er _ HN.out HA.out hl HRT.out hi HM.out HB.out HSW.out (by omega) HT.out HKK.out HER.out).mono ?_
 rintro e w1 ⟨rfl, hb⟩
 by_cases h0 : er = 0
 ·have z0 : (er != 0) = false := by simp [h0]
  have HH0 := Lib.hid (show C.heldF p er = [] by unfold C.heldF; rw [if_neg (fun h => h h0)])
  have HO := Lib.hid (OwnF.nil eFc w1 w.heap.size w.heap.size)
  have HL0 := Lib.hid (show ([] : List Fl).length ≤ 1 by simp)
  clear h0
  go_wp2_with fail
  refine (needsC (some ⟨b, o, none⟩) d m p _ HM.out (HB.out.below hb) HSW.out (by omega) (HT.out.below hb)).mono ?_
  rintro e w3 ⟨v3, rfl, hown3, hx⟩
  rw [HLL.out] at hown3
  have HO3 := Lib.hid (HO.out.keep hx)
  obtain ⟨A3, c3, rfl, hpt3⟩ := own_pt hown3
  have HPL := Lib.hid hpt3.pt
  have HFL := Lib.hid (free13 (m := ⟨A3, l.length, c3⟩) (x := l) HO.out hpt3.from_)
  rw [HNL.out] at HPL HFL ⊢
  replace hb := bthen hb hx
  clear hx hown3 hpt3
  go_wp2
  go_loopg [7, 28] nl (fun g2 vo vi wr => ∃ k : Nat, Hid (k + g2 = nl) ∧ k ≤ nl ∧ vi = .int .i64 (k : Int) ∧ Hid (OwnF eFc wr w.heap.size w.heap.size vo (([] : List Fl) ++ C.lackC (C.pths t) p l k)) ∧ Hid (PtS wr ⟨A3, nl, c3⟩ l) ∧ Hid (FreeQ vo ⟨A3, nl, c3⟩ l) ∧ Below w.heap.size w wr)
  case atStart => exact ⟨0, Nat.zero_add _, Nat.zero_le _, rfl, (by show OwnF _ _ _ _ _ (([] : List Fl) ++ []); rw [List.append_nil]; exact HO3.out), HPL.out, HFL.out, hb⟩
  case round =>
   obtain ⟨k, HG2, hk, rfl, HOK, HPLK, HFLK, hbk⟩ := hrel
   have hgk2 := HG2.out
   have hszk := hbk.size
   by_cases hlt2 : k < nl
   ·have blt3 : decide ((k : Int) < (nl : Int)) = true := decide_eq_true (by omega)
    have blt4 : decide (k < nl) = true := decide_eq_true hlt2
    have hki : (k : Int) < (nl : Int) := by omega
    obtain ⟨x, hx0⟩ : ∃ x, l[k]? = some x := ⟨_, List.getElem?_eq_getElem (by rw [HNL.out]; exact hlt2)⟩
    obtain ⟨b5, o5, hA5, hw5, hL5⟩ := HPLK.out.seen (by rw [HNL.out]; omega)
    have hA5 : A3 = some ⟨b5, o5, none⟩ := hA5
    subst hA5
    have c5 : wr.cell? ⟨b5, o5 + k, none⟩ = some (.string (sB x)) := cellS hL5 hx0
    obtain ⟨hz, hhz⟩ : ∃ hz, decide (p ++ [x] ∈ C.pths t) = hz := ⟨_, rfl⟩
    have HHZ := Lib.hid hhz
    have HNX := Lib.hid (C.lackC_next (C.pths t) p hx0 hhz)
    have HPX := Lib.hid (show (p ++ [x]).length = m + 1 by rw [List.length_append, HM.out]; rfl)
    clear hL5 hx0 hhz hw5
    go_wp2_with fail
    refine (cloneQ13 ⟨b, o, none⟩ d m p _ HM.out (by omega) (HB.out.below hbk)).mono ?_
    rintro e w6 ⟨A6, c6, rfl, hown6, hx6⟩
    have HO6 := Lib.hid hown6
    have hsz6 := hx6.size
    have HLM := Lib.hid (show p.length + 1 ≤ 1099511627776 by rw [HM.out]; omega)
    clear hown6
    go_wp2_with (at_builtin; refine wpList_appG eS w6 rfl (.tmp 33) (.tmp 35) rfl wr.heap.size (.slice A6 m c6) p rfl HO6.out x 1 _ rfl w6.heap.size rfl rfl HLM.out hsz6 ?_; intro v7 w7 hown7 hx7)
    have hx67 := hx6.trans hx7
    obtain ⟨A7, c7, rfl, hpt7⟩ := own_pt hown7
    rw [HPX.out] at hpt7 ⊢
    have HPT7 := Lib.hid hpt7
    have HO7 := Lib.hid (HOK.out.keep hx67)
    have HPL7 := Lib.hid (HPLK.out.below hx67)
    have hb7 := bthen hbk hx67
    clear hown7 hpt7 hx6 hx7
    cases hz with
    | true =>
     have HE2 := Lib.hid (show C.lackC (C.pths t) p l (k + 1) = C.lackC (C.pths t) p l k by rw [HNX.out, if_pos rfl, List.append_nil])
     go_wp2_with fail
     refine (thereC A A7 c c7 n (m + 1) t (p ++ [x]) true _ HN.out HPX.out (HA.out.below hb7) HPT7.out.pt.seen (by omega) (by omega) HRT.out HHZ.out).mono ?_
     rintro e w8 ⟨rfl, hx⟩
     go_wp2
     go_roundg (nl - (k + 1))
     case rel => exact ⟨k + 1, (by show _ = _; omega), by omega, by go_num, (by rw [HE2.out]; exact HO7.out.keep hx), HPL7.out.below hx, HFLK.out, bthen hb7 hx⟩
     case measure => omega
    | false =>
     have HE2 := Lib.hid (show C.lackC (C.pths t) p l (k + 1) = C.lackC (C.pths t) p l k ++ [(p ++ [x], 1)] by rw [HNX.out, if_neg (by decide)])
     have HFX := Lib.hid (free13 (m := ⟨A7, m + 1, c7⟩) (x := p ++ [x]) HOK.out HPT7.out.from_)
     go_wp2_with fail
     refine (thereC A A7 c c7 n (m + 1) t (p ++ [x]) false _ HN.out HPX.out (HA.out.below hb7) HPT7.out.pt.seen (by omega) (by omega) HRT.out HHZ.out).mono ?_
     rintro e w8 ⟨rfl, hx⟩
     have HO8 := Lib.hid (HO7.out.keep hx)
     have HPL8 := Lib.hid (HPL7.out.below hx)
     have hb8 := bthen hb7 hx
     have HFK := Lib.hid (show FlK w8 w.heap.size ⟨⟨A7, m + 1, c7⟩, 1⟩ (p ++ [x], 1) from ⟨(HPT7.out.below hx).less hszk, rfl⟩)
     have HLN := Lib.hid (show (([] : List Fl) ++ C.lackC (C.pths t) p l k).length + 1 ≤ 1099511627776 by rw [List.length_append]; have := HLF.out k; have := HL0.out; omega)
     have hszx := hb8.size
     clear hx
     go_wp2_with (at_builtin; refine wpList_appF2 eFc w8 rfl (.tmp 41) (.tmp 44) rfl w.heap.size w.heap.size u7 (([] : List Fl) ++ C.lackC (C.pths t) p l k) rfl HO8.out (p ++ [x], 1) ⟨⟨A7, m + 1, c7⟩, 1⟩ HFK.out HFX.out 1 _ rfl w8.heap.size rfl rfl HLN.out hszx ?_; intro v9 w9 hown9 hb9 hst9)
     obtain ⟨s3, s4⟩ := hst9 _ _ HPL8.out HFLK.out
     go_roundg (nl - (k + 1))
     case rel => exact ⟨k + 1, (by show _ = _; omega), by omega, by go_num, (by rw [HE2.out, ← List.append_assoc]; exact hown9), s3, s4, hb8.trans hb9⟩
     case measure => omega
   ·have blt3 : decide ((k : Int) < (nl : Int)) = false := decide_eq_false (by omega)
    have blt4 : decide (k < nl) = false := decide_eq_false hlt2
    obtain rfl : k = nl := by omega
    go_wp2_with fail
    refine (clashesC A (some ⟨b, o, none⟩) c d n m i t p cb _ HN.out (HA.out.below hbk) hl HRT.out hi HP.out HM.out hmd (HB.out.below hbk) (HT.out.below hbk) HCB.out).mono ?_
    rintro e w6 ⟨rfl, hx⟩
    have HO6 := Lib.hid (HOK.out.keep hx)
    have hb6 := bthen hbk hx
    clear hx
    cases cb with
    | false =>
     have HE := Lib.hid (show C.faultsP (C.pths t) p = ([] : List Fl) ++ C.lackC (C.pths t) p l k by rw [HALL.out, HH0.out]; show _ ++ [] = _; rw [List.append_nil])
     go_wp2
     go_ret
     exact ⟨_, rfl, (by rw [HE.out]; exact HO6.out), hb6⟩
    | true =>
     have HE := Lib.hid (show C.faultsP (C.pths t) p = (([] : List Fl) ++ C.lackC (C.pths t) p l k) ++ [(p, 7)] by rw [HALL.out, HH0.out]; rfl)
     go_wp2_with fail
     refine (cloneQ13 ⟨b, o, none⟩ d m p _ HM.out (by omega) (HB.out.below hb6)).mono ?_
     rintro e w7 ⟨A7, c7, rfl, hown7, hx⟩
     have HO7 := Lib.hid (HO6.out.keep hx)
     have hb7 := bthen hb6 hx
     have hpt7 := ptk13 hown7 HM.out
     have HFX := Lib.hid (free13 (m := ⟨A7, m, c7⟩) (x := p) HO6.out hpt7.from_)
     have HFK := Lib.hid (show FlK w7 w.heap.size ⟨⟨A7, m, c7⟩, 7⟩ (p, 7) from ⟨hpt7.less hb6.size, rfl⟩)
     have HLN := Lib.hid (show (([] : List Fl) ++ C.lackC (C.pths t) p l k).length + 1 ≤ 1099511627776 by rw [List.length_append]; have := HLF.out k; have := HL0.out; omega)
     have hszx := hb7.size
     clear hx hown7 hpt7
     go_wp2_with (at_builtin; refine wpList_appF eFc w7 rfl (.tmp 51) (.tmp 55) rfl w.heap.size w.heap.size u7 (([] : List Fl) ++ C.lackC (C.pths t) p l k) rfl HO7.out (p, 7) ⟨⟨A7, m, c7⟩, 7⟩ HFK.out HFX.out 1 _ rfl w7.heap.size rfl rfl HLN.out hszx ?_; intro v9 w9 hown9 hb9)
     go_ret
     exact ⟨_, rfl, (by rw [HE.out]; exact hown9), hb7.trans hb9⟩
 ·have z0 : (er != 0) = true := by simp [h0]
  have HH0 := Lib.hid (show C.heldF p er = [(p, er)] by unfold C.heldF; rw [if_pos h0])
  have HL0 := Lib.hid (show ([(p, er)] : List Fl).length ≤ 1 by simp)
  clear h0
  go_wp2_with fail
  refine (cloneQ13 ⟨b, o, none⟩ d m p _ HM.out (by omega) (HB.out.below hb)).mono ?_
  rintro e w2 ⟨A2, c2, rfl, hown2, hx⟩
  have hpt2 := ptk13 hown2 HM.out
  have HO1 := Lib.hid (OwnF.nil eFc w2 w.heap.size w.heap.size)
  have HFX := Lib.hid (free13 (m := ⟨A2, m, c2⟩) (x := p) (OwnF.nil eFc w1 w.heap.size w.heap.size) hpt2.from_)
  have HFK := Lib.hid (show FlK w2 w.heap.size ⟨⟨A2, m, c2⟩, er⟩ (p, er) from ⟨hpt2.less hb.size, rfl⟩)
  replace hb := bthen hb hx
  have hszx := hb.size
  clear hx hown2 hpt2
  go_wp2_with (at_builtin; refine wpList_appF eFc w2 rfl (.tmp 18) (.tmp 23) rfl w.heap.size w.heap.size (.slice none 0 0) [] rfl HO1.out (p, er) ⟨⟨A2, m, c2⟩, er⟩ HFK.out HFX.out 1 _ rfl w2.heap.size rfl rfl (by simp) hszx ?_; intro v9 w9 hown9 hb9)
  replace hb := hb.trans hb9
  have HO := Lib.hid (show OwnF eFc w9 w.heap.size w.heap.size v9 [(p, er)] from hown9)
  clear hb9 hown9
  refine (needsC (some ⟨b, o, none⟩) d m p _ HM.out (HB.out.below hb) HSW.out (by omega) (HT.out.below hb)).mono ?_
  rintro e w3 ⟨v3, rfl, hown3, hx⟩
  rw [HLL.out] at hown3
  have HO3 := Lib.hid (HO.out.keep hx)
  obtain ⟨A3, c3, rfl, hpt3⟩ := own_pt hown3
  have HPL := Lib.hid hpt3.pt
  have HFL := Lib.hid (free13 (m := ⟨A3, l.length, c3⟩) (x := l) HO.out hpt3.from_)
  rw [HNL.out] at HPL HFL ⊢
  replace hb := bthen hb hx
  clear hx hown3 hpt3
  go_wp2
  go_loopg [7, 28] nl (fun g2 vo vi wr => ∃ k : Nat, Hid (k + g2 = nl) ∧ k ≤ nl ∧ vi = .int .i64 (k : Int) ∧ Hid (OwnF eFc wr w.heap.size w.heap.size vo ([(p, er)] ++ C.lackC (C.pths t) p l k)) ∧ Hid (PtS wr ⟨A3, nl, c3⟩ l) ∧ Hid (FreeQ vo ⟨A3, nl, c3⟩ l) ∧ Below w.heap.size w wr)
  case atStart => exact ⟨0, Nat.zero_add _, Nat.zero_le _, rfl, (by show OwnF _ _ _ _ _ ([(p, er)] ++ []); rw [List.append_nil]; exact HO3.out), HPL.out, HFL.out, hb⟩
  case round =>
   obtain ⟨k, HG2, hk, rfl, HOK, HPLK, HFLK, hbk⟩ := hrel
   have hgk2 := HG2.out
   have hszk := hbk.size
   by_cases hlt2 : k < nl
   ·have blt3 : decide ((k : Int) < (nl : Int)) = true := decide_eq_true (by omega)
    have blt4 : decide (k < nl) = true := decide_eq_true hlt2
    have hki : (k : Int) < (nl : Int) := by omega
    obtain ⟨x, hx0⟩ : ∃ x, l[k]? = some x := ⟨_, List.getElem?_eq_getElem (by rw [HNL.out]; exact hlt2)⟩
    obtain ⟨b5, o5, hA5, hw5, hL5⟩ := HPLK.out.seen (by rw [HNL.out]; omega)
    have hA5 : A3 = some ⟨b5, o5, none⟩ := hA5
    subst hA5
    have c5 : wr.cell? ⟨b5, o5 + k, none⟩ = some (.string (sB x)) := cellS hL5 hx0
    obtain ⟨hz, hhz⟩ : ∃ hz, decide (p ++ [x] ∈ C.pths t) = hz := ⟨_, rfl⟩
    have HHZ := Lib.hid hhz
    have HNX := Lib.hid (C.lackC_next (C.pths t) p hx0 hhz)
    have HPX := Lib.hid (show (p ++ [x]).length = m + 1 by rw [List.length_append, HM.out]; rfl)
    clear hL5 hx0 hhz hw5
    go_wp2_with fail
    refine (cloneQ13 ⟨b, o, none⟩ d m p _ HM.out (by omega) (HB.out.below hbk)).mono ?_
    rintro e w6 ⟨A6, c6, rfl, hown6, hx6⟩
    have HO6 := Lib.hid hown6
    have hsz6 := hx6.size
    have HLM := Lib.hid (show p.length + 1 ≤ 1099511627776 by rw [HM.out]; omega)
    clear hown6
    go_wp2_with (at_builtin; refine wpList_appG eS w6 rfl (.tmp 33) (.tmp 35) rfl wr.heap.size (.slice A6 m c6) p rfl HO6.out x 1 _ rfl w6.heap.size rfl rfl HLM.out hsz6 ?_; intro v7 w7 hown7 hx7)
    have hx67 := hx6.trans hx7
    obtain ⟨A7, c7, rfl, hpt7⟩ := own_pt hown7
    rw [HPX.out] at hpt7 ⊢
    have HPT7 := Lib.hid hpt7
    have HO7 := Lib.hid (HOK.out.keep hx67)
    have HPL7 := Lib.hid (HPLK.out.below hx67)
    have hb7 := bthen hbk hx67
    clear hown7 hpt7 hx6 hx7
    cases hz with
    | true =>
     have HE2 := Lib.hid (show C.lackC (C.pths t) p l (k + 1) = C.lackC (C.pths t) p l k by rw [HNX.out, if_pos rfl, List.append_nil])
     go_wp2_with fail
     refine (thereC A A7 c c7 n (m + 1) t (p ++ [x]) true _ HN.out HPX.out (HA.out.below hb7) HPT7.out.pt.seen (by omega) (by omega) HRT.out HHZ.out).mono ?_
     rintro e w8 ⟨rfl, hx⟩
     go_wp2
     go_roundg (nl - (k + 1))
     case rel => exact ⟨k + 1, (by show _ = _; omega), by omega, by go_num, (by rw [HE2.out]; exact HO7.out.keep hx), HPL7.out.below hx, HFLK.out, bthen hb7 hx⟩
     case measure => omega
    | false =>
     have HE2 := Lib.hid (show C.lackC (C.pths t) p l (k + 1) = C.lackC (C.pths t) p l k ++ [(p ++ [x], 1)] by rw [HNX.out, if_neg (by decide)])
     have HFX := Lib.hid (free13 (m := ⟨A7, m + 1, c7⟩) (x := p ++ [x]) HOK.out HPT7.out.from_)
     go_wp2_with fail
     refine (thereC A A7 c c7 n (m + 1) t (p ++ [x]) false _ HN.out HPX.out (HA.out.below hb7) HPT7.out.pt.seen (by omega) (by omega) HRT.out HHZ.out).mono ?_
     rintro e w8 ⟨rfl, hx⟩
     have HO8 := Lib.hid (HO7.out.keep hx)
     have HPL8 := Lib.hid (HPL7.out.below hx)
     have hb8 := bthen hb7 hx
     have HFK := Lib.hid (show FlK w8 w.heap.size ⟨⟨A7, m + 1, c7⟩, 1⟩ (p ++ [x], 1) from ⟨(HPT7.out.below hx).less hszk, rfl⟩)
     have HLN := Lib.hid (show ([(p, er)] ++ C.lackC (C.pths t) p l k).length + 1 ≤ 1099511627776 by rw [List.length_append]; have := HLF.out k; have := HL0.out; omega)
     have hszx := hb8.size
     clear hx
     go_wp2_with (at_builtin; refine wpList_appF2 eFc w8 rfl (.tmp 41) (.tmp 44) rfl w.heap.size w.heap.size u7 ([(p, er)] ++ C.lackC (C.pths t) p l k) rfl HO8.out (p ++ [x], 1) ⟨⟨A7, m + 1, c7⟩, 1⟩ HFK.out HFX.out 1 _ rfl w8.heap.size rfl rfl HLN.out hszx ?_; intro v9 w9 hown9 hb9 hst9)
     obtain ⟨s3, s4⟩ := hst9 _ _ HPL8.out HFLK.out
     go_roundg (nl - (k + 1))
     case rel => exact ⟨k + 1, (by show _ = _; omega), by omega, by go_num, (by rw [HE2.out, ← List.append_assoc]; exact hown9), s3, s4, hb8.trans hb9⟩
     case measure => omega
   ·have blt3 : decide ((k : Int) < (nl : Int)) = false := decide_eq_false (by omega)
    have blt4 : decide (k < nl) = false := decide_eq_false hlt2
    obtain rfl : k = nl := by omega
    go_wp2_with fail
    refine (clashesC A (some ⟨b, o, none⟩) c d n m i t p cb _ HN.out (HA.out.below hbk) hl HRT.out hi HP.out HM.out hmd (HB.out.below hbk) (HT.out.below hbk) HCB.out).mono ?_
    rintro e w6 ⟨rfl, hx⟩
    have HO6 := Lib.hid (HOK.out.keep hx)
    have hb6 := bthen hbk hx
    clear hx
    cases cb with
    | false =>
     have HE := Lib.hid (show C.faultsP (C.pths t) p = [(p, er)] ++ C.lackC (C.pths t) p l k by rw [HALL.out, HH0.out]; show _ ++ [] = _; rw [List.append_nil])
     go_wp2
     go_ret
     exact ⟨_, rfl, (by rw [HE.out]; exact HO6.out), hb6⟩
    | true =>
     have HE := Lib.hid (show C.faultsP (C.pths t) p = ([(p, er)] ++ C.lackC (C.pths t) p l k) ++ [(p, 7)] by rw [HALL.out, HH0.out]; rfl)
     go_wp2_with fail
     refine (cloneQ13 ⟨b, o, none⟩ d m p _ HM.out (by omega) (HB.out.below hb6)).mono ?_
     rintro e w7 ⟨A7, c7, rfl, hown7, hx⟩
     have HO7 := Lib.hid (HO6.out.keep hx)
     have hb7 := bthen hb6 hx
     have hpt7 := ptk13 hown7 HM.out
     have HFX := Lib.hid (free13 (m := ⟨A7, m, c7⟩) (x := p) HO6.out hpt7.from_)
     have HFK := Lib.hid (show FlK w7 w.heap.size ⟨⟨A7, m, c7⟩, 7⟩ (p, 7) from ⟨hpt7.less hb6.size, rfl⟩)
     have HLN := Lib.hid (show ([(p, er)] ++ C.lackC (C.pths t) p l k).length + 1 ≤ 1099511627776 by rw [List.length_append]; have := HLF.out k; have := HL0.out; omega)
     have hszx := hb7.size
     clear hx hown7 hpt7
     go_wp2_with (at_builtin; refine wpList_appF eFc w7 rfl (.tmp 51) (.tmp 55) rfl w.heap.size w.heap.size u7 ([(p, er)] ++ C.lackC (C.pths t) p l k) rfl HO7.out (p, 7) ⟨⟨A7, m, c7⟩, 7⟩ HFK.out HFX.out 1 _ rfl w7.heap.size rfl rfl HLN.out hszx ?_; intro v9 w9 hown9 hb9)
     go_ret
     exact ⟨_, rfl, (by rw [HE.out]; exact hown9), hb7.trans hb9⟩
end Go.Proofs.YtfcikfohmehmkaaGreatDoor
namespace Go.Proofs.YtfcikfohmehmkaaGreatDoor
open Go.RowKit
open F
open T (Pth)
set_option linter.unusedVariables false
theorem wpList_appFM (E : Elem FlM) {ops : Array Oper} {rest : List Oper} {o : Oper} {a : Act} {Q : Exit → Act → World → Prop} (w : World) (hgd : o.guard = none) (s x : Operand)
  (ho : o.op = .call { callee := .builtin .append, args := #[s, x], argTypes := #[E.st, E.st] })
  (base k k2 : Nat) (v : Value) (L : List Fl) (hs : a.eval s = v) (hown : OwnF E w base k v L) (v2 : Value) (L2 : List Fl) (hx : a.eval x = v2) (h2 : ManyF E w k2 v2 L2) (hk : k ≤ k2) (hfree : ∀ b, v.ownBlock = some b → b < k2)
  (hlen : L.length + L2.length ≤ 1099511627776) (hb : base ≤ w.heap.size)
  (h : ∀ v' w', OwnF E w' base k v' (L ++ L2) → Below base w w' → wpList Tryz.prog ops Q rest (a.put o.dst v') w') : wpList Tryz.prog ops Q (o :: rest) a w := by
 obtain ⟨M, h1, h3, h4⟩ := hown
 obtain ⟨M2, g1, g3, g4⟩ := h2
 refine wpList_appM E w hgd s x ho base v M hs h3 v2 M2 hx g3 (by omega) hb fun v' w' hO hB hG => h v' w' ?_ hB
 have step : ∀ (m : FlM) (x : Fl), FlK w k m x → FreeQ v m.1 x.1 → FlK w' k m x ∧ FreeQ v' m.1 x.1 := by
  intro m x hx hf
  obtain ⟨q1, q2, q3⟩ := hG
  refine ⟨⟨⟨⟨hx.pt.pt.len, hx.pt.pt.cap, fun hp => ?_⟩, hx.pt.from_⟩, hx.num⟩, fun hp a ha e => ?_⟩
  ·obtain ⟨b, o, e, hb, hH⟩ := hx.pt.pt.seen hp
   have hne := hf hp _ e
   exact ⟨b, o, e, Nat.lt_of_lt_of_le hb q1, holds_of_block hH (q2 b hb hne)⟩
  ·obtain ⟨b, o, e2, hb, _⟩ := hx.pt.pt.seen hp
   have hne := hf hp a ha
   have eb : a.block = b := by rw [e2] at ha; injection ha with ha; rw [← ha]
   rcases q3 _ e with h | h
   ·exact hne h
   ·omega
 refine ⟨M ++ M2, by rw [List.length_append, List.length_append, h1, g1], hO, fun i hi1 hi2 => ?_⟩
 by_cases hi : i < M.length
 ·rw [List.getElem_append_left hi, List.getElem_append_left (by omega)]
  exact step _ _ (h4 i hi (by omega)).1 (h4 i hi (by omega)).2
 ·rw [List.getElem_append_right (by omega), List.getElem_append_right (by omega)]
  have e : i - L.length = i - M.length := by omega
  have hq := g4 (i - M.length) (by rw [List.length_append] at hi1; omega) (by rw [List.length_append] at hi2; omega)
  have hi3 : i - M.length < M2.length := by rw [List.length_append] at hi1; omega
  have hq2 : FlK w k2 M2[i - M.length] (L2[i - L.length]'(by rw [List.length_append] at hi2; omega)) := by simp only [e]; exact hq
  refine step _ _ (hq2.less hk) (fun hp a ha e2 => ?_)
  have h5 := hq2.pt.from_ a ha
  have h6 := hfree _ e2
  omega
theorem rightC13 (A : Option Addr) (c n : Nat) (t : List T.Ln) (b : Bool) (w : World) (hn : t.length = n) (hA : Seen eL w A t) (hl : n ≤ 1073741824) (h : b = true ↔ T.RightT t) : Calls Tryz.prog 52 #[.slice A n c] w (BoolS w b) := by subst hn; exact right_is A c t b w hA hl h
theorem endC13 (A : Option Addr) (c n : Nat) (t : List T.Ln) (i : Nat) (w : World) (hn : t.length = n) (hA : Seen eL w A t) (hl : n ≤ 1073741824) (hi : i < n) (hR : T.RightT t) :
  Calls Tryz.prog 55 #[.slice A n c, .int .i64 (i : Int)] w (IntS w (T.endL t i : Nat)) := by subst hn; exact End_yes A c t i w hA hl hi hR
set_option maxRecDepth 100000 in
set_option maxHeartbeats 8000000 in
theorem checkC (A : Option Addr) (c n m : Nat) (t : List T.Ln) (L : List Fl) (er : Int) (w : World) (HTA : LArgS w A c n t) (HCI : CheckIs t L er) (hLm : L.length = m) (HT : RowsOk w) :
  Calls Tryz.prog 26 #[.slice A n c] w (fun e w' => ∃ B d, e = .returned (.tuple #[.slice B m d, .int .i64 er]) ∧ (ManyF eFc w' w.heap.size (.slice B m d) L ∧ ∀ a, B = some a → w.heap.size ≤ a.block) ∧ Below w.heap.size w w') := by
 have HN := Lib.hid HTA.len
 have HA := Lib.hid HTA.seen
 have hl := HTA.most
 have hl30 : n ≤ 1073741824 := by omega
 have HTB := Lib.hid HT
 clear HTA HT
 rcases HCI with ⟨hR, hL, rfl⟩ | ⟨hR, hL, rfl⟩
 ·have HRT := Lib.hid hR
  have HFEW := Lib.hid (show ∀ i, i ≤ n → (C.checkTo t i).length ≤ 600 by intro i hi; have := C.check_few t i (by have := HN.out; omega); omega)
  have HLL := Lib.hid hL
  have HLM := Lib.hid hLm
  clear hR hL hLm
  go_enter Tryz.func26, Tryz.ntmps26
  go_wp2_with fail
  refine (rightC13 A c n t true _ HN.out HA.out hl30 ⟨fun _ => HRT.out, fun _ => rfl⟩).mono ?_
  rintro e w1 ⟨rfl, hb1⟩
  go_wp2
  go_loopg [4, 5] n (fun gk vo vi wr => ∃ i : Nat, Hid (i + gk = n) ∧ i ≤ n ∧ vi = .int .i64 (i : Int) ∧ Hid (OwnF eFc wr w.heap.size w.heap.size vo (C.checkTo t i)) ∧ Hid (C.Going t i) ∧ Below w.heap.size w wr)
  case atStart => exact ⟨0, Nat.zero_add _, Nat.zero_le _, rfl, OwnF.nil _ _ _ _, C.Going.start t, hb1⟩
  case round =>
   obtain ⟨i, HG, hi, rfl, HO, HGO, hb⟩ := hrel
   have hgk := HG.out
   by_cases hlt : i < n
   ·have blt : decide ((i : Int) < (n : Int)) = true := decide_eq_true (by omega)
    have blt2 : decide (i < n) = true := decide_eq_true hlt
    have hit : i < t.length := by rw [HN.out]; exact hlt
    have HIT := Lib.hid hit
    obtain ⟨p, hp⟩ : ∃ p, T.pathL t i = p := ⟨_, rfl⟩
    obtain ⟨np, hnp⟩ : ∃ np, p.length = np := ⟨_, rfl⟩
    have hne : p ≠ [] := by rw [← hp]; exact T.path_ne
    have HSW := Lib.hid (show ShortW p by rw [← hp]; exact short_path HRT.out hit)
    have hnp16 : np ≤ 16 := by
     have h1 := HRT.out.path_len i i (Nat.le_refl _) hit
     have h2 := HRT.out.deep i hit
     rw [hp, hnp] at h1; omega
    have hnp0 : 0 < np := by rw [← hnp]; exact List.length_pos_iff.2 hne
    have HLV := Lib.hid (show C.liveP p = true by rw [← hp]; exact C.Going.live HRT.out hit HGO.out)
    obtain ⟨ke, hke⟩ : ∃ ke, C.knownP p = ke := ⟨_, rfl⟩
    have HUN := Lib.hid (show C.unsaidB p = ke by rw [C.unsaid_known hne HLV.out, hke])
    have HKE := Lib.hid hke
    have HP := Lib.hid hp
    have HNP := Lib.hid hnp
    have hwr := hb.size
    clear hp hnp hne hke hit
    go_wp2_with fail
    refine (pathC13 A c n np i t p _ HN.out HNP.out (HA.out.below hb) hl30 hlt HRT.out HP.out).mono ?_
    rintro e w2 ⟨B, d, rfl, hpt, hx⟩
    have HFR := Lib.hid (free13 (m := ⟨B, np, d⟩) (x := p) HO.out hpt.from_)
    have HPT := Lib.hid hpt
    have HO2 := Lib.hid (HO.out.keep hx)
    have hb2 := bthen hb hx
    clear hx hpt
    go_wp2_with fail
    refine (unsaidC B d np p ke _ HNP.out HPT.out.pt.cap HPT.out.pt.seen HSW.out hnp0 (by omega) (HTB.out.below hb2) HUN.out).mono ?_
    rintro e w3 ⟨rfl, hx⟩
    have HO3 := Lib.hid (HO2.out.keep hx)
    have hb3 := bthen hb2 hx
    have HPT3 := Lib.hid ((HPT.out.below hx).less hwr)
    have hsz3 := hb3.size
    clear hx hb2 HO2 HPT
    by_cases hk0 : ke = 0
    ·subst hk0
     have z0 : ((0 : Int) != 0) = false := rfl
     have HGN := Lib.hid (C.Going.next HGO.out (by rw [HP.out]; exact HKE.out))
     have HST := Lib.hid (show C.checkTo t (i + 1) = C.checkTo t i ++ C.faultsP (C.pths t) p from C.step_live HRT.out HIT.out HGO.out HP.out)
     go_wp2_with fail
     refine (faultsC A B c d n np i t p _ HN.out (HA.out.below hb3) hl HRT.out hlt HP.out HNP.out HPT3.out.pt.cap HPT3.out.pt.seen (HTB.out.below hb3) HLV.out HKE.out).mono ?_
     rintro e w4 ⟨v4, rfl, hown4, hx⟩
     have HO4 := Lib.hid (HO3.out.keep hx)
     have HM4 := Lib.hid hown4.flMany
     have HBK := Lib.hid (show ∀ b, u4.ownBlock = some b → b < w3.heap.size from fun b e => (HO3.out.flBlock b e).2)
     have HLN := Lib.hid (show (C.checkTo t i).length + (C.faultsP (C.pths t) p).length ≤ 1099511627776 by have := HFEW.out i (by omega); have := C.faults_few (C.pths t) p; omega)
     have hb4 := bthen hb3 hx
     have hszx := hb4.size
     clear hx hown4
     go_wp2_with (at_builtin; refine wpList_appFM eFc w4 rfl (.tmp 35) (.tmp 39) rfl w.heap.size w.heap.size w3.heap.size u4 (C.checkTo t i) rfl HO4.out v4 (C.faultsP (C.pths t) p) rfl HM4.out hsz3 HBK.out HLN.out hszx ?_; intro v5 w5 hown5 hb5)
     go_roundg (n - (i + 1))
     case rel => exact ⟨i + 1, (by show _ = _; omega), by omega, by go_num, (by rw [HST.out]; exact hown5), HGN.out, hb4.trans hb5⟩
     case measure => omega
    ·have z0 : (ke != 0) = true := by simp [hk0]
     obtain ⟨en, hen⟩ : ∃ en, T.endL t i = en := ⟨_, rfl⟩
     have HEN := Lib.hid hen
     have hsp := T.end_spec t i HIT.out
     have hen1 : i < en := by rw [← hen]; omega
     have hen2 : en ≤ n := by rw [← hen, ← HN.out]; exact hsp.2.1
     have HGN := Lib.hid (show C.Going t en by rw [← hen]; exact C.Going.skip HRT.out HIT.out HGO.out)
     have HE := Lib.hid (show C.checkTo t en = C.checkTo t i ++ [(p, ke)] by rw [← hen]; exact C.step_end HRT.out HIT.out HGO.out HP.out HKE.out hk0)
     have HLN := Lib.hid (show (C.checkTo t i).length + 1 ≤ 1099511627776 by have := HFEW.out i (by omega); omega)
     have HFX := Lib.hid (show FlK w3 w.heap.size ⟨⟨B, np, d⟩, ke⟩ (p, ke) from ⟨HPT3.out, rfl⟩)
     clear hsp hen hk0
     go_wp2_with (at_builtin; refine wpList_appF eFc w3 rfl (.tmp 26) (.tmp 30) rfl w.heap.size w.heap.size u4 (C.checkTo t i) rfl HO3.out (p, ke) ⟨⟨B, np, d⟩, ke⟩ HFX.out HFR.out 1 _ rfl w3.heap.size rfl rfl HLN.out hsz3 ?_; intro v5 w5 hown5 hb5)
     refine (endC13 A c n t i _ HN.out (HA.out.below (hb3.trans hb5)) hl30 hlt HRT.out).mono ?_
     rintro e w6 ⟨rfl, hx⟩
     rw [HEN.out]
     go_wp2
     go_roundg (n - en)
     case rel => exact ⟨en, (by show _ = _; omega), hen2, rfl, (by rw [HE.out]; exact hown5.keep hx), HGN.out, bthen (hb3.trans hb5) hx⟩
     case measure => omega
   ·have blt : decide ((i : Int) < (n : Int)) = false := decide_eq_false (by omega)
    have blt2 : decide (i < n) = false := decide_eq_false hlt
    obtain rfl : i = n := by omega
    have HE := Lib.hid (show C.checkTo t i = L by rw [HLL.out, ← HN.out]; exact C.check_full t)
    have HOL := Lib.hid (show OwnF eFc wr w.heap.size w.heap.size u4 L by rw [← HE.out]; exact HO.out)
    obtain ⟨B9, d9, e9, hc9, hs9⟩ := HOL.out.flMany.seenF
    subst e9
    rw [HLM.out] at hc9 HOL
    have HFRM := Lib.hid (show ∀ a, B9 = some a → w.heap.size ≤ a.block by
     intro a ha
     subst ha
     exact (HOL.out.flBlock a.block rfl).1)
    go_wp2
    rw [HLM.out]
    go_ret2
    exact ⟨B9, d9, rfl, ⟨HOL.out.flMany, HFRM.out⟩, hb⟩
 ·have HNO := Lib.hid hR
  subst hL
  obtain rfl : 0 = m := hLm
  clear hR
  go_enter Tryz.func26, Tryz.ntmps26
  go_wp2_with fail
  refine (rightC13 A c n t false _ HN.out HA.out hl30 ⟨fun h => (by cases h), fun h => absurd h HNO.out⟩).mono ?_
  rintro e w1 ⟨rfl, hb1⟩
  go_wp2
  go_ret2
  exact ⟨none, 0, rfl, ⟨ManyF.nil _ _ _, fun a h => by cases h⟩, hb1⟩
end Go.Proofs.YtfcikfohmehmkaaGreatDoor
namespace Go.Proofs.YtfcikfohmehmkaaGreatDoor
open Go.RowKit
set_option linter.unusedVariables false
set_option maxRecDepth 100000 in
set_option maxHeartbeats 8000000 in
theorem compileC (A : Option Addr) (c n m : Nat) (t : List T.Ln) (L : List H.En) (er : Int) (w : World) (HTA : LArgS w A c n t) (HCI : CompIs t L er) (hLm : L.length = m) (HT : RowsOk w) :
  Calls Tryz.prog 11 #[.slice A n c] w (fun e w' => ∃ B d, e = .returned (.tuple #[.slice B m d, .int .i64 er]) ∧ m ≤ d ∧ Seen eEc w' B L ∧ Below w.heap.size w w') := by
 rcases HCI with ⟨hR, hC, hL, rfl⟩ | ⟨hR, hC, hL, rfl⟩ | ⟨hR, hL, rfl⟩
 ·have hl := HTA.most
  have HTR := Lib.hid hR
  have HN := Lib.hid HTA.len
  have HA := Lib.hid HTA.seen
  have HCH := Lib.hid (checkC A c n 0 t [] 0 w HTA (.inl ⟨hR, hC.symm, rfl⟩) rfl HT)
  have HLM := Lib.hid hLm
  have HLT := Lib.hid hL
  have HCT := Lib.hid (H.code_tables hR hC)
  obtain ⟨N, hN⟩ : ∃ N, H.nodesL t = N := ⟨_, rfl⟩
  obtain ⟨k, hk⟩ : ∃ k, N.length = k := ⟨_, rfl⟩
  obtain ⟨L1, h1⟩ : ∃ l, H.floodsC N = l := ⟨_, rfl⟩
  obtain ⟨L2, h2⟩ : ∃ l, H.boundC t N = l := ⟨_, rfl⟩
  obtain ⟨L3, h3⟩ : ∃ l, H.routesC t N = l := ⟨_, rfl⟩
  obtain ⟨L4, h4⟩ : ∃ l, H.polsC t N = l := ⟨_, rfl⟩
  have ht200 : t.length ≤ 200 := by rw [HN.out]; exact hl
  have hk200 : k ≤ 200 := by rw [← hk, ← hN]; exact H.nodes_few hR ht200
  have HAL := Lib.hid (show H.setE (((L1 ++ L2) ++ L3) ++ L4) = L by rw [hL, ← H.code_tables hR hC, ← h1, ← h2, ← h3, ← h4, ← hN]; rfl)
  have HVN := Lib.hid (show ∀ x ∈ N, x.vn.length ≤ 200 by rw [← hN]; exact H.vn_few hR ht200)
  have HIP := Lib.hid (show ∀ x ∈ N, x.addr.length ≤ 40 from fun x hx => by
   rw [← hN] at hx
   obtain ⟨z, _, rfl⟩ := H.mem_nodes.1 hx
   exact H.word_long hR _ (by simp))
  have HL1 := Lib.hid (show L1.length ≤ 8000000 by rw [← h1]; exact H.floodsC_few (by omega) HVN.out)
  have HL2 := Lib.hid (show L2.length ≤ 80000 by rw [← h2]; exact H.boundC_few (by omega) (H.under_few hR ht200 _))
  have HL3 := Lib.hid (show L3.length ≤ 40000 by rw [← h3]; exact H.routesC_few (by omega) (H.under_few hR ht200 _))
  have HL4 := Lib.hid (show L4.length ≤ 40000 by rw [← h4]; exact H.polsC_few (by omega) (H.under_few hR ht200 _))
  obtain ⟨q9, hq9⟩ : ∃ q, (((L1 ++ L2) ++ L3) ++ L4).length = q := ⟨_, rfl⟩
  have HQ9 := Lib.hid hq9
  have hq30 : q9 ≤ 1073741824 := by
   rw [← hq9, List.length_append, List.length_append, List.length_append]
   have := HL1.out; have := HL2.out; have := HL3.out; have := HL4.out; omega
  clear hq9
  have HNN := Lib.hid hN
  have HK := Lib.hid hk
  have H1 := Lib.hid h1
  have H2 := Lib.hid h2
  have H3 := Lib.hid h3
  have H4 := Lib.hid h4
  clear HTA HT hR hC hL hLm hN hk h1 h2 h3 h4 ht200
  go_enter Tryz.func11, Tryz.ntmps11
  go_wp2_with fail
  refine HCH.out.mono ?_
  rintro e w1 ⟨B0, d0, rfl, _, hb1⟩
  have HB1 := Lib.hid hb1
  clear hb1
  go_wp2_with fail
  refine (nodesC A c n k t N _ HN.out (HA.out.below HB1.out) (by omega) HTR.out HNN.out HK.out).mono ?_
  rintro e w2 ⟨B, d, rfl, hsn, hx⟩
  have HB2 := Lib.hid (bthen HB1.out hx)
  have HSN := Lib.hid hsn
  clear hsn hx
  go_wp2_with fail
  refine (floodsC14 B d k N L1 _ HK.out HSN.out hk200 HVN.out H1.out).mono ?_
  rintro e w3 ⟨v3, rfl, ho3, hb3⟩
  have HO3 := Lib.hid ho3
  have HB3 := Lib.hid hb3
  clear ho3 hb3
  go_wp2_with fail
  refine (boundC14 A B c d n k t N L2 _ HN.out (HA.out.below (bthen HB2.out HB3.out)) hl HTR.out HK.out (HSN.out.below HB3.out) hk200 HVN.out H2.out).mono ?_
  rintro e w4 ⟨v4, rfl, ho4, hb4⟩
  obtain ⟨A4, c4, rfl, hc4, hs4⟩ := ho4.seen
  have HO4 := Lib.hid (HO3.out.keep hb4)
  have HB4 := Lib.hid (bthen HB3.out hb4)
  have hz4 := (bthen HB3.out hb4).size
  have HS4 := Lib.hid hs4
  have HNK4 := Lib.hid ho4.nilOk
  clear ho4 hb4 hs4
  go_wp2_with (first | (at_builtin; refine wpList_appL15 w4 rfl (.tmp 23) (.tmp 26) rfl w2.heap.size v3 L1 rfl HO4.out A4 L2.length c4 L2 rfl HNK4.out HS4.out rfl (by have := HL1.out; have := HL2.out; omega) hz4 ?_; intro v5 w5 ho5 hb5) | fail)
  have HO5 := Lib.hid ho5
  have HB5 := Lib.hid (HB4.out.trans hb5)
  clear ho5 hb5
  refine (routesC14 A B c d n k t N L3 _ HN.out (HA.out.below (bthen HB2.out HB5.out)) hl HTR.out HK.out (HSN.out.below HB5.out) hk200 HVN.out HIP.out H3.out).mono ?_
  rintro e w6 ⟨v6, rfl, ho6, hb6⟩
  obtain ⟨A6, c6, rfl, hc6, hs6⟩ := ho6.seen
  have HO6 := Lib.hid (HO5.out.keep hb6)
  have HB6 := Lib.hid (bthen HB5.out hb6)
  have hz6 := (bthen HB5.out hb6).size
  have HS6 := Lib.hid hs6
  have HNK6 := Lib.hid ho6.nilOk
  clear ho6 hb6 hs6
  go_wp2_with (first | (at_builtin; refine wpList_appL15 w6 rfl (.tmp 28) (.tmp 31) rfl w2.heap.size v5 (L1 ++ L2) rfl HO6.out A6 L3.length c6 L3 rfl HNK6.out HS6.out rfl (by rw [List.length_append]; have := HL1.out; have := HL2.out; have := HL3.out; omega) hz6 ?_; intro v7 w7 ho7 hb7) | fail)
  have HO7 := Lib.hid ho7
  have HB7 := Lib.hid (HB6.out.trans hb7)
  clear ho7 hb7
  refine (polsC14 A B c d n k t N L4 _ HN.out (HA.out.below (bthen HB2.out HB7.out)) hl HTR.out HK.out (HSN.out.below HB7.out) hk200 HVN.out H4.out).mono ?_
  rintro e w8 ⟨v8, rfl, ho8, hb8⟩
  obtain ⟨A8, c8, rfl, hc8, hs8⟩ := ho8.seen
  have HO8 := Lib.hid (HO7.out.keep hb8)
  have HB8 := Lib.hid (bthen HB7.out hb8)
  have hz8 := (bthen HB7.out hb8).size
  have HS8 := Lib.hid hs8
  have HNK8 := Lib.hid ho8.nilOk
  clear ho8 hb8 hs8
  go_wp2_with (first | (at_builtin; refine wpList_appL15 w8 rfl (.tmp 33) (.tmp 36) rfl w2.heap.size v7 ((L1 ++ L2) ++ L3) rfl HO8.out A8 L4.length c8 L4 rfl HNK8.out HS8.out rfl (by rw [List.length_append, List.length_append]; have := HL1.out; have := HL2.out; have := HL3.out; have := HL4.out; omega) hz8 ?_; intro v9 w9 ho9 hb9; obtain ⟨A9, c9, rfl, hc9, hs9⟩ := ho9.seenN HQ9.out) | fail)
  have HB9 := Lib.hid (bthen HB2.out (HB8.out.trans hb9))
  have HS9 := Lib.hid hs9
  clear ho9 hb9 hs9 hc9
  refine (setC A9 c9 q9 m _ w9 HQ9.out hq30 HS9.out (by rw [HAL.out]; exact HLM.out)).mono ?_
  rintro e w10 ⟨B10, d10, rfl, hd10, hs10, hb10⟩
  have HS10 := Lib.hid hs10
  have HB10 := Lib.hid (bthen HB9.out hb10)
  clear hs10 hb10
  go_wp2
  go_ret2
  exact ⟨B10, d10, rfl, hd10, by rw [← HAL.out]; exact HS10.out, HB10.out⟩
 ·obtain ⟨q, hq⟩ : ∃ q, (C.checkP (C.pths t)).length = q := ⟨_, rfl⟩
  have HCH := Lib.hid (checkC A c n q t (C.checkP (C.pths t)) 0 w HTA (.inl ⟨hR, rfl, rfl⟩) hq HT)
  have hq0 : 0 < q := by rw [← hq]; exact Nat.pos_of_ne_zero (fun e => hC (List.eq_nil_of_length_eq_zero e))
  have b1 : decide ((0 : Int) < (q : Int)) = true := decide_eq_true (by omega)
  have HE := Lib.hid hL
  obtain rfl : m = 0 := by rw [← hLm, hL]; rfl
  clear HTA HT hR hC hL hLm hq
  go_enter Tryz.func11, Tryz.ntmps11
  go_wp2_with fail
  refine HCH.out.mono ?_
  rintro e w1 ⟨B0, d0, rfl, _, hb1⟩
  have HB1 := Lib.hid hb1
  clear hb1
  go_wp2
  go_ret2
  exact ⟨none, 0, rfl, Nat.le_refl _, by rw [HE.out]; exact Seen.nil, HB1.out⟩
 ·have HCH := Lib.hid (checkC A c n 0 t [] 1 w HTA (.inr ⟨hR, rfl, rfl⟩) rfl HT)
  have HE := Lib.hid hL
  obtain rfl : m = 0 := by rw [← hLm, hL]; rfl
  clear HTA HT hR hL hLm
  go_enter Tryz.func11, Tryz.ntmps11
  go_wp2_with fail
  refine HCH.out.mono ?_
  rintro e w1 ⟨B0, d0, rfl, _, hb1⟩
  have HB1 := Lib.hid hb1
  clear hb1
  go_wp2
  go_ret2
  exact ⟨none, 0, rfl, Nat.le_refl _, by rw [HE.out]; exact Seen.nil, HB1.out⟩
theorem host_ok : HostOk where
 compareOf := fun x y r w _ _ hr => (compareC x y w).mono fun e w' ⟨he, hg⟩ => ⟨by rw [← hr]; exact he, hg.1⟩
 setOf := fun A c n m l w hn hl hc hf hA hm => setC A c n m l w hn (by omega) hA hm
 compileOf := fun A c n m t L er w h1 h2 h3 h4 => compileC A c n m t L er w h1 h2 h3 h4
theorem right13 (A : Option Addr) (c n : Nat) (t : List T.Ln) (b : Bool) (w : World) (hn : t.length = n) (hA : Seen eL w A t) (hl : n ≤ 1073741824) (h : b = true ↔ T.RightT t) : Calls Tryz.prog 12 #[.slice A n c] w (BoolS w b) := by subst hn; exact rightR_is A c t b w hA hl h
end Go.Proofs.YtfcikfohmehmkaaGreatDoor
namespace Go.Proofs.YtfcikfohmehmkaaGreatDoor
open Go.ChangeShapes Go.WideShapes Go.ChangeAt Go.RowKit
set_option linter.unusedVariables false
def laidL : List (String × DataW Unit) := [("ferryslip/schema.rows", Rows.laid_ferryslip_schema_rows)]
def rowDat (r : C.Wd × C.Wd × Bool × Bool) : DataW Unit := .agg [.lit (.string r.1), .lit (.string r.2.1), .lit (.bool r.2.2.1), .lit (.bool r.2.2.2)]
theorem laid_rows : (Rows.laid_ferryslip_schema_rows : DataW Unit) = .agg (rowsL.map rowDat) := by kernel_rfl
theorem trod_bool13 {H : Type} {enc : TypeId × Value → H} {P : Program} {w : World} {base : Nat} {spare : Nat → Bool} {held : Bool} {fuel : Nat} {t : TypeId} {cs : List Value} {x : DataW H × List MemPlace} (ht : P.underlying t = some .bool) (h : DataW.trod enc P w base spare held fuel t cs = some x) : ∃ b, cs = [.bool b] ∧ x = (.lit (.bool b), []) := by
 cases fuel with
 | zero => simp [DataW.trod] at h
 | succ n =>
  simp only [DataW.trod, ht] at h
  split at h <;> simp_all
theorem sB_of13 (s : ByteArray) : sB s.data.toList = s := ByteArray.ext (Array.ext' (by simp [sB]))
set_option maxRecDepth 100000 in
theorem row_cells {w : World} {base : Nat} {spare : Nat → Bool} {held : Bool} {fuel : Nat} {cs : List Value} {r : C.Wd × C.Wd × Bool × Bool} {pl : List MemPlace} (h : DataW.trod (fun _ => ()) Tryz.prog w base spare held fuel 126 cs = some (rowDat r, pl)) : cs = rowV r := by
 obtain ⟨xs, q, hq, hxy, hcl, hxl, hff⟩ := DataW.trod_struct Tryz.underlying126 h
 rw [show Tryz.prog.cellsOf 126 = 4 by kernel_rfl] at hcl
 have z1 : Tryz.prog.cellsOf 9 = 1 := by kernel_rfl
 have z2 : Tryz.prog.cellsOf 4 = 1 := by kernel_rfl
 match xs, hxl, cs, hcl with
 | [y0, y1, y2, y3], _, [v0, v1, v2, v3], _ =>
  have g0 := hff 0 _ rfl
  have g1 := hff 1 _ rfl
  have g2 := hff 2 _ rfl
  have g3 := hff 3 _ rfl
  simp [z1, z2] at g0 g1 g2 g3
  obtain ⟨s0, q0, e0, _⟩ := DataW.trod_string Tryz.underlying9 g0
  obtain ⟨s1, q1, e1, _⟩ := DataW.trod_string Tryz.underlying9 g1
  obtain ⟨c2, q2, e2⟩ := trod_bool13 Tryz.underlying4 g2
  obtain ⟨c3, q3, e3⟩ := trod_bool13 Tryz.underlying4 g3
  subst e0; subst e1; subst e2; subst e3
  simp at q0 q1 q2 q3
  subst q0; subst q1; subst q2; subst q3
  have e := congrArg Prod.fst hxy
  obtain ⟨r1, r2, r3, r4⟩ := r
  simp [rowDat] at e
  obtain ⟨rfl, rfl, rfl, rfl⟩ := e
  simp [rowV, sB_of13]
theorem chunks13 : ∀ (R : List (C.Wd × C.Wd × Bool × Bool)) (cs : List Value), cs.length = R.length * 4 → (∀ i (hi : i < R.length), (cs.drop (i * 4)).take 4 = rowV R[i]) → cs = R.flatMap rowV
 | [], cs, hl, _ => List.eq_nil_of_length_eq_zero (by simpa using hl)
 | r :: R, cs, hl, h => by
  have h0 := h 0 (by simp)
  simp at h0
  have hr := chunks13 R (cs.drop 4) (by rw [List.length_drop, hl, List.length_cons]; omega) (fun i hi => by
   have := h (i + 1) (by rw [List.length_cons]; omega)
   rw [List.drop_drop, show 4 + i * 4 = (i + 1) * 4 by omega]
   simpa using this)
  rw [List.flatMap_cons, ← h0, ← hr, List.take_append_drop]
set_option maxRecDepth 100000 in
theorem tab_of_laid {W : World} (h : laidMetH Tryz.prog laidL W) : RowsOk W := by
 rw [MakeChecks.laidMetH_plain _ _ _ (by kernel_rfl)] at h
 obtain ⟨ps, ⟨g', t', cs, fuel, p, q, hg', ht', hvar, hd, _, _⟩, _⟩ := h
 rw [show Tryz.prog.globalNamed "ferryslip/schema.rows" = some 1 by kernel_rfl] at hg'
 obtain rfl := Option.some.inj hg'
 rw [show (Tryz.prog.globals[1]?).map (·.type) = some 161 by kernel_rfl] at ht'
 obtain rfl := Option.some.inj ht'
 rw [laid_rows] at hd
 obtain ⟨xs, m, _, hx, hl, hxl, hi⟩ := DataW.trod_array Tryz.underlying161 hd
 rw [show Tryz.prog.cellsOf 161 = 68 by kernel_rfl] at hl
 rw [show Tryz.prog.cellsOf 126 = 4 by kernel_rfl] at hi
 have hm : xs.map (·.1) = rowsL.map rowDat := by
  have := congrArg Prod.fst hx
  simp at this
  exact this.symm
 have e := chunks13 rowsL cs.toList (by rw [hl]; rfl) (fun i hi2 => by
  have h17 : i < 17 := hi2
  have hxi : i < xs.length := by omega
  have h1 := hi i h17
  rw [List.getElem?_eq_getElem hxi] at h1
  have h2 : (xs[i]).1 = rowDat rowsL[i] := by
   have := congrArg (·[i]?) hm
   simp only [List.getElem?_map, List.getElem?_eq_getElem hxi, List.getElem?_eq_getElem hi2, Option.map_some] at this
   exact Option.some.inj this
  exact row_cells (pl := (xs[i]).2) (h1.trans (congrArg some (Prod.ext h2 rfl))))
 unfold RowsOk
 rw [hvar, ← e]
theorem door_met (os : Os) (args : Array Value) : laidMetH Tryz.prog laidL ((World.doorLaid Tryz.prog 400 os).forCall (fun _ _ => 0) ⟨#[], args, []⟩).memory :=
 laidMetH_of_parts3 (fuel := 8) (laidMet_of_run' 8 (by kernel_rfl) (by kernel_rfl)) (by kernel_rfl) (by kernel_rfl)
end Go.Proofs.YtfcikfohmehmkaaGreatDoor
