/-
  Contracts of the code's there, part, partLocked (layer 7). Condition: at most 2^30 lines and words.
-/
import Derived.Test.YtfjpeonfkhcpfaaEditM
namespace Go.Proofs.Ytfjpeonfkhcpfaa
open Go.RowKit
set_option linter.unusedVariables false

theorem Own.sight {α : Type} {E : Elem α} {w : World} {base n cap : Nat} {A : Option Addr} {l : List α} (h : Own E w base (.slice A n cap) l) : Seen E w A l := by
  obtain ⟨A2, c2, e, _, hs⟩ := h.seen
  injection e with e1 _ _
  rw [e1]; exact hs
set_option maxRecDepth 100000 in
set_option maxHeartbeats 1000000 in
theorem codeThere (A : Option Addr) (b o c d n q : Nat) (t : List T.Ln) (p : T.Pth) (wd : List UInt8) (r : Bool) (w : World) (hn : t.length = n) (hA : Seen eL w A t) (hl : n ≤ 1073741824) (hm : p.length = q + 1) (hb : b < w.heap.size) (hH : Holds eS w b o p) (hq : q ≤ 1073741823) (hR : T.RightT t) (h : r = true ↔ thereT t (p.dropLast ++ [wd])) :
    Calls Try.prog 39 #[.slice A n c, .slice (some ⟨b, o, none⟩) (q + 1) d, .string (sB wd)] w (BoolS w r) := by
  have hbe := beside_any b o d q p wd w hm hb hH hq
  have HA := Lib.hid hA
  have HN := Lib.hid hn
  have HR := Lib.hid hR
  have HL := Lib.hid (show (p.dropLast ++ [wd]).length = q + 1 by rw [List.length_append, List.length_dropLast, hm]; rfl)
  have HT := Lib.hid h
  clear hA hn hR hm hH h
  go_enter Try.func39, Try.ntmps39
  go_wp2_with fail
  refine hbe.mono ?_
  rintro e w1 ⟨g, cap, rfl, hown, hcap, hx⟩
  have hf := find_any A (some ⟨g, 0, none⟩) c cap t (p.dropLast ++ [wd]) w1 (HA.out.below hx) (Own.sight hown) (by rw [HN.out]; exact hl) (by rw [HL.out]; omega) HR.out
  rw [HN.out, HL.out] at hf
  clear hown hbe
  go_wp2_with fail
  refine hf.mono ?_
  rintro e w2 ⟨hcase, hx2⟩
  have HX := Lib.hid (bthen hx hx2)
  clear hx hx2 hf
  rcases hcase with ⟨i, hi, hpi, rfl⟩ | ⟨hno, rfl⟩
  · have HN2 := Lib.hid (HT.out.2 ⟨i, by have := HN.out; omega, hpi⟩)
    clear hpi hi
    go_wp2
    go_ret
    exact ⟨by rw [HN2.out]; rfl, HX.out⟩
  · have HN2 := Lib.hid (show r = false by
      cases r with
      | false => rfl
      | true =>
        obtain ⟨i, hi, e⟩ := HT.out.1 rfl
        exact absurd e (hno i (by have := HN.out; omega)))
    clear hno
    go_wp2
    go_ret
    exact ⟨by rw [HN2.out]; rfl, HX.out⟩
/-- The part of a line, as it stands. -/
def partL (t : List T.Ln) (a : Nat) : List T.Ln := (t.drop a).take (T.endL t a - a)
set_option maxRecDepth 100000 in
theorem codePart (b o c n a e0 : Nat) (t : List T.Ln) (w : World) (hn : t.length = n) (hb : b < w.heap.size) (hH : Holds eL w b o t) (hnc : n ≤ c) (hl : n ≤ 1073741824) (ha : a < n) (he : T.endL t a = e0) (hR : T.RightT t) :
    Calls Try.prog 44 #[.slice (some ⟨b, o, none⟩) n c, .int .i64 (a : Int)] w (fun e w' => e = .returned (.slice (some ⟨b, o + a * 3, none⟩) (e0 - a) (c - a)) ∧ Below w.heap.size w w') := by
  obtain ⟨g1, g2, _⟩ := T.end_spec t a (by omega)
  rw [he, hn] at g2
  rw [he] at g1
  have hend := End_is (some ⟨b, o, none⟩) c t a e0 w (hH.seen hb) (by rw [hn]; exact hl) (by rw [hn]; exact ha) hR he
  rw [hn] at hend
  have hac : ¬ (c = a) := by omega
  have hac2 : a ≤ c := by omega
  have hae : a ≤ e0 := by omega
  have hec : e0 ≤ c := by omega
  clear hH hR he hn
  go_enter Try.func44, Try.ntmps44
  go_wp2_with fail
  refine hend.mono ?_
  rintro e w1 ⟨rfl, hx⟩
  go_wp2
  go_ret
  exact ⟨rfl, hx⟩
set_option maxRecDepth 100000 in
set_option maxHeartbeats 1000000 in
theorem indexProt_any (A : Option Addr) (c n : Nat) (l : List T.Ln) (w : World) (hn : l.length = n) (hA : Seen eL w A l) (hl : n ≤ 1073741824) (hm : ∀ x ∈ l, x.mark = 0 ∨ x.mark = 1 ∨ x.mark = 2 ∨ x.mark = 3) :
    Calls Try.prog 62 #[.slice A n c, .func (.func 33) #[] #[]] w (fun e w' => ∃ i : Int, e = .returned (.int .i64 i) ∧ decide (0 ≤ i) = (l.any fun x => decide (1 < x.mark)) ∧ Below w.heap.size w w') := by
  have HA := Lib.hid hA
  have HM := Lib.hid hm
  have HN := Lib.hid hn
  clear hA hm hn
  go_enter Try.func62, Try.ntmps62
  go_wp2
  go_loopg [8] n (fun gk i wr => ∃ k : Nat, Hid (k + gk = n) ∧ k ≤ n ∧ i = .int .i64 k ∧ Hid (∀ j (hj : j < l.length), j < k → decide (1 < l[j].mark) = false) ∧ Below w.heap.size w wr)
  case atStart => exact ⟨0, Nat.zero_add _, Nat.zero_le _, rfl, (fun j h1 h2 => absurd h2 (Nat.not_lt_zero j)), Below.refl _ _⟩
  case round =>
    obtain ⟨k, HG, hk, rfl, HI, hb⟩ := hrel
    by_cases hlt : k < n
    · have blt : decide ((k : Int) < (n : Int)) = true := decide_eq_true (by omega)
      have blt2 : decide (k < n) = true := decide_eq_true hlt
      have hkl : k < l.length := by have := HN.out; omega
      obtain ⟨b1, o1, rfl, hw1, hL1⟩ := HA.out.lines (by omega)
      obtain ⟨c0, c1, c2⟩ := (hL1.below hb hw1).line hkl
      have hm4 := HM.out l[k] (List.getElem_mem hkl)
      have e1 : T.at_ l k = l[k] := by unfold T.at_ List.getD; rw [List.getElem?_eq_getElem hkl]; rfl
      obtain ⟨mk, hmk⟩ : ∃ mk, l[k].mark = mk := ⟨_, rfl⟩
      rw [e1, hmk] at c2
      rw [hmk] at hm4
      have HM4 := Lib.hid hm4
      have HMK := Lib.hid hmk
      have hki : (k : Int) < (n : Int) := by omega
      cases he : decide (1 < mk) with
      | true =>
        have HY := Lib.hid (show (l.any fun x => decide (1 < x.mark)) = true by rw [List.any_eq_true]; exact ⟨l[k], List.getElem_mem hkl, by rw [hmk]; exact he⟩)
        have HE := Lib.hid he
        clear hL1 hm4 hmk e1 he
        go_wp2_with fail
        refine (protected_any _ mk _ true wr HM4.out HE.out).mono ?_
        rintro e w2 ⟨rfl, hx⟩
        go_wp2
        go_ret
        exact ⟨k, rfl, by rw [HY.out]; simp, bthen hb hx⟩
      | false =>
        have HY := Lib.hid (show ∀ j (hj : j < l.length), j < k + 1 → decide (1 < l[j].mark) = false from fun j hj hjk => by
          rcases Nat.lt_or_ge j k with h1 | h1
          · exact HI.out j hj h1
          · obtain rfl : j = k := by omega
            rw [hmk]; exact he)
        have HE := Lib.hid he
        clear hL1 hm4 hmk e1 he
        go_wp2_with fail
        refine (protected_any _ mk _ false wr HM4.out HE.out).mono ?_
        rintro e w2 ⟨rfl, hx⟩
        have hbn := bthen hb hx
        go_wp2
        have hgk := HG.out
        go_roundg (n - (k + 1))
        case rel => exact ⟨k + 1, (by show _ = _; omega), by omega, by go_num, HY, hbn⟩
        case measure => omega
    · have blt : decide ((k : Int) < (n : Int)) = false := decide_eq_false (by omega)
      have blt2 : decide (k < n) = false := decide_eq_false hlt
      have HY := Lib.hid (show (l.any fun x => decide (1 < x.mark)) = false by
        rw [List.any_eq_false]
        intro x hx
        obtain ⟨j, hj, rfl⟩ := List.getElem_of_mem hx
        rw [HI.out j hj (by have := HN.out; omega)]; decide)
      go_wp2
      go_ret
      exact ⟨-1, rfl, by rw [HY.out]; rfl, hb⟩
set_option maxRecDepth 100000 in
theorem containsProt_any (A : Option Addr) (c n : Nat) (l : List T.Ln) (r : Bool) (w : World) (hn : l.length = n) (hA : Seen eL w A l) (hl : n ≤ 1073741824) (hm : ∀ x ∈ l, x.mark = 0 ∨ x.mark = 1 ∨ x.mark = 2 ∨ x.mark = 3) (hr : (l.any fun x => decide (1 < x.mark)) = r) :
    Calls Try.prog 52 #[.slice A n c, .func (.func 33) #[] #[]] w (BoolS w r) := by
  have hc := indexProt_any A c n l w hn hA hl hm
  rw [hr] at hc
  clear hA hm hn hr
  go_enter Try.func52, Try.ntmps52
  go_wp2_with fail
  refine hc.mono ?_
  rintro e w' ⟨i, rfl, hi, hx⟩
  have HI := Lib.hid hi
  clear hi hc
  go_wp2
  go_ret
  exact ⟨by rw [← HI.out]; rfl, hx⟩
theorem part_any {t : List T.Ln} {a : Nat} (ha : a < t.length) : ((partL t a).any fun x => decide (1 < x.mark)) = anyB t a (T.endL t a - a) := by
  obtain ⟨g1, g2, _⟩ := T.end_spec t a ha
  have hlen : (partL t a).length = T.endL t a - a := by unfold partL; rw [List.length_take, List.length_drop]; omega
  have hat : ∀ j (hj : j < (partL t a).length), (partL t a)[j] = T.at_ t (a + j) := by
    intro j hj
    have e : (partL t a)[j]? = some (T.at_ t (a + j)) := by
      unfold partL
      rw [List.getElem?_take_of_lt (by omega), List.getElem?_drop]
      unfold T.at_ List.getD
      rw [List.getElem?_eq_getElem (by omega)]; rfl
    exact Option.some.inj ((List.getElem?_eq_getElem hj).symm.trans e)
  cases e : anyB t a (T.endL t a - a) with
  | true =>
    unfold anyB at e
    rw [List.any_eq_true] at e ⊢
    obtain ⟨j, hj, h2⟩ := e
    have hj2 := List.mem_range.1 hj
    exact ⟨(partL t a)[j]'(by omega), List.getElem_mem _, by rw [hat]; exact h2⟩
  | false =>
    unfold anyB at e
    rw [List.any_eq_false] at e ⊢
    intro x hx
    obtain ⟨j, hj, rfl⟩ := List.getElem_of_mem hx
    rw [hat j hj]
    exact e j (List.mem_range.2 (by omega))
set_option maxRecDepth 100000 in
set_option maxHeartbeats 1000000 in
theorem codeShut (b o c bq oq d n m a : Nat) (t : List T.Ln) (p : T.Pth) (r : Bool) (w : World) (hn : t.length = n) (hm : p.length = m) (hb : b < w.heap.size) (hH : Holds eL w b o t) (hB : Seen eS w (some ⟨bq, oq, none⟩) p) (hnc : n ≤ c) (hl : n ≤ 1073741824) (hd : m ≤ d) (hp : m ≤ 1073741824) (ha : a < n) (hR : T.RightT t) (hr : shutL t p a = r) :
    Calls Try.prog 38 #[.slice (some ⟨b, o, none⟩) n c, .slice (some ⟨bq, oq, none⟩) m d, .int .i64 (a : Int)] w (BoolS w r) := by
  obtain ⟨e0, he⟩ : ∃ e, T.endL t a = e := ⟨_, rfl⟩
  obtain ⟨g1, g2, _⟩ := T.end_spec t a (by omega)
  rw [he, hn] at g2
  rw [he] at g1
  have hpa := part_any (t := t) (a := a) (by omega)
  rw [he] at hpa
  have hplen : (partL t a).length = e0 - a := by unfold partL; rw [he, List.length_take, List.length_drop]; omega
  obtain ⟨r1, hr1⟩ : ∃ r1, T.keptL t p m = r1 := ⟨_, rfl⟩
  obtain ⟨r2, hr2⟩ : ∃ r2, anyB t a (e0 - a) = r2 := ⟨_, rfl⟩
  have hrr : r = (r2 || r1) := by rw [← hr]; unfold shutL; rw [he, hr2, hm, hr1]
  have hmk : ∀ x ∈ partL t a, x.mark = 0 ∨ x.mark = 1 ∨ x.mark = 2 ∨ x.mark = 3 := by
    intro x hx
    have hx2 : x ∈ t := List.mem_of_mem_drop (List.mem_of_mem_take hx)
    obtain ⟨i, hi, rfl⟩ := List.getElem_of_mem hx2
    have := hR.mark i hi
    have e1 : T.at_ t i = t[i] := by unfold T.at_ List.getD; rw [List.getElem?_eq_getElem hi]; rfl
    rw [e1] at this
    omega
  have hlock := codeLocked (some ⟨b, o, none⟩) (some ⟨bq, oq, none⟩) c d n m t p r1 w hn hm (hH.seen hb) hB hl hd hp ⟨fun e => ⟨hR, by rw [hr1]; exact e⟩, fun e => by rw [← hr1]; exact e.2⟩
  have HH := Lib.hid hH
  have HN := Lib.hid hn
  have HE := Lib.hid he
  have HR := Lib.hid hR
  have HMK := Lib.hid hmk
  have HPL := Lib.hid hplen
  have HPA := Lib.hid (hpa.trans hr2)
  have HRR := Lib.hid hrr
  clear hH hn he hR hmk hplen hpa hr2 hr1 hrr hr hB hm
  cases r1 with
  | true =>
    go_enter Try.func38, Try.ntmps38
    go_wp2_with fail
    refine hlock.mono ?_
    rintro e w1 ⟨rfl, hx⟩
    go_wp2
    go_ret
    exact ⟨by rw [HRR.out, Bool.or_true]; rfl, hx⟩
  | false =>
    go_enter Try.func38, Try.ntmps38
    go_wp2_with fail
    refine hlock.mono ?_
    rintro e w1 ⟨rfl, hx⟩
    have HH1 := Lib.hid (HH.out.below hx hb)
    have hb1 : b < w1.heap.size := Nat.lt_of_lt_of_le hb hx.size
    clear hlock
    go_wp2_with fail
    refine (codePart b o c n a e0 t w1 HN.out hb1 HH1.out hnc hl ha HE.out HR.out).mono ?_
    rintro e w2 ⟨rfl, hx2⟩
    have hx12 := bthen hx hx2
    have hs := Holds.seen (((HH1.out.below hx2 hb1).drop a).take (e0 - a)) (Nat.lt_of_lt_of_le hb1 hx2.size)
    have hs2 : Seen eL w2 (some ⟨b, o + a * 3, none⟩) (partL t a) := by unfold partL; rw [HE.out]; exact hs
    have hcon := containsProt_any (some ⟨b, o + a * 3, none⟩) (c - a) (e0 - a) (partL t a) r2 w2 HPL.out hs2 (by omega) HMK.out HPA.out
    clear hs hs2 hx hx2
    go_wp2_with fail
    refine hcon.mono ?_
    rintro e w3 ⟨rfl, hx3⟩
    go_wp2
    go_ret
    exact ⟨by rw [HRR.out, Bool.or_false]; rfl, bthen hx12 hx3⟩
end Go.Proofs.Ytfjpeonfkhcpfaa
