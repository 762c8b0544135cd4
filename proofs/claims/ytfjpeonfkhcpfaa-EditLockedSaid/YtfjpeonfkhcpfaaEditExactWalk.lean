/-
  The walk of layer 7's statement EditExact, from what edit's functions do: it returns true whatever the lines and the act are. No conditions.
-/
import Derived.Test.YtfjpeonfkhcpfaaEditSetsWalk
namespace Go.Proofs.Ytfjpeonfkhcpfaa
open Go.RowKit
set_option linter.unusedVariables false

def actO (k : Int) (B : Option Addr) (n d : Nat) (bit : Int) (wd : List UInt8) : Obj := .cells #[.int .i64 k, .slice B n d, .int .i64 bit, .string (sB wd)] 25
/-- The block g holds an act. -/
def ActAt (w : World) (g : Nat) (k : Int) (B : Option Addr) (n d : Nat) (bit : Int) (wd : List UInt8) : Prop := w.heap[g]? = some (actO k B n d bit wd)
theorem ActAt.below {w w1 : World} {g : Nat} {k : Int} {B : Option Addr} {n d : Nat} {bit : Int} {wd : List UInt8} (h : ActAt w g k B n d bit wd) (hb : Below w.heap.size w w1) : ActAt w1 g k B n d bit wd :=
  (hb.block g (Array.getElem?_eq_some_iff.1 h).1).trans h
theorem ActAt.new (w : World) (k : Int) (B : Option Addr) (n d : Nat) (bit : Int) (wd : List UInt8) : ActAt (w.alloc (actO k B n d bit wd)) w.heap.size k B n d bit wd := by show (w.heap.push _)[w.heap.size]? = _; simp
theorem ActAt.cells {w : World} {g : Nat} {k : Int} {B : Option Addr} {n d : Nat} {bit : Int} {wd : List UInt8} (h : ActAt w g k B n d bit wd) : w.cell? ⟨g, 0, none⟩ = some (.int .i64 k) ∧ w.cell? ⟨g, 1, none⟩ = some (.slice B n d) ∧ w.cell? ⟨g, 2, none⟩ = some (.int .i64 bit) ∧ w.cell? ⟨g, 3, none⟩ = some (.string (sB wd)) := by
  unfold ActAt actO at h
  refine ⟨?_, ?_, ?_, ?_⟩ <;> rw [Lib.cell_of_heap h] <;> rfl
theorem ActIs.wrong_len {t v : List T.Ln} {p : T.Pth} {k bit er : Int} {wd : List UInt8} (h : ActIs t k p bit wd v er) (hR : ¬ T.RightT t) : v.length = t.length := by
  by_cases h0 : er = 0
  · subst h0
    rcases h with ⟨_, h⟩ | ⟨_, h⟩ | ⟨_, h⟩ | ⟨_, h⟩ | ⟨_, h⟩ | ⟨_, h⟩
    · exact absurd h.ok.1.2.2.1 hR
    all_goals
      obtain ⟨a, h⟩ := h.ok
      exact absurd h.right hR
  · rw [h.err h0]
set_option maxRecDepth 100000 in
set_option maxHeartbeats 4000000 in
theorem editExact_walk (E : EditOk) (w : World) (A : Option Addr) (c : Nat) (t : List T.Ln) (hc : t.length ≤ c) (hA : Seen eL w A t) (hl : t.length ≤ maxLen) (nk : NilOk A c) (k bit : Int) (B : Option Addr) (n d : Nat) (p : T.Pth) (hn : p.length = n) (hB : Seen eS w B p) (hd : n ≤ d) (gn1 : n ≤ maxLen) (wd : List UInt8) :
    Calls Try.prog 3 #[.slice A t.length c, .agg #[.int .i64 k, .slice B n d, .int .i64 bit, .string (sB wd)]] w (TrueS w) := by
  unfold maxLen at hl gn1
  have hb := (Below.refl w.heap.size w).alloc (Nat.le_refl _) (actO k B n d bit wd)
  have HA := Lib.hid (hA.below hb)
  have HB := Lib.hid (hB.below hb)
  have HX := Lib.hid (ActAt.new w k B n d bit wd)
  have HNK := Lib.hid nk
  have HNP := Lib.hid hn
  clear hA hB nk hn
  obtain ⟨u, er, hai⟩ := act_is t k p bit wd
  have HAI := Lib.hid hai
  clear hai
  obtain ⟨x0, x1, x2, x3⟩ := HX.out.cells
  simp only [actO] at HA HB HX hb x0 x1 x2 x3
  go_enter Try.func3, Try.ntmps3
  go_wp2_with fail
  refine (small_is A c t _ HA.out).mono ?_
  rintro e wx1 ⟨bs, rfl, hsm, hx⟩
  replace HA := Lib.hid (HA.out.below hx)
  replace HB := Lib.hid (HB.out.below hx)
  replace HX := Lib.hid (HX.out.below hx)
  replace hb := bthen hb hx
  clear hx
  clear x0 x1 x2 x3
  obtain ⟨x0, x1, x2, x3⟩ := HX.out.cells
  cases bs with
  | false =>
    clear hsm
    go_wp2_with fail
    refine (awake_of E _).mono ?_
    rintro e wz ⟨rfl, hx⟩
    go_wp2
    go_ret
    exact ⟨rfl, bthen hb hx⟩
  | true =>
    replace hsm := hsm rfl
    have hll : t.length ≤ 1073741824 := by omega
    go_wp2_with fail
    refine (shortN B d n p _ HNP.out HB.out).mono ?_
    rintro e wx2 ⟨bs, rfl, hsp, hx⟩
    replace HA := Lib.hid (HA.out.below hx)
    replace HB := Lib.hid (HB.out.below hx)
    replace HX := Lib.hid (HX.out.below hx)
    replace hb := bthen hb hx
    clear hx
    clear x0 x1 x2 x3
    obtain ⟨x0, x1, x2, x3⟩ := HX.out.cells
    cases bs with
    | false =>
      clear hsp
      go_wp2_with fail
      refine (awake_of E _).mono ?_
      rintro e wz ⟨rfl, hx⟩
      go_wp2
      go_ret
      exact ⟨rfl, bthen hb hx⟩
    | true =>
      replace hsp := hsp rfl
      have hpl : n ≤ 1073741824 := by omega
      by_cases h100 : 100 < (sB wd).size
      · have b100 : decide ((100 : Int) < ((sB wd).size : Int)) = true := decide_eq_true (by omega)
        go_wp2_with fail
        refine (awake_of E _).mono ?_
        rintro e wz ⟨rfl, hx⟩
        go_wp2
        go_ret
        exact ⟨rfl, bthen hb hx⟩
      · have b100 : decide ((100 : Int) < ((sB wd).size : Int)) = false := decide_eq_false (by omega)
        clear h100
        have bee : (er == er) = true := beq_self_eq_true er
        go_wp2_with fail
        refine (do_edit E A B c d t.length n t u p k bit er wd _ ⟨rfl, HNP.out, HA.out, HB.out, HNK.out, hc, hd, hll, hpl⟩ HAI.out).mono ?_
        rintro e wx3 ⟨A1, c1, rfl, hs1, _, _, hx⟩
        replace HA := Lib.hid (HA.out.below hx)
        replace HB := Lib.hid (HB.out.below hx)
        replace HX := Lib.hid (HX.out.below hx)
        have HU := Lib.hid (hs1)
        replace hb := bthen hb hx
        clear hx
        clear x0 x1 x2 x3
        obtain ⟨x0, x1, x2, x3⟩ := HX.out.cells
        clear hs1
        go_wp2_with fail
        refine (want_any A B c d t.length n t u p k bit er wd _ ⟨rfl, HNP.out, HA.out, HB.out, HNK.out, hc, hd, hll, hpl⟩ HAI.out).mono ?_
        rintro e wx4 ⟨A2, c2, rfl, hs2, hx⟩
        replace HA := Lib.hid (HA.out.below hx)
        replace HB := Lib.hid (HB.out.below hx)
        replace HX := Lib.hid (HX.out.below hx)
        replace HU := Lib.hid (HU.out.below hx)
        have HV := Lib.hid (hs2)
        replace hb := bthen hb hx
        clear hx
        clear x0 x1 x2 x3
        obtain ⟨x0, x1, x2, x3⟩ := HX.out.cells
        clear hs2
        by_cases hR : T.RightT t
        · have HR := Lib.hid hR
          obtain ⟨kb, hkb⟩ : ∃ kb, T.keptL t p n = kb := ⟨_, rfl⟩
          obtain ⟨ka, hka⟩ : ∃ ka, T.keptL t p (n - 1) = ka := ⟨_, rfl⟩
          have HKB := Lib.hid hkb
          have HKA := Lib.hid hka
          have HLB := Lib.hid (show kb = true ↔ T.RightT t ∧ T.Kept t p p.length by rw [HNP.out, ← hkb]; exact ⟨fun h => ⟨hR, (kept_yes hR _ _).1 h⟩, fun h => (kept_yes hR _ _).2 h.2⟩)
          have HLA := Lib.hid (show ka = true ↔ T.RightT t ∧ T.Kept t p (p.length - 1) by rw [HNP.out, ← hka]; exact ⟨fun h => ⟨hR, (kept_yes hR _ _).1 h⟩, fun h => (kept_yes hR _ _).2 h.2⟩)
          have hull : u.length ≤ 1073741824 := by have := (HAI.out.right hR).len; omega
          clear hR hkb hka
          go_wp2_with fail
          refine (rightR_is A c t true _ HA.out hll (yes_iff HR.out)).mono ?_
          rintro e wx5 ⟨rfl, hx⟩
          replace HA := Lib.hid (HA.out.below hx)
          replace HB := Lib.hid (HB.out.below hx)
          replace HX := Lib.hid (HX.out.below hx)
          replace HU := Lib.hid (HU.out.below hx)
          replace HV := Lib.hid (HV.out.below hx)
          replace hb := bthen hb hx
          clear hx
          clear x0 x1 x2 x3
          obtain ⟨x0, x1, x2, x3⟩ := HX.out.cells
          go_wp2_with fail
          refine (same_any A1 A2 c1 c2 u u _ true (yes_iff rfl) hull HU.out HV.out).mono ?_
          rintro e wx6 ⟨rfl, hx⟩
          replace HA := Lib.hid (HA.out.below hx)
          replace HB := Lib.hid (HB.out.below hx)
          replace HX := Lib.hid (HX.out.below hx)
          replace HU := Lib.hid (HU.out.below hx)
          replace HV := Lib.hid (HV.out.below hx)
          replace hb := bthen hb hx
          clear hx
          clear x0 x1 x2 x3
          obtain ⟨x0, x1, x2, x3⟩ := HX.out.cells
          go_wp2_with fail
          refine (E.locked A B c d t.length n t p kb _ ⟨rfl, HNP.out, HA.out, HB.out, HNK.out, hc, hd, hll, hpl⟩ HLB.out).mono ?_
          rintro e wx7 ⟨rfl, hx⟩
          replace HA := Lib.hid (HA.out.below hx)
          replace HB := Lib.hid (HB.out.below hx)
          replace HX := Lib.hid (HX.out.below hx)
          replace HU := Lib.hid (HU.out.below hx)
          replace HV := Lib.hid (HV.out.below hx)
          replace hb := bthen hb hx
          clear hx
          clear x0 x1 x2 x3
          obtain ⟨x0, x1, x2, x3⟩ := HX.out.cells
          go_wp2_with fail
          refine (keptN A B c d t.length n n t p _ kb rfl HNP.out HA.out HB.out hll (Nat.le_refl _) hd hpl HR.out HKB.out).mono ?_
          rintro e wx8 ⟨rfl, hx⟩
          replace HA := Lib.hid (HA.out.below hx)
          replace HB := Lib.hid (HB.out.below hx)
          replace HX := Lib.hid (HX.out.below hx)
          replace HU := Lib.hid (HU.out.below hx)
          replace HV := Lib.hid (HV.out.below hx)
          replace hb := bthen hb hx
          clear hx
          clear x0 x1 x2 x3
          obtain ⟨x0, x1, x2, x3⟩ := HX.out.cells
          go_wp2_with fail
          refine (E.above A B c d t.length n t p ka _ ⟨rfl, HNP.out, HA.out, HB.out, HNK.out, hc, hd, hll, hpl⟩ HLA.out).mono ?_
          rintro e wx9 ⟨rfl, hx⟩
          replace HA := Lib.hid (HA.out.below hx)
          replace HB := Lib.hid (HB.out.below hx)
          replace HX := Lib.hid (HX.out.below hx)
          replace HU := Lib.hid (HU.out.below hx)
          replace HV := Lib.hid (HV.out.below hx)
          replace hb := bthen hb hx
          clear hx
          clear x0 x1 x2 x3
          obtain ⟨x0, x1, x2, x3⟩ := HX.out.cells
          by_cases hn0 : n = 0
          · subst hn0
            have hka : ka = false := by rw [← HKA.out]; rfl
            subst hka
            go_wp2_with fail
            refine (refKept_none A B c d t.length 0 _).mono ?_
            rintro e wx10 ⟨rfl, hx⟩
            replace HA := Lib.hid (HA.out.below hx)
            replace HB := Lib.hid (HB.out.below hx)
            replace HX := Lib.hid (HX.out.below hx)
            replace HU := Lib.hid (HU.out.below hx)
            replace HV := Lib.hid (HV.out.below hx)
            replace hb := bthen hb hx
            clear hx
            clear x0 x1 x2 x3
            obtain ⟨x0, x1, x2, x3⟩ := HX.out.cells
            go_wp2_with fail
            refine (awake_of E _).mono ?_
            rintro e wz ⟨rfl, hx⟩
            go_wp2
            go_ret
            exact ⟨rfl, bthen hb hx⟩
          · obtain ⟨q, rfl⟩ : ∃ q, n = q + 1 := ⟨n - 1, by omega⟩
            clear hn0
            go_wp2_with fail
            refine (keptN A B c d t.length (q + 1) q t p _ ka rfl HNP.out HA.out HB.out hll (by omega) hd hpl HR.out HKA.out).mono ?_
            rintro e wx10 ⟨rfl, hx⟩
            replace HA := Lib.hid (HA.out.below hx)
            replace HB := Lib.hid (HB.out.below hx)
            replace HX := Lib.hid (HX.out.below hx)
            replace HU := Lib.hid (HU.out.below hx)
            replace HV := Lib.hid (HV.out.below hx)
            replace hb := bthen hb hx
            clear hx
            clear x0 x1 x2 x3
            obtain ⟨x0, x1, x2, x3⟩ := HX.out.cells
            go_wp2_with fail
            refine (awake_of E _).mono ?_
            rintro e wz ⟨rfl, hx⟩
            go_wp2
            go_ret
            exact ⟨rfl, bthen hb hx⟩
        · have HR := Lib.hid hR
          have HLB := Lib.hid (no_iff (p := T.RightT t ∧ T.Kept t p p.length) fun h => hR h.1)
          have HLA := Lib.hid (no_iff (p := T.RightT t ∧ T.Kept t p (p.length - 1)) fun h => hR h.1)
          have hull : u.length ≤ 1073741824 := by have := HAI.out.wrong_len hR; omega
          clear hR
          go_wp2_with fail
          refine (rightR_is A c t false _ HA.out hll (no_iff HR.out)).mono ?_
          rintro e wx5 ⟨rfl, hx⟩
          replace HA := Lib.hid (HA.out.below hx)
          replace HB := Lib.hid (HB.out.below hx)
          replace HX := Lib.hid (HX.out.below hx)
          replace HU := Lib.hid (HU.out.below hx)
          replace HV := Lib.hid (HV.out.below hx)
          replace hb := bthen hb hx
          clear hx
          clear x0 x1 x2 x3
          obtain ⟨x0, x1, x2, x3⟩ := HX.out.cells
          go_wp2_with fail
          refine (same_any A1 A2 c1 c2 u u _ true (yes_iff rfl) hull HU.out HV.out).mono ?_
          rintro e wx6 ⟨rfl, hx⟩
          replace HA := Lib.hid (HA.out.below hx)
          replace HB := Lib.hid (HB.out.below hx)
          replace HX := Lib.hid (HX.out.below hx)
          replace HU := Lib.hid (HU.out.below hx)
          replace HV := Lib.hid (HV.out.below hx)
          replace hb := bthen hb hx
          clear hx
          clear x0 x1 x2 x3
          obtain ⟨x0, x1, x2, x3⟩ := HX.out.cells
          go_wp2_with fail
          refine (E.locked A B c d t.length n t p false _ ⟨rfl, HNP.out, HA.out, HB.out, HNK.out, hc, hd, hll, hpl⟩ HLB.out).mono ?_
          rintro e wx7 ⟨rfl, hx⟩
          replace HA := Lib.hid (HA.out.below hx)
          replace HB := Lib.hid (HB.out.below hx)
          replace HX := Lib.hid (HX.out.below hx)
          replace HU := Lib.hid (HU.out.below hx)
          replace HV := Lib.hid (HV.out.below hx)
          replace hb := bthen hb hx
          clear hx
          clear x0 x1 x2 x3
          obtain ⟨x0, x1, x2, x3⟩ := HX.out.cells
          go_wp2_with fail
          refine (E.above A B c d t.length n t p false _ ⟨rfl, HNP.out, HA.out, HB.out, HNK.out, hc, hd, hll, hpl⟩ HLA.out).mono ?_
          rintro e wx8 ⟨rfl, hx⟩
          replace HA := Lib.hid (HA.out.below hx)
          replace HB := Lib.hid (HB.out.below hx)
          replace HX := Lib.hid (HX.out.below hx)
          replace HU := Lib.hid (HU.out.below hx)
          replace HV := Lib.hid (HV.out.below hx)
          replace hb := bthen hb hx
          clear hx
          clear x0 x1 x2 x3
          obtain ⟨x0, x1, x2, x3⟩ := HX.out.cells
          go_wp2_with fail
          refine (awake_of E _).mono ?_
          rintro e wz ⟨rfl, hx⟩
          go_wp2
          go_ret
          exact ⟨rfl, bthen hb hx⟩
end Go.Proofs.Ytfjpeonfkhcpfaa
