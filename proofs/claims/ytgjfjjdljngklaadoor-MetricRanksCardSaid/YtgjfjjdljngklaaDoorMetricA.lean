/-
  Layer 11: what metric does, as one premise (MetricOk); a []float64 that comes in; and that 'awake' is true under it. No conditions.
-/
import Derived.Test.YtgjfjjdljngklaaDoorMetricR
import Derived.Test.YtgjfjjdljngklaaDoorMetricX
import Derived.Test.YtgjfjjdljngklaaDoorTreeMem
import Derived.Test.YtgjfjjdljngklaaDoorLawFrame
import Derived.Test.YtgjfjjdljngklaaDoorLaysO
namespace Go.Proofs.YtgjfjjdljngklaaDoor
open Go.ChangeShapes Go.WideShapes Go.ChangeAt Go.RowKit
open F
set_option linter.unusedVariables false

/-- Words of float64 in a row. -/
def eF : Elem Nat where
  st := 33
  T := 22
  sz := 1
  zero := .float .f64 0
  by_ := 8
  C := fun n => [.float .f64 n]
  hst := Tryd.underlying33
  hin := by kernel_rfl
  hzs := rfl
  hsz := by decide
  hby := by decide
  len := fun _ => rfl
  one := fun x u hu => by simp at hu; subst hu; rfl
theorem Holds.flt {w : World} {b o : Nat} {l : List Nat} (h : Holds eF w b o l) {i : Nat} (hi : i < l.length) : w.cell? ⟨b, o + i, none⟩ = some (.float .f64 l[i]) := by
  have := h i hi 0 (.float .f64 l[i]) rfl
  rwa [show o + i * eF.sz + 0 = o + i by show o + i * 1 + 0 = o + i; omega] at this
def Wd (l : List Nat) : Prop := ∀ x ∈ l, x < 18446744073709551616
theorem seen_lit11 {α : Type} (E : Elem α) (w : World) (l : List α) (cs : Array Value) (h : cs.toList = cellsG E l) (hl : l.length ≤ 1000) : Seen E (w.alloc (.cells cs E.T)) (some ⟨w.heap.size, 0, none⟩) l := by
  have h1 : cs.size = l.length * E.sz := by rw [← cellsG_len, ← h, Array.length_toList]
  have := World.ownsRow_lit (base := 0) (e := E.T) (size := E.sz) w cs l.length (Nat.zero_le _) (by unfold maxLen; omega) h1
  rw [h] at this
  obtain ⟨A, cap, e, _, hs⟩ := Own.seen (E := E) this
  injection e with e1 e2 e3
  subst e1
  exact hs

/-- What metric does: for texts of at most 100 bytes, any words, and at most 1000 of them. -/
structure MetricOk : Prop where
  rankOf : ∀ (x : Nat) (r : Int) (w : World), x < 18446744073709551616 → rankF x = r → Calls Tryd.prog 12 #[.float .f64 x] w (fun e w' => e = .returned (.int .i64 r) ∧ Below w.heap.size w w')
  lessOf : ∀ (x y : Nat) (r : Bool) (w : World), x < 18446744073709551616 → y < 18446744073709551616 → aheadB x y = r → Calls Tryd.prog 14 #[.float .f64 x, .float .f64 y] w (fun e w' => e = .returned (.bool r) ∧ Below w.heap.size w w')
  leastOf : ∀ (A : Option Addr) (c n : Nat) (l : List Nat) (r : Int) (w : World), l.length = n → n ≤ 1000 → n ≤ c → Seen eF w A l → Wd l → LeastIs l r → Calls Tryd.prog 22 #[.slice A n c] w (fun e w' => e = .returned (.int .i64 r) ∧ Below w.heap.size w w')
  readOf : ∀ (s : ByteArray) (w : World), s.size ≤ 100 → Calls Tryd.prog 17 #[.string s] w (fun e w' => ∃ (x : Nat) (ok : Bool), e = .returned (.tuple #[.float .f64 x, .bool ok]) ∧ ReadIs s.data.toList x ok ∧ Below w.heap.size w w')
  textOf : ∀ (x : Nat) (o : Option (List UInt8)) (q : ByteArray) (ok : Bool) (w : World), x < 18446744073709551616 → TabOk w → TextIs x o → sB (o.getD []) = q → o.isSome = ok → Calls Tryd.prog 20 #[.float .f64 x] w (fun e w' => e = .returned (.tuple #[.string q, .bool ok]) ∧ Below w.heap.size w w')
  sumOf : ∀ (A : Option Addr) (c n : Nat) (l : List Nat) (w : World), l.length = n → n ≤ 1000 → n ≤ c → Seen eF w A l → Wd l → Calls Tryd.prog 24 #[.slice A n c] w (fun e w' => ∃ x : Nat, e = .returned (.float .f64 x) ∧ IsM (sumO l) x ∧ Below w.heap.size w w')

theorem tabAt11 {w w1 : World} (h : Hid (TabOk w)) (hb : Below w.heap.size w w1) : TabOk w1 := h.out.below hb
theorem below_drawn11 {B : Nat} {a w : World} (h : Below B a w) (q : Nat) : Below B a (w.drewN q) := ⟨h.os, h.tape, h.output, h.size, h.block⟩

/-- -0. -/
theorem aw11_read {x : Nat} {ok : Bool} (h : ReadIs [45, 48] x ok) : x = 9223372036854775808 ∧ ok = true := by
  have e : readM [45, 48] = .wd 9223372036854775808 := by
    have h1 := read_tho (n := 0) (by omega) true
    have h2 : thoT 0 = [48] := by unfold thoT; rw [if_pos (by omega), T.decL_small (by omega)]; rfl
    rw [h2] at h1
    exact h1.trans (congrArg RM.wd (show (if true = true then negW (thouW 0) else thouW 0) = 9223372036854775808 by decide +kernel))
  obtain ⟨_, h⟩ := h
  rw [e] at h; exact h
theorem aw11_bad {x : Nat} {ok : Bool} (h : ReadIs [49, 46, 53, 48] x ok) : x = 0 ∧ ok = false := by
  obtain ⟨_, h⟩ := h
  have h1 : thoL [49, 46, 53, 48] = none := by decide +kernel
  have e : readM [49, 46, 53, 48] = .no := by
    unfold readM
    rw [if_neg (by decide), if_neg (by decide), if_neg (by decide), if_neg (by decide), h1]
  rw [e] at h; exact h
theorem aw11_text : TextIs 4609434218613702656 (some [49, 46, 53]) := by
  refine .inr (.inr (.inl ⟨1500, by omega, by decide +kernel, ?_⟩))
  have h2 : thoT 1500 = [49, 46, 53] := by unfold thoT; rw [if_neg (by omega), T.decL_small (by omega)]; rfl
  rw [h2]; rfl
theorem aw11_text0 : TextIs 9223372036854775808 (some [45, 48]) := by
  refine .inr (.inr (.inl ⟨0, by omega, by decide +kernel, ?_⟩))
  have h2 : thoT 0 = [48] := by unfold thoT; rw [if_pos (by omega), T.decL_small (by omega)]; rfl
  rw [h2]; rfl
theorem aw11_least : LeastIs [4611686018427387904, 9223372036854775808, 0] 1 := by
  refine .inr ⟨1, 9223372036854775808, rfl, rfl, by decide +kernel, fun i y hi hy => ?_⟩
  obtain rfl : i = 0 := by omega
  injection hy with hy
  subst hy; decide +kernel
theorem aw11_sum {x : Nat} (h : IsM (sumO [4607182418800017408, 4611686018427387904]) x) : x = 4613937818241073152 := by
  have e : sumO [4607182418800017408, 4611686018427387904] = some 4613937818241073152 := by decide +kernel
  rw [e] at h; exact h.2.1
set_option maxRecDepth 100000 in
set_option maxHeartbeats 4000000 in
theorem awake_of11 (E : MetricOk) (w : World) (HT : TabOk w) : Calls Tryd.prog 16 #[] w (TrueS w) := by
  obtain ⟨d, q1, q2, q3, q4⟩ := one_over (x := 9223372036854775808) (by omega) (by decide)
  have b4 : (FloatKind.f64.format.order d 0 == some .lt) = true := (cmp_lt q4 (by omega)).trans (q2.trans (by decide))
  have k1 := fun (t : TypeId) (w : World) => run_float_arith (P := Tryd.prog) w .quo t .f64 4607182418800017408 9223372036854775808 d q1
  have b5 : (FloatKind.f64.format.order 4613937818241073152 4613937818241073152 == some .eq) = true := by decide +kernel
  have s1 : ((sB [49, 46, 53] : ByteArray) == (⟨#[49, 46, 53]⟩ : ByteArray)) = true := by decide +kernel
  clear q1 q2 q3 q4
  have TAB := Lib.hid HT
  clear HT
  go_enter Tryd.func16, Tryd.ntmps16
  go_wp2_with fail
  refine (E.readOf _ _ (by decide)).mono ?_
  rintro e w1 ⟨x, ok, rfl, hr, hb⟩
  obtain ⟨rfl, rfl⟩ := aw11_read hr
  clear hr
  go_wp2_with fail
  refine (E.textOf 4609434218613702656 _ (sB [49, 46, 53]) true _ (by omega) (tabAt11 TAB (by first | assumption | exact Below.refl _ _ | exact below_drawn11 (by first | assumption | exact Below.refl _ _) _)) aw11_text rfl rfl).mono ?_
  rintro e w2 ⟨rfl, hx⟩
  replace hb := bthen hb hx
  clear hx
  go_wp2_with fail
  refine (E.textOf 9223372036854775808 _ (sB [45, 48]) true _ (by omega) (tabAt11 TAB (by first | assumption | exact Below.refl _ _ | exact below_drawn11 (by first | assumption | exact Below.refl _ _) _)) aw11_text0 rfl rfl).mono ?_
  rintro e w3 ⟨rfl, hx⟩
  replace hb := bthen hb hx
  clear hx
  go_wp2_with fail
  refine (E.readOf _ _ (by decide)).mono ?_
  rintro e w4 ⟨x, ok, rfl, hr, hx⟩
  obtain ⟨rfl, rfl⟩ := aw11_bad hr
  replace hb := bthen hb hx
  clear hx hr
  have t1 : (sB [49, 46, 53]).toList = [49, 46, 53] := by decide +kernel
  have t2 : (sB [45, 48]).toList = [45, 48] := by decide +kernel
  go_wp2_with fail
  refine (E.lessOf 9223372036854775808 0 true _ (by omega) (by omega) (by decide +kernel)).mono ?_
  rintro e w5 ⟨rfl, hx⟩
  replace hb := bthen hb hx
  clear hx
  go_wp2_with fail
  refine (E.lessOf 0 9223372036854775808 false _ (by omega) (by omega) (by decide +kernel)).mono ?_
  rintro e w6 ⟨rfl, hx⟩
  replace hb := bthen hb hx
  clear hx
  go_wp2_with fail
  refine (E.leastOf _ 3 3 [4611686018427387904, 9223372036854775808, 0] 1 _ rfl (by omega) (by omega) (seen_lit11 eF w6 _ _ rfl (by decide)) (by unfold Wd; decide +kernel) aw11_least).mono ?_
  rintro e w7 ⟨rfl, hx⟩
  replace hb := bthen (hb.alloc hb.size _) hx
  clear hx
  go_wp2_with fail
  refine (E.rankOf 0 0 _ (by omega) (by decide +kernel)).mono ?_
  rintro e w8 ⟨rfl, hx⟩
  replace hb := bthen hb hx
  clear hx
  go_wp2_with fail
  refine (E.rankOf 9223372036854775808 (-1) _ (by omega) (by decide +kernel)).mono ?_
  rintro e w9 ⟨rfl, hx⟩
  replace hb := bthen hb hx
  clear hx
  go_wp2_with fail
  refine (E.sumOf _ 2 2 [4607182418800017408, 4611686018427387904] _ rfl (by omega) (by omega) (seen_lit11 eF w9 _ _ rfl (by decide)) (by unfold Wd; decide +kernel)).mono ?_
  rintro e w10 ⟨x, rfl, hs, hx⟩
  obtain rfl := aw11_sum hs
  replace hb := bthen (hb.alloc hb.size _) hx
  clear hx hs
  go_wp2
  go_ret
  exact ⟨rfl, hb⟩
theorem wd_of {x : Nat} (h : (Lit.float .f64 x).wf = true) : x < 18446744073709551616 := by simpa [Lit.wf, FloatKind.has] using h
theorem trod_float11 {H : Type} {enc : TypeId × Value → H} {P : Program} {w : World} {base : Nat} {spare : Nat → Bool} {held : Bool} {fuel : Nat} {t : TypeId} {k : FloatKind} {cs : List Value} {x : DataW H × List MemPlace} (ht : P.underlying t = some (.float k)) (h : DataW.trod enc P w base spare held fuel t cs = some x) : ∃ b, cs = [.float k b] ∧ (Lit.float k b).wf = true := by
  cases fuel with
  | zero => simp [DataW.trod] at h
  | succ n =>
    simp only [DataW.trod, ht] at h
    split at h <;> simp_all
set_option maxRecDepth 100000 in
/-- A []float64 that came in. -/
theorem open_floats {H : Type} {enc : TypeId × Value → H} {W : World} {base : Nat} {v : Value} {d : DataW H} {p : List MemPlace} (hok : Value.okWide Tryd.prog W .any base 33 v)
    (h : DataW.Trod enc Tryd.prog W 0 (fun _ => true) true 33 v d p) :
    ∃ (A : Option Addr) (c : Nat) (l : List Nat), v = .slice A l.length c ∧ l.length ≤ c ∧ Seen eF W A l ∧ l.length ≤ maxLen ∧ Wd l := by
  obtain ⟨A, n, c, rfl⟩ := okWide_slice Tryd.underlying33 hok
  obtain ⟨fuel, hf⟩ := h
  rcases Go.Deep.open_slice Tryd.underlying33 hf with ⟨hcs, _⟩ | ⟨a, len, cap, m, k, D, Pl, hcs, _, hl, hm, hmm, _, hx⟩
  · have hc2 : ([Value.slice A n c] : List Value) = [.slice none 0 0] := hcs
    injection hc2 with hc2
    injection hc2 with e1 e2 e3
    subst e1; subst e2; subst e3
    exact ⟨none, 0, [], rfl, Nat.le_refl _, Seen.nil, by unfold maxLen; simp, fun i hi => by cases hi⟩
  · have hc2 : ([Value.slice A n c] : List Value) = [.slice (some a) len cap] := hcs
    injection hc2 with hc2
    injection hc2 with e1 e2 e3
    subst e1; subst e2; subst e3
    have hnm : n ≤ m := by rw [hmm]; simp; exact hl
    have each : ∀ i, i < n → ∃ x : Nat, W.cell? (a.add (i * 1)) = some (.float .f64 x) ∧ x < 18446744073709551616 := by
      intro i hi
      obtain ⟨cs', h1, h2⟩ := hx i (by omega)
      rw [show Tryd.prog.cellsOf 22 = 1 by kernel_rfl] at h1
      obtain ⟨_, hlen, hcell⟩ := World.cells?_some h1
      match cs', hlen with
      | [v0], _ =>
        have e0 := hcell 0 (by omega)
        rw [Go.Deep.add_add] at e0
        obtain ⟨b, q0, wb⟩ := trod_float11 Tryd.underlying22 h2
        simp at q0
        subst q0
        exact ⟨b, by simpa using e0, wd_of wb⟩
    obtain ⟨f, hfx⟩ := Go.Deep.choose_lt each
    refine ⟨some a, c, (List.range n).map f, by simp, by simp; exact hl, fun hpos => ?_, by simp; omega, fun x hx2 => ?_⟩
    · have hn : 0 < n := by simpa using hpos
      obtain ⟨b, o, sp⟩ := a
      have hc0 := (hfx 0 hn).1
      have hsp : sp = none := by simpa [Addr.add] using World.cell?_spot hc0
      subst hsp
      refine ⟨b, o, rfl, ?_, fun i hi j u hu => ?_⟩
      · have := World.block_lt_of_cell? W _ hc0; simpa [Addr.add] using this
      · have hi2 : i < n := by simpa using hi
        have hj : j = 0 := by
          have := (List.getElem?_eq_some_iff.1 hu).1
          rw [eF.len] at this
          have e : (eF.sz : Nat) = 1 := rfl
          omega
        subst hj
        have e2 : u = .float .f64 (f i) := by
          have h3 : ([Value.float .f64 (((List.range n).map f)[i])] : List Value)[0]? = some u := hu
          simp at h3; exact h3.symm
        have := (hfx i hi2).1
        rw [add_off] at this
        rw [e2, show o + i * eF.sz + 0 = o + i * 1 by show o + i * 1 + 0 = _; omega]
        exact this
    · obtain ⟨i, hi, rfl⟩ := List.mem_map.1 hx2
      exact (hfx i (List.mem_range.1 hi)).2
end Go.Proofs.YtgjfjjdljngklaaDoor
