/-
  The code's Mark does what layer 7 asks. Condition: at most 2^30 lines and words.
-/
import Derived.Test.YtfjpeonfkhcpfaaEditC
namespace Go.Proofs.Ytfjpeonfkhcpfaa
open Go.RowKit
set_option linter.unusedVariables false

theorem or_turn {m b : Int} (hm : m = 0 ∨ m = 1 ∨ m = 2 ∨ m = 3) (hb : b = 1 ∨ b = 2) : bits BinOp.or IntKind.i64 m b = turnM 2 b m := by
  rcases hm with rfl | rfl | rfl | rfl <;> rcases hb with rfl | rfl <;> decide +kernel
theorem not_turn {m b : Int} (hm : m = 0 ∨ m = 1 ∨ m = 2 ∨ m = 3) (hb : b = 1 ∨ b = 2) : bits BinOp.andNot IntKind.i64 m b = turnM 3 b m := by
  rcases hm with rfl | rfl | rfl | rfl <;> rcases hb with rfl | rfl <;> decide +kernel
theorem own_cell {w : World} {base tg n c4 : Nat} {t : List T.Ln} (h : Own eL w base (.slice (some ⟨tg, 0, none⟩) n c4) t) (a : Nat) (m : Int) (hn : t.length = n) (ha : a < n) (hm : (T.at_ t a).mark = m) : w.cell? ⟨tg, a * 3 + 2, none⟩ = some (.int .i64 m) ∧ w.frozen? ⟨tg, a * 3 + 2, none⟩ = false ∧ base ≤ tg := by
  obtain ⟨tg2, c5, e, h1, _, h3, h4⟩ := own_block h n a m hn ha hm
  injection e with e1 _ _
  injection e1 with e1
  injection e1 with e1
  subst e1
  exact ⟨h3, h4, h1⟩
set_option maxRecDepth 100000 in
set_option maxHeartbeats 1000000 in
theorem mark_bit (A B : Option Addr) (c d n m : Nat) (t : List T.Ln) (p : T.Pth) (bit : Int) (on : Bool) (w : World) (ha : EArgs w A B c d n m t p) (h1 : bit ≠ 1) (h2 : bit ≠ 2) : Calls Try.prog 28 #[.slice A n c, .slice B m d, .int .i64 bit, .bool on] w (EditS w t 1) := by
  have b1 : (bit != 1) = true := bne_iff_ne.2 h1
  have b2 : (bit != 2) = true := bne_iff_ne.2 h2
  have hcl := cloneLn_any A c n t w ha.hn ha.hl ha.hA ha.hc
  clear ha h1 h2
  go_enter Try.func28, Try.ntmps28
  go_wp2_with fail
  refine hcl.mono ?_
  rintro e w1 ⟨v1, rfl, hown, hx⟩
  have HO := Lib.hid hown
  clear hown hcl
  go_wp2
  go_ret2
  exact HO.out.editS hx rfl

set_option maxRecDepth 100000 in
set_option maxHeartbeats 1000000 in
theorem mark_err_1 (A B : Option Addr) (c d n m : Nat) (t : List T.Ln) (p : T.Pth) (er : Int) (on : Bool) (w : World) (ha : EArgs w A B c d n m t p) (h0 : er ≠ 0) (hf : ∀ w1, Below w.heap.size w w1 → Calls Try.prog 45 #[.slice A n c, .slice B m d] w1 (PlaceS w1 0 er)) : Calls Try.prog 28 #[.slice A n c, .slice B m d, .int .i64 1, .bool on] w (EditS w t er) := by
  have b0 : (er != 0) = true := bne_iff_ne.2 h0
  have hcl := cloneLn_any A c n t w ha.hn ha.hl ha.hA ha.hc
  clear ha h0
  go_enter Try.func28, Try.ntmps28
  go_wp2_with fail
  refine hcl.mono ?_
  rintro e w1 ⟨v1, rfl, hown, hx⟩
  have HO := Lib.hid hown
  clear hown hcl
  go_wp2_with fail
  refine (hf w1 hx).mono ?_
  rintro e w2 ⟨rfl, hx2⟩
  have HO2 := Lib.hid (HO.out.keep hx2)
  clear hf
  go_wp2
  go_ret2
  exact HO2.out.editS (bthen hx hx2) rfl
set_option maxRecDepth 100000 in
set_option maxHeartbeats 1000000 in
theorem mark_above_1 (A B : Option Addr) (c d n m a : Nat) (t : List T.Ln) (p : T.Pth) (on : Bool) (w : World) (ha : EArgs w A B c d n m t p) (hR : T.RightT t) (hat : a < n) (hpa : T.pathL t a = p) (hk : T.keptL t p (m - 1) = true) : Calls Try.prog 28 #[.slice A n c, .slice B m d, .int .i64 1, .bool on] w (EditS w t 12) := by
  have hcl := cloneLn_any A c n t w ha.hn ha.hl ha.hA ha.hc
  have HA := Lib.hid ha
  have HR := Lib.hid hR
  have HP := Lib.hid hpa
  have HK := Lib.hid hk
  clear ha hR hpa hk
  go_enter Try.func28, Try.ntmps28
  go_wp2_with fail
  refine hcl.mono ?_
  rintro e w1 ⟨v1, rfl, hown, hx⟩
  have HO := Lib.hid hown
  have ha1 := HA.out.below hx
  have hf := codeFind_at A B c d n m a t p w1 ha1.hn ha1.hm ha1.hA ha1.hB ha1.hl ha1.hp HR.out hat HP.out
  clear hown hcl ha1
  go_wp2_with fail
  refine hf.mono ?_
  rintro e w2 ⟨rfl, hx2⟩
  have HO2 := Lib.hid (HO.out.keep hx2)
  have hx12 := bthen hx hx2
  have ha2 := HA.out.below hx12
  have hab := codeAbove A B c d n m t p true w2 ha2.hn ha2.hm ha2.hA ha2.hB ha2.hl ha2.hd ha2.hp ⟨(fun _ => ⟨HR.out, HK.out⟩), (fun _ => rfl)⟩
  clear hf ha2
  go_wp2_with fail
  refine hab.mono ?_
  rintro e w3 ⟨rfl, hx3⟩
  have HO3 := Lib.hid (HO2.out.keep hx3)
  clear hab
  go_wp2
  go_ret2
  exact HO3.out.editS (bthen hx12 hx3) rfl

set_option maxRecDepth 100000 in
set_option maxHeartbeats 1000000 in
theorem mark_err_2 (A B : Option Addr) (c d n m : Nat) (t : List T.Ln) (p : T.Pth) (er : Int) (on : Bool) (w : World) (ha : EArgs w A B c d n m t p) (h0 : er ≠ 0) (hf : ∀ w1, Below w.heap.size w w1 → Calls Try.prog 45 #[.slice A n c, .slice B m d] w1 (PlaceS w1 0 er)) : Calls Try.prog 28 #[.slice A n c, .slice B m d, .int .i64 2, .bool on] w (EditS w t er) := by
  have b0 : (er != 0) = true := bne_iff_ne.2 h0
  have hcl := cloneLn_any A c n t w ha.hn ha.hl ha.hA ha.hc
  clear ha h0
  go_enter Try.func28, Try.ntmps28
  go_wp2_with fail
  refine hcl.mono ?_
  rintro e w1 ⟨v1, rfl, hown, hx⟩
  have HO := Lib.hid hown
  clear hown hcl
  go_wp2_with fail
  refine (hf w1 hx).mono ?_
  rintro e w2 ⟨rfl, hx2⟩
  have HO2 := Lib.hid (HO.out.keep hx2)
  clear hf
  go_wp2
  go_ret2
  exact HO2.out.editS (bthen hx hx2) rfl
set_option maxRecDepth 100000 in
set_option maxHeartbeats 1000000 in
theorem mark_above_2 (A B : Option Addr) (c d n m a : Nat) (t : List T.Ln) (p : T.Pth) (on : Bool) (w : World) (ha : EArgs w A B c d n m t p) (hR : T.RightT t) (hat : a < n) (hpa : T.pathL t a = p) (hk : T.keptL t p (m - 1) = true) : Calls Try.prog 28 #[.slice A n c, .slice B m d, .int .i64 2, .bool on] w (EditS w t 12) := by
  have hcl := cloneLn_any A c n t w ha.hn ha.hl ha.hA ha.hc
  have HA := Lib.hid ha
  have HR := Lib.hid hR
  have HP := Lib.hid hpa
  have HK := Lib.hid hk
  clear ha hR hpa hk
  go_enter Try.func28, Try.ntmps28
  go_wp2_with fail
  refine hcl.mono ?_
  rintro e w1 ⟨v1, rfl, hown, hx⟩
  have HO := Lib.hid hown
  have ha1 := HA.out.below hx
  have hf := codeFind_at A B c d n m a t p w1 ha1.hn ha1.hm ha1.hA ha1.hB ha1.hl ha1.hp HR.out hat HP.out
  clear hown hcl ha1
  go_wp2_with fail
  refine hf.mono ?_
  rintro e w2 ⟨rfl, hx2⟩
  have HO2 := Lib.hid (HO.out.keep hx2)
  have hx12 := bthen hx hx2
  have ha2 := HA.out.below hx12
  have hab := codeAbove A B c d n m t p true w2 ha2.hn ha2.hm ha2.hA ha2.hB ha2.hl ha2.hd ha2.hp ⟨(fun _ => ⟨HR.out, HK.out⟩), (fun _ => rfl)⟩
  clear hf ha2
  go_wp2_with fail
  refine hab.mono ?_
  rintro e w3 ⟨rfl, hx3⟩
  have HO3 := Lib.hid (HO2.out.keep hx3)
  clear hab
  go_wp2
  go_ret2
  exact HO3.out.editS (bthen hx12 hx3) rfl
set_option maxRecDepth 100000 in
set_option maxHeartbeats 2000000 in
theorem mark_own (A B : Option Addr) (c d n m a : Nat) (t : List T.Ln) (p : T.Pth) (mk : Int) (on : Bool) (w : World) (ha : EArgs w A B c d n m t p) (hR : T.RightT t) (hat : a < n) (hpa : T.pathL t a = p) (hk : T.keptL t p (m - 1) = false) (hmk : (T.at_ t a).mark = mk) (h1 : 1 < mk) : Calls Try.prog 28 #[.slice A n c, .slice B m d, .int .i64 1, .bool on] w (EditS w t 12) := by
  have hm4 : mk = 0 ∨ mk = 1 ∨ mk = 2 ∨ mk = 3 := by have := hR.mark a (by rw [ha.hn]; exact hat); omega
  have HM4 := Lib.hid hm4
  have HM := Lib.hid hmk
  have HP1 := Lib.hid (show decide (1 < mk) = true from decide_eq_true h1)
  have hcl := cloneLn_any A c n t w ha.hn ha.hl ha.hA ha.hc
  have HA := Lib.hid ha
  have HR := Lib.hid hR
  have HP := Lib.hid hpa
  have HK := Lib.hid hk
  clear ha hR hpa hk hmk hm4
  clear h1
  go_enter Try.func28, Try.ntmps28
  go_wp2_with fail
  refine hcl.mono ?_
  rintro e w1 ⟨v1, rfl, hown, hx⟩
  obtain ⟨tg, c4, e4, hbt, _, _, _⟩ := own_block hown n a mk HA.out.hn hat HM.out
  subst e4
  have HO := Lib.hid hown
  have ha1 := HA.out.below hx
  have hf := codeFind_at A B c d n m a t p w1 ha1.hn ha1.hm ha1.hA ha1.hB ha1.hl ha1.hp HR.out hat HP.out
  clear hown hcl ha1
  go_wp2_with fail
  refine hf.mono ?_
  rintro e w2 ⟨rfl, hx2⟩
  have HO2 := Lib.hid (HO.out.keep hx2)
  have hx12 := bthen hx hx2
  have ha2 := HA.out.below hx12
  have hab := codeAbove A B c d n m t p false w2 ha2.hn ha2.hm ha2.hA ha2.hB ha2.hl ha2.hd ha2.hp ⟨(fun e => by cases e), (fun e => by have e2 := e.2; rw [HK.out] at e2; cases e2)⟩
  clear hf ha2
  go_wp2_with fail
  refine hab.mono ?_
  rintro e w3 ⟨rfl, hx3⟩
  have HO3 := Lib.hid (HO2.out.keep hx3)
  have hx13 := bthen hx12 hx3
  clear hab hx hx2 hx3 hx12
  obtain ⟨b, o, e, hb, hH⟩ := HA.out.hA (by have := HA.out.hn; omega)
  subst e
  have e3 := (hH.below hx13 hb).line (i := a) (by have := HA.out.hn; omega)
  obtain ⟨l0, l1, l2⟩ := e3
  rw [HM.out] at l2
  have hai : (a : Int) < (n : Int) := by omega
  have HB := Lib.hid hb
  clear hH
  go_wp2_with fail
  refine (protected_any _ mk _ true w3 HM4.out HP1.out).mono ?_
  rintro e w4 ⟨rfl, hx4⟩
  have HO4 := Lib.hid (HO3.out.keep hx4)
  have hx14 := bthen hx13 hx4
  clear hx13 hx4 l0 l1 l2
  go_wp2
  go_ret2
  exact HO4.out.editS hx14 rfl
set_option maxRecDepth 100000 in
set_option maxHeartbeats 2000000 in
theorem mark_do_1_true (A B : Option Addr) (c d n m a : Nat) (t : List T.Ln) (p : T.Pth) (mk : Int) (w : World) (ha : EArgs w A B c d n m t p) (hR : T.RightT t) (hat : a < n) (hpa : T.pathL t a = p) (hk : T.keptL t p (m - 1) = false) (hmk : (T.at_ t a).mark = mk) (h1 : mk ≤ 1) : Calls Try.prog 28 #[.slice A n c, .slice B m d, .int .i64 1, .bool true] w (EditS w (S.setM t a (turnM 2 1 mk)) 0) := by
  have hm4 : mk = 0 ∨ mk = 1 ∨ mk = 2 ∨ mk = 3 := by have := hR.mark a (by rw [ha.hn]; exact hat); omega
  have HM4 := Lib.hid hm4
  have HM := Lib.hid hmk
  have HP1 := Lib.hid (show decide (1 < mk) = false from decide_eq_false (by omega))
  obtain ⟨m2, hm2⟩ : ∃ m2, turnM 2 1 mk = m2 := ⟨_, rfl⟩
  have hor : bits BinOp.or IntKind.i64 mk 1 = m2 := by rw [← hm2]; exact or_turn hm4 (by omega)
  rw [hm2]
  clear hm2
  have hcl := cloneLn_any A c n t w ha.hn ha.hl ha.hA ha.hc
  have HA := Lib.hid ha
  have HR := Lib.hid hR
  have HP := Lib.hid hpa
  have HK := Lib.hid hk
  clear ha hR hpa hk hmk hm4
  clear h1
  go_enter Try.func28, Try.ntmps28
  go_wp2_with fail
  refine hcl.mono ?_
  rintro e w1 ⟨v1, rfl, hown, hx⟩
  obtain ⟨tg, c4, e4, hbt, _, _, _⟩ := own_block hown n a mk HA.out.hn hat HM.out
  subst e4
  have HO := Lib.hid hown
  have ha1 := HA.out.below hx
  have hf := codeFind_at A B c d n m a t p w1 ha1.hn ha1.hm ha1.hA ha1.hB ha1.hl ha1.hp HR.out hat HP.out
  clear hown hcl ha1
  go_wp2_with fail
  refine hf.mono ?_
  rintro e w2 ⟨rfl, hx2⟩
  have HO2 := Lib.hid (HO.out.keep hx2)
  have hx12 := bthen hx hx2
  have ha2 := HA.out.below hx12
  have hab := codeAbove A B c d n m t p false w2 ha2.hn ha2.hm ha2.hA ha2.hB ha2.hl ha2.hd ha2.hp ⟨(fun e => by cases e), (fun e => by have e2 := e.2; rw [HK.out] at e2; cases e2)⟩
  clear hf ha2
  go_wp2_with fail
  refine hab.mono ?_
  rintro e w3 ⟨rfl, hx3⟩
  have HO3 := Lib.hid (HO2.out.keep hx3)
  have hx13 := bthen hx12 hx3
  clear hab hx hx2 hx3 hx12
  obtain ⟨b, o, e, hb, hH⟩ := HA.out.hA (by have := HA.out.hn; omega)
  subst e
  have e3 := (hH.below hx13 hb).line (i := a) (by have := HA.out.hn; omega)
  obtain ⟨l0, l1, l2⟩ := e3
  rw [HM.out] at l2
  have hai : (a : Int) < (n : Int) := by omega
  have HB := Lib.hid hb
  clear hH
  go_wp2_with fail
  refine (protected_any _ mk _ false w3 HM4.out HP1.out).mono ?_
  rintro e w4 ⟨rfl, hx4⟩
  have HO4 := Lib.hid (HO3.out.keep hx4)
  have hx14 := bthen hx13 hx4
  clear hx13 hx4 l0 l1 l2
  obtain ⟨k1, k2, k3⟩ := own_cell HO4.out a mk HA.out.hn hat HM.out
  have HX := Lib.hid hx14
  have hai2 : (a : Int) < (n : Int) := by omega
  clear hx14
  go_wp2
  go_ret2
  exact (HO4.out.mark (by have := HA.out.hn; omega) m2).editS (HX.out.setCell k3 _) rfl
set_option maxRecDepth 100000 in
set_option maxHeartbeats 2000000 in
theorem mark_do_1_false (A B : Option Addr) (c d n m a : Nat) (t : List T.Ln) (p : T.Pth) (mk : Int) (w : World) (ha : EArgs w A B c d n m t p) (hR : T.RightT t) (hat : a < n) (hpa : T.pathL t a = p) (hk : T.keptL t p (m - 1) = false) (hmk : (T.at_ t a).mark = mk) (h1 : mk ≤ 1) : Calls Try.prog 28 #[.slice A n c, .slice B m d, .int .i64 1, .bool false] w (EditS w (S.setM t a (turnM 3 1 mk)) 0) := by
  have hm4 : mk = 0 ∨ mk = 1 ∨ mk = 2 ∨ mk = 3 := by have := hR.mark a (by rw [ha.hn]; exact hat); omega
  have HM4 := Lib.hid hm4
  have HM := Lib.hid hmk
  have HP1 := Lib.hid (show decide (1 < mk) = false from decide_eq_false (by omega))
  obtain ⟨m2, hm2⟩ : ∃ m2, turnM 3 1 mk = m2 := ⟨_, rfl⟩
  have hor : bits BinOp.andNot IntKind.i64 mk 1 = m2 := by rw [← hm2]; exact not_turn hm4 (by omega)
  rw [hm2]
  clear hm2
  have hcl := cloneLn_any A c n t w ha.hn ha.hl ha.hA ha.hc
  have HA := Lib.hid ha
  have HR := Lib.hid hR
  have HP := Lib.hid hpa
  have HK := Lib.hid hk
  clear ha hR hpa hk hmk hm4
  clear h1
  go_enter Try.func28, Try.ntmps28
  go_wp2_with fail
  refine hcl.mono ?_
  rintro e w1 ⟨v1, rfl, hown, hx⟩
  obtain ⟨tg, c4, e4, hbt, _, _, _⟩ := own_block hown n a mk HA.out.hn hat HM.out
  subst e4
  have HO := Lib.hid hown
  have ha1 := HA.out.below hx
  have hf := codeFind_at A B c d n m a t p w1 ha1.hn ha1.hm ha1.hA ha1.hB ha1.hl ha1.hp HR.out hat HP.out
  clear hown hcl ha1
  go_wp2_with fail
  refine hf.mono ?_
  rintro e w2 ⟨rfl, hx2⟩
  have HO2 := Lib.hid (HO.out.keep hx2)
  have hx12 := bthen hx hx2
  have ha2 := HA.out.below hx12
  have hab := codeAbove A B c d n m t p false w2 ha2.hn ha2.hm ha2.hA ha2.hB ha2.hl ha2.hd ha2.hp ⟨(fun e => by cases e), (fun e => by have e2 := e.2; rw [HK.out] at e2; cases e2)⟩
  clear hf ha2
  go_wp2_with fail
  refine hab.mono ?_
  rintro e w3 ⟨rfl, hx3⟩
  have HO3 := Lib.hid (HO2.out.keep hx3)
  have hx13 := bthen hx12 hx3
  clear hab hx hx2 hx3 hx12
  obtain ⟨b, o, e, hb, hH⟩ := HA.out.hA (by have := HA.out.hn; omega)
  subst e
  have e3 := (hH.below hx13 hb).line (i := a) (by have := HA.out.hn; omega)
  obtain ⟨l0, l1, l2⟩ := e3
  rw [HM.out] at l2
  have hai : (a : Int) < (n : Int) := by omega
  have HB := Lib.hid hb
  clear hH
  go_wp2_with fail
  refine (protected_any _ mk _ false w3 HM4.out HP1.out).mono ?_
  rintro e w4 ⟨rfl, hx4⟩
  have HO4 := Lib.hid (HO3.out.keep hx4)
  have hx14 := bthen hx13 hx4
  clear hx13 hx4 l0 l1 l2
  obtain ⟨k1, k2, k3⟩ := own_cell HO4.out a mk HA.out.hn hat HM.out
  have HX := Lib.hid hx14
  have hai2 : (a : Int) < (n : Int) := by omega
  clear hx14
  go_wp2
  go_ret2
  exact (HO4.out.mark (by have := HA.out.hn; omega) m2).editS (HX.out.setCell k3 _) rfl
set_option maxRecDepth 100000 in
set_option maxHeartbeats 2000000 in
theorem mark_do_2_true (A B : Option Addr) (c d n m a : Nat) (t : List T.Ln) (p : T.Pth) (mk : Int) (w : World) (ha : EArgs w A B c d n m t p) (hR : T.RightT t) (hat : a < n) (hpa : T.pathL t a = p) (hk : T.keptL t p (m - 1) = false) (hmk : (T.at_ t a).mark = mk)  : Calls Try.prog 28 #[.slice A n c, .slice B m d, .int .i64 2, .bool true] w (EditS w (S.setM t a (turnM 2 2 mk)) 0) := by
  have hm4 : mk = 0 ∨ mk = 1 ∨ mk = 2 ∨ mk = 3 := by have := hR.mark a (by rw [ha.hn]; exact hat); omega
  have HM4 := Lib.hid hm4
  have HM := Lib.hid hmk
  obtain ⟨m2, hm2⟩ : ∃ m2, turnM 2 2 mk = m2 := ⟨_, rfl⟩
  have hor : bits BinOp.or IntKind.i64 mk 2 = m2 := by rw [← hm2]; exact or_turn hm4 (by omega)
  rw [hm2]
  clear hm2
  have hcl := cloneLn_any A c n t w ha.hn ha.hl ha.hA ha.hc
  have HA := Lib.hid ha
  have HR := Lib.hid hR
  have HP := Lib.hid hpa
  have HK := Lib.hid hk
  clear ha hR hpa hk hmk hm4
  go_enter Try.func28, Try.ntmps28
  go_wp2_with fail
  refine hcl.mono ?_
  rintro e w1 ⟨v1, rfl, hown, hx⟩
  obtain ⟨tg, c4, e4, hbt, _, _, _⟩ := own_block hown n a mk HA.out.hn hat HM.out
  subst e4
  have HO := Lib.hid hown
  have ha1 := HA.out.below hx
  have hf := codeFind_at A B c d n m a t p w1 ha1.hn ha1.hm ha1.hA ha1.hB ha1.hl ha1.hp HR.out hat HP.out
  clear hown hcl ha1
  go_wp2_with fail
  refine hf.mono ?_
  rintro e w2 ⟨rfl, hx2⟩
  have HO2 := Lib.hid (HO.out.keep hx2)
  have hx12 := bthen hx hx2
  have ha2 := HA.out.below hx12
  have hab := codeAbove A B c d n m t p false w2 ha2.hn ha2.hm ha2.hA ha2.hB ha2.hl ha2.hd ha2.hp ⟨(fun e => by cases e), (fun e => by have e2 := e.2; rw [HK.out] at e2; cases e2)⟩
  clear hf ha2
  go_wp2_with fail
  refine hab.mono ?_
  rintro e w3 ⟨rfl, hx3⟩
  have HO3 := Lib.hid (HO2.out.keep hx3)
  have hx13 := bthen hx12 hx3
  clear hab hx hx2 hx3 hx12
  obtain ⟨k1, k2, k3⟩ := own_cell HO3.out a mk HA.out.hn hat HM.out
  have HX := Lib.hid hx13
  have hai2 : (a : Int) < (n : Int) := by omega
  clear hx13
  go_wp2
  go_ret2
  exact (HO3.out.mark (by have := HA.out.hn; omega) m2).editS (HX.out.setCell k3 _) rfl
set_option maxRecDepth 100000 in
set_option maxHeartbeats 2000000 in
theorem mark_do_2_false (A B : Option Addr) (c d n m a : Nat) (t : List T.Ln) (p : T.Pth) (mk : Int) (w : World) (ha : EArgs w A B c d n m t p) (hR : T.RightT t) (hat : a < n) (hpa : T.pathL t a = p) (hk : T.keptL t p (m - 1) = false) (hmk : (T.at_ t a).mark = mk)  : Calls Try.prog 28 #[.slice A n c, .slice B m d, .int .i64 2, .bool false] w (EditS w (S.setM t a (turnM 3 2 mk)) 0) := by
  have hm4 : mk = 0 ∨ mk = 1 ∨ mk = 2 ∨ mk = 3 := by have := hR.mark a (by rw [ha.hn]; exact hat); omega
  have HM4 := Lib.hid hm4
  have HM := Lib.hid hmk
  obtain ⟨m2, hm2⟩ : ∃ m2, turnM 3 2 mk = m2 := ⟨_, rfl⟩
  have hor : bits BinOp.andNot IntKind.i64 mk 2 = m2 := by rw [← hm2]; exact not_turn hm4 (by omega)
  rw [hm2]
  clear hm2
  have hcl := cloneLn_any A c n t w ha.hn ha.hl ha.hA ha.hc
  have HA := Lib.hid ha
  have HR := Lib.hid hR
  have HP := Lib.hid hpa
  have HK := Lib.hid hk
  clear ha hR hpa hk hmk hm4
  go_enter Try.func28, Try.ntmps28
  go_wp2_with fail
  refine hcl.mono ?_
  rintro e w1 ⟨v1, rfl, hown, hx⟩
  obtain ⟨tg, c4, e4, hbt, _, _, _⟩ := own_block hown n a mk HA.out.hn hat HM.out
  subst e4
  have HO := Lib.hid hown
  have ha1 := HA.out.below hx
  have hf := codeFind_at A B c d n m a t p w1 ha1.hn ha1.hm ha1.hA ha1.hB ha1.hl ha1.hp HR.out hat HP.out
  clear hown hcl ha1
  go_wp2_with fail
  refine hf.mono ?_
  rintro e w2 ⟨rfl, hx2⟩
  have HO2 := Lib.hid (HO.out.keep hx2)
  have hx12 := bthen hx hx2
  have ha2 := HA.out.below hx12
  have hab := codeAbove A B c d n m t p false w2 ha2.hn ha2.hm ha2.hA ha2.hB ha2.hl ha2.hd ha2.hp ⟨(fun e => by cases e), (fun e => by have e2 := e.2; rw [HK.out] at e2; cases e2)⟩
  clear hf ha2
  go_wp2_with fail
  refine hab.mono ?_
  rintro e w3 ⟨rfl, hx3⟩
  have HO3 := Lib.hid (HO2.out.keep hx3)
  have hx13 := bthen hx12 hx3
  clear hab hx hx2 hx3 hx12
  obtain ⟨k1, k2, k3⟩ := own_cell HO3.out a mk HA.out.hn hat HM.out
  have HX := Lib.hid hx13
  have hai2 : (a : Int) < (n : Int) := by omega
  clear hx13
  go_wp2
  go_ret2
  exact (HO3.out.mark (by have := HA.out.hn; omega) m2).editS (HX.out.setCell k3 _) rfl
theorem ok_mark (A B : Option Addr) (c d n m : Nat) (t v : List T.Ln) (p : T.Pth) (bit : Int) (wd : List UInt8) (er : Int) (on : Bool) (w : World) (ha : EArgs w A B c d n m t p) (h : TurnIs t p (if on then 2 else 3) bit wd v er) : Calls Try.prog 28 #[.slice A n c, .slice B m d, .int .i64 bit, .bool on] w (EditS w v er) := by
  by_cases hbit : bit = 1 ∨ bit = 2
  · have harg : argT (if on then 2 else 3) bit wd := by
      cases on
      · exact .inr (.inr (.inl ⟨rfl, hbit⟩))
      · exact .inr (.inl ⟨rfl, hbit⟩)
    rcases h with ⟨rfl, rfl, h⟩ | ⟨_, hR, hne, ⟨hno, rfl, rfl⟩ | ⟨a, hat, hpa, h⟩⟩
    · have hbad : ¬ T.RightT v ∨ p = [] := by
        rcases h with h | h | h
        · exact absurd harg h
        · exact .inl h
        · exact .inr h
      have hf : ∀ w1, Below w.heap.size w w1 → Calls Try.prog 45 #[.slice A n c, .slice B m d] w1 (PlaceS w1 0 1) := fun w1 hx => by
        have h1 := ha.below hx
        exact codeFind_bad A B c d n m v p w1 h1.hn h1.hm h1.hA h1.hl hbad
      rcases hbit with rfl | rfl
      · exact mark_err_1 A B c d n m v p 1 on w ha (by decide) hf
      · exact mark_err_2 A B c d n m v p 1 on w ha (by decide) hf
    · have hf : ∀ w1, Below w.heap.size w w1 → Calls Try.prog 45 #[.slice A n c, .slice B m d] w1 (PlaceS w1 0 3) := fun w1 hx => by
        have h1 := ha.below hx
        exact codeFind_no A B c d n m v p w1 h1.hn h1.hm h1.hA h1.hB h1.hl h1.hp hR hne hno
      rcases hbit with rfl | rfl
      · exact mark_err_1 A B c d n m v p 3 on w ha (by decide) hf
      · exact mark_err_2 A B c d n m v p 3 on w ha (by decide) hf
    · rw [ha.hn] at hat
      have hk23 : (if on then 2 else 3) = 2 ∨ (if on then 2 else 3) = 3 := by cases on <;> simp
      rcases h with ⟨hk, _⟩ | ⟨_, ⟨hs, rfl, rfl⟩ | ⟨hs, h1, rfl, rfl⟩⟩ | ⟨hk, _⟩ | ⟨hk, _⟩
      · omega
      · rw [ha.hm] at hs
        rcases Bool.eq_false_or_eq_true (T.keptL v p (m - 1)) with hk | hk
        · rcases hbit with rfl | rfl
          · exact mark_above_1 A B c d n m a v p on w ha hR hat hpa hk
          · exact mark_above_2 A B c d n m a v p on w ha hR hat hpa hk
        · rcases hs with hs | ⟨rfl, h1⟩
          · rw [hk] at hs; cases hs
          · exact mark_own A B c d n m a v p _ on w ha hR hat hpa hk rfl h1
      · rw [ha.hm] at hs
        rcases hbit with rfl | rfl
        · cases on
          · exact mark_do_1_false A B c d n m a t p _ w ha hR hat hpa hs rfl (h1 rfl)
          · exact mark_do_1_true A B c d n m a t p _ w ha hR hat hpa hs rfl (h1 rfl)
        · cases on
          · exact mark_do_2_false A B c d n m a t p _ w ha hR hat hpa hs rfl
          · exact mark_do_2_true A B c d n m a t p _ w ha hR hat hpa hs rfl
      all_goals omega
  · have hnarg : ¬ argT (if on then 2 else 3) bit wd := by
      rintro (e | ⟨_, e⟩ | ⟨_, e⟩ | ⟨e, _⟩ | ⟨e, _⟩)
      · cases on <;> simp at e
      · exact hbit e
      · exact hbit e
      · cases on <;> simp at e
      · cases on <;> simp at e
    rcases h with ⟨rfl, rfl, _⟩ | ⟨harg, _⟩
    · exact mark_bit A B c d n m v p bit on w ha (fun e => hbit (.inl e)) (fun e => hbit (.inr e))
    · exact absurd harg hnarg
end Go.Proofs.Ytfjpeonfkhcpfaa
