/-
  The code's Rename and Copy do what layer 7 asks; all seven together. Condition: at most 2^30 lines and words.
-/
import Derived.Test.YtfjpeonfkhcpfaaEditF
import Derived.Test.YtfjpeonfkhcpfaaEditD
namespace Go.Proofs.Ytfjpeonfkhcpfaa
open Go.RowKit
set_option linter.unusedVariables false

theorem there_or (t : List T.Ln) (p : T.Pth) : ∃ r : Bool, (r = true ↔ thereT t p) := by
  by_cases h : thereT t p
  · exact ⟨true, ⟨fun _ => h, fun _ => rfl⟩⟩
  · exact ⟨false, ⟨(fun e => by cases e), fun e => absurd e h⟩⟩
set_option maxRecDepth 100000 in
set_option maxHeartbeats 1000000 in
theorem rename_err (A B : Option Addr) (c d n m : Nat) (t : List T.Ln) (p : T.Pth) (wd : List UInt8) (er : Int) (w : World) (ha : EArgs w A B c d n m t p) (h0 : er ≠ 0) (hf : Calls Try.prog 37 #[.slice A n c, .slice B m d, .string (sB wd)] w (PlaceS w 0 er)) : Calls Try.prog 24 #[.slice A n c, .slice B m d, .string (sB wd)] w (EditS w t er) := by
  have b1 : (er != 0) = true := bne_iff_ne.2 h0
  have HA := Lib.hid ha
  clear ha h0
  go_enter Try.func24, Try.ntmps24
  go_wp2_with fail
  refine hf.mono ?_
  rintro e w1 ⟨rfl, hx⟩
  have ha1 := HA.out.below hx
  have hcl := cloneLn_any A c n t w1 ha1.hn ha1.hl ha1.hA ha1.hc
  clear hf ha1
  go_wp2_with fail
  refine hcl.mono ?_
  rintro e w2 ⟨v2, rfl, hown, hx2⟩
  have HO := Lib.hid (hown.base hx.size)
  clear hown hcl
  go_wp2
  go_ret2
  exact HO.out.editS (bthen hx hx2) rfl
set_option maxRecDepth 100000 in
set_option maxHeartbeats 2000000 in
theorem rename_shut (A B : Option Addr) (c d n q a : Nat) (t : List T.Ln) (p : T.Pth) (wd : List UInt8) (w : World) (ha : EArgs w A B c d n (q + 1) t p) (hR : T.RightT t) (hat : a < n) (hpa : T.pathL t a = p) (h40 : wd.length ≤ 40) (hg : shutL t p a = true) : Calls Try.prog 24 #[.slice A n c, .slice B (q + 1) d, .string (sB wd)] w (EditS w t 12) := by
  have hf := codeFor A B c d n (q + 1) wd w (a : Nat) 0 h40 (codeFind_at A B c d n (q + 1) a t p w ha.hn ha.hm ha.hA ha.hB ha.hl ha.hp hR hat hpa)
  obtain ⟨b, o, rfl, hb, hH⟩ := ha.hA (by rw [ha.hn]; omega)
  obtain ⟨bq, oq, rfl, hbq, hHq⟩ := ha.hB (by rw [ha.hm]; omega)
  have hq16 : q + 1 ≤ 16 := by
    have := (S.RightN.path_deep hR (i := a) (by rw [ha.hn]; exact hat)).2
    rw [hpa, ha.hm] at this
    exact this
  have HA := Lib.hid ha
  have HH := Lib.hid hH
  have HHq := Lib.hid hHq
  have HR := Lib.hid hR
  have HP := Lib.hid hpa
  clear ha hR hpa hH hHq
  have HG := Lib.hid hg
  clear hg
  go_enter Try.func24, Try.ntmps24
  go_wp2_with fail
  refine hf.mono ?_
  rintro e w1 ⟨rfl, hx⟩
  clear hf
  have ha1 := HA.out.below hx
  have hg := codeShut b o c bq oq d n (q + 1) a t p true w1 ha1.hn ha1.hm (Nat.lt_of_lt_of_le hb hx.size) (HH.out.below hx hb) ha1.hB ha1.hnc ha1.hl ha1.hd ha1.hp hat HR.out HG.out
  clear ha1
  go_wp2_with fail
  refine hg.mono ?_
  rintro e w2 ⟨rfl, hx2⟩
  have hx12 := bthen hx hx2
  clear hg hx hx2
  have haz := HA.out.below hx12
  have hcl := cloneLn_any (some ⟨b, o, none⟩) c n t w2 haz.hn haz.hl haz.hA haz.hc
  clear haz
  go_wp2_with fail
  refine hcl.mono ?_
  rintro e wz ⟨vz, rfl, hown, hxz⟩
  have HO := Lib.hid (hown.base (show w.heap.size ≤ w2.heap.size from Below.size hx12))
  clear hown hcl
  go_wp2
  go_ret2
  exact HO.out.editS (bthen hx12 hxz) rfl
set_option maxRecDepth 100000 in
set_option maxHeartbeats 2000000 in
theorem rename_there (A B : Option Addr) (c d n q a : Nat) (t : List T.Ln) (p : T.Pth) (wd : List UInt8) (w : World) (ha : EArgs w A B c d n (q + 1) t p) (hR : T.RightT t) (hat : a < n) (hpa : T.pathL t a = p) (h40 : wd.length ≤ 40) (hg : shutL t p a = false) (hth : thereT t (p.dropLast ++ [wd])) : Calls Try.prog 24 #[.slice A n c, .slice B (q + 1) d, .string (sB wd)] w (EditS w t 4) := by
  have hf := codeFor A B c d n (q + 1) wd w (a : Nat) 0 h40 (codeFind_at A B c d n (q + 1) a t p w ha.hn ha.hm ha.hA ha.hB ha.hl ha.hp hR hat hpa)
  obtain ⟨b, o, rfl, hb, hH⟩ := ha.hA (by rw [ha.hn]; omega)
  obtain ⟨bq, oq, rfl, hbq, hHq⟩ := ha.hB (by rw [ha.hm]; omega)
  have hq16 : q + 1 ≤ 16 := by
    have := (S.RightN.path_deep hR (i := a) (by rw [ha.hn]; exact hat)).2
    rw [hpa, ha.hm] at this
    exact this
  have HA := Lib.hid ha
  have HH := Lib.hid hH
  have HHq := Lib.hid hHq
  have HR := Lib.hid hR
  have HP := Lib.hid hpa
  clear ha hR hpa hH hHq
  have HG := Lib.hid hg
  have HT := Lib.hid hth
  clear hg hth
  go_enter Try.func24, Try.ntmps24
  go_wp2_with fail
  refine hf.mono ?_
  rintro e w1 ⟨rfl, hx⟩
  clear hf
  have ha1 := HA.out.below hx
  have hg := codeShut b o c bq oq d n (q + 1) a t p false w1 ha1.hn ha1.hm (Nat.lt_of_lt_of_le hb hx.size) (HH.out.below hx hb) ha1.hB ha1.hnc ha1.hl ha1.hd ha1.hp hat HR.out HG.out
  clear ha1
  go_wp2_with fail
  refine hg.mono ?_
  rintro e w2 ⟨rfl, hx2⟩
  have hx12 := bthen hx hx2
  clear hg hx hx2
  have ha2 := HA.out.below hx12
  have hth := codeThere (some ⟨b, o, none⟩) bq oq c d n q t p wd true w2 ha2.hn ha2.hA ha2.hl ha2.hm (Nat.lt_of_lt_of_le hbq hx12.size) (HHq.out.below hx12 hbq) (by omega) HR.out ⟨(fun _ => HT.out), (fun _ => rfl)⟩
  clear ha2
  go_wp2_with fail
  refine hth.mono ?_
  rintro e w3 ⟨rfl, hx3⟩
  have hx13 := bthen hx12 hx3
  clear hth hx12 hx3
  have haz := HA.out.below hx13
  have hcl := cloneLn_any (some ⟨b, o, none⟩) c n t w3 haz.hn haz.hl haz.hA haz.hc
  clear haz
  go_wp2_with fail
  refine hcl.mono ?_
  rintro e wz ⟨vz, rfl, hown, hxz⟩
  have HO := Lib.hid (hown.base (show w.heap.size ≤ w3.heap.size from Below.size hx13))
  clear hown hcl
  go_wp2
  go_ret2
  exact HO.out.editS (bthen hx13 hxz) rfl
set_option maxRecDepth 100000 in
set_option maxHeartbeats 1000000 in
theorem copy_err (A B : Option Addr) (c d n m : Nat) (t : List T.Ln) (p : T.Pth) (wd : List UInt8) (er : Int) (w : World) (ha : EArgs w A B c d n m t p) (h0 : er ≠ 0) (hf : Calls Try.prog 37 #[.slice A n c, .slice B m d, .string (sB wd)] w (PlaceS w 0 er)) : Calls Try.prog 25 #[.slice A n c, .slice B m d, .string (sB wd)] w (EditS w t er) := by
  have b1 : (er != 0) = true := bne_iff_ne.2 h0
  have HA := Lib.hid ha
  clear ha h0
  go_enter Try.func25, Try.ntmps25
  go_wp2_with fail
  refine hf.mono ?_
  rintro e w1 ⟨rfl, hx⟩
  have ha1 := HA.out.below hx
  have hcl := cloneLn_any A c n t w1 ha1.hn ha1.hl ha1.hA ha1.hc
  clear hf ha1
  go_wp2_with fail
  refine hcl.mono ?_
  rintro e w2 ⟨v2, rfl, hown, hx2⟩
  have HO := Lib.hid (hown.base hx.size)
  clear hown hcl
  go_wp2
  go_ret2
  exact HO.out.editS (bthen hx hx2) rfl
set_option maxRecDepth 100000 in
set_option maxHeartbeats 2000000 in
theorem copy_shut (A B : Option Addr) (c d n q a : Nat) (t : List T.Ln) (p : T.Pth) (wd : List UInt8) (w : World) (ha : EArgs w A B c d n (q + 1) t p) (hR : T.RightT t) (hat : a < n) (hpa : T.pathL t a = p) (h40 : wd.length ≤ 40) (hg : T.keptL t p q = true) : Calls Try.prog 25 #[.slice A n c, .slice B (q + 1) d, .string (sB wd)] w (EditS w t 12) := by
  have hf := codeFor A B c d n (q + 1) wd w (a : Nat) 0 h40 (codeFind_at A B c d n (q + 1) a t p w ha.hn ha.hm ha.hA ha.hB ha.hl ha.hp hR hat hpa)
  obtain ⟨b, o, rfl, hb, hH⟩ := ha.hA (by rw [ha.hn]; omega)
  obtain ⟨bq, oq, rfl, hbq, hHq⟩ := ha.hB (by rw [ha.hm]; omega)
  have hq16 : q + 1 ≤ 16 := by
    have := (S.RightN.path_deep hR (i := a) (by rw [ha.hn]; exact hat)).2
    rw [hpa, ha.hm] at this
    exact this
  have HA := Lib.hid ha
  have HH := Lib.hid hH
  have HHq := Lib.hid hHq
  have HR := Lib.hid hR
  have HP := Lib.hid hpa
  clear ha hR hpa hH hHq
  have HG := Lib.hid hg
  clear hg
  go_enter Try.func25, Try.ntmps25
  go_wp2_with fail
  refine hf.mono ?_
  rintro e w1 ⟨rfl, hx⟩
  clear hf
  have ha1 := HA.out.below hx
  have hg := codeAbove (some ⟨b, o, none⟩) (some ⟨bq, oq, none⟩) c d n (q + 1) t p true w1 ha1.hn ha1.hm ha1.hA ha1.hB ha1.hl ha1.hd ha1.hp ⟨(fun _ => ⟨HR.out, HG.out⟩), (fun _ => rfl)⟩
  clear ha1
  go_wp2_with fail
  refine hg.mono ?_
  rintro e w2 ⟨rfl, hx2⟩
  have hx12 := bthen hx hx2
  clear hg hx hx2
  have haz := HA.out.below hx12
  have hcl := cloneLn_any (some ⟨b, o, none⟩) c n t w2 haz.hn haz.hl haz.hA haz.hc
  clear haz
  go_wp2_with fail
  refine hcl.mono ?_
  rintro e wz ⟨vz, rfl, hown, hxz⟩
  have HO := Lib.hid (hown.base (show w.heap.size ≤ w2.heap.size from Below.size hx12))
  clear hown hcl
  go_wp2
  go_ret2
  exact HO.out.editS (bthen hx12 hxz) rfl
set_option maxRecDepth 100000 in
set_option maxHeartbeats 2000000 in
theorem copy_there (A B : Option Addr) (c d n q a : Nat) (t : List T.Ln) (p : T.Pth) (wd : List UInt8) (w : World) (ha : EArgs w A B c d n (q + 1) t p) (hR : T.RightT t) (hat : a < n) (hpa : T.pathL t a = p) (h40 : wd.length ≤ 40) (hg : T.keptL t p q = false) (hth : thereT t (p.dropLast ++ [wd])) : Calls Try.prog 25 #[.slice A n c, .slice B (q + 1) d, .string (sB wd)] w (EditS w t 4) := by
  have hf := codeFor A B c d n (q + 1) wd w (a : Nat) 0 h40 (codeFind_at A B c d n (q + 1) a t p w ha.hn ha.hm ha.hA ha.hB ha.hl ha.hp hR hat hpa)
  obtain ⟨b, o, rfl, hb, hH⟩ := ha.hA (by rw [ha.hn]; omega)
  obtain ⟨bq, oq, rfl, hbq, hHq⟩ := ha.hB (by rw [ha.hm]; omega)
  have hq16 : q + 1 ≤ 16 := by
    have := (S.RightN.path_deep hR (i := a) (by rw [ha.hn]; exact hat)).2
    rw [hpa, ha.hm] at this
    exact this
  have HA := Lib.hid ha
  have HH := Lib.hid hH
  have HHq := Lib.hid hHq
  have HR := Lib.hid hR
  have HP := Lib.hid hpa
  clear ha hR hpa hH hHq
  have HG := Lib.hid hg
  have HT := Lib.hid hth
  clear hg hth
  go_enter Try.func25, Try.ntmps25
  go_wp2_with fail
  refine hf.mono ?_
  rintro e w1 ⟨rfl, hx⟩
  clear hf
  have ha1 := HA.out.below hx
  have hg := codeAbove (some ⟨b, o, none⟩) (some ⟨bq, oq, none⟩) c d n (q + 1) t p false w1 ha1.hn ha1.hm ha1.hA ha1.hB ha1.hl ha1.hd ha1.hp ⟨(fun e => by cases e), (fun e => by have e2 := e.2; rw [Nat.add_sub_cancel, HG.out] at e2; cases e2)⟩
  clear ha1
  go_wp2_with fail
  refine hg.mono ?_
  rintro e w2 ⟨rfl, hx2⟩
  have hx12 := bthen hx hx2
  clear hg hx hx2
  have ha2 := HA.out.below hx12
  have hth := codeThere (some ⟨b, o, none⟩) bq oq c d n q t p wd true w2 ha2.hn ha2.hA ha2.hl ha2.hm (Nat.lt_of_lt_of_le hbq hx12.size) (HHq.out.below hx12 hbq) (by omega) HR.out ⟨(fun _ => HT.out), (fun _ => rfl)⟩
  clear ha2
  go_wp2_with fail
  refine hth.mono ?_
  rintro e w3 ⟨rfl, hx3⟩
  have hx13 := bthen hx12 hx3
  clear hth hx12 hx3
  have haz := HA.out.below hx13
  have hcl := cloneLn_any (some ⟨b, o, none⟩) c n t w3 haz.hn haz.hl haz.hA haz.hc
  clear haz
  go_wp2_with fail
  refine hcl.mono ?_
  rintro e wz ⟨vz, rfl, hown, hxz⟩
  have HO := Lib.hid (hown.base (show w.heap.size ≤ w3.heap.size from Below.size hx13))
  clear hown hcl
  go_wp2
  go_ret2
  exact HO.out.editS (bthen hx13 hxz) rfl
set_option maxRecDepth 100000 in
set_option maxHeartbeats 2000000 in
theorem copy_long (A B : Option Addr) (c d n q a : Nat) (t : List T.Ln) (p : T.Pth) (wd : List UInt8) (w : World) (ha : EArgs w A B c d n (q + 1) t p) (hR : T.RightT t) (hat : a < n) (hpa : T.pathL t a = p) (h40 : wd.length ≤ 40) (hg : T.keptL t p q = false) (hth : ¬ thereT t (p.dropLast ++ [wd])) (hlg : 200 < t.length + (T.endL t a - a)) : Calls Try.prog 25 #[.slice A n c, .slice B (q + 1) d, .string (sB wd)] w (EditS w t 5) := by
  obtain ⟨e0, he⟩ : ∃ e, T.endL t a = e := ⟨_, rfl⟩
  obtain ⟨g1, g2, _⟩ := T.end_spec t a (by rw [ha.hn]; exact hat)
  rw [he, ha.hn] at g2
  rw [he] at g1
  rw [he, ha.hn] at hlg
  have hf := codeFor A B c d n (q + 1) wd w (a : Nat) 0 h40 (codeFind_at A B c d n (q + 1) a t p w ha.hn ha.hm ha.hA ha.hB ha.hl ha.hp hR hat hpa)
  obtain ⟨b, o, rfl, hb, hH⟩ := ha.hA (by rw [ha.hn]; omega)
  obtain ⟨bq, oq, rfl, hbq, hHq⟩ := ha.hB (by rw [ha.hm]; omega)
  have hq16 : q + 1 ≤ 16 := by
    have := (S.RightN.path_deep hR (i := a) (by rw [ha.hn]; exact hat)).2
    rw [hpa, ha.hm] at this
    exact this
  have HA := Lib.hid ha
  have HH := Lib.hid hH
  have HHq := Lib.hid hHq
  have HR := Lib.hid hR
  have HP := Lib.hid hpa
  clear ha hR hpa hH hHq
  have HG := Lib.hid hg
  have HT := Lib.hid hth
  have HE := Lib.hid he
  clear hg hth he
  have hn2 : n ≤ 200 := by have := HR.out.len; have := HA.out.hn; omega
  have hwr : IntKind.i64.wrap ((n : Int) + ((e0 - a : Nat) : Int)) = (n : Int) + ((e0 - a : Nat) : Int) := by rw [IntKind.wrap_i64]; omega
  obtain ⟨k, hk⟩ : ∃ k, e0 - a = k := ⟨_, rfl⟩
  have HK := Lib.hid hk
  rw [hk] at hwr hlg
  have blg : decide ((200 : Int) < (n : Int) + (k : Int)) = true := decide_eq_true (by omega)
  clear hk
  go_enter Try.func25, Try.ntmps25
  go_wp2_with fail
  refine hf.mono ?_
  rintro e w1 ⟨rfl, hx⟩
  clear hf
  have ha1 := HA.out.below hx
  have hg := codeAbove (some ⟨b, o, none⟩) (some ⟨bq, oq, none⟩) c d n (q + 1) t p false w1 ha1.hn ha1.hm ha1.hA ha1.hB ha1.hl ha1.hd ha1.hp ⟨(fun e => by cases e), (fun e => by have e2 := e.2; rw [Nat.add_sub_cancel, HG.out] at e2; cases e2)⟩
  clear ha1
  go_wp2_with fail
  refine hg.mono ?_
  rintro e w2 ⟨rfl, hx2⟩
  have hx12 := bthen hx hx2
  clear hg hx hx2
  have ha2 := HA.out.below hx12
  have hth := codeThere (some ⟨b, o, none⟩) bq oq c d n q t p wd false w2 ha2.hn ha2.hA ha2.hl ha2.hm (Nat.lt_of_lt_of_le hbq hx12.size) (HHq.out.below hx12 hbq) (by omega) HR.out ⟨(fun e => by cases e), (fun e => absurd e HT.out)⟩
  clear ha2
  go_wp2_with fail
  refine hth.mono ?_
  rintro e w3 ⟨rfl, hx3⟩
  have hx13 := bthen hx12 hx3
  clear hth hx12 hx3
  have hpt := codePart b o c n a e0 t w3 HA.out.hn (Nat.lt_of_lt_of_le hb (Below.size hx13)) (HH.out.below hx13 hb) HA.out.hnc HA.out.hl hat HE.out HR.out
  go_wp2_with fail
  refine hpt.mono ?_
  rintro e w4 ⟨rfl, hx4⟩
  have hx14 := bthen hx13 hx4
  clear hpt
  rw [HK.out]
  clear hx13 hx4
  have haz := HA.out.below hx14
  have hcl := cloneLn_any (some ⟨b, o, none⟩) c n t w4 haz.hn haz.hl haz.hA haz.hc
  clear haz
  go_wp2_with fail
  refine hcl.mono ?_
  rintro e wz ⟨vz, rfl, hown, hxz⟩
  have HO := Lib.hid (hown.base (show w.heap.size ≤ w4.heap.size from Below.size hx14))
  clear hown hcl
  go_wp2
  go_ret2
  exact HO.out.editS (bthen hx14 hxz) rfl
set_option maxRecDepth 100000 in
set_option maxHeartbeats 2000000 in
theorem copy_put (A B : Option Addr) (c d n q a : Nat) (t : List T.Ln) (p : T.Pth) (wd : List UInt8) (w : World) (ha : EArgs w A B c d n (q + 1) t p) (hR : T.RightT t) (hat : a < n) (hpa : T.pathL t a = p) (h40 : wd.length ≤ 40) (hg : T.keptL t p q = false) (hth : ¬ thereT t (p.dropLast ++ [wd])) (hlg : t.length + (T.endL t a - a) ≤ 200) : Calls Try.prog 25 #[.slice A n c, .slice B (q + 1) d, .string (sB wd)] w (EditS w (T.putAll (p.dropLast ++ [wd]) t (T.partE t a)) 0) := by
  obtain ⟨e0, he⟩ : ∃ e, T.endL t a = e := ⟨_, rfl⟩
  obtain ⟨g1, g2, _⟩ := T.end_spec t a (by rw [ha.hn]; exact hat)
  rw [he, ha.hn] at g2
  rw [he] at g1
  rw [he, ha.hn] at hlg
  have HL := Lib.hid (show (p.dropLast ++ [wd]).length = q + 1 by rw [List.length_append, List.length_dropLast, ha.hm]; rfl)
  have HUP := Lib.hid (show ∀ x ∈ p.dropLast, x.length ≤ 40 from fun x hx => by
    have := S.RightN.path_long hR a a (Nat.le_refl _) (by rw [ha.hn]; exact hat) x
    rw [hpa] at this
    exact this (List.dropLast_subset _ hx))
  have hf := codeFor A B c d n (q + 1) wd w (a : Nat) 0 h40 (codeFind_at A B c d n (q + 1) a t p w ha.hn ha.hm ha.hA ha.hB ha.hl ha.hp hR hat hpa)
  obtain ⟨b, o, rfl, hb, hH⟩ := ha.hA (by rw [ha.hn]; omega)
  obtain ⟨bq, oq, rfl, hbq, hHq⟩ := ha.hB (by rw [ha.hm]; omega)
  have hq16 : q + 1 ≤ 16 := by
    have := (S.RightN.path_deep hR (i := a) (by rw [ha.hn]; exact hat)).2
    rw [hpa, ha.hm] at this
    exact this
  have HA := Lib.hid ha
  have HH := Lib.hid hH
  have HHq := Lib.hid hHq
  have HR := Lib.hid hR
  have HP := Lib.hid hpa
  clear ha hR hpa hH hHq
  have HG := Lib.hid hg
  have HT := Lib.hid hth
  have HE := Lib.hid he
  have HOP := Lib.hid (show T.Open t p.dropLast by have := T.path_up HR.out (a := a) (by rw [HA.out.hn]; exact hat); rw [HP.out] at this; exact this)
  clear hg hth he
  have hn2 : n ≤ 200 := by have := HR.out.len; have := HA.out.hn; omega
  have hwr : IntKind.i64.wrap ((n : Int) + ((e0 - a : Nat) : Int)) = (n : Int) + ((e0 - a : Nat) : Int) := by rw [IntKind.wrap_i64]; omega
  obtain ⟨k, hk⟩ : ∃ k, e0 - a = k := ⟨_, rfl⟩
  have HK := Lib.hid hk
  rw [hk] at hwr hlg
  have blg : decide ((200 : Int) < (n : Int) + (k : Int)) = false := decide_eq_false (by omega)
  clear hk
  go_enter Try.func25, Try.ntmps25
  go_wp2_with fail
  refine hf.mono ?_
  rintro e w1 ⟨rfl, hx⟩
  clear hf
  have ha1 := HA.out.below hx
  have hg := codeAbove (some ⟨b, o, none⟩) (some ⟨bq, oq, none⟩) c d n (q + 1) t p false w1 ha1.hn ha1.hm ha1.hA ha1.hB ha1.hl ha1.hd ha1.hp ⟨(fun e => by cases e), (fun e => by have e2 := e.2; rw [Nat.add_sub_cancel, HG.out] at e2; cases e2)⟩
  clear ha1
  go_wp2_with fail
  refine hg.mono ?_
  rintro e w2 ⟨rfl, hx2⟩
  have hx12 := bthen hx hx2
  clear hg hx hx2
  have ha2 := HA.out.below hx12
  have hth := codeThere (some ⟨b, o, none⟩) bq oq c d n q t p wd false w2 ha2.hn ha2.hA ha2.hl ha2.hm (Nat.lt_of_lt_of_le hbq hx12.size) (HHq.out.below hx12 hbq) (by omega) HR.out ⟨(fun e => by cases e), (fun e => absurd e HT.out)⟩
  clear ha2
  go_wp2_with fail
  refine hth.mono ?_
  rintro e w3 ⟨rfl, hx3⟩
  have hx13 := bthen hx12 hx3
  clear hth hx12 hx3
  have hpt := codePart b o c n a e0 t w3 HA.out.hn (Nat.lt_of_lt_of_le hb (Below.size hx13)) (HH.out.below hx13 hb) HA.out.hnc HA.out.hl hat HE.out HR.out
  go_wp2_with fail
  refine hpt.mono ?_
  rintro e w4 ⟨rfl, hx4⟩
  have hx14 := bthen hx13 hx4
  clear hpt
  rw [HK.out]
  clear hx13 hx4
  have hbe := beside_any bq oq d q p wd w4 HA.out.hm (Nat.lt_of_lt_of_le hbq (Below.size hx14)) (HHq.out.below hx14 hbq) (by omega)
  go_wp2_with fail
  refine hbe.mono ?_
  rintro e w5 ⟨g2b, cap2, rfl, hown2, hcap2, hx5⟩
  have hx15 := bthen hx14 hx5
  obtain ⟨g2c, e2, _, hg2, hHB⟩ := hown2.block (by rw [HL.out]; omega)
  injection e2 with e2
  injection e2 with e2
  subst e2
  have HHB := Lib.hid hHB
  clear hbe hown2 hHB
  have hg5 : g2b < w5.heap.size := hg2
  clear hx14 hx5
  have hpt := codePart b o c n a e0 t w5 HA.out.hn (Nat.lt_of_lt_of_le hb (Below.size hx15)) (HH.out.below hx15 hb) HA.out.hnc HA.out.hl hat HE.out HR.out
  go_wp2_with fail
  refine hpt.mono ?_
  rintro e w6 ⟨rfl, hx6⟩
  have hx16 := bthen hx15 hx6
  clear hpt
  have HHB6 := Lib.hid (HHB.out.below hx6 hg5)
  have hg6 : g2b < w6.heap.size := Nat.lt_of_lt_of_le hg5 hx6.size
  clear hx15 hx6
  have hap := HA.out.below hx16
  have hput := codePutPart (some ⟨b, o, none⟩) g2b 0 cap2 c n (q + 1) b o c a e0 t t p.dropLast wd w6 hap.hn hap.hA hap.hc hap.hnc HL.out hg6 HHB6.out hcap2 HR.out HOP.out HT.out h40 HR.out (by rw [HA.out.hn]; exact hat) (by rw [HL.out, HP.out, HA.out.hm]) HUP.out HE.out (by rw [HK.out]; exact hlg) (Nat.lt_of_lt_of_le hb (Below.size hx16)) (HH.out.below hx16 hb) (by rw [HA.out.hn]; exact HA.out.hnc)
  clear hap
  go_wp2_with fail
  refine hput.mono ?_
  rintro e wz ⟨vz, rfl, hown, hxz⟩
  have HO := Lib.hid (hown.base (show w.heap.size ≤ w6.heap.size from Below.size hx16))
  clear hown hput
  go_wp2
  go_ret2
  exact HO.out.editS (bthen hx16 hxz) rfl
set_option maxRecDepth 100000 in
set_option maxHeartbeats 2000000 in
theorem rename_put (A B : Option Addr) (c d n q a : Nat) (t : List T.Ln) (p : T.Pth) (wd : List UInt8) (w : World) (ha : EArgs w A B c d n (q + 1) t p) (hR : T.RightT t) (hat : a < n) (hpa : T.pathL t a = p) (h40 : wd.length ≤ 40) (hg : shutL t p a = false) (hth : ¬ thereT t (p.dropLast ++ [wd])) : Calls Try.prog 24 #[.slice A n c, .slice B (q + 1) d, .string (sB wd)] w (EditS w (T.putAll (p.dropLast ++ [wd]) (T.cutL t a) (T.partE t a)) 0) := by
  obtain ⟨e0, he⟩ : ∃ e, T.endL t a = e := ⟨_, rfl⟩
  obtain ⟨g1, g2, _⟩ := T.end_spec t a (by rw [ha.hn]; exact hat)
  rw [he, ha.hn] at g2
  rw [he] at g1
  have hmp := move_pre hR (a := a) (by rw [ha.hn]; exact hat) (w := wd) (by rw [hpa]; exact hth)
  have hpl := T.part_len (t := t) (a := a) (by rw [ha.hn]; exact hat)
  rw [hpa, hpl, he] at hmp
  obtain ⟨c1, c2, c3, c4⟩ := hmp
  have HC1 := Lib.hid c1
  have HC2 := Lib.hid c2
  have HC3 := Lib.hid (show ¬ thereT (T.cutL t a) (p.dropLast ++ [wd]) from fun ⟨i, hi, e⟩ => c3 i hi e)
  obtain ⟨nc, hnc⟩ : ∃ nc, (T.cutL t a).length = nc := ⟨_, rfl⟩
  rw [hnc] at c4
  have HNC := Lib.hid hnc
  clear c1 c2 c3 hnc hpl
  have HL := Lib.hid (show (p.dropLast ++ [wd]).length = q + 1 by rw [List.length_append, List.length_dropLast, ha.hm]; rfl)
  have HUP := Lib.hid (show ∀ x ∈ p.dropLast, x.length ≤ 40 from fun x hx => by
    have := S.RightN.path_long hR a a (Nat.le_refl _) (by rw [ha.hn]; exact hat) x
    rw [hpa] at this
    exact this (List.dropLast_subset _ hx))
  have hf := codeFor A B c d n (q + 1) wd w (a : Nat) 0 h40 (codeFind_at A B c d n (q + 1) a t p w ha.hn ha.hm ha.hA ha.hB ha.hl ha.hp hR hat hpa)
  obtain ⟨b, o, rfl, hb, hH⟩ := ha.hA (by rw [ha.hn]; omega)
  obtain ⟨bq, oq, rfl, hbq, hHq⟩ := ha.hB (by rw [ha.hm]; omega)
  have hq16 : q + 1 ≤ 16 := by
    have := (S.RightN.path_deep hR (i := a) (by rw [ha.hn]; exact hat)).2
    rw [hpa, ha.hm] at this
    exact this
  have HA := Lib.hid ha
  have HH := Lib.hid hH
  have HHq := Lib.hid hHq
  have HR := Lib.hid hR
  have HP := Lib.hid hpa
  clear ha hR hpa hH hHq
  have HG := Lib.hid hg
  have HT := Lib.hid hth
  have HE := Lib.hid he
  clear hg hth he
  go_enter Try.func24, Try.ntmps24
  go_wp2_with fail
  refine hf.mono ?_
  rintro e w1 ⟨rfl, hx⟩
  clear hf
  have ha1 := HA.out.below hx
  have hg := codeShut b o c bq oq d n (q + 1) a t p false w1 ha1.hn ha1.hm (Nat.lt_of_lt_of_le hb hx.size) (HH.out.below hx hb) ha1.hB ha1.hnc ha1.hl ha1.hd ha1.hp hat HR.out HG.out
  clear ha1
  go_wp2_with fail
  refine hg.mono ?_
  rintro e w2 ⟨rfl, hx2⟩
  have hx12 := bthen hx hx2
  clear hg hx hx2
  have ha2 := HA.out.below hx12
  have hth := codeThere (some ⟨b, o, none⟩) bq oq c d n q t p wd false w2 ha2.hn ha2.hA ha2.hl ha2.hm (Nat.lt_of_lt_of_le hbq hx12.size) (HHq.out.below hx12 hbq) (by omega) HR.out ⟨(fun e => by cases e), (fun e => absurd e HT.out)⟩
  clear ha2
  go_wp2_with fail
  refine hth.mono ?_
  rintro e w3 ⟨rfl, hx3⟩
  have hx13 := bthen hx12 hx3
  clear hth hx12 hx3
  have ha3 := HA.out.below hx13
  have hwo := codeWithout (some ⟨b, o, none⟩) c n a t w3 ha3.hn ha3.hA ha3.hc ha3.hl hat HR.out
  rw [HNC.out] at hwo
  clear ha3
  go_wp2_with fail
  refine hwo.mono ?_
  rintro e w4 ⟨g, cap, rfl, hown, hx4⟩
  have HO4 := Lib.hid hown
  have hx14 := bthen hx13 hx4
  clear hwo hown hx13 hx4
  have hbe := beside_any bq oq d q p wd w4 HA.out.hm (Nat.lt_of_lt_of_le hbq (Below.size hx14)) (HHq.out.below hx14 hbq) (by omega)
  go_wp2_with fail
  refine hbe.mono ?_
  rintro e w5 ⟨g2b, cap2, rfl, hown2, hcap2, hx5⟩
  have hx15 := bthen hx14 hx5
  obtain ⟨g2c, e2, _, hg2, hHB⟩ := hown2.block (by rw [HL.out]; omega)
  injection e2 with e2
  injection e2 with e2
  subst e2
  have HHB := Lib.hid hHB
  clear hbe hown2 hHB
  have hg5 : g2b < w5.heap.size := hg2
  have HO5 := Lib.hid (HO4.out.keep hx5)
  clear hx14 hx5
  have hpt := codePart b o c n a e0 t w5 HA.out.hn (Nat.lt_of_lt_of_le hb (Below.size hx15)) (HH.out.below hx15 hb) HA.out.hnc HA.out.hl hat HE.out HR.out
  go_wp2_with fail
  refine hpt.mono ?_
  rintro e w6 ⟨rfl, hx6⟩
  have hx16 := bthen hx15 hx6
  clear hpt
  have HHB6 := Lib.hid (HHB.out.below hx6 hg5)
  have hg6 : g2b < w6.heap.size := Nat.lt_of_lt_of_le hg5 hx6.size
  have HO6 := Lib.hid (HO5.out.keep hx6)
  obtain ⟨cur6, _, _, _, hcap6, _, _, _⟩ := HO6.out.parts
  clear hx15 hx6
  have hap := HA.out.below hx16
  have hput := codePutPart (some ⟨g, 0, none⟩) g2b 0 cap2 cap nc (q + 1) b o c a e0 (T.cutL t a) t p.dropLast wd w6 HNC.out (Own.sight HO6.out) (fun e => by cases e) hcap6 HL.out hg6 HHB6.out hcap2 HC1.out HC2.out HC3.out h40 HR.out (by rw [HA.out.hn]; exact hat) (by rw [HL.out, HP.out, HA.out.hm]) HUP.out HE.out c4 (Nat.lt_of_lt_of_le hb (Below.size hx16)) (HH.out.below hx16 hb) (by rw [HA.out.hn]; exact HA.out.hnc)
  clear hap
  go_wp2_with fail
  refine hput.mono ?_
  rintro e wz ⟨vz, rfl, hown, hxz⟩
  have HO := Lib.hid (hown.base (show w.heap.size ≤ w6.heap.size from Below.size hx16))
  clear hown hput
  go_wp2
  go_ret2
  exact HO.out.editS (bthen hx16 hxz) rfl
theorem ok_rename (A B : Option Addr) (c d n m : Nat) (t v : List T.Ln) (p : T.Pth) (bit : Int) (wd : List UInt8) (er : Int) (w : World) (ha : EArgs w A B c d n m t p) (h : TurnIs t p 4 bit wd v er) : Calls Try.prog 24 #[.slice A n c, .slice B m d, .string (sB wd)] w (EditS w v er) := by
  by_cases h40 : wd.length ≤ 40
  · rcases h with ⟨rfl, rfl, h⟩ | ⟨_, hR, hne, ⟨hno, rfl, rfl⟩ | ⟨a, hat, hpa, h⟩⟩
    · refine rename_err A B c d n m v p wd 1 w ha (by decide) (codeFor A B c d n m wd w 0 1 h40 (codeFind_bad A B c d n m v p w ha.hn ha.hm ha.hA ha.hl ?_))
      rcases h with h | h | h
      · exact absurd (by unfold argT; omega) h
      · exact .inl h
      · exact .inr h
    · exact rename_err A B c d n m v p wd 3 w ha (by decide) (codeFor A B c d n m wd w 0 3 h40 (codeFind_no A B c d n m v p w ha.hn ha.hm ha.hA ha.hB ha.hl ha.hp hR hne hno))
    · rw [ha.hn] at hat
      obtain ⟨q, rfl⟩ : ∃ q, m = q + 1 := ⟨m - 1, by have := List.length_pos_iff.2 hne; have := ha.hm; omega⟩
      rcases h with ⟨hk, _⟩ | ⟨hk, _⟩ | ⟨hk, h⟩ | ⟨hk, h⟩
      · omega
      · omega
      · rcases h with ⟨hs, rfl, rfl⟩ | ⟨hs, ⟨ht, rfl, rfl⟩ | ⟨ht, rfl, rfl⟩⟩
        · exact rename_shut A B c d n q a v p wd w ha hR hat hpa h40 hs
        · exact rename_there A B c d n q a v p wd w ha hR hat hpa h40 hs ht
        · exact rename_put A B c d n q a t p wd w ha hR hat hpa h40 hs ht
      · omega
  · rcases h with ⟨rfl, rfl, _⟩ | ⟨harg, _⟩
    · exact rename_err A B c d n m v p wd 1 w ha (by decide) (codeFor_long A B c d n m wd w (by omega))
    · exact absurd (by rcases harg with e | ⟨e, _⟩ | ⟨e, _⟩ | ⟨e, h⟩ | ⟨e, h⟩ <;> omega) h40
theorem ok_copy (A B : Option Addr) (c d n m : Nat) (t v : List T.Ln) (p : T.Pth) (bit : Int) (wd : List UInt8) (er : Int) (w : World) (ha : EArgs w A B c d n m t p) (h : TurnIs t p 5 bit wd v er) : Calls Try.prog 25 #[.slice A n c, .slice B m d, .string (sB wd)] w (EditS w v er) := by
  by_cases h40 : wd.length ≤ 40
  · rcases h with ⟨rfl, rfl, h⟩ | ⟨_, hR, hne, ⟨hno, rfl, rfl⟩ | ⟨a, hat, hpa, h⟩⟩
    · refine copy_err A B c d n m v p wd 1 w ha (by decide) (codeFor A B c d n m wd w 0 1 h40 (codeFind_bad A B c d n m v p w ha.hn ha.hm ha.hA ha.hl ?_))
      rcases h with h | h | h
      · exact absurd (by unfold argT; omega) h
      · exact .inl h
      · exact .inr h
    · exact copy_err A B c d n m v p wd 3 w ha (by decide) (codeFor A B c d n m wd w 0 3 h40 (codeFind_no A B c d n m v p w ha.hn ha.hm ha.hA ha.hB ha.hl ha.hp hR hne hno))
    · rw [ha.hn] at hat
      obtain ⟨q, rfl⟩ : ∃ q, m = q + 1 := ⟨m - 1, by have := List.length_pos_iff.2 hne; have := ha.hm; omega⟩
      rcases h with ⟨hk, _⟩ | ⟨hk, _⟩ | ⟨hk, h⟩ | ⟨hk, h⟩
      · omega
      · omega
      · omega
      · rw [ha.hm, Nat.add_sub_cancel] at h
        rcases h with ⟨hs, rfl, rfl⟩ | ⟨hs, ⟨ht, rfl, rfl⟩ | ⟨ht, ⟨hl, rfl, rfl⟩ | ⟨hl, rfl, rfl⟩⟩⟩
        · exact copy_shut A B c d n q a v p wd w ha hR hat hpa h40 hs
        · exact copy_there A B c d n q a v p wd w ha hR hat hpa h40 hs ht
        · exact copy_long A B c d n q a v p wd w ha hR hat hpa h40 hs ht hl
        · exact copy_put A B c d n q a t p wd w ha hR hat hpa h40 hs ht hl
  · rcases h with ⟨rfl, rfl, _⟩ | ⟨harg, _⟩
    · exact copy_err A B c d n m v p wd 1 w ha (by decide) (codeFor_long A B c d n m wd w (by omega))
    · exact absurd (by rcases harg with e | ⟨e, _⟩ | ⟨e, _⟩ | ⟨e, h⟩ | ⟨e, h⟩ <;> omega) h40
theorem edit_ok : EditOk where
  set := ok_set
  del := ok_del
  mark := ok_mark
  rename := ok_rename
  copy := ok_copy
  locked := ok_locked
  above := ok_above
end Go.Proofs.Ytfjpeonfkhcpfaa
