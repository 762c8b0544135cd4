/-
  The code's Locked, Above, Set, Delete and Mark do what layer 7 asks. Condition: at most 2^30 lines and words.
-/
import Derived.Test.YtfjpeonfkhcpfaaEditA
import Derived.Test.YtfjpeonfkhcpfaaEditB
import Derived.Test.YtfjpeonfkhcpfaaEditN
namespace Go.Proofs.Ytfjpeonfkhcpfaa
open Go.RowKit
set_option linter.unusedVariables false

theorem ok_locked (A B : Option Addr) (c d n m : Nat) (t : List T.Ln) (p : T.Pth) (b : Bool) (w : World) (h : EArgs w A B c d n m t p) (hb : b = true ↔ T.RightT t ∧ T.Kept t p p.length) : Calls Try.prog 17 #[.slice A n c, .slice B m d] w (BoolS w b) := by
  refine codeLocked A B c d n m t p b w h.hn h.hm h.hA h.hB h.hl h.hd h.hp ?_
  rw [hb, h.hm]
  exact ⟨fun ⟨h1, h2⟩ => ⟨h1, (kept_yes h1 _ _).2 h2⟩, fun ⟨h1, h2⟩ => ⟨h1, (kept_yes h1 _ _).1 h2⟩⟩
theorem ok_above (A B : Option Addr) (c d n m : Nat) (t : List T.Ln) (p : T.Pth) (b : Bool) (w : World) (h : EArgs w A B c d n m t p) (hb : b = true ↔ T.RightT t ∧ T.Kept t p (p.length - 1)) : Calls Try.prog 19 #[.slice A n c, .slice B m d] w (BoolS w b) := by
  refine codeAbove A B c d n m t p b w h.hn h.hm h.hA h.hB h.hl h.hd h.hp ?_
  rw [hb, h.hm]
  exact ⟨fun ⟨h1, h2⟩ => ⟨h1, (kept_yes h1 _ _).2 h2⟩, fun ⟨h1, h2⟩ => ⟨h1, (kept_yes h1 _ _).1 h2⟩⟩
theorem bool_eq {b : Bool} {p : Prop} (h : b = true → p) (h2 : p → b = true) : b = true ↔ p := ⟨h, h2⟩
/-- What a slice of the call's own is to its caller. -/
theorem Own.editS {w w' : World} {v : Value} {t : List T.Ln} {er : Int} {e : Ending} (h : Own eL w' w.heap.size v t) (hb : Below w.heap.size w w') (he : e = .returned (.tuple #[v, .int .i64 er])) : EditS w t er e w' := by
  obtain ⟨A, c, e1, h2, h3⟩ := h.seen
  subst e1
  exact ⟨A, c, he, h3, h.nilOk, h2, hb⟩
set_option maxRecDepth 100000 in
set_option maxHeartbeats 1000000 in
theorem ok_set (A B : Option Addr) (c d n m : Nat) (t v : List T.Ln) (p : T.Pth) (er : Int) (w : World) (ha : EArgs w A B c d n m t p) (h : SetIs t p v er) : Calls Try.prog 30 #[.slice A n c, .slice B m d] w (EditS w v er) := by
  rcases h with ⟨rfl, h0, h1⟩ | ⟨h1, ⟨hk, rfl, rfl⟩ | ⟨hk, rfl, rfl⟩⟩
  · have hadd := lines_add A B c d n m v v p er w ha.hn ha.hm ha.hA ha.hB ha.hc ha.hnc ha.hd ha.hl ha.hp h1
    have b0 : (er == 0) = false := beq_eq_false_iff_ne.2 h0
    clear ha h1 h0
    go_enter Try.func30, Try.ntmps30
    go_wp2_with fail
    refine hadd.mono ?_
    rintro e w1 ⟨v1, rfl, hown, hx⟩
    have HO := Lib.hid hown
    clear hadd hown
    go_wp2
    go_ret2
    exact HO.out.editS hx rfl
  · have hadd := lines_add A B c d n m v (T.addL v p) p 0 w ha.hn ha.hm ha.hA ha.hB ha.hc ha.hnc ha.hd ha.hl ha.hp h1
    have HA := Lib.hid ha
    have HR := Lib.hid h1.zero.2.2.1
    have HK := Lib.hid hk
    clear ha h1 hk
    go_enter Try.func30, Try.ntmps30
    go_wp2_with fail
    refine hadd.mono ?_
    rintro e w1 ⟨v1, rfl, hown, hx⟩
    have ha1 := HA.out.below hx
    have hl := codeLocked A B c d n m v p true w1 ha1.hn ha1.hm ha1.hA ha1.hB ha1.hl ha1.hd ha1.hp ⟨fun _ => ⟨HR.out, by rw [← ha1.hm]; exact HK.out⟩, fun _ => rfl⟩
    clear hadd hown ha1
    go_wp2_with fail
    refine hl.mono ?_
    rintro e w2 ⟨rfl, hx2⟩
    have hx12 := bthen hx hx2
    have ha2 := HA.out.below hx12
    have hcl := cloneLn_any A c n v w2 ha2.hn ha2.hl ha2.hA ha2.hc
    clear hl hx hx2 ha2
    go_wp2_with fail
    refine hcl.mono ?_
    rintro e w3 ⟨v3, rfl, hown3, hx3⟩
    have HO := Lib.hid (hown3.base hx12.size)
    clear hcl hown3
    go_wp2
    go_ret2
    exact HO.out.editS (bthen hx12 hx3) rfl
  · have hadd := lines_add A B c d n m t (T.addL t p) p 0 w ha.hn ha.hm ha.hA ha.hB ha.hc ha.hnc ha.hd ha.hl ha.hp h1
    have HA := Lib.hid ha
    have HR := Lib.hid h1.zero.2.2.1
    have HK := Lib.hid hk
    clear ha h1 hk
    go_enter Try.func30, Try.ntmps30
    go_wp2_with fail
    refine hadd.mono ?_
    rintro e w1 ⟨v1, rfl, hown, hx⟩
    have HO := Lib.hid hown
    have ha1 := HA.out.below hx
    have hl := codeLocked A B c d n m t p false w1 ha1.hn ha1.hm ha1.hA ha1.hB ha1.hl ha1.hd ha1.hp ⟨(fun e => by cases e), (fun e => by have e2 := e.2; rw [← ha1.hm, HK.out] at e2; cases e2)⟩
    clear hadd hown ha1
    go_wp2_with fail
    refine hl.mono ?_
    rintro e w2 ⟨rfl, hx2⟩
    have HO2 := Lib.hid (HO.out.keep hx2)
    go_wp2
    go_ret2
    exact HO2.out.editS (bthen hx hx2) rfl

set_option maxRecDepth 100000 in
set_option maxHeartbeats 1000000 in
/-- Delete, where there is no line, or no tree. -/
theorem del_err (A B : Option Addr) (c d n m : Nat) (t : List T.Ln) (p : T.Pth) (er : Int) (w : World) (ha : EArgs w A B c d n m t p) (h0 : er ≠ 0) (hf : Calls Try.prog 45 #[.slice A n c, .slice B m d] w (PlaceS w 0 er)) : Calls Try.prog 26 #[.slice A n c, .slice B m d] w (EditS w t er) := by
  have b0 : (er == 0) = false := beq_eq_false_iff_ne.2 h0
  have b1 : (er != 0) = true := bne_iff_ne.2 h0
  have HA := Lib.hid ha
  clear ha h0
  go_enter Try.func26, Try.ntmps26
  go_wp2_with fail
  refine hf.mono ?_
  rintro e w1 ⟨rfl, hx⟩
  have ha1 := HA.out.below hx
  have hcl := cloneLn_any A c n t w1 ha1.hn ha1.hl ha1.hA ha1.hc
  clear hf ha1
  go_wp2_with fail
  refine hcl.mono ?_
  rintro e w2 ⟨v2, rfl, hown, hx2⟩
  have HO := Lib.hid (hown.base hx.size)
  clear hown hcl
  go_wp2
  go_ret2
  exact HO.out.editS (bthen hx hx2) rfl
set_option maxRecDepth 100000 in
set_option maxHeartbeats 1000000 in
theorem del_shut (A B : Option Addr) (c d n m a : Nat) (t : List T.Ln) (p : T.Pth) (w : World) (ha : EArgs w A B c d n m t p) (hR : T.RightT t) (hat : a < n) (hpa : T.pathL t a = p) (hs : shutL t p a = true) : Calls Try.prog 26 #[.slice A n c, .slice B m d] w (EditS w t 12) := by
  have hf := codeFind_at A B c d n m a t p w ha.hn ha.hm ha.hA ha.hB ha.hl ha.hp hR hat hpa
  obtain ⟨b, o, rfl, hb, hH⟩ := ha.hA (by rw [ha.hn]; omega)
  obtain ⟨bq, oq, rfl, hbq, hHq⟩ := ha.hB (by rw [← hpa]; exact List.length_pos_iff.2 T.path_ne)
  have HA := Lib.hid ha
  have HH := Lib.hid hH
  have HR := Lib.hid hR
  have HS := Lib.hid hs
  clear ha hR hpa hs hH hHq
  go_enter Try.func26, Try.ntmps26
  go_wp2_with fail
  refine hf.mono ?_
  rintro e w1 ⟨rfl, hx⟩
  have ha1 := HA.out.below hx
  have hsh := codeShut b o c bq oq d n m a t p true w1 ha1.hn ha1.hm (Nat.lt_of_lt_of_le hb hx.size) (HH.out.below hx hb) ha1.hB ha1.hnc ha1.hl ha1.hd ha1.hp hat HR.out HS.out
  clear hf ha1
  go_wp2_with fail
  refine hsh.mono ?_
  rintro e w2 ⟨rfl, hx2⟩
  have hx12 := bthen hx hx2
  have ha2 := HA.out.below hx12
  have hcl := cloneLn_any (some ⟨b, o, none⟩) c n t w2 ha2.hn ha2.hl ha2.hA ha2.hc
  clear hsh ha2 hx hx2
  go_wp2_with fail
  refine hcl.mono ?_
  rintro e w3 ⟨v3, rfl, hown, hx3⟩
  have HO := Lib.hid (hown.base hx12.size)
  clear hown hcl
  go_wp2
  go_ret2
  exact HO.out.editS (bthen hx12 hx3) rfl
set_option maxRecDepth 100000 in
set_option maxHeartbeats 1000000 in
theorem del_cut (A B : Option Addr) (c d n m a : Nat) (t : List T.Ln) (p : T.Pth) (w : World) (ha : EArgs w A B c d n m t p) (hR : T.RightT t) (hat : a < n) (hpa : T.pathL t a = p) (hs : shutL t p a = false) : Calls Try.prog 26 #[.slice A n c, .slice B m d] w (EditS w (T.cutL t a) 0) := by
  have hf := codeFind_at A B c d n m a t p w ha.hn ha.hm ha.hA ha.hB ha.hl ha.hp hR hat hpa
  obtain ⟨b, o, rfl, hb, hH⟩ := ha.hA (by rw [ha.hn]; omega)
  obtain ⟨bq, oq, rfl, hbq, hHq⟩ := ha.hB (by rw [← hpa]; exact List.length_pos_iff.2 T.path_ne)
  have HA := Lib.hid ha
  have HH := Lib.hid hH
  have HR := Lib.hid hR
  have HS := Lib.hid hs
  clear ha hR hpa hs hH hHq
  go_enter Try.func26, Try.ntmps26
  go_wp2_with fail
  refine hf.mono ?_
  rintro e w1 ⟨rfl, hx⟩
  have ha1 := HA.out.below hx
  have hsh := codeShut b o c bq oq d n m a t p false w1 ha1.hn ha1.hm (Nat.lt_of_lt_of_le hb hx.size) (HH.out.below hx hb) ha1.hB ha1.hnc ha1.hl ha1.hd ha1.hp hat HR.out HS.out
  clear hf ha1
  go_wp2_with fail
  refine hsh.mono ?_
  rintro e w2 ⟨rfl, hx2⟩
  have hx12 := bthen hx hx2
  have ha2 := HA.out.below hx12
  have hcl := codeWithout (some ⟨b, o, none⟩) c n a t w2 ha2.hn ha2.hA ha2.hc ha2.hl hat HR.out
  obtain ⟨nc, hnc⟩ : ∃ nc, (T.cutL t a).length = nc := ⟨_, rfl⟩
  rw [hnc] at hcl
  clear hsh ha2 hx hx2 hnc
  go_wp2_with fail
  refine hcl.mono ?_
  rintro e w3 ⟨g, cap, rfl, hown, hx3⟩
  have HO := Lib.hid (hown.base hx12.size)
  clear hown hcl
  go_wp2
  go_ret2
  exact HO.out.editS (bthen hx12 hx3) rfl
theorem ok_del (A B : Option Addr) (c d n m : Nat) (t v : List T.Ln) (p : T.Pth) (bit : Int) (wd : List UInt8) (er : Int) (w : World) (ha : EArgs w A B c d n m t p) (h : TurnIs t p 1 bit wd v er) : Calls Try.prog 26 #[.slice A n c, .slice B m d] w (EditS w v er) := by
  rcases h with ⟨rfl, rfl, h⟩ | ⟨_, hR, hne, ⟨hno, rfl, rfl⟩ | ⟨a, hat, hpa, h⟩⟩
  · refine del_err A B c d n m v p 1 w ha (by decide) (codeFind_bad A B c d n m v p w ha.hn ha.hm ha.hA ha.hl ?_)
    rcases h with h | h | h
    · exact absurd (.inl rfl) h
    · exact .inl h
    · exact .inr h
  · exact del_err A B c d n m v p 3 w ha (by decide) (codeFind_no A B c d n m v p w ha.hn ha.hm ha.hA ha.hB ha.hl ha.hp hR hne hno)
  · rw [ha.hn] at hat
    rcases h with ⟨_, ⟨hs, rfl, rfl⟩ | ⟨hs, rfl, rfl⟩⟩ | ⟨hk, _⟩ | ⟨hk, _⟩ | ⟨hk, _⟩
    · exact del_shut A B c d n m a v p w ha hR hat hpa hs
    · exact del_cut A B c d n m a t p w ha hR hat hpa hs
    all_goals omega
end Go.Proofs.Ytfjpeonfkhcpfaa
