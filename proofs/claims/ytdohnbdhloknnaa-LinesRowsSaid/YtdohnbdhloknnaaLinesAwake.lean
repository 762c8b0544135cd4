/-
  The fixed answer 'awake' of layer 6's statements: it returns true; below the heap's size at the call the world is as it was. No conditions.
-/
import Derived.Test.YtdohnbdhloknnaaLinesU
import Derived.Test.YtdohnbdhloknnaaLinesT
namespace Go.Proofs.Ytdohnbdhloknnaa
open Go.RowKit
set_option linter.unusedVariables false

theorem lread_ok (s : ByteArray) (t : List T.Ln) (n : Nat) (w : World) (hs : s.size ≤ 1073741824) (h : S.readL s.data.toList = .ok t) (hn : t.length = n) :
    Calls Try.prog 19 #[.string s] w (fun e w' => ∃ A cap, e = .returned (.tuple #[.slice A n cap, .int .i64 0, .int .i64 0]) ∧ n ≤ cap ∧ Own eL w' w.heap.size (.slice A n cap) t ∧ Below w.heap.size w w') :=
  (read_any s w _ hs h).mono fun e w' ⟨⟨v, he, ho⟩, hb⟩ => by
    subst hn
    obtain ⟨A, cap, rfl, hc, _⟩ := ho.seen
    exact ⟨A, cap, he, hc, ho, hb⟩
theorem lread_bad (s : ByteArray) (p : Nat) (er : Int) (w : World) (hs : s.size ≤ 1073741824) (h : S.readL s.data.toList = .bad p er) :
    Calls Try.prog 19 #[.string s] w (fun e w' => e = .returned (.tuple #[.slice none 0 0, .int .i64 (p : Int), .int .i64 er]) ∧ Below w.heap.size w w') :=
  (read_any s w _ hs h).mono fun e w' ⟨a, b⟩ => ⟨a, b⟩
theorem ltext_is (A : Option Addr) (c n : Nat) (t : List T.Ln) (l : List UInt8) (w : World) (hn : t.length = n) (hA : Seen eL w A t) (hR : T.RightT t) (h : S.cmdsT t = l) :
    Calls Try.prog 16 #[.slice A n c] w (WroteS w.heap.size w l 0) := by subst hn; subst h; exact linesText_yes A c t w hA hR
theorem Own.view {α : Type} {E : Elem α} {w : World} {base n cap : Nat} {A : Option Addr} {l : List α} (h : Own E w base (.slice A n cap) l) : Seen E w A l := by
  obtain ⟨A2, cap2, e, _, hs⟩ := h.seen
  injection e with e1
  subst e1
  exact hs

def awT6 : List T.Ln := [⟨0, [97], 0⟩, ⟨1, [98], 2⟩, ⟨1, [99], 0⟩]
def awS6 : ByteArray := ⟨#[115, 101, 116, 32, 97, 32, 99, 59, 32, 115, 101, 116, 32, 97, 32, 98, 59, 32, 112, 114, 111, 116, 101, 99, 116, 32, 97, 32, 98, 59]⟩
theorem aw_read : S.readL awS6.data.toList = .ok awT6 := by kernel_rfl
theorem aw_read2 : S.readL (⟨#[115, 101, 116, 32, 97, 59, 32, 100, 101, 97, 99, 116, 105, 118, 97, 116, 101, 32, 98, 59]⟩ : ByteArray).data.toList = .bad 7 3 := by kernel_rfl
theorem aw_cmds : S.cmdsT awT6 = [115, 101, 116, 32, 97, 32, 98, 59, 10, 115, 101, 116, 32, 97, 32, 99, 59, 10, 112, 114, 111, 116, 101, 99, 116, 32, 97, 32, 98, 59, 10] := by kernel_rfl

set_option maxRecDepth 100000 in
set_option maxHeartbeats 2000000 in
theorem awake_any (w : World) : Calls Try.prog 12 #[] w (TrueS w) := by
  have hr1 := lread_ok awS6 awT6 3 w (by decide) aw_read rfl
  unfold awS6 at hr1
  go_enter Try.func12, Try.ntmps12
  go_wp2_with fail
  refine hr1.mono ?_
  rintro e w1 ⟨A, cap, rfl, hcap, hown, hb⟩
  have HO := Lib.hid hown
  have HB := Lib.hid hb
  clear hown hb hr1
  go_wp2_with fail
  refine (ltext_is A cap 3 awT6 _ _ rfl HO.out.view (S.readL_right aw_read) aw_cmds).mono ?_
  rintro e w2 ⟨rfl, hx⟩
  have HO2 := Lib.hid (HO.out.keep hx)
  have HB2 := Lib.hid (bthen HB.out hx)
  clear hx
  go_wp2_with fail
  refine (lread_bad _ 7 3 _ (by decide) aw_read2).mono ?_
  rintro e w3 ⟨rfl, hx⟩
  have HO3 := Lib.hid (HO2.out.keep hx)
  have HB3 := Lib.hid (bthen HB2.out hx)
  clear hx HO HO2
  obtain ⟨b, e, _, _, hH⟩ := HO3.out.block (by decide)
  subst e
  obtain ⟨c0, c1, c2⟩ := hH.line (i := 1) (by decide)
  have d0 : w3.cell? ⟨b, 3, none⟩ = some (.int .i64 1) := c0
  have d1 : w3.cell? ⟨b, 4, none⟩ = some (.string ⟨#[98]⟩) := c1
  have d2 : w3.cell? ⟨b, 5, none⟩ = some (.int .i64 2) := c2
  clear c0 c1 c2 hH
  go_wp2
  go_ret
  exact ⟨rfl, HB3.out⟩
end Go.Proofs.Ytdohnbdhloknnaa
