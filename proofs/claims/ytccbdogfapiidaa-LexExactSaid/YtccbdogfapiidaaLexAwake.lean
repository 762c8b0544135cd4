/-
  The fixed answer 'awake' of layer 2's statements: it returns true; below the heap's size at the call the world is as it was. No conditions.
-/
import Derived.Test.YtccbdogfapiidaaLexAll
import Derived.Test.YtccbdogfapiidaaLexPlace
namespace Go.Proofs.Ytccbdogfapiidaa
open Go.RowKit

def TrueS (w : World) (e : Ending) (w' : World) : Prop := e = .returned (.bool true) ∧ Below w.heap.size w w'
theorem bthen {a b c : World} (h : Below a.heap.size a b) (k : Below b.heap.size b c) : Below a.heap.size a c := h.trans (k.mono h.size)

def awText : ByteArray := ⟨#[112, 114, 111, 116, 101, 99, 116, 58, 32, 97, 32, 123, 32, 34, 98, 32, 99, 34, 59, 32, 125, 32, 35, 32, 120]⟩
def awToks : List W.Tok := [⟨5, 0, [], 2⟩, ⟨1, 9, [97], 0⟩, ⟨2, 11, [], 0⟩, ⟨1, 13, [98, 32, 99], 0⟩, ⟨4, 18, [], 0⟩, ⟨3, 20, [], 0⟩]
theorem aw_lex1 : W.lexL 0 awText.data.toList = .ok awToks := by kernel_rfl
theorem aw_lex2 : W.lexL 0 (⟨#[97, 32, 44]⟩ : ByteArray).data.toList = .bad 2 2 := by kernel_rfl

/-- What All leaves, seen by the caller. -/
def SawT (w : World) (r : W.Res) (e : Ending) (w' : World) : Prop :=
  ∃ v, e = .returned (.tuple #[v, .int .i64 (r.place : Int), .int .i64 r.err]) ∧ SeenT w' v r.toks ∧ Below w.heap.size w w'
theorem all_saw (s : ByteArray) (r : W.Res) (w : World) (hs : s.size ≤ 1073741824) (h : W.lexL 0 s.data.toList = r) :
    Calls Try.prog 11 #[.string s] w (SawT w r) := by
  rw [← h]
  exact (all_any s w hs).mono fun e w' ⟨v, he, ho, hb⟩ => ⟨v, he, ho.seen, hb⟩
/-- The tokens of a text that has some. -/
theorem all_some (s : ByteArray) (l : List W.Tok) (w : World) (hs : s.size ≤ 1073741824) (h : W.lexL 0 s.data.toList = .ok l) (hl : 0 < l.length) :
    Calls Try.prog 11 #[.string s] w fun e w' => ∃ g cap, e = .returned (.tuple #[.slice (some ⟨g, 0, none⟩) l.length cap, .int .i64 0, .int .i64 0]) ∧ HoldsT w' g l ∧ Below w.heap.size w w' :=
  (all_saw s _ w hs h).mono fun e w' ⟨v, he, ho, hb⟩ => by
    obtain ⟨A, cap, rfl, hh⟩ := ho
    obtain ⟨g, rfl, hg⟩ := hh hl
    exact ⟨g, cap, he, hg, hb⟩
/-- The error of a text that has one. -/
theorem all_err (s : ByteArray) (p : Nat) (er : Int) (w : World) (hs : s.size ≤ 1073741824) (h : W.lexL 0 s.data.toList = .bad p er) :
    Calls Try.prog 11 #[.string s] w fun e w' => ∃ A cap, e = .returned (.tuple #[.slice A 0 cap, .int .i64 p, .int .i64 er]) ∧ Below w.heap.size w w' :=
  (all_saw s _ w hs h).mono fun e w' ⟨v, he, ho, hb⟩ => by
    obtain ⟨A, cap, rfl, hh⟩ := ho
    exact ⟨A, cap, he, hb⟩
theorem aw_place (w : World) : Calls Try.prog 15 #[.string ⟨#[97, 10, 98, 99]⟩, .int .i64 3] w fun e w' => e = .returned (.tuple #[.int .i64 2, .int .i64 2]) ∧ w = w' := by
  have h := place_is ⟨#[97, 10, 98, 99]⟩ 3 3 w (by decide) (by decide) (.inr (.inl rfl))
  have e1 : W.rowL ((⟨#[97, 10, 98, 99]⟩ : ByteArray).data.toList.take 3) = 2 := by decide +kernel
  have e2 : W.colL ((⟨#[97, 10, 98, 99]⟩ : ByteArray).data.toList.take 3) = 2 := by decide +kernel
  rw [e1, e2] at h
  exact h

set_option maxRecDepth 100000 in
set_option maxHeartbeats 1000000 in
theorem awake_any (w : World) : Calls Try.prog 10 #[] w (TrueS w) := by
  go_enter Try.func10, Try.ntmps10
  go_wp2_with fail
  refine (all_some awText awToks _ (by decide) aw_lex1 (by decide)).mono ?_
  rintro e w1 ⟨g, cap, rfl, hg, hb1⟩
  go_wp2_with fail
  refine (all_err ⟨#[97, 32, 44]⟩ 2 2 _ (by decide) aw_lex2).mono ?_
  rintro e w2 ⟨A, cap2, rfl, hb2⟩
  go_wp2_with fail
  refine (aw_place _).mono ?_
  rintro e w' ⟨rfl, rfl⟩
  have hg2 := hg.below hb2
  have c3 := (hg2.2 0 (by decide)).2.2.2
  have c6 := (hg2.2 1 (by decide)).2.2.1
  have c8 := (hg2.2 2 (by decide)).1
  have c14 := (hg2.2 3 (by decide)).2.2.1
  have c16 := (hg2.2 4 (by decide)).1
  have c20 := (hg2.2 5 (by decide)).1
  simp [awToks] at c3 c6 c8 c14 c16 c20
  simp only [awToks, List.length_cons, List.length_nil, Nat.zero_add, Nat.reduceAdd]
  go_wp2
  go_ret
  exact ⟨rfl, bthen hb1 hb2⟩
end Go.Proofs.Ytccbdogfapiidaa
