/-
  The fixed answer 'awake' of layer 1's statements: it returns true; below the heap's size at the call the world is as it was. No conditions.
-/
import Derived.Test.YtfjdfjbbgfehaaaWordUnq
namespace Go.Proofs.Ytfjdfjbbgfehaaa
open Go.RowKit

theorem aw_quote (w : World) : Calls Try.prog 10 #[.string ⟨#[97, 32, 34, 98, 0]⟩] w (WroteS w.heap.size w [34, 97, 32, 92, 34, 98, 92, 120, 48, 48, 34] 0) := by
  have h := quote_any ⟨#[97, 32, 34, 98, 0]⟩ w
  have e : W.quoteL (⟨#[97, 32, 34, 98, 0]⟩ : ByteArray).data.toList = [34, 97, 32, 92, 34, 98, 92, 120, 48, 48, 34] := by decide +kernel
  have s : (⟨#[97, 32, 34, 98, 0]⟩ : ByteArray).size ≤ 40 := by decide
  rw [if_pos s, if_pos s, e] at h
  exact h
theorem aw_unq (w : World) : Calls Try.prog 13 #[.string ⟨#[34, 97, 32, 92, 34, 98, 92, 120, 48, 48, 34]⟩] w (WroteS w.heap.size w [97, 32, 34, 98, 0] 0) := by
  have h := unquote_any ⟨#[34, 97, 32, 92, 34, 98, 92, 120, 48, 48, 34]⟩ w (by decide)
  have e : W.unqL (⟨#[34, 97, 32, 92, 34, 98, 92, 120, 48, 48, 34]⟩ : ByteArray).data.toList = ([97, 32, 34, 98, 0], 0) := by decide +kernel
  rw [e] at h
  exact h
theorem aw_scan (w : World) : Calls Try.prog 14 #[.string ⟨#[97, 98, 45, 99, 32, 100]⟩, .int .i64 1] w fun e w' => e = .returned (.tuple #[.int .i64 4, .bool true]) ∧ w = w' := by
  have h := scan_any ⟨#[97, 98, 45, 99, 32, 100]⟩ 1 w (by decide)
  have e : W.scanL (⟨#[97, 98, 45, 99, 32, 100]⟩ : ByteArray).data.toList 1 = some 4 := by decide +kernel
  rw [e] at h
  exact h
theorem aw_p1 (w : World) : Calls Try.prog 11 #[.string ⟨#[49, 48, 46, 48, 46, 48, 46, 48, 47, 56]⟩] w fun e w' => e = .returned (.bool true) ∧ w = w' := by
  have h := plain_any ⟨#[49, 48, 46, 48, 46, 48, 46, 48, 47, 56]⟩ w (by decide)
  have e : W.plainL (⟨#[49, 48, 46, 48, 46, 48, 46, 48, 47, 56]⟩ : ByteArray).data.toList = true := by decide +kernel
  rw [e] at h
  exact h
theorem aw_p2 (w : World) : Calls Try.prog 11 #[.string ⟨#[105, 110, 97, 99, 116, 105, 118, 101, 58]⟩] w fun e w' => e = .returned (.bool false) ∧ w = w' := by
  have h := plain_any ⟨#[105, 110, 97, 99, 116, 105, 118, 101, 58]⟩ w (by decide)
  have e : W.plainL (⟨#[105, 110, 97, 99, 116, 105, 118, 101, 58]⟩ : ByteArray).data.toList = false := by decide +kernel
  rw [e] at h
  exact h

theorem sz (l : List UInt8) : (⟨l.toArray⟩ : ByteArray).size = l.length := by show l.toArray.size = _; simp
theorem bthen {a b c : World} (h : Below a.heap.size a b) (k : Below b.heap.size b c) : Below a.heap.size a c := h.trans (k.mono h.size)

def TrueS (w : World) (e : Ending) (w' : World) : Prop := e = .returned (.bool true) ∧ Below w.heap.size w w'

set_option maxHeartbeats 800000 in
theorem awake_any (w : World) : Calls Try.prog 9 #[] w (TrueS w) := by
  go_enter Try.func9, Try.ntmps9
  go_wp2_with fail
  refine (aw_quote _).mono ?_
  rintro e w1 ⟨rfl, hb1⟩
  go_wp2_with fail
  refine (aw_unq _).mono ?_
  rintro e w2 ⟨rfl, hb2⟩
  go_wp2_with fail
  refine (aw_scan _).mono ?_
  rintro e w' ⟨rfl, rfl⟩
  go_wp2_with fail
  refine (aw_p1 _).mono ?_
  rintro e w' ⟨rfl, rfl⟩
  go_wp2_with fail
  refine (aw_p2 _).mono ?_
  rintro e w' ⟨rfl, rfl⟩
  go_wp2_with fail
  go_ret
  exact ⟨rfl, hb1.trans (hb2.mono hb1.size)⟩
end Go.Proofs.Ytfjdfjbbgfehaaa
