/-
  Layer 10: what addr does, as one premise (AddrOk); and that 'awake' is true under it. No conditions.
-/
import Derived.Test.YtgefbdckngejdaaDoorAddrT
import Derived.Test.YtgefbdckngejdaaDoorLaysN
namespace Go.Proofs.YtgefbdckngejdaaDoor
open Go.RowKit
set_option linter.unusedVariables false

/-- An int of Go. -/
def I64 (n : Int) : Prop := -9223372036854775808 ≤ n ∧ n ≤ 9223372036854775807
/-- A number, if there is one. -/
def okA (z : Int) : Int × Bool := if 0 ≤ z then (z, true) else (0, false)
/-- The number of a text within bounds. -/
def numA (l : List UInt8) (least most : Int) : Int × Bool := if 0 ≤ N.numL l ∧ least ≤ N.numL l ∧ N.numL l ≤ most then (N.numL l, true) else (0, false)
/-- The prefix of a text. -/
def prefA (l : List UInt8) : Int × Int × Bool := if 0 ≤ (N.prefL l).1 then ((N.prefL l).1, (N.prefL l).2, true) else (0, 0, false)
/-- The texts of numbers. -/
def ipTA (n : Int) : ByteArray × Bool := if 0 ≤ n ∧ n < 4294967296 then (sB (N.ipT n.toNat), true) else (sB [], false)
def prefTA (n b : Int) : ByteArray × Bool := if N.rightB n b = true then (sB (N.prefT n.toNat b.toNat), true) else (sB [], false)
def macTA (n : Int) : ByteArray × Bool := if 0 ≤ n ∧ n < 281474976710656 then (sB (N.macT n.toNat), true) else (sB [], false)
/-- What addr does: for texts of at most 100 bytes, and any ints. -/
structure AddrOk : Prop where
  numOf : ∀ (s : ByteArray) (least most z : Int) (ok : Bool) (w : World), s.size ≤ 100 → I64 least → I64 most → numA s.data.toList least most = (z, ok) → Calls Tryd.prog 11 #[.string s, .int .i64 least, .int .i64 most] w (fun e w' => e = .returned (.tuple #[.int .i64 z, .bool ok]) ∧ Below w.heap.size w w')
  ipOf : ∀ (s : ByteArray) (z : Int) (ok : Bool) (w : World), s.size ≤ 100 → okA (N.ipL s.data.toList) = (z, ok) → Calls Tryd.prog 13 #[.string s] w (fun e w' => e = .returned (.tuple #[.int .i64 z, .bool ok]) ∧ Below w.heap.size w w')
  macOf : ∀ (s : ByteArray) (z : Int) (ok : Bool) (w : World), s.size ≤ 100 → okA (N.macL s.data.toList) = (z, ok) → Calls Tryd.prog 17 #[.string s] w (fun e w' => e = .returned (.tuple #[.int .i64 z, .bool ok]) ∧ Below w.heap.size w w')
  prefOf : ∀ (s : ByteArray) (n b : Int) (ok : Bool) (w : World), s.size ≤ 100 → prefA s.data.toList = (n, b, ok) → Calls Tryd.prog 15 #[.string s] w (fun e w' => e = .returned (.tuple #[.int .i64 n, .int .i64 b, .bool ok]) ∧ Below w.heap.size w w')
  ipText : ∀ (n : Int) (q : ByteArray) (ok : Bool) (w : World), I64 n → TabOk w → ipTA n = (q, ok) → Calls Tryd.prog 19 #[.int .i64 n] w (fun e w' => e = .returned (.tuple #[.string q, .bool ok]) ∧ Below w.heap.size w w')
  prefText : ∀ (n b : Int) (q : ByteArray) (ok : Bool) (w : World), I64 n → I64 b → TabOk w → prefTA n b = (q, ok) → Calls Tryd.prog 20 #[.int .i64 n, .int .i64 b] w (fun e w' => e = .returned (.tuple #[.string q, .bool ok]) ∧ Below w.heap.size w w')
  macText : ∀ (n : Int) (q : ByteArray) (ok : Bool) (w : World), I64 n → macTA n = (q, ok) → Calls Tryd.prog 21 #[.int .i64 n] w (fun e w' => e = .returned (.tuple #[.string q, .bool ok]) ∧ Below w.heap.size w w')
  inOf : ∀ (n b ip : Int) (r : Bool) (w : World), I64 n → I64 b → I64 ip → N.inB n b ip = r → Calls Tryd.prog 26 #[.int .i64 n, .int .i64 b, .int .i64 ip] w (fun e w' => e = .returned (.bool r) ∧ Below w.heap.size w w')
theorem tabAt {w w1 : World} (h : Hid (TabOk w)) (hb : Below w.heap.size w w1) : TabOk w1 := h.out.below hb
theorem ipTA_of {n : Nat} {t : List UInt8} (h : n < 4294967296) (e : N.ipT n = t) : ipTA (n : Int) = (sB t, true) := by
  unfold ipTA; rw [if_pos (by omega), Int.toNat_natCast, e]
theorem prefTA_of {n b : Nat} {t : List UInt8} (h : N.rightB n b = true) (e : N.prefT n b = t) : prefTA (n : Int) (b : Int) = (sB t, true) := by
  unfold prefTA; rw [if_pos h, Int.toNat_natCast, Int.toNat_natCast, e]
theorem macTA_of {n : Nat} {t : List UInt8} (h : n < 281474976710656) (e : N.macT n = t) : macTA (n : Int) = (sB t, true) := by
  unfold macTA; rw [if_pos (by omega), Int.toNat_natCast, e]
def aw10P : List UInt8 := [49, 48, 46, 48, 46, 48, 46, 48, 47, 56]
def aw10M : List UInt8 := [48, 48, 58, 49, 49, 58, 50, 50, 58, 97, 97, 58, 98, 98, 58, 102, 102]
def aw10B : List UInt8 := [49, 48, 46, 48, 46, 48, 46, 50, 53, 54]
theorem aw10_p : N.prefL aw10P = (167772160, 8) := by decide +kernel
theorem aw10_m : N.macL aw10M = 73596058623 := by decide +kernel
theorem aw10_b : N.ipL aw10B = -1 := by decide +kernel
theorem aw10_pt : N.prefT 167772160 8 = aw10P := by
  rcases N.pref_cases aw10P with h | ⟨n, b, h, _, _, _, e⟩
  · rw [aw10_p] at h; cases h
  · rw [aw10_p] at h
    obtain rfl : n = 167772160 := by have := congrArg Prod.fst h; simp only at this; omega
    obtain rfl : b = 8 := by have := congrArg Prod.snd h; simp only at this; omega
    exact e
theorem aw10_mt : N.macT 73596058623 = aw10M := by
  rcases N.mac_cases aw10M with h | ⟨n, h, _, e⟩
  · rw [aw10_m] at h; cases h
  · rw [aw10_m] at h
    obtain rfl : n = 73596058623 := by omega
    exact e
set_option maxRecDepth 100000 in
theorem awake_of10 (E : AddrOk) (w : World) (HT : TabOk w) : Calls Tryd.prog 10 #[] w (TrueS w) := by
  go_enter Tryd.func10, Tryd.ntmps10
  go_wp2_with fail
  refine (E.prefOf (sB aw10P) 167772160 8 true _ (by decide) (by unfold prefA; rw [show (sB aw10P).data.toList = aw10P from rfl, aw10_p]; rfl)).mono ?_
  rintro e w1 ⟨rfl, hb⟩
  go_wp2_with fail
  refine (E.prefText 167772160 8 (sB aw10P) true _ (by unfold I64; omega) (by unfold I64; omega) (HT.below hb) (prefTA_of (n := 167772160) (b := 8) (by decide +kernel) aw10_pt)).mono ?_
  rintro e w2 ⟨rfl, hx⟩
  replace hb := bthen hb hx
  clear hx
  go_wp2_with fail
  refine (E.macOf (sB aw10M) 73596058623 true _ (by decide) (by rw [show (sB aw10M).data.toList = aw10M from rfl, aw10_m]; rfl)).mono ?_
  rintro e w3 ⟨rfl, hx⟩
  replace hb := bthen hb hx
  clear hx
  go_wp2_with fail
  refine (E.macText 73596058623 (sB aw10M) true _ (by unfold I64; omega) (macTA_of (n := 73596058623) (by omega) aw10_mt)).mono ?_
  rintro e w4 ⟨rfl, hx⟩
  replace hb := bthen hb hx
  clear hx
  go_wp2_with fail
  refine (E.ipOf (sB aw10B) 0 false _ (by decide) (by rw [show (sB aw10B).data.toList = aw10B from rfl, aw10_b]; rfl)).mono ?_
  rintro e w5 ⟨rfl, hx⟩
  replace hb := bthen hb hx
  clear hx
  have q1 : (sB aw10P).toList = [49, 48, 46, 48, 46, 48, 46, 48, 47, 56] := by decide +kernel
  have q2 : (sB aw10M).toList = [48, 48, 58, 49, 49, 58, 50, 50, 58, 97, 97, 58, 98, 98, 58, 102, 102] := by decide +kernel
  go_wp2_with fail
  refine (E.inOf 167772160 8 167772161 true _ (by unfold I64; omega) (by unfold I64; omega) (by unfold I64; omega) (by decide +kernel)).mono ?_
  rintro e w6 ⟨rfl, hx⟩
  go_wp2
  go_ret
  exact ⟨rfl, bthen hb hx⟩
end Go.Proofs.YtgefbdckngejdaaDoor
