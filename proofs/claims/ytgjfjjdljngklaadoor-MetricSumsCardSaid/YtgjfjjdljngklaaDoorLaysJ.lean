/-
  What the library proves once of internal/stringslite.Index at one byte, strings.CutPrefix, and strings.TrimRight of one byte, at this program's numbers; strings.Cut at one byte, walked. No conditions.
-/
import Derived.Test.YtgjfjjdljngklaaDoorTreeMem
import Derived.Test.YtgjfjjdljngklaaDoorAddrB
import Derived.Shelf.Strings.Search2
import Derived.Shelf.Strings.Trim
import Derived.Shelf.Small.Wraps
import Derived.Deep.QuietTactic
import Derived.BigQuiet
namespace Go.Proofs.YtgjfjjdljngklaaDoor
open Go.Shelf Go.RowKit
set_option linter.unusedVariables false

def ren219 : Go.Shelf.Ren := ⟨fun | 217 => 58 | 219 => 53 | 224 => 60 | 225 => 59 | 266 => 69 | 267 => 61 | 314 => 70 | n => n, fun | 3 => 3 | 4 => 4 | 5 => 5 | 9 => 9 | 46 => 56 | 51 => 38 | 146 => 81 | n => n, fun | 1 => 1 | n => n⟩
set_option maxRecDepth 100000 in
theorem lays219 : Go.Proofs.Lays.n219 Tryd.prog ren219 := {
  mixed := by kernel_rfl
  f217 := Tryd.func58.trans (congrArg some (by kernel_rfl))
  f219 := Tryd.func53.trans (congrArg some (by kernel_rfl))
  f224 := Tryd.func60.trans (congrArg some (by kernel_rfl))
  f225 := Tryd.func59.trans (congrArg some (by kernel_rfl))
  f266 := Tryd.func69.trans (congrArg some (by kernel_rfl))
  f267 := Tryd.func61.trans (congrArg some (by kernel_rfl))
  f314 := Tryd.func70.trans (congrArg some (by kernel_rfl))
  t3 := Tryd.underlying3
  a3 := Tryd.isAgg3
  z3 := Tryd.sizeOf3
  v3 := Tryd.zeroValue3
  t4 := Tryd.underlying4
  a4 := Tryd.isAgg4
  z4 := Tryd.sizeOf4
  v4 := Tryd.zeroValue4
  t5 := Tryd.underlying5
  a5 := Tryd.isAgg5
  z5 := Tryd.sizeOf5
  v5 := Tryd.zeroValue5
  t9 := Tryd.underlying9
  a9 := Tryd.isAgg9
  z9 := Tryd.sizeOf9
  v9 := Tryd.zeroValue9
  t46 := Tryd.underlying56
  a46 := Tryd.isAgg56
  z46 := Tryd.sizeOf56
  v46 := Tryd.zeroValue56
  t51 := Tryd.underlying38
  a51 := Tryd.isAgg38
  z51 := Tryd.sizeOf38
  v51 := Tryd.zeroValue38
  t146 := Tryd.underlying81
  a146 := Tryd.isAgg81
  z146 := Tryd.sizeOf81
  v146 := Tryd.zeroValue81
  g1 := by kernel_rfl }
def ren103 : Go.Shelf.Ren := ⟨fun | 103 => 31 | 206 => 45 | 210 => 39 | n => n, fun | 3 => 3 | 4 => 4 | 9 => 9 | 24 => 29 | n => n, fun  n => n⟩
set_option maxRecDepth 100000 in
theorem lays103 : Go.Proofs.Lays.n103 Tryd.prog ren103 := {
  mixed := by kernel_rfl
  f103 := Tryd.func31.trans (congrArg some (by kernel_rfl))
  f206 := Tryd.func45.trans (congrArg some (by kernel_rfl))
  f210 := Tryd.func39.trans (congrArg some (by kernel_rfl))
  t3 := Tryd.underlying3
  a3 := Tryd.isAgg3
  z3 := Tryd.sizeOf3
  v3 := Tryd.zeroValue3
  t4 := Tryd.underlying4
  a4 := Tryd.isAgg4
  z4 := Tryd.sizeOf4
  v4 := Tryd.zeroValue4
  t9 := Tryd.underlying9
  a9 := Tryd.isAgg9
  z9 := Tryd.sizeOf9
  v9 := Tryd.zeroValue9
  t24 := Tryd.underlying29
  a24 := Tryd.isAgg29
  z24 := Tryd.sizeOf29
  v24 := Tryd.zeroValue29 }
def ren162 : Go.Shelf.Ren := ⟨fun | 119 => 78 | 120 => 66 | 137 => 77 | 151 => 57 | 152 => 68 | 162 => 44 | 197 => 67 | 217 => 58 | 224 => 60 | 225 => 59 | 227 => 50 | 228 => 55 | 232 => 49 | 234 => 51 | 236 => 52 | 260 => 76 | 266 => 69 | 271 => 56 | n => n, fun | 0 => 0 | 3 => 3 | 4 => 4 | 5 => 5 | 9 => 9 | 21 => 21 | 46 => 56 | 105 => 70 | 116 => 62 | 117 => 63 | 119 => 90 | 124 => 66 | 138 => 92 | 139 => 93 | n => n, fun | 3 => 3 | 4 => 4 | n => n⟩
set_option maxRecDepth 100000 in
theorem lays162 : Go.Proofs.Lays.n162 Tryd.prog ren162 := {
  mixed := by kernel_rfl
  f119 := Tryd.func78.trans (congrArg some (by kernel_rfl))
  f120 := Tryd.func66.trans (congrArg some (by kernel_rfl))
  f137 := Tryd.func77.trans (congrArg some (by kernel_rfl))
  f151 := Tryd.func57.trans (congrArg some (by kernel_rfl))
  f152 := Tryd.func68.trans (congrArg some (by kernel_rfl))
  f162 := Tryd.func44.trans (congrArg some (by kernel_rfl))
  f197 := Tryd.func67.trans (congrArg some (by kernel_rfl))
  f217 := Tryd.func58.trans (congrArg some (by kernel_rfl))
  f224 := Tryd.func60.trans (congrArg some (by kernel_rfl))
  f225 := Tryd.func59.trans (congrArg some (by kernel_rfl))
  f227 := Tryd.func50.trans (congrArg some (by kernel_rfl))
  f228 := Tryd.func55.trans (congrArg some (by kernel_rfl))
  f232 := Tryd.func49.trans (congrArg some (by kernel_rfl))
  f234 := Tryd.func51.trans (congrArg some (by kernel_rfl))
  f236 := Tryd.func52.trans (congrArg some (by kernel_rfl))
  f260 := Tryd.func76.trans (congrArg some (by kernel_rfl))
  f266 := Tryd.func69.trans (congrArg some (by kernel_rfl))
  f271 := Tryd.func56.trans (congrArg some (by kernel_rfl))
  t0 := Tryd.underlying0
  a0 := Tryd.isAgg0
  z0 := Tryd.sizeOf0
  v0 := Tryd.zeroValue0
  t3 := Tryd.underlying3
  a3 := Tryd.isAgg3
  z3 := Tryd.sizeOf3
  v3 := Tryd.zeroValue3
  t4 := Tryd.underlying4
  a4 := Tryd.isAgg4
  z4 := Tryd.sizeOf4
  v4 := Tryd.zeroValue4
  t5 := Tryd.underlying5
  a5 := Tryd.isAgg5
  z5 := Tryd.sizeOf5
  v5 := Tryd.zeroValue5
  t9 := Tryd.underlying9
  a9 := Tryd.isAgg9
  z9 := Tryd.sizeOf9
  v9 := Tryd.zeroValue9
  t21 := Tryd.underlying21
  a21 := Tryd.isAgg21
  z21 := Tryd.sizeOf21
  v21 := Tryd.zeroValue21
  t46 := Tryd.underlying56
  a46 := Tryd.isAgg56
  z46 := Tryd.sizeOf56
  v46 := Tryd.zeroValue56
  t105 := Tryd.underlying70
  a105 := Tryd.isAgg70
  z105 := Tryd.sizeOf70
  v105 := Tryd.zeroValue70
  t116 := Tryd.underlying62
  a116 := Tryd.isAgg62
  z116 := Tryd.sizeOf62
  t117 := Tryd.underlying63
  a117 := Tryd.isAgg63
  z117 := Tryd.sizeOf63
  v117 := Tryd.zeroValue63
  t119 := Tryd.underlying90
  a119 := Tryd.isAgg90
  z119 := Tryd.sizeOf90
  t124 := Tryd.underlying66
  a124 := Tryd.isAgg66
  z124 := Tryd.sizeOf66
  v124 := Tryd.zeroValue66
  t138 := Tryd.underlying92
  a138 := Tryd.isAgg92
  z138 := Tryd.sizeOf92
  v138 := Tryd.zeroValue92
  t139 := Tryd.underlying93
  a139 := Tryd.isAgg93
  z139 := Tryd.sizeOf93
  v139 := Tryd.zeroValue93
  g3 := by kernel_rfl
  g4 := by kernel_rfl }
/-- internal/stringslite.Index of one byte. -/
theorem index_one (s : ByteArray) (c : UInt8) (w : World) : Calls Tryd.prog 53 #[.string s, .string ⟨#[c]⟩] w fun e w' => e = .returned (.int .i64 (Lib.indexByte s.data.toList c)) ∧ w' = w :=
  Any.stringslite_Index_one lays219 s c w
theorem below_drawnJ {B : Nat} {a w : World} (h : Below B a w) (q : Nat) : Below B a (w.drewN q) := ⟨h.os, h.tape, h.output, h.size, h.block⟩
/-- strings.Cut at one byte. -/
def CutIs (c : UInt8) (l : List UInt8) (a b : List UInt8) (f : Bool) : Prop := (f = false ∧ a = l ∧ b = [] ∧ c ∉ l) ∨ (f = true ∧ l = a ++ c :: b ∧ c ∉ a)
theorem cut_extract (s : ByteArray) (i : Nat) : s.extract 0 i = sB (s.data.toList.take i) ∧ s.extract (i + 1) s.size = sB (s.data.toList.drop (i + 1)) := by
  have hsz : s.data.toList.length = s.size := by simp
  refine ⟨?_, ?_⟩
  · refine ByteArray.ext (Array.ext' ?_)
    simp [sB, ByteArray.data_extract]
  · refine ByteArray.ext (Array.ext' ?_)
    have h1 : (s.extract (i + 1) s.size).data.toList = (s.data.toList.drop (i + 1)).take (s.size - (i + 1)) := by simp [ByteArray.data_extract, List.extract_eq_take_drop]
    rw [h1, List.take_of_length_le (by rw [List.length_drop, hsz]; omega)]
    rfl
set_option maxRecDepth 100000 in
set_option maxHeartbeats 2000000 in
theorem cutLite (s : ByteArray) (c : UInt8) (w : World) (hs : s.size ≤ 1073741824) : Calls Tryd.prog 46 #[.string s, .string ⟨#[c]⟩] w (fun e w' => (∃ a b f, e = .returned (.tuple #[.string (sB a), .string (sB b), .bool f]) ∧ CutIs c s.data.toList a b f) ∧ Below w.heap.size w w') := by
  have hsz : s.data.toList.length = s.size := by simp
  rcases N.index_cases s.data.toList c with ⟨hi, hn⟩ | ⟨i, hi, hlt, he, hn⟩
  · have HI := Lib.hid hi
    have HE := Lib.hid (show s = sB s.data.toList from (ByteArray.ext (Array.ext' (by simp [sB]))))
    have HC := Lib.hid (show CutIs c s.data.toList s.data.toList [] false from .inl ⟨rfl, rfl, rfl, hn⟩)
    clear hi hn hsz
    go_enter Tryd.func46, Tryd.ntmps46
    go_wp2_with fail
    refine (index_one _ _ _).mono ?_
    rintro e w1 ⟨rfl, rfl⟩
    rw [HI.out]
    go_wp2
    go_ret3
    exact ⟨⟨_, _, _, by rw [← HE.out]; rfl, HC.out⟩, Below.refl _ _⟩
  · have HI := Lib.hid hi
    obtain ⟨e1, e2⟩ := cut_extract s i
    have HE1 := Lib.hid e1
    have HE2 := Lib.hid e2
    have HC := Lib.hid (show CutIs c s.data.toList (s.data.toList.take i) (s.data.toList.drop (i + 1)) true from .inr ⟨rfl, he, hn⟩)
    have hlt2 : i < s.size := by omega
    have c1 : decide ((0 : Int) ≤ (i : Int)) = true := decide_eq_true (by omega)
    clear hi hn hsz he e1 e2 hlt
    go_enter Tryd.func46, Tryd.ntmps46
    go_wp2_with fail
    refine (index_one _ _ _).mono ?_
    rintro e w1 ⟨rfl, rfl⟩
    rw [HI.out]
    go_wp2
    go_quiet (fail)
    go_wp2
    go_ret3
    exact ⟨⟨_, _, _, by rw [← HE1.out, ← HE2.out]; rfl, HC.out⟩, below_drawnJ (Below.refl _ _) _⟩
set_option maxRecDepth 100000 in
theorem cut_any10 (s : ByteArray) (c : UInt8) (w : World) (hs : s.size ≤ 1073741824) : Calls Tryd.prog 40 #[.string s, .string ⟨#[c]⟩] w (fun e w' => (∃ a b f, e = .returned (.tuple #[.string (sB a), .string (sB b), .bool f]) ∧ CutIs c s.data.toList a b f) ∧ Below w.heap.size w w') := by
  go_enter Tryd.func40, Tryd.ntmps40
  go_wp2_with fail
  refine (cutLite s c _ hs).mono ?_
  rintro e w1 ⟨⟨a, b, f, rfl, hc⟩, hb⟩
  have HC := Lib.hid hc
  clear hc
  go_wp2
  go_ret3
  exact ⟨⟨a, b, f, rfl, HC.out⟩, hb⟩
/-- strings.CutPrefix. -/
theorem cutPrefix_any (s p : ByteArray) (w : World) : Calls Tryd.prog 31 #[.string s, .string p] w fun e w' => e = .returned (.tuple #[.string ⟨(Lib.trimPrefix s.data.toList p.data.toList).toArray⟩, .bool (Lib.hasPrefix s.data.toList p.data.toList)]) ∧ w' = w :=
  Any.strings_CutPrefix lays103 s p w
/-- strings.TrimRight of one byte. -/
theorem trimRight_one (s : ByteArray) (c : UInt8) (hc : c.toNat < 128) (w : World) (hs : s.size ≤ 9223372036854775807) : Calls Tryd.prog 44 #[.string s, .string ⟨#[c]⟩] w fun e w' => e = .returned (.string ⟨(Lib.trimRightB s.data.toList c).toArray⟩) ∧ w' = w :=
  Any.strings_TrimRight_one lays162 s c hc w hs
end Go.Proofs.YtgjfjjdljngklaaDoor

