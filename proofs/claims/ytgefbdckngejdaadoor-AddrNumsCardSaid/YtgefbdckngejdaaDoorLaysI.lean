/-
  What the library proves once of strings.IndexByte, internal/stringslite.Index at one byte, and strconv.AppendInt, at this program's numbers; strings.Cut at one byte, walked. Condition: for AppendInt that the library's table uint64pow10 holds its numbers.
-/
import Derived.Test.YtgefbdckngejdaaDoorLaysN
import Derived.Test.YtgefbdckngejdaaDoorAddrB
import Derived.Test.YtgefbdckngejdaaDoorWordC
import Derived.Test.YtgefbdckngejdaaDoorAddrT
import Derived.Shelf.Strconv.AppendIntPublic10
import Derived.Shelf.Strings.Search2
import Derived.Shelf.Small.Strs
namespace Go.Proofs.YtgefbdckngejdaaDoor
open Go.Shelf Go.RowKit
set_option linter.unusedVariables false

def ren137 : Go.Shelf.Ren := ⟨fun | 137 => 32 | 217 => 40 | 266 => 44 | n => n, fun | 3 => 3 | 5 => 5 | 9 => 9 | n => n, fun  n => n⟩
set_option maxRecDepth 100000 in
theorem lays137 : Go.Proofs.Lays.n137 Tryd.prog ren137 := {
  mixed := by kernel_rfl
  f137 := Tryd.func32.trans (congrArg some (by kernel_rfl))
  f217 := Tryd.func40.trans (congrArg some (by kernel_rfl))
  f266 := Tryd.func44.trans (congrArg some (by kernel_rfl))
  t3 := Tryd.underlying3
  a3 := Tryd.isAgg3
  z3 := Tryd.sizeOf3
  v3 := Tryd.zeroValue3
  t5 := Tryd.underlying5
  a5 := Tryd.isAgg5
  z5 := Tryd.sizeOf5
  v5 := Tryd.zeroValue5
  t9 := Tryd.underlying9
  a9 := Tryd.isAgg9
  z9 := Tryd.sizeOf9
  v9 := Tryd.zeroValue9 }
def ren219 : Go.Shelf.Ren := ⟨fun | 217 => 40 | 219 => 43 | 224 => 48 | 225 => 47 | 266 => 44 | 267 => 49 | 314 => 54 | n => n, fun | 3 => 3 | 4 => 4 | 5 => 5 | 9 => 9 | 46 => 46 | 51 => 62 | 146 => 63 | n => n, fun | 1 => 0 | n => n⟩
set_option maxRecDepth 100000 in
theorem lays219 : Go.Proofs.Lays.n219 Tryd.prog ren219 := {
  mixed := by kernel_rfl
  f217 := Tryd.func40.trans (congrArg some (by kernel_rfl))
  f219 := Tryd.func43.trans (congrArg some (by kernel_rfl))
  f224 := Tryd.func48.trans (congrArg some (by kernel_rfl))
  f225 := Tryd.func47.trans (congrArg some (by kernel_rfl))
  f266 := Tryd.func44.trans (congrArg some (by kernel_rfl))
  f267 := Tryd.func49.trans (congrArg some (by kernel_rfl))
  f314 := Tryd.func54.trans (congrArg some (by kernel_rfl))
  t3 := Tryd.underlying3
  a3 := Tryd.isAgg3
  z3 := Tryd.sizeOf3
  v3 := Tryd.zeroValue3
  t4 := Tryd.underlying4
  a4 := Tryd.isAgg4
  z4 := Tryd.sizeOf4
  v4 := Tryd.zeroValue4
  t5 := Tryd.underlying5
  a5 := Tryd.isAgg5
  z5 := Tryd.sizeOf5
  v5 := Tryd.zeroValue5
  t9 := Tryd.underlying9
  a9 := Tryd.isAgg9
  z9 := Tryd.sizeOf9
  v9 := Tryd.zeroValue9
  t46 := Tryd.underlying46
  a46 := Tryd.isAgg46
  z46 := Tryd.sizeOf46
  v46 := Tryd.zeroValue46
  t51 := Tryd.underlying62
  a51 := Tryd.isAgg62
  z51 := Tryd.sizeOf62
  v51 := Tryd.zeroValue62
  t146 := Tryd.underlying63
  a146 := Tryd.isAgg63
  z146 := Tryd.sizeOf63
  v146 := Tryd.zeroValue63
  g1 := by kernel_rfl }
def ren176 : Go.Shelf.Ren := ⟨fun | 129 => 56 | 176 => 35 | 249 => 41 | 283 => 50 | 284 => 51 | 285 => 52 | 286 => 53 | 288 => 45 | 317 => 55 | 318 => 57 | 319 => 58 | 320 => 59 | 337 => 60 | 338 => 61 | n => n, fun | 0 => 0 | 2 => 2 | 3 => 3 | 4 => 4 | 5 => 5 | 9 => 9 | 20 => 20 | 37 => 51 | 46 => 46 | 51 => 62 | 53 => 38 | 171 => 57 | 173 => 60 | 212 => 66 | 213 => 67 | 232 => 71 | 233 => 72 | n => n, fun | 17 => 1 | 18 => 2 | 19 => 3 | n => n⟩
set_option maxRecDepth 100000 in
theorem lays176 : Go.Proofs.Lays.n176 Tryd.prog ren176 := {
  mixed := by kernel_rfl
  f129 := Tryd.func56.trans (congrArg some (by kernel_rfl))
  f176 := Tryd.func35.trans (congrArg some (by kernel_rfl))
  f249 := Tryd.func41.trans (congrArg some (by kernel_rfl))
  f283 := Tryd.func50.trans (congrArg some (by kernel_rfl))
  f284 := Tryd.func51.trans (congrArg some (by kernel_rfl))
  f285 := Tryd.func52.trans (congrArg some (by kernel_rfl))
  f286 := Tryd.func53.trans (congrArg some (by kernel_rfl))
  f288 := Tryd.func45.trans (congrArg some (by kernel_rfl))
  f317 := Tryd.func55.trans (congrArg some (by kernel_rfl))
  f318 := Tryd.func57.trans (congrArg some (by kernel_rfl))
  f319 := Tryd.func58.trans (congrArg some (by kernel_rfl))
  f320 := Tryd.func59.trans (congrArg some (by kernel_rfl))
  f337 := Tryd.func60.trans (congrArg some (by kernel_rfl))
  f338 := Tryd.func61.trans (congrArg some (by kernel_rfl))
  t0 := Tryd.underlying0
  a0 := Tryd.isAgg0
  z0 := Tryd.sizeOf0
  v0 := Tryd.zeroValue0
  t2 := Tryd.underlying2
  a2 := Tryd.isAgg2
  z2 := Tryd.sizeOf2
  v2 := Tryd.zeroValue2
  t3 := Tryd.underlying3
  a3 := Tryd.isAgg3
  z3 := Tryd.sizeOf3
  v3 := Tryd.zeroValue3
  t4 := Tryd.underlying4
  a4 := Tryd.isAgg4
  z4 := Tryd.sizeOf4
  v4 := Tryd.zeroValue4
  t5 := Tryd.underlying5
  a5 := Tryd.isAgg5
  z5 := Tryd.sizeOf5
  v5 := Tryd.zeroValue5
  t9 := Tryd.underlying9
  a9 := Tryd.isAgg9
  z9 := Tryd.sizeOf9
  v9 := Tryd.zeroValue9
  t20 := Tryd.underlying20
  a20 := Tryd.isAgg20
  z20 := Tryd.sizeOf20
  v20 := Tryd.zeroValue20
  t37 := Tryd.underlying51
  a37 := Tryd.isAgg51
  z37 := Tryd.sizeOf51
  v37 := Tryd.zeroValue51
  t46 := Tryd.underlying46
  a46 := Tryd.isAgg46
  z46 := Tryd.sizeOf46
  v46 := Tryd.zeroValue46
  t51 := Tryd.underlying62
  a51 := Tryd.isAgg62
  z51 := Tryd.sizeOf62
  v51 := Tryd.zeroValue62
  t53 := Tryd.underlying38
  a53 := Tryd.isAgg38
  z53 := Tryd.sizeOf38
  v53 := Tryd.zeroValue38
  t171 := Tryd.underlying57
  a171 := Tryd.isAgg57
  z171 := Tryd.sizeOf57
  v171 := Tryd.zeroValue57
  t173 := Tryd.underlying60
  a173 := Tryd.isAgg60
  z173 := Tryd.sizeOf60
  v173 := Tryd.zeroValue60
  t212 := Tryd.underlying66
  a212 := Tryd.isAgg66
  z212 := Tryd.sizeOf66
  v212 := Tryd.zeroValue66
  t213 := Tryd.underlying67
  a213 := Tryd.isAgg67
  z213 := Tryd.sizeOf67
  t232 := Tryd.underlying71
  a232 := Tryd.isAgg71
  z232 := Tryd.sizeOf71
  v232 := Tryd.zeroValue71
  t233 := Tryd.underlying72
  a233 := Tryd.isAgg72
  z233 := Tryd.sizeOf72
  v233 := Tryd.zeroValue72
  g17 := by kernel_rfl
  g18 := by kernel_rfl
  g19 := by kernel_rfl }
set_option maxRecDepth 100000 in
theorem laysM176 : Go.Proofs.LaysM.n176 Tryd.prog ren176 := { lays176 with
  i0 := by kernel_rfl
  i2 := by kernel_rfl
  i3 := by kernel_rfl
  i4 := by kernel_rfl
  i5 := by kernel_rfl
  i9 := by kernel_rfl
  i20 := by kernel_rfl
  i37 := by kernel_rfl
  i46 := by kernel_rfl
  i51 := by kernel_rfl
  i53 := by kernel_rfl
  i171 := by kernel_rfl
  i173 := by kernel_rfl
  i212 := by kernel_rfl
  i232 := by kernel_rfl
  i233 := by kernel_rfl
  m17 := by kernel_rfl
  m18 := by kernel_rfl
  m19 := by kernel_rfl }
/-- strings.IndexByte. -/
theorem indexByte_any (s : ByteArray) (c : UInt8) (w : World) : Calls Tryd.prog 32 #[.string s, .int .u8 (c.toNat : Int)] w fun e w' => e = .returned (.int .i64 (Lib.indexByte s.data.toList c)) ∧ w' = w := by
  have h := Any.strings_IndexByte lays137 s (c.toNat : Int) w
  rw [Int.toNat_natCast, show c.toNat.toUInt8 = c from UInt8.ofNat_toNat] at h
  exact h
/-- internal/stringslite.Index of one byte. -/
theorem index_one (s : ByteArray) (c : UInt8) (w : World) : Calls Tryd.prog 43 #[.string s, .string ⟨#[c]⟩] w fun e w' => e = .returned (.int .i64 (Lib.indexByte s.data.toList c)) ∧ w' = w :=
  Any.stringslite_Index_one lays219 s c w
theorem dec_is10 (n : Nat) : Lib.decDigits n = T.decL n := by
  induction n using Nat.strongRecOn with
  | _ n ih =>
    by_cases h : n < 10
    · rw [T.decL_small h, Lib.decDigits, dif_pos h]
    · rw [T.decL_big (by omega), Lib.decDigits, dif_neg h, ih (n / 10) (by omega)]
/-- A number written behind bytes of the call's own. -/
theorem appendInt_any (w0 : World) (ht : TabOk w0) (n : Nat) (z : Int) (hz : z = (n : Int)) (hn : n ≤ 1000000000) (v : Value) (l : List UInt8) (w : World) (h : OwnB w w0.heap.size v l) (hB : Below w0.heap.size w0 w) (hl : l.length ≤ 1000) :
    Calls Tryd.prog 35 #[v, .int .i64 z, .int .i64 10] w fun e w' => ∃ v', e = .returned v' ∧ OwnB w' w0.heap.size v' (l ++ T.decL n) ∧ Below w0.heap.size w w' := by
  subst hz
  have e0 : Lib.itoa (n : Int) = T.decL n := by
    rw [← dec_is10]
    exact Lib.itoa_nonneg n
  have h2 : w.ownsRow w0.heap.size 5 1 v l.length (byteCells l) := h
  refine (Any.strconv_AppendInt_10 laysM176 w0.heap.size l.length (n : Int) (by omega) (by omega) v (byteCells l) w h2 hB.size (by omega) ((Lib.tabBelow_of_tabIs ht).on hB)).mono ?_
  rintro e w1 ⟨v1, rfl, h3, h4, _⟩
  refine ⟨v1, rfl, ?_, h4⟩
  rw [e0] at h3
  unfold OwnB
  rw [List.length_append, byteCells_append]
  exact h3
/-- strings.Cut at one byte. -/
def CutIs (c : UInt8) (l : List UInt8) (a b : List UInt8) (f : Bool) : Prop := (f = false ∧ a = l ∧ b = [] ∧ c ∉ l) ∨ (f = true ∧ l = a ++ c :: b ∧ c ∉ a)
theorem cut_extract (s : ByteArray) (i : Nat) : s.extract 0 i = sB (s.data.toList.take i) ∧ s.extract (i + 1) s.size = sB (s.data.toList.drop (i + 1)) := by
  have hsz : s.data.toList.length = s.size := by simp
  refine ⟨?_, ?_⟩
  · refine ByteArray.ext (Array.ext' ?_)
    simp [sB, ByteArray.data_extract]
  · refine ByteArray.ext (Array.ext' ?_)
    have h1 : (s.extract (i + 1) s.size).data.toList = (s.data.toList.drop (i + 1)).take (s.size - (i + 1)) := by simp [ByteArray.data_extract, List.extract_eq_take_drop]
    rw [h1, List.take_of_length_le (by rw [List.length_drop, hsz]; omega)]
    rfl
set_option maxRecDepth 100000 in
set_option maxHeartbeats 2000000 in
theorem cutLite (s : ByteArray) (c : UInt8) (w : World) (hs : s.size ≤ 1073741824) : Calls Tryd.prog 39 #[.string s, .string ⟨#[c]⟩] w (fun e w' => (∃ a b f, e = .returned (.tuple #[.string (sB a), .string (sB b), .bool f]) ∧ CutIs c s.data.toList a b f) ∧ Below w.heap.size w w') := by
  have hsz : s.data.toList.length = s.size := by simp
  rcases N.index_cases s.data.toList c with ⟨hi, hn⟩ | ⟨i, hi, hlt, he, hn⟩
  · have HI := Lib.hid hi
    have HE := Lib.hid (show s = sB s.data.toList from (ByteArray.ext (Array.ext' (by simp [sB]))))
    have HC := Lib.hid (show CutIs c s.data.toList s.data.toList [] false from .inl ⟨rfl, rfl, rfl, hn⟩)
    clear hi hn hsz
    go_enter Tryd.func39, Tryd.ntmps39
    go_wp2_with fail
    refine (index_one _ _ _).mono ?_
    rintro e w1 ⟨rfl, rfl⟩
    rw [HI.out]
    go_wp2
    go_ret3
    exact ⟨⟨_, _, _, by rw [← HE.out]; rfl, HC.out⟩, Below.refl _ _⟩
  · have HI := Lib.hid hi
    obtain ⟨e1, e2⟩ := cut_extract s i
    have HE1 := Lib.hid e1
    have HE2 := Lib.hid e2
    have HC := Lib.hid (show CutIs c s.data.toList (s.data.toList.take i) (s.data.toList.drop (i + 1)) true from .inr ⟨rfl, he, hn⟩)
    have hlt2 : i < s.size := by omega
    have c1 : decide ((0 : Int) ≤ (i : Int)) = true := decide_eq_true (by omega)
    clear hi hn hsz he e1 e2 hlt
    go_enter Tryd.func39, Tryd.ntmps39
    go_wp2_with fail
    refine (index_one _ _ _).mono ?_
    rintro e w1 ⟨rfl, rfl⟩
    rw [HI.out]
    go_wp2
    go_quiet (fail)
    go_wp2
    go_ret3
    exact ⟨⟨_, _, _, by rw [← HE1.out, ← HE2.out]; rfl, HC.out⟩, below_drawn10 (Below.refl _ _) _⟩
set_option maxRecDepth 100000 in
theorem cut_any10 (s : ByteArray) (c : UInt8) (w : World) (hs : s.size ≤ 1073741824) : Calls Tryd.prog 29 #[.string s, .string ⟨#[c]⟩] w (fun e w' => (∃ a b f, e = .returned (.tuple #[.string (sB a), .string (sB b), .bool f]) ∧ CutIs c s.data.toList a b f) ∧ Below w.heap.size w w') := by
  go_enter Tryd.func29, Tryd.ntmps29
  go_wp2_with fail
  refine (cutLite s c _ hs).mono ?_
  rintro e w1 ⟨⟨a, b, f, rfl, hc⟩, hb⟩
  have HC := Lib.hid hc
  clear hc
  go_wp2
  go_ret3
  exact ⟨⟨a, b, f, rfl, HC.out⟩, hb⟩
end Go.Proofs.YtgefbdckngejdaaDoor

