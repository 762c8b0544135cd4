/-
  The last step of a law's row, once for all laws of this seat: a call that returns true, and below the heap's size at the call leaves the world as it was, meets the row's post. Condition: the parameters' types can be read as data. A []string that came in, opened: the strings that it holds, kept over whatever leaves old memory as it was. No conditions.
  Plain definitions and laws for layers 1 and 2 (words, tokens), without the program. No conditions but where a law says so.
-/
import Derived.Test.YtikjdjfpoohieaaDoorRows
import Derived.WalkKit
import Derived.ProofKit
import Derived.OpenShut
import Derived.ShutString
import Derived.Carry
import Derived.SliceStrings
import Derived.Lib.Bytealg
import Derived.Lib.Strings

namespace Go.Proofs.YtikjdjfpoohieaaDoor
open Go.ChangeShapes Go.WideShapes Go.ChangeAt Go.RowKit

theorem Tryd.own : ownKnob Tryd.prog.godebug = none := by kernel_rfl
theorem Tryd.laidOut : laidOutB Tryd.prog = true := by kernel_rfl

theorem args_stay {P : Program} (hl : laidOutB P = true) {H : Type} {enc : TypeId × Value → H} {W W' : World} (hb : Below W.heap.size W W') :
    ∀ (ts : List TypeId) (vs : List Value) (ds : List (DataW H)) (ps : List MemPlace), ts.all (fun t => P.readableRec t && decide (t < P.types.size)) = true →
      DataW.TrodAll enc P W 0 (fun _ => true) true ts vs ds ps → (∀ x ∈ ps, x.block < W.heap.size) → DataW.TrodAll enc P W' 0 (fun b => decide (b < W.heap.size)) true ts vs ds ps
  | [], vs, ds, ps, _, h, _ => by
    obtain ⟨rfl, rfl, rfl⟩ := trodAll_nil h
    exact trodAll_mk0
  | t :: ts, vs, ds, ps, hr, h, hlt => by
    obtain ⟨v, vs', d, ds', p, q, rfl, rfl, rfl, h0, h1⟩ := trodAll_cons h
    simp only [List.all_cons, Bool.and_eq_true, decide_eq_true_eq] at hr
    refine trodAll_cons_mk (Below.trod hl hr.1.1 hr.1.2 h0 hb fun x hx => hlt x (by simp [hx])) (args_stay hl hb ts vs' ds' q ?_ h1 fun x hx => hlt x (by simp [hx]))
    simpa only [Bool.and_eq_true, decide_eq_true_eq] using hr.2

theorem law_post {H : Type} {enc : TypeId × Value → H} {f : Func} {s : ChangeSpec} {W W' : World} {args : Array Value} {ds gs : List (DataW H)} {before : List MemPlace}
    (hr : f.params.toList.all (fun t => Tryd.prog.readableRec t && decide (t < Tryd.prog.types.size)) = true) (hres : f.resultTypes = #[4]) (hvars : s.vars = [])
    (hfn1 : (s.fn H (ds ++ gs)).results = [.lit (.bool true)]) (hfn2 : (s.fn H (ds ++ gs)).args = ds) (hfn3 : (s.fn H (ds ++ gs)).vars = [])
    (hW : DataW.Whole enc Tryd.prog f.params.toList s.vars false W args.toList ds gs before) (hb : Below W.heap.size W W') : s.post enc Tryd.prog f false true false false W args (.bool true) W' := by
  have hlt : ∀ p ∈ before, p.block < W.heap.size := fun p hp => hW.lt p hp
  have hW2 := hW
  obtain ⟨p, q, hA, hV, rfl, _, _⟩ := hW
  rw [hvars] at hV
  obtain ⟨rfl, rfl⟩ := trodVars_none hV
  refine ⟨ds, [], p ++ [], [], p, [], hW2, ?_, ?_, ?_, hb.frame _, fun h => by cases h⟩
  · rw [hfn1, hres]
    exact trodAll_cons_mk (shut_bool Tryd.underlying4 true) trodAll_mk0
  · rw [hfn2]
    exact args_stay Tryd.laidOut hb _ _ _ _ hr hA (fun x hx => hlt x (by simp [hx]))
  · rw [hfn3, hvars]; rfl
end Go.Proofs.YtikjdjfpoohieaaDoor

namespace Go.Proofs.YtikjdjfpoohieaaDoor
open Go.ChangeShapes Go.WideShapes Go.ChangeAt Go.RowKit

/-- The slice '.slice A n c' holds the strings xs. -/
def HoldsS (w : World) (A : Option Addr) (n : Nat) (xs : List ByteArray) : Prop :=
  xs.length = n ∧ ∀ i, i < n → ∃ ad : Addr, A = some ad ∧ w.cell? (ad.add i) = some (.string (xs.getD i ByteArray.empty))
theorem HoldsS.below {w w' : World} {A : Option Addr} {n : Nat} {xs : List ByteArray} (h : HoldsS w A n xs) (hb : Below w.heap.size w w') : HoldsS w' A n xs :=
  ⟨h.1, fun i hi => by
    obtain ⟨ad, e, hc⟩ := h.2 i hi
    exact ⟨ad, e, (hb.cell (World.block_lt_of_cell? w _ hc)).trans hc⟩⟩

theorem Tryd.cellsStr : Tryd.prog.cellsOf 9 = 1 := by kernel_rfl
set_option maxRecDepth 100000 in
theorem open_strs {H : Type} {enc : TypeId × Value → H} {W : World} {base : Nat} {v : Value} {d : DataW H} {p : List MemPlace} (hok : Value.okWide Tryd.prog W .any base 34 v)
    (h : DataW.Trod enc Tryd.prog W 0 (fun _ => true) true 34 v d p) : ∃ A n c xs, v = .slice A n c ∧ HoldsS W A n xs ∧ n ≤ maxLen ∧ ∀ x ∈ xs, x.size ≤ maxLen := by
  obtain ⟨A, n, c, rfl⟩ := okWide_slice Tryd.underlying34 hok
  obtain ⟨fuel, hf⟩ := h
  rcases open_strings Tryd.underlying34 Tryd.underlying9 Tryd.cellsStr hf with ⟨hcs, _⟩ | ⟨a, len, cap, ss, hcs, _, hl, hm, hz, _, hcell, hws⟩
  · have hc2 : ([Value.slice A n c] : List Value) = [.slice none 0 0] := hcs
    injection hc2 with hc2
    injection hc2 with e1 e2 e3
    subst e1; subst e2; subst e3
    exact ⟨none, 0, 0, [], rfl, ⟨rfl, fun i hi => by omega⟩, by unfold maxLen; omega, by simp⟩
  · have hc2 : ([Value.slice A n c] : List Value) = [.slice (some a) len cap] := hcs
    injection hc2 with hc2
    injection hc2 with e1 e2 e3
    subst e1; subst e2; subst e3
    simp at hz
    refine ⟨some a, n, c, ss.take n, rfl, ⟨by rw [List.length_take]; omega, fun i hi => ⟨a, rfl, ?_⟩⟩, by omega, fun x hx => hws x (List.mem_of_mem_take hx)⟩
    have e : (ss.take n).getD i ByteArray.empty = ss.getD i ByteArray.empty := by simp [List.getD, hi]
    rw [e]
    exact hcell i (by omega)
end Go.Proofs.YtikjdjfpoohieaaDoor

namespace Go.Proofs.YtikjdjfpoohieaaDoor.W

/-- May a byte stand in a plain word? -/
def plainB (c : UInt8) : Bool :=
  decide (97 ≤ c.toNat ∧ c.toNat ≤ 122 ∨ 65 ≤ c.toNat ∧ c.toNat ≤ 90 ∨ 48 ≤ c.toNat ∧ c.toNat ≤ 57 ∨ c.toNat = 45 ∨ c.toNat = 95 ∨ c.toNat = 46 ∨ c.toNat = 47 ∨ c.toNat = 58 ∨ c.toNat = 42)
/-- Does a byte stand for itself between two quotes (or need a backslash)? -/
def shownB (c : UInt8) : Bool := decide (32 ≤ c.toNat ∧ c.toNat ≤ 126)
def allPlainL (l : List UInt8) : Bool := l.all plainB && !l.isEmpty
def inactiveL : List UInt8 := [105, 110, 97, 99, 116, 105, 118, 101, 58]
def protectL : List UInt8 := [112, 114, 111, 116, 101, 99, 116, 58]
def reservedL (l : List UInt8) : Bool := l == inactiveL || l == protectL || Lib.hasPrefix l [47, 42]
def bareL (l : List UInt8) : Bool := allPlainL l && !reservedL l
def hexD (n : Nat) : UInt8 := if n < 10 then (48 + n).toUInt8 else (87 + n).toUInt8
/-- A byte, as it is written between two quotes. -/
def encB (c : UInt8) : List UInt8 :=
  if c == 34 || c == 92 then [92, c] else if shownB c then [c] else [92, 120, hexD (c.toNat / 16), hexD (c.toNat % 16)]
def encL (l : List UInt8) : List UInt8 := l.flatMap encB
def quotedL (l : List UInt8) : List UInt8 := 34 :: (encL l ++ [34])
def quoteL (l : List UInt8) : List UInt8 := if bareL l then l else quotedL l

theorem take_snoc (s : ByteArray) (k : Nat) (h : k < s.size) : s.data.toList.take (k + 1) = s.data.toList.take k ++ [s[k]] := by
  rw [List.take_succ_eq_append_getElem (by simpa using h)]; rfl
theorem prefix_yes (s p : ByteArray) (h : p.size ≤ s.size) : ((s.extract 0 p.size).toList == p.toList) = Lib.hasPrefix s.data.toList p.data.toList := by
  rw [← Lib.hasPrefix_raw]; simp [h]
theorem prefix_no (s p : ByteArray) (h : ¬ p.size ≤ s.size) : false = Lib.hasPrefix s.data.toList p.data.toList := by
  rw [← Lib.hasPrefix_raw]; simp [h]
end Go.Proofs.YtikjdjfpoohieaaDoor.W

namespace Go.Proofs.YtikjdjfpoohieaaDoor.W

/-- The bytes from here on, up to the quote that ends, with that. -/
def quotedRun : List UInt8 → Option Nat
  | [] => none
  | [c] => if c.toNat = 34 then some 1 else none
  | c :: d :: l => if c.toNat = 34 then some 1 else if c.toNat = 92 then (quotedRun l).map (· + 2) else (quotedRun (d :: l)).map (· + 1)
def plainRun (l : List UInt8) : Nat := (l.takeWhile plainB).length
/-- The length of the word at the front. -/
def scanD : List UInt8 → Option Nat
  | [] => none
  | c :: r => if c.toNat = 34 then (quotedRun r).map (· + 1) else if plainRun (c :: r) = 0 then none else some (plainRun (c :: r))
def hexV (c : UInt8) : Int := Lib.indexByte [48, 49, 50, 51, 52, 53, 54, 55, 56, 57, 97, 98, 99, 100, 101, 102] c
def codedD : List UInt8 → Option UInt8
  | h :: l :: _ => if hexV h < 0 ∨ hexV l < 0 then none else some (hexV h * 16 + hexV l).toNat.toUInt8
  | _ => none
/-- What the byte at the front of a quoted text means, and how many bytes say it. -/
def oneD : List UInt8 → Option (UInt8 × Nat)
  | [] => none
  | c :: r => if c.toNat = 34 ∨ shownB c = false then none else if c.toNat ≠ 92 then some (c, 1) else
    match r with
    | [] => none
    | e :: r' => if e.toNat = 34 ∨ e.toNat = 92 then some (e, 2) else if e.toNat = 120 then (codedD r').map (·, 4) else none
def decF : Nat → List UInt8 → Option (List UInt8)
  | 0, _ => some []
  | _ + 1, [] => some []
  | f + 1, c :: r => match oneD (c :: r) with
    | none => none
    | some (b, n) => (decF f ((c :: r).drop n)).map (b :: ·)
def decL (l : List UInt8) : Option (List UInt8) := decF l.length l

def meantL (l : List UInt8) : Option (List UInt8) :=
  if allPlainL l = true then (if reservedL l = true then none else some l)
  else if l.length < 2 ∨ l.head? ≠ some 34 ∨ l.getLast? ≠ some 34 then none
  else decL ((l.drop 1).take (l.length - 2))
/-- The word of a text, and the error's number. -/
def unqL (l : List UInt8) : List UInt8 × Int :=
  match meantL l with
  | none => ([], 2)
  | some s => if 40 < s.length then ([], 5) else (s, 0)

theorem drop_at (s : ByteArray) (k : Nat) (h : k < s.size) : s.data.toList.drop k = s[k] :: s.data.toList.drop (k + 1) := by
  have hl : k < s.data.toList.length := by rw [← Lib.size_eq]; exact h
  rw [List.drop_eq_getElem_cons hl]; rfl
theorem drop_over (s : ByteArray) (k : Nat) (h : s.size ≤ k) : s.data.toList.drop k = [] := by
  apply List.drop_of_length_le; rw [← Lib.size_eq]; exact h
end Go.Proofs.YtikjdjfpoohieaaDoor.W

namespace Go.Proofs.YtikjdjfpoohieaaDoor.W

theorem codedD_len {l : List UInt8} {b : UInt8} (h : codedD l = some b) : 2 ≤ l.length := by
  match l, h with
  | _ :: _ :: r, _ => simp
theorem oneD_pos {l : List UInt8} {b : UInt8} {n : Nat} (h : oneD l = some (b, n)) : 1 ≤ n ∧ n ≤ 4 ∧ n ≤ l.length := by
  match l, h with
  | c :: r, h =>
    simp only [oneD] at h
    split at h
    · cases h
    · split at h
      · injection h with h; injection h with _ h; subst h; simp
      · match r, h with
        | e :: r', h =>
          simp only at h
          split at h
          · injection h with h; injection h with _ h; subst h; simp
          · split at h
            · cases hc : codedD r' with
              | none => rw [hc] at h; cases h
              | some x =>
                have := codedD_len hc
                rw [hc] at h; injection h with h; injection h with _ h; subst h; simp; omega
            · cases h
theorem decF_fuel : ∀ (f g : Nat) (l : List UInt8), l.length ≤ f → l.length ≤ g → decF f l = decF g l
  | 0, g, l, hf, _ => by
    have : l = [] := List.eq_nil_of_length_eq_zero (by omega)
    subst this; cases g <;> rfl
  | f + 1, 0, l, _, hg => by
    have : l = [] := List.eq_nil_of_length_eq_zero (by omega)
    subst this; rfl
  | f + 1, g + 1, [], _, _ => rfl
  | f + 1, g + 1, c :: r, hf, hg => by
    simp only [decF]
    cases h : oneD (c :: r) with
    | none => rfl
    | some p =>
      obtain ⟨b, n⟩ := p
      have hn := oneD_pos h
      simp only []
      rw [decF_fuel f g]
      · simp only [List.length_drop, List.length_cons] at hf ⊢; omega
      · simp only [List.length_drop, List.length_cons] at hg ⊢; omega
theorem decL_nil : decL [] = some [] := rfl
theorem decL_none {l : List UInt8} (hl : l ≠ []) (h : oneD l = none) : decL l = none := by
  match l, hl, h with
  | c :: r, _, h => simp only [decL, List.length_cons, decF, h]
theorem decL_some {l : List UInt8} {b : UInt8} {n : Nat} (h : oneD l = some (b, n)) : decL l = (decL (l.drop n)).map (b :: ·) := by
  match l, h with
  | c :: r, h =>
    have hn := oneD_pos h
    simp only [decL, List.length_cons, decF, h]
    rw [decF_fuel r.length ((c :: r).drop n).length]
    · simp only [List.length_drop, List.length_cons]; omega
    · exact Nat.le_refl _
theorem decL_len : ∀ (f : Nat) (l x : List UInt8), l.length ≤ f → decL l = some x → x.length ≤ l.length
  | f, [], x, _, h => by rw [decL_nil] at h; injection h with h; subst h; simp
  | 0, c :: r, x, hf, _ => by simp at hf
  | f + 1, c :: r, x, hf, h => by
    cases ho : oneD (c :: r) with
    | none => rw [decL_none (by simp) ho] at h; cases h
    | some p =>
      obtain ⟨b, n⟩ := p
      have hn := oneD_pos ho
      rw [decL_some ho] at h
      cases hd : decL ((c :: r).drop n) with
      | none => rw [hd] at h; cases h
      | some y =>
        rw [hd] at h
        injection h with h
        subst h
        have := decL_len f _ y (by simp only [List.length_drop, List.length_cons] at hf ⊢; omega) hd
        simp only [List.length_drop, List.length_cons] at this ⊢
        omega
theorem last_at (s : ByteArray) (h : 0 < s.size) : s.data.toList.getLast? = some (s[s.size - 1]'(by omega)) := by
  have h1 : s.data.toList.length - 1 < s.data.toList.length := by rw [← Lib.size_eq]; omega
  rw [List.getLast?_eq_getElem?, List.getElem?_eq_getElem h1]
  rfl
end Go.Proofs.YtikjdjfpoohieaaDoor.W

namespace Go.Proofs.YtikjdjfpoohieaaDoor.W

end Go.Proofs.YtikjdjfpoohieaaDoor.W

namespace Go.Proofs.YtikjdjfpoohieaaDoor.W

structure Tok where
  kind : Int
  pos : Nat
  word : List UInt8
  bit : Int

inductive Step where
  | skip (n : Nat)
  | tok (k : Int) (w : List UInt8) (b : Int) (n : Nat)
  | bad (e : Int)

inductive Res where
  | ok (l : List Tok)
  | bad (p : Nat) (e : Int)

def Res.place : Res → Nat | .ok _ => 0 | .bad p _ => p
/-- Tokens ahead of a result. -/
def Res.pre (a : List Tok) : Res → Res | .ok l => .ok (a ++ l) | .bad p e => .bad p e
def blankB (c : UInt8) : Bool := decide (c.toNat = 32 ∨ c.toNat = 9 ∨ c.toNat = 10 ∨ c.toNat = 13)
def signK (c : UInt8) : Int := if c.toNat = 123 then 2 else if c.toNat = 125 then 3 else if c.toNat = 59 then 4 else 0
def markK (l : List UInt8) : Int := if l == inactiveL then 1 else if l == protectL then 2 else 0
def lineB (c : UInt8) : Bool := decide (c.toNat ≠ 10)
/-- So many bytes stand ahead of the next byte 10, or of the end. -/
def lineRun (l : List UInt8) : Nat := (l.takeWhile lineB).length
/-- So many bytes up to the next star and slash, with these. -/
def starEnd : List UInt8 → Option Nat
  | [] => none
  | [_] => none
  | c :: d :: l => if c.toNat = 42 ∧ d.toNat = 47 then some 2 else (starEnd (d :: l)).map (· + 1)
/-- What is left off at the front: none for a comment without an end. -/
def gapO : List UInt8 → Option Nat
  | [] => some 0
  | c :: r => if blankB c = true then some 1 else if c.toNat = 35 then some (lineRun (c :: r))
    else if Lib.hasPrefix (c :: r) [47, 42] = true then (starEnd (r.drop 1)).map (· + 2) else some 0
/-- The token at the front. -/
def takeD (l : List UInt8) : Step :=
  if signK (l.headD 0) ≠ 0 then .tok (signK (l.headD 0)) [] 0 1 else
  match scanD l with
  | none => .bad 2
  | some n => if markK (l.take n) ≠ 0 then .tok 5 [] (markK (l.take n)) n
    else if (unqL (l.take n)).2 ≠ 0 then .bad (unqL (l.take n)).2 else .tok 1 (unqL (l.take n)).1 0 n
def stepD (l : List UInt8) : Step :=
  match gapO l with
  | none => .bad 2
  | some 0 => takeD l
  | some (n + 1) => .skip (n + 1)

def lexF : Nat → Nat → List UInt8 → Res
  | 0, _, _ => .ok []
  | _ + 1, _, [] => .ok []
  | f + 1, p, c :: r => match stepD (c :: r) with
    | .skip n => lexF f (p + n) ((c :: r).drop n)
    | .tok k w b n => (lexF f (p + n) ((c :: r).drop n)).pre [⟨k, p, w, b⟩]
    | .bad e => .bad p e
/-- The tokens of a text whose first byte has the place p. -/
def lexL (p : Nat) (l : List UInt8) : Res := lexF l.length p l

theorem starEnd_le : ∀ (l : List UInt8) (n : Nat), starEnd l = some n → 2 ≤ n ∧ n ≤ l.length
  | [], _, h => by simp [starEnd] at h
  | [_], _, h => by simp [starEnd] at h
  | c :: d :: l, n, h => by
    simp only [starEnd] at h
    split at h
    · injection h with h; subst h; simp
    · cases hs : starEnd (d :: l) with
      | none => rw [hs] at h; cases h
      | some m =>
        rw [hs] at h
        simp only [Option.map_some, Option.some.injEq] at h
        have := starEnd_le (d :: l) m hs
        simp only [List.length_cons] at this ⊢
        omega
theorem lineRun_le (l : List UInt8) : lineRun l ≤ l.length := by
  unfold lineRun; exact (List.takeWhile_sublist _).length_le
theorem gapO_le (l : List UInt8) (n : Nat) (h : gapO l = some n) : n ≤ l.length := by
  match l, h with
  | [], h => simp [gapO] at h; omega
  | c :: r, h =>
    simp only [gapO] at h
    split at h
    · injection h with h; subst h; simp
    · split at h
      · injection h with h; subst h; exact lineRun_le _
      · split at h
        · cases hs : starEnd (r.drop 1) with
          | none => rw [hs] at h; cases h
          | some m =>
            rw [hs] at h
            simp only [Option.map_some, Option.some.injEq] at h
            have := starEnd_le _ m hs
            rw [List.length_drop] at this
            simp only [List.length_cons]
            omega
        · injection h with h; omega
theorem quotedRun_le : ∀ (l : List UInt8) (n : Nat), quotedRun l = some n → 1 ≤ n ∧ n ≤ l.length
  | [], _, h => by simp [quotedRun] at h
  | [c], n, h => by simp [quotedRun] at h; simp; omega
  | c :: d :: l, n, h => by
    simp only [quotedRun] at h
    split at h
    · injection h with h; subst h; simp
    · split at h
      · cases hs : quotedRun l with
        | none => rw [hs] at h; cases h
        | some m => rw [hs] at h; simp only [Option.map_some, Option.some.injEq] at h; have := quotedRun_le l m hs; simp only [List.length_cons]; omega
      · cases hs : quotedRun (d :: l) with
        | none => rw [hs] at h; cases h
        | some m => rw [hs] at h; simp only [Option.map_some, Option.some.injEq] at h; have := quotedRun_le (d :: l) m hs; simp only [List.length_cons] at this ⊢; omega
theorem scanD_le (l : List UInt8) (n : Nat) (h : scanD l = some n) : 1 ≤ n ∧ n ≤ l.length := by
  match l, h with
  | c :: r, h =>
    simp only [scanD] at h
    split at h
    · cases hs : quotedRun r with
      | none => rw [hs] at h; cases h
      | some m => rw [hs] at h; simp only [Option.map_some, Option.some.injEq] at h; have := quotedRun_le r m hs; simp only [List.length_cons]; omega
    · split at h
      · cases h
      · injection h with h
        have : plainRun (c :: r) ≤ (c :: r).length := by unfold plainRun; exact (List.takeWhile_sublist _).length_le
        omega
theorem takeD_tok {l : List UInt8} {k : Int} {w : List UInt8} {b : Int} {n : Nat} (hl : l ≠ []) (h : takeD l = .tok k w b n) : 1 ≤ n ∧ n ≤ l.length := by
  unfold takeD at h
  split at h
  · injection h with _ _ _ h; subst h
    exact ⟨Nat.le_refl _, List.length_pos_iff.2 hl⟩
  · cases hs : scanD l with
    | none => rw [hs] at h; cases h
    | some m =>
      rw [hs] at h
      simp only at h
      have := scanD_le l m hs
      split at h
      · injection h with _ _ _ h; subst h; exact this
      · split at h
        · cases h
        · injection h with _ _ _ h; subst h; exact this
theorem takeD_noskip {l : List UInt8} {n : Nat} : takeD l ≠ .skip n := by
  intro h
  unfold takeD at h
  split at h
  · cases h
  · cases hs : scanD l with
    | none => rw [hs] at h; cases h
    | some m =>
      rw [hs] at h
      simp only at h
      split at h
      · cases h
      · split at h <;> cases h
theorem stepD_skip {l : List UInt8} {n : Nat} (h : stepD l = .skip n) : 1 ≤ n ∧ n ≤ l.length ∧ gapO l = some n := by
  unfold stepD at h
  cases hg : gapO l with
  | none => rw [hg] at h; cases h
  | some m =>
    rw [hg] at h
    match m, hg, h with
    | 0, _, h => exact absurd h takeD_noskip
    | m + 1, hg, h =>
      simp only at h
      injection h with h
      subst h
      exact ⟨by omega, gapO_le l _ hg, rfl⟩
theorem stepD_tok {l : List UInt8} {k : Int} {w : List UInt8} {b : Int} {n : Nat} (hl : l ≠ []) (h : stepD l = .tok k w b n) : 1 ≤ n ∧ n ≤ l.length ∧ gapO l = some 0 ∧ takeD l = .tok k w b n := by
  unfold stepD at h
  cases hg : gapO l with
  | none => rw [hg] at h; cases h
  | some m =>
    rw [hg] at h
    match m, hg, h with
    | 0, _, h => exact ⟨(takeD_tok hl h).1, (takeD_tok hl h).2, rfl, h⟩
    | m + 1, hg, h => simp only at h; cases h
theorem stepD_gap {l : List UInt8} {n : Nat} (h : gapO l = some (n + 1)) : stepD l = .skip (n + 1) := by unfold stepD; rw [h]
theorem stepD_take {l : List UInt8} (h : gapO l = some 0) : stepD l = takeD l := by unfold stepD; rw [h]
theorem stepD_open {l : List UInt8} (h : gapO l = none) : stepD l = .bad 2 := by unfold stepD; rw [h]

theorem lexF_fuel : ∀ (f g p : Nat) (l : List UInt8), l.length ≤ f → l.length ≤ g → lexF f p l = lexF g p l
  | 0, g, p, l, hf, _ => by
    have : l = [] := List.eq_nil_of_length_eq_zero (by omega)
    subst this; cases g <;> rfl
  | f + 1, 0, p, l, _, hg => by
    have : l = [] := List.eq_nil_of_length_eq_zero (by omega)
    subst this; rfl
  | f + 1, g + 1, p, [], _, _ => rfl
  | f + 1, g + 1, p, c :: r, hf, hg => by
    simp only [lexF]
    cases h : stepD (c :: r) with
    | bad e => rfl
    | skip n =>
      have hn := stepD_skip h
      simp only []
      rw [lexF_fuel f g]
      · simp only [List.length_drop, List.length_cons] at hf ⊢; omega
      · simp only [List.length_drop, List.length_cons] at hg ⊢; omega
    | tok k w b n =>
      have hn := stepD_tok (by simp) h
      simp only []
      rw [lexF_fuel f g]
      · simp only [List.length_drop, List.length_cons] at hf ⊢; omega
      · simp only [List.length_drop, List.length_cons] at hg ⊢; omega
theorem lexL_nil (p : Nat) : lexL p [] = .ok [] := rfl
theorem lexL_skip {l : List UInt8} {n : Nat} (p : Nat) (hl : l ≠ []) (h : stepD l = .skip n) : lexL p l = lexL (p + n) (l.drop n) := by
  match l, hl, h with
  | c :: r, _, h =>
    have hn := stepD_skip h
    simp only [lexL, List.length_cons, lexF, h]
    rw [lexF_fuel r.length ((c :: r).drop n).length]
    · simp only [List.length_drop, List.length_cons]; omega
    · exact Nat.le_refl _
theorem lexL_tok {l : List UInt8} {k : Int} {w : List UInt8} {b : Int} {n : Nat} (p : Nat) (hl : l ≠ []) (h : stepD l = .tok k w b n) : lexL p l = (lexL (p + n) (l.drop n)).pre [⟨k, p, w, b⟩] := by
  match l, hl, h with
  | c :: r, hl, h =>
    have hn := stepD_tok hl h
    simp only [lexL, List.length_cons, lexF, h]
    rw [lexF_fuel r.length ((c :: r).drop n).length]
    · simp only [List.length_drop, List.length_cons]; omega
    · exact Nat.le_refl _
theorem lexL_bad {l : List UInt8} {e : Int} (p : Nat) (hl : l ≠ []) (h : stepD l = .bad e) : lexL p l = .bad p e := by
  match l, hl, h with
  | c :: r, hl, h => simp only [lexL, List.length_cons, lexF, h]

theorem pre_pre (a b : List Tok) (r : Res) : (r.pre b).pre a = r.pre (a ++ b) := by cases r <;> simp [Res.pre]
theorem pre_nil (r : Res) : r.pre [] = r := by cases r <;> simp [Res.pre]
/-- No plain byte stands at the front. -/
def stops (r : List UInt8) : Prop := ∀ c, r.head? = some c → plainB c = false
end Go.Proofs.YtikjdjfpoohieaaDoor.W

namespace Go.Proofs.YtikjdjfpoohieaaDoor.W

theorem ne_drop (s : ByteArray) (k : Nat) (h : k < s.size) : s.data.toList.drop k ≠ [] := by rw [drop_at s k h]; simp
theorem gap_line (s : ByteArray) (k : Nat) (h : k < s.size) (hb : blankB s[k] = false) (h35 : s[k].toNat = 35) : gapO (s.data.toList.drop k) = some (lineRun (s.data.toList.drop k)) := by
  have e := drop_at s k h
  rw [e]; simp only [gapO]; rw [if_neg (by simp [hb]), if_pos h35]
theorem gap_star (s : ByteArray) (k : Nat) (h : k < s.size) (hb : blankB s[k] = false) (h35 : s[k].toNat ≠ 35) (hp : Lib.hasPrefix (s.data.toList.drop k) [47, 42] = true) : gapO (s.data.toList.drop k) = (starEnd (s.data.toList.drop (k + 2))).map (· + 2) := by
  have e := drop_at s k h
  rw [e] at hp ⊢
  simp only [gapO]; rw [if_neg (by simp [hb]), if_neg h35, if_pos hp, List.drop_drop]
theorem lineRun_at (s : ByteArray) (k : Nat) (h : k < s.size) (hp : s[k].toNat ≠ 10) : lineRun (s.data.toList.drop k) = lineRun (s.data.toList.drop (k + 1)) + 1 := by
  have : lineB s[k] = true := by simp [lineB, hp]
  rw [drop_at s k h]; simp [lineRun, this]
theorem lineRun_stop (s : ByteArray) (k : Nat) (h : k < s.size) (hp : s[k].toNat = 10) : lineRun (s.data.toList.drop k) = 0 := by
  have : lineB s[k] = false := by simp [lineB, hp]
  rw [drop_at s k h]; simp [lineRun, this]
theorem lineRun_over (s : ByteArray) (k : Nat) (h : s.size ≤ k) : lineRun (s.data.toList.drop k) = 0 := by
  rw [drop_over s k h]; simp [lineRun]
theorem star_hit {l : List UInt8} (h : Lib.hasPrefix l [42, 47] = true) : starEnd l = some 2 := by
  match l, h with
  | [], h => simp [Lib.hasPrefix, List.isPrefixOf] at h
  | [c], h => simp [Lib.hasPrefix, List.isPrefixOf] at h
  | c :: d :: r, h =>
    simp [Lib.hasPrefix, List.isPrefixOf] at h
    simp only [starEnd]
    rw [← h.1, ← h.2, if_pos ⟨rfl, rfl⟩]
theorem star_miss {l : List UInt8} (h : Lib.hasPrefix l [42, 47] = false) : starEnd l = (starEnd (l.drop 1)).map (· + 1) := by
  match l, h with
  | [], h => rfl
  | [c], h => rfl
  | c :: d :: r, h =>
    simp [Lib.hasPrefix, List.isPrefixOf] at h
    simp only [starEnd, List.drop_succ_cons, List.drop_zero]
    rw [if_neg ?_]
    rintro ⟨h1, h2⟩
    exact h (UInt8.toNat_inj.1 h1).symm (UInt8.toNat_inj.1 h2).symm
theorem star_over (s : ByteArray) (k : Nat) (h : s.size ≤ k) : starEnd (s.data.toList.drop k) = none := by rw [drop_over s k h]; rfl
theorem pre2_size (s : ByteArray) (k : Nat) (a b : UInt8) (h : Lib.hasPrefix (s.data.toList.drop k) [a, b] = true) : k + 2 ≤ s.size := by
  have hl : (s.data.toList.drop k).length = s.size - k := by rw [List.length_drop, ← Lib.size_eq]
  match hd : s.data.toList.drop k, h with
  | [], h => simp [Lib.hasPrefix, List.isPrefixOf] at h
  | [c], h => simp [Lib.hasPrefix, List.isPrefixOf] at h
  | c :: d :: r, _ => rw [hd] at hl; simp at hl; omega

/-- The state of a reader of s: at the place k, with the tokens acc. -/
def Reading (s : ByteArray) (k : Nat) (acc : List Tok) : Prop := k ≤ s.size ∧ acc.length ≤ k ∧ lexL 0 s.data.toList = (lexL k (s.data.toList.drop k)).pre acc
theorem Reading.start (s : ByteArray) : Reading s 0 [] := ⟨Nat.zero_le _, Nat.le_refl _, by rw [List.drop_zero, pre_nil]⟩
theorem Reading.skip {s : ByteArray} {k : Nat} {acc : List Tok} (hr : Reading s k acc) {n : Nat} (hk : k < s.size) (h : gapO (s.data.toList.drop k) = some (n + 1)) : Reading s (k + (n + 1)) acc := by
  have hn := gapO_le _ _ h
  rw [List.length_drop, ← Lib.size_eq] at hn
  refine ⟨by omega, by have := hr.2.1; omega, ?_⟩
  rw [hr.2.2, lexL_skip _ (ne_drop s k hk) (stepD_gap h), List.drop_drop]
theorem Reading.bad {s : ByteArray} {k : Nat} {acc : List Tok} (hr : Reading s k acc) (hk : k < s.size) (h : gapO (s.data.toList.drop k) = some 0) {e : Int} (ht : takeD (s.data.toList.drop k) = .bad e) : lexL 0 s.data.toList = .bad k e := by
  rw [hr.2.2, lexL_bad _ (ne_drop s k hk) ((stepD_take h).trans ht)]; rfl
theorem Reading.tok {s : ByteArray} {k : Nat} {acc : List Tok} (hr : Reading s k acc) (hk : k < s.size) (h : gapO (s.data.toList.drop k) = some 0) {kd : Int} {wd : List UInt8} {b : Int} {n : Nat} (ht : takeD (s.data.toList.drop k) = .tok kd wd b n) : Reading s (k + n) (acc ++ [⟨kd, k, wd, b⟩]) := by
  have hn := takeD_tok (ne_drop s k hk) ht
  rw [List.length_drop, ← Lib.size_eq] at hn
  refine ⟨by omega, by have := hr.2.1; simp only [List.length_append, List.length_singleton]; omega, ?_⟩
  rw [hr.2.2, lexL_tok _ (ne_drop s k hk) ((stepD_take h).trans ht), List.drop_drop, pre_pre]
theorem Reading.done {s : ByteArray} {k : Nat} {acc : List Tok} (hr : Reading s k acc) (hk : s.size ≤ k) : lexL 0 s.data.toList = .ok acc := by
  rw [hr.2.2, drop_over s k hk, lexL_nil]; simp [Res.pre]
/-- A line of a comment, from k on, of which j is the place up to which no byte 10 is. -/
def Lined (s : ByteArray) (k j : Nat) : Prop := k ≤ j ∧ j ≤ s.size ∧ lineRun (s.data.toList.drop k) = j - k + lineRun (s.data.toList.drop j)
theorem Lined.start (s : ByteArray) (k : Nat) (h : k ≤ s.size) : Lined s k k := ⟨Nat.le_refl _, h, by simp⟩
theorem Lined.next {s : ByteArray} {k j : Nat} (h : Lined s k j) (hj : j < s.size) (hp : s[j].toNat ≠ 10) : Lined s k (j + 1) :=
  ⟨by have := h.1; omega, hj, by have := h.1; rw [h.2.2, lineRun_at s j hj hp]; omega⟩
theorem Lined.stop {s : ByteArray} {k j : Nat} (h : Lined s k j) (hj : j < s.size) (hp : s[j].toNat = 10) : lineRun (s.data.toList.drop k) = j - k := by
  rw [h.2.2, lineRun_stop s j hj hp]; omega
theorem Lined.over {s : ByteArray} {k j : Nat} (h : Lined s k j) (hj : s.size ≤ j) : lineRun (s.data.toList.drop k) = j - k := by
  rw [h.2.2, lineRun_over s j hj]; omega
theorem Reading.line {s : ByteArray} {k j : Nat} {acc : List Tok} (hr : Reading s k acc) (hk : k < s.size) (hb : blankB s[k] = false) (h35 : s[k].toNat = 35) (hj : k ≤ j) (hl : lineRun (s.data.toList.drop k) = j - k) : Reading s j acc := by
  have hlt : k < j := by
    rcases Nat.lt_or_ge k j with h | h
    · exact h
    · have : lineRun (s.data.toList.drop k) = lineRun (s.data.toList.drop (k + 1)) + 1 := lineRun_at s k hk (by omega)
      omega
  have := hr.skip (n := j - k - 1) hk (by rw [gap_line s k hk hb h35, hl]; congr 1; omega)
  have e : k + (j - k - 1 + 1) = j := by omega
  rw [e] at this
  exact this
/-- Inside a comment from k on: up to j no star and slash is. -/
def Starred (s : ByteArray) (k j : Nat) : Prop := k ≤ j ∧ j ≤ s.size ∧ starEnd (s.data.toList.drop k) = (starEnd (s.data.toList.drop j)).map (· + (j - k))
theorem Starred.start (s : ByteArray) (k : Nat) (h : k ≤ s.size) : Starred s k k := ⟨Nat.le_refl _, h, by cases starEnd (s.data.toList.drop k) <;> simp⟩
theorem Starred.next {s : ByteArray} {k j : Nat} (h : Starred s k j) (hj : j < s.size) (hp : Lib.hasPrefix (s.data.toList.drop j) [42, 47] = false) : Starred s k (j + 1) :=
  ⟨by have := h.1; omega, hj, by
    have := h.1
    rw [h.2.2, star_miss hp, List.drop_drop]
    cases starEnd (s.data.toList.drop (j + 1)) <;> simp; omega⟩
theorem Starred.stop {s : ByteArray} {k j : Nat} (h : Starred s k j) (hp : Lib.hasPrefix (s.data.toList.drop j) [42, 47] = true) : starEnd (s.data.toList.drop k) = some (j - k + 2) := by
  rw [h.2.2, star_hit hp]; simp; omega
theorem Starred.over {s : ByteArray} {k j : Nat} (h : Starred s k j) (hj : s.size ≤ j) : starEnd (s.data.toList.drop k) = none := by
  rw [h.2.2, star_over s j hj]; rfl
theorem Reading.star {s : ByteArray} {k j : Nat} {acc : List Tok} (hr : Reading s k acc) (hk : k < s.size) (hb : blankB s[k] = false) (h35 : s[k].toNat ≠ 35) (hp : Lib.hasPrefix (s.data.toList.drop k) [47, 42] = true) (hj : k + 2 ≤ j) (hs : starEnd (s.data.toList.drop (k + 2)) = some (j - (k + 2) + 2)) : Reading s (j + 2) acc := by
  have := hr.skip (n := j - k + 1) hk (by rw [gap_star s k hk hb h35 hp, hs]; simp; omega)
  have e : k + (j - k + 1 + 1) = j + 2 := by omega
  rw [e] at this
  exact this
end Go.Proofs.YtikjdjfpoohieaaDoor.W

namespace Go.Proofs.YtikjdjfpoohieaaDoor.W

def goodB (c : UInt8) (k : Int) : Prop := (k = 2 ↔ c.toNat = 123) ∧ (k = 3 ↔ c.toNat = 125) ∧ (k = 4 ↔ c.toNat = 59) ∧ c.toNat ≠ 32 ∧ c.toNat ≠ 10 ∧ c.toNat ≠ 35
def Rising (s : List UInt8) : Nat → List Tok → Prop
  | _, [] => True
  | p, t :: r => p ≤ t.pos ∧ (∃ c, s[t.pos]? = some c ∧ goodB c t.kind) ∧ Rising s (t.pos + 1) r
theorem Rising.more {s : List UInt8} {p q : Nat} {l : List Tok} (h : Rising s q l) (hpq : p ≤ q) : Rising s p l := by
  cases l with
  | nil => trivial
  | cons t r => exact ⟨by have := h.1; omega, h.2⟩
end Go.Proofs.YtikjdjfpoohieaaDoor.W

namespace Go.Proofs.YtikjdjfpoohieaaDoor.W

end Go.Proofs.YtikjdjfpoohieaaDoor.W

namespace Go.Proofs.YtikjdjfpoohieaaDoor.W

end Go.Proofs.YtikjdjfpoohieaaDoor.W

namespace Go.Proofs.YtikjdjfpoohieaaDoor.W

end Go.Proofs.YtikjdjfpoohieaaDoor.W

namespace Go.Proofs.YtikjdjfpoohieaaDoor.W

def gapF : Nat → List UInt8 → Option Nat
  | 0, _ => some 0
  | f + 1, l => match gapO l with
    | none => none
    | some 0 => some 0
    | some (n + 1) => (gapF f (l.drop (n + 1))).map (· + (n + 1))
/-- So many bytes are left off, from the front on, up to a token or the end; none: a comment does not end. -/
def gapD (l : List UInt8) : Option Nat := gapF l.length l
theorem gapF_fuel : ∀ (f g : Nat) (l : List UInt8), l.length ≤ f → l.length ≤ g → gapF f l = gapF g l
  | 0, g, l, hf, _ => by
    have : l = [] := List.eq_nil_of_length_eq_zero (by omega)
    subst this; cases g <;> rfl
  | f + 1, 0, l, _, hg => by
    have : l = [] := List.eq_nil_of_length_eq_zero (by omega)
    subst this; rfl
  | f + 1, g + 1, l, hf, hg => by
    simp only [gapF]
    cases h : gapO l with
    | none => rfl
    | some m =>
      match m, h with
      | 0, _ => rfl
      | m + 1, h =>
        have := gapO_le l _ h
        simp only []
        rw [gapF_fuel f g]
        · rw [List.length_drop]; omega
        · rw [List.length_drop]; omega
theorem gapD_zero {l : List UInt8} (h : gapO l = some 0) : gapD l = some 0 := by
  match l, h with
  | [], h => rfl
  | c :: r, h => simp only [gapD, List.length_cons, gapF, h]
theorem gapD_skip {l : List UInt8} {n : Nat} (h : gapO l = some (n + 1)) : gapD l = (gapD (l.drop (n + 1))).map (· + (n + 1)) := by
  match l, h with
  | [], h => simp [gapO] at h
  | c :: r, h =>
    simp only [gapD, List.length_cons, gapF, h]
    rw [gapF_fuel r.length ((c :: r).drop (n + 1)).length]
    · rw [List.length_drop, List.length_cons]; omega
    · exact Nat.le_refl _
/-- From k0 on all is left off up to k. -/
def GapAt (s : ByteArray) (k0 k : Nat) : Prop := k0 ≤ k ∧ k ≤ s.size ∧ gapD (s.data.toList.drop k0) = (gapD (s.data.toList.drop k)).map (· + (k - k0))
theorem GapAt.start (s : ByteArray) (k : Nat) (h : k ≤ s.size) : GapAt s k k := ⟨Nat.le_refl _, h, by cases gapD (s.data.toList.drop k) <;> simp⟩
theorem GapAt.skip {s : ByteArray} {k0 k n : Nat} (h : GapAt s k0 k) (hg : gapO (s.data.toList.drop k) = some (n + 1)) : GapAt s k0 (k + (n + 1)) := by
  have hn := gapO_le _ _ hg
  rw [List.length_drop, ← Lib.size_eq] at hn
  have h1 := h.1
  refine ⟨by omega, by omega, ?_⟩
  rw [h.2.2, gapD_skip hg, List.drop_drop]
  cases gapD (s.data.toList.drop (k + (n + 1))) <;> simp; omega
theorem GapAt.line {s : ByteArray} {k0 k j : Nat} (h : GapAt s k0 k) (hk : k < s.size) (hb : blankB s[k] = false) (h35 : s[k].toNat = 35) (hj : k ≤ j) (hl : lineRun (s.data.toList.drop k) = j - k) : GapAt s k0 j := by
  have hlt : k < j := by
    rcases Nat.lt_or_ge k j with h | h
    · exact h
    · have : lineRun (s.data.toList.drop k) = lineRun (s.data.toList.drop (k + 1)) + 1 := lineRun_at s k hk (by omega)
      omega
  have := h.skip (n := j - k - 1) (by rw [gap_line s k hk hb h35, hl]; congr 1; omega)
  have e : k + (j - k - 1 + 1) = j := by omega
  rw [e] at this
  exact this
theorem GapAt.star {s : ByteArray} {k0 k j : Nat} (h : GapAt s k0 k) (hk : k < s.size) (hb : blankB s[k] = false) (h35 : s[k].toNat ≠ 35) (hp : Lib.hasPrefix (s.data.toList.drop k) [47, 42] = true) (hj : k + 2 ≤ j) (hs : starEnd (s.data.toList.drop (k + 2)) = some (j - (k + 2) + 2)) : GapAt s k0 (j + 2) := by
  have := h.skip (n := j - k + 1) (by rw [gap_star s k hk hb h35 hp, hs]; simp; omega)
  have e : k + (j - k + 1 + 1) = j + 2 := by omega
  rw [e] at this
  exact this
theorem GapAt.stop {s : ByteArray} {k0 k : Nat} (h : GapAt s k0 k) (hg : gapO (s.data.toList.drop k) = some 0) : gapD (s.data.toList.drop k0) = some (k - k0) := by
  rw [h.2.2, gapD_zero hg]; simp
theorem GapAt.over {s : ByteArray} {k0 k : Nat} (h : GapAt s k0 k) (hk : s.size ≤ k) : gapD (s.data.toList.drop k0) = some (k - k0) :=
  h.stop (by rw [drop_over s k hk]; rfl)
theorem pre2_end (s : ByteArray) (k : Nat) (a b : UInt8) (h : s.size ≤ k + 1) : Lib.hasPrefix (s.data.toList.drop k) [a, b] = false := by
  cases hp : Lib.hasPrefix (s.data.toList.drop k) [a, b] with
  | false => rfl
  | true => have := pre2_size s k a b hp; omega
theorem Starred.ends {s : ByteArray} {k j : Nat} (h : Starred s k j) (hj : s.size ≤ j + 1) : starEnd (s.data.toList.drop k) = none := by
  by_cases hlt : j < s.size
  · exact (h.next hlt (pre2_end s j 42 47 hj)).over (by omega)
  · exact h.over (by omega)
/-- Where a comment does not end there is a byte, that is left off, or begins it. -/
theorem gapD_none_lt {s : ByteArray} {k : Nat} (h : gapD (s.data.toList.drop k) = none) : k < s.size := by
  rcases Nat.lt_or_ge k s.size with h1 | h1
  · exact h1
  · rw [drop_over s k h1] at h; cases h
/-- A comment that does not end is ahead, and the tokens from k0 on are those from k on. -/
def OpenAt (s : ByteArray) (k0 k : Nat) : Prop := gapD (s.data.toList.drop k) = none ∧ lexL k0 (s.data.toList.drop k0) = lexL k (s.data.toList.drop k)
theorem OpenAt.lt {s : ByteArray} {k0 k : Nat} (h : OpenAt s k0 k) : k < s.size := gapD_none_lt h.1
theorem OpenAt.skip {s : ByteArray} {k0 k n : Nat} (h : OpenAt s k0 k) (hg : gapO (s.data.toList.drop k) = some (n + 1)) : OpenAt s k0 (k + (n + 1)) := by
  refine ⟨?_, ?_⟩
  · have := h.1
    rw [gapD_skip hg, List.drop_drop] at this
    cases hd : gapD (s.data.toList.drop (k + (n + 1))) with
    | none => rfl
    | some m => rw [hd] at this; cases this
  · rw [h.2, lexL_skip _ (ne_drop s k h.lt) (stepD_gap hg), List.drop_drop]
theorem OpenAt.line {s : ByteArray} {k0 k j : Nat} (h : OpenAt s k0 k) (hk : k < s.size) (hb : blankB s[k] = false) (h35 : s[k].toNat = 35) (hl : Lined s k j) : j < s.size ∧ (lineRun (s.data.toList.drop j) = 0 → k < j ∧ OpenAt s k0 j) := by
  have h1 := hl.1
  have hlr : lineRun (s.data.toList.drop k) = lineRun (s.data.toList.drop (k + 1)) + 1 := lineRun_at s k hk (by omega)
  have hsk := h.skip (n := lineRun (s.data.toList.drop (k + 1))) (by rw [gap_line s k hk hb h35, hlr])
  have hlt := hsk.lt
  have h2 := hl.2.2
  refine ⟨by omega, fun h0 => ?_⟩
  have e : k + (lineRun (s.data.toList.drop (k + 1)) + 1) = j := by omega
  rw [e] at hsk
  exact ⟨by omega, hsk⟩
theorem OpenAt.star {s : ByteArray} {k0 k j : Nat} (h : OpenAt s k0 k) (hk : k < s.size) (hb : blankB s[k] = false) (h35 : s[k].toNat ≠ 35) (hp : Lib.hasPrefix (s.data.toList.drop k) [47, 42] = true) (hj : k + 2 ≤ j) (hs : starEnd (s.data.toList.drop (k + 2)) = some (j - (k + 2) + 2)) : OpenAt s k0 (j + 2) := by
  have := h.skip (n := j - k + 1) (by rw [gap_star s k hk hb h35 hp, hs]; simp; omega)
  have e : k + (j - k + 1 + 1) = j + 2 := by omega
  rw [e] at this
  exact this
theorem OpenAt.bad {s : ByteArray} {k0 k : Nat} (h : OpenAt s k0 k) (hk : k < s.size) (hb : blankB s[k] = false) (h35 : s[k].toNat ≠ 35) (hp : Lib.hasPrefix (s.data.toList.drop k) [47, 42] = true) (hs : starEnd (s.data.toList.drop (k + 2)) = none) : lexL k0 (s.data.toList.drop k0) = .bad k 2 := by
  rw [h.2, lexL_bad _ (ne_drop s k hk) (stepD_open (by rw [gap_star s k hk hb h35 hp, hs]; rfl))]
end Go.Proofs.YtikjdjfpoohieaaDoor.W
