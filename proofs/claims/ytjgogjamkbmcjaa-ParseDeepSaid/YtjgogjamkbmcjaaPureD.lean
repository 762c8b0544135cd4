/-
  Plain law of layer 5: an open line in so many others is read up to a Depth of 15; one more is too deep, at its place. Condition: at most 30 of them.
-/
import Derived.Test.YtjgogjamkbmcjaaPureP

namespace Go.Proofs.Ytjgogjamkbmcjaa.S
open T (Ln Pth at_ dp wd RightT)
open W (Tok)

def manyA : Nat → List UInt8 → List UInt8 | 0, r => r | n + 1, r => 97 :: 123 :: manyA n r
def manyC (n : Nat) : List UInt8 := List.replicate n 125
def deepOk (k : Nat) (done : Bool) : Bool :=
  match parseL (manyA k (if done then manyC k else [])) with
  | .ok t => done && decide (k ≤ 16) && decide (t.length = k) && decide (dp t (k - 1) = (k : Int) - 1)
  | .bad q e => if 16 < k then decide (q = 32) && decide (e = 6) else !done && decide (q = 2 * k) && decide (e = 2)
theorem deep_all : (List.range 30).all (fun k => deepOk (k + 1) true && deepOk (k + 1) false) = true := by decide +kernel
theorem deep_one {k : Nat} (h1 : 1 ≤ k) (h2 : k ≤ 30) (done : Bool) : deepOk k done = true := by
  have h := List.all_eq_true.1 deep_all (k - 1) (List.mem_range.2 (by omega))
  rw [Nat.sub_add_cancel h1, Bool.and_eq_true] at h
  cases done
  · exact h.2
  · exact h.1
end Go.Proofs.Ytjgogjamkbmcjaa.S
