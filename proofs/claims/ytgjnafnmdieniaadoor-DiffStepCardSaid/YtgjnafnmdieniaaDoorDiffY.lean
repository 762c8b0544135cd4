/-
  What diff's functions do (layer 8): of, bad, apply, text as one premise's proof. Condition: at most 2^30 lines, 1024 changes.
-/
import Derived.Test.YtgjnafnmdieniaaDoorDiffM
import Derived.Test.YtgjnafnmdieniaaDoorDiffO
import Derived.Test.YtgjnafnmdieniaaDoorDiffP
namespace Go.Proofs.YtgjnafnmdieniaaDoor
theorem diff_ok : DiffOk := ⟨diff_of, diff_bad, diff_apply, diff_text⟩
end Go.Proofs.YtgjnafnmdieniaaDoor
