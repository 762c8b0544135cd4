/-
  Layer 11: what metric's six functions do (MetricOk), from the code. No conditions.
-/
import Derived.Test.YtgjfjjdljngklaaDoorMetricG
namespace Go.Proofs.YtgjfjjdljngklaaDoor
open Go.RowKit
open F

theorem metric_ok : MetricOk where
  rankOf := fun x r w hx hr => (rank_any11 x r w hx hr).mono fun _ _ h => ⟨h.1, h.2 ▸ Below.refl _ _⟩
  lessOf := fun x y r w hx hy hr => (less_any11 x y r w hx hy hr).mono fun _ _ h => ⟨h.1, h.2 ▸ Below.refl _ _⟩
  leastOf := least_any11
  readOf := read_any11
  textOf := text_any11
  sumOf := sum_any11
end Go.Proofs.YtgjfjjdljngklaaDoor
