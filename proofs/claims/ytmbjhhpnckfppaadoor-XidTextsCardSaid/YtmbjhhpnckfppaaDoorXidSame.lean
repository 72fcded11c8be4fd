/-
== on parameters that are the same.
-/
import Derived.Test.YtmbjhhpnckfppaaDoorXidBase
namespace Go.Proofs.YtmbjhhpnckfppaaDoor
open Go.RowKit
set_option maxRecDepth 20000
/-- == on parameters that are the same -/
theorem eq_same (a b : Bool) (n k t r : Int) (w : World) : (Op.equalIn 10000 23 (.agg #[.bool a, .bool b, .int .i64 n, .int .i64 k, .int .i64 t, .int .i64 r]) (.agg #[.bool a, .bool b, .int .i64 n, .int .i64 k, .int .i64 t, .int .i64 r])).run Tryd.prog w = .ok true w := by
  go_simp
theorem eq_same_ref (a b : Bool) (n k t r : Int) (w : World) : (Op.equalIn 10000 27 (.agg #[.bool a, .bool b, .int .i64 n, .int .i64 k, .int .i64 t, .int .i64 r]) (.agg #[.bool a, .bool b, .int .i64 n, .int .i64 k, .int .i64 t, .int .i64 r])).run Tryd.prog w = .ok true w := by
  go_simp
end Go.Proofs.YtmbjhhpnckfppaaDoor
