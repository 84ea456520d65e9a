/- Two records are the same just if all their fields are. -/
import Derived.Test.YteebiemfhicgbaaRpt
namespace Go.Proofs.Yteebiemfhicgbaa
set_option linter.unusedVariables false
open Go.RowKit
set_option maxHeartbeats 1000000 in
set_option maxRecDepth 100000 in
theorem rec_eql (w : World) (a0 a1 a2 a3 a4 a5 a6 a7 a8 : Int) (a9 a10 a11 a12 : ByteArray) : (Op.equalIn 10000 30 (.agg #[.int .u16 a0, .int .u32 a1, .int .u8 a2, .int .u32 a3, .int .u64 a4, .int .u32 a5, .int .u32 a6, .int .u32 a7, .int .u64 a8, .string a9, .string a10, .string a11, .string a12]) (.agg #[.int .u16 a0, .int .u32 a1, .int .u8 a2, .int .u32 a3, .int .u64 a4, .int .u32 a5, .int .u32 a6, .int .u32 a7, .int .u64 a8, .string a9, .string a10, .string a11, .string a12])).run Try.prog w = .ok true w := by
  unfold Op.equalIn
  simp [go_sem]
end Go.Proofs.Yteebiemfhicgbaa
