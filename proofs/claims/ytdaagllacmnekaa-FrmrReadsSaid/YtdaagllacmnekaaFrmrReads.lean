/-
P9.1, proved: any bytes are the report that the document says, or none, told so (up to 300 bytes). For every text; no condition.
-/
import Derived.Test.YtdaagllacmnekaaRepReadsT
import Derived.Test.YtdaagllacmnekaaRepCGet
namespace Go.Proofs.Ytdaagllacmnekaa
theorem frmrReads_holds : Rows.FrmrReadsSaid := frmrReads_of cput9_ok cget9_ok
end Go.Proofs.Ytdaagllacmnekaa
