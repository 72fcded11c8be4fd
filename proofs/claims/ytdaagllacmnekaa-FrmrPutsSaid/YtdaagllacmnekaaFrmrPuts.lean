/-
P9.1, proved: any report is right, or not, and has the bytes that the document says, or none; they are read as it. For every report; no condition.
-/
import Derived.Test.YtdaagllacmnekaaRepPutsT
import Derived.Test.YtdaagllacmnekaaRepCGet
namespace Go.Proofs.Ytdaagllacmnekaa
theorem frmrPuts_holds : Rows.FrmrPutsSaid := frmrPuts_of cput9_ok cright9_ok cget9_ok
end Go.Proofs.Ytdaagllacmnekaa
