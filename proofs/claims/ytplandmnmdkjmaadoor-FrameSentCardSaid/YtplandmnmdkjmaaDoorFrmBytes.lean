/-
A right frame's bytes, as plain facts.
-/
import Derived.Test.YtplandmnmdkjmaaDoorFrmPlain
import Derived.Test.YtplandmnmdkjmaaDoorPathCPut
import Derived.Test.YtplandmnmdkjmaaDoorCtlCPut
namespace Go.Proofs.YtplandmnmdkjmaaDoor
open Go.RowKit Go.Sort
set_option maxRecDepth 20000
/-- the number's byte -/
def pidB (k pid : Int) : List UInt8 := if pidD k then [UInt8.ofNat pid.toNat] else []
/-- a right frame's bytes -/
def bytesF (L : List Ent) (k nr ns : Int) (pf wide : Bool) (pid : Int) (info : List UInt8) : List UInt8 :=
  bytesP L L.length ++ (putB k.toNat nr.toNat ns.toNat pf wide ++ (pidB k pid ++ info))
end Go.Proofs.YtplandmnmdkjmaaDoor
