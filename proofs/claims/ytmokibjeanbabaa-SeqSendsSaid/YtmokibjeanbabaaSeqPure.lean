/-
Numbers that go round as plain facts: distances, what a sender's and a taker's window has.
-/
import Derived.Test.YtmokibjeanbabaaInts
namespace Go.Proofs.Ytmokibjeanbabaa
open Go.RowKit
/-- is a modulus one -/
def modR (m : Int) : Bool := m == 8 || m == 128
/-- are they right -/
def inR (m a : Int) : Bool := decide (0 ≤ a) && decide (a < m)
/-- the distance of right numbers -/
def farN (m a b : Int) : Int := if a ≤ b then b - a else b - a + m
def farD (m a b : Int) : Int := if modR m && inR m a && inR m b then farN m a b else -1
theorem modR_yes {m : Int} (h : modR m = true) : m = 8 ∨ m = 128 := by
  unfold modR at h
  simpa using h
theorem inR_yes {m a : Int} (h : inR m a = true) : 0 ≤ a ∧ a < m := by
  unfold inR at h
  simpa using h
theorem inR_no {m a : Int} (h : inR m a = false) : a < 0 ∨ m ≤ a := by
  unfold inR at h
  simp at h
  omega
/-- a sender's window: how many were opened, how many acknowledged, ever -/
structure So where
  opened : Int
  acked : Int
def nextS (m k : Int) (s : So) : So × Int × Int := if s.opened - s.acked = k then (s, 0, 6) else (⟨s.opened + 1, s.acked⟩, s.opened % m, 0)
def acksS (m : Int) (s : So) (nr : Int) : So × Int × Int :=
  if !inR m nr then (s, 0, 1) else if s.acked + farN m (s.acked % m) nr ≤ s.opened then (⟨s.opened, s.acked + farN m (s.acked % m) nr⟩, farN m (s.acked % m) nr, 0) else (s, 0, 1)
def openS (m : Int) (s : So) : List Int := (List.range (s.opened - s.acked).toNat).map fun (i : Nat) => (s.acked + i) % m
/-- a taker's window: how many came in order, ever; which of those behind came -/
structure Ti where
  vr : Int
  came : List Bool
def runT (c : List Bool) : Nat := (c.takeWhile id).length
def shiftT (c : List Bool) : List Bool := c.drop 1 ++ [c.getD 127 false]
def takeT (m k : Int) (s : Ti) (ns : Int) : Ti × List Int × Int :=
  if !inR m ns then (s, [], 1)
  else if s.came.getD (farN m (s.vr % m) ns).toNat false then (s, [], 8)
  else if k ≤ farN m (s.vr % m) ns then (s, [], 7)
  else
    let c := s.came.set (farN m (s.vr % m) ns).toNat true
    (⟨s.vr + runT c, c.drop (runT c) ++ List.replicate (runT c) false⟩, (List.range (runT c)).map (fun (i : Nat) => (s.vr + i) % m), 0)
def heldT (s : Ti) : Int := s.came.count true
/-- the place of the last one that came, and 1 -/
def lastT : List Bool → Nat
  | [] => 0
  | b :: l => if lastT l = 0 then (if b then 1 else 0) else lastT l + 1
def missT (m : Int) (s : Ti) : List Int := ((List.range (lastT s.came - 1)).filter (fun i => !s.came.getD i false)).map fun (i : Nat) => (s.vr + i) % m
end Go.Proofs.Ytmokibjeanbabaa
