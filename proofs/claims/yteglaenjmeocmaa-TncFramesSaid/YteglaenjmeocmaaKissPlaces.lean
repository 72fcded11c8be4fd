/-
Walk of the code's walk: what holds at its places.
-/
import Derived.Test.YteglaenjmeocmaaKissScope
import Derived.Test.YteglaenjmeocmaaKissEnd
import Derived.Test.YteglaenjmeocmaaKissIdx
import Derived.Lib.IndexBytes
namespace Go.Proofs.Yteglaenjmeocmaa
open Go.RowKit
/-- the code that holds the labels -/
def scopeIn (f : Func) : Code := match f.body with
  | some (.seq _ (.scope c)) => c
  | _ => .skip
theorem fedD_mono (most : Nat) (st : St) (l : List UInt8) : st.2.1 ≤ (fedD most st l).1.2.1 := by
  induction l generalizing st with
  | nil => exact Nat.le_refl _
  | cons c cs ih =>
    refine Nat.le_trans ?_ (ih _)
    obtain ⟨p, bad, held⟩ := st
    have hpush : ∀ x, bad ≤ (pushD most bad held x).2.1 := by intro x; unfold pushD; split <;> simp
    simp only [stepD]
    split
    · split <;> simp
    · split
      · split
        · simp
        · split
          · simp
          · exact hpush _
      · split
        · exact hpush _
        · split
          · exact hpush _
          · split <;> simp
/-- frames ahead of what bytes tell -/
def ahead (F : List Fr) (q : St × List Fr) : St × List Fr := (q.1, F ++ q.2)
theorem ahead_snoc (F : List Fr) (f : Fr) (q : St × List Fr) : ahead F (q.1, f :: q.2) = ahead (F ++ [f]) q := by simp [ahead]
/-- what a place stands for -/
def Leads (most : Nat) (tgt : St × List Fr) (l : Nat) (x : Int) (bad : Nat) (held : List UInt8) (F : List Fr) (r : List UInt8) (c : UInt8) : Prop :=
  match l with
  | 0 => tgt = ahead F (fedD most (1, bad, held) r)
  | 1 => tgt = ahead F (fedD most (2, bad, held) r)
  | 2 => held = [] ∧ x = 0 ∧ tgt = ahead F (fedD most (0, bad, []) r)
  | 3 => tgt = ahead F (fedD most (1, bad, held) (192 :: r))
  | 4 => tgt = ahead F (fedD most (pushD most bad held c) r)
  | 5 => tgt = ahead F (fedD most (0, bad + 1, []) r)
  | _ => False
/-- the memory at a place -/
def PMem (w0 : World) (b most : Nat) (v0 : Value) (x : Int) (v tv : Value) (bad : Nat) (held : List UInt8) (F : List Fr) (w : World) : Prop :=
  DC w b x most bad v held ∧ Wrote w0 w b v0 v ∧ OwnF 25 w w0.heap.size tv F ∧ held.length ≤ most
/-- a place -/
def PJ (w0 : World) (b most : Nat) (v0 : Value) (tgt : St × List Fr) (l : Nat) (a : Act) (w : World) : Prop :=
  ∃ (x : Int) (v tv : Value) (bad : Nat) (held : List UInt8) (r : ByteArray) (c : UInt8) (F : List Fr),
    (a.tmps.size = 89 ∧ a.defers = [] ∧ a.tmps.getD 0 undef = .pointer (some ⟨b, 0, none⟩) ∧ a.tmps.getD 1 undef = .string r ∧ a.tmps.getD 5 undef = tv ∧ (l = 4 → a.tmps.getD 6 undef = .int .u8 ((c.toNat : Nat) : Int))) ∧
    PMem w0 b most v0 x v tv bad held F w ∧ Leads most tgt l x bad held F r.data.toList c
def strLen : Value → Nat
  | .string s => s.size
  | _ => 0
def rank (l : Nat) : Nat := if l = 3 ∨ l = 5 then 1 else if l = 1 ∨ l = 4 then 2 else 0
def pmu (l : Nat) (a : Act) (_ : World) : Nat := 8 * strLen (a.tmps.getD 1 undef) + rank l
set_option maxRecDepth 100000 in
theorem arr89 (t : Array Value) (p s tv c : Value) (h : t.size = 89) (h0 : t.getD 0 undef = p) (h1 : t.getD 1 undef = s) (h5 : t.getD 5 undef = tv) (h6 : t.getD 6 undef = c) :
    ∃ u : Nat → Value, t = #[p, s, u 2, u 3, u 4, tv, c, u 7, u 8, u 9, u 10, u 11, u 12, u 13, u 14, u 15, u 16, u 17, u 18, u 19, u 20, u 21, u 22, u 23, u 24, u 25, u 26, u 27, u 28, u 29, u 30, u 31, u 32, u 33, u 34, u 35, u 36, u 37, u 38, u 39, u 40, u 41, u 42, u 43, u 44, u 45, u 46, u 47, u 48, u 49, u 50, u 51, u 52, u 53, u 54, u 55, u 56, u 57, u 58, u 59, u 60, u 61, u 62, u 63, u 64, u 65, u 66, u 67, u 68, u 69, u 70, u 71, u 72, u 73, u 74, u 75, u 76, u 77, u 78, u 79, u 80, u 81, u 82, u 83, u 84, u 85, u 86, u 87, u 88] := by
  subst h0 h1 h5 h6
  refine ⟨fun i => t.getD i undef, Array.toList_inj.1 ?_⟩
  have e : t.toList = (List.range 89).map (fun i => t.getD i undef) := by
    apply List.ext_getElem
    · simp [h]
    · intro i h1 h2
      have hi : i < t.size := by simpa using h1
      simp [hi]
  rw [e]; rfl
/-- what the walk leaves -/
def WalkTo (w0 : World) (b most : Nat) (v0 : Value) (tgt : St × List Fr) (e : Ending) (w' : World) : Prop :=
  ∃ v tv, e = .returned tv ∧ DC w' b tgt.1.1 most tgt.1.2.1 v tgt.1.2.2 ∧ Wrote w0 w' b v0 v ∧ OwnF 25 w' w0.heap.size tv tgt.2
theorem fall {P : Program} {Q : Exit → Act → World → Prop} {a : Act} {w : World} {c r rest : Code} {l : Nat} (hr : findLabel c l = some (.seq .skip r)) (h : r.wp P Q a w) (e : findLabel c l = some (.seq .skip rest)) : rest.wp P Q a w := by
  have := hr.symm.trans e
  simp only [Option.some.injEq, Code.seq.injEq, true_and] at this
  rw [← this]; exact h
/-- at place l, with jumps that lower the measure below n -/
def Pass (w0 : World) (b most : Nat) (v0 : Value) (tgt : St × List Fr) (l : Nat) : Prop :=
  ∃ r, findLabel (scopeIn Try.f25) l = some (.seq .skip r) ∧ ∀ n a w, n ≤ 9000000 → PJ w0 b most v0 tgt l a w → pmu l a w ≤ n →
    r.wp Try.prog (jumps (fun l' a' w' => PJ w0 b most v0 tgt l' a' w' ∧ pmu l' a' w' < n) (bodyPost Try.prog Try.f25 (WalkTo w0 b most v0 tgt))) a w
end Go.Proofs.Yteglaenjmeocmaa
