/-
A report that came in.
-/
import Derived.Test.YtdaagllacmnekaaRepBase
import Derived.Test.YtdaagllacmnekaaRows
import Derived.ProofKit
import Derived.SizedLaws
import Derived.Lib.SmallJoins
import Derived.ChangeMaps5
namespace Go.Proofs.Ytdaagllacmnekaa
open Go.ChangeShapes Go.WideShapes Go.ChangeAt Go.RowKit Go.Joins Go.Deep
theorem Try.ownR : ownKnob Try.prog.godebug = none := by kernel_rfl
theorem Try.laidOutR : laidOutB Try.prog = true := by kernel_rfl
theorem Try.cellsRep : Try.prog.cellsOf 23 = 8 := by kernel_rfl
/-- a report that came in -/
theorem open_rep {H : Type} {enc : TypeId × Value → H} {w : World} {b0 : Nat} {r : Reach} {v : Value} {d : DataW H} {ps : List MemPlace}
    (hv : Value.okWide Try.prog w r b0 23 v) (h : DataW.Trod enc Try.prog w 0 (fun _ => true) true 23 v d ps) : ps = [] ∧ ∃ r : Rp, v = repV r := by
  obtain ⟨cs, rfl, hsz⟩ := okWide_struct Try.underlying23 hv
  rw [Try.cellsRep] at hsz
  obtain ⟨l⟩ := cs
  obtain ⟨fuel, hf⟩ := h
  match l, hsz with
  | [c0, c1, c2, c3, c4, c5, c6, c7], _ =>
    obtain ⟨xs, n, _, hx, _, hlen, hg⟩ := DataW.trod_struct Try.underlying23 hf
    match xs, hlen with
    | [y0, y1, y2, y3, y4, y5, y6, y7], _ =>
      have e1 : Try.prog.cellsOf 4 = 1 := by kernel_rfl
      have e2 : Try.prog.cellsOf 3 = 1 := by kernel_rfl
      have e3 : Try.prog.cellsOf 9 = 1 := by kernel_rfl
      have g0 := (show DataW.trod enc Try.prog w 0 (fun _ => true) true n 9 (List.take (Try.prog.cellsOf 9) (List.drop 0 [c0, c1, c2, c3, c4, c5, c6, c7])) = some y0 from hg 0 _ rfl)
      have g1 := (show DataW.trod enc Try.prog w 0 (fun _ => true) true n 3 (List.take (Try.prog.cellsOf 3) (List.drop 1 [c0, c1, c2, c3, c4, c5, c6, c7])) = some y1 from hg 1 _ rfl)
      have g2 := (show DataW.trod enc Try.prog w 0 (fun _ => true) true n 3 (List.take (Try.prog.cellsOf 3) (List.drop 2 [c0, c1, c2, c3, c4, c5, c6, c7])) = some y2 from hg 2 _ rfl)
      have g3 := (show DataW.trod enc Try.prog w 0 (fun _ => true) true n 4 (List.take (Try.prog.cellsOf 4) (List.drop 3 [c0, c1, c2, c3, c4, c5, c6, c7])) = some y3 from hg 3 _ rfl)
      have g4 := (show DataW.trod enc Try.prog w 0 (fun _ => true) true n 4 (List.take (Try.prog.cellsOf 4) (List.drop 4 [c0, c1, c2, c3, c4, c5, c6, c7])) = some y4 from hg 4 _ rfl)
      have g5 := (show DataW.trod enc Try.prog w 0 (fun _ => true) true n 4 (List.take (Try.prog.cellsOf 4) (List.drop 5 [c0, c1, c2, c3, c4, c5, c6, c7])) = some y5 from hg 5 _ rfl)
      have g6 := (show DataW.trod enc Try.prog w 0 (fun _ => true) true n 4 (List.take (Try.prog.cellsOf 4) (List.drop 6 [c0, c1, c2, c3, c4, c5, c6, c7])) = some y6 from hg 6 _ rfl)
      have g7 := (show DataW.trod enc Try.prog w 0 (fun _ => true) true n 4 (List.take (Try.prog.cellsOf 4) (List.drop 7 [c0, c1, c2, c3, c4, c5, c6, c7])) = some y7 from hg 7 _ rfl)
      rw [e3] at g0
      rw [e2] at g1 g2
      rw [e1] at g3 g4 g5 g6 g7
      obtain ⟨s, q0, p0, -⟩ := DataW.trod_string Try.underlying9 (show DataW.trod enc Try.prog w 0 (fun _ => true) true n 9 [c0] = some y0 from g0)
      obtain ⟨n1, q1, p1, -⟩ := DataW.trod_int Try.underlying3 (show DataW.trod enc Try.prog w 0 (fun _ => true) true n 3 [c1] = some y1 from g1)
      obtain ⟨n2, q2, p2, -⟩ := DataW.trod_int Try.underlying3 (show DataW.trod enc Try.prog w 0 (fun _ => true) true n 3 [c2] = some y2 from g2)
      obtain ⟨b3, q3, p3⟩ := DataW.trod_bool Try.underlying4 (show DataW.trod enc Try.prog w 0 (fun _ => true) true n 4 [c3] = some y3 from g3)
      obtain ⟨b4, q4, p4⟩ := DataW.trod_bool Try.underlying4 (show DataW.trod enc Try.prog w 0 (fun _ => true) true n 4 [c4] = some y4 from g4)
      obtain ⟨b5, q5, p5⟩ := DataW.trod_bool Try.underlying4 (show DataW.trod enc Try.prog w 0 (fun _ => true) true n 4 [c5] = some y5 from g5)
      obtain ⟨b6, q6, p6⟩ := DataW.trod_bool Try.underlying4 (show DataW.trod enc Try.prog w 0 (fun _ => true) true n 4 [c6] = some y6 from g6)
      obtain ⟨b7, q7, p7⟩ := DataW.trod_bool Try.underlying4 (show DataW.trod enc Try.prog w 0 (fun _ => true) true n 4 [c7] = some y7 from g7)
      simp only [List.cons.injEq, and_true] at q0 q1 q2 q3 q4 q5 q6 q7
      subst q0 q1 q2 q3 q4 q5 q6 q7 p0 p1 p2 p3 p4 p5 p6 p7
      simp only [Prod.mk.injEq] at hx
      exact ⟨by simpa using hx.2, ⟨s, n1, n2, b3, b4, b5, b6, b7⟩, rfl⟩
end Go.Proofs.Ytdaagllacmnekaa
