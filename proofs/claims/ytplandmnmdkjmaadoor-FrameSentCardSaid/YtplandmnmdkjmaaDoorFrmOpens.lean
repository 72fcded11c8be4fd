/-
A frame that came in; what the two tables hold, out of the rows' conditions.
-/
import Derived.Test.YtplandmnmdkjmaaDoorPathOpens
import Derived.Test.YtplandmnmdkjmaaDoorCtlTab
namespace Go.Proofs.YtplandmnmdkjmaaDoor
open Go.ChangeShapes Go.WideShapes Go.ChangeAt Go.RowKit Go.Joins Go.Deep Go.Sort
set_option maxRecDepth 100000
theorem Tryd.cellsFrame : Tryd.prog.cellsOf 30 = 13 := by kernel_rfl
/-- seven cells that read as a path -/
theorem path_cells {H : Type} {enc : TypeId × Value → H} {w : World} {fuel : Nat} {c0 c1 c2 c3 c4 c5 c6 : Value} {x : DataW H × List MemPlace} (hf : DataW.trod enc Tryd.prog w 0 (fun _ => true) true fuel 26 [c0, c1, c2, c3, c4, c5, c6] = some x) :
    ∃ (tb fb : ByteArray) (tn fn : Int) (tm fm : Bool) (a : Option Addr) (cap : Nat) (D : List Ent), [c0, c1, c2, c3, c4, c5, c6] = [.string tb, .int .i64 tn, .string fb, .int .i64 fn, .bool tm, .bool fm, .slice a D.length cap] ∧ EntsAt w a cap D := by
  obtain ⟨xs, n, _, hx, _, hlen, hg⟩ := DataW.trod_struct Tryd.underlying26 hf
  match xs, hlen with
  | [y0, y1, y2, y3, y4], _ =>
    have g0 := (show DataW.trod enc Tryd.prog w 0 (fun _ => true) true n 23 (List.take (Tryd.prog.cellsOf 23) (List.drop 0 [c0, c1, c2, c3, c4, c5, c6])) = some y0 from hg 0 _ rfl)
    have g1 := (show DataW.trod enc Tryd.prog w 0 (fun _ => true) true n 23 (List.take (Tryd.prog.cellsOf 23) (List.drop 2 [c0, c1, c2, c3, c4, c5, c6])) = some y1 from hg 1 _ rfl)
    have g2 := (show DataW.trod enc Tryd.prog w 0 (fun _ => true) true n 4 (List.take (Tryd.prog.cellsOf 4) (List.drop 4 [c0, c1, c2, c3, c4, c5, c6])) = some y2 from hg 2 _ rfl)
    have g3 := (show DataW.trod enc Tryd.prog w 0 (fun _ => true) true n 4 (List.take (Tryd.prog.cellsOf 4) (List.drop 5 [c0, c1, c2, c3, c4, c5, c6])) = some y3 from hg 3 _ rfl)
    have g4 := (show DataW.trod enc Tryd.prog w 0 (fun _ => true) true n 24 (List.take (Tryd.prog.cellsOf 24) (List.drop 6 [c0, c1, c2, c3, c4, c5, c6])) = some y4 from hg 4 _ rfl)
    rw [Tryd.cellsCall] at g0 g1
    rw [show Tryd.prog.cellsOf 4 = 1 from by kernel_rfl] at g2 g3
    rw [show Tryd.prog.cellsOf 24 = 1 from by kernel_rfl] at g4
    obtain ⟨r0, e0, q0⟩ := call_cells Tryd.underlying23 (by kernel_rfl) rfl rfl (show DataW.trod enc Tryd.prog w 0 (fun _ => true) true n 23 [c0, c1] = some y0 from g0)
    obtain ⟨r1, e1, q1⟩ := call_cells Tryd.underlying23 (by kernel_rfl) rfl rfl (show DataW.trod enc Tryd.prog w 0 (fun _ => true) true n 23 [c2, c3] = some y1 from g1)
    obtain ⟨b2, e2, q2⟩ := DataW.trod_bool Tryd.underlying4 (show DataW.trod enc Tryd.prog w 0 (fun _ => true) true n 4 [c4] = some y2 from g2)
    obtain ⟨b3, e3, q3⟩ := DataW.trod_bool Tryd.underlying4 (show DataW.trod enc Tryd.prog w 0 (fun _ => true) true n 4 [c5] = some y3 from g3)
    obtain ⟨a, cap, D, e4, hE, _⟩ := open_digis (show DataW.trod enc Tryd.prog w 0 (fun _ => true) true n 24 [c6] = some y4 from g4)
    simp only [List.cons.injEq, and_true] at e0 e1 e2 e3
    obtain ⟨rfl, rfl⟩ := e0
    obtain ⟨rfl, rfl⟩ := e1
    subst e2 e3 e4
    exact ⟨r0.1, r1.1, r0.2, r1.2, b2, b3, a, cap, D, rfl, hE⟩
/-- four cells that read as a control -/
theorem ctl_cells {H : Type} {enc : TypeId × Value → H} {w : World} {fuel : Nat} {c0 c1 c2 c3 : Value} {x : DataW H × List MemPlace} (hf : DataW.trod enc Tryd.prog w 0 (fun _ => true) true fuel 28 [c0, c1, c2, c3] = some x) :
    ∃ (k nr ns : Int) (pf : Bool), [c0, c1, c2, c3] = [.int .i64 k, .int .i64 nr, .int .i64 ns, .bool pf] := by
  obtain ⟨xs, n, _, hx, _, hlen, hg⟩ := DataW.trod_struct Tryd.underlying28 hf
  match xs, hlen with
  | [y0, y1, y2, y3], _ =>
    have g0 := (show DataW.trod enc Tryd.prog w 0 (fun _ => true) true n 3 (List.take (Tryd.prog.cellsOf 3) (List.drop 0 [c0, c1, c2, c3])) = some y0 from hg 0 _ rfl)
    have g1 := (show DataW.trod enc Tryd.prog w 0 (fun _ => true) true n 3 (List.take (Tryd.prog.cellsOf 3) (List.drop 1 [c0, c1, c2, c3])) = some y1 from hg 1 _ rfl)
    have g2 := (show DataW.trod enc Tryd.prog w 0 (fun _ => true) true n 3 (List.take (Tryd.prog.cellsOf 3) (List.drop 2 [c0, c1, c2, c3])) = some y2 from hg 2 _ rfl)
    have g3 := (show DataW.trod enc Tryd.prog w 0 (fun _ => true) true n 4 (List.take (Tryd.prog.cellsOf 4) (List.drop 3 [c0, c1, c2, c3])) = some y3 from hg 3 _ rfl)
    rw [show Tryd.prog.cellsOf 3 = 1 from by kernel_rfl] at g0 g1 g2
    rw [show Tryd.prog.cellsOf 4 = 1 from by kernel_rfl] at g3
    obtain ⟨k, e0, _⟩ := DataW.trod_int Tryd.underlying3 (show DataW.trod enc Tryd.prog w 0 (fun _ => true) true n 3 [c0] = some y0 from g0)
    obtain ⟨nr, e1, _⟩ := DataW.trod_int Tryd.underlying3 (show DataW.trod enc Tryd.prog w 0 (fun _ => true) true n 3 [c1] = some y1 from g1)
    obtain ⟨ns, e2, _⟩ := DataW.trod_int Tryd.underlying3 (show DataW.trod enc Tryd.prog w 0 (fun _ => true) true n 3 [c2] = some y2 from g2)
    obtain ⟨pf, e3, _⟩ := DataW.trod_bool Tryd.underlying4 (show DataW.trod enc Tryd.prog w 0 (fun _ => true) true n 4 [c3] = some y3 from g3)
    simp only [List.cons.injEq, and_true] at e0 e1 e2 e3
    subst e0 e1 e2 e3
    exact ⟨k, nr, ns, pf, rfl⟩
/-- a frame that came in -/
theorem open_frame {H : Type} {enc : TypeId × Value → H} {w : World} {b0 : Nat} {r : Reach} {v : Value} {d : DataW H} {ps : List MemPlace}
    (hv : Value.okWide Tryd.prog w r b0 30 v) (h : DataW.Trod enc Tryd.prog w 0 (fun _ => true) true 30 v d ps) :
    ∃ (tb fb : ByteArray) (tn fn : Int) (tm fm : Bool) (a : Option Addr) (cap : Nat) (D : List Ent) (k nr ns : Int) (pf : Bool) (pid : Int) (info : ByteArray),
      v = .agg #[.string tb, .int .i64 tn, .string fb, .int .i64 fn, .bool tm, .bool fm, .slice a D.length cap, .int .i64 k, .int .i64 nr, .int .i64 ns, .bool pf, .int .i64 pid, .string info] ∧ EntsAt w a cap D := by
  obtain ⟨cs, rfl, hsz⟩ := okWide_struct Tryd.underlying30 hv
  rw [Tryd.cellsFrame] at hsz
  obtain ⟨l⟩ := cs
  match l, hsz with
  | [c0, c1, c2, c3, c4, c5, c6, c7, c8, c9, c10, c11, c12], _ =>
    obtain ⟨fuel, hf⟩ := h
    obtain ⟨xs, n, _, hx, _, hlen, hg⟩ := DataW.trod_struct Tryd.underlying30 hf
    match xs, hlen with
    | [y0, y1, y2, y3], _ =>
      have g0 := (show DataW.trod enc Tryd.prog w 0 (fun _ => true) true n 26 (List.take (Tryd.prog.cellsOf 26) (List.drop 0 [c0, c1, c2, c3, c4, c5, c6, c7, c8, c9, c10, c11, c12])) = some y0 from hg 0 _ rfl)
      have g1 := (show DataW.trod enc Tryd.prog w 0 (fun _ => true) true n 28 (List.take (Tryd.prog.cellsOf 28) (List.drop 7 [c0, c1, c2, c3, c4, c5, c6, c7, c8, c9, c10, c11, c12])) = some y1 from hg 1 _ rfl)
      have g2 := (show DataW.trod enc Tryd.prog w 0 (fun _ => true) true n 3 (List.take (Tryd.prog.cellsOf 3) (List.drop 11 [c0, c1, c2, c3, c4, c5, c6, c7, c8, c9, c10, c11, c12])) = some y2 from hg 2 _ rfl)
      have g3 := (show DataW.trod enc Tryd.prog w 0 (fun _ => true) true n 9 (List.take (Tryd.prog.cellsOf 9) (List.drop 12 [c0, c1, c2, c3, c4, c5, c6, c7, c8, c9, c10, c11, c12])) = some y3 from hg 3 _ rfl)
      rw [Tryd.cellsPath] at g0
      rw [Tryd.cellsCtl] at g1
      rw [show Tryd.prog.cellsOf 3 = 1 from by kernel_rfl] at g2
      rw [show Tryd.prog.cellsOf 9 = 1 from by kernel_rfl] at g3
      obtain ⟨tb, fb, tn, fn, tm, fm, a, cap, D, e0, hE⟩ := path_cells (show DataW.trod enc Tryd.prog w 0 (fun _ => true) true n 26 [c0, c1, c2, c3, c4, c5, c6] = some y0 from g0)
      obtain ⟨k, nr, ns, pf, e1⟩ := ctl_cells (show DataW.trod enc Tryd.prog w 0 (fun _ => true) true n 28 [c7, c8, c9, c10] = some y1 from g1)
      obtain ⟨pid, e2, _⟩ := DataW.trod_int Tryd.underlying3 (show DataW.trod enc Tryd.prog w 0 (fun _ => true) true n 3 [c11] = some y2 from g2)
      obtain ⟨info, e3, _⟩ := DataW.trod_string Tryd.underlying9 (show DataW.trod enc Tryd.prog w 0 (fun _ => true) true n 9 [c12] = some y3 from g3)
      simp only [List.cons.injEq, and_true] at e0 e1 e2 e3
      obtain ⟨rfl, rfl, rfl, rfl, rfl, rfl, rfl⟩ := e0
      obtain ⟨rfl, rfl, rfl, rfl⟩ := e1
      subst e2 e3
      exact ⟨tb, fb, tn, fn, tm, fm, a, cap, D, k, nr, ns, pf, pid, info, rfl, hE⟩
theorem vars_frame {W : World} (h : laidMetH Tryd.prog Rows.frameEncodesRow.laid W) : CodesOk W ∧ NamesOk W := by
  rw [MakeChecks.laidMetH_plain _ _ _ (by kernel_rfl)] at h
  exact ⟨codes_laid h.tail.tail.tail, names_laid h.tail.tail.tail.tail⟩
theorem met_frame (os : Os) (args : Array Value) : laidMetH Tryd.prog Rows.frameEncodesRow.laid ((World.laidAll Tryd.prog os Rows.frameEncodesRow.laid).forCall (fun _ _ => 0) ⟨#[], args, []⟩).memory := by
  rw [MakeChecks.laidMetH_plain _ _ _ (by kernel_rfl)]
  exact laidMet_laidAll _ (by kernel_rfl) (by kernel_rfl)
end Go.Proofs.YtplandmnmdkjmaaDoor
