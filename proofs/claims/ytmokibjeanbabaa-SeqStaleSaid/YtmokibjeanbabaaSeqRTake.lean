/-
The document's Take of a taker's window: the ways that take none.
-/
import Derived.Test.YtmokibjeanbabaaSeqTakeP
namespace Go.Proofs.Ytmokibjeanbabaa
open Go.RowKit
set_option maxRecDepth 20000
/-- what is asked of it -/
def ITakeTo (p : Nat) (m k : Int) (w : World) (r : Ti × List Int × Int) : Ending → World → Prop := fun e w' =>
  (∃ v, e = .returned (.tuple #[v, .int .i64 r.2.2]) ∧ OwnL encI 3 w' w.heap.size v r.2.1) ∧ RowAt w' p (tiV m k r.1) ∧ Turn (fun x => x = p) w w'
set_option maxHeartbeats 1000000 in
theorem rtake11_bad (p : Nat) (m k : Int) (s : Ti) (ns : Int) (w : World) (h : RowAt w p (tiV m k s)) (hin : inR m ns = false) : Calls Try.prog 27 #[.pointer (some ⟨p, 0, none⟩), .int .i64 ns] w (ITakeTo p m k w (takeT m k s ns)) := by
  have hE : takeT m k s ns = (s, [], 1) := by unfold takeT; rw [hin]; rfl
  rw [hE]
  unfold ITakeTo
  have HO := Lib.hid (OwnL.lit encI 3 w w.heap.size [] [] rfl (Nat.le_refl _) (by simp) 0 rfl)
  have HR := Lib.hid (h.alloc (.cells #[] 3))
  have HT := Lib.hid ((Turn.refl (fun x => x = p) w).alloc (.cells #[] 3))
  clear h hE
  by_cases h0 : ns < 0
  · have d0 : decide (ns < 0) = true := decide_eq_true h0
    clear h0 hin
    go_enter Try.func27, Try.ntmps27
    go_upto_region 2 with (fail)
    have c0 := HR.out.cell 0 rfl
    generalize w.alloc (.cells #[] 3) = w1 at *
    go_wp2_with fail
    exact bodyPost_ret (v := .tuple #[.slice (some ⟨w.heap.size, 0, none⟩) 0 0, .int .i64 1]) (by simp [results, Try.results27, go_sem]) rfl ⟨⟨_, rfl, HO.out⟩, HR.out, HT.out⟩
  · have d0 : decide (ns < 0) = false := decide_eq_false h0
    have d1 : decide (m ≤ ns) = true := decide_eq_true (by rcases inR_no hin with h | h <;> omega)
    clear h0 hin
    go_enter Try.func27, Try.ntmps27
    go_upto_region 2 with (fail)
    have c0 := HR.out.cell 0 rfl
    generalize w.alloc (.cells #[] 3) = w1 at *
    go_wp2_with fail
    exact bodyPost_ret (v := .tuple #[.slice (some ⟨w.heap.size, 0, none⟩) 0 0, .int .i64 1]) (by simp [results, Try.results27, go_sem]) rfl ⟨⟨_, rfl, HO.out⟩, HR.out, HT.out⟩
end Go.Proofs.Ytmokibjeanbabaa
