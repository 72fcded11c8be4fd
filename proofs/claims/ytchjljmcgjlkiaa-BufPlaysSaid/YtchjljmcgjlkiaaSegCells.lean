/-
Pieces and a gatherer's state as they lie.
-/
import Derived.Test.YtchjljmcgjlkiaaSegRun
import Derived.Test.YtchjljmcgjlkiaaSlices
import Derived.Test.YtchjljmcgjlkiaaRow
import Derived.Deep.DeepCutAuto
import Derived.Deep.RegionHeld
namespace Go.Proofs.Ytchjljmcgjlkiaa
open Go.RowKit
def encP : Enc Pc := ⟨2, by omega, fun p => [.int .i64 p.pid, .string p.info], fun _ => rfl, fun p u hu => by
  rcases List.mem_cons.1 hu with rfl | hu
  · rfl
  · rw [List.mem_singleton.1 hu]; rfl⟩
def pcV (p : Pc) : Value := .agg #[.int .i64 p.pid, .string p.info]
/-- the two cells of one of them -/
theorem pc_at {w : World} {g o : Nat} {L : List Pc} (h : AtL encP w (some ⟨g, o, none⟩) L) (k : Nat) (hk : k < L.length) :
    w.cell? ⟨g, o + k * 2, none⟩ = some (.int .i64 L[k].pid) ∧ w.cell? ⟨g, o + k * 2 + 1, none⟩ = some (.string L[k].info) :=
  ⟨h.get k hk 0 rfl, h.get k hk 1 rfl⟩
/-- a state's four cells -/
def gsV (s : Gs) : List Value := [.bool s.on, .int .i64 s.pid, .int .i64 s.left, .string s.text]
theorem infoC : (Try.prog.info? 36).map (fun i => (i.zero, i.size, i.bytes)) = some (some (.agg #[.int .i64 0, .string ⟨#[]⟩]), 2, 24) := by kernel_rfl
theorem infoP : (Try.prog.info? 39).map (fun i => (i.zero, i.size, i.bytes)) = some (some (.agg #[.int .i64 0, .string ⟨#[]⟩]), 2, 24) := by kernel_rfl
end Go.Proofs.Ytchjljmcgjlkiaa
