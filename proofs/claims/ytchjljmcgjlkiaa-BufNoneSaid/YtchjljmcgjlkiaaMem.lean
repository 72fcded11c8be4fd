/-
Bytes in slices, as texts (behind the text of blocks).
-/
import Derived.Test.YtchjljmcgjlkiaaMemK
namespace Go.Proofs.Ytchjljmcgjlkiaa
open Go.RowKit
theorem OwnB.text {w : World} {B g n cap : Nat} {l : List UInt8} (h : OwnB w B (.slice (some ⟨g, 0, none⟩) n cap) l) (hn : n = l.length) :
    (convert 76 9 (.slice (some ⟨g, 0, none⟩) n cap)).run Try.prog w = .ok (.string ⟨l.toArray⟩) w := by
  subst hn
  rw [run_convert_bytes_arg w 76 5 Try.underlying76 Try.underlying5 g 0 l.length cap (l.map fun b => ((b.toNat : Nat) : Int)) (by simp) (fun i hi => by
    rw [Nat.zero_add, h.cell i hi, List.getD_eq_getElem?_getD, List.getElem?_map, List.getElem?_eq_getElem hi]; rfl) 9 Try.underlying9]
  congr 2
  apply bytes_ext'
  rw [strOfNums_data, List.map_map]
  show List.map _ l = l
  conv => rhs; rw [← List.map_id l]
  apply List.map_congr_left
  intro x _
  simp
/-- 's[1:]' of what is held, and the text of it -/
theorem drop_first (g cap : Nat) (x : UInt8) (l : List UInt8) (hcap : l.length + 1 ≤ cap) :
    ∃ A, (∀ W, (Instr.slice 76 (.slice (some ⟨g, 0, none⟩) (l.length + 1) cap) (some (.int .i64 1)) none none).run Try.prog W = .ok (.slice (some A) l.length (cap - 1)) W) ∧
      ∀ W, (∀ i (h : i < (x :: l).length), W.cell? ⟨g, i, none⟩ = some (.int .u8 (((x :: l)[i].toNat : Nat) : Int))) → (convert 76 9 (.slice (some A) l.length (cap - 1))).run Try.prog W = .ok (.string ⟨l.toArray⟩) W := by
  have ht' : Try.prog.underlying 76 = some (.slice (Try.prog.elem 76)) := by simp [Program.elem, Try.underlying76]
  have he : Try.prog.elem 76 = 5 := by simp [Program.elem, Try.underlying76]
  have hz : ∀ w, (Go.sizeOf 5).run Try.prog w = .ok 1 w := fun w => by kernel_rfl
  refine ⟨if cap = 1 then ⟨g, 0, none⟩ else ⟨g, 1, none⟩, fun W => ?_, fun W hc => ?_⟩
  · rw [run_slice_l W 76 _ _ _ ht' .i64 1 (by omega) (by omega), he, hz]
    by_cases h1 : cap = 1
    · subst h1
      simp [Result.andThen, sliced]
    · simp [Result.andThen, sliced, Addr.add, h1]
  · by_cases h1 : cap = 1
    · have h0 : l.length = 0 := by omega
      have hl : l = [] := List.length_eq_zero_iff.1 h0
      subst hl
      rw [if_pos h1, List.length_nil, run_convert_bytes_arg W 76 5 Try.underlying76 Try.underlying5 g 0 0 (cap - 1) [] rfl (fun i hi => absurd hi (by omega)) 9 Try.underlying9]
      rfl
    · rw [if_neg h1, run_convert_bytes_arg W 76 5 Try.underlying76 Try.underlying5 g 1 l.length (cap - 1) (l.map fun b => ((b.toNat : Nat) : Int)) (by simp) (fun i hi => by
        have e1 : 1 + i = i + 1 := Nat.add_comm 1 i
        rw [e1, hc (i + 1) (by simpa using hi), List.getD_eq_getElem?_getD, List.getElem?_map, List.getElem?_eq_getElem hi]; rfl) 9 Try.underlying9]
      refine congrArg (fun z => Result.ok (Value.string z) W) ?_
      apply bytes_ext'
      rw [strOfNums_data, List.map_map]
      show List.map _ l = l
      conv => rhs; rw [← List.map_id l]
      apply List.map_congr_left
      intro x _
      simp
theorem BytesAt.conv {w : World} {g cap : Nat} {l : List UInt8} (h : BytesAt w g l) :
    (convert 76 9 (.slice (some ⟨g, 0, none⟩) l.length cap)).run Try.prog w = .ok (.string ⟨l.toArray⟩) w := by
  rw [run_convert_bytes_arg w 76 5 Try.underlying76 Try.underlying5 g 0 l.length cap (l.map fun b => ((b.toNat : Nat) : Int)) (by simp) (fun i hi => by
    rw [Nat.zero_add, h.2 i hi, List.getD_eq_getElem?_getD, List.getElem?_map, List.getElem?_eq_getElem hi]; rfl) 9 Try.underlying9]
  congr 2
  apply bytes_ext'
  rw [strOfNums_data, List.map_map]
  show List.map _ l = l
  conv => rhs; rw [← List.map_id l]
  apply List.map_congr_left
  intro x _
  simp
end Go.Proofs.Ytchjljmcgjlkiaa
