/-
The code's own deframer: its cells, what a call leaves of them; the small calls: meant, New, Bad, Held, Reset.
-/
import Derived.Test.YteglaenjmeocmaaHeap
import Derived.BigQuiet
import Derived.Deep.QuietTactic
import Derived.Test.YteglaenjmeocmaaKissPlain
import Derived.Maps.AppendAt
namespace Go.Proofs.Yteglaenjmeocmaa
open Go.RowKit
/-- the four cells -/
def CAt (w : World) (b : Nat) (at_ most bad : Int) (v : Value) : Prop :=
  (w.cell? ⟨b, 0, none⟩ = some (.int .i64 at_) ∧ w.cell? ⟨b, 1, none⟩ = some (.int .i64 most) ∧ w.cell? ⟨b, 2, none⟩ = some v ∧ w.cell? ⟨b, 3, none⟩ = some (.int .i64 bad)) ∧
  (w.frozen? ⟨b, 0, none⟩ = false ∧ w.frozen? ⟨b, 2, none⟩ = false ∧ w.frozen? ⟨b, 3, none⟩ = false)
theorem CAt.lt {w : World} {b : Nat} {at_ most bad : Int} {v : Value} (h : CAt w b at_ most bad v) : b < w.heap.size := World.block_lt_of_cell? w ⟨b, 0, none⟩ h.1.1
theorem CAt.same {w w' : World} {b : Nat} {at_ most bad : Int} {v : Value} (h : CAt w b at_ most bad v) (hb : w'.heap[b]? = w.heap[b]?) : CAt w' b at_ most bad v := by
  obtain ⟨⟨d0, d1, d2, d3⟩, z1, z2, z3⟩ := h
  unfold CAt
  rw [World.cell?_of_block (a := ⟨b, 0, none⟩) hb, World.cell?_of_block (a := ⟨b, 1, none⟩) hb, World.cell?_of_block (a := ⟨b, 2, none⟩) hb, World.cell?_of_block (a := ⟨b, 3, none⟩) hb,
    World.frozen?_of_block (a := ⟨b, 0, none⟩) hb, World.frozen?_of_block (a := ⟨b, 2, none⟩) hb, World.frozen?_of_block (a := ⟨b, 3, none⟩) hb]
  exact ⟨⟨d0, d1, d2, d3⟩, z1, z2, z3⟩
theorem CAt.at_ {w : World} {b : Nat} {at_ most bad : Int} {v : Value} (h : CAt w b at_ most bad v) (n : Int) : CAt (w.setCell ⟨b, 0, none⟩ (.int .i64 n)) b n most bad v := by
  obtain ⟨⟨d0, d1, d2, d3⟩, z1, z2, z3⟩ := h
  exact ⟨⟨set_here d0, by rw [set_off _ _ _ _ _ (by omega)]; exact d1, by rw [set_off _ _ _ _ _ (by omega)]; exact d2, by rw [set_off _ _ _ _ _ (by omega)]; exact d3⟩, by simpa using z1, by simpa using z2, by simpa using z3⟩
theorem CAt.held {w : World} {b : Nat} {at_ most bad : Int} {v : Value} (h : CAt w b at_ most bad v) (u : Value) : CAt (w.setCell ⟨b, 2, none⟩ u) b at_ most bad u := by
  obtain ⟨⟨d0, d1, d2, d3⟩, z1, z2, z3⟩ := h
  exact ⟨⟨by rw [set_off _ _ _ _ _ (by omega)]; exact d0, by rw [set_off _ _ _ _ _ (by omega)]; exact d1, set_here d2, by rw [set_off _ _ _ _ _ (by omega)]; exact d3⟩, by simpa using z1, by simpa using z2, by simpa using z3⟩
theorem CAt.bad {w : World} {b : Nat} {at_ most bad : Int} {v : Value} (h : CAt w b at_ most bad v) (n : Int) : CAt (w.setCell ⟨b, 3, none⟩ (.int .i64 n)) b at_ most n v := by
  obtain ⟨⟨d0, d1, d2, d3⟩, z1, z2, z3⟩ := h
  exact ⟨⟨by rw [set_off _ _ _ _ _ (by omega)]; exact d0, by rw [set_off _ _ _ _ _ (by omega)]; exact d1, by rw [set_off _ _ _ _ _ (by omega)]; exact d2, set_here d3⟩, by simpa using z1, by simpa using z2, by simpa using z3⟩
/-- a deframer in block b that holds these bytes in v, a slice of its own -/
def DC (w : World) (b : Nat) (at_ most bad : Int) (v : Value) (held : List UInt8) : Prop := CAt w b at_ most bad v ∧ OwnB w (b + 1) v held
theorem OwnB.grown {w w' : World} {B : Nat} {v : Value} {l : List UInt8} {row : Option Nat} (h : OwnB w B v l) (hg : w.grownBy w' row) (hr : ∀ g, v.ownBlock = some g → row ≠ some g) : OwnB w' B v l :=
  World.ownsRow.kept h hg (by
    cases hv : v.ownBlock with
    | none => exact Or.inl rfl
    | some g => exact Or.inr (fun e => hr g hv e.symm))
theorem OwnB.ge {w : World} {B g : Nat} {v : Value} {l : List UInt8} (h : OwnB w B v l) (hv : v.ownBlock = some g) : B ≤ g ∧ g < w.heap.size := World.ownsRow.lt h g hv
theorem OwnB.set {w : World} {b o : Nat} {v : Value} {l : List UInt8} (h : OwnB w (b + 1) v l) (u : Value) : OwnB (w.setCell ⟨b, o, none⟩ u) (b + 1) v l :=
  h.grown (grown_set (grown_refl w (some b)) u) (fun g hv e => by have := (h.ge hv).1; have := Option.some.inj e; omega)
theorem DC.at_ {w : World} {b : Nat} {at_ most bad : Int} {v : Value} {held : List UInt8} (h : DC w b at_ most bad v held) (n : Int) : DC (w.setCell ⟨b, 0, none⟩ (.int .i64 n)) b n most bad v held := ⟨h.1.at_ n, h.2.set _⟩
theorem DC.bad {w : World} {b : Nat} {at_ most bad : Int} {v : Value} {held : List UInt8} (h : DC w b at_ most bad v held) (n : Int) : DC (w.setCell ⟨b, 3, none⟩ (.int .i64 n)) b at_ most n v held := ⟨h.1.bad n, h.2.set _⟩
/-- nothing but block b and v's own was turned; v' lies where v did, or in a new block -/
structure Wrote (w w' : World) (b : Nat) (v v' : Value) : Prop where
  os : w'.os = w.os
  tape : w'.tape = w.tape
  output : w'.output = w.output
  size : w.heap.size ≤ w'.heap.size
  block : ∀ k, k < w.heap.size → k ≠ b → some k ≠ v.ownBlock → w'.heap[k]? = w.heap[k]?
  own : v'.ownBlock = v.ownBlock ∨ ∃ k, v'.ownBlock = some k ∧ w.heap.size ≤ k
theorem Wrote.refl (w : World) (b : Nat) (v : Value) : Wrote w w b v v := ⟨rfl, rfl, rfl, Nat.le_refl _, fun _ _ _ _ => rfl, Or.inl rfl⟩
theorem Wrote.trans {a c d : World} {b : Nat} {v u x : Value} (h : Wrote a c b v u) (k : Wrote c d b u x) : Wrote a d b v x := by
  refine ⟨k.os.trans h.os, k.tape.trans h.tape, k.output.trans h.output, Nat.le_trans h.size k.size, fun i hi hb hv => ?_, ?_⟩
  · have hne : some i ≠ u.ownBlock := by
      rcases h.own with e | ⟨g, e, hg⟩
      · rw [e]; exact hv
      · rw [e]; intro e2; have := Option.some.inj e2; omega
    exact (k.block i (Nat.lt_of_lt_of_le hi h.size) hb hne).trans (h.block i hi hb hv)
  · rcases k.own with e | ⟨g, e, hg⟩
    · rw [e]
      exact h.own
    · exact Or.inr ⟨g, e, Nat.le_trans h.size hg⟩
theorem Wrote.below {w w' : World} {b B : Nat} {v v' : Value} (h : Wrote w w' b v v') (hB : B ≤ w.heap.size) (hb : B ≤ b) (hv : ∀ g, v.ownBlock = some g → B ≤ g) : Below B w w' :=
  ⟨h.os, h.tape, h.output, h.size, fun k hk => h.block k (by omega) (by omega) (fun e => by have := hv k e.symm; omega)⟩
theorem Wrote.set {w w' : World} {b o : Nat} {v v' : Value} (h : Wrote w w' b v v') (u : Value) : Wrote w (w'.setCell ⟨b, o, none⟩ u) b v v' :=
  h.trans ⟨rfl, rfl, rfl, by simp [World.setCell], fun k _ hk _ => Below.heap_setCell _ _ _ _ hk, Or.inl rfl⟩
/-- v' in v's place -/
theorem Wrote.as {w w' : World} {b : Nat} {v v' v2 : Value} (h : Wrote w w' b v v') (e : v2.ownBlock = v'.ownBlock) : Wrote w w' b v v2 := ⟨h.os, h.tape, h.output, h.size, h.block, by rw [e]; exact h.own⟩
/-- new blocks, or one of the call's own, behind w -/
theorem Wrote.grown {w c d : World} {b : Nat} {v u : Value} {row : Option Nat} (h : Wrote w c b v u) (hg : c.grownBy d row) (hr : ∀ g, row = some g → w.heap.size ≤ g ∨ v.ownBlock = some g) : Wrote w d b v u :=
  ⟨hg.os.trans h.os, hg.tape.trans h.tape, hg.output.trans h.output, Nat.le_trans h.size hg.size, fun i hi hb hv => by
    have hne : some i ≠ row := fun e => by
      rcases hr i e.symm with hx | hx
      · omega
      · exact hv hx.symm
    exact (hg.block i (Nat.lt_of_lt_of_le hi h.size) hne).trans (h.block i hi hb hv), h.own⟩
theorem Wrote.drewN {w w' : World} {b : Nat} {v v' : Value} (h : Wrote w w' b v v') (n : Nat) : Wrote w (w'.drewN n) b v v' := ⟨h.os, h.tape, h.output, h.size, h.block, h.own⟩
theorem Wrote.drew {w w' : World} {b : Nat} {v v' : Value} (h : Wrote w w' b v v') : Wrote w w'.drew b v v' := ⟨h.os, h.tape, h.output, h.size, h.block, h.own⟩
theorem DC.drewN {w : World} {b : Nat} {at_ most bad : Int} {v : Value} {held : List UInt8} (h : DC w b at_ most bad v held) (n : Nat) : DC (w.drewN n) b at_ most bad v held := h
theorem DC.len {w : World} {b : Nat} {at_ most bad : Int} {v : Value} {held : List UInt8} (h : DC w b at_ most bad v held) : ∃ a cap, v = .slice a held.length cap := by
  rcases h.2.2 with ⟨hv, h0⟩ | ⟨g, cap, _, hv, _⟩
  · exact ⟨none, 0, by rw [h0]; exact hv⟩
  · exact ⟨_, cap, hv⟩
/-- 'held[:0]' -/
def emptied : Value → Value
  | .slice a _ cap => .slice a 0 cap
  | v => v
theorem emptied_own (v : Value) : (emptied v).ownBlock = v.ownBlock := by
  cases v with
  | slice a n cap => cases a <;> rfl
  | _ => rfl
theorem OwnB.emptied {w : World} {B : Nat} {v : Value} {l : List UInt8} (h : OwnB w B v l) : OwnB w B (emptied v) [] := by
  refine ⟨by simp [bytesV], ?_⟩
  rcases h.2 with ⟨hv, h0⟩ | ⟨g, cap, cur, hv, hb, hg, hn, hc, hs, _⟩
  · exact Or.inl ⟨by rw [hv]; rfl, rfl⟩
  · exact Or.inr ⟨g, cap, cur, by rw [hv]; rfl, hb, hg, by simp, hc, hs, by simp [bytesV]⟩
theorem DC.emptied {w : World} {b : Nat} {at_ most bad : Int} {v : Value} {held : List UInt8} (h : DC w b at_ most bad v held) : DC (w.setCell ⟨b, 2, none⟩ (emptied v)) b at_ most bad (emptied v) [] := ⟨h.1.held _, h.2.emptied.set _⟩
/-- 'held[:0]', run -/
theorem run_emptied {w : World} {B : Nat} {v : Value} {l : List UInt8} (h : OwnB w B v l) (W : World) : (Instr.slice 58 v none (some (.int .i64 0)) none).run Try.prog W = .ok (emptied v) W := by
  have ht' : Try.prog.underlying 58 = some (.slice (Try.prog.elem 58)) := by simp [Program.elem, Try.underlying58]
  have he : Try.prog.elem 58 = 5 := by simp [Program.elem, Try.underlying58]
  have hz : ∀ w, (Go.sizeOf 5).run Try.prog w = .ok 1 w := fun w => by kernel_rfl
  rcases h.2 with ⟨hv, h0⟩ | ⟨g, cap, cur, hv, hb, hg, hn, hc, hs, _⟩
  · subst hv
    rw [run_slice_h W 58 _ _ _ ht' .i64 0 (by omega) (by omega), he, hz]
    simp [Result.andThen, sliced, emptied]
  · subst hv
    rw [run_slice_h W 58 _ _ _ ht' .i64 0 (by omega) (by omega), he, hz]
    simp [Result.andThen, sliced, emptied, Addr.add]
/-- what a byte stands for behind FESC -/
theorem meant_220 (w : World) : Calls Try.prog 28 #[.int .u8 220] w fun e w' => e = .returned (.tuple #[.int .u8 192, .bool true]) ∧ w = w' := by
  go_enter Try.func28, Try.ntmps28
  go_wp2
  go_ret2
  exact ⟨rfl, rfl⟩
theorem meant_221 (w : World) : Calls Try.prog 28 #[.int .u8 221] w fun e w' => e = .returned (.tuple #[.int .u8 219, .bool true]) ∧ w = w' := by
  go_enter Try.func28, Try.ntmps28
  go_wp2
  go_ret2
  exact ⟨rfl, rfl⟩
theorem meant_no (c : Int) (w : World) (h1 : c ≠ 220) (h2 : c ≠ 221) : Calls Try.prog 28 #[.int .u8 c] w fun e w' => e = .returned (.tuple #[.int .u8 0, .bool false]) ∧ w = w' := by
  have t1 : (c == 220) = false := by rw [beq_eq_false_iff_ne]; exact h1
  have t2 : (c == 221) = false := by rw [beq_eq_false_iff_ne]; exact h2
  clear h1 h2
  go_enter Try.func28, Try.ntmps28
  go_wp2
  go_ret2
  exact ⟨rfl, rfl⟩
theorem creset_any (b : Nat) (at_ most bad : Int) (v : Value) (held : List UInt8) (w : World) (h : DC w b at_ most bad v held) : Calls Try.prog 29 #[.pointer (some ⟨b, 0, none⟩)] w fun e w' =>
    e = .returned (.tuple #[]) ∧ w' = (w.setCell ⟨b, 0, none⟩ (.int .i64 0)).setCell ⟨b, 2, none⟩ (emptied v) := by
  obtain ⟨a, cap, rfl⟩ := h.len
  have hr : ∀ W, (Instr.slice 58 (.slice a held.length cap) none (some (.int .i64 0)) none).run Try.prog W = .ok (.slice a 0 cap) W := fun W => run_emptied h.2 W
  obtain ⟨⟨⟨d0, d1, d2, d3⟩, z1, z2, z3⟩, _⟩ := h
  go_enter Try.func29, Try.ntmps29
  go_wp2
  go_end0
  exact ⟨rfl, rfl⟩
theorem cnew_if (n : Int) (w : World) : Calls Try.prog 13 #[.int .i64 n] w fun e w' =>
    e = .returned (.pointer (some ⟨w.heap.size, 0, none⟩)) ∧ w' = w.alloc (.cells #[.int .i64 0, .int .i64 (if n < 1 then 1 else if 4096 < n then 4096 else n), .slice none 0 0, .int .i64 0] 60) := by
  go_enter Try.func13, Try.ntmps13
  go_wp2
  all_goals
    go_ret
    exact ⟨rfl, rfl⟩
/-- the cap -/
def capD (n : Int) : Nat := if n < 1 then 1 else if 4096 < n then 4096 else n.toNat
theorem capD_if (n : Int) : (if n < 1 then 1 else if 4096 < n then 4096 else n) = (capD n : Int) := by
  unfold capD; split
  · rfl
  · split
    · rfl
    · omega
theorem capD_bd (n : Int) : 1 ≤ capD n ∧ capD n ≤ 4096 := by
  unfold capD; split
  · omega
  · split <;> omega
theorem new_DC (w : World) (most : Nat) : DC (w.alloc (.cells #[.int .i64 0, .int .i64 most, .slice none 0 0, .int .i64 0] 60)) w.heap.size 0 most 0 (.slice none 0 0) [] := by
  refine ⟨⟨⟨?_, ?_, ?_, ?_⟩, ?_, ?_, ?_⟩, by simp [bytesV], Or.inl ⟨rfl, rfl⟩⟩
  · rw [World.cell?_alloc_new]; rfl
  · rw [World.cell?_alloc_new]; rfl
  · rw [World.cell?_alloc_new]; rfl
  · rw [World.cell?_alloc_new]; rfl
  · exact World.frozen?_alloc_at _ _ _ _ rfl
  · exact World.frozen?_alloc_at _ _ _ _ rfl
  · exact World.frozen?_alloc_at _ _ _ _ rfl
theorem cnew_any (n : Int) (w : World) : Calls Try.prog 13 #[.int .i64 n] w fun e w' =>
    e = .returned (.pointer (some ⟨w.heap.size, 0, none⟩)) ∧ DC w' w.heap.size 0 (capD n) 0 (.slice none 0 0) [] ∧ Below w.heap.size w w' ∧ w'.heap.size = w.heap.size + 1 :=
  (cnew_if n w).mono fun e w' ⟨he, hw⟩ => by
    subst hw
    rw [capD_if]
    exact ⟨he, new_DC w _, (Below.refl _ _).alloc (Nat.le_refl _) _, by simp⟩
end Go.Proofs.Yteglaenjmeocmaa
