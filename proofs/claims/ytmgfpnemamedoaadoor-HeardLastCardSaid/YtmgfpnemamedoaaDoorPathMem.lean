/-
Calls and entries as they lie in slices.
-/
import Derived.Test.YtmgfpnemamedoaaDoorMix08
import Derived.Test.YtmgfpnemamedoaaDoorMix00
namespace Go.Proofs.YtmgfpnemamedoaaDoor
open Go.RowKit Go.Sort
set_option maxRecDepth 20000
def encCl : Enc (ByteArray × Int) := ⟨2, by omega, fun c => [.string c.1, .int .i64 c.2], fun _ => rfl, fun _ u hu => by
  rcases List.mem_cons.1 hu with rfl | hu
  · rfl
  · rw [List.mem_singleton.1 hu]
    rfl⟩
theorem infoCl : (Tryd.prog.info? 27).map (fun i => (i.zero, i.size, i.bytes)) = some (some (.agg #[.string ⟨#[]⟩, .int .i64 0]), 2, 24) := by kernel_rfl
theorem AtL.calls {w : World} {a : Option Addr} {C : List (ByteArray × Int)} (h : AtL encCl w a C) : CallsAt w a C := fun k hk => by
  obtain ⟨g, o, ha, hg, hc⟩ := h k hk
  refine ⟨g, o, ha, hg, hc 0 _ rfl, hc 1 _ rfl⟩
theorem CallsAt.same {w w' : World} {a : Option Addr} {C : List (ByteArray × Int)} (h : CallsAt w a C) (hb : ∀ p, a = some p → w'.heap[p.block]? = w.heap[p.block]?) (hs : w.heap.size ≤ w'.heap.size) : CallsAt w' a C := fun k hk => by
  obtain ⟨g, o, ha, hg, h0, h1⟩ := h k hk
  refine ⟨g, o, ha, Nat.lt_of_lt_of_le hg hs, (World.cell?_of_block (a := ⟨g, o + k * 2, none⟩) (hb ⟨g, o, none⟩ ha)).trans h0, (World.cell?_of_block (a := ⟨g, o + k * 2 + 1, none⟩) (hb ⟨g, o, none⟩ ha)).trans h1⟩
theorem EntsAt.same {w w' : World} {a : Option Addr} {cap : Nat} {L : List Ent} (h : EntsAt w a cap L) (hb : ∀ p, a = some p → w'.heap[p.block]? = w.heap[p.block]?) (hs : w.heap.size ≤ w'.heap.size) : EntsAt w' a cap L := by
  refine ⟨h.le, h.max, fun k hk => ?_⟩
  obtain ⟨g, o, ha, hg, h0, h1, h2⟩ := h.at_ k hk
  have hq := hb ⟨g, o, none⟩ ha
  exact ⟨g, o, ha, Nat.lt_of_lt_of_le hg hs, (World.cell?_of_block (a := ⟨g, o + k * 3, none⟩) hq).trans h0, (World.cell?_of_block (a := ⟨g, o + k * 3 + 1, none⟩) hq).trans h1, (World.cell?_of_block (a := ⟨g, o + k * 3 + 2, none⟩) hq).trans h2⟩
end Go.Proofs.YtmgfpnemamedoaaDoor
