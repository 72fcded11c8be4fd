/-
Walk of the document's own Deframer.Byte where a frame is told.
-/
import Derived.Test.YtcnljojbkjfebaaKissRefQ
import Derived.BigRegion
namespace Go.Proofs.Ytcnljojbkjfebaa
open Go.RowKit
/-- 's[1:]' of what is held, and the text of it -/
theorem drop_first (g cap : Nat) (x : UInt8) (l : List UInt8) (hcap : l.length + 1 ≤ cap) :
    ∃ A, (∀ W, (Instr.slice 39 (.slice (some ⟨g, 0, none⟩) (l.length + 1) cap) (some (.int .i64 1)) none none).run Try.prog W = .ok (.slice (some A) l.length (cap - 1)) W) ∧
      ∀ W, (∀ i (h : i < (x :: l).length), W.cell? ⟨g, i, none⟩ = some (.int .u8 (((x :: l)[i].toNat : Nat) : Int))) → (convert 39 9 (.slice (some A) l.length (cap - 1))).run Try.prog W = .ok (.string ⟨l.toArray⟩) W := by
  have ht' : Try.prog.underlying 39 = some (.slice (Try.prog.elem 39)) := by simp [Program.elem, Try.underlying39]
  have he : Try.prog.elem 39 = 5 := by simp [Program.elem, Try.underlying39]
  have hz : ∀ w, (Go.sizeOf 5).run Try.prog w = .ok 1 w := fun w => by kernel_rfl
  refine ⟨if cap = 1 then ⟨g, 0, none⟩ else ⟨g, 1, none⟩, fun W => ?_, fun W hc => ?_⟩
  · rw [run_slice_l W 39 _ _ _ ht' .i64 1 (by omega) (by omega), he, hz]
    by_cases h1 : cap = 1
    · subst h1
      simp [Result.andThen, sliced]
    · simp [Result.andThen, sliced, Addr.add, h1]
  · by_cases h1 : cap = 1
    · have h0 : l.length = 0 := by omega
      have hl : l = [] := List.length_eq_zero_iff.1 h0
      subst hl
      rw [if_pos h1, List.length_nil, run_convert_bytes_arg W 39 5 Try.underlying39 Try.underlying5 g 0 0 (cap - 1) [] rfl (fun i hi => absurd hi (by omega)) 9 Try.underlying9]
      rfl
    · rw [if_neg h1, run_convert_bytes_arg W 39 5 Try.underlying39 Try.underlying5 g 1 l.length (cap - 1) (l.map fun b => ((b.toNat : Nat) : Int)) (by simp) (fun i hi => by
        rw [Nat.add_comm, hc (i + 1) (by simpa using hi), List.getD_eq_getElem?_getD, List.getElem?_map, List.getElem?_eq_getElem hi]; rfl) 9 Try.underlying9]
      congr 2
      apply bytes_ext'
      rw [strOfNums_data, List.map_map]
      show List.map _ l = l
      conv => rhs; rw [← List.map_id l]
      apply List.map_congr_left
      intro x _
      simp
theorem mid_froz2 (X : World) (n : Nat) (hn : n = X.heap.size) (cs : Array Value) (t : TypeId) (i : Nat) : (((X.alloc (.cells cs t)).alloc (.cells cs t))).frozen? ⟨n + 1, i, none⟩ = false :=
  World.frozen?_alloc_at _ _ _ _ (by simp [hn])
/-- a frame that is told -/
def aFrame (x : UInt8) (l : List UInt8) : Value := .tuple #[.agg #[.int .i64 ((x.toNat / 16 : Nat) : Int), .int .i64 ((x.toNat % 16 : Nat) : Int), .string ⟨l.toArray⟩], .bool true]
set_option maxHeartbeats 1000000 in
theorem byte_1_told {av : Nat} (b : Nat) (most bad : Int) (x : UInt8) (l : List UInt8) (w : World) (hlen : l.length ≤ 4096) (hd : DefIs av w b most 1 bad (x :: l)) :
    Calls Try.prog 25 #[.pointer (some ⟨b, 0, none⟩), .int .u8 192] w fun e w' => ByteTo av w b most 1 bad [] (aFrame x l) e w' := by
  obtain ⟨v, hD, hH⟩ := hd
  have HD := Lib.hid hD
  obtain ⟨a, cap, rfl⟩ := hH.len
  have hcap := hH.cap
  obtain ⟨g, hag, hgw, hgc⟩ := hH.row (by simp)
  subst hag
  obtain ⟨⟨d0, d1, d2, d3⟩, z1, z2, z3⟩ := hD
  have hb : b < w.heap.size := World.block_lt_of_cell? w ⟨b, 0, none⟩ d0
  clear hH
  rw [List.length_cons] at d3 hcap HD
  obtain ⟨A, hsl, hcv⟩ := drop_first g cap x l hcap
  have hx := blt' x
  obtain ⟨X, hX⟩ : ∃ X, X = x.toNat := ⟨_, rfl⟩
  have HX := Lib.hid hX
  have D2 := ((HD.out.alloc zf).alloc zf)
  have G2 := (grown_alloc (grown_alloc (grown_refl w (some b)) zf) zf)
  have hM := mid_cells w w.heap.size 0 rfl #[.int .i64 0, .int .i64 0, .string ⟨#[]⟩] 30
  have v0 := mid_froz2 w w.heap.size rfl #[.int .i64 0, .int .i64 0, .string ⟨#[]⟩] 30 0
  have v1 := mid_froz2 w w.heap.size rfl #[.int .i64 0, .int .i64 0, .string ⟨#[]⟩] 30 1
  have v2 := mid_froz2 w w.heap.size rfl #[.int .i64 0, .int .i64 0, .string ⟨#[]⟩] 30 2
  have hWs : ((w.alloc zf).alloc zf).heap.size = w.heap.size + 2 := by simp
  have hc2 : ∀ i (h : i < (x :: l).length), ((w.alloc zf).alloc zf).cell? ⟨g, i, none⟩ = some (.int .u8 (((x :: l)[i].toNat : Nat) : Int)) := fun i hi => by
    rw [World.cell?_alloc_past _ _ _ (by simp; omega), World.cell?_alloc_past _ _ _ hgw]; exact hgc i hi
  go_enter Try.func25, Try.ntmps25
  go_wp2
  rw [show ((w.alloc zf).alloc zf).drewN 0 = (w.alloc zf).alloc zf from rfl] at hM
  clear d0 d1 d2 d3 z1 z2 z3 hgc
  generalize ((w.alloc zf).alloc zf) = W at *
  have HG := Lib.hid G2
  have HD2 := Lib.hid D2
  have HWS := Lib.hid hWs
  have hcv2 := hcv W.drew hc2
  have c0 := hc2 0 (by simp)
  rw [List.getElem_cons_zero, ← hX] at c0
  rw [← hX] at hx
  have HM1 := Lib.hid hM.1
  have HM3 := Lib.hid hM.2.2
  obtain ⟨⟨d0, d1, d2, d3⟩, z1, z2, z3⟩ := D2
  have f0 := hM.2.1 0
  have f1 := hM.2.1 1
  have f2 := hM.2.1 2
  have hbW : b < W.heap.size := by omega
  have hwW : w.heap.size < W.heap.size := by omega
  have hwW1 : w.heap.size + 1 < W.heap.size := by omega
  simp only [List.getElem?_toArray, List.getElem?_cons_zero, List.getElem?_cons_succ] at f0 f1 f2
  have h0 : (0 : Int) < (l.length : Int) + 1 := by omega
  clear hM G2 hWs hc2 hX hcv
  go_region
  have HD3 := (((HD2.out.other (o := 0) (n := w.heap.size + 1) (by omega) (.int .i64 ((X : Int) / 16))).other (o := 1) (n := w.heap.size + 1) (by omega) (.int .i64 ((X : Int) % 16))).other (o := 2) (n := w.heap.size + 1) (by omega) (.string ⟨l.toArray⟩)).drew
  have G3 := grown_drew (grown_new (o := 2) (grown_new (o := 1) (grown_new (o := 0) HG.out (Nat.le_succ _) (.int .i64 ((X : Int) / 16))) (Nat.le_succ _) (.int .i64 ((X : Int) % 16))) (Nat.le_succ _) (.string ⟨l.toArray⟩))
  obtain ⟨k0, k1, k2⟩ := stored3 (W := W) (n := w.heap.size + 1) (.int .i64 ((X : Int) / 16)) (.int .i64 ((X : Int) % 16)) (.string ⟨l.toArray⟩) f0 f1 f2
  rw [← World.cell?_drew] at k0 k1 k2
  have hr : ∀ i, ((((W.setCell ⟨w.heap.size + 1, 0, none⟩ (.int .i64 ((X : Int) / 16))).setCell ⟨w.heap.size + 1, 1, none⟩ (.int .i64 ((X : Int) % 16))).setCell ⟨w.heap.size + 1, 2, none⟩ (.string ⟨l.toArray⟩)).drew).cell? ⟨w.heap.size, i, none⟩ = (#[.int .i64 0, .int .i64 0, .string ⟨#[]⟩] : Array Value)[i]? := fun i => by
    rw [World.cell?_drew, set_block _ _ _ _ _ _ (by omega), set_block _ _ _ _ _ _ (by omega), set_block _ _ _ _ _ _ (by omega)]; exact HM1.out i
  have hy : ∀ i, ((((W.setCell ⟨w.heap.size + 1, 0, none⟩ (.int .i64 ((X : Int) / 16))).setCell ⟨w.heap.size + 1, 1, none⟩ (.int .i64 ((X : Int) % 16))).setCell ⟨w.heap.size + 1, 2, none⟩ (.string ⟨l.toArray⟩)).drew).frozen? ⟨w.heap.size, i, none⟩ = false := fun i => by
    rw [World.frozen?_drew, World.frozen?_setCell, World.frozen?_setCell, World.frozen?_setCell]; exact HM3.out i
  clear d0 d1 d2 d3 z1 z2 z3 f0 f1 f2 c0 hsl hcv2 v0 v1 v2
  generalize ((((W.setCell ⟨w.heap.size + 1, 0, none⟩ (.int .i64 ((X : Int) / 16))).setCell ⟨w.heap.size + 1, 1, none⟩ (.int .i64 ((X : Int) % 16))).setCell ⟨w.heap.size + 1, 2, none⟩ (.string ⟨l.toArray⟩)).drew) = W2 at *
  have H3 := Lib.hid HD3
  obtain ⟨⟨d0, d1, d2, d3⟩, z1, z2, z3⟩ := HD3
  have GG := Lib.hid G3
  have r0 := hr 0
  have r1 := hr 1
  have r2 := hr 2
  have y0 := hy 0
  have y1 := hy 1
  have y2 := hy 2
  clear hr hy G3
  simp only [List.getElem?_toArray, List.getElem?_cons_zero, List.getElem?_cons_succ] at r0 r1 r2
  go_wp2
  obtain ⟨s0, s1, s2⟩ := stored3 (W := W2.setCell ⟨b, 3, none⟩ (.slice none 0 0)) (n := w.heap.size) (.int .i64 ((X : Int) / 16)) (.int .i64 ((X : Int) % 16)) (.string ⟨l.toArray⟩) (by rw [set_block _ _ _ _ _ _ (by omega)]; exact r0) (by rw [set_block _ _ _ _ _ _ (by omega)]; exact r1) (by rw [set_block _ _ _ _ _ _ (by omega)]; exact r2)
  have hfr : aFrame x l = .tuple #[.agg #[.int .i64 ((X : Int) / 16), .int .i64 ((X : Int) % 16), .string ⟨l.toArray⟩], .bool true] := by
    unfold aFrame; rw [← HX.out]; rfl
  exact bodyPost_ret (v := aFrame x l) (by rw [hfr]; simp [results, Try.results25, go_sem, s0, s1, s2]) rfl (byteTo rfl ⟨_, ((((H3.out.held _).other (by omega) _).other (by omega) _).other (by omega) _), HeldV.nil _ _⟩
    (grown_new (grown_new (grown_new (grown_set GG.out _) (Nat.le_refl _) _) (Nat.le_refl _) _) (Nat.le_refl _) _))
end Go.Proofs.Ytcnljojbkjfebaa
