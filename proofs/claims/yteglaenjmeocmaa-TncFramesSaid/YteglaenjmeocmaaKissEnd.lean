/-
Walk of the code's end: the frame that has begun is told.
-/
import Derived.Test.YteglaenjmeocmaaKissCode
import Derived.BigRegion
namespace Go.Proofs.Yteglaenjmeocmaa
open Go.RowKit
/-- a frame as cells -/
def frV (f : Fr) : List Value := [.int .i64 ((f.1.toNat / 16 : Nat) : Int), .int .i64 ((f.1.toNat % 16 : Nat) : Int), .string ⟨f.2.toArray⟩]
def frsV (F : List Fr) : List Value := F.flatMap frV
theorem frsV_length (F : List Fr) : (frsV F).length = F.length * 3 := by
  induction F with
  | nil => rfl
  | cons f F ih => simp only [frsV, List.flatMap_cons, List.length_append, List.length_cons] at *; rw [ih]; simp [frV]; omega
theorem frsV_append (F G : List Fr) : frsV (F ++ G) = frsV F ++ frsV G := by simp [frsV]
theorem frsV_one (F : List Fr) : ∀ u ∈ frsV F, u.oneCell' = true := by
  intro u hu
  obtain ⟨f, _, hf⟩ := List.mem_flatMap.1 hu
  simp only [frV, List.mem_cons, List.not_mem_nil, or_false] at hf
  rcases hf with rfl | rfl | rfl <;> rfl
/-- tv is a slice of frames of the call's own -/
def OwnF (T : TypeId) (w : World) (B : Nat) (tv : Value) (F : List Fr) : Prop := w.ownsRow B T 3 tv F.length (frsV F)
theorem OwnF.nil (T : TypeId) (w : World) (B : Nat) : OwnF T w B (.slice none 0 0) [] := ⟨by simp [frsV], Or.inl ⟨rfl, rfl⟩⟩
theorem OwnF.ge {T : TypeId} {w : World} {B g : Nat} {v : Value} {F : List Fr} (h : OwnF T w B v F) (hv : v.ownBlock = some g) : B ≤ g ∧ g < w.heap.size := World.ownsRow.lt h g hv
theorem OwnF.grown {T : TypeId} {w w' : World} {B : Nat} {v : Value} {F : List Fr} {row : Option Nat} (h : OwnF T w B v F) (hg : w.grownBy w' row) (hr : ∀ g, v.ownBlock = some g → row ≠ some g) : OwnF T w' B v F :=
  World.ownsRow.kept h hg (by
    cases hv : v.ownBlock with
    | none => exact Or.inl rfl
    | some g => exact Or.inr (fun e => hr g hv e.symm))
theorem OwnF.set {T : TypeId} {w : World} {b o B : Nat} {v : Value} {F : List Fr} (h : OwnF T w B v F) (hb : b < B) (u : Value) : OwnF T (w.setCell ⟨b, o, none⟩ u) B v F :=
  h.grown (grown_set (grown_refl w (some b)) u) (fun g hv e => by have := (h.ge hv).1; have := Option.some.inj e; omega)
theorem OwnF.drewN {T : TypeId} {w : World} {B : Nat} {v : Value} {F : List Fr} (h : OwnF T w B v F) (n : Nat) : OwnF T (w.drewN n) B v F := h
theorem OwnF.len {T : TypeId} {w : World} {B : Nat} {v : Value} {F : List Fr} (h : OwnF T w B v F) : ∃ a cap, v = .slice a F.length cap := by
  rcases h.2 with ⟨hv, h0⟩ | ⟨g, cap, _, hv, _⟩
  · exact ⟨none, 0, by rw [h0]; exact hv⟩
  · exact ⟨_, cap, hv⟩
/-- frames and bytes lie apart -/
theorem own_apart {T : TypeId} {w : World} {B B' g : Nat} {v tv : Value} {l : List UInt8} {F : List Fr} (h : OwnB w B v l) (k : OwnF T w B' tv F) (hT : T ≠ 5) (hv : v.ownBlock = some g) : tv.ownBlock ≠ some g := by
  intro ht
  rcases h.2 with ⟨rfl, _⟩ | ⟨g1, cap, cur, rfl, _, hg, _⟩
  · cases hv
  · rcases k.2 with ⟨rfl, _⟩ | ⟨g2, cap2, cur2, rfl, _, hg2, _⟩
    · cases ht
    · simp only [Value.ownBlock, Option.some.injEq] at hv ht
      subst hv
      subst ht
      rw [hg] at hg2
      simp only [Option.some.injEq, Obj.cells.injEq] at hg2
      exact hT hg2.2.1.symm
theorem infoF : (Try.prog.info? 25).map (fun i => (i.zero, i.size, i.bytes)) = some (some (.agg #[.int .i64 0, .int .i64 0, .string ⟨#[]⟩]), 3, 32) := by kernel_rfl
/-- what end leaves -/
def EndTo (w0 : World) (b : Nat) (at_ most bad : Int) (v0 v : Value) (F : List Fr) (e : Ending) (w' : World) : Prop :=
  ∃ tv, e = .returned tv ∧ DC w' b at_ most bad v [] ∧ Wrote w0 w' b v0 v ∧ OwnF 25 w' w0.heap.size tv F
theorem end_none (b : Nat) (at_ most bad : Int) (v tv : Value) (w : World) (h : DC w b at_ most bad v []) : Calls Try.prog 27 #[.pointer (some ⟨b, 0, none⟩), tv] w fun e w' => e = .returned tv ∧ w = w' := by
  obtain ⟨a, cap, rfl⟩ := h.len
  obtain ⟨⟨⟨d0, d1, d2, d3⟩, z1, z2, z3⟩, _⟩ := h
  simp only [List.length_nil] at d2
  go_enter Try.func27, Try.ntmps27
  go_wp2
  go_ret
  exact ⟨rfl, rfl⟩
/-- behind an append to the frames that were told -/
theorem told_after {w0 w w1 : World} {b : Nat} {at_ most bad : Int} {v0 v tv tv' : Value} {held : List UInt8} {F G : List Fr} {news : List Value} (hb0 : b < w0.heap.size)
    (hd : DC w b at_ most bad v held) (hw : Wrote w0 w b v0 v) (hF : OwnF 25 w w0.heap.size tv F)
    (hown1 : w1.ownsRow w0.heap.size 25 3 tv' (F.length + G.length) (frsV F ++ news)) (hnews : news = frsV G) (o : Obj) (hga : (w.alloc o).grownBy w1 tv.ownBlock) :
    DC w1 b at_ most bad v held ∧ Wrote w0 w1 b v0 v ∧ OwnF 25 w1 w0.heap.size tv' (F ++ G) := by
  have hb := hd.1.lt
  have hg := grown_trans (World.grownBy_alloc w o _) hga
  refine ⟨⟨hd.1.same (hg.block b hb (fun e => ?_)), hd.2.grown hg (fun g hv => own_apart hd.2 hF (by decide) hv)⟩, hw.grown hg (fun g e => Or.inl (hF.ge e).1), ?_⟩
  · have := (hF.ge e.symm).1; omega
  · unfold OwnF
    rw [List.length_append, frsV_append, ← hnews]
    exact hown1
theorem and_15 (X : Nat) (h : X < 256) : bits BinOp.and IntKind.i64 (X : Int) 15 = ((X % 16 : Nat) : Int) := by
  have k : ∀ n : Fin 256, bits BinOp.and IntKind.i64 ((n.1 : Nat) : Int) 15 = ((n.1 % 16 : Nat) : Int) := of_decide_eq_true (by kernel_rfl)
  exact k ⟨X, h⟩
set_option maxHeartbeats 1000000 in
theorem end_some (b : Nat) (at_ most bad : Int) (x : UInt8) (l : List UInt8) (v0 v tv : Value) (F : List Fr) (w0 w : World) (hlen : l.length ≤ 4096) (hFl : F.length ≤ 1000000) (hb0 : b < w0.heap.size)
    (h : DC w b at_ most bad v (x :: l)) (hw : Wrote w0 w b v0 v) (hF : OwnF 25 w w0.heap.size tv F) :
    Calls Try.prog 27 #[.pointer (some ⟨b, 0, none⟩), tv] w fun e w' => EndTo w0 b at_ most bad v0 (emptied v) (F ++ [(x, l)]) e w' := by
  obtain ⟨i0, hi, hz0, hz1, hz2⟩ := info_parts infoF
  have HD := Lib.hid h
  have HW := Lib.hid hw
  have HF := Lib.hid hF
  obtain ⟨g, cap, rfl⟩ := h.2.slice (by simp)
  have hcap := h.2.cap
  have hgw := (h.2.ge rfl).2
  have hc2 := fun i (hi : i < (x :: l).length) => h.2.cell i hi
  have hr : ∀ W, (Instr.slice 58 (.slice (some ⟨g, 0, none⟩) (l.length + 1) cap) none (some (.int .i64 0)) none).run Try.prog W = .ok (.slice (some ⟨g, 0, none⟩) 0 cap) W := fun W => run_emptied h.2 W
  obtain ⟨⟨⟨d0, d1, d2, d3⟩, z1, z2, z3⟩, _⟩ := h
  have hb : b < w.heap.size := World.block_lt_of_cell? w ⟨b, 0, none⟩ d0
  obtain ⟨A, hsl, hcv⟩ := drop_first g cap x l (by simpa using hcap)
  rw [List.length_cons] at d2 hcap
  have hx := blt' x
  obtain ⟨X, hX⟩ : ∃ X, X = x.toNat := ⟨_, rfl⟩
  have HX := Lib.hid hX
  have c0 := hc2 0 (by simp)
  rw [List.getElem_cons_zero, ← hX] at c0
  rw [← hX] at hx
  have hcv2 := hcv w.drew hc2
  have hand := and_15 X hx
  have D2 := Lib.hid (HD.out.drewN 1).emptied
  have W2 := Lib.hid (((HW.out.drewN 1).set (o := 2) (emptied (.slice (some ⟨g, 0, none⟩) (x :: l).length cap))).as (emptied_own _))
  have F2 := Lib.hid ((HF.out.drewN 1).set (o := 2) hb0 (emptied (.slice (some ⟨g, 0, none⟩) (x :: l).length cap)))
  have hsz := HW.out.size
  have hnews : [Value.int .i64 ((X : Int) / 16), .int .i64 ((X % 16 : Nat) : Int), .string ⟨l.toArray⟩] = frsV [(x, l)] := by rw [hX]; rfl
  have HN := Lib.hid hnews
  clear hcv hc2 hX hnews HD HW HF hw
  obtain ⟨ta, tcap, htv⟩ := hF.len
  have HTV := Lib.hid htv
  clear htv hF
  have h0 : (0 : Int) < (l.length : Int) + 1 := by omega
  go_enter Try.func27, Try.ntmps27
  go_wp2
  go_region
  go_wp2_with (first
    | (at_builtin; refine wpList_append_own _ rfl (.tmp 35) (.tmp 42) 40 rfl w0.heap.size 25 i0 _ 3 32 Try.underlying40 hi hz0 hz1 hz2 rfl (by decide) tv F.length (frsV F) rfl (World.ownsRow.alloc F2.out _) ⟨w.heap.size, 0, none⟩ 1 1 [.int .i64 ((X : Int) / 16), .int .i64 ((X % 16 : Nat) : Int), .string ⟨l.toArray⟩] rfl rfl (cells_new' _ _ (by simp [World.setCell]) #[.int .i64 ((X : Int) / 16), .int .i64 ((X % 16 : Nat) : Int), .string ⟨l.toArray⟩] _) (by rw [HN.out]; exact frsV_one _) (by unfold maxLen; omega) (by omega) (by simp [World.setCell]; omega) ?_; intro v' w1 hown1 hgrow1 _; have HX := Lib.hid (told_after hb0 D2.out W2.out F2.out hown1 HN.out (.cells #[.int .i64 ((X : Int) / 16), .int .i64 ((X % 16 : Nat) : Int), .string ⟨l.toArray⟩] 25) hgrow1); clear hown1 hgrow1))
  go_ret
  exact ⟨v', rfl, HX.out⟩
end Go.Proofs.Yteglaenjmeocmaa
