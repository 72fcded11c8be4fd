/-
The landed box: Next.
-/
import Derived.Test.YtchjljmcgjlkiaaBufCPut
import Derived.Deep.RegionHeld
import Derived.OrdersHeld
namespace Go.Proofs.Ytchjljmcgjlkiaa
open Go.RowKit
set_option maxRecDepth 20000
/-- what it answers -/
def NextTo19 (w : World) (q : Nat) (n1 : Int) (b : Bx) (F : Nat → Prop) : Ending → World → Prop := fun e w' => e = .returned (.tuple #[pcV (nextB b).2.1, .bool (nextB b).2.2]) ∧ ∃ F', BoL w' q n1 (nextB b).1 F' ∧ Turn F w w' ∧ Grew F F' w
set_option maxHeartbeats 1000000 in
theorem cnext19_none (w : World) (q : Nat) (n1 : Int) (b : Bx) (F : Nat → Prop) (h : BoL w q n1 b F) (h0 : b.M = []) : Calls Try.prog 12 #[ptrB q] w (NextTo19 w q n1 b F) := by
  have HL := Lib.hid (fun (w' : World) (hb : Below w.heap.size w w') => clen19 w' q n1 b F (boL_below h hb))
  rw [h0] at HL
  have hba := (Below.refl w.heap.size w).alloc (Nat.le_refl _) (.cells #[.int .i64 0, .string ⟨#[]⟩] 36)
  have HE := Lib.hid (fun (w' : World) (hb : Below w.heap.size w w') => show NextTo19 w q n1 b F (.returned (.tuple #[.agg #[.int .i64 0, .string ⟨#[]⟩], .bool false])) w' from ⟨by unfold nextB nextM; rw [h0]; rfl, F, by unfold nextB nextM; rw [h0]; exact (by have := boL_below h hb; obtain ⟨c, M⟩ := b; cases h0; exact this), Turn.of_below hb, Grew.refl _ _⟩)
  have HB := Lib.hid hba
  clear hba h h0
  generalize NextTo19 w q n1 b F = Q at *
  go_enter Try.func12, Try.ntmps12
  go_wp2_with (go_at_call 16; (with_reducible refine (HL.out _ HB.out).mono ?_); rintro e w1 ⟨rfl, rfl⟩)
  exact bodyPost_ret (v := .tuple #[.agg #[.int .i64 0, .string ⟨#[]⟩], .bool false]) (by simp [results, Try.results12, go_sem]) rfl (HE.out _ HB.out)
/-- the answer's own block is written behind it -/
theorem next19_end {w wB : World} {q : Nat} {n1 : Int} {b b' : Bx} {p : Pc} {v v' : Value} {Z Z' : List Ms} (hn : nextB b = (b', p, true)) (h : BoAt wB q n1 b'.cnt v' Z') (hM : Z'.map Ms.ps = b'.M) (ht : Turn (footB q v Z) w wB) (hg : Grew (footB q v Z) (footB q v' Z') w) (hw : ¬ footB q v' Z' w.heap.size) (x y : Value) :
    NextTo19 w q n1 b (footB q v Z) (.returned (.tuple #[.agg #[.int .i64 p.pid, .string p.info], .bool true])) ((wB.setCell ⟨w.heap.size, 0, none⟩ x).setCell ⟨w.heap.size, 1, none⟩ y) := by
  refine ⟨by rw [hn]; rfl, footB q v' Z', ?_, (ht.set (p := ⟨w.heap.size, 0, none⟩) (Or.inr (Nat.le_refl _)) x).set (p := ⟨w.heap.size, 1, none⟩) (Or.inr (Nat.le_refl _)) y, hg⟩
  rw [hn]
  exact ⟨v', Z', h.stay ((SameOn.of_set (p := ⟨w.heap.size, 0, none⟩) hw x).trans (SameOn.of_set (p := ⟨w.heap.size, 1, none⟩) hw y)), hM, rfl⟩
/-- the first message goes -/
theorem next19_last {w W wA : World} {q gv k c : Nat} {n1 cnt : Int} {m : Ms} {R : List Ms} (h : BoAt w q n1 cnt (.slice (some ⟨gv, 0, none⟩) k c) (m :: R)) (hb : Below w.heap.size w W) (ho : OwnM19 wA 0 (.slice (some ⟨gv, 0, none⟩) R.length c) R) (ht : Turn (fun b => b = gv) W wA) :
    KeepAt wA q 1 (.slice (some ⟨gv, 0, none⟩) k c) ∧ BoAt (wA.setCell ⟨q, 1, none⟩ (.slice (some ⟨gv, 0, none⟩) R.length c)) q n1 cnt (.slice (some ⟨gv, 0, none⟩) R.length c) R ∧ Turn (footB q (.slice (some ⟨gv, 0, none⟩) k c) (m :: R)) w (wA.setCell ⟨q, 1, none⟩ (.slice (some ⟨gv, 0, none⟩) R.length c)) ∧
      Grew (footB q (.slice (some ⟨gv, 0, none⟩) k c) (m :: R)) (footB q (.slice (some ⟨gv, 0, none⟩) R.length c) R) w := by
  have hW := h.below hb
  have hqv : q ≠ gv := fun e => h.nq (by rw [e]; rfl)
  have hgv : gv < w.heap.size := (h.own.ge (g := gv) rfl).2
  have hrow : RowAt wA q [.int .i64 n1, .slice (some ⟨gv, 0, none⟩) k c, .int .i64 cnt] := hW.row.turn ht hqv
  have hnv : ∀ x ∈ m :: R, x.g ≠ gv := fun x hx e => h.nv x hx (by rw [e]; rfl)
  refine ⟨hrow.get 1 rfl, BoAt.put (w' := wA) hW (fun x hx => ht.block _ ((hW.each x hx).ge rfl).2 (hnv x hx)) (ht.block q hW.row.lt hqv) ht.size ho (fun x hx => Or.inl (List.mem_cons_of_mem _ hx)) (List.nodup_cons.1 h.apart).2 (fun e => by cases e; exact hqv rfl), ?_, ?_⟩
  · refine Turn.set (p := ⟨q, 1, none⟩) ?_ (Or.inl (Or.inl rfl)) _
    exact ⟨ht.os.trans hb.os, ht.tape.trans hb.tape, ht.output.trans hb.output, Nat.le_trans hb.size ht.size, fun x hx hF => (ht.block x (Nat.lt_of_lt_of_le hx hb.size) fun e => hF (Or.inr (Or.inl (by rw [e]; rfl)))).trans (hb.block x hx)⟩
  · rintro x (rfl | e | ⟨y, hy, rfl⟩)
    · exact Or.inl (Or.inl rfl)
    · exact Or.inl (Or.inr (Or.inl e))
    · exact Or.inl (Or.inr (Or.inr ⟨y, List.mem_cons_of_mem _ hy, rfl⟩))
/-- the first message's first piece goes -/
theorem next19_more {w W wA : World} {q gv k c g c1 : Nat} {n1 cnt : Int} {p : Pc} {ps : List Pc} {R : List Ms} (h : BoAt w q n1 cnt (.slice (some ⟨gv, 0, none⟩) k c) (⟨g, c1, p :: ps⟩ :: R)) (hb : Below w.heap.size w W) (ho : OwnP19 wA 0 (.slice (some ⟨g, 0, none⟩) ps.length c1) ps) (ht : Turn (fun b => b = g) W wA) :
    KeepAt wA gv 0 (Ms.v ⟨g, c1, p :: ps⟩) ∧ BoAt (wA.setCell ⟨gv, 0, none⟩ (.slice (some ⟨g, 0, none⟩) ps.length c1)) q n1 cnt (.slice (some ⟨gv, 0, none⟩) k c) (⟨g, c1, ps⟩ :: R) ∧ Turn (footB q (.slice (some ⟨gv, 0, none⟩) k c) (⟨g, c1, p :: ps⟩ :: R)) w (wA.setCell ⟨gv, 0, none⟩ (.slice (some ⟨g, 0, none⟩) ps.length c1)) ∧
      Grew (footB q (.slice (some ⟨gv, 0, none⟩) k c) (⟨g, c1, p :: ps⟩ :: R)) (footB q (.slice (some ⟨gv, 0, none⟩) k c) (⟨g, c1, ps⟩ :: R)) w := by
  have hW := h.below hb
  have hqv : q ≠ gv := fun e => h.nq (by rw [e]; rfl)
  have hqg : q ≠ g := fun e => h.eq_ _ List.mem_cons_self e.symm
  have hvg : gv ≠ g := fun e => h.nv _ List.mem_cons_self (by show some gv = some g; rw [e])
  have hrow : RowAt wA q [.int .i64 n1, .slice (some ⟨gv, 0, none⟩) k c, .int .i64 cnt] := hW.row.turn ht hqg
  have hov : OwnM19 wA 0 (.slice (some ⟨gv, 0, none⟩) k c) (⟨g, c1, p :: ps⟩ :: R) := hW.own.turn ht fun b e => by cases e; exact hvg
  obtain ⟨a, cc, hv, hA⟩ := hov.see
  cases hv
  have hcell := hA.get 0 (by simp) 0 (u := Ms.v ⟨g, c1, p :: ps⟩) rfl
  have hfr := World.ownsRow.frozenAt hov 0
  have hset := hov.setAll 0 (⟨g, c1, ps⟩ : Ms) (by simp) 0 (by simp)
  have hrn : ∀ x ∈ R, x.g ≠ g := fun x hx e => (List.nodup_cons.1 h.apart).1 (by rw [List.mem_map]; exact ⟨x, hx, e⟩)
  have hnv : ∀ x ∈ R, x.g ≠ gv := fun x hx e => h.nv x (List.mem_cons_of_mem _ hx) (by rw [e]; rfl)
  refine ⟨⟨by simpa using hcell, hfr, (hov.ge (g := gv) rfl).2⟩, ⟨hrow.other _ (fun e => hqv e.symm), hset, fun x hx => ?_, ?_, h.nq, fun x hx => ?_, fun x hx => ?_⟩, ?_, ?_⟩
  · rcases List.mem_cons.1 hx with rfl | hx
    · exact ho.same fun b e => Below.heap_setCell _ _ _ _ (by cases e; exact fun e2 => hvg e2.symm)
    · exact ((hW.each x (List.mem_cons_of_mem _ hx)).turn ht (fun b e => by cases e; exact hrn x hx)).same fun b e => Below.heap_setCell _ _ _ _ (by cases e; exact hnv x hx)
  · exact h.apart
  · rcases List.mem_cons.1 hx with rfl | hx
    · exact fun e => hqg e.symm
    · exact h.eq_ x (List.mem_cons_of_mem _ hx)
  · rcases List.mem_cons.1 hx with rfl | hx
    · exact fun e => by cases e; exact hvg rfl
    · exact h.nv x (List.mem_cons_of_mem _ hx)
  · refine Turn.set (p := ⟨gv, 0, none⟩) ?_ (Or.inl (Or.inr (Or.inl rfl))) _
    exact ⟨ht.os.trans hb.os, ht.tape.trans hb.tape, ht.output.trans hb.output, Nat.le_trans hb.size ht.size, fun x hx hF => (ht.block x (Nat.lt_of_lt_of_le hx hb.size) fun e => hF (Or.inr (Or.inr ⟨_, List.mem_cons_self, e.symm⟩))).trans (hb.block x hx)⟩
  · rintro x (rfl | e | ⟨y, hy, rfl⟩)
    · exact Or.inl (Or.inl rfl)
    · exact Or.inl (Or.inr (Or.inl e))
    · rcases List.mem_cons.1 hy with rfl | hy
      · exact Or.inl (Or.inr (Or.inr ⟨_, List.mem_cons_self, rfl⟩))
      · exact Or.inl (Or.inr (Or.inr ⟨y, List.mem_cons_of_mem _ hy, rfl⟩))
end Go.Proofs.Ytchjljmcgjlkiaa
