/-
Of the statement TncFrames: a frame's bytes fed; == on frames and on parameters.
-/
import Derived.Test.YteglaenjmeocmaaTncMix
import Derived.Test.YteglaenjmeocmaaKissEnc
import Derived.DeepKeys
namespace Go.Proofs.Yteglaenjmeocmaa
open Go.RowKit Go.Sort
/-- what stays while one frame is encoded and fed -/
theorem fr_feed {w wr w2 w3 : World} {p q' : Par} {g bd P : Nat} {pl : Nat} {K : Int} {s : ByteArray} {vc vc' tv : Value} {fr : Fr} {T : TypeId}
    (hA : Fra w wr p q') (h5 : L5 wr g P p) (hg : g < bd) (hn : w.heap.size + 1 < bd) (hD : DC wr bd pl 10 0 vc [])
    (hb2 : Below (wr.alloc (.cells #[.int .i64 (P : Int), .int .i64 K, .string s] T)).heap.size (wr.alloc (.cells #[.int .i64 (P : Int), .int .i64 K, .string s] T)) w2)
    (hW : Wrote w2 w3 bd vc vc') (hF : OwnF 25 w3 w2.heap.size tv [fr]) (hfr : frsV [fr] = [.int .i64 (P : Int), .int .i64 K, .string s]) :
    Fra w w3 p q' ∧ L5 w3 g P p ∧ FrAt w3 wr.heap.size P K s ∧ wr.heap.size < w3.heap.size ∧ ∃ g2 cap2, tv = .slice (some ⟨g2, 0, none⟩) 1 cap2 ∧ g2 < w3.heap.size ∧ FrAt w3 g2 P K s := by
  have hbd := hD.1.lt
  have hs2 := hb2.size
  have hz : (wr.alloc (.cells #[.int .i64 (P : Int), .int .i64 K, .string s] T)).heap.size = wr.heap.size + 1 := by simp
  rw [hz] at hs2
  have hs3 := hW.size
  have h02 : Below wr.heap.size wr w2 := ((Below.refl _ wr).alloc (Nat.le_refl _) _).trans (hb2.mono (by omega))
  have h23 : Below bd w2 w3 := hW.below (by omega) (Nat.le_refl _) (fun k hk => by have := (hD.2.ge hk).1; omega)
  have h03 : Below bd wr w3 := (h02.mono (by omega)).trans h23
  have hfb : w3.heap[wr.heap.size]? = w2.heap[wr.heap.size]? := hW.block _ (by omega) (by omega) (fun e => by have := (hD.2.ge e.symm).2; omega)
  have hcell : ∀ i, w3.cell? ⟨wr.heap.size, i, none⟩ = (#[.int .i64 (P : Int), .int .i64 K, .string s] : Array Value)[i]? := fun i => by
    have e1 : w3.cell? ⟨wr.heap.size, i, none⟩ = w2.cell? ⟨wr.heap.size, i, none⟩ := by simp only [World.cell?, hfb]
    rw [e1, hb2.cell (p := ⟨wr.heap.size, i, none⟩) (by show wr.heap.size < _; rw [hz]; omega)]
    exact World.cell?_alloc_new _ _ _ _
  obtain ⟨g2, cap2, hv, _, hg2, hk⟩ := own_one hF
  rw [hfr] at hk
  exact ⟨hA.below hn h03, h5.below hg h03, ⟨hcell 0, hcell 1, hcell 2⟩, by omega, g2, cap2, hv, hg2, hk 0 _ rfl, hk 1 _ rfl, hk 2 _ rfl⟩
/-- a frame's bytes fed to a deframer between frames -/
theorem feed_fr (bd pl : Nat) (vc : Value) (X : ByteArray) (fr : Fr) (w2 : World) (hX : X.data.toList = fb fr) (hpl : pl ≤ 1) (hfr : fr.2.length = 1) (hD : DC w2 bd ((pl : Nat) : Int) 10 0 vc []) :
    Calls Try.prog 15 #[.pointer (some ⟨bd, 0, none⟩), .slice (some ⟨w2.heap.size, 0, none⟩) 1 1] (w2.alloc (.cells #[.string X] 9)) fun e w' => ∃ vc' tv, e = .returned tv ∧ DC w' bd ((1 : Nat) : Int) 10 0 vc' [] ∧ Wrote w2 w' bd vc vc' ∧ OwnF 25 w' w2.heap.size tv [fr] := by
  have hl := fb_len fr
  have hs : X.size ≤ 50000 := by
    have e : X.data.toList.length = X.size := by simp
    rw [hX] at e
    omega
  have h := feed_one bd 10 ((pl, 0, []) : St) vc X w2.heap.size 9 w2 rfl (by omega) ⟨by show pl ≤ 2; omega, by simp, fun _ => rfl⟩ (by simp) hs hD
  rw [hX, fed_frame 10 0 pl fr hpl (by omega)] at h
  exact h
theorem FrAt.below {w w' : World} {n B : Nat} {x y : Int} {s : ByteArray} (h : FrAt w n x y s) (hn : n < B) (hb : Below B w w') : FrAt w' n x y s :=
  ⟨(hb.cell (p := ⟨n, 0, none⟩) hn).trans h.1, (hb.cell (p := ⟨n, 1, none⟩) hn).trans h.2.1, (hb.cell (p := ⟨n, 2, none⟩) hn).trans h.2.2⟩
theorem run_eq_frame (x y : Int) (s : ByteArray) (w : World) : (Op.equalIn 10000 25 (.agg #[.int .i64 x, .int .i64 y, .string s]) (.agg #[.int .i64 x, .int .i64 y, .string s])).run Try.prog w = .ok true w := by
  go_simp
theorem run_eq_par (a b c d : Int) (f : Bool) (w : World) : (Op.equalIn 10000 23 (.agg #[.int .i64 a, .int .i64 b, .int .i64 c, .int .i64 d, .bool f]) (.agg #[.int .i64 a, .int .i64 b, .int .i64 c, .int .i64 d, .bool f])).run Try.prog w = .ok true w := by
  go_simp
theorem DC.set_far {w : World} {b m o : Nat} {at_ most bad : Int} {v u : Value} {held : List UInt8} (h : DC w b at_ most bad v held) (hm : m < b) : DC (w.setCell ⟨m, o, none⟩ u) b at_ most bad v held :=
  ⟨h.1.same (Below.heap_setCell _ _ _ _ (by show b ≠ m; omega)), h.2.block (fun g hg => Below.heap_setCell _ _ _ _ (by show g ≠ m; have := (h.2.ge hg).1; omega))⟩
theorem L5.set_far {w : World} {g P m o : Nat} {p : Par} {u : Value} (h : L5 w g P p) (hm : m ≠ g) : L5 (w.setCell ⟨m, o, none⟩ u) g P p := fun k hk => by
  obtain ⟨a, b, c⟩ := h k hk
  exact ⟨by rw [set_block _ _ _ _ _ _ hm]; exact a, by rw [set_block _ _ _ _ _ _ hm]; exact b, by rw [set_block _ _ _ _ _ _ hm]; exact c⟩
theorem ParAt.set_far {w : World} {n m o : Nat} {p : Par} {u : Value} (h : ParAt w n p) (hm : m ≠ n) : ParAt (w.setCell ⟨m, o, none⟩ u) n p := by
  obtain ⟨a, b, c, d, e⟩ := h
  exact ⟨by rw [set_block _ _ _ _ _ _ hm]; exact a, by rw [set_block _ _ _ _ _ _ hm]; exact b, by rw [set_block _ _ _ _ _ _ hm]; exact c, by rw [set_block _ _ _ _ _ _ hm]; exact d, by rw [set_block _ _ _ _ _ _ hm]; exact e⟩
/-- what stands behind a frame's round -/
def Rnd (w W : World) (p q : Par) (g bd P pl : Nat) (vc : Value) : Prop := DC W bd ((pl : Nat) : Int) 10 0 vc [] ∧ Fra w W p q ∧ L5 W g P p
theorem Rnd.step {w W W' : World} {p q : Par} {g bd P pl : Nat} {vc : Value} (h : Rnd w W p q g bd P pl vc) (hg : g < bd) (hb : Below W.heap.size W W') : Rnd w W' p q g bd P pl vc :=
  ⟨h.1.below hb, h.2.1.step hb, h.2.2.below (Nat.lt_trans hg h.1.1.lt) hb⟩
theorem Rnd.drewN {w W : World} {p q : Par} {g bd P pl : Nat} {vc : Value} (h : Rnd w W p q g bd P pl vc) (n : Nat) : Rnd w (W.drewN n) p q g bd P pl vc :=
  ⟨h.1, ⟨h.2.1.1, h.2.1.2.1, h.2.1.2.2.1, below_drewN h.2.1.2.2.2.1 n, h.2.1.2.2.2.2⟩, h.2.2⟩
theorem Rnd.drew {w W : World} {p q : Par} {g bd P pl : Nat} {vc : Value} (h : Rnd w W p q g bd P pl vc) : Rnd w W.drew p q g bd P pl vc :=
  ⟨h.1, ⟨h.2.1.1, h.2.1.2.1, h.2.1.2.2.1, h.2.1.2.2.2.1.drew, h.2.1.2.2.2.2⟩, h.2.2⟩
/-- behind the store of what Apply answered -/
theorem Rnd.stored {w W : World} {p q : Par} {g bd P pl : Nat} {vc : Value} (q' : Par) (h : Rnd w W p q g bd P pl vc) (hg : w.heap.size + 1 < g) (hn : w.heap.size + 1 < bd) :
    Rnd w (((((W.setCell ⟨w.heap.size + 1, 0, none⟩ (.int .i64 q'.a)).setCell ⟨w.heap.size + 1, 1, none⟩ (.int .i64 q'.b)).setCell ⟨w.heap.size + 1, 2, none⟩ (.int .i64 q'.c)).setCell ⟨w.heap.size + 1, 3, none⟩ (.int .i64 q'.d)).setCell ⟨w.heap.size + 1, 4, none⟩ (.bool q'.f)) p q' g bd P pl vc := by
  obtain ⟨hD, ⟨h1, ⟨z0, z1, z2, z3, z4⟩, hf, hb, hs⟩, h5⟩ := h
  refine ⟨((((hD.set_far hn).set_far hn).set_far hn).set_far hn).set_far hn, ⟨((((h1.set_far (by omega)).set_far (by omega)).set_far (by omega)).set_far (by omega)).set_far (by omega), stored5 _ _ _ _ _ z0 z1 z2 z3 z4, fun i => ?_, set5_below hb (by omega) _ _ _ _ _, by simpa [World.setCell] using hs⟩, ((((h5.set_far (by omega)).set_far (by omega)).set_far (by omega)).set_far (by omega)).set_far (by omega)⟩
  rw [World.frozen?_setCell, World.frozen?_setCell, World.frozen?_setCell, World.frozen?_setCell, World.frozen?_setCell]
  exact hf i
end Go.Proofs.Yteglaenjmeocmaa
