/-
Of the statement TncFrames: what the frames make of parameters, one by one; what lies in memory.
-/
import Derived.Test.YteglaenjmeocmaaTncFramesC
import Derived.Test.YteglaenjmeocmaaTncApplyS
import Derived.Test.YteglaenjmeocmaaTncWinsC
namespace Go.Proofs.Yteglaenjmeocmaa
open Go.RowKit Go.Sort
/-- what the first k frames that set p make of q -/
def mixK (p q : Par) (k : Nat) : Par := ⟨if 0 < k then p.a else q.a, if 1 < k then p.b else q.b, if 2 < k then p.c else q.c, if 3 < k then p.d else q.d, if 4 < k then p.f else q.f⟩
theorem mixK_zero (p q : Par) : mixK p q 0 = q := rfl
theorem mixK_five (p q : Par) : mixK p q 5 = p := rfl
theorem mixK_ok (p q : Par) (k : Nat) (hp : p.ok = true) (hq : q.ok = true) : (mixK p q k).ok = true := by
  simp only [Par.ok, Bool.and_eq_true] at hp hq ⊢
  obtain ⟨⟨⟨p0, p1⟩, p2⟩, p3⟩ := hp
  obtain ⟨⟨⟨q0, q1⟩, q2⟩, q3⟩ := hq
  simp only [mixK]
  refine ⟨⟨⟨?_, ?_⟩, ?_⟩, ?_⟩ <;> split <;> assumption
theorem byte_back (n : Int) (h0 : 0 ≤ n) (h1 : n ≤ 255) : (((UInt8.ofNat n.toNat).toNat : Nat) : Int) = n := by
  rw [UInt8.toNat_ofNat', Nat.mod_eq_of_lt (by omega)]
  omega
theorem appD_mix (p q : Par) (P k : Nat) (hP : P ≤ 15) (hk : k < 5) (hp : p.ok = true) (hq : q.ok = true) : appD (mixK p q k) (P : Int) ((k + 1 : Nat) : Int) [UInt8.ofNat (parN p k).toNat] = (mixK p q (k + 1), 0) := by
  have hok := mixK_ok p q k hp hq
  have hb := parN_byte p hp k
  have hbb := byte_back _ hb.1 hb.2
  unfold appD
  rw [if_neg (by rw [hok]; simp), if_neg (by omega), if_neg (by omega), if_neg (by omega)]
  simp only
  obtain rfl | rfl | rfl | rfl | rfl : k = 0 ∨ k = 1 ∨ k = 2 ∨ k = 3 ∨ k = 4 := by omega
  · rw [hbb]; rfl
  · rw [hbb]; rfl
  · rw [hbb]; rfl
  · rw [hbb]; rfl
  · obtain ⟨a, b, c, d, f⟩ := p
    cases f <;> rfl
/-- what lies in memory while the statement runs -/
def Fra (w W : World) (p q : Par) : Prop := ParAt W w.heap.size p ∧ ParAt W (w.heap.size + 1) q ∧ (∀ i, W.frozen? ⟨w.heap.size + 1, i, none⟩ = false) ∧ Below w.heap.size w W ∧ w.heap.size + 1 < W.heap.size
theorem fra_start (w : World) (p q : Par) : Fra w ((w.alloc (.cells #[.int .i64 p.a, .int .i64 p.b, .int .i64 p.c, .int .i64 p.d, .bool p.f] 23)).alloc (.cells #[.int .i64 q.a, .int .i64 q.b, .int .i64 q.c, .int .i64 q.d, .bool q.f] 23)) p q := by
  refine ⟨par_cells2 p w _ _, ⟨?_, ?_, ?_, ?_, ?_⟩, fun i => World.frozen?_alloc_at _ _ _ _ (by simp), ((Below.refl _ w).alloc (Nat.le_refl _) _).alloc (by simp) _, by simp⟩
  all_goals exact World.cell?_alloc_at _ _ _ _ (by simp)
theorem Fra.below {w W W' : World} {p q : Par} {B : Nat} (h : Fra w W p q) (hB : w.heap.size + 1 < B) (hb : Below B W W') : Fra w W' p q := by
  obtain ⟨h1, h2, h3, h4, h5⟩ := h
  exact ⟨h1.below (by omega) hb, h2.below hB hb, fun i => (hb.frozen (p := ⟨_, i, none⟩) hB).trans (h3 i), h4.trans (hb.mono (by omega)), Nat.lt_of_lt_of_le h5 hb.size⟩
theorem Fra.step {w W W' : World} {p q : Par} (h : Fra w W p q) (hb : Below W.heap.size W W') : Fra w W' p q := h.below h.2.2.2.2 hb
/-- the five frames, where a slice of them lies -/
def L5 (W : World) (g P : Nat) (p : Par) : Prop := ∀ k, k < 5 → W.cell? ⟨g, k * 3, none⟩ = some (.int .i64 (P : Int)) ∧ W.cell? ⟨g, k * 3 + 1, none⟩ = some (.int .i64 ((k + 1 : Nat) : Int)) ∧ W.cell? ⟨g, k * 3 + 2, none⟩ = some (.string ⟨#[UInt8.ofNat (parN p k).toNat]⟩)
theorem L5.below {W W' : World} {g P B : Nat} {p : Par} (h : L5 W g P p) (hg : g < B) (hb : Below B W W') : L5 W' g P p := fun k hk => by
  obtain ⟨a, b, c⟩ := h k hk
  exact ⟨(hb.cell (p := ⟨g, _, none⟩) hg).trans a, (hb.cell (p := ⟨g, _, none⟩) hg).trans b, (hb.cell (p := ⟨g, _, none⟩) hg).trans c⟩
theorem l5_own {W : World} {B P : Nat} {p : Par} {v : Value} (hP : P ≤ 15) (h : OwnF 25 W B v (setK P p 5)) : ∃ g cap, v = .slice (some ⟨g, 0, none⟩) 5 cap ∧ g < W.heap.size ∧ B ≤ g ∧ L5 W g P p := by
  obtain ⟨a, cap, hv, hc⟩ := h.frs
  rw [setK_length] at hv hc
  obtain ⟨g, rfl, hg, hk⟩ := hc (by omega)
  refine ⟨g, cap, hv, hg, (h.ge (by rw [hv]; rfl)).1, fun k h5 => ?_⟩
  have hl : k < (setK P p 5).length := by rw [setK_length]; exact h5
  obtain ⟨x, y, z⟩ := frsV_at (setK P p 5) k hl
  have e : (setK P p 5)[k] = (rawK P p k).fr := by simp [setK]
  rw [e] at x y z
  have r := rawK_frV P p k hP h5
  have r0 : frsV [(rawK P p k).fr] = [.int .i64 (((rawK P p k).fr.1.toNat / 16 : Nat) : Int), .int .i64 (((rawK P p k).fr.1.toNat % 16 : Nat) : Int), .string ⟨(rawK P p k).fr.2.toArray⟩] := rfl
  rw [r0] at r
  simp only [List.cons.injEq, and_true] at r
  obtain ⟨r1, r2, r3⟩ := r
  rw [r1] at x
  rw [r2] at y
  rw [r3] at z
  exact ⟨hk _ _ x, hk _ _ y, hk _ _ z⟩
/-- one frame that was told -/
theorem own_one {T : TypeId} {W : World} {B : Nat} {v : Value} {f : Fr} (h : OwnF T W B v [f]) : ∃ g cap, v = .slice (some ⟨g, 0, none⟩) 1 cap ∧ B ≤ g ∧ g < W.heap.size ∧ ∀ j u, (frsV [f])[j]? = some u → W.cell? ⟨g, j, none⟩ = some u := by
  obtain ⟨a, cap, hv, hc⟩ := h.frs
  obtain ⟨g, rfl, hg, hk⟩ := hc (by simp)
  exact ⟨g, cap, hv, (h.ge (by rw [hv]; rfl)).1, hg, hk⟩
end Go.Proofs.Yteglaenjmeocmaa
