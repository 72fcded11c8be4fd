/-
How the landed queue lies: three slices, each of the queue's own; what an append of an own slice makes.
-/
import Derived.Test.YtliamhphpnifaaaTxqLaw
import Derived.Test.YtliamhphpnifaaaInPlace
import Derived.Lib.AppendZeros
import Derived.Deep.AppendSrc
namespace Go.Proofs.Ytliamhphpnifaaa
open Go.RowKit
set_option maxRecDepth 20000
/-- those that wait, as they lie -/
def encW : Enc Ent := ⟨2, by omega, fun e => [.int .i64 e.key, .string e.fr], fun _ => rfl, fun _ u hu => by
  simp only [List.mem_cons, List.not_mem_nil, or_false] at hu
  rcases hu with rfl | rfl <;> rfl⟩
theorem infoW16 : (Try.prog.info? 57).map (fun i => (i.zero, i.size, i.bytes)) = some (some (.agg #[.int .i64 0, .string ⟨#[]⟩]), 2, 24) := by kernel_rfl
abbrev OwnW (w : World) (B : Nat) (v : Value) (L : List Ent) : Prop := OwnL encW 57 w B v L
abbrev OwnS16 (w : World) (B : Nat) (v : Value) (L : List ByteArray) : Prop := OwnL encS 9 w B v L
theorem OwnL.form16 {α : Type} {E : Enc α} {T : TypeId} {w : World} {B : Nat} {v : Value} {L : List α} (h : OwnL E T w B v L) : ∃ a c, v = .slice a L.length c := by
  obtain ⟨a, c, hv, -⟩ := h.see
  exact ⟨a, c, hv⟩
/-- an append of nothing -/
theorem append_none16 (w : World) (ty : TypeId) (v : Value) (B : Nat) (L : List Ent) (h : OwnW w B v L) : (Builtin.append_ #[51, 51] ty #[v, .slice none 0 0]).run Try.prog w = .ok v w := by
  rcases h.2 with ⟨rfl, h0⟩ | ⟨g, c, cur, rfl, hb, hg, hc, -⟩
  · kernel_rfl
  · obtain ⟨i0, hi0, -⟩ := info_parts infoW16
    have := run_append_room_src (P := Try.prog) w 51 51 ty 57 i0 Try.underlying51 hi0 g 0 L.length c (.slice none 0 0) 0 [] (Src.ofNil w Try.underlying51 0) (by omega) (fun j hj => absurd hj (Nat.not_lt_zero _)) (fun j hj => absurd hj (Nat.not_lt_zero _))
    exact this
/-- an append of some that are owned -/
theorem append_own16 (w : World) (ty : TypeId) (v u : Value) (B B' : Nat) (L M : List Ent) (h : OwnW w B v L) (k : OwnW w B' u M) (hl : L.length + M.length ≤ 100000) (hB : B ≤ w.heap.size) :
    ∃ v' w', (Builtin.append_ #[51, 51] ty #[v, u]).run Try.prog w = .ok v' w' ∧ OwnW w' B v' (L ++ M) ∧ w.grownBy w' v.ownBlock ∧ (v'.ownBlock = v.ownBlock ∨ v'.ownBlock = some w.heap.size) := by
  rcases k.2 with ⟨rfl, h0⟩ | ⟨g, c, cur, rfl, hb, hg, hc, -⟩
  · obtain rfl : M = [] := List.length_eq_zero_iff.1 h0
    exact ⟨v, w, append_none16 w ty v B L h, by rw [List.append_nil]; exact h, grown_refl _ _, Or.inl rfl⟩
  · obtain ⟨v', w', h1, h2, h3, h4⟩ := run_append_more encW 57 51 ty Try.underlying51 infoW16 rfl (by decide) w B v L h ⟨g, 0, none⟩ c M (World.ownsRow.cells k (g := g) rfl) hl hB
    exact ⟨v', w', h1, h2, h3, h4⟩
/-- room made of nothing, for so many -/
theorem append_zeros16 (w : World) (ty : TypeId) (n : Nat) (h0 : 0 < n) (hn : n ≤ 1000) :
    ∃ c w', n ≤ c ∧ c ≤ maxLen ∧ (Builtin.append_ #[51, 3] ty #[.slice none 0 0, .int .i64 (n : Nat)]).run Try.prog w = .ok (.slice (some ⟨w.heap.size, 0, none⟩) n c) w' ∧ OwnW w' w.heap.size (.slice (some ⟨w.heap.size, 0, none⟩) 0 c) [] ∧ Below w.heap.size w w' := by
  obtain ⟨i0, hi0, hz0, hz1, hz2⟩ := info_parts infoW16
  have hr := Lib.run_append_nil_zeros (P := Try.prog) w 51 3 ty 57 i0 _ .i64 .i64 Try.underlying51 Try.underlying3 hi0 hz0 n h0 (by rw [hz1]; decide) (by omega) (by rw [hz2]; omega)
  have hge := grownCap_ge w n 0 57
  have hmx := grownCap_le_maxLen w n 0 57 (by unfold maxLen; omega)
  refine ⟨_, _, hge, hmx, hr, ⟨rfl, Or.inr ⟨w.heap.size, _, _, rfl, Nat.le_refl _, heap_alloc_new w.drew _, Nat.zero_le _, hmx, ?_, by show List.take (0 * _) _ = _; rw [Nat.zero_mul, List.take_zero]; rfl⟩⟩, ((Below.refl w.heap.size w).drew).alloc (Nat.le_refl _) _⟩
  have e2 : (Value.agg #[.int .i64 0, .string ⟨#[]⟩]).cells.size = 2 := rfl
  show (_ ++ _ : Array Value).size = _ * 2
  rw [Array.size_append, size_zeroCells, size_zeroCells, e2, ← Nat.add_mul]
  congr 1
  omega
/-- two cells of one that waits -/
theorem AtL.wt {w : World} {g o : Nat} {L : List Ent} (h : AtL encW w (some ⟨g, o, none⟩) L) (i : Nat) (hi : i < L.length) :
    w.cell? ⟨g, o + i * 2, none⟩ = some (.int .i64 L[i].key) ∧ w.cell? ⟨g, o + i * 2 + 1, none⟩ = some (.string L[i].fr) := by
  have h0 := h.get i hi 0 (u := .int .i64 L[i].key) rfl
  have h1 := h.get i hi 1 (u := .string L[i].fr) rfl
  simp only [Nat.add_zero] at h0 h1
  exact ⟨h0, h1⟩
theorem OwnW.get {w : World} {B g n c : Nat} {L : List Ent} (h : OwnW w B (.slice (some ⟨g, 0, none⟩) n c) L) (i : Nat) (hi : i < L.length) :
    w.cell? ⟨g, i * 2, none⟩ = some (.int .i64 L[i].key) ∧ w.cell? ⟨g, i * 2 + 1, none⟩ = some (.string L[i].fr) := by
  obtain ⟨a, cap, hv, hA⟩ := h.see
  simp only [Value.slice.injEq] at hv
  obtain ⟨rfl, -, -⟩ := hv
  have := hA.wt i hi
  simpa only [Nat.zero_add] using this
/-- how it lies: at q, each class in a slice of its own -/
structure QuAt (w : World) (q : Nat) (u : Nat → Value) (M : Nat → List Ent) : Prop where
  row : RowAt w q [u 0, u 1, u 2]
  own : ∀ i, i < 3 → OwnW w 0 (u i) (M i)
  nq : ∀ i, i < 3 → (u i).ownBlock ≠ some q
  ap : ∀ i j, i < 3 → j < 3 → i ≠ j → ∀ b, (u i).ownBlock = some b → (u j).ownBlock ≠ some b
abbrev footQ (q : Nat) (u : Nat → Value) (b : Nat) : Prop := b = q ∨ ∃ i, i < 3 ∧ (u i).ownBlock = some b
theorem row3 (u : Nat → Value) (i : Nat) (h : i < 3) : [u 0, u 1, u 2][i]? = some (u i) := by
  obtain rfl | rfl | rfl : i = 0 ∨ i = 1 ∨ i = 2 := by omega
  · rfl
  · rfl
  · rfl
section
variable {w w' : World} {q : Nat} {u : Nat → Value} {M : Nat → List Ent}
theorem QuAt.mem (h : QuAt w q u M) : ∀ b, footQ q u b → b < w.heap.size := by
  rintro b (rfl | ⟨i, hi, e⟩)
  · exact h.row.lt
  · exact ((h.own i hi).ge e).2
theorem QuAt.stay (h : QuAt w q u M) (hs : SameOn (footQ q u) w w') : QuAt w' q u M :=
  ⟨h.row.block (hs.2 q (Or.inl rfl)) hs.1, fun i hi => (h.own i hi).same fun g e => hs.2 g (Or.inr ⟨i, hi, e⟩), h.nq, h.ap⟩
theorem QuAt.below (h : QuAt w q u M) (hb : Below w.heap.size w w') : QuAt w' q u M := h.stay (SameOn.of_below hb h.mem)
theorem QuAt.cell (h : QuAt w q u M) (i : Nat) (hi : i < 3) : w.cell? ⟨q, i, none⟩ = some (u i) := h.row.cell i (row3 u i hi)
/-- one class anew -/
def updU (u : Nat → Value) (c : Nat) (v : Value) (i : Nat) : Value := if i = c then v else u i
def updL (M : Nat → List Ent) (c : Nat) (L : List Ent) (i : Nat) : List Ent := if i = c then L else M i
theorem updU_row (u : Nat → Value) (c : Nat) (v : Value) (h : c < 3) : [updU u c v 0, updU u c v 1, updU u c v 2] = [u 0, u 1, u 2].set c v := by
  obtain rfl | rfl | rfl : c = 0 ∨ c = 1 ∨ c = 2 := by omega
  · rfl
  · rfl
  · rfl
theorem QuAt.put (h : QuAt w q u M) (c : Nat) (hc : c < 3) (v : Value) (L : List Ent) (ho : OwnW w 0 v L) (hq : v.ownBlock ≠ some q) (ha : ∀ b, v.ownBlock = some b → ∀ i, i < 3 → i ≠ c → (u i).ownBlock ≠ some b) :
    QuAt (w.setCell ⟨q, c, none⟩ v) q (updU u c v) (updL M c L) := by
  have same : ∀ {B : Nat} {x : Value} {N : List Ent}, OwnW w B x N → x.ownBlock ≠ some q → OwnW (w.setCell ⟨q, c, none⟩ v) B x N := fun h1 h2 => h1.same fun g e => Below.heap_setCell _ _ _ _ (show g ≠ q from fun k => h2 (k ▸ e))
  refine ⟨h.row.put c v _ (updU_row u c v hc), fun i hi => ?_, fun i hi => ?_, fun i j hi hj hij b hb => ?_⟩
  · by_cases e : i = c
    · subst e
      unfold updU updL
      rw [if_pos rfl, if_pos rfl]
      exact same ho hq
    · unfold updU updL
      rw [if_neg e, if_neg e]
      exact same (h.own i hi) (h.nq i hi)
  · unfold updU
    split
    · exact hq
    · exact h.nq i hi
  · unfold updU at hb ⊢
    by_cases e : i = c
    · rw [if_pos e] at hb
      rw [if_neg (by omega)]
      exact ha b hb j hj (by omega)
    · rw [if_neg e] at hb
      by_cases e2 : j = c
      · rw [if_pos e2]
        intro hv
        exact ha b hv i hi e hb
      · rw [if_neg e2]
        exact h.ap i j hi hj hij b hb
end
/-- how a queue lies -/
def QuL : QuP := fun w q S F => ∃ u, QuAt w q u (fun i => ofC (i : Int) S) ∧ SOk S ∧ (∀ c : Int, (ofC c S).length ≤ 8) ∧ F = footQ q u
theorem quL_ok {w : World} {q : Nat} {S : List Ent} {F : Nat → Prop} (h : QuL w q S F) : SOk S := by
  obtain ⟨_, _, h2, _⟩ := h
  exact h2
theorem quL_below {w w' : World} {q : Nat} {S : List Ent} {F : Nat → Prop} (h : QuL w q S F) (hb : Below w.heap.size w w') : QuL w' q S F := by
  obtain ⟨u, h1, h2, h3⟩ := h
  exact ⟨u, h1.below hb, h2, h3⟩
theorem quL_stay {w w' : World} {q : Nat} {S : List Ent} {F : Nat → Prop} (h : QuL w q S F) (hs : SameOn F w w') : QuL w' q S F := by
  obtain ⟨u, h1, h2, h3, rfl⟩ := h
  exact ⟨u, h1.stay hs, h2, h3, rfl⟩
theorem quL_mem {w : World} {q : Nat} {S : List Ent} {F : Nat → Prop} (h : QuL w q S F) : ∀ b, F b → b < w.heap.size := by
  obtain ⟨u, h1, h2, h3, rfl⟩ := h
  exact h1.mem
theorem SOk.parts {S : List Ent} (h : SOk S) : S = ofC 0 S ++ (ofC 1 S ++ ofC 2 S) := (sort_fix S h.ok h.by_).symm
end Go.Proofs.Ytliamhphpnifaaa
