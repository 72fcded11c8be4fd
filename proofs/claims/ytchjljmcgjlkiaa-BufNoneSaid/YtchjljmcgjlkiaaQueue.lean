/-
A slice of the call's own whose first ones may have been cut off, as a queue is: what is left behind a cut, what an append makes of it.
-/
import Derived.Test.YtchjljmcgjlkiaaInPlace
import Derived.Test.YtchjljmcgjlkiaaTurn
namespace Go.Proofs.Ytchjljmcgjlkiaa
open Go.RowKit
section
variable {α : Type} {E : Enc α} {T : TypeId}
def OwnQ (E : Enc α) (T : TypeId) (w : World) (B : Nat) (v : Value) (L : List α) : Prop :=
  (v = .slice none 0 0 ∧ L = []) ∨ ∃ g o c cur, v = .slice (some ⟨g, o, none⟩) L.length c ∧ B ≤ g ∧ w.heap[g]? = some (.cells cur T (0, 0)) ∧ L.length ≤ c ∧ c ≤ maxLen ∧ o + c * E.n ≤ cur.size ∧ ∀ x, x < L.length * E.n → cur[o + x]? = (flatE E L)[x]?
theorem OwnQ.nil (E : Enc α) (T : TypeId) (w : World) (B : Nat) : OwnQ E T w B (.slice none 0 0) [] := Or.inl ⟨rfl, rfl⟩
theorem OwnL.queue {w : World} {B : Nat} {v : Value} {L : List α} (h : OwnL E T w B v L) : OwnQ E T w B v L := by
  rcases h.2 with ⟨hv, h0⟩ | ⟨g, cap, cur, hv, hb, hg, hc, hm, hs, ht⟩
  · exact Or.inl ⟨hv, List.length_eq_zero_iff.1 h0⟩
  · refine Or.inr ⟨g, 0, cap, cur, hv, hb, hg, hc, hm, by omega, fun x hx => ?_⟩
    rw [Nat.zero_add, ← ht, List.getElem?_take_of_lt hx, Array.getElem?_toList]
theorem OwnQ.ge {w : World} {B g : Nat} {v : Value} {L : List α} (h : OwnQ E T w B v L) (hv : v.ownBlock = some g) : B ≤ g ∧ g < w.heap.size := by
  rcases h with ⟨rfl, -⟩ | ⟨g', o, c, cur, rfl, hb, hg, -⟩
  · cases hv
  · cases hv
    exact ⟨hb, (Array.getElem?_eq_some_iff.1 hg).1⟩
theorem OwnQ.base {w : World} {B B' : Nat} {v : Value} {L : List α} (h : OwnQ E T w B v L) (hB : B' ≤ B) : OwnQ E T w B' v L := by
  rcases h with h | ⟨g, o, c, cur, hv, hb, r⟩
  · exact Or.inl h
  · exact Or.inr ⟨g, o, c, cur, hv, Nat.le_trans hB hb, r⟩
theorem OwnQ.rebase {w : World} {B B' : Nat} {v : Value} {L : List α} (h : OwnQ E T w B v L) (hB : ∀ g, v.ownBlock = some g → B' ≤ g) : OwnQ E T w B' v L := by
  rcases h with h | ⟨g, o, c, cur, hv, hb, r⟩
  · exact Or.inl h
  · exact Or.inr ⟨g, o, c, cur, hv, hB g (by rw [hv]; rfl), r⟩
theorem OwnQ.same {w w' : World} {B : Nat} {v : Value} {L : List α} (h : OwnQ E T w B v L) (hb : ∀ g, v.ownBlock = some g → w'.heap[g]? = w.heap[g]?) : OwnQ E T w' B v L := by
  rcases h with h0 | ⟨g, o, c, cur, hv, hbg, hg, r⟩
  · exact Or.inl h0
  · exact Or.inr ⟨g, o, c, cur, hv, hbg, (hb g (by rw [hv]; rfl)).trans hg, r⟩
theorem OwnQ.below {w w' : World} {B : Nat} {v : Value} {L : List α} (h : OwnQ E T w B v L) (hb : Below w.heap.size w w') : OwnQ E T w' B v L := h.same fun g hv => hb.block g (h.ge hv).2
theorem OwnQ.turn {F : Nat → Prop} {w w' : World} {B : Nat} {v : Value} {L : List α} (h : OwnQ E T w B v L) (hb : Turn F w w') (hF : ∀ g, v.ownBlock = some g → ¬ F g) : OwnQ E T w' B v L := h.same fun g hv => hb.block g (h.ge hv).2 (hF g hv)
theorem OwnQ.form {w : World} {B : Nat} {v : Value} {L : List α} (h : OwnQ E T w B v L) : ∃ a c, v = .slice a L.length c := by
  rcases h with ⟨rfl, rfl⟩ | ⟨g, o, c, cur, hv, -⟩
  · exact ⟨_, _, rfl⟩
  · exact ⟨_, _, hv⟩
theorem cells_at {w : World} {g o : Nat} {cur : Array Value} (hg : w.heap[g]? = some (.cells cur T (0, 0))) : w.cell? ⟨g, o, none⟩ = cur[o]? := by
  unfold World.cell?
  simp [hg]
theorem OwnQ.see {w : World} {B : Nat} {v : Value} {L : List α} (h : OwnQ E T w B v L) : SeeL E w v L := by
  rcases h with ⟨rfl, rfl⟩ | ⟨g, o, c, cur, hv, hb, hg, hc, hm, hs, ht⟩
  · exact ⟨none, 0, rfl, AtL.nil E w none⟩
  · refine ⟨_, _, hv, fun k hk => ⟨g, o, rfl, (Array.getElem?_eq_some_iff.1 hg).1, fun j u hj => ?_⟩⟩
    have hj' : j < E.n := by
      have := (List.getElem?_eq_some_iff.1 hj).1
      rwa [E.len] at this
    have h1 : (k + 1) * E.n ≤ L.length * E.n := Nat.mul_le_mul_right _ hk
    rw [Nat.add_mul, Nat.one_mul] at h1
    rw [cells_at hg, Nat.add_assoc, ht _ (by omega), flatE_at E L k hk j hj', hj]
theorem OwnQ.some_ {w : World} {B : Nat} {v : Value} {L : List α} (h : OwnQ E T w B v L) (h0 : 0 < L.length) : ∃ g o c, v = .slice (some ⟨g, o, none⟩) L.length c ∧ B ≤ g ∧ g < w.heap.size ∧ AtL E w (some ⟨g, o, none⟩) L := by
  obtain ⟨a, c, hv, hA⟩ := h.see
  obtain ⟨g, o, rfl, hg⟩ := hA.some_ h0
  exact ⟨g, o, c, hv, (h.ge (by rw [hv]; rfl)).1, hg, hA⟩
/-- things that lie in a row, as an append reads them -/
theorem AtL.newsQ {w : World} {g o : Nat} {M : List α} (h : AtL E w (some ⟨g, o, none⟩) M) : ∀ j u, (flatE E M)[j]? = some u → w.cell? ((⟨g, o, none⟩ : Addr).add j) = some u := by
  intro j u hj
  have hjl := (List.getElem?_eq_some_iff.1 hj).1
  rw [flatE_length] at hjl
  have hp := E.pos
  have hk : j / E.n < M.length := Nat.div_lt_of_lt_mul (by rw [Nat.mul_comm]; exact hjl)
  have hr : j % E.n < E.n := Nat.mod_lt _ hp
  have e0 : j / E.n * E.n + j % E.n = j := Nat.div_add_mod' j E.n
  have e1 : (⟨g, o, none⟩ : Addr).add j = ⟨g, o + j, none⟩ := by unfold Addr.add; split <;> simp_all
  have h2 := flatE_at E M (j / E.n) hk (j % E.n) hr
  rw [e0, hj] at h2
  have h3 := h.get (j / E.n) hk (j % E.n) h2.symm
  rw [e1]
  rwa [Nat.add_assoc, e0] at h3
/-- all but the first one -/
theorem OwnQ.rest {w : World} {B : Nat} {v : Value} {u : α} {L : List α} (h : OwnQ E T w B v (u :: L)) (S : TypeId) (hS : Try.prog.underlying S = some (.slice T)) (hel : Try.prog.elem S = T) (hsz : ∀ W : World, (sizeOf T).run Try.prog W = .ok E.n W) :
    ∃ v', (∀ W : World, (Instr.slice S v (some (.int .i64 1)) none none).run Try.prog W = .ok v' W) ∧ OwnQ E T w B v' L ∧ v'.ownBlock = v.ownBlock := by
  rcases h with ⟨-, h0⟩ | ⟨g, o, c, cur, hv, hb, hg, hc, hm, hs, ht⟩
  · cases h0
  · subst hv
    rw [List.length_cons] at hc ht ⊢
    have e1 : (⟨g, o, none⟩ : Addr).add E.n = ⟨g, o + E.n, none⟩ := by
      unfold Addr.add
      split <;> simp_all
    refine ⟨.slice (some (if c = 1 then ⟨g, o, none⟩ else ⟨g, o + E.n, none⟩)) L.length (c - 1), fun W => ?_, ?_, by by_cases h : c = 1 <;> simp [h, Value.ownBlock]⟩
    · rw [run_slice_l W S (some ⟨g, o, none⟩) (L.length + 1) c (by rw [hel]; exact hS) .i64 1 (by omega) (by omega), hel, hsz]
      by_cases h : c = 1 <;> simp [Result.andThen, sliced, h, e1]
    · by_cases h : c = 1
      · subst h
        have hl : L = [] := List.length_eq_zero_iff.1 (by omega)
        subst hl
        exact Or.inr ⟨g, o, 0, cur, by simp, hb, hg, Nat.le_refl _, by unfold maxLen; omega, by omega, fun x hx => by simp at hx⟩
      · obtain ⟨d, rfl⟩ : ∃ d, c = d + 1 := ⟨c - 1, by omega⟩
        have hd : d ≠ 0 := by omega
        refine Or.inr ⟨g, o + E.n, d, cur, by simp [hd], hb, hg, by omega, by omega, by rw [Nat.add_mul] at hs; omega, fun x hx => ?_⟩
        have h1 := ht (E.n + x) (by rw [Nat.add_mul]; omega)
        rw [Nat.add_assoc, h1]
        show (E.enc u ++ flatE E L)[E.n + x]? = _
        rw [List.getElem?_append_right (by rw [E.len]; omega), E.len, Nat.add_sub_cancel_left]
/-- one more behind them -/
theorem run_append_q (S ty : TypeId) (hS : Try.prog.underlying S = some (.slice T)) {z : Value} {bytes : Nat} (hi : (Try.prog.info? T).map (fun i => (i.zero, i.size, i.bytes)) = some (some z, E.n, bytes)) (hz : z.cells.size = E.n) (hby : bytes ≤ 4096)
    (w : World) (B : Nat) (v : Value) (L : List α) (h : OwnQ E T w B v L) (ad : Addr) (c : Nat) (u : α) (hm : ∀ j y, (flatE E [u])[j]? = some y → w.cell? (ad.add j) = some y) (hlen : L.length ≤ 90000) (hB : B ≤ w.heap.size) :
    ∃ v' w', (Builtin.append_ #[S, S] ty #[v, .slice (some ad) 1 c]).run Try.prog w = .ok v' w' ∧ OwnQ E T w' B v' (L ++ [u]) ∧ w.grownBy w' v.ownBlock ∧ (v'.ownBlock = v.ownBlock ∨ v'.ownBlock = some w.heap.size) ∧ OwnQ E T w' B v L := by
  obtain ⟨i0, hi0, hz0, hz1, hz2⟩ := info_parts hi
  rcases h with ⟨rfl, rfl⟩ | ⟨g, o, cap, cur, rfl, hb, hg, hc, hmx, hs, ht⟩
  · obtain ⟨v', w', h1, h2, h3, h4⟩ := run_append_more E T S ty hS hi hz hby w B _ [] (OwnL.nil E T w B) ad c [u] hm (by simp) hB
    exact ⟨v', w', h1, h2.queue, h3, h4, Or.inl ⟨rfl, rfl⟩⟩
  · have hone : ∀ y ∈ flatE E [u], y.oneCell' = true := fun y hy => by
      rw [flatE_single] at hy
      exact E.one u y hy
    have hl1 : (flatE E [u]).length = 1 * E.n := flatE_length E [u]
    have hold : ∀ j y, (flatE E L)[j]? = some y → w.cell? ((⟨g, o, none⟩ : Addr).add j) = some y := fun j y hj => by
      have e1 : (⟨g, o, none⟩ : Addr).add j = ⟨g, o + j, none⟩ := by
        unfold Addr.add
        split <;> simp_all
      have hjl := (List.getElem?_eq_some_iff.1 hj).1
      rw [flatE_length] at hjl
      rw [e1, cells_at hg, ht j hjl, hj]
    by_cases hle : L.length + 1 ≤ cap
    · have hmul : (L.length + 1) * E.n ≤ cap * E.n := Nat.mul_le_mul_right _ hle
      rw [Nat.add_mul, Nat.one_mul] at hmul
      rw [Nat.one_mul] at hl1
      have hin : ∀ j, j < (flatE E [u]).length → (w.cell? ⟨g, o + L.length * E.n + j, none⟩).isSome = true := fun j hj => by
        rw [cells_at hg, Array.getElem?_eq_getElem (by omega)]
        rfl
      have hfr : ∀ j, j < (flatE E [u]).length → w.frozen? ⟨g, o + L.length * E.n + j, none⟩ = false := fun j hj => by
        unfold World.frozen?
        simp [hg]
      have hr := run_append_room_cells (P := Try.prog) w S ty T i0 hS hi0 g o L.length cap ad 1 c (flatE E [u]) (by rw [hl1, hz1, Nat.one_mul]) hm hone hle (by rw [hz1]; exact hin) (by rw [hz1]; exact hfr)
      rw [hz1] at hr
      obtain ⟨cur', k1, k2, k3⟩ := heap_setCells g T (flatE E [u]) (o + L.length * E.n) w cur hg
      obtain ⟨r1, r2, r3, r4⟩ := setCells_rest g (flatE E [u]) (o + L.length * E.n) w
      refine ⟨_, _, hr, ?_, ⟨r1, r2, r3, by rw [r4]; exact Nat.le_refl _, fun k _ hk => setCells_block g _ _ w k (fun e => hk (by rw [e]; rfl))⟩, Or.inl rfl, ?_⟩
      · refine Or.inr ⟨g, o, cap, cur', by simp, hb, k1, by simp; omega, hmx, by rw [k2]; exact hs, fun x hx => ?_⟩
        rw [List.length_append, List.length_singleton, Nat.add_mul, Nat.one_mul] at hx
        rw [k3 _ (by omega), flatE_append]
        by_cases hx2 : x < L.length * E.n
        · rw [if_neg (by omega), ht x hx2, List.getElem?_append_left (by rw [flatE_length]; exact hx2)]
        · rw [if_pos (by omega), List.getElem?_append_right (by rw [flatE_length]; omega), flatE_length]
          congr 1
          omega
      · refine Or.inr ⟨g, o, cap, cur', rfl, hb, k1, hc, hmx, by rw [k2]; exact hs, fun x hx => ?_⟩
        rw [k3 _ (by omega), if_neg (by omega), ht x hx]
    · obtain ⟨v2, w2, hr2, ho2, hg2⟩ := run_append_arg_grows (P := Try.prog) w S ty T i0 z E.n bytes hS hi0 hz0 hz1 hz2 hz E.pos ⟨g, o, none⟩ L.length cap (flatE E L) (flatE_length E L)
        hold ad 1 c (flatE E [u]) hl1 hm (by omega) (by unfold maxLen; omega) (Nat.le_trans (Nat.mul_le_mul_left _ hby) (by omega))
      have ho3 : OwnL E T w2 w.heap.size v2 (L ++ [u]) := by
        unfold OwnL
        rw [List.length_append, List.length_singleton, flatE_append]
        exact ho2
      refine ⟨v2, w2, hr2, (ho3.base hB).queue, ⟨hg2.os, hg2.tape, hg2.output, hg2.size, fun k hk _ => hg2.block k hk (by simp)⟩, ?_, ?_⟩
      · have hr3 := run_append_grow (P := Try.prog) w S ty T i0 z hS hi0 hz0 ⟨g, o, none⟩ L.length cap (flatE E L) (by rw [hz1]; exact flatE_length E L) hold ad 1 c (flatE E [u]) (by rw [hz1]; exact hl1) hm (by omega) (by omega) (growslice_fits (by omega) (by rw [hz2]; exact Nat.le_trans (Nat.mul_le_mul_left _ hby) (by omega)))
        rw [hr2] at hr3
        simp only [Result.ok.injEq] at hr3
        right
        rw [hr3.1]
        rfl
      · exact Or.inr ⟨g, o, cap, cur, rfl, hb, (hg2.block g (Array.getElem?_eq_some_iff.1 hg).1 (by simp)).trans hg, hc, hmx, hs, ht⟩
end
end Go.Proofs.Ytchjljmcgjlkiaa
