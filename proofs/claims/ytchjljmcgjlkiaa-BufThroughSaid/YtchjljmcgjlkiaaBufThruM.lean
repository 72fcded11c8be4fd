/-
A box, a gatherer, what was put and how much of it came, as they lie while pieces are taken out and gathered.
-/
import Derived.Test.YtchjljmcgjlkiaaBufThruP
import Derived.Test.YtchjljmcgjlkiaaBufLaw
namespace Go.Proofs.Ytchjljmcgjlkiaa
open Go.RowKit
set_option maxRecDepth 20000
abbrev OwnP (w : World) (B : Nat) (v : Value) (L : List Pc) : Prop := OwnL encP 36 w B v L
/-- at boxes c5 (the box), c7 (the gatherer), c8 (what was put), c9 (how many came), off what K says -/
structure ThAt (B : BoP) (w : World) (n1 : Int) (q m c5 c7 c8 c9 : Nat) (want : List Pc) (got : Nat) (b : Bx) (g : Gs) (wv : Value) (K : Nat → Prop) (W : World) : Prop where
  box : BoO B w q n1 b (fun k => k = c5 ∨ k = c7 ∨ k = c8 ∨ k = c9 ∨ k = m ∨ wv.ownBlock = some k ∨ K k) W
  r5 : RowAt W c5 [ptrB q]
  r7 : RowAt W c7 [ptrB m]
  r8 : RowAt W c8 [wv]
  r9 : RowAt W c9 [.int .i64 (got : Nat)]
  gat : RowAt W m (csV g)
  own : OwnP W w.heap.size wv want
  ord : w.heap.size ≤ c5 ∧ c5 < m ∧ m < c7 ∧ c7 < c8 ∧ c8 < c9
  wn : ∀ k, wv.ownBlock = some k → c9 < k
section
variable {B : BoP} (hC : BoC B) {w W W' : World} {n1 : Int} {q m c5 c7 c8 c9 : Nat} {want : List Pc} {got : Nat} {b b' : Bx} {g : Gs} {wv : Value} {K : Nat → Prop}
theorem ThAt.bel (h : ThAt B w n1 q m c5 c7 c8 c9 want got b g wv K W) : Below w.heap.size w W := h.box.bel
/-- the box alone turns -/
theorem ThAt.turnBox (h : ThAt B w n1 q m c5 c7 c8 c9 want got b g wv K W) (hb : BoO B w q n1 b' (fun k => k = c5 ∨ k = c7 ∨ k = c8 ∨ k = c9 ∨ k = m ∨ wv.ownBlock = some k ∨ K k) W') (hs : SameOn (fun k => k = c5 ∨ k = c7 ∨ k = c8 ∨ k = c9 ∨ k = m ∨ wv.ownBlock = some k ∨ K k) W W') :
    ThAt B w n1 q m c5 c7 c8 c9 want got b' g wv K W' :=
  ⟨hb, h.r5.block (hs.2 _ (by simp)) hs.1, h.r7.block (hs.2 _ (by simp)) hs.1, h.r8.block (hs.2 _ (by simp)) hs.1, h.r9.block (hs.2 _ (by simp)) hs.1, h.gat.block (hs.2 _ (by simp)) hs.1, h.own.same (fun k e => hs.2 k (by simp [e])), h.ord, h.wn⟩
include hC
theorem ThAt.below (h : ThAt B w n1 q m c5 c7 c8 c9 want got b g wv K W) (hb : Below W.heap.size W W') : ThAt B w n1 q m c5 c7 c8 c9 want got b g wv K W' :=
  ⟨h.box.below hC hb, h.r5.below hb, h.r7.below hb, h.r8.below hb, h.r9.below hb, h.gat.below hb, h.own.below hb, h.ord, h.wn⟩
/-- a block that is made is off it -/
theorem ThAt.alloc (h : ThAt B w n1 q m c5 c7 c8 c9 want got b g wv K W) (o : Obj) : ThAt B w n1 q m c5 c7 c8 c9 want got b g wv (fun k => K k ∨ k = W.heap.size) (W.alloc o) := by
  have hb := (Below.refl W.heap.size W).alloc (Nat.le_refl _) o
  have h2 := h.below hC hb
  refine ⟨(h.box.grown hC hb).less (fun k hk => ?_), h2.r5, h2.r7, h2.r8, h2.r9, h2.gat, h2.own, h2.ord, h2.wn⟩
  rcases hk with hk | hk | hk | hk | hk | hk | hk | hk
  · exact Or.inl (Or.inl hk)
  · exact Or.inl (Or.inr (Or.inl hk))
  · exact Or.inl (Or.inr (Or.inr (Or.inl hk)))
  · exact Or.inl (Or.inr (Or.inr (Or.inr (Or.inl hk))))
  · exact Or.inl (Or.inr (Or.inr (Or.inr (Or.inr (Or.inl hk)))))
  · exact Or.inl (Or.inr (Or.inr (Or.inr (Or.inr (Or.inr (Or.inl hk))))))
  · exact Or.inl (Or.inr (Or.inr (Or.inr (Or.inr (Or.inr (Or.inr hk))))))
  · exact Or.inr ⟨by rw [hk]; exact Nat.le_refl _, by rw [hk]; simp⟩
omit hC in
theorem ThAt.less {K' : Nat → Prop} (h : ThAt B w n1 q m c5 c7 c8 c9 want got b g wv K W) (hK : ∀ k, K' k → K k) : ThAt B w n1 q m c5 c7 c8 c9 want got b g wv K' W :=
  ⟨h.box.less (fun k hk => by
    rcases hk with hk | hk | hk | hk | hk | hk | hk
    · exact Or.inl hk
    · exact Or.inr (Or.inl hk)
    · exact Or.inr (Or.inr (Or.inl hk))
    · exact Or.inr (Or.inr (Or.inr (Or.inl hk)))
    · exact Or.inr (Or.inr (Or.inr (Or.inr (Or.inl hk))))
    · exact Or.inr (Or.inr (Or.inr (Or.inr (Or.inr (Or.inl hk)))))
    · exact Or.inr (Or.inr (Or.inr (Or.inr (Or.inr (Or.inr (hK k hk))))))), h.r5, h.r7, h.r8, h.r9, h.gat, h.own, h.ord, h.wn⟩
theorem ThAt.turned {x : Nat} (h : ThAt B w n1 q m c5 c7 c8 c9 want got b g wv K W) (ht : Turn (fun k => k = x) W W') (hx : x = c9 ∨ x = m ∨ x = c8) : BoO B w q n1 b (fun k => k = c5 ∨ k = c7 ∨ k = c8 ∨ k = c9 ∨ k = m ∨ wv.ownBlock = some k ∨ K k) W' := by
  obtain ⟨F, h1, h2, h3, h4⟩ := h.box
  have hxk : x < W.heap.size ∧ ¬ F x := h4 x (by rcases hx with rfl | rfl | rfl <;> simp)
  refine ⟨F, hC.stay h1 ⟨ht.size, fun k hk => ht.block k (hC.mem h1 k hk) (fun e => hxk.2 (e ▸ hk))⟩, h2, h3.trans (ht.below h3.size (fun k e => ?_)), fun k hk => ⟨Nat.lt_of_lt_of_le (h4 k hk).1 ht.size, (h4 k hk).2⟩⟩
  have := h.ord
  rcases hx with rfl | rfl | rfl <;> omega
/-- the gatherer turns -/
theorem ThAt.gather {g' : Gs} (h : ThAt B w n1 q m c5 c7 c8 c9 want got b g wv K W) (hg : RowAt W' m (csV g')) (ht : Turn (fun k => k = m) W W') : ThAt B w n1 q m c5 c7 c8 c9 want got b g' wv K W' := by
  have ho := h.ord
  exact ⟨h.turned hC ht (Or.inr (Or.inl rfl)), h.r5.turn ht (by omega), h.r7.turn ht (by omega), h.r8.turn ht (by omega), h.r9.turn ht (by omega), hg, h.own.turn ht (fun k e q => by have := h.wn k e; omega), ho, h.wn⟩
/-- one more came -/
theorem ThAt.count (h : ThAt B w n1 q m c5 c7 c8 c9 want got b g wv K W) : ThAt B w n1 q m c5 c7 c8 c9 want (got + 1) b g wv K (W.setCell ⟨c9, 0, none⟩ (.int .i64 ((got + 1 : Nat) : Int))) := by
  have ho := h.ord
  have ht : Turn (fun k => k = c9) W (W.setCell ⟨c9, 0, none⟩ (.int .i64 ((got + 1 : Nat) : Int))) := (Turn.refl (fun k => k = c9) W).set (p := ⟨c9, 0, none⟩) (Or.inl rfl) _
  exact ⟨h.turned hC ht (Or.inl rfl), h.r5.turn ht (by omega), h.r7.turn ht (by omega), h.r8.turn ht (by omega), h.r9.put 0 _ _ rfl, h.gat.turn ht (by omega), h.own.turn ht (fun k e q => by have := h.wn k e; omega), ho, h.wn⟩
/-- one more was put -/
theorem ThAt.wanted {x : Pc} {W1 : World} {wv' : Value} (h : ThAt B w n1 q m c5 c7 c8 c9 want got b g wv K W) (ho1 : OwnP W1 w.heap.size wv' (want ++ [x])) (hgr : W.grownBy W1 wv.ownBlock) (hw : wv'.ownBlock = wv.ownBlock ∨ wv'.ownBlock = some W.heap.size) :
    ThAt B w n1 q m c5 c7 c8 c9 (want ++ [x]) got b g wv' K (W1.setCell ⟨c8, 0, none⟩ wv') := by
  have ho := h.ord
  have ht : Turn (fun k => wv.ownBlock = some k) W W1 := ⟨hgr.os, hgr.tape, hgr.output, hgr.size, fun k hk hF => hgr.block k hk (fun e => hF e.symm)⟩
  have hoff : ∀ c, c ≤ c9 → ¬ wv.ownBlock = some c := fun c hc e => by have := h.wn c e; omega
  have hc9 := h.r9.lt
  have hwn : ∀ k, wv'.ownBlock = some k → c9 < k := fun k e => by
    rcases hw with q | q
    · exact h.wn k (q ▸ e)
    · rw [q] at e; cases e; exact hc9
  obtain ⟨F, h1, h2, h3, h4⟩ := h.box
  have hm := hC.mem h1
  have ht1 : Turn (fun k => wv.ownBlock = some k ∨ k = c8) W W1 := ⟨ht.os, ht.tape, ht.output, ht.size, fun k hk hF => ht.block k hk (fun e => hF (Or.inl e))⟩
  have ht2 : Turn (fun k => wv.ownBlock = some k ∨ k = c8) W (W1.setCell ⟨c8, 0, none⟩ wv') := ht1.set (p := ⟨c8, 0, none⟩) (Or.inl (Or.inr rfl)) _
  have keep : ∀ c L, c ≤ c9 → c ≠ c8 → RowAt W c L → RowAt (W1.setCell ⟨c8, 0, none⟩ wv') c L := fun c L hc hn hr => hr.turn ht2 (fun e => e.elim (hoff c hc) hn)
  refine ⟨⟨F, hC.stay h1 ⟨ht2.size, fun k hk => ht2.block k (hm k hk) (fun e => ?_)⟩, h2, h3.trans (ht2.below h3.size fun k e => ?_), fun k hk => ?_⟩, keep c5 _ (by omega) (by omega) h.r5, keep c7 _ (by omega) (by omega) h.r7, (h.r8.turn ht (hoff c8 (by omega))).put 0 _ _ rfl, keep c9 _ (by omega) (by omega) h.r9, keep m _ (by omega) (by omega) h.gat, ho1.same (fun k e => Below.heap_setCell _ _ _ _ (show k ≠ c8 from by have := hwn k e; omega)), ho, hwn⟩
  · rcases e with e | e
    · exact (h4 k (by simp [e])).2 hk
    · exact (h4 k (by simp [e])).2 hk
  · rcases e with e | e
    · exact (h.own.ge e).1
    · omega
  · have hsz := ht2.size
    by_cases hkw : wv'.ownBlock = some k
    · rcases hw with q | q
      · exact ⟨Nat.lt_of_lt_of_le (h4 k (by rw [q] at hkw; simp [hkw])).1 hsz, (h4 k (by rw [q] at hkw; simp [hkw])).2⟩
      · rw [q] at hkw
        cases hkw
        refine ⟨?_, fun hf => by have := hm _ hf; omega⟩
        have := (ho1.ge q).2
        simpa [World.setCell] using this
    · have := h4 k (by
        rcases hk with hk | hk | hk | hk | hk | hk | hk
        · simp [hk]
        · simp [hk]
        · simp [hk]
        · simp [hk]
        · simp [hk]
        · exact absurd hk hkw
        · simp [hk])
      exact ⟨Nat.lt_of_lt_of_le this.1 hsz, this.2⟩
omit hC in
/-- what was put, amid an append -/
theorem ThAt.row8 {W1 : World} (h : ThAt B w n1 q m c5 c7 c8 c9 want got b g wv K W) (hgr : W.grownBy W1 wv.ownBlock) : RowAt W1 c8 [wv] :=
  h.r8.block (hgr.block c8 h.r8.lt (fun e => by have := h.wn c8 e.symm; have := h.ord; omega)) hgr.size
/-- the boxes just laid -/
theorem th_made {w3 : World} (h : BoO B w q n1 noB (fun _ => False) w3) (T5 Tm T7 T8 T9 : TypeId) :
    ThAt B w n1 q (w3.heap.size + 1) w3.heap.size (w3.heap.size + 1 + 1) (w3.heap.size + 1 + 1 + 1) (w3.heap.size + 1 + 1 + 1 + 1) [] 0 noB zeroG (.slice none 0 0) (fun _ => False)
      (((((w3.alloc (.cells #[ptrB q] T5)).alloc (.cells #[.int .i64 0, .int .i64 0, .string ⟨#[]⟩] Tm)).alloc (.cells #[ptrB (w3.heap.size + 1)] T7)).alloc (.cells #[.slice none 0 0] T8)).alloc (.cells #[.int .i64 0] T9)) := by
  have hs := h.bel.size
  have b1 := (Below.refl w3.heap.size w3).alloc (Nat.le_refl _) (.cells #[ptrB q] T5)
  have b2 := b1.alloc b1.size (.cells #[.int .i64 0, .int .i64 0, .string ⟨#[]⟩] Tm)
  have b3 := b2.alloc b2.size (.cells #[ptrB (w3.heap.size + 1)] T7)
  have b4 := b3.alloc b3.size (.cells #[.slice none 0 0] T8)
  have b5 := b4.alloc b4.size (.cells #[.int .i64 0] T9)
  refine ⟨(h.grown hC b5).less fun k hk => Or.inr ?_, (((((RowAt.new w3 w3.heap.size rfl [ptrB q] T5).alloc _).alloc _).alloc _).alloc _), ((RowAt.new ((w3.alloc (.cells #[ptrB q] T5)).alloc (.cells #[.int .i64 0, .int .i64 0, .string ⟨#[]⟩] Tm)) (w3.heap.size + 1 + 1) (by simp) [ptrB (w3.heap.size + 1)] T7).alloc _).alloc _,
    (RowAt.new _ (w3.heap.size + 1 + 1 + 1) (by simp) [.slice none 0 0] T8).alloc _, RowAt.new _ (w3.heap.size + 1 + 1 + 1 + 1) (by simp) [.int .i64 0] T9,
    (((RowAt.new (w3.alloc (.cells #[ptrB q] T5)) (w3.heap.size + 1) (by simp) [.int .i64 0, .int .i64 0, .string ⟨#[]⟩] Tm).alloc _).alloc _).alloc _, OwnL.nil _ _ _ _, ⟨hs, by omega, by omega, by omega, by omega⟩, fun k e => by cases e⟩
  have hsz : (((((w3.alloc (.cells #[ptrB q] T5)).alloc (.cells #[.int .i64 0, .int .i64 0, .string ⟨#[]⟩] Tm)).alloc (.cells #[ptrB (w3.heap.size + 1)] T7)).alloc (.cells #[.slice none 0 0] T8)).alloc (.cells #[.int .i64 0] T9)).heap.size = w3.heap.size + 5 := by simp
  rw [hsz]
  rcases hk with rfl | rfl | rfl | rfl | rfl | e | e
  · omega
  · omega
  · omega
  · omega
  · omega
  · cases e
  · exact e.elim
end
end Go.Proofs.Ytchjljmcgjlkiaa
