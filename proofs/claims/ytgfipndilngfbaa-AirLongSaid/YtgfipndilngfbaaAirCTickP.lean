/-
What the landed air's Tick holds, round by round.
-/
import Derived.Test.YtgfipndilngfbaaAirCSoundW
import Derived.Test.YtgfipndilngfbaaAirCPass
import Derived.Deep.AppendSrc
namespace Go.Proofs.Ytgfipndilngfbaa
open Go.RowKit
set_option maxRecDepth 20000
/-- an append of nothing -/
theorem append_nil15 (w : World) (ty : TypeId) (v : Value) (B : Nat) (L : List Gt) (h : OwnL encG 37 w B v L) : (Builtin.append_ #[34, 34] ty #[v, .slice none 0 0]).run Try.prog w = .ok v w := by
  rcases h.2 with ⟨rfl, h0⟩ | ⟨g, c, cur, rfl, hb, hg, hc, -⟩
  · kernel_rfl
  · obtain ⟨i0, hi0, -⟩ := info_parts infoG15
    have := run_append_room_src (P := Try.prog) w 34 34 ty 37 i0 Try.underlying34 hi0 g 0 L.length c (.slice none 0 0) 0 [] (Src.ofNil w Try.underlying34 0) (by omega) (fun j hj => absurd hj (Nat.not_lt_zero _)) (fun j hj => absurd hj (Nat.not_lt_zero _))
    exact this
/-- an append of some that the call owns -/
theorem append_gots15 (w : World) (ty : TypeId) (v u : Value) (B : Nat) (L M : List Gt) (h : OwnL encG 37 w B v L) (k : OwnL encG 37 w B u M) (hl : L.length + M.length ≤ 100000) (hB : B ≤ w.heap.size) :
    ∃ v' w', (Builtin.append_ #[34, 34] ty #[v, u]).run Try.prog w = .ok v' w' ∧ OwnL encG 37 w' B v' (L ++ M) ∧ w.grownBy w' v.ownBlock ∧ (v'.ownBlock = v.ownBlock ∨ v'.ownBlock = some w.heap.size) := by
  rcases k.2 with ⟨rfl, h0⟩ | ⟨g, c, cur, rfl, hb, hg, hc, -⟩
  · obtain rfl : M = [] := List.length_eq_zero_iff.1 h0
    exact ⟨v, w, append_nil15 w ty v B L h, by rw [List.append_nil]; exact h, grown_refl _ _, Or.inl rfl⟩
  · obtain ⟨v', w', h1, h2, h3, h4⟩ := run_append_more encG 37 34 ty Try.underlying34 infoG15 rfl (by decide) w B v L h ⟨g, 0, none⟩ c M (World.ownsRow.cells k (g := g) rfl) hl hB
    exact ⟨v', w', h1, h2, h3, h4⟩
/-- sound, of any burst that sends -/
theorem csound15 {w : World} {a n : Nat} {H : Nat → Nat → Bool} {S : Ai} {p m hh : Nat} {Fp : Nat → Prop} {M : Nat → Option Nat} {G : Nat → Nat → Prop} {T : Nat → List Int} (h : AirAt w a n H S p m hh Fp M G T) (i b : Nat) (B : Bu) (hM : M i = some b) (hS : S i = some B) (hs : sendB B = true) (hT : 0 < B.went → T i = takersL n B.clear) :
    Calls Try.prog 28 #[ptrV a, .int .i64 i, ptrV b] w (SoundTo w a n H S p m hh Fp M G T i (takersL n (clearB H n S i B)) (comesB H n S i B)) := by
  unfold sendB at hs
  rw [Bool.and_eq_true, decide_eq_true_eq, decide_eq_true_eq] at hs
  obtain ⟨hl, hk⟩ := hs
  cases hf : B.frames with
  | nil => rw [hf] at hk; exact absurd hk (Nat.lt_irrefl 0)
  | cons f r =>
    have e : comesB H n S i B = if B.went + 1 = longN f then gotsL i f (takersL n (clearB H n S i B)) else [] := by
      unfold comesB
      rw [if_neg (by omega), hf]
      dsimp only
      split
      · rw [gots_takers]
      · rfl
    rw [e]
    by_cases hd : B.went + 1 = longN f
    · rw [if_pos hd]
      by_cases hw : B.went = 0
      · exact csound_first_end h i b B f r hM hS hf hw hT (decide_eq_true hd) _ rfl
      · exact csound_next_end h i b B f r hM hS hf (by omega) hT (decide_eq_true hd) _ rfl
    · rw [if_neg hd]
      by_cases hw : B.went = 0
      · exact csound_first_go h i b B f r hM hS hf hw hT (decide_eq_false hd) _ rfl
      · exact csound_next_go h i b B f r hM hS hf (by omega) hT (decide_eq_false hd) _ rfl
theorem comes_none (H : Nat → Nat → Bool) (n : Nat) (S : Ai) (i : Nat) (B : Bu) (hs : sendB B = false) : comesB H n S i B = [] := by
  unfold comesB
  by_cases hl : 0 < B.lead
  · rw [if_pos hl]
  · rw [if_neg hl]
    cases hf : B.frames with
    | nil => rfl
    | cons f r =>
      unfold sendB at hs
      rw [hf, decide_eq_true (show B.lead = 0 by omega), Bool.true_and, decide_eq_false_iff_not, List.length_cons] at hs
      omega
theorem comes_le (H : Nat → Nat → Bool) (n : Nat) (S : Ai) (i : Nat) (B : Bu) : (comesB H n S i B).length ≤ n := by
  unfold comesB
  split
  · exact Nat.zero_le _
  · split
    · exact Nat.zero_le _
    · split
      · rw [List.length_map]
        refine Nat.le_trans (List.length_filter_le _ _) ?_
        simp
      · exact Nat.zero_le _
/-- what is told of the first k -/
def toldK (H : Nat → Nat → Bool) (n : Nat) (S : Ai) (k : Nat) : List Gt := (List.range k).flatMap fun j => match S (j + 1) with
  | none => []
  | some b => comesB H n S (j + 1) b
theorem told_none (H : Nat → Nat → Bool) (n : Nat) (S : Ai) (k : Nat) (hS : S (k + 1) = none) : toldK H n S (k + 1) = toldK H n S k := by
  unfold toldK
  rw [List.range_succ, List.flatMap_append, List.flatMap_singleton]
  simp only [hS, List.append_nil]
theorem told_some (H : Nat → Nat → Bool) (n : Nat) (S : Ai) (k : Nat) (B : Bu) (hS : S (k + 1) = some B) : toldK H n S (k + 1) = toldK H n S k ++ comesB H n S (k + 1) B := by
  unfold toldK
  rw [List.range_succ, List.flatMap_append, List.flatMap_singleton]
  simp only [hS]
theorem told_le (H : Nat → Nat → Bool) (n : Nat) (S : Ai) (hn : n ≤ 16) : ∀ k, (toldK H n S k).length ≤ 16 * k
  | 0 => by simp [toldK]
  | k + 1 => by
    have ih := told_le H n S hn k
    cases hS : S (k + 1) with
    | none => rw [told_none H n S k hS]; omega
    | some B =>
      rw [told_some H n S k B hS, List.length_append]
      have := comes_le H n S (k + 1) B
      omega
/-- in the first loop: k are heard out -/
structure TiA (w : World) (a n : Nat) (H : Nat → Nat → Bool) (S : Ai) (p m hh : Nat) (Fp : Nat → Prop) (M : Nat → Option Nat) (G : Nat → Nat → Prop) (T : Nat → List Int) (k : Nat) (lv : Value) (G' : Nat → Nat → Prop) (T' : Nat → List Int) (W : World) : Prop where
  air : AirAt W a n H S p m hh Fp M G' T'
  rest : ∀ j, k < j → G' j = G j ∧ T' j = T j
  done : ∀ j B, j ≤ k → S j = some B → sendB B = true → T' j = takersL n (clearB H n S j B)
  turn : Turn (foot a m hh Fp G) w W
  grew : ∀ j, Grew (G j) (G' j) w
  told : OwnL encG 37 W w.heap.size lv (toldK H n S k)
  off : ∀ g, lv.ownBlock = some g → ∀ j, ¬ G' j g
section
variable {w W W1 W2 : World} {a n : Nat} {H : Nat → Nat → Bool} {S : Ai} {p m hh : Nat} {Fp : Nat → Prop} {M : Nat → Option Nat} {G : Nat → Nat → Prop} {T : Nat → List Int} {k : Nat} {lv v' : Value} {G' : Nat → Nat → Prop} {T' : Nat → List Int}
theorem TiA.none_ (h : TiA w a n H S p m hh Fp M G T k lv G' T' W) (hS : S (k + 1) = none) : TiA w a n H S p m hh Fp M G T (k + 1) lv G' T' W :=
  ⟨h.air, fun j hj => h.rest j (by omega), fun j B hj hB hs => by
    by_cases e : j = k + 1
    · rw [e, hS] at hB; cases hB
    · exact h.done j B (by omega) hB hs, h.turn, h.grew, by rw [told_none H n S k hS]; exact h.told, h.off⟩
theorem TiA.still (h : TiA w a n H S p m hh Fp M G T k lv G' T' W) (B : Bu) (hS : S (k + 1) = some B) (hn : sendB B = false) : TiA w a n H S p m hh Fp M G T (k + 1) lv G' T' W :=
  ⟨h.air, fun j hj => h.rest j (by omega), fun j B' hj hB hs => by
    by_cases e : j = k + 1
    · rw [e, hS] at hB
      cases hB
      rw [hn] at hs
      cases hs
    · exact h.done j B' (by omega) hB hs, h.turn, h.grew, by rw [told_some H n S k B hS, comes_none H n S (k + 1) B hn, List.append_nil]; exact h.told, h.off⟩
theorem TiA.sent (h : TiA w a n H S p m hh Fp M G T k lv G' T' W) (hlt : a < w.heap.size ∧ m < w.heap.size ∧ hh < w.heap.size ∧ ∀ y, Fp y → y < w.heap.size) (B : Bu) (hS : S (k + 1) = some B) {v : Value} {Gi : Nat → Prop}
    (ha : AirAt W1 a n H S p m hh Fp M (fun j => if j = k + 1 then Gi else G' j) (fun j => if j = k + 1 then takersL n (clearB H n S (k + 1) B) else T' j)) (ht : Turn (G' (k + 1)) W W1) (hg : Grew (G' (k + 1)) Gi W) (hv : OwnL encG 37 W1 W.heap.size v (comesB H n S (k + 1) B)) :
    OwnL encG 37 W1 w.heap.size lv (toldK H n S k) ∧ OwnL encG 37 W1 w.heap.size v (comesB H n S (k + 1) B) ∧ w.heap.size ≤ W1.heap.size ∧
    ∀ W2 v', OwnL encG 37 W2 w.heap.size v' (toldK H n S k ++ comesB H n S (k + 1) B) → W1.grownBy W2 lv.ownBlock → (v'.ownBlock = lv.ownBlock ∨ v'.ownBlock = some W1.heap.size) →
      TiA w a n H S p m hh Fp M G T (k + 1) v' (fun j => if j = k + 1 then Gi else G' j) (fun j => if j = k + 1 then takersL n (clearB H n S (k + 1) B) else T' j) W2 := by
  have eG := (h.rest (k + 1) (Nat.lt_succ_self k)).1
  have hws : w.heap.size ≤ W.heap.size := h.turn.size
  have hlv : ∀ g, lv.ownBlock = some g → w.heap.size ≤ g ∧ g < W.heap.size := fun g e => h.told.ge e
  have h1 : OwnL encG 37 W1 w.heap.size lv (toldK H n S k) := h.told.turn ht fun g e => h.off g e (k + 1)
  refine ⟨h1, OwnL.base hv hws, Nat.le_trans hws ht.size, fun W2 v' ho hgr hvv => ?_⟩
  have hoff : ∀ g, lv.ownBlock = some g → ∀ j, ¬ (fun j => if j = k + 1 then Gi else G' j) j g := fun g e j => by
    by_cases hj : j = k + 1
    · simp only [if_pos hj]
      intro hh
      rcases hg g hh with q | q
      · exact h.off g e (k + 1) q
      · have := (hlv g e).2; omega
    · simp only [if_neg hj]
      exact h.off g e j
  have hf : ∀ x, foot a m hh Fp (fun j => if j = k + 1 then Gi else G' j) x → lv.ownBlock ≠ some x := fun x hx e => by
    have hb := hlv x e
    obtain ⟨z1, z2, z3, z4⟩ := hlt
    rcases hx with hx | hx | hx | hx | ⟨j, hx⟩
    · omega
    · omega
    · omega
    · have := z4 x hx; omega
    · exact hoff x e j hx
  refine ⟨ha.stay ⟨hgr.size, fun x hx => hgr.block x (ha.mem x hx) fun e => hf x hx e.symm⟩, fun j hj => ?_, fun j B' hj hB hs => ?_, ?_, fun j => ?_, by rw [told_some H n S k B hS]; exact ho, fun g e j => ?_⟩
  · have hne : j ≠ k + 1 := by omega
    simp only [if_neg hne]
    exact h.rest j (by omega)
  · by_cases e : j = k + 1
    · subst e
      rw [hS] at hB
      cases hB
      simp only [if_pos]
    · simp only [if_neg e]
      exact h.done j B' (by omega) hB hs
  · have t1 : Turn (foot a m hh Fp G) w W1 := Turn.trans h.turn (ht.mono fun x hx => Or.inr (Or.inr (Or.inr (Or.inr ⟨k + 1, by rw [← eG]; exact hx⟩)))) (Grew.refl _ _)
    exact ⟨hgr.os.trans t1.os, hgr.tape.trans t1.tape, hgr.output.trans t1.output, Nat.le_trans t1.size hgr.size, fun x hx hF => (hgr.block x (Nat.lt_of_lt_of_le hx t1.size) fun e => by have := (hlv x e.symm).1; omega).trans (t1.block x hx hF)⟩
  · by_cases e : j = k + 1
    · subst e
      simp only [if_pos]
      intro x hx
      rcases hg x hx with q | q
      · exact Or.inl (by rw [← eG]; exact q)
      · exact Or.inr (Nat.le_trans hws q)
    · simp only [if_neg e]
      exact h.grew j
  · rcases hvv with q | q
    · exact hoff g (by rw [← q]; exact e) j
    · intro hx
      have := ha.mem g (Or.inr (Or.inr (Or.inr (Or.inr ⟨j, hx⟩))))
      rw [q] at e
      have := Option.some.inj e
      omega
end
/-- amid the second loop: k have gone on -/
def midS (H : Nat → Nat → Bool) (n : Nat) (S : Ai) (k : Nat) : Ai := fun j => if j ≤ k then tickS H n S j else S j
theorem mid_start (H : Nat → Nat → Bool) (n : Nat) (S : Ai) (h0 : S 0 = none) : midS H n S 0 = S := by
  funext j
  unfold midS
  by_cases e : j ≤ 0
  · obtain rfl : j = 0 := by omega
    rw [if_pos e]
    unfold tickS
    rw [h0]
    rfl
  · rw [if_neg e]
theorem mid_next (H : Nat → Nat → Bool) (n : Nat) (S : Ai) (k : Nat) : midS H n S (k + 1) = fun j => if j = k + 1 then tickS H n S (k + 1) else midS H n S k j := by
  funext j
  unfold midS
  by_cases e : j = k + 1
  · rw [if_pos (by omega), if_pos e, e]
  · rw [if_neg e]
    by_cases e2 : j ≤ k
    · rw [if_pos (by omega), if_pos e2]
    · rw [if_neg (by omega), if_neg e2]
theorem mid_end (H : Nat → Nat → Bool) (n : Nat) (S : Ai) (h : ∀ j, n < j → S j = none) : midS H n S n = tickS H n S := by
  funext j
  unfold midS
  by_cases e : j ≤ n
  · rw [if_pos e]
  · rw [if_neg e]
    unfold tickS
    rw [h j (by omega)]
    rfl
structure TiB (w : World) (a n : Nat) (H : Nat → Nat → Bool) (S : Ai) (p m hh : Nat) (Fp : Nat → Prop) (M : Nat → Option Nat) (G : Nat → Nat → Prop) (T' : Nat → List Int) (lv : Value) (k : Nat) (M' : Nat → Option Nat) (G' : Nat → Nat → Prop) (W : World) : Prop where
  air : AirAt W a n H (midS H n S k) p m hh Fp M' G' T'
  sub : ∀ j b, M' j = some b → M j = some b
  turn : Turn (foot a m hh Fp G) w W
  grew : ∀ j, Grew (G j) (G' j) w
  told : OwnL encG 37 W w.heap.size lv (toldS H n S)
section
variable {w W W1 W2 : World} {a n : Nat} {H : Nat → Nat → Bool} {S : Ai} {p m hh : Nat} {Fp : Nat → Prop} {M : Nat → Option Nat} {G : Nat → Nat → Prop} {T : Nat → List Int} {k : Nat} {lv : Value} {M' : Nat → Option Nat} {G' : Nat → Nat → Prop} {T' : Nat → List Int}
theorem TiB.none_ (h : TiB w a n H S p m hh Fp M G T' lv k M' G' W) (hS : S (k + 1) = none) : TiB w a n H S p m hh Fp M G T' lv (k + 1) M' G' W := by
  have e : midS H n S (k + 1) = midS H n S k := by
    rw [mid_next]
    funext j
    by_cases e : j = k + 1
    · rw [if_pos e, e]
      unfold midS tickS
      rw [hS, if_neg (by omega)]
      rfl
    · rw [if_neg e]
  exact ⟨by rw [e]; exact h.air, h.sub, h.turn, h.grew, h.told⟩
/-- one has gone on -/
theorem TiB.pass (h : TiB w a n H S p m hh Fp M G T' lv k M' G' W) (hA : AirAt w a n H S p m hh Fp M G T) (b : Nat) (B : Bu) (hM : M' (k + 1) = some b) (hok : BuOk B) (hb : BuL W1 b (stepB H n S (k + 1) B) (T' (k + 1)) (G' (k + 1))) (ht : Turn (fun x => x = b) W W1) :
    AirAt W1 a n H (fun j => if j = k + 1 then some (stepB H n S (k + 1) B) else midS H n S k j) p m hh Fp M' G' T' ∧ Turn (foot a m hh Fp G) w W1 ∧ OwnL encG 37 W1 w.heap.size lv (toldS H n S) := by
  obtain ⟨B0, -, -, hb0, -⟩ := h.air.bu (k + 1) b hM
  obtain ⟨B1, -, -, hb1, -⟩ := hA.bu (k + 1) b (h.sub _ _ hM)
  have hbw := hb1.mem b hb1.self
  have hair := h.air.turn (k + 1) b hM (ht.mono fun x hx => by rw [hx]; exact hb0.self) (stepB H n S (k + 1) B) (T' (k + 1)) (G' (k + 1)) hb (step_ok hok H n S (k + 1)) (Grew.refl _ _)
  have e1 : (fun j => if j = k + 1 then G' (k + 1) else G' j) = G' := by
    funext j
    by_cases e : j = k + 1
    · rw [if_pos e, e]
    · rw [if_neg e]
  have e2 : (fun j => if j = k + 1 then T' (k + 1) else T' j) = T' := by
    funext j
    by_cases e : j = k + 1
    · rw [if_pos e, e]
    · rw [if_neg e]
  rw [e1, e2] at hair
  exact ⟨hair, Turn.trans h.turn (ht.mono fun x hx => Or.inr (Or.inr (Or.inr (Or.inr ⟨k + 1, by rw [hx]; exact hb1.self⟩)))) (Grew.refl _ _), h.told.turn ht fun g e q => by
    have := (h.told.ge e).1
    omega⟩
theorem TiB.stays (h : TiB w a n H S p m hh Fp M G T' lv k M' G' W) (B : Bu) (hS : S (k + 1) = some B) (hl : (stepB H n S (k + 1) B).left ≠ 0)
    (hair : AirAt W1 a n H (fun j => if j = k + 1 then some (stepB H n S (k + 1) B) else midS H n S k j) p m hh Fp M' G' T') (ht : Turn (foot a m hh Fp G) w W1) (ho : OwnL encG 37 W1 w.heap.size lv (toldS H n S)) (hb : Below W1.heap.size W1 W2) :
    TiB w a n H S p m hh Fp M G T' lv (k + 1) M' G' W2 := by
  have e : midS H n S (k + 1) = fun j => if j = k + 1 then some (stepB H n S (k + 1) B) else midS H n S k j := by
    rw [mid_next]
    unfold tickS
    rw [hS]
    simp only [Option.bind, if_neg hl]
  exact ⟨by rw [e]; exact hair.below hb, h.sub, ht.then_ hb, h.grew, OwnL.below ho hb⟩
theorem TiB.goes (h : TiB w a n H S p m hh Fp M G T' lv k M' G' W) (hm : m < w.heap.size) (B : Bu) (hS : S (k + 1) = some B) (hl : (stepB H n S (k + 1) B).left = 0)
    (hair : AirAt W1 a n H (fun j => if j = k + 1 then some (stepB H n S (k + 1) B) else midS H n S k j) p m hh Fp M' G' T') (ht : Turn (foot a m hh Fp G) w W1) (ho : OwnL encG 37 W1 w.heap.size lv (toldS H n S))
    (hon : OnM W2 m (fun j => if j = k + 1 then none else M' j)) (hmt : W1.mapTurned W2 m) : TiB w a n H S p m hh Fp M G T' lv (k + 1) (fun j => if j = k + 1 then none else M' j) (fun j x => j ≠ k + 1 ∧ G' j x) W2 := by
  have e : midS H n S (k + 1) = fun j => if j = k + 1 then none else (fun j => if j = k + 1 then some (stepB H n S (k + 1) B) else midS H n S k j) j := by
    rw [mid_next]
    unfold tickS
    rw [hS]
    funext j
    by_cases q : j = k + 1
    · simp only [if_pos q, Option.bind, if_pos hl]
    · simp only [if_neg q]
  refine ⟨by rw [e]; exact hair.del (k + 1) hon (Turn.of_map hmt), fun j b hj => ?_, Turn.trans ht ((Turn.of_map hmt).mono fun x hx => Or.inr (Or.inl hx)) (Grew.refl _ _), fun j x hx => h.grew j x hx.2, ho.turn (Turn.of_map hmt) fun g e q => ?_⟩
  · by_cases q : j = k + 1
    · simp only [if_pos q] at hj
      cases hj
    · simp only [if_neg q] at hj
      exact h.sub j b hj
  · have := (ho.ge e).1
    omega
end
/-- what a tick leaves of one's clear -/
theorem step_clear (H : Nat → Nat → Bool) (n : Nat) (S : Ai) (i : Nat) (B : Bu) (hok : BuOk B) (h : 0 < (stepB H n S i B).went) : sendB B = true ∧ (stepB H n S i B).clear = clearB H n S i B := by
  unfold stepB at *
  by_cases hl : 0 < B.lead
  · rw [if_pos hl] at h
    have := hok.still hl
    dsimp only at h
    omega
  · rw [if_neg hl] at h ⊢
    cases hf : B.frames with
    | nil => rw [hf] at h; exact absurd h (Nat.lt_irrefl 0)
    | cons f r =>
      rw [hf] at h
      dsimp only at h ⊢
      by_cases hd : B.went + 1 = longN f
      · rw [if_pos hd] at h
        exact absurd h (Nat.lt_irrefl 0)
      · rw [if_neg hd]
        refine ⟨?_, rfl⟩
        unfold sendB
        rw [hf, decide_eq_true (show B.lead = 0 by omega), decide_eq_true (by simp)]
        rfl
end Go.Proofs.Ytgfipndilngfbaa
