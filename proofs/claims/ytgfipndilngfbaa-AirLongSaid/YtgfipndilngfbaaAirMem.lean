/-
How the landed air lies.
-/
import Derived.Test.YtgfipndilngfbaaAirMap
import Derived.Test.YtgfipndilngfbaaAirLaw
import Derived.Test.YtgfipndilngfbaaPlcHear
import Derived.Test.YtgfipndilngfbaaInts
namespace Go.Proofs.Ytgfipndilngfbaa
open Go.RowKit
set_option maxRecDepth 20000
abbrev OwnN15 (w : World) (B : Nat) (v : Value) (L : List Int) : Prop := OwnL encI 3 w B v L
/-- how a burst lies: at b, its takers, in these blocks -/
def BuL (w : World) (b : Nat) (B : Bu) (T : List Int) (G : Nat → Prop) : Prop :=
  ∃ fa fc tv, RowAt w b [.int .i64 B.lead, .int .i64 B.tail, .slice fa B.frames.length fc, .int .i64 B.went, tv] ∧ B.frames.length ≤ fc ∧ AtL encS w fa B.frames ∧ (∀ q, fa = some q → q.block < w.heap.size ∧ q.block ≠ b ∧ tv.ownBlock ≠ some q.block) ∧
    OwnN15 w 0 tv T ∧ tv.ownBlock ≠ some b ∧ G = fun k => k = b ∨ (∃ q, fa = some q ∧ q.block = k) ∨ tv.ownBlock = some k
structure BuOk (B : Bu) : Prop where
  lead : B.lead ≤ 255
  tail : B.tail ≤ 255
  many : B.frames.length ≤ 7
  size : ∀ f ∈ B.frames, f.size ≤ 333
  still : 0 < B.lead → B.went = 0
  over : B.frames = [] → B.went = 0
  went : ∀ f r, B.frames = f :: r → B.went < longN f
theorem BuOk.in_ {B : Bu} (h : BuOk B) : B.went ≤ sumL B.frames := by
  cases hf : B.frames with
  | nil => rw [h.over hf]; exact Nat.zero_le _
  | cons f r =>
    have := h.went f r hf
    unfold sumL
    rw [List.map_cons, List.sum_cons]
    omega
section
variable {w w' : World} {b : Nat} {B : Bu} {T : List Int} {G : Nat → Prop}
theorem BuL.mem (h : BuL w b B T G) : ∀ k, G k → k < w.heap.size := by
  obtain ⟨fa, fc, tv, h1, hc, h2, h3, h4, h5, rfl⟩ := h
  rintro k (rfl | ⟨q, hq, rfl⟩ | e)
  · exact h1.lt
  · exact (h3 q hq).1
  · exact (h4.ge e).2
theorem BuL.stay (h : BuL w b B T G) (hs : SameOn G w w') : BuL w' b B T G := by
  obtain ⟨fa, fc, tv, h1, hc, h2, h3, h4, h5, rfl⟩ := h
  exact ⟨fa, fc, tv, h1.block (hs.2 b (Or.inl rfl)) hs.1, hc, h2.same (fun q hq => hs.2 _ (Or.inr (Or.inl ⟨q, hq, rfl⟩))) hs.1, fun q hq => ⟨Nat.lt_of_lt_of_le (h3 q hq).1 hs.1, (h3 q hq).2⟩,
    h4.same (fun g e => hs.2 g (Or.inr (Or.inr e))), h5, rfl⟩
theorem BuL.self (h : BuL w b B T G) : G b := by
  obtain ⟨fa, fc, tv, -, -, -, -, -, -, rfl⟩ := h
  exact Or.inl rfl
end
/-- how it lies -/
structure AirAt (w : World) (a n : Nat) (H : Nat → Nat → Bool) (S : Ai) (p m hh : Nat) (Fp : Nat → Prop) (M : Nat → Option Nat) (G : Nat → Nat → Prop) (T : Nat → List Int) : Prop where
  row : RowAt w a [ptrV p, .map (some m), .map (some hh)]
  plane : PlH w p n H Fp
  on : OnM w m M
  said : NoneM w hh
  off : ∀ i, M i = none → S i = none ∧ ∀ k, ¬ G i k
  bu : ∀ i b, M i = some b → ∃ B, S i = some B ∧ (1 ≤ i ∧ i ≤ n) ∧ BuL w b B (T i) (G i) ∧ BuOk B
  am : a ≠ m
  ah : a ≠ hh
  mh : m ≠ hh
  ap : ¬ Fp a
  mp : ¬ Fp m
  hp : ¬ Fp hh
  ga : ∀ i k, G i k → k ≠ a ∧ k ≠ m ∧ k ≠ hh ∧ ¬ Fp k
  gg : ∀ i j k, i ≠ j → G i k → ¬ G j k
  many : 1 ≤ n ∧ n ≤ 16
/-- its blocks -/
def foot (a m hh : Nat) (Fp : Nat → Prop) (G : Nat → Nat → Prop) : Nat → Prop := fun k => k = a ∨ k = m ∨ k = hh ∨ Fp k ∨ ∃ i, G i k
/-- to whom it was clear -/
def takersL (n : Nat) (c : Nat → Bool) : List Int := (((List.range n).map (· + 1)).filter c).map fun (j : Nat) => (j : Int)
section
variable {w w' : World} {a n : Nat} {H : Nat → Nat → Bool} {S : Ai} {p m hh : Nat} {Fp : Nat → Prop} {M : Nat → Option Nat} {G : Nat → Nat → Prop} {T : Nat → List Int}
theorem AirAt.mem (h : AirAt w a n H S p m hh Fp M G T) : ∀ k, foot a m hh Fp G k → k < w.heap.size := by
  rintro k (rfl | rfl | rfl | hk | ⟨i, hk⟩)
  · exact h.row.lt
  · exact h.on.lt
  · exact h.said.lt
  · exact h.plane.mem k hk
  · cases hM : M i with
    | none => exact absurd hk ((h.off i hM).2 k)
    | some b =>
      obtain ⟨B, -, -, hb, -⟩ := h.bu i b hM
      exact hb.mem k hk
theorem AirAt.stay (h : AirAt w a n H S p m hh Fp M G T) (hs : SameOn (foot a m hh Fp G) w w') : AirAt w' a n H S p m hh Fp M G T where
  row := h.row.block (hs.2 a (Or.inl rfl)) hs.1
  plane := h.plane.stay ⟨hs.1, fun k hk => hs.2 k (Or.inr (Or.inr (Or.inr (Or.inl hk))))⟩
  on := h.on.same (hs.2 m (Or.inr (Or.inl rfl)))
  said := h.said.same (hs.2 hh (Or.inr (Or.inr (Or.inl rfl))))
  off := h.off
  bu := fun i b hM => by
    obtain ⟨B, h1, h2, h3, h4⟩ := h.bu i b hM
    exact ⟨B, h1, h2, h3.stay ⟨hs.1, fun k hk => hs.2 k (Or.inr (Or.inr (Or.inr (Or.inr ⟨i, hk⟩))))⟩, h4⟩
  am := h.am
  ah := h.ah
  mh := h.mh
  ap := h.ap
  mp := h.mp
  hp := h.hp
  ga := h.ga
  gg := h.gg
  many := h.many
theorem AirAt.below (h : AirAt w a n H S p m hh Fp M G T) (hb : Below w.heap.size w w') : AirAt w' a n H S p m hh Fp M G T := h.stay (SameOn.of_below hb h.mem)
theorem AirAt.isSome (h : AirAt w a n H S p m hh Fp M G T) (i : Nat) : (M i).isSome = (S i).isSome := by
  cases hM : M i with
  | none => rw [(h.off i hM).1]; rfl
  | some b =>
    obtain ⟨B, h1, -⟩ := h.bu i b hM
    rw [h1]; rfl
theorem AirAt.inside (h : AirAt w a n H S p m hh Fp M G T) (i : Nat) (hi : ¬ (1 ≤ i ∧ i ≤ n)) : M i = none := by
  cases hM : M i with
  | none => rfl
  | some b =>
    obtain ⟨B, h1, h2, -⟩ := h.bu i b hM
    exact absurd h2 hi
/-- one burst turns -/
theorem AirAt.turn (h : AirAt w a n H S p m hh Fp M G T) (i b : Nat) (hM : M i = some b) (ht : Turn (G i) w w') (B' : Bu) (T' : List Int) (G' : Nat → Prop) (hb : BuL w' b B' T' G') (hok : BuOk B') (hg : Grew (G i) G' w) :
    AirAt w' a n H (fun k => if k = i then some B' else S k) p m hh Fp M (fun k => if k = i then G' else G k) (fun k => if k = i then T' else T k) := by
  have hgi : ∀ k, G i k → k ≠ a ∧ k ≠ m ∧ k ≠ hh ∧ ¬ Fp k := fun k => h.ga i k
  have hsa : ∀ k, k < w.heap.size → ¬ G i k → w'.heap[k]? = w.heap[k]? := ht.block
  have hmem := h.mem
  refine ⟨h.row.block (hsa a h.row.lt fun e => (hgi a e).1 rfl) ht.size, h.plane.stay ⟨ht.size, fun k hk => hsa k (h.plane.mem k hk) fun e => (hgi k e).2.2.2 hk⟩, h.on.same (hsa m h.on.lt fun e => (hgi m e).2.1 rfl),
    h.said.same (hsa hh h.said.lt fun e => (hgi hh e).2.2.1 rfl), fun k hk => ?_, fun k c hk => ?_, h.am, h.ah, h.mh, h.ap, h.mp, h.hp, fun k x hx => ?_, fun k l x hkl hx hy => ?_, h.many⟩
  · have hki : k ≠ i := fun e => by rw [e, hM] at hk; cases hk
    simp only [if_neg hki]
    exact h.off k hk
  · by_cases hki : k = i
    · subst hki
      obtain rfl : b = c := by rw [hM] at hk; exact Option.some.inj hk
      obtain ⟨B, -, h2, -⟩ := h.bu k b hM
      simp only [if_pos]
      exact ⟨B', rfl, h2, hb, hok⟩
    · simp only [if_neg hki]
      obtain ⟨B, h1, h2, h3, h4⟩ := h.bu k c hk
      exact ⟨B, h1, h2, h3.stay ⟨ht.size, fun x hx => hsa x (h3.mem x hx) fun e => h.gg i k x (fun e => hki e.symm) e hx⟩, h4⟩
  · by_cases hki : k = i
    · subst hki
      simp only [if_pos] at hx
      rcases hg x hx with hx | hx
      · exact h.ga k x hx
      · have e1 := h.row.lt
        have e2 := h.on.lt
        have e3 := h.said.lt
        exact ⟨by omega, by omega, by omega, fun e => by have := h.plane.mem x e; omega⟩
    · simp only [if_neg hki] at hx
      exact h.ga k x hx
  · by_cases hki : k = i
    · subst hki
      have hlk : l ≠ k := fun e => hkl e.symm
      simp only [if_pos] at hx
      simp only [if_neg hlk] at hy
      rcases hg x hx with hx | hx
      · exact h.gg k l x hkl hx hy
      · have := hmem x (Or.inr (Or.inr (Or.inr (Or.inr ⟨l, hy⟩))))
        omega
    · simp only [if_neg hki] at hx
      by_cases hli : l = i
      · subst hli
        simp only [if_pos] at hy
        rcases hg x hy with hy | hy
        · exact h.gg k l x hkl hx hy
        · have := hmem x (Or.inr (Or.inr (Or.inr (Or.inr ⟨k, hx⟩))))
          omega
      · simp only [if_neg hli] at hy
        exact h.gg k l x hkl hx hy
/-- the map is written: one is off -/
theorem AirAt.del (h : AirAt w a n H S p m hh Fp M G T) (i : Nat) (ho : OnM w' m (fun k => if k = i then none else M k)) (ht : Turn (fun k => k = m) w w') :
    AirAt w' a n H (fun k => if k = i then none else S k) p m hh Fp (fun k => if k = i then none else M k) (fun k x => k ≠ i ∧ G k x) T := by
  have hsa : ∀ k, k < w.heap.size → k ≠ m → w'.heap[k]? = w.heap[k]? := ht.block
  refine ⟨h.row.block (hsa a h.row.lt h.am) ht.size, h.plane.stay ⟨ht.size, fun k hk => hsa k (h.plane.mem k hk) fun e => h.mp (e ▸ hk)⟩, ho, h.said.same (hsa hh h.said.lt fun e => h.mh e.symm), fun k hk => ?_, fun k c hk => ?_, h.am, h.ah, h.mh, h.ap, h.mp, h.hp,
    fun k x hx => h.ga k x hx.2, fun k l x hkl hx hy => h.gg k l x hkl hx.2 hy.2, h.many⟩
  · by_cases hki : k = i
    · subst hki
      simp
    · simp only [if_neg hki] at hk ⊢
      obtain ⟨h1, h2⟩ := h.off k hk
      exact ⟨h1, fun x hx => h2 x hx.2⟩
  · by_cases hki : k = i
    · subst hki
      simp at hk
    · simp only [if_neg hki] at hk ⊢
      obtain ⟨B, h1, h2, h3, h4⟩ := h.bu k c hk
      have e : (fun x => k ≠ i ∧ G k x) = G k := by
        funext x
        simp [hki]
      rw [e]
      exact ⟨B, h1, h2, h3.stay ⟨ht.size, fun x hx => hsa x (h3.mem x hx) fun e => (h.ga k x hx).2.1 e⟩, h4⟩
/-- the map is written: one more is on -/
theorem AirAt.put (h : AirAt w a n H S p m hh Fp M G T) (i b : Nat) (hi : 1 ≤ i ∧ i ≤ n) (hM : M i = none) (ho : OnM w' m (fun k => if k = i then some b else M k)) (ht : Turn (fun k => k = m) w w') (B' : Bu) (T' : List Int) (G' : Nat → Prop) (hb : BuL w' b B' T' G') (hok : BuOk B') (N : Nat) (hN : ∀ k, foot a m hh Fp G k → k < N) (hg : ∀ k, G' k → N ≤ k) :
    AirAt w' a n H (fun k => if k = i then some B' else S k) p m hh Fp (fun k => if k = i then some b else M k) (fun k => if k = i then G' else G k) (fun k => if k = i then T' else T k) := by
  have hsa : ∀ k, k < w.heap.size → k ≠ m → w'.heap[k]? = w.heap[k]? := ht.block
  have hmem := hN
  have e1 := hN a (Or.inl rfl)
  have e2 := hN m (Or.inr (Or.inl rfl))
  have e3 := hN hh (Or.inr (Or.inr (Or.inl rfl)))
  refine ⟨h.row.block (hsa a h.row.lt h.am) ht.size, h.plane.stay ⟨ht.size, fun k hk => hsa k (h.plane.mem k hk) fun e => h.mp (e ▸ hk)⟩, ho, h.said.same (hsa hh h.said.lt fun e => h.mh e.symm), fun k hk => ?_, fun k c hk => ?_, h.am, h.ah, h.mh, h.ap, h.mp, h.hp, fun k x hx => ?_, fun k l x hkl hx hy => ?_, h.many⟩
  · by_cases hki : k = i
    · subst hki
      simp at hk
    · simp only [if_neg hki] at hk ⊢
      exact h.off k hk
  · by_cases hki : k = i
    · subst hki
      simp only [if_pos, Option.some.injEq] at hk ⊢
      subst hk
      exact ⟨B', rfl, hi, hb, hok⟩
    · simp only [if_neg hki] at hk ⊢
      obtain ⟨B, h1, h2, h3, h4⟩ := h.bu k c hk
      exact ⟨B, h1, h2, h3.stay ⟨ht.size, fun x hx => hsa x (h3.mem x hx) fun e => (h.ga k x hx).2.1 e⟩, h4⟩
  · by_cases hki : k = i
    · subst hki
      simp only [if_pos] at hx
      have := hg x hx
      exact ⟨by omega, by omega, by omega, fun e => by have := hN x (Or.inr (Or.inr (Or.inr (Or.inl e)))); omega⟩
    · simp only [if_neg hki] at hx
      exact h.ga k x hx
  · by_cases hki : k = i
    · subst hki
      have hlk : l ≠ k := fun e => hkl e.symm
      simp only [if_pos] at hx
      simp only [if_neg hlk] at hy
      have := hg x hx
      have := hmem x (Or.inr (Or.inr (Or.inr (Or.inr ⟨l, hy⟩))))
      omega
    · simp only [if_neg hki] at hx
      by_cases hli : l = i
      · subst hli
        simp only [if_pos] at hy
        have := hg x hy
        have := hmem x (Or.inr (Or.inr (Or.inr (Or.inr ⟨k, hx⟩))))
        omega
      · simp only [if_neg hli] at hy
        exact h.gg k l x hkl hx hy
end
/-- the air, as contracts know it -/
def AirL : AirP := fun w a n H S F => ∃ p m hh Fp M G T, AirAt w a n H S p m hh Fp M G T ∧ (∀ i B, S i = some B → (0 < B.went → T i = takersL n B.clear) ∧ 0 < B.left) ∧ F = foot a m hh Fp G
theorem airL_mem {w a n H S F} (h : AirL w a n H S F) : ∀ b, F b → b < w.heap.size := by
  obtain ⟨p, m, hh, Fp, M, G, T, h1, -, rfl⟩ := h
  exact h1.mem
theorem airL_stay {w w' a n H S F} (h : AirL w a n H S F) (hs : SameOn F w w') : AirL w' a n H S F := by
  obtain ⟨p, m, hh, Fp, M, G, T, h1, h2, rfl⟩ := h
  exact ⟨p, m, hh, Fp, M, G, T, h1.stay hs, h2, rfl⟩
end Go.Proofs.Ytgfipndilngfbaa
