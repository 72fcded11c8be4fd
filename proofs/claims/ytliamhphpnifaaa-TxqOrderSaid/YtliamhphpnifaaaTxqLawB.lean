/-
A queue and the document's one, apart: each call turns one of them alone.
-/
import Derived.Test.YtliamhphpnifaaaTxqLaw
namespace Go.Proofs.Ytliamhphpnifaaa
open Go.RowKit
set_option maxRecDepth 20000
section
variable {Q : QuP} (hC : QuC Q) {w0 W W' : World} {q p : Nat} {S L : List Ent} {K : Nat → Prop}
include hC
theorem QuB.below (h : QuB Q w0 q p S L K W) (hb : Below W.heap.size W W') : QuB Q w0 q p S L K W' := by
  obtain ⟨F, F2, h1, h2, h3, h4, h5, h6, h7⟩ := h
  exact ⟨F, F2, hC.stay h1 (SameOn.of_below hb (hC.mem h1)), h2.below hb, h3, h4, h5, h6.trans (hb.mono h6.size), fun b hk => ⟨Nat.lt_of_lt_of_le (h7 b hk).1 hb.size, (h7 b hk).2⟩⟩
theorem QuB.alloc (h : QuB Q w0 q p S L K W) (o : Obj) : QuB Q w0 q p S L (fun b => K b ∨ b = W.heap.size) (W.alloc o) := by
  have hb := (Below.refl W.heap.size W).alloc (Nat.le_refl _) o
  obtain ⟨F, F2, h1, h2, h3, h4, h5, h6, h7⟩ := h
  refine ⟨F, F2, hC.stay h1 (SameOn.of_below hb (hC.mem h1)), h2.below hb, h3, h4, h5, h6.trans (hb.mono h6.size), fun b hk => ?_⟩
  rcases hk with hk | rfl
  · exact ⟨Nat.lt_of_lt_of_le (h7 b hk).1 hb.size, (h7 b hk).2⟩
  · exact ⟨by simp, fun hf => by have := hC.mem h1 _ hf; omega, fun hf => by have := h2.mem _ hf; omega⟩
omit hC in
theorem QuB.bel (h : QuB Q w0 q p S L K W) : Below w0.heap.size w0 W := by
  obtain ⟨F, F2, h1, h2, h3, h4, h5, h6, h7⟩ := h
  exact h6
omit hC in
theorem QuB.less {K' : Nat → Prop} (h : QuB Q w0 q p S L K W) (hK : ∀ b, K' b → K b) : QuB Q w0 q p S L K' W := by
  obtain ⟨F, F2, h1, h2, h3, h4, h5, h6, h7⟩ := h
  exact ⟨F, F2, h1, h2, h3, h4, h5, h6, fun b hk => h7 b (hK b hk)⟩
theorem QuB.inv (h : QuB Q w0 q p S L K W) : SOk S := by
  obtain ⟨F, F2, h1, -⟩ := h
  exact hC.inv h1
omit hC in
/-- the landed one turns -/
theorem QuB.turn1 {F F' F2 : Nat → Prop} {S' : List Ent} (_h1 : Q W q S F) (h2 : RqL W p L F2) (h3 : ∀ b, F b → w0.heap.size ≤ b) (h4 : ∀ b, F2 b → w0.heap.size ≤ b) (h5 : ∀ b, F b → ¬ F2 b) (h6 : Below w0.heap.size w0 W) (h7 : ∀ b, K b → b < W.heap.size ∧ ¬ F b ∧ ¬ F2 b) (hq : Q W' q S' F') (ht : Turn F W W') (hg : Grew F F' W) :
    QuB Q w0 q p S' L K W' ∧ SameOn K W W' ∧ Turn F W W' := by
  refine ⟨⟨F', F2, hq, h2.stay ⟨ht.size, fun b hb => ht.block b (h2.mem b hb) fun hf => h5 b hf hb⟩, hg.ge h3 h6.size, h4, fun b hf hb => ?_, h6.trans (ht.below h6.size h3), fun b hk => ⟨Nat.lt_of_lt_of_le (h7 b hk).1 ht.size, fun hf => ?_, (h7 b hk).2.2⟩⟩, ⟨ht.size, fun b hk => ht.block b (h7 b hk).1 (h7 b hk).2.1⟩, ht⟩
  · rcases hg b hf with q' | q'
    · exact h5 b q' hb
    · have := h2.mem b hb
      omega
  · rcases hg b hf with q' | q'
    · exact (h7 b hk).2.1 q'
    · have := (h7 b hk).1
      omega
/-- the document's turns -/
theorem QuB.turn2 {F F2 F2' : Nat → Prop} {L' : List Ent} (h1 : Q W q S F) (_h2 : RqL W p L F2) (h3 : ∀ b, F b → w0.heap.size ≤ b) (h4 : ∀ b, F2 b → w0.heap.size ≤ b) (h5 : ∀ b, F b → ¬ F2 b) (h6 : Below w0.heap.size w0 W) (h7 : ∀ b, K b → b < W.heap.size ∧ ¬ F b ∧ ¬ F2 b) (hq : RqL W' p L' F2') (ht : Turn F2 W W') (hg : Grew F2 F2' W) :
    QuB Q w0 q p S L' K W' ∧ SameOn K W W' := by
  have hm := hC.mem h1
  refine ⟨⟨F, F2', hC.stay h1 ⟨ht.size, fun b hb => ht.block b (hm b hb) (h5 b hb)⟩, hq, h3, hg.ge h4 h6.size, fun b hf hb => ?_, h6.trans (ht.below h6.size h4), fun b hk => ⟨Nat.lt_of_lt_of_le (h7 b hk).1 ht.size, (h7 b hk).2.1, fun hf => ?_⟩⟩, ⟨ht.size, fun b hk => ht.block b (h7 b hk).1 (h7 b hk).2.2⟩⟩
  · rcases hg b hb with q' | q'
    · exact h5 b hf q'
    · have := hm b hf
      omega
  · rcases hg b hf with q' | q'
    · exact (h7 b hk).2.2 q'
    · have := (h7 b hk).1
      omega
theorem QuB.put1 (h : QuB Q w0 q p S L K W) (c k : Int) (f : ByteArray) (hf : f.size ≤ 1000) : Calls Try.prog 9 #[ptrQ q, .int .i64 c, .int .i64 k, .string f] W fun e w' => e = .returned (.int .i64 (putErr c f.size S)) ∧ QuB Q w0 q p (sortE (putE c k f S)) L K w' ∧ SameOn K W w' := by
  obtain ⟨F, F2, h1, h2, h3, h4, h5, h6, h7⟩ := h
  refine (hC.put W q S F c k f h1 hf).mono ?_
  rintro e w' ⟨F', rfl, q1, q2, q3⟩
  obtain ⟨z1, z2, -⟩ := QuB.turn1 h1 h2 h3 h4 h5 h6 h7 q1 q2 q3
  exact ⟨rfl, z1, z2⟩
theorem QuB.put2 (h : QuB Q w0 q p S L K W) (hl : L.length ≤ 1000) (c k : Int) (f : ByteArray) (hf : f.size ≤ 1000) : Calls Try.prog 10 #[ptrQ p, .int .i64 c, .int .i64 k, .string f] W fun e w' => e = .returned (.int .i64 (putErr c f.size L)) ∧ QuB Q w0 q p S (putE c k f L) K w' ∧ SameOn K W w' := by
  obtain ⟨F, F2, h1, h2, h3, h4, h5, h6, h7⟩ := h
  refine (rput_any c k f p L F2 W h2 hl hf).mono ?_
  rintro e w' ⟨F', rfl, q1, q2, q3⟩
  exact ⟨rfl, QuB.turn2 hC h1 h2 h3 h4 h5 h6 h7 q1 q2 q3⟩
theorem QuB.take1 (h : QuB Q w0 q p S L K W) (most bytes : Int) : Calls Try.prog 12 #[ptrQ q, .int .i64 most, .int .i64 bytes] W fun e w' => ∃ a c, e = .returned (.slice a (frs (S.take (takeN most bytes 0 0 S))).length c) ∧ AtL encS w' a (frs (S.take (takeN most bytes 0 0 S))) ∧
    QuB Q w0 q p (S.drop (takeN most bytes 0 0 S)) L (fun b => K b ∨ ∃ x, a = some x ∧ x.block = b) w' ∧ SameOn K W w' := by
  obtain ⟨F, F2, h1, h2, h3, h4, h5, h6, h7⟩ := h
  refine (hC.take W q S F most bytes h1).mono ?_
  rintro e w' ⟨F', v, rfl, q1, ⟨a, c, rfl, hA, hfr⟩, q2, q3⟩
  obtain ⟨⟨-, -, -, -, -, -, -, y6, -⟩, z5, -⟩ := QuB.turn1 h1 h2 h3 h4 h5 h6 h7 q1 q2 q3
  refine ⟨a, c, rfl, hA, ⟨F', F2, q1, h2.stay ⟨q2.size, fun b hb => q2.block b (h2.mem b hb) fun hf => h5 b hf hb⟩, q3.ge h3 h6.size, h4, fun b hf hb => ?_, y6, fun b hk => ?_⟩, z5⟩
  · rcases q3 b hf with q' | q'
    · exact h5 b q' hb
    · have := h2.mem b hb
      omega
  · rcases hk with hk | ⟨x, hx, rfl⟩
    · refine ⟨Nat.lt_of_lt_of_le (h7 b hk).1 q2.size, fun hf => ?_, (h7 b hk).2.2⟩
      rcases q3 b hf with q' | q'
      · exact (h7 b hk).2.1 q'
      · have := (h7 b hk).1
        omega
    · have := hfr x hx
      exact ⟨this.2.1, this.2.2, fun hf => by have := h2.mem _ hf; omega⟩
theorem QuB.take2 (h : QuB Q w0 q p S L K W) (hl : L.length ≤ 1000) (most bytes : Int) (hsz : ∀ e ∈ sortE L, e.fr.size ≤ 1000) (hsl : (sortE L).length ≤ 1000) : Calls Try.prog 13 #[ptrQ p, .int .i64 most, .int .i64 bytes] W fun e w' =>
    ∃ a c, e = .returned (.slice a (frs ((sortE L).take (takeN most bytes 0 0 (sortE L)))).length c) ∧ AtL encS w' a (frs ((sortE L).take (takeN most bytes 0 0 (sortE L)))) ∧ QuB Q w0 q p S ((sortE L).drop (takeN most bytes 0 0 (sortE L))) K w' ∧ SameOn K W w' := by
  obtain ⟨F, F2, h1, h2, h3, h4, h5, h6, h7⟩ := h
  refine (rtake_any most bytes p L F2 W h2 hl hsz hsl).mono ?_
  rintro e w' ⟨F', v, rfl, q0, q1, q2, q3⟩
  obtain ⟨a, c, rfl, hA⟩ := q0.see
  obtain ⟨z1, z2⟩ := QuB.turn2 hC h1 h2 h3 h4 h5 h6 h7 q1 q2 q3
  exact ⟨a, c, rfl, hA, z1, z2⟩
theorem QuB.drop1 (h : QuB Q w0 q p S L K W) (a : Option Addr) (n c : Nat) (Ks : List Int) (hn : Ks.length = n) (hl : n ≤ 1000) (hA : AtL encI W a Ks) (ha : ∀ x, a = some x → K x.block) : Calls Try.prog 15 #[ptrQ q, .slice a n c] W fun e w' =>
    e = .returned (.int .i64 (cntK Ks S : Nat)) ∧ QuB Q w0 q p (offK Ks S) L K w' ∧ SameOn K W w' := by
  obtain ⟨F, F2, h1, h2, h3, h4, h5, h6, h7⟩ := h
  refine (hC.drop W q S F a n c Ks h1 hn hl hA fun x hx => (h7 _ (ha x hx)).2.1).mono ?_
  rintro e w' ⟨F', rfl, q1, q2, q3⟩
  obtain ⟨z1, z2, -⟩ := QuB.turn1 h1 h2 h3 h4 h5 h6 h7 q1 q2 q3
  exact ⟨rfl, z1, z2⟩
theorem QuB.drop2 (h : QuB Q w0 q p S L K W) (hl : L.length ≤ 1000) (k : Int) : Calls Try.prog 14 #[ptrQ p, .int .i64 k] W fun e w' => e = .returned (.int .i64 (cntK [k] L : Nat)) ∧ QuB Q w0 q p S (offK [k] L) K w' ∧ SameOn K W w' := by
  obtain ⟨F, F2, h1, h2, h3, h4, h5, h6, h7⟩ := h
  refine (rdrop_any k p L F2 W h2 hl).mono ?_
  rintro e w' ⟨F', rfl, q1, q2, q3⟩
  exact ⟨rfl, QuB.turn2 hC h1 h2 h3 h4 h5 h6 h7 q1 q2 q3⟩
theorem QuB.count1 (h : QuB Q w0 q p S L K W) (k : Int) : Calls Try.prog 18 #[ptrQ q, .int .i64 k] W fun e w' => e = .returned (.int .i64 (cntK [k] S : Nat)) ∧ QuB Q w0 q p S L K w' ∧ Below W.heap.size W w' := by
  have hh := h
  obtain ⟨F, F2, h1, -⟩ := h
  refine (hC.count W q S F k h1).mono ?_
  rintro e w' ⟨rfl, hb⟩
  exact ⟨rfl, hh.below hC hb, hb⟩
theorem QuB.len1 (h : QuB Q w0 q p S L K W) : Calls Try.prog 17 #[ptrQ q] W fun e w' => e = .returned (.int .i64 (S.length : Nat)) ∧ QuB Q w0 q p S L K w' ∧ Below W.heap.size W w' := by
  have hh := h
  obtain ⟨F, F2, h1, -⟩ := h
  refine (hC.len W q S F h1).mono ?_
  rintro e w' ⟨rfl, hb⟩
  exact ⟨rfl, hh.below hC hb, hb⟩
theorem QuB.room1 (h : QuB Q w0 q p S L K W) (c : Int) : Calls Try.prog 22 #[ptrQ q, .int .i64 c] W fun e w' => e = .returned (.int .i64 (roomE c S)) ∧ QuB Q w0 q p S L K w' ∧ Below W.heap.size W w' := by
  have hh := h
  obtain ⟨F, F2, h1, -⟩ := h
  refine (hC.room W q S F c h1).mono ?_
  rintro e w' ⟨rfl, hb⟩
  exact ⟨rfl, hh.below hC hb, hb⟩
theorem QuB.all1 (h : QuB Q w0 q p S L K W) : Calls Try.prog 20 #[ptrQ q] W fun e w' => ∃ a c, e = .returned (.slice a S.length c) ∧ AtL encS w' a (frs S) ∧ QuB Q w0 q p S L K w' ∧ Below W.heap.size W w' := by
  have hh := h
  obtain ⟨F, F2, h1, -⟩ := h
  refine (hC.all W q S F h1).mono ?_
  rintro e w' ⟨a, c, rfl, hA, hb⟩
  exact ⟨a, c, rfl, hA, hh.below hC hb, hb⟩
omit hC in
/-- the document's own, as its walks want it -/
theorem QuB.ref (h : QuB Q w0 q p S L K W) : ∃ F2, RqL W p L F2 := by
  obtain ⟨F, F2, h1, h2, -⟩ := h
  exact ⟨F2, h2⟩
end
end Go.Proofs.Ytliamhphpnifaaa
