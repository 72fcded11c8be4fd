/-
Who hears whom on a plane, told once and for all: Hears of any two that are there; Len.
-/
import Derived.Test.YtgfipndilngfbaaPlcHears
namespace Go.Proofs.Ytgfipndilngfbaa
open Go.RowKit
set_option maxRecDepth 20000
set_option maxHeartbeats 1000000 in
theorem hears_self (p g : Nat) (L : List Stn) (D : DataW Unit) (F : Nat → Prop) (k : Nat) (i : Int) (hi : i = k + 1) (hk : k < L.length) (w : World) (h : PlL w p g L D F) :
    Calls Try.prog 36 #[.pointer (some ⟨p, 0, none⟩), .int .i64 i, .int .i64 i] w fun e w' => e = .returned (.bool false) ∧ Below w.heap.size w w' := by
  have h1 := there_yes L.length k i hi hk
  have HM := Lib.hid (RowAt.new w w.heap.size rfl [.int .i64 i, .int .i64 i] 3)
  have HP := Lib.hid (h.alloc (.cells #[.int .i64 i, .int .i64 i] 3))
  have HB := Lib.hid ((Below.refl _ w).alloc (Nat.le_refl _) (.cells #[.int .i64 i, .int .i64 i] 3))
  obtain ⟨c, b, x0, -, -⟩ := HP.out.cells
  have HT := Lib.hid (fun W hp hm => there_two p w.heap.size L.length (some ⟨g, 0, none⟩) c i i W hp hm)
  rw [h1, show thereE (true && true) = 0 from rfl] at HT
  clear hi h h1
  go_enter Try.func36, Try.ntmps36
  go_wp2_with (go_at_call 30; (with_reducible refine (HT.out _ x0 HM.out).mono ?_); rintro e w1 ⟨rfl, rfl⟩)
  exact bodyPost_ret (v := .bool false) (by simp [results, Try.results36, go_sem]) rfl ⟨rfl, HB.out⟩
theorem len14 (p g : Nat) (L : List Stn) (D : DataW Unit) (F : Nat → Prop) (w : World) (h : PlL w p g L D F) : Calls Try.prog 26 #[.pointer (some ⟨p, 0, none⟩)] w fun e w' => e = .returned (.int .i64 L.length) ∧ w' = w := by
  obtain ⟨c, b, x0, -, -⟩ := h.cells
  clear h
  generalize L.length = n at *
  go_enter Try.func26, Try.ntmps26
  go_wp2
  exact bodyPost_ret (v := .int .i64 n) (by simp [results, Try.results26, go_sem]) rfl ⟨rfl, rfl⟩
theorem len14_nil (w : World) : Calls Try.prog 26 #[.pointer none] w fun e w' => e = .returned (.int .i64 0) ∧ w' = w := by
  go_enter Try.func26, Try.ntmps26
  go_wp2
  exact bodyPost_ret (v := .int .i64 0) (by simp [results, Try.results26, go_sem]) rfl ⟨rfl, rfl⟩
/-- where all stand, and how far they are heard, as the document allows -/
structure StOk (L : List Stn) (T : List Sta) : Prop where
  len : L.length = T.length
  most : T.length ≤ 16
  is : ∀ k (h : k < L.length) (h' : k < T.length), L[k].is T[k]
  ok : ∀ t ∈ T, t.x.natAbs ≤ 1000 ∧ t.y.natAbs ≤ 1000 ∧ 0 ≤ t.r ∧ t.r ≤ 4000
/-- who hears whom -/
def hearT (T : List Sta) (D : DataW Unit) (i j : Nat) : Bool :=
  match T[i - 1]?, T[j - 1]? with
  | some s, some t => decide (i ≠ j) && hearsB D i j s.x s.y t.x t.y t.r
  | _, _ => false
/-- a plane of n stations on which they hear each other so -/
def PlH (w : World) (p n : Nat) (H : Nat → Nat → Bool) (F : Nat → Prop) : Prop := ∃ g L T D, PlL w p g L D F ∧ StOk L T ∧ L.length = n ∧ ∀ i j, 1 ≤ i → i ≤ n → 1 ≤ j → j ≤ n → H i j = hearT T D i j
section
variable {w w' : World} {p n : Nat} {H : Nat → Nat → Bool} {F : Nat → Prop}
theorem PlH.mem (h : PlH w p n H F) : ∀ b, F b → b < w.heap.size := by
  obtain ⟨g, L, T, D, h1, -⟩ := h
  exact h1.mem
theorem PlH.stay (h : PlH w p n H F) (hs : SameOn F w w') : PlH w' p n H F := by
  obtain ⟨g, L, T, D, h1, h2⟩ := h
  exact ⟨g, L, T, D, h1.stay hs, h2⟩
theorem PlH.below (h : PlH w p n H F) (hb : Below w.heap.size w w') : PlH w' p n H F := h.stay (SameOn.of_below hb h.mem)
theorem PlH.hears (h : PlH w p n H F) (i j : Nat) (hi : 1 ≤ i ∧ i ≤ n) (hj : 1 ≤ j ∧ j ≤ n) : Calls Try.prog 36 #[.pointer (some ⟨p, 0, none⟩), .int .i64 i, .int .i64 j] w fun e w' => e = .returned (.bool (H i j)) ∧ Below w.heap.size w w' := by
  obtain ⟨g, L, T, D, h1, h2, hl, h3⟩ := h
  have hTl := h2.len
  have ti : T[i - 1]? = some (T[i - 1]'(by omega)) := List.getElem?_eq_getElem (by omega)
  have tj : T[j - 1]? = some (T[j - 1]'(by omega)) := List.getElem?_eq_getElem (by omega)
  have e : H i j = (decide (i ≠ j) && hearsB D i j (T[i - 1]'(by omega)).x (T[i - 1]'(by omega)).y (T[j - 1]'(by omega)).x (T[j - 1]'(by omega)).y (T[j - 1]'(by omega)).r) := by
    rw [h3 i j hi.1 hi.2 hj.1 hj.2]
    unfold hearT
    rw [ti, tj]
  rw [e]
  by_cases hij : i = j
  · subst hij
    rw [decide_eq_false (fun q => q rfl), Bool.false_and]
    exact hears_self p g L D F (i - 1) i (by omega) (by omega) w h1
  · rw [decide_eq_true hij, Bool.true_and]
    obtain ⟨a1, a2, -, -⟩ := h2.ok (T[i - 1]'(by omega)) (List.getElem_mem _)
    obtain ⟨b1, b2, b3, b4⟩ := h2.ok (T[j - 1]'(by omega)) (List.getElem_mem _)
    exact hears_yes p g L D F (i - 1) (j - 1) i j (by omega) (by omega) (by omega) (by omega) (by omega) (by have := h2.most; omega) _ _ (T[i - 1]'(by omega)).r _ _ _ (h2.is (i - 1) (by omega) (by omega)) (h2.is (j - 1) (by omega) (by omega)) a1 a2 b1 b2 ⟨b3, b4⟩ w h1
theorem PlH.len (h : PlH w p n H F) : Calls Try.prog 26 #[.pointer (some ⟨p, 0, none⟩)] w fun e w' => e = .returned (.int .i64 n) ∧ w' = w := by
  obtain ⟨g, L, T, D, h1, h2, rfl, h3⟩ := h
  exact len14 p g L D F w h1
end
/-- stations side by side, each heard by all -/
theorem PlH.full {w : World} {p g n : Nat} {L : List Stn} {F : Nat → Prop} (h : PlL w p g L (.map []) F) (hl : L.length = n) (hn : n ≤ 16) (hs : ∀ j (hj : j < L.length), L[j].is ⟨(j : Int) + 1, 0, 100⟩) :
    PlH w p n (fun j i => decide (1 ≤ j ∧ j ≤ n ∧ 1 ≤ i ∧ i ≤ n ∧ j ≠ i)) F := by
  refine ⟨g, L, (List.range n).map (fun (j : Nat) => (⟨(j : Int) + 1, 0, 100⟩ : Sta)), .map [], h, ⟨by simp [hl], by simpa using hn, fun k hk hk' => by simpa using hs k hk, fun t ht => ?_⟩, hl, fun i j hi hi' hj hj' => ?_⟩
  · obtain ⟨j, hj, rfl⟩ := List.mem_map.1 ht
    rw [List.mem_range] at hj
    dsimp only
    omega
  · unfold hearT
    have ei : ((List.range n).map (fun (j : Nat) => (⟨(j : Int) + 1, 0, 100⟩ : Sta)))[i - 1]? = some ⟨((i - 1 : Nat) : Int) + 1, 0, 100⟩ := by
      rw [List.getElem?_map, List.getElem?_range (by omega)]
      rfl
    have ej : ((List.range n).map (fun (j : Nat) => (⟨(j : Int) + 1, 0, 100⟩ : Sta)))[j - 1]? = some ⟨((j - 1 : Nat) : Int) + 1, 0, 100⟩ := by
      rw [List.getElem?_map, List.getElem?_range (by omega)]
      rfl
    rw [ei, ej]
    dsimp only
    have hf : hearsB (.map []) (i : Int) (j : Int) (((i - 1 : Nat) : Int) + 1) 0 (((j - 1 : Nat) : Int) + 1) 0 100 = true := by
      unfold hearsB farN
      have h1 : Maps.has (DataW.map (H := Unit) []) (keyWay (j : Int) (i : Int)) = false := rfl
      rw [h1, (inP_iff (((i - 1 : Nat) : Int) + 1) 0).2 ⟨by omega, by decide⟩, (inP_iff (((j - 1 : Nat) : Int) + 1) 0).2 ⟨by omega, by decide⟩]
      have hsq : ∀ z : Int, -15 ≤ z → z ≤ 15 → z * z ≤ 225 := fun z h1 h2 => by
        have e : (z * z).natAbs = z.natAbs * z.natAbs := Int.natAbs_mul z z
        have : z.natAbs * z.natAbs ≤ 15 * 15 := Nat.mul_le_mul (by omega) (by omega)
        omega
      have := hsq (((i - 1 : Nat) : Int) + 1 - (((j - 1 : Nat) : Int) + 1)) (by omega) (by omega)
      simp only [Bool.and_self, if_true, Bool.not_false, Bool.true_and]
      apply decide_eq_true
      omega
    rw [hf, Bool.and_true, decide_eq_decide]
    omega
end Go.Proofs.Ytgfipndilngfbaa
