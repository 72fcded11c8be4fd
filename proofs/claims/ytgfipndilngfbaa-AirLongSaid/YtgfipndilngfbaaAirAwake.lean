/-
The document's example, over a landed air that keeps its contracts.
-/
import Derived.Test.YtgfipndilngfbaaAirFresh
namespace Go.Proofs.Ytgfipndilngfbaa
open Go.RowKit
set_option maxRecDepth 20000
theorem crowd_none (n : Nat) (P : Nat → Bool) (fr : Nat → ByteArray) (hP : ∀ i, P i = false) : crowdS n P fr 0 = Ai.quiet := by
  funext i
  unfold crowdS
  rw [hP i]
  rfl
theorem crowd_put (n : Nat) (P P' : Nat → Bool) (fr : Nat → ByteArray) (i : Nat) (f : ByteArray) (hf : fr i = f) (hP : ∀ k, P' k = (decide (k = i) || P k)) : (crowdS n P fr 0).put i ⟨0, 0, [f], 0, noneC⟩ = crowdS n P' fr 0 := by
  subst hf
  funext k
  unfold Ai.put crowdS
  rw [hP k]
  have e : ∀ i, (fun j => decide (0 < 0) && clC n P i j) = noneC := fun i => by
    funext j
    rfl
  have e' : ∀ i, (fun j => decide (0 < 0) && clC n P' i j) = noneC := fun i => by
    funext j
    rfl
  rw [e, e']
  by_cases hk : k = i
  · subst hk
    rw [if_pos rfl, decide_eq_true rfl]
    rfl
  · rw [if_neg hk, decide_eq_false hk, Bool.false_or]
/-- a text just laid, as a slice of one -/
theorem see_one (w : World) (m : Nat) (hm : m = w.heap.size) (f : ByteArray) : SeeL encS (w.alloc (.cells #[.string f] 9)) (.slice (some ⟨m, 0, none⟩) 1 1) [f] :=
  ⟨_, 1, rfl, AtL.made encS 9 w m f [.string f] rfl hm⟩
theorem run_eq_got (W : World) : (Op.equalIn 10000 37 (.agg #[.int .i64 1, .int .i64 2, .string ⟨#[122]⟩, .bool false]) (.agg #[.int .i64 1, .int .i64 2, .string ⟨#[122]⟩, .bool false])).run Try.prog W = .ok true W := by kernel_rfl
def frA : Nat → ByteArray := fun i => if i = 1 then ⟨#[120]⟩ else ⟨#[121]⟩
def frZ : Nat → ByteArray := fun _ => ⟨#[122]⟩
set_option maxHeartbeats 4000000 in
theorem cawake15 {A : AirP} (hC : AirC A) (w : World) : Calls Try.prog 5 #[] w fun e w' => e = .returned (.bool true) ∧ Below w.heap.size w w' := by
  have HF := Lib.hid (fresh_any hC 2 2 rfl (by decide) w)
  -- the four states
  have p0 : crowdS 2 (fun _ => false) frA 0 = Ai.quiet := crowd_none 2 _ frA (fun _ => rfl)
  have p1 : Ai.quiet.put 1 ⟨0, 0, [⟨#[120]⟩], 0, noneC⟩ = crowdS 2 (fun k => decide (k = 1) || false) frA 0 := by rw [← p0]; exact crowd_put 2 _ _ frA 1 _ rfl (fun _ => rfl)
  have p2 : (crowdS 2 (fun k => decide (k = 1) || false) frA 0).put 2 ⟨0, 0, [⟨#[121]⟩], 0, noneC⟩ = crowdS 2 (fun k => decide (k = 2) || (decide (k = 1) || false)) frA 0 := crowd_put 2 _ _ frA 2 _ rfl (fun _ => rfl)
  obtain ⟨t1, t2⟩ := crowd_last 2 (fun k => decide (k = 2) || (decide (k = 1) || false)) frA 1 0 (fun i _ => by unfold frA; split <;> rfl) rfl
  rw [crowd_many 2 _ frA (by decide)] at t2
  have q0 : crowdS 2 (fun _ => false) frZ 0 = Ai.quiet := crowd_none 2 _ frZ (fun _ => rfl)
  have q1 : Ai.quiet.put 1 ⟨0, 0, [⟨#[122]⟩], 0, noneC⟩ = crowdS 2 (fun k => decide (k = 1) || false) frZ 0 := by rw [← q0]; exact crowd_put 2 _ _ frZ 1 _ rfl (fun _ => rfl)
  obtain ⟨t3, t4⟩ := crowd_last 2 (fun k => decide (k = 1) || false) frZ 1 0 (fun i _ => by unfold frZ; rfl) rfl
  rw [crowd_single 2 0 _ frZ (by decide) (fun k => by simp)] at t4
  have e4 : ((((List.range 2).map (· + 1)).filter fun j => decide (j ≠ 0 + 1)).map fun j => (⟨0 + 1, j, frZ (0 + 1)⟩ : Gt)) = [⟨1, 2, ⟨#[122]⟩⟩] := rfl
  rw [e4] at t4
  have HS1 := Lib.hid (fun a W v (h : AirO A w a 2 (fullH 2) Ai.quiet W) (hv : SeeL encS W v [⟨#[120]⟩]) => show Calls Try.prog 8 #[ptrV a, .int .i64 1, .int .i64 0, .int .i64 0, v] W _ from h.send hC 1 0 0 v _ (by decide) (by decide) (by decide) (by decide) (by simp; decide) hv rfl)
  rw [p1] at HS1
  have HS2 := Lib.hid (fun a W v (h : AirO A w a 2 (fullH 2) (crowdS 2 (fun k => decide (k = 1) || false) frA 0) W) (hv : SeeL encS W v [⟨#[121]⟩]) => show Calls Try.prog 8 #[ptrV a, .int .i64 2, .int .i64 0, .int .i64 0, v] W _ from h.send hC 2 0 0 v _ (by decide) (by decide) (by decide) (by decide) (by simp; decide) hv rfl)
  rw [p2] at HS2
  have HT1 := Lib.hid (fun a W (h : AirO A w a 2 (fullH 2) (crowdS 2 (fun k => decide (k = 2) || (decide (k = 1) || false)) frA 0) W) => h.tick hC)
  rw [t1, t2] at HT1
  have HS3 := Lib.hid (fun a W v (h : AirO A w a 2 (fullH 2) Ai.quiet W) (hv : SeeL encS W v [⟨#[122]⟩]) => show Calls Try.prog 8 #[ptrV a, .int .i64 1, .int .i64 0, .int .i64 0, v] W _ from h.send hC 1 0 0 v _ (by decide) (by decide) (by decide) (by decide) (by simp; decide) hv rfl)
  rw [q1] at HS3
  have HT2 := Lib.hid (fun a W (h : AirO A w a 2 (fullH 2) (crowdS 2 (fun k => decide (k = 1) || false) frZ 0) W) => h.tick hC)
  rw [t3, t4] at HT2
  have HQ := Lib.hid (fun a W (h : AirO A w a 2 (fullH 2) Ai.quiet W) => h.quiet hC)
  rw [show quietB 2 Ai.quiet = true from rfl] at HQ
  have HB := Lib.hid (fun a S W W' (h : AirO A w a 2 (fullH 2) S W) (hb : Below W.heap.size W W') => h.below hC hb)
  have HEQ := run_eq_got
  clear p0 p1 p2 q0 q1 t1 t2 t3 t4 e4
  go_enter Try.func5, Try.ntmps5
  go_upto_region 5 with (first
    | (go_at_call 7; (with_reducible refine HF.out.mono ?_); rintro e w1 ⟨a, p, q, rfl, hI⟩; have HI1 := Lib.hid hI; clear hI HF)
    | (go_at_call 8; (with_reducible refine (HS1.out _ _ _ (HB.out _ _ _ _ HI1.out ((Below.refl _ _).alloc (Nat.le_refl _) _)) (see_one _ _ rfl _)).mono ?_); rintro e w2 ⟨rfl, hI⟩; have HI2 := Lib.hid hI; clear hI HS1))
  go_upto_region 7 with (first
    | (go_at_call 8; (with_reducible refine (HS2.out _ _ _ (HB.out _ _ _ _ HI2.out ((Below.refl _ _).alloc (Nat.le_refl _) _)) (see_one _ _ rfl _)).mono ?_); rintro e w3 ⟨rfl, hI⟩; have HI3 := Lib.hid hI; clear hI HS2)
    | (go_at_call 12; (with_reducible refine (HT1.out _ _ HI3.out).mono ?_); rintro e w4 ⟨v, rfl, hI, hv⟩; obtain ⟨a1, c1, rfl, -⟩ := hv; have HI4 := Lib.hid hI; clear hI HT1))
  go_upto_region 9 with (first
    | (go_at_call 8; (with_reducible refine (HS3.out _ _ _ (HB.out _ _ _ _ HI4.out ((Below.refl _ _).alloc (Nat.le_refl _) _)) (see_one _ _ rfl _)).mono ?_); rintro e w5 ⟨rfl, hI⟩; have HI5 := Lib.hid hI; clear hI HS3)
    | (go_at_call 12; (with_reducible refine (HT2.out _ _ HI5.out).mono ?_); rintro e w6 ⟨v, rfl, hI, hv⟩; obtain ⟨a2, c2, rfl, hA⟩ := hv; have HI6 := Lib.hid hI; obtain ⟨g, o, rfl, -⟩ := hA.some_ (by decide); have c0 := hA.get 0 (by decide) 0 (u := .int .i64 1) rfl; have c1' := hA.get 0 (by decide) 1 (u := .int .i64 2) rfl; have c2' := hA.get 0 (by decide) 2 (u := .string ⟨#[122]⟩) rfl; have c3' := hA.get 0 (by decide) 3 (u := .bool false) rfl; clear hI HT2 hA))
  simp only [Nat.zero_mul, Nat.add_zero] at c0 c1' c2' c3'
  go_wp2_with (go_at_call 13; (with_reducible refine (HQ.out _ _ HI6.out).mono ?_); rintro e w7 ⟨rfl, hI⟩; have HE := Lib.hid hI.bel; clear hI HQ)
  exact bodyPost_ret (v := .bool true) (by simp [results, Try.results5, go_sem]) rfl ⟨rfl, HE.out⟩
end Go.Proofs.Ytgfipndilngfbaa
