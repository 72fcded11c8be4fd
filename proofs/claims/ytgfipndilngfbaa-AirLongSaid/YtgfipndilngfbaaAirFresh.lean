/-
The laws' Fresh, over a landed air that keeps its contracts.
-/
import Derived.Test.YtgfipndilngfbaaAirLaw
import Derived.Test.YtgfipndilngfbaaAirRefS
import Derived.Test.YtgfipndilngfbaaPlcStand
namespace Go.Proofs.Ytgfipndilngfbaa
open Go.RowKit
set_option maxRecDepth 20000
/-- amid standing: the first k stand -/
def FrAt (w : World) (p g q n : Nat) (F Q : Nat → Prop) (k : Nat) (W : World) : Prop :=
  ∃ L : List Stn, L.length = n ∧ (∀ j (hj : j < L.length), j < k → L[j].is ⟨(j : Int) + 1, 0, 100⟩) ∧ PlL W p g L (.map []) F ∧ RefPl W q n Q ∧ Below w.heap.size w W
section
variable {w W W' : World} {p g q n k : Nat} {F Q : Nat → Prop}
theorem turn_off {F Q : Nat → Prop} {W W' : World} (ht : Turn F W W') (hd : ∀ b, F b → ¬ Q b) (hm : ∀ b, Q b → b < W.heap.size) : SameOn Q W W' := ⟨ht.size, fun b hb => ht.block b (hm b hb) (fun hf => hd b hf hb)⟩
/-- a plane amid a call, and the document's -/
def TwoAt (w : World) (p g q n : Nat) (L : List Stn) (F Q : Nat → Prop) (W : World) : Prop := PlL W p g L (.map []) F ∧ RefPl W q n Q ∧ Below w.heap.size w W
end
set_option maxHeartbeats 4000000 in
theorem fresh_any {A : AirP} (hC : AirC A) (n : Nat) (i : Int) (hi : i = n) (hn : 1 ≤ n ∧ n ≤ 16) (w : World) : Calls Try.prog 7 #[.int .i64 i] w fun e w' =>
    ∃ a p q, e = .returned (.tuple #[ptrV a, ptrV p, ptrV q]) ∧ AirO A w a n (fullH n) Ai.quiet w' := by
  have HN := Lib.hid (fun W => cnew14_yes n i hi hn W)
  have HR := Lib.hid (fun W => new14 n i hi hn W)
  have HI := Lib.hid hi
  have HNN := Lib.hid hn
  have HC := Lib.hid hC
  clear hC hi hn
  go_enter Try.func7, Try.ntmps7
  go_upto_region 6 with (first
    | (go_at_call 14; (with_reducible refine (HN.out _).mono ?_); rintro e w1 ⟨p, g, F, rfl, k1, k2, k3⟩; have HP1 := Lib.hid (And.intro k1 (And.intro k2 k3)); clear k1 k2 k3 HN)
    | (go_at_call 15; (with_reducible refine (HR.out _).mono ?_); rintro e w2 ⟨q, Q, rfl, k1, k2, k3⟩; have HQ1 := Lib.hid (And.intro k1 (And.intro k2 k3)); clear k1 k2 k3 HR))
  have HD := Lib.hid (show ∀ b, F b → ¬ Q b from fun b hf hq => by
    have h1 := HP1.out.1.mem b hf
    have h2 := HQ1.out.2.1 b hq
    omega)
  have HF := Lib.hid HP1.out.2.1
  have HQ := Lib.hid (show ∀ b, Q b → w.heap.size ≤ b from fun b hq => Nat.le_trans HP1.out.2.2.size (HQ1.out.2.1 b hq))
  have H0 := Lib.hid (show FrAt w p g q n F Q 0 w2 from ⟨fresh n, by simp, fun j hj h => absurd h (Nat.not_lt_zero _), HP1.out.1.below HQ1.out.2.2, HQ1.out.1, HP1.out.2.2.trans (HQ1.out.2.2.mono HP1.out.2.2.size)⟩)
  clear HP1 HQ1
  go_loopw [8] (fun v wx => ∃ k : Nat, k ≤ n ∧ v = .int .i64 ((k : Int) + 1) ∧ Hid (FrAt w p g q n F Q k wx)) (fun v _ => n + 1 - (intOf v).toNat)
  case atStart => exact ⟨0, Nat.zero_le _, rfl, H0⟩
  case round =>
    obtain ⟨k, hk, rfl, HK⟩ := hrel
    clear H0
    obtain ⟨L, hL, hst, hpl, href, hbl⟩ := HK.out
    by_cases hlt : k < n
    · have dk : decide ((k : Int) + 1 ≤ i) = true := decide_eq_true (by have := HI.out; omega)
      have HZ := Lib.hid (show wrap64 ((k : Int) + 1 + 1) = (k : Int) + 1 + 1 from IntWalk.wrap64_in _ (by have := HNN.out; omega))
      have gf := Fl.ofInt ((k : Int) + 1) (by have := HNN.out; omega)
      obtain ⟨fb, ef⟩ : ∃ fb, floatOfInt .f64 ((k : Int) + 1) = fb := ⟨_, rfl⟩
      rw [ef] at gf
      have HS := Lib.hid (stand_yes p g L (.map []) F k ((k : Int) + 1) rfl (by omega) (by have := HNN.out; omega) fb 0 ((k : Int) + 1) 0 100 gf Fl.zero (by have := HNN.out; omega) (by decide)
        (by have := HNN.out; unfold standOk; rw [(inP_iff ((k : Int) + 1) 0).2 ⟨by omega, by decide⟩]; rfl) wr hpl)
      have HT := Lib.hid (fun W h => stand14 q n Q k ((k : Int) + 1) ((k : Int) + 1) 0 100 fb 0 gf Fl.zero rfl hlt (by have := HNN.out; omega) (by have := HNN.out; omega) (by decide) (by decide) W h)
      have HA := Lib.hid (And.intro hL (And.intro hst (And.intro href hbl)))
      clear hL hst hpl href hbl gf HK
      go_wp2_with (first
        | (go_at_call 16; (with_reducible refine HS.out.mono ?_); rintro e w3 ⟨re, im, rfl, k1, k2, k3, k4⟩
           have HP := Lib.hid (And.intro k1 (And.intro k2 k3))
           have HB := Lib.hid (HA.out.2.2.2.trans (k4.below HA.out.2.2.2.size HF.out))
           have HR3 := Lib.hid (HA.out.2.2.1.stay (turn_off k4 HD.out HA.out.2.2.1.mem))
           clear k1 k2 k3 k4 HS)
        | (go_at_call 17; (with_reducible refine (HT.out _ HR3.out).mono ?_); rintro e w4 ⟨rfl, k1, k2⟩
           have HX := Lib.hid (show FrAt w p g q n F Q (k + 1) w4 from by
             refine ⟨L.set k ⟨re, im, 100⟩, by rw [List.length_set]; exact HA.out.1, fun j hj h => ?_, HP.out.2.2.stay (turn_off k2 (fun b hq hf => HD.out b hf hq) HP.out.2.2.mem), k1, HB.out.trans (k2.below HB.out.size HQ.out)⟩
             rw [List.length_set] at hj
             by_cases e : j = k
             · subst e
               rw [List.getElem_set_self]
               exact ⟨HP.out.1, HP.out.2.1, rfl⟩
             · rw [List.getElem_set_ne (fun e' => e e'.symm)]
               exact HA.out.2.1 j hj (by omega))
           clear k1 k2 HT))
      go_roundw
      case rel => exact ⟨k + 1, by omega, by rw [HZ.out]; exact congrArg (Value.int .i64) (by omega), HX⟩
      case measure =>
        rw [HZ.out]
        simp [intOf]
        omega
    · obtain rfl : k = n := by omega
      have dk : decide ((k : Int) + 1 ≤ i) = false := decide_eq_false (by have := HI.out; omega)
      have HNW := Lib.hid (HC.out.new wr p g L F k hpl hL HNN.out (fun j hj => hst j hj (by omega)))
      have HB := Lib.hid hbl
      clear hL hst hpl href hbl HK
      go_wp2_with (go_at_call 18; (with_reducible refine HNW.out.mono ?_); rintro e w3 ⟨a, F', rfl, k1, k2, k3⟩; have HO := Lib.hid (show AirO A w a k (fullH k) Ai.quiet w3 from ⟨F', k1, fun b hb => (k2 b hb).elim (HF.out b) (fun h => Nat.le_trans HB.out.size h), HB.out.trans (k3.mono HB.out.size)⟩); clear k1 k2 k3 HNW)
      exact bodyPost_ret (v := .tuple #[ptrV a, ptrV p, ptrV w3.heap.size]) (by simp [results, Try.results7, go_sem]) rfl ⟨a, p, _, rfl, HO.out.below HC.out ((Below.refl _ _).alloc (Nat.le_refl _) _)⟩
end Go.Proofs.Ytgfipndilngfbaa
