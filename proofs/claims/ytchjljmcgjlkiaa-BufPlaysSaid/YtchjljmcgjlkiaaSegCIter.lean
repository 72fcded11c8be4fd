/-
slices.Chunk of bytes, as a range over a function meets its parts.
-/
import Derived.Test.YtchjljmcgjlkiaaSegCells
import Derived.Test.YtchjljmcgjlkiaaFactsIn
import Derived.RangeFuncNested
import Derived.RangeFuncBound
import Derived.RangeFuncCalls
import Derived.RangeFuncLeaves
import Derived.Shelf.Abstract
import Derived.Shelf.RegionOpen
import Derived.OwnWalkIn
import Derived.TacticsInMore
import Derived.LoopNIn
import Derived.LoopIn
import Derived.BigRegionIn
import Derived.Lib.MinMax
namespace Go.Proofs.Ytchjljmcgjlkiaa
open Go.RowKit Go.Shelf
attribute [local go_sem] Oper.semAt_some
set_option maxRecDepth 20000
/-- how many parts of m -/
def ckN (L m : Nat) : Nat := (L + m - 1) / m
/-- a part, as it is met: its number tells where it lies -/
def ckV (g L m : Nat) (x : Fin (ckN L m)) : Array Value := #[.slice (some ⟨g, x.1 * m, none⟩) (min m (L - x.1 * m)) (min m (L - x.1 * m))]
theorem ckN_in {L m : Nat} (hm : 0 < m) {k : Nat} : k < ckN L m ↔ k * m < L := by
  unfold ckN
  rw [Nat.lt_iff_add_one_le, Nat.le_div_iff_mul_le hm, Nat.add_mul]
  omega
theorem ck_slices (g L cap i e : Nat) (hi : i < L) (hL : L ≤ cap) (he : e ≤ L - i) (h0 : 0 < e) (W : World) :
    (Instr.slice 76 (.slice (some ⟨g, 0, none⟩) L cap) (some (.int .i64 (i : Int))) none none).run Try.prog W = .ok (.slice (some ⟨g, i, none⟩) (L - i) (cap - i)) W ∧
    (Instr.slice 76 (.slice (some ⟨g, 0, none⟩) L cap) (some (.int .i64 (i : Int))) (some (.int .i64 ((i : Int) + (e : Int)))) (some (.int .i64 ((i : Int) + (e : Int))))).run Try.prog W = .ok (.slice (some ⟨g, i, none⟩) e e) W := by
  have ht' : Try.prog.underlying 76 = some (.slice (Try.prog.elem 76)) := by simp [Program.elem, Try.underlying76]
  have hee : Try.prog.elem 76 = 5 := by simp [Program.elem, Try.underlying76]
  have hz : ∀ w, (Go.sizeOf 5).run Try.prog w = .ok 1 w := fun w => by kernel_rfl
  have ea : (⟨g, 0, none⟩ : Addr).add i = ⟨g, i, none⟩ := by unfold Addr.add; split <;> simp_all
  constructor
  · rw [run_slice_l W 76 _ _ _ ht' .i64 (i : Int) (by omega) (by omega), hee, hz]
    simp only [Result.andThen_ok, sliced]
    rw [if_neg (by omega), Nat.mul_one, Option.map_some]
    congr 2
    rw [Int.toNat_natCast, ea]
  · rw [run_slice_lhm W 76 _ _ _ ht' .i64 .i64 .i64 (i : Int) ((i : Int) + (e : Int)) ((i : Int) + (e : Int)) (by omega) (by omega) (by omega) (by omega), hee, hz]
    simp only [Result.andThen_ok, sliced]
    rw [if_neg (by omega), Nat.mul_one, Option.map_some]
    congr 2
    · rw [Int.toNat_natCast, ea]
    · omega
    · omega
/-- the next part -/
theorem ck_next (L m k i : Nat) (hm0 : 0 < m) (hlt : i < L) (hi : i = k * m) : (i : Int) + (m : Int) = (((k + 1) * m : Nat) : Int) ∧ L - (k + 1) * m < L - i ∧ ((i : Int) + (m : Int)).toNat = (k + 1) * m := by
  have e : (k + 1) * m = i + m := by rw [Nat.add_mul, Nat.one_mul, hi]
  rw [e]
  omega
theorem ck_wraps (L m i e : Nat) (hL : L ≤ 100000) (hm : m ≤ 100000) (hlt : i < L) (he : e = min m (L - i)) : wrap64 ((i : Int) + (m : Int)) = (i : Int) + (m : Int) ∧ wrap64 ((i : Int) + (e : Int)) = (i : Int) + (e : Int) ∧
    min (m : Int) ((L - i : Nat) : Int) = (e : Int) ∧ ((i : Int) + (e : Int)).toNat - i = e ∧ e ≤ L - i :=
  ⟨IntWalk.wrap64_in _ (by omega), IntWalk.wrap64_in _ (by omega), by omega, by omega, by omega⟩
set_option maxHeartbeats 400000 in
theorem chunk1_in (F : Fence) (n : Nat) (h7 : F.fn 49) (hro : F.round = none) (hn : 1 ≤ n) (l Bs Bn : Nat) (Kp : World → World → Prop) (hKt : ∀ {A B C : World}, Kp A B → Kp B C → Kp A C) (g L cap m : Nat) (hL : L ≤ 100000) (hcap : L ≤ cap) (hm0 : 0 < m) (hm : m ≤ 100000) (J Jx : List (Fin (ckN L m)) → World → Prop)
    (hJd : ∀ pre W, J pre W → J pre W.drew) (hKd : ∀ W, Kp W W.drew)
    (hY : ∀ pre x W, J pre W → pre.length < ckN L m → YieldAt F (n - 1) Try.prog l (ckV g L m x) W fun e W' =>
      (e = .returned (.bool true) ∧ J (pre ++ [x]) W' ∧ Kp W W') ∨ (e = .returned (.bool false) ∧ Jx (pre ++ [x]) W'))
    (W : World) (hKr : Kp W W) (hc : ∀ W', Kp W W' → W'.cell? ⟨Bs, 0, none⟩ = some (.slice (some ⟨g, 0, none⟩) L cap) ∧ W'.cell? ⟨Bn, 0, none⟩ = some (.int .i64 m)) (h0 : J [] W) :
    CallsIn F n Try.prog 49 #[.func (.yield l) #[] #[], .pointer (some ⟨Bs, 0, none⟩), .pointer (some ⟨Bn, 0, none⟩)] W fun e W' => (∃ v, e = .returned v) ∧
      ((∃ ys, ys = List.finRange (ckN L m) ∧ J ys W') ∨ (∃ pre : List (Fin (ckN L m)), True ∧ Jx pre W')) := by
  refine callsIn_of_wp Try.func49 rfl h7 ?_ hro
  simp only [Try.ntmps49, List.size_toArray, List.length_cons, List.length_nil, Nat.reduceAdd, Nat.reduceSub, Array.replicate_succ, Array.replicate_zero, List.push_toArray, List.append_toArray, List.nil_append, List.cons_append]
  have HC := Lib.hid hc
  clear hc
  gi_wp2
  gi_loopw [4] (fun i wr => ∃ k : Nat, k ≤ ckN L m ∧ i = .int .i64 ((k * m : Nat) : Int) ∧ Hid (J ((List.finRange (ckN L m)).take k) wr) ∧ Hid (Kp W wr))
    (fun i _ => L - (intOf i).toNat)
  case atStart => exact ⟨0, Nat.zero_le _, by simp, Lib.hid h0, Lib.hid hKr⟩
  case round =>
    obtain ⟨k, hk, rfl, HJ, HN⟩ := hrel
    have hcs := (HC.out wr HN.out).1
    have hcn := (HC.out wr HN.out).2
    by_cases hz : k < ckN L m
    · have hlt := (ckN_in hm0).1 hz
      have hT := Lib.hid (show (List.finRange (ckN L m)).take (k + 1) = (List.finRange (ckN L m)).take k ++ [⟨k, hz⟩] from by
        rw [List.take_succ_eq_append_getElem (by simpa using hz)]
        simp)
      obtain ⟨fn, tmps, assign, body, hy, hR⟩ := hY _ ⟨k, hz⟩ wr.drew (hJd _ _ HJ.out) (by rw [List.length_take]; simp; omega)
      dsimp only [ckV] at hy
      have HR := Lib.hid hR
      clear hR
      obtain ⟨e, he⟩ : ∃ e, e = min m (L - k * m) := ⟨_, rfl⟩
      rw [← he] at hy
      obtain ⟨i, hi⟩ : ∃ i, i = k * m := ⟨_, rfl⟩
      rw [← hi] at hy he hlt ⊢
      have hs := fun W => (ck_slices g L cap i e hlt hcap (by omega) (by omega) W).1
      have hs2 := fun W => (ck_slices g L cap i e hlt hcap (by omega) (by omega) W).2
      have HW := Lib.hid (ck_wraps L m i e hL hm hlt he)
      have HX := Lib.hid (ck_next L m k i hm0 hlt hi)
      clear he
      obtain ⟨hwm, hwi, hmin, hse, he1⟩ := HW.out
      clear hi
      gi_wp2_with fail
      refine wpIn_region_facts (fun W W' => W' = W) (fun W => W = wr.drew) (factsOf [.is (.int .i64 m), .is (.slice (some ⟨g, 0, none⟩) L cap), .is (.int .i64 i), .is (.slice (some ⟨g, i, none⟩) (L - i) (cap - i)), .is (.int .i64 ((L - i : Nat) : Int)), .is (.int .i64 e), .is (.int .i64 e)]) (by kernel_rfl) (by kernel_rfl) (fun j v w w' _ h => facts_still rfl j v w w' h) (fun W W' h k => h.trans k) (fun i => [u13, u14, u15, u16, u17, u18, u5].getD i undef) (by kernel_rfl) rfl ?F1 ?hF1 ?hstep1 ?hend1
      case hF1 =>
        intro u
        simp only [fillAct]
        go_simp
        rfl
      case hstep1 =>
        refine FStepsI.cons ?_ ?_
        · intro u W hS hd K hK
          clear hd
          simp only [upd, reduceIte, Nat.reduceEqDiff] at hK
          subst hS
          have c := hcn
          go_simp
          exact hK.out _ _ rfl rfl
        refine FStepsI.cons ?_ ?_
        · intro u W hS hd K hK
          clear hd
          simp only [upd, reduceIte, Nat.reduceEqDiff] at hK
          subst hS
          have c := hcs
          go_simp
          exact hK.out _ _ rfl rfl
        refine FStepsI.cons ?_ ?_
        · intro u W hS hd K hK
          clear hd
          simp only [upd, reduceIte, Nat.reduceEqDiff] at hK
          subst hS
          go_simp
          exact hK.out _ _ rfl rfl
        refine FStepsI.cons ?_ ?_
        · intro u W hS hd K hK
          have h1 : u 1 = _ := hd 1 rfl
          have h2 : u 2 = _ := hd 2 rfl
          clear hd
          simp only [upd, h1, h2, reduceIte, Nat.reduceEqDiff] at hK
          subst hS
          go_simp
          exact hK.out _ _ rfl rfl
        refine FStepsI.cons ?_ ?_
        · intro u W hS hd K hK
          have h3 : u 3 = _ := hd 3 rfl
          clear hd
          simp only [upd, h3, reduceIte, Nat.reduceEqDiff] at hK
          subst hS
          go_simp
          exact hK.out _ _ rfl rfl
        refine FStepsI.cons ?_ ?_
        · intro u W hS hd K hK
          have h0 : u 0 = _ := hd 0 rfl
          have h4 : u 4 = _ := hd 4 rfl
          clear hd
          simp only [upd, h0, h4, reduceIte, Nat.reduceEqDiff] at hK
          subst hS
          go_simp
          exact hK.out _ _ rfl rfl
        refine FStepsI.cons ?_ ?_
        · intro u W hS hd K hK
          have h5 : u 5 = _ := hd 5 rfl
          clear hd
          simp only [upd, h5, reduceIte, Nat.reduceEqDiff] at hK
          subst hS
          go_simp
          exact hK.out _ _ rfl rfl
        exact trivial
      case hend1 =>
        intro u w6 hS hd
        subst hS
        have h6 : u 6 = _ := hd 6 rfl
        clear hd
        rw [h6]
        clear hmin hs he1 HW
        gi_wp2
        refine HR.out.mono ?_
        rintro e1 W3 (⟨rfl, hJ3, hk3⟩ | ⟨rfl, hJx3⟩)
        · have hk4 := hKt HN.out (hKt (hKd wr) hk3)
          have hcn3 := (HC.out W3 hk4).2
          gi_wp2
          go_roundw
          case rel => exact ⟨k + 1, hz, congrArg (Value.int .i64) (by first | exact HX.out.1 | exact hwm.trans HX.out.1), Lib.hid (by rw [hT.out]; exact hJ3), Lib.hid hk4⟩
          case measure =>
            have hx1 := HX.out.1
            have hx2 := HX.out.2.1
            have hx3 := HX.out.2.2
            clear HX
            simp only [intOf, Int.toNat_natCast]
            first | exact hx2 | (rw [hx3]; exact hx2)
        · gi_wp2
          refine bodyPost_ret (results_none rfl _ _ _) rfl ?_
          exact ⟨⟨_, rfl⟩, .inr ⟨_, trivial, hJx3⟩⟩
    · obtain rfl : k = ckN L m := by omega
      have hge : ¬ ckN L m * m < L := fun h => absurd ((ckN_in hm0).2 h) (by omega)
      obtain ⟨i, hi⟩ : ∃ i, i = ckN L m * m := ⟨_, rfl⟩
      rw [← hi] at hge ⊢
      gi_wp2
      go_end0
      exact ⟨⟨_, rfl⟩, .inl ⟨_, rfl, by have := HJ.out; rwa [List.take_of_length_le (by simp)] at this⟩⟩
theorem chunk_in (F : Fence) (n : Nat) (h5 : F.fn 45) (hro : F.round = none) (g L cap m : Nat) (hm0 : 0 < m) (w : World) :
    CallsIn F n Try.prog 45 #[.slice (some ⟨g, 0, none⟩) L cap, .int .i64 m] w fun e w' => e = .returned (.func (.func 49) #[] #[.pointer (some ⟨w.heap.size, 0, none⟩), .pointer (some ⟨w.heap.size + 1, 0, none⟩)]) ∧
      w' = (w.alloc (.cells #[.slice (some ⟨g, 0, none⟩) L cap] 76)).alloc (.cells #[.int .i64 m] 3) := by
  have hm1 : ¬ (m : Int) < 1 := by omega
  have hm2 : (1 : Int) ≤ (m : Int) := by omega
  refine callsIn_of_wp Try.func45 rfl h5 ?_ hro
  simp only [Try.ntmps45, List.size_toArray, List.length_cons, List.length_nil, Nat.reduceAdd, Nat.reduceSub, Array.replicate_succ, Array.replicate_zero, List.push_toArray, List.append_toArray, List.nil_append, List.cons_append]
  gi_wp2
  go_ret
  exact ⟨rfl, rfl⟩
/-- what a round keeps: what lay at the call, and the two boxes of what the iterator has caught -/
def KC (n₀ Bs Bn : Nat) (W W' : World) : Prop := Below n₀ W W' ∧ W'.heap[Bs]? = W.heap[Bs]? ∧ W'.heap[Bn]? = W.heap[Bn]?
theorem KC.refl (n₀ Bs Bn : Nat) (W : World) : KC n₀ Bs Bn W W := ⟨Below.refl _ _, rfl, rfl⟩
theorem KC.trans {n₀ Bs Bn : Nat} {A B C : World} (h : KC n₀ Bs Bn A B) (h' : KC n₀ Bs Bn B C) : KC n₀ Bs Bn A C := ⟨h.1.trans h'.1, h'.2.1.trans h.2.1, h'.2.2.trans h.2.2⟩
theorem chunk_stops (F : Fence) (n : Nat) (h7 : F.fn 49) (hro : F.round = none) (hn : 1 ≤ n) (Bs Bn n₀ : Nat) (g L cap m : Nat) (hL : L ≤ 100000) (hcap : L ≤ cap) (hm0 : 0 < m) (hm : m ≤ 100000) (w : World) (hBs : Bs < w.heap.size) (hBn : Bn < w.heap.size)
    (hc : w.cell? ⟨Bs, 0, none⟩ = some (.slice (some ⟨g, 0, none⟩) L cap)) (hd : w.cell? ⟨Bn, 0, none⟩ = some (.int .i64 m)) :
    SeqStopsK F n Try.prog 49 #[.pointer (some ⟨Bs, 0, none⟩), .pointer (some ⟨Bn, 0, none⟩)] (ckV g L m) (KC n₀ Bs Bn) (fun ys => ys = List.finRange (ckN L m)) (fun _ => True) (ckN L m) w := fun l J Jx W hW hJ _ hY hJ0 => by
  refine (chunk1_in F n h7 hro hn l Bs Bn (KC n₀ Bs Bn) (fun h h' => h.trans h') g L cap m hL hcap hm0 hm J Jx (fun pre W h => hJ pre W W.drew none h (grown_drew (grown_refl W none)) (fun r e => by cases e)) (fun W => ⟨(Below.refl n₀ W).drew, rfl, rfl⟩) hY W (KC.refl _ _ _ _) (fun W' hk => ⟨?_, ?_⟩) hJ0).mono ?_
  · have h1 := (hW.cell (p := ⟨Bs, 0, none⟩) hBs).trans hc
    unfold World.cell? at h1 ⊢
    rw [hk.2.1]
    exact h1
  · have h1 := (hW.cell (p := ⟨Bn, 0, none⟩) hBn).trans hd
    unfold World.cell? at h1 ⊢
    rw [hk.2.2]
    exact h1
  · rintro e W' ⟨he, h⟩
    refine ⟨he, ?_⟩
    rcases h with ⟨ys, hy, hj⟩ | ⟨pre, _, hj⟩
    · exact .inl ⟨ys, hy, hj⟩
    · exact .inr ⟨pre, trivial, hj⟩
end Go.Proofs.Ytchjljmcgjlkiaa
