/-
The landed air's small functions: Long, isAround, isLong; of a burst: isSending, isLast, left.
-/
import Derived.Test.YtgfipndilngfbaaAirMem
import Derived.BigQuiet
namespace Go.Proofs.Ytgfipndilngfbaa
open Go.RowKit
set_option maxRecDepth 20000
theorem longN_le (f : ByteArray) (h : f.size ≤ 333) : longN f ≤ 9 := by unfold longN; omega
theorem clong15 (f : ByteArray) (hf : f.size ≤ 1000) (w : World) : Calls Try.prog 6 #[.string f] w fun e w' => e = .returned (.int .i64 (longN f)) ∧ w' = w := by
  have h1 : ((f.size : Nat) : Int).tdiv 40 = ((f.size / 40 : Nat) : Int) := by rw [Int.tdiv_eq_ediv_of_nonneg (by omega)]; omega
  have h2 : wrap64 ((f.size / 40 : Nat) : Int) = ((f.size / 40 : Nat) : Int) := IntWalk.wrap64_in _ (by omega)
  have h3 : wrap64 (1 + ((f.size / 40 : Nat) : Int)) = ((longN f : Nat) : Int) := by
    rw [IntWalk.wrap64_in _ (by omega)]
    unfold longN
    omega
  generalize longN f = q at *
  generalize hz : f.size / 40 = d at *
  clear hz
  go_enter Try.func6, Try.ntmps6
  go_wp2_with fail
  exact bodyPost_ret (v := .int .i64 q) (by simp [results, Try.results6, go_sem, h3]) rfl ⟨rfl, rfl⟩
theorem caround15 (n : Nat) (hn : n ≤ 255) (w : World) : Calls Try.prog 20 #[.int .i64 n] w fun e w' => e = .returned (.bool true) ∧ w' = w := by
  have d1 : decide ((0 : Int) ≤ (n : Int)) = true := decide_eq_true (by omega)
  have d2 : decide ((n : Int) ≤ 255) = true := decide_eq_true (by omega)
  go_enter Try.func20, Try.ntmps20
  go_wp2_with fail
  exact bodyPost_ret (v := .bool true) (by simp [results, Try.results20, go_sem]) rfl ⟨rfl, rfl⟩
theorem cislong15 (f : ByteArray) (hf : f.size ≤ 333) (w : World) : Calls Try.prog 22 #[.string f] w fun e w' => e = .returned (.bool false) ∧ w' = w := by
  have d1 : decide ((333 : Int) < (f.size : Int)) = false := decide_eq_false (by omega)
  go_enter Try.func22, Try.ntmps22
  go_wp2_with fail
  exact bodyPost_ret (v := .bool false) (by simp [results, Try.results22, go_sem]) rfl ⟨rfl, rfl⟩
/-- is a frame being sent? -/
def sendB (B : Bu) : Bool := decide (B.lead = 0) && decide (0 < B.frames.length)
set_option maxHeartbeats 1000000 in
theorem csending15 (w : World) (b : Nat) (B : Bu) (T : List Int) (G : Nat → Prop) (h : BuL w b B T G) : Calls Try.prog 27 #[ptrV b] w fun e w' => e = .returned (.bool (sendB B)) ∧ w' = w := by
  obtain ⟨fa, fc, tv, hr, -⟩ := h
  have c0 := hr.cell 0 rfl
  have c2 := hr.cell 2 rfl
  unfold sendB
  generalize B.frames.length = k at *
  generalize B.lead = l at *
  clear hr
  by_cases h0 : l = 0
  · have d0 : (((l : Nat) : Int) == 0) = true := by rw [beq_iff_eq]; omega
    rw [decide_eq_true h0, Bool.true_and]
    have e : decide (0 < k) = decide ((0 : Int) < (k : Int)) := by rw [decide_eq_decide]; omega
    rw [e]
    clear h0 e
    go_enter Try.func27, Try.ntmps27
    go_wp2_with fail
    first
      | exact bodyPost_ret (v := .bool (decide ((0 : Int) < (k : Int)))) (by simp [results, Try.results27, go_sem]) rfl ⟨rfl, rfl⟩
      | exact bodyPost_ret (v := .bool (decide (0 < k))) (by simp [results, Try.results27, go_sem]) rfl ⟨by simp, rfl⟩
  · have d0 : (((l : Nat) : Int) == 0) = false := by rw [beq_eq_false_iff_ne]; omega
    rw [decide_eq_false h0, Bool.false_and]
    go_enter Try.func27, Try.ntmps27
    go_wp2_with fail
    exact bodyPost_ret (v := .bool false) (by simp [results, Try.results27, go_sem]) rfl ⟨rfl, rfl⟩
theorem text_at {w : World} {g o : Nat} {L : List ByteArray} (h : AtL encS w (some ⟨g, o, none⟩) L) (k : Nat) (hk : k < L.length) : w.cell? ⟨g, o + k, none⟩ = some (.string L[k]) := by
  have := h.get k hk 0 (u := .string L[k]) rfl
  simpa [encS] using this
set_option maxHeartbeats 1000000 in
theorem clast15 (w : World) (b : Nat) (B : Bu) (T : List Int) (G : Nat → Prop) (h : BuL w b B T G) (f : ByteArray) (r : List ByteArray) (hf : B.frames = f :: r) (hs : f.size ≤ 333) (hq : B.went ≤ 1000) :
    Calls Try.prog 41 #[ptrV b] w fun e w' => e = .returned (.bool (decide (B.went + 1 = longN f))) ∧ Below w.heap.size w w' := by
  obtain ⟨fa, fc, tv, hr, -, hA, -⟩ := h
  rw [hf] at hr hA
  obtain ⟨g, o, rfl, hg⟩ := hA.some_ (by simp)
  have HR := Lib.hid hr
  have HA := Lib.hid (fun W (hb : Below w.heap.size w W) => text_at (hA.below hb) 0 (by simp))
  have HL := Lib.hid (fun W => clong15 f (by omega) W)
  simp only [Nat.add_zero, List.getElem_cons_zero] at HA
  have e : decide (B.went + 1 = longN f) = (((B.went : Int) + 1) == (longN f : Int)) := by
    rw [Bool.eq_iff_iff, decide_eq_true_eq, beq_iff_eq]
    omega
  rw [e]
  have hz : wrap64 ((B.went : Int) + 1) = (B.went : Int) + 1 := IntWalk.wrap64_in _ (by omega)
  have hz2 : IntKind.i64.wrap ((B.went : Int) + 1) = (B.went : Int) + 1 := i64_near _ (by omega) (by omega)
  have hk : 0 < (f :: r).length := by simp
  generalize longN f = N at *
  generalize (f :: r).length = k at *
  generalize hq' : (B.went : Int) = q at *
  generalize (B.lead : Int) = l at *
  generalize (B.tail : Int) = t at *
  clear hr hA hg hf e hs hq hq'
  go_enter Try.func41, Try.ntmps41
  go_upto_region 1 with fail
  refine wp_region_held (S := fun W' => Below w.heap.size w W') (by kernel_rfl) ?_
  change wpAnyH _ _ _ _ _ _ _ _ w.drew
  have HB := Lib.hid ((Below.refl w.heap.size w).drew)
  refine wpAnyH_take (i := 0) (v := ?_) rfl (by kernel_rfl) (by kernel_rfl) (by kernel_rfl) (fun _ _ _ h => h) (Or.inl ⟨by rfl, ?_⟩) HB.out ?_
  rotate_left
  · intro w' hw'
    go_simp
    with_reducible rfl
  go_simp
  refine wpAnyH_take (i := 1) (v := ?_) rfl (by kernel_rfl) (by kernel_rfl) (by kernel_rfl) (fun _ _ _ h => h) (Or.inl ⟨by rfl, ?_⟩) HB.out ?_
  rotate_left
  · intro w' hw'
    go_simp
    with_reducible rfl
  go_simp
  refine wpAnyH_take (i := 2) (v := ?_) rfl (by kernel_rfl) (by kernel_rfl) (by kernel_rfl) (fun _ _ _ h => h) (Or.inl ⟨by rfl, ?_⟩) HB.out ?_
  rotate_left
  · intro w' hw'
    go_simp
    with_reducible rfl
  go_simp
  refine wpAnyH_take (i := 5) (v := ?_) rfl (by kernel_rfl) (by kernel_rfl) (by kernel_rfl) (fun _ _ _ h => h) (Or.inl ⟨by rfl, ?_⟩) HB.out ?_
  rotate_left
  · intro w' hw'
    go_simp
    with_reducible rfl
  go_simp
  refine wpAnyH_take (i := 6) (v := ?_) rfl (by kernel_rfl) (by kernel_rfl) (by kernel_rfl) (fun _ _ _ h => h) (Or.inl ⟨by rfl, ?_⟩) HB.out ?_
  rotate_left
  · intro w' hw'
    go_simp
    with_reducible rfl
  go_simp
  refine wpAnyH_take (i := 7) (v := ?_) rfl (by kernel_rfl) (by kernel_rfl) (by kernel_rfl) (fun _ _ _ h => h) (Or.inl ⟨by rfl, ?_⟩) HB.out ?_
  rotate_left
  · intro w' hw'
    go_simp
    with_reducible rfl
  go_simp
  refine wpAnyH_take (i := 3) (v := ?_) rfl (by kernel_rfl) (by kernel_rfl) (by kernel_rfl) (fun _ _ _ h => h) (Or.inl ⟨by rfl, ?_⟩) HB.out ?_
  rotate_left
  · intro w' hw'
    have xx := (HR.out.below hw').cell 3 rfl
    go_simp
    with_reducible rfl
  go_simp
  refine wpAnyH_take (i := 8) (v := ?_) rfl (by kernel_rfl) (by kernel_rfl) (by kernel_rfl) (fun _ _ _ h => h) (Or.inl ⟨by rfl, ?_⟩) HB.out ?_
  rotate_left
  · intro w' hw'
    have xx := (HR.out.below hw').cell 2 rfl
    go_simp
    with_reducible rfl
  go_simp
  refine wpAnyH_take (i := 4) (v := ?_) rfl (by kernel_rfl) (by kernel_rfl) (by kernel_rfl) (fun _ _ _ h => h) (Or.inl ⟨by rfl, ?_⟩) HB.out ?_
  rotate_left
  · intro w' hw'
    go_simp
    with_reducible rfl
  go_simp
  refine wpAnyH_take (i := 9) (v := ?_) rfl (by kernel_rfl) (by kernel_rfl) (by kernel_rfl) (fun _ _ _ h => h) (Or.inl ⟨by rfl, ?_⟩) HB.out ?_
  rotate_left
  · intro w' hw'
    go_simp
    with_reducible rfl
  go_simp
  refine wpAnyH_take (i := 10) (v := ?_) rfl (by kernel_rfl) (by kernel_rfl) (by kernel_rfl) (fun _ _ _ h => h) (Or.inl ⟨by rfl, ?_⟩) HB.out ?_
  rotate_left
  · intro w' hw'
    have xx := HA.out _ hw'
    go_simp
    with_reducible rfl
  go_simp
  refine wpAnyH_ready (rs := [11]) (by kernel_rfl) (by simp) ?_
  refine AllReadyH.cons rfl (fun K hK => ?_) AllReadyH.nil
  go_simp
  go_at_call 6
  refine (HL.out _).mono ?_
  rintro e w1 ⟨rfl, rfl⟩
  change K _ _
  refine hK.out _ _ HB.out (fun _ => ?_)
  clear hK K
  refine wpAnyH_take (i := 12) (v := ?_) rfl (by kernel_rfl) (by kernel_rfl) (by kernel_rfl) (fun _ _ _ h => h) (Or.inl ⟨by rfl, ?_⟩) HB.out ?_
  rotate_left
  · intro w' hw'
    go_simp
    with_reducible rfl
  go_simp
  refine wpAnyH_take (i := 13) (v := ?_) rfl (by kernel_rfl) (by kernel_rfl) (by kernel_rfl) (fun _ _ _ h => h) (Or.inl ⟨by rfl, ?_⟩) HB.out ?_
  rotate_left
  · intro w' hw'
    go_simp
    with_reducible rfl
  go_simp
  refine wpAnyH_done (by kernel_rfl) ?_ _
  go_wp2_with fail
  exact bodyPost_ret (v := .bool (q + 1 == (N : Int))) (by simp [results, Try.results41, go_sem]) rfl ⟨rfl, (Below.refl _ w).drew⟩
/-- so many ticks of the first frames -/
theorem csumL_take (L : List ByteArray) (i : Nat) (hi : i < L.length) : sumL (L.take (i + 1)) = sumL (L.take i) + longN L[i] := by
  unfold sumL
  rw [List.take_succ_eq_append_getElem hi, List.map_append, List.sum_append]
  simp
theorem csumL_le : ∀ L : List ByteArray, (∀ f ∈ L, f.size ≤ 333) → sumL L ≤ 9 * L.length
  | [], _ => by simp [sumL]
  | f :: r, h => by
    have ih := csumL_le r fun g hg => h g (List.mem_cons_of_mem _ hg)
    have := longN_le f (h f List.mem_cons_self)
    unfold sumL at *
    rw [List.map_cons, List.sum_cons, List.length_cons]
    omega
set_option maxHeartbeats 1000000 in
theorem cbleft15 (w : World) (b : Nat) (B : Bu) (T : List Int) (G : Nat → Prop) (h : BuL w b B T G) (hl : B.lead ≤ 255) (ht : B.tail ≤ 255) (hn : B.frames.length ≤ 7) (hs : ∀ f ∈ B.frames, f.size ≤ 333) (hq : B.went ≤ B.lead + B.tail + sumL B.frames) :
    Calls Try.prog 24 #[ptrV b] w fun e w' => e = .returned (.int .i64 (B.left : Nat)) ∧ Below w.heap.size w w' := by
  obtain ⟨fa, fc, tv, hr, -, hA, -⟩ := h
  have HR := Lib.hid hr
  have HA := Lib.hid hA
  have hsum := csumL_le B.frames hs
  have HE := Lib.hid (show (B.lead : Int) + B.tail - B.went + sumL B.frames = (B.left : Nat) from by unfold Bu.left; omega)
  have HQ := Lib.hid (show B.went ≤ 1000 from by omega)
  have z1 : wrap64 ((B.lead : Int) + B.tail) = (B.lead : Int) + B.tail := IntWalk.wrap64_in _ (by omega)
  have z2 : wrap64 ((B.lead : Int) + B.tail - B.went) = (B.lead : Int) + B.tail - B.went := IntWalk.wrap64_in _ (by omega)
  have HW := Lib.hid (show IntKind.i64.wrap (IntKind.i64.wrap ((B.lead : Int) + B.tail) - B.went) = (B.lead : Int) + B.tail - B.went from by rw [i64_near ((B.lead : Int) + B.tail) (by omega) (by omega), i64_near ((B.lead : Int) + B.tail - B.went) (by omega) (by omega)])
  obtain ⟨X, hX⟩ : ∃ X : Int, X = (B.lead : Int) + B.tail - B.went := ⟨_, rfl⟩
  rw [← hX] at HE z2 HW
  have HX := Lib.hid (show -1000 ≤ X ∧ X ≤ 1000 from by omega)
  obtain ⟨L, hL⟩ : ∃ L, L = B.frames := ⟨_, rfl⟩
  rw [← hL] at hs hn HR HA HE
  have HS := Lib.hid hs
  obtain ⟨n, hnn⟩ : ∃ n, n = L.length := ⟨_, rfl⟩
  have HN := Lib.hid hnn
  rw [← hnn] at HR hn
  generalize (B.left : Int) = Y at *
  generalize (B.lead : Int) = l at *
  generalize (B.tail : Int) = t at *
  generalize (B.went : Int) = q at *
  clear hX hL hr hA hl ht hs hq hsum hnn
  go_enter Try.func24, Try.ntmps24
  go_upto_region 1 with fail
  refine wp_region_held (S := fun W' => Below w.heap.size w W') (by kernel_rfl) ?_
  change wpAnyH _ _ _ _ _ _ _ _ w.drew
  have HB := Lib.hid ((Below.refl w.heap.size w).drew)
  refine wpAnyH_take (i := 0) (v := ?_) rfl (by kernel_rfl) (by kernel_rfl) (by kernel_rfl) (fun _ _ _ h => h) (Or.inl ⟨by rfl, ?_⟩) HB.out ?_
  rotate_left
  · intro w' hw'
    go_simp
    with_reducible rfl
  go_simp
  refine wpAnyH_take (i := 1) (v := ?_) rfl (by kernel_rfl) (by kernel_rfl) (by kernel_rfl) (fun _ _ _ h => h) (Or.inl ⟨by rfl, ?_⟩) HB.out ?_
  rotate_left
  · intro w' hw'
    go_simp
    with_reducible rfl
  go_simp
  refine wpAnyH_take (i := 2) (v := ?_) rfl (by kernel_rfl) (by kernel_rfl) (by kernel_rfl) (fun _ _ _ h => h) (Or.inl ⟨by rfl, ?_⟩) HB.out ?_
  rotate_left
  · intro w' hw'
    go_simp
    with_reducible rfl
  go_simp
  refine wpAnyH_take (i := 4) (v := ?_) rfl (by kernel_rfl) (by kernel_rfl) (by kernel_rfl) (fun _ _ _ h => h) (Or.inl ⟨by rfl, ?_⟩) HB.out ?_
  rotate_left
  · intro w' hw'
    go_simp
    with_reducible rfl
  go_simp
  refine wpAnyH_take (i := 5) (v := ?_) rfl (by kernel_rfl) (by kernel_rfl) (by kernel_rfl) (fun _ _ _ h => h) (Or.inl ⟨by rfl, ?_⟩) HB.out ?_
  rotate_left
  · intro w' hw'
    go_simp
    with_reducible rfl
  go_simp
  refine wpAnyH_take (i := 6) (v := ?_) rfl (by kernel_rfl) (by kernel_rfl) (by kernel_rfl) (fun _ _ _ h => h) (Or.inl ⟨by rfl, ?_⟩) HB.out ?_
  rotate_left
  · intro w' hw'
    go_simp
    with_reducible rfl
  go_simp
  refine wpAnyH_take (i := 9) (v := ?_) rfl (by kernel_rfl) (by kernel_rfl) (by kernel_rfl) (fun _ _ _ h => h) (Or.inl ⟨by rfl, ?_⟩) HB.out ?_
  rotate_left
  · intro w' hw'
    go_simp
    with_reducible rfl
  go_simp
  refine wpAnyH_take (i := 10) (v := ?_) rfl (by kernel_rfl) (by kernel_rfl) (by kernel_rfl) (fun _ _ _ h => h) (Or.inl ⟨by rfl, ?_⟩) HB.out ?_
  rotate_left
  · intro w' hw'
    go_simp
    with_reducible rfl
  go_simp
  refine wpAnyH_take (i := 11) (v := ?_) rfl (by kernel_rfl) (by kernel_rfl) (by kernel_rfl) (fun _ _ _ h => h) (Or.inl ⟨by rfl, ?_⟩) HB.out ?_
  rotate_left
  · intro w' hw'
    go_simp
    with_reducible rfl
  go_simp
  refine wpAnyH_take (i := 3) (v := ?_) rfl (by kernel_rfl) (by kernel_rfl) (by kernel_rfl) (fun _ _ _ h => h) (Or.inl ⟨by rfl, ?_⟩) HB.out ?_
  rotate_left
  · intro w' hw'
    have xx := (HR.out.below hw').cell 0 rfl
    go_simp
    with_reducible rfl
  go_simp
  refine wpAnyH_take (i := 7) (v := ?_) rfl (by kernel_rfl) (by kernel_rfl) (by kernel_rfl) (fun _ _ _ h => h) (Or.inl ⟨by rfl, ?_⟩) HB.out ?_
  rotate_left
  · intro w' hw'
    have xx := (HR.out.below hw').cell 1 rfl
    go_simp
    with_reducible rfl
  go_simp
  refine wpAnyH_take (i := 12) (v := ?_) rfl (by kernel_rfl) (by kernel_rfl) (by kernel_rfl) (fun _ _ _ h => h) (Or.inl ⟨by rfl, ?_⟩) HB.out ?_
  rotate_left
  · intro w' hw'
    have xx := (HR.out.below hw').cell 3 rfl
    go_simp
    with_reducible rfl
  go_simp
  refine wpAnyH_take (i := 8) (v := ?_) rfl (by kernel_rfl) (by kernel_rfl) (by kernel_rfl) (fun _ _ _ h => h) (Or.inl ⟨by rfl, ?_⟩) HB.out ?_
  rotate_left
  · intro w' hw'
    go_simp
    with_reducible rfl
  go_simp
  refine wpAnyH_take (i := 13) (v := ?_) rfl (by kernel_rfl) (by kernel_rfl) (by kernel_rfl) (fun _ _ _ h => h) (Or.inl ⟨by rfl, ?_⟩) HB.out ?_
  rotate_left
  · intro w' hw'
    go_simp
    with_reducible rfl
  go_simp
  refine wpAnyH_take (i := 14) (v := ?_) rfl (by kernel_rfl) (by kernel_rfl) (by kernel_rfl) (fun _ _ _ h => h) (Or.inl ⟨by rfl, ?_⟩) HB.out ?_
  rotate_left
  · intro w' hw'
    go_simp
    with_reducible rfl
  go_simp
  refine wpAnyH_done (by kernel_rfl) ?_ _
  have HB0 := Lib.hid ((Below.refl w.heap.size w).drew)
  have c2 := (HR.out.drew).cell 2 rfl
  go_wp2_with fail
  go_loopw [3, 5, 25] (fun nv _ iv wx => ∃ i : Nat, i ≤ n ∧ iv = .int .i64 i ∧ nv = .int .i64 (X + sumL (L.take i)) ∧ Hid (Below w.heap.size w wx)) (fun _ _ iv _ => n - (intOf iv).toNat)
  case atStart => exact ⟨0, Nat.zero_le _, rfl, by simp [sumL]; exact HW.out, HB0⟩
  case round =>
    obtain ⟨i, hi, rfl, rfl, HK⟩ := hrel
    clear c2 HB0
    by_cases hlt : i < n
    · have hL : i < L.length := by rw [← HN.out]; exact hlt
      obtain ⟨g, o, rfl, -⟩ := HA.out.some_ (by omega)
      have x0 := text_at (HA.out.below HK.out) i hL
      have HS1 := Lib.hid (csumL_take L i hL)
      have HF := HS.out L[i] (List.getElem_mem hL)
      have HC := Lib.hid (fun W => clong15 L[i] (by omega) W)
      have hlo := longN_le L[i] HF
      have hb := csumL_le (L.take i) fun f hf => HS.out f (List.mem_of_mem_take hf)
      rw [List.length_take] at hb
      have hx := HX.out
      have zz : wrap64 (X + (sumL (L.take i) : Nat) + (longN L[i] : Nat)) = X + (sumL (L.take (i + 1)) : Nat) := by
        rw [HS1.out, IntWalk.wrap64_in _ (by omega)]
        omega
      clear HF hlo hb hx HS1
      generalize sumL (L.take i) = s0 at *
      generalize L[i] = f at *
      generalize longN f = N at *
      go_wp2_with (go_at_call 6; (with_reducible refine (HC.out _).mono ?_); rintro e w1 ⟨rfl, rfl⟩)
      rw [zz]
      go_roundw
      case rel => exact ⟨i + 1, by omega, rfl, rfl, HK⟩
      case measure => simp [intOf]; omega
    · have e : i = n := by omega
      subst e
      have e2 : L.take i = L := List.take_of_length_le (by rw [← HN.out]; omega)
      rw [e2, HE.out]
      clear e2
      go_wp2_with fail
      exact bodyPost_ret (v := .int .i64 Y) (by simp [results, Try.results24, go_sem]) rfl ⟨rfl, HK.out⟩
end Go.Proofs.Ytgfipndilngfbaa
