/-
The landed air: there, On, Quiet, voices, Hears, isClear, Left.
-/
import Derived.Test.YtgfipndilngfbaaAirCSmall
namespace Go.Proofs.Ytgfipndilngfbaa
open Go.RowKit
set_option maxRecDepth 20000
section
variable {w : World} {a n : Nat} {H : Nat → Nat → Bool} {S : Ai} {p m hh : Nat} {Fp : Nat → Prop} {M : Nat → Option Nat} {G : Nat → Nat → Prop} {T : Nat → List Int}
/-- what who asks who is on, and who hears whom, reads -/
structure AirB (w : World) (a n : Nat) (H : Nat → Nat → Bool) (S : Ai) (p m hh : Nat) (Fp : Nat → Prop) (M : Nat → Option Nat) : Prop where
  row : RowAt w a [ptrV p, .map (some m), .map (some hh)]
  plane : PlH w p n H Fp
  on : OnM w m M
  isSome : ∀ i, (M i).isSome = (S i).isSome
  many : 1 ≤ n ∧ n ≤ 16
theorem AirAt.base (h : AirAt w a n H S p m hh Fp M G T) : AirB w a n H S p m hh Fp M := ⟨h.row, h.plane, h.on, h.isSome, h.many⟩
theorem AirB.below {w' : World} (h : AirB w a n H S p m hh Fp M) (hb : Below w.heap.size w w') : AirB w' a n H S p m hh Fp M := ⟨h.row.below hb, h.plane.below hb, h.on.below hb, h.isSome, h.many⟩
theorem AirB.turn {w' : World} {F : Nat → Prop} (h : AirB w a n H S p m hh Fp M) (ht : Turn F w w') (ha : ¬ F a) (hm : ¬ F m) (hp : ∀ k, Fp k → ¬ F k) : AirB w' a n H S p m hh Fp M :=
  ⟨h.row.turn ht ha, h.plane.stay ⟨ht.size, fun k hk => ht.block k (h.plane.mem k hk) (hp k hk)⟩, h.on.same (ht.block m h.on.lt hm), h.isSome, h.many⟩
set_option maxHeartbeats 1000000 in
theorem con15 (h : AirB w a n H S p m hh Fp M) (i : Nat) (hi : i ≤ 1000) : Calls Try.prog 9 #[ptrV a, .int .i64 i] w fun e w' => e = .returned (.bool (S i).isSome) ∧ w' = w := by
  have c1 := h.row.cell 1 rfl
  have hlk := h.on.look i hi
  rw [h.isSome i] at hlk
  generalize (S i).isSome = d at *
  generalize M i = x at *
  cases x with
  | none =>
    simp only [ptrO, Option.map] at hlk
    clear h hi
    go_enter Try.func9, Try.ntmps9
    go_wp2_with fail
    exact bodyPost_ret (v := .bool d) (by simp [results, Try.results9, go_sem]) rfl ⟨rfl, rfl⟩
  | some b =>
    simp only [ptrO, Option.map] at hlk
    clear h hi
    go_enter Try.func9, Try.ntmps9
    go_wp2_with fail
    exact bodyPost_ret (v := .bool d) (by simp [results, Try.results9, go_sem]) rfl ⟨rfl, rfl⟩
theorem cntM_any (h : AirAt w a n H S p m hh Fp M G T) : ((cntM M : Int) == 0) = quietB n S := by
  have hn := h.many
  unfold quietB
  cases hq : (List.range n).any fun k => (S (k + 1)).isSome with
  | true =>
    rw [List.any_eq_true] at hq
    obtain ⟨k, hk, hs⟩ := hq
    rw [List.mem_range] at hk
    rw [Bool.not_true, beq_eq_false_iff_ne]
    have : 0 < cntM M := by
      unfold cntM
      rw [List.countP_pos_iff]
      exact ⟨k + 1, List.mem_range.2 (by omega), by rw [h.isSome]; exact hs⟩
    omega
  | false =>
    rw [List.any_eq_false] at hq
    rw [Bool.not_false, beq_iff_eq]
    have : cntM M = 0 := by
      unfold cntM
      rw [List.countP_eq_zero]
      intro i _
      by_cases hin : 1 ≤ i ∧ i ≤ n
      · have := hq (i - 1) (List.mem_range.2 (by omega))
        rw [show i - 1 + 1 = i by omega] at this
        rw [h.isSome]
        exact this
      · rw [h.inside i hin]
        simp
    omega
set_option maxHeartbeats 1000000 in
theorem cquiet15 (h : AirAt w a n H S p m hh Fp M G T) : Calls Try.prog 13 #[ptrV a] w fun e w' => e = .returned (.bool (quietB n S)) ∧ w' = w := by
  have c1 := h.row.cell 1 rfl
  have hlen := fun ty => h.on.len ty
  rw [← cntM_any h]
  generalize cntM M = c at *
  clear h
  go_enter Try.func13, Try.ntmps13
  go_wp2_with fail
  exact bodyPost_ret (v := .bool ((c : Int) == 0)) (by simp [results, Try.results13, go_sem]) rfl ⟨rfl, rfl⟩
set_option maxHeartbeats 1000000 in
theorem cthere15 (h : AirAt w a n H S p m hh Fp M G T) (i q : Nat) (hi : 1 ≤ i ∧ i ≤ n) (hq : RowAt w q [.int .i64 i]) : Calls Try.prog 19 #[ptrV a, .slice (some ⟨q, 0, none⟩) 1 1] w fun e w' => e = .returned (.int .i64 0) ∧ w' = w := by
  have c0 := h.row.cell 0 rfl
  have x0 := hq.cell 0 rfl
  have HL := Lib.hid h.plane.len
  have d1 : decide ((i : Int) < 1) = false := decide_eq_false (by omega)
  have d2 : decide (n < i) = false := decide_eq_false (by omega)
  clear h hq hi
  go_enter Try.func19, Try.ntmps19
  go_wp2_with fail
  refine wp_loop_rounds 2 ?_
  rw [rounds_succ]
  go_wp2_with (go_at_call 26; (with_reducible refine HL.out.mono ?_); rintro e w1 ⟨rfl, rfl⟩)
  rw [rounds_succ]
  go_wp2_with fail
  exact bodyPost_ret (v := .int .i64 0) (by simp [results, Try.results19, go_sem]) rfl ⟨rfl, rfl⟩
/-- how many one hears that are on, of the first j -/
def voicesN (H : Nat → Nat → Bool) (S : Ai) (i j : Nat) : Nat := (List.range j).countP fun k => (S (k + 1)).isSome && H i (k + 1)
theorem voices_next (H : Nat → Nat → Bool) (S : Ai) (i j : Nat) : voicesN H S i (j + 1) = voicesN H S i j + if ((S (j + 1)).isSome && H i (j + 1)) = true then 1 else 0 := by
  unfold voicesN
  rw [List.range_succ, List.countP_append, List.countP_cons, List.countP_nil]
  omega
theorem voices_le (H : Nat → Nat → Bool) (S : Ai) (i j : Nat) : voicesN H S i j ≤ j := by
  have := List.countP_le_length (p := fun k => (S (k + 1)).isSome && H i (k + 1)) (l := List.range j)
  rwa [List.length_range] at this
set_option maxHeartbeats 1000000 in
theorem cvoices15 (h : AirB w a n H S p m hh Fp M) (i : Nat) (hi : 1 ≤ i ∧ i ≤ n) : Calls Try.prog 25 #[ptrV a, .int .i64 i] w fun e w' => e = .returned (.int .i64 (voicesN H S i n)) ∧ Below w.heap.size w w' := by
  have hn := h.many
  have HA := Lib.hid h
  clear h
  go_enter Try.func25, Try.ntmps25
  go_wp2_with fail
  go_loopw [5, 6] (fun nv jv wx => ∃ j : Nat, j ≤ n ∧ jv = .int .i64 ((j : Int) + 1) ∧ nv = .int .i64 (voicesN H S i j) ∧ Hid (Below w.heap.size w wx)) (fun _ jv _ => n + 1 - (intOf jv).toNat)
  case atStart => exact ⟨0, Nat.zero_le _, rfl, rfl, Lib.hid (Below.refl _ _)⟩
  case round =>
    obtain ⟨j, hj, rfl, rfl, HK⟩ := hrel
    have HW := Lib.hid (HA.out.below HK.out)
    have c0 := HW.out.row.cell 0 rfl
    have HL := Lib.hid HW.out.plane.len
    by_cases hlt : j < n
    · have dk : decide ((j : Int) + 1 ≤ (n : Int)) = true := decide_eq_true (by omega)
      have HO := Lib.hid (show Calls Try.prog 9 #[ptrV a, .int .i64 ((j : Int) + 1)] wr _ from con15 HW.out (j + 1) (by omega))
      have HH := Lib.hid (show Calls Try.prog 36 #[ptrV p, .int .i64 i, .int .i64 ((j : Int) + 1)] wr _ from HW.out.plane.hears i (j + 1) hi (by omega))
      have HV := Lib.hid (voices_next H S i j)
      have HZ := Lib.hid (show wrap64 ((j : Int) + 1 + 1) = (j : Int) + 1 + 1 from IntWalk.wrap64_in _ (by omega))
      have hle := voices_le H S i j
      have z2 : wrap64 ((voicesN H S i j : Nat) + 1) = ((voicesN H S i j : Nat) : Int) + 1 := IntWalk.wrap64_in _ (by omega)
      clear hle
      cases hs : (S (j + 1)).isSome with
      | false =>
        rw [hs] at HO HV
        simp only [Bool.false_and, Bool.false_eq_true, if_false, Nat.add_zero] at HV
        clear HH hs
        go_wp2_with (first
          | (go_at_call 26; (with_reducible refine HL.out.mono ?_); rintro e w1 ⟨rfl, rfl⟩)
          | (go_at_call 9; (with_reducible refine HO.out.mono ?_); rintro e w1 ⟨rfl, rfl⟩))
        go_roundw
        case rel => exact ⟨j + 1, by omega, by (try rw [HZ.out]); exact congrArg (Value.int .i64) (by omega), by rw [HV.out], HK⟩
        case measure =>
          try rw [HZ.out]
          simp [intOf]
          omega
      | true =>
        rw [hs] at HO HV
        rw [Bool.true_and] at HV
        cases ht : H i (j + 1) with
        | false =>
          rw [ht] at HH HV
          simp only [Bool.false_eq_true, if_false, Nat.add_zero] at HV
          clear hs ht
          go_wp2_with (first
            | (go_at_call 26; (with_reducible refine HL.out.mono ?_); rintro e w1 ⟨rfl, rfl⟩)
            | (go_at_call 9; (with_reducible refine HO.out.mono ?_); rintro e w1 ⟨rfl, rfl⟩)
            | (go_at_call 36; (with_reducible refine HH.out.mono ?_); rintro e w2 ⟨rfl, hb⟩; have HB2 := Lib.hid (HK.out.trans (hb.mono HK.out.size)); clear hb))
          go_roundw
          case rel => exact ⟨j + 1, by omega, by (try rw [HZ.out]); exact congrArg (Value.int .i64) (by omega), by rw [HV.out], HB2⟩
          case measure =>
            try rw [HZ.out]
            simp [intOf]
            omega
        | true =>
          rw [ht] at HH HV
          simp only [if_true] at HV
          clear hs ht
          go_wp2_with (first
            | (go_at_call 26; (with_reducible refine HL.out.mono ?_); rintro e w1 ⟨rfl, rfl⟩)
            | (go_at_call 9; (with_reducible refine HO.out.mono ?_); rintro e w1 ⟨rfl, rfl⟩)
            | (go_at_call 36; (with_reducible refine HH.out.mono ?_); rintro e w2 ⟨rfl, hb⟩; have HB2 := Lib.hid (HK.out.trans (hb.mono HK.out.size)); clear hb))
          go_roundw
          case rel => exact ⟨j + 1, by omega, by (try rw [HZ.out]); exact congrArg (Value.int .i64) (by omega), by rw [HV.out]; first | rfl | (rw [z2]; rfl), HB2⟩
          case measure =>
            try rw [HZ.out]
            simp [intOf]
            omega
    · obtain rfl : j = n := by omega
      have dk : decide ((j : Int) + 1 ≤ (j : Int)) = false := decide_eq_false (by omega)
      go_wp2_with (go_at_call 26; (with_reducible refine HL.out.mono ?_); rintro e w1 ⟨rfl, rfl⟩)
      exact bodyPost_ret (v := .int .i64 (voicesN H S i j)) (by simp [results, Try.results25, go_sem]) rfl ⟨rfl, HK.out⟩
theorem hears_voices (H : Nat → Nat → Bool) (S : Ai) (n i : Nat) : hearsO H n S i 0 = decide (0 < voicesN H S i n) := by
  unfold hearsO voicesN
  rw [Bool.eq_iff_iff, decide_eq_true_eq, List.countP_pos_iff, List.any_eq_true]
  simp
theorem chears15 (h : AirAt w a n H S p m hh Fp M G T) (i : Nat) (hi : 1 ≤ i ∧ i ≤ n) : Calls Try.prog 11 #[ptrV a, .int .i64 i] w fun e w' => e = .returned (.bool (hearsO H n S i 0)) ∧ Below w.heap.size w w' := by
  have HV := Lib.hid (cvoices15 h.base i hi)
  rw [hears_voices]
  have e1 : decide (0 < voicesN H S i n) = decide ((0 : Int) < (voicesN H S i n : Int)) := by rw [decide_eq_decide]; omega
  generalize voicesN H S i n = v at *
  clear h hi
  go_enter Try.func11, Try.ntmps11
  go_wp2_with (go_at_call 25; (with_reducible refine HV.out.mono ?_); rintro e w1 ⟨rfl, hb⟩; have HB := Lib.hid hb; clear hb)
  exact bodyPost_ret (v := .bool (decide (0 < v))) (by simp [results, Try.results11, go_sem]) rfl ⟨rfl, HB.out⟩
/-- is what one sends clear to another one in this tick? -/
def clearN (H : Nat → Nat → Bool) (n : Nat) (S : Ai) (i j : Nat) : Bool := !(S j).isSome && (H j i && decide (voicesN H S j n = 1))
set_option maxHeartbeats 1000000 in
theorem cclear15 (h : AirB w a n H S p m hh Fp M) (i j : Nat) (hi : 1 ≤ i ∧ i ≤ n) (hj : 1 ≤ j ∧ j ≤ n) : Calls Try.prog 40 #[ptrV a, .int .i64 i, .int .i64 j] w fun e w' => e = .returned (.bool (clearN H n S i j)) ∧ Below w.heap.size w w' := by
  have HA := Lib.hid h
  have hn := h.many
  have HO := Lib.hid (con15 h j (by omega))
  have HH := Lib.hid (h.plane.hears j i hj hi)
  have HV := Lib.hid (fun W (h : AirB W a n H S p m hh Fp M) => cvoices15 h j hj)
  have c0 := h.row.cell 0 rfl
  have e1 : ∀ x : Nat, decide (x = 1) = ((x : Int) == 1) := fun x => by rw [Bool.eq_iff_iff, decide_eq_true_eq, beq_iff_eq]; omega
  unfold clearN
  rw [e1]
  generalize voicesN H S j n = v at *
  clear h e1
  cases hs : (S j).isSome with
  | true =>
    rw [hs] at HO
    clear hs HH HV
    go_enter Try.func40, Try.ntmps40
    go_wp2_with (go_at_call 9; (with_reducible refine HO.out.mono ?_); rintro e w1 ⟨rfl, rfl⟩)
    exact bodyPost_ret (v := .bool false) (by simp [results, Try.results40, go_sem]) rfl ⟨rfl, Below.refl _ _⟩
  | false =>
    rw [hs] at HO
    cases ht : H j i with
    | false =>
      rw [ht] at HH
      clear hs ht HV
      go_enter Try.func40, Try.ntmps40
      go_wp2_with (first
        | (go_at_call 9; (with_reducible refine HO.out.mono ?_); rintro e w1 ⟨rfl, rfl⟩)
        | (go_at_call 36; (with_reducible refine HH.out.mono ?_); rintro e w2 ⟨rfl, hb⟩; have HB := Lib.hid hb; clear hb))
      exact bodyPost_ret (v := .bool false) (by simp [results, Try.results40, go_sem]) rfl ⟨rfl, HB.out⟩
    | true =>
      rw [ht] at HH
      clear hs ht
      go_enter Try.func40, Try.ntmps40
      go_wp2_with (first
        | (go_at_call 9; (with_reducible refine HO.out.mono ?_); rintro e w1 ⟨rfl, rfl⟩)
        | (go_at_call 36; (with_reducible refine HH.out.mono ?_); rintro e w2 ⟨rfl, hb⟩; have HB := Lib.hid hb; clear hb)
        | (go_at_call 25; (with_reducible refine (HV.out _ (HA.out.below HB.out)).mono ?_); rintro e w3 ⟨rfl, hb⟩; have HB3 := Lib.hid (HB.out.trans (hb.mono HB.out.size)); clear hb))
      exact bodyPost_ret (v := .bool ((v : Int) == 1)) (by simp [results, Try.results40, go_sem]) rfl ⟨rfl, HB3.out⟩
/-- the sender is the only one: as the plain facts say it -/
theorem clear_plain (H : Nat → Nat → Bool) (n : Nat) (S : Ai) (i : Nat) (hi : 1 ≤ i ∧ i ≤ n) (hs : (S i).isSome = true) (j : Nat) : clearN H n S i j = (H j i && (!(S j).isSome && !hearsO H n S j i)) := by
  unfold clearN
  cases hh : H j i with
  | false => simp
  | true =>
    have e : decide (voicesN H S j n = 1) = !hearsO H n S j i := by
      have e2 : List.range n = List.range (i - 1) ++ (i - 1) :: (List.range (n - i)).map (i + ·) := by
        have : n = (i - 1) + (1 + (n - i)) := by omega
        conv => lhs; rw [this, List.range_add, List.range_add]
        simp only [List.range_one, List.map_append, List.map_cons, List.map_nil, List.map_map, Nat.add_zero]
        congr 1
        rw [List.singleton_append]
        congr 1
        apply List.map_congr_left
        intro k _
        simp only [Function.comp]
        omega
      unfold voicesN hearsO
      rw [e2, List.countP_append, List.countP_cons, List.any_append, List.any_cons, show i - 1 + 1 = i by omega, hs, hh]
      have f1 : ∀ (l : List Nat), (∀ k ∈ l, k + 1 ≠ i) → (l.any fun k => decide (k + 1 ≠ i) && ((S (k + 1)).isSome && H j (k + 1))) = decide (0 < l.countP fun k => (S (k + 1)).isSome && H j (k + 1)) := fun l hl => by
        rw [Bool.eq_iff_iff, decide_eq_true_eq, List.countP_pos_iff, List.any_eq_true]
        constructor
        · rintro ⟨k, hk, h1⟩
          exact ⟨k, hk, by rw [Bool.and_eq_true] at h1; exact h1.2⟩
        · rintro ⟨k, hk, h1⟩
          exact ⟨k, hk, by rw [h1, decide_eq_true (hl k hk)]; rfl⟩
      rw [f1 _ (fun k hk => by rw [List.mem_range] at hk; omega), f1 _ (fun k hk => by obtain ⟨x, _, rfl⟩ := List.mem_map.1 hk; omega)]
      generalize (List.range (i - 1)).countP _ = x
      generalize ((List.range (n - i)).map (i + ·)).countP _ = y
      simp only [Bool.and_self, if_true, ne_eq, not_true_eq_false, decide_false, Bool.false_and, Bool.false_or]
      rw [Bool.eq_iff_iff, decide_eq_true_eq, Bool.not_eq_true', Bool.or_eq_false_iff, decide_eq_false_iff_not, decide_eq_false_iff_not]
      omega
    rw [e]
    simp
set_option maxHeartbeats 1000000 in
theorem cleft15 (h : AirAt w a n H S p m hh Fp M G T) (i : Nat) (hi : i ≤ 1000) : Calls Try.prog 10 #[ptrV a, .int .i64 i] w fun e w' => e = .returned (.int .i64 (leftOf (S i))) ∧ Below w.heap.size w w' := by
  have HO := Lib.hid (con15 h.base i hi)
  have c1 := h.row.cell 1 rfl
  have hlk := h.on.look1 i hi
  cases hM : M i with
  | none =>
    have hS := (h.off i hM).1
    rw [hS] at HO ⊢
    simp only [Option.isSome_none] at HO
    clear h hM hS hlk
    show Calls _ _ _ _ fun e w' => e = .returned (.int .i64 0) ∧ _
    go_enter Try.func10, Try.ntmps10
    go_wp2_with (go_at_call 9; (with_reducible refine HO.out.mono ?_); rintro e w1 ⟨rfl, rfl⟩)
    exact bodyPost_ret (v := .int .i64 0) (by simp [results, Try.results10, go_sem]) rfl ⟨rfl, Below.refl _ _⟩
  | some b =>
    obtain ⟨B, hS, -, hb, ho⟩ := h.bu i b hM
    rw [hM] at hlk
    simp only [ptrO, Option.map] at hlk
    rw [hS] at HO ⊢
    simp only [Option.isSome_some] at HO
    have HL := Lib.hid (cbleft15 w b B _ _ hb ho.lead ho.tail ho.many ho.size (by have := ho.in_; omega))
    show Calls _ _ _ _ fun e w' => e = .returned (.int .i64 (B.left : Nat)) ∧ _
    generalize B.left = L at *
    clear h hM hS hb ho
    go_enter Try.func10, Try.ntmps10
    go_wp2_with (first
      | (go_at_call 9; (with_reducible refine HO.out.mono ?_); rintro e w1 ⟨rfl, rfl⟩)
      | (go_at_call 24; (with_reducible refine HL.out.mono ?_); rintro e w2 ⟨rfl, hb⟩; have HB := Lib.hid hb; clear hb))
    exact bodyPost_ret (v := .int .i64 (L : Nat)) (by simp [results, Try.results10, go_sem]) rfl ⟨rfl, HB.out⟩
end
end Go.Proofs.Ytgfipndilngfbaa
