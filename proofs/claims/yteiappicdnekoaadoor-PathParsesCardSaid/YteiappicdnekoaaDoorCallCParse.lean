/-
The landed code's Parse of calls.
-/
import Derived.Test.YteiappicdnekoaaDoorCallCNum
namespace Go.Proofs.YteiappicdnekoaaDoor
open Go.RowKit Go.Sort
set_option maxRecDepth 20000
theorem byte_none (l : List UInt8) (h : ∀ x ∈ l, x ≠ 45) : Lib.indexByte l 45 = -1 := by
  induction l with
  | nil => rfl
  | cons x l ih =>
    have hx : (x == 45) = false := by rw [beq_eq_false_iff_ne]; exact h x List.mem_cons_self
    unfold Lib.indexByte
    rw [hx, ih (fun y hy => h y (List.mem_cons_of_mem _ hy))]
    rfl
theorem byte_at (l r : List UInt8) (h : ∀ x ∈ l, x ≠ 45) : Lib.indexByte (l ++ 45 :: r) 45 = l.length := by
  induction l with
  | nil => rfl
  | cons x l ih =>
    have hx : (x == 45) = false := by rw [beq_eq_false_iff_ne]; exact h x List.mem_cons_self
    have h1 := ih (fun y hy => h y (List.mem_cons_of_mem _ hy))
    have h2 : (((l.length : Nat) : Int) == -1) = false := by rw [beq_eq_false_iff_ne]; omega
    rw [List.cons_append]
    unfold Lib.indexByte
    rw [hx, h1, h2]
    simp
theorem cut_none (l : List UInt8) (h : ∀ x ∈ l, x ≠ 45) : Lib.cut l [45] = (l, [], false) := by
  unfold Lib.cut
  rw [Lib.index_one, byte_none l h, if_neg (by omega)]
theorem cut_at (l r : List UInt8) (h : ∀ x ∈ l, x ≠ 45) : Lib.cut (l ++ 45 :: r) [45] = (l, r, true) := by
  unfold Lib.cut
  rw [Lib.index_one, byte_at l r h, if_pos (by omega)]
  have e1 : ((l.length : Nat) : Int).toNat = l.length := by omega
  have e2 : l ++ 45 :: r = (l ++ [45]) ++ r := by simp
  have e3 : (l ++ 45 :: r).drop (l.length + [(45 : UInt8)].length) = r := by rw [e2, List.drop_left' (by simp)]
  have e4 : (l ++ 45 :: r).take l.length = l := List.take_left' rfl
  rw [e1, e3, e4]
theorem dash_or (s : List UInt8) : (∀ x ∈ s, x ≠ 45) ∨ ∃ l r, s = l ++ 45 :: r ∧ ∀ x ∈ l, x ≠ 45 := by
  induction s with
  | nil => exact Or.inl (fun x hx => by cases hx)
  | cons a s ih =>
    by_cases h : a = 45
    · exact Or.inr ⟨[], s, by rw [h]; rfl, fun x hx => by cases hx⟩
    · rcases ih with ih | ⟨l, r, e, hl⟩
      · exact Or.inl (fun x hx => by
          rcases List.mem_cons.1 hx with rfl | hx
          · exact h
          · exact ih x hx)
      · exact Or.inr ⟨a :: l, r, by rw [e]; rfl, fun x hx => by
          rcases List.mem_cons.1 hx with rfl | hx
          · exact h
          · exact hl x hx⟩
theorem fnd_some (r : List UInt8) : ∀ k, (fndD r k).1 = true → ∃ m, m < k ∧ digD m = r
  | 0, h => by cases h
  | k + 1, h => by
    unfold fndD at h
    by_cases e : digD k = r
    · exact ⟨k, by omega, e⟩
    · rw [if_neg e] at h
      obtain ⟨m, h1, h2⟩ := fnd_some r k h
      exact ⟨m, by omega, h2⟩
theorem atoi_dig (m : Nat) (h : m ≤ 15) : Lib.atoiAll (digD m) = .ok (m : Int) := by
  obtain rfl | rfl | rfl | rfl | rfl | rfl | rfl | rfl | rfl | rfl | rfl | rfl | rfl | rfl | rfl | rfl : m = 0 ∨ m = 1 ∨ m = 2 ∨ m = 3 ∨ m = 4 ∨ m = 5 ∨ m = 6 ∨ m = 7 ∨ m = 8 ∨ m = 9 ∨ m = 10 ∨ m = 11 ∨ m = 12 ∨ m = 13 ∨ m = 14 ∨ m = 15 := by omega
  all_goals decide +kernel
theorem itoa_dig (m : Nat) (h : m ≤ 15) : Lib.itoa (m : Int) = digD m := by
  unfold Lib.itoa
  rw [if_neg (by omega), show ((m : Nat) : Int).toNat = m by omega, dec_digits m h]
theorem num_dig (m : Nat) (h : m ≤ 15) : numD (digD m) = ((m : Int), true) := by
  unfold numD
  rw [atoi_dig m h]
  simp only
  rw [itoa_dig m h, beq_self_eq_true]
theorem num_itoa (r : List UInt8) (h : (numD r).2 = true) : Lib.itoa (numD r).1 = r := by
  unfold numD at h ⊢
  cases hA : Lib.atoiAll r with
  | ok v => rw [hA] at h; simpa using h
  | _ => rw [hA] at h; cases h
/-- the number of a word: of a right call, or of none -/
theorem num_fnd (r : List UInt8) (P : ByteArray) : if (numD r).2 = true ∧ rightD P (numD r).1 = true then (numD r).1 = (((numD r).1.toNat : Nat) : Int) ∧ fndD r 16 = (true, (numD r).1.toNat) else ((fndD r 16).1 && rightD P ((fndD r 16).2 : Int)) = false := by
  by_cases hc : (numD r).2 = true ∧ rightD P (numD r).1 = true
  · rw [if_pos hc]
    obtain ⟨h1, h2⟩ := hc
    obtain ⟨_, _, h3, h4, _⟩ := right_facts _ _ h2
    have e := num_itoa r h1
    have e2 : (numD r).1 = (((numD r).1.toNat : Nat) : Int) := by omega
    refine ⟨e2, ?_⟩
    have e3 : digD (numD r).1.toNat = r := by
      rw [← itoa_dig _ (by omega), ← e2]
      exact e
    have k := fnd_dig (numD r).1.toNat (by omega)
    rw [e3] at k
    exact k
  · rw [if_neg hc]
    cases hf : (fndD r 16).1
    · rfl
    · obtain ⟨m, hm, e⟩ := fnd_some r 16 hf
      have k := fnd_dig m (by omega)
      have k2 := num_dig m (by omega)
      rw [e] at k k2
      rw [k]
      rw [k2] at hc
      cases hr : rightD P ((m : Nat) : Int)
      · rfl
      · exact absurd ⟨rfl, hr⟩ hc
/-- the cells of the answer, still empty, and of the call that is made -/
def FAt (w W : World) (b : ByteArray) (n : Int) (m : Nat) : Prop := EAt w W b n m ∧ ∀ i, W.frozen? ⟨m, i, none⟩ = false
theorem FAt.below {w W W' : World} {b : ByteArray} {n : Int} {m : Nat} (h : FAt w W b n m) (hb : Below W.heap.size W W') : FAt w W' b n m :=
  ⟨h.1.below hb, fun i => (hb.frozen (p := ⟨m, i, none⟩) h.1.2.2.2.2.2).trans (h.2 i)⟩
theorem FAt.start (w w1 : World) (b : ByteArray) (n : Int) (hb : Below (w.alloc (.cells #[.string ⟨#[]⟩, .int .i64 0] 23)).heap.size (w.alloc (.cells #[.string ⟨#[]⟩, .int .i64 0] 23)) w1) : FAt w (w1.alloc (.cells #[.string b, .int .i64 n] 23)) b n w1.heap.size :=
  ⟨EAt.start w w1 b n hb, fun _ => World.frozen?_alloc_at _ _ _ _ rfl⟩
theorem FAt.num {w W : World} {b : ByteArray} {n : Int} {m : Nat} (h : FAt w W b n m) (n' : Int) : FAt w (W.setCell ⟨m, 1, none⟩ (.int .i64 n')) b n' m := by
  obtain ⟨⟨⟨a0, a1⟩, ⟨c0, c1⟩, f, hw, h1, h2⟩, g⟩ := h
  refine ⟨⟨⟨?_, ?_⟩, ⟨?_, set_here c1⟩, fun i => by rw [World.frozen?_setCell]; exact f i, hw.setCell (p := ⟨m, 1, none⟩) (Nat.le_of_lt h1) _, h1, by simpa [World.setCell] using h2⟩, fun i => by rw [World.frozen?_setCell]; exact g i⟩
  · rw [set_block _ _ _ _ _ _ (by omega)]; exact a0
  · rw [set_block _ _ _ _ _ _ (by omega)]; exact a1
  · rw [set_off _ _ _ _ _ (by omega)]; exact c0
theorem cut_below (s : ByteArray) (w : World) (hV : VarsOk w) (h : s.size ≤ 300) (x y : ByteArray) (f : Bool) (hc : Lib.cut s.data.toList [45] = (x.data.toList, y.data.toList, f)) (W : World) (hb : Below w.heap.size w W) :
    Calls Tryd.prog 48 #[.string s, .string ⟨#[45]⟩] W fun e w' => e = .returned (.tuple #[.string x, .string y, .bool f]) ∧ Below W.heap.size W w' := by
  obtain ⟨m, hm⟩ := (hV.below hb).len
  have k := Tryd.strings_Cut s ⟨#[45]⟩ m W (by omega) hm
  rw [show ((⟨#[45]⟩ : ByteArray).data.toList) = [45] from rfl, hc] at k
  refine k.mono fun e w' ⟨he, n, hw⟩ => ⟨?_, ?_⟩
  · rw [he, back_bytes, back_bytes]
  · rw [hw]
    exact Joins.below_draws _ _ _
set_option maxHeartbeats 1000000 in
theorem cparse_plain (s x y P : ByteArray) (w : World) (HC : Hid (∀ W, Below w.heap.size w W → Calls Tryd.prog 48 #[.string s, .string ⟨#[45]⟩] W fun e w' => e = .returned (.tuple #[.string x, .string y, .bool false]) ∧ Below W.heap.size W w')) (HG : Hid (∀ W, Calls Tryd.prog 60 #[.string x] W fun e w' => e = .returned (.string P) ∧ Below W.heap.size W w')) (HR : Hid (∀ W, Calls Tryd.prog 37 #[.agg #[.string P, .int .i64 0]] W fun e w' => e = .returned (.bool true) ∧ Below W.heap.size W w')) :
    Calls Tryd.prog 49 #[.string s] w fun e w' => e = .returned (.tuple #[.agg #[.string P, .int .i64 0], .int .i64 0]) ∧ Below w.heap.size w w' := by
  go_enter Tryd.func49, Tryd.ntmps49
  go_wp2_with (first
    | (go_at_call 48; go_loud (refine (HC.out _ ((Below.refl _ w).alloc (Nat.le_refl _) _)).mono ?_; rintro e w1 ⟨rfl, hb⟩; have HB := Lib.hid hb; clear hb))
    | (go_at_call 60; go_loud (refine (HG.out _).mono ?_; rintro e w2 ⟨rfl, hb⟩; have HF := Lib.hid (FAt.start w w2 P 0 (HB.out.trans (hb.mono HB.out.size))); clear hb HB; obtain ⟨⟨⟨a0, a1⟩, ⟨c0, c1⟩, hf, hw, hm, hm2⟩, hg⟩ := HF.out))
    | (go_at_call 37; ((with_reducible refine (HR.out _).mono ?_); rintro e w4 ⟨rfl, hb⟩; replace HF := Lib.hid (HF.out.below hb); clear hb a0 a1 c0 c1 hf hw hm hm2 hg; obtain ⟨⟨⟨a0, a1⟩, ⟨c0, c1⟩, hf, hw, hm, hm2⟩, hg⟩ := HF.out)))
  obtain ⟨z0, z1⟩ := stored2 (W := w4) (.string P) (.int .i64 0) a0 a1
  exact bodyPost_ret (v := .tuple #[.agg #[.string P, .int .i64 0], .int .i64 0]) (by simp [results, Tryd.results49, go_sem, z0, z1]) rfl ⟨rfl, set2_below hw (Nat.le_refl _) _ _⟩
set_option maxHeartbeats 1000000 in
theorem cparse_plain_no (s x y P : ByteArray) (w : World) (HC : Hid (∀ W, Below w.heap.size w W → Calls Tryd.prog 48 #[.string s, .string ⟨#[45]⟩] W fun e w' => e = .returned (.tuple #[.string x, .string y, .bool false]) ∧ Below W.heap.size W w')) (HG : Hid (∀ W, Calls Tryd.prog 60 #[.string x] W fun e w' => e = .returned (.string P) ∧ Below W.heap.size W w')) (HR : Hid (∀ W, Calls Tryd.prog 37 #[.agg #[.string P, .int .i64 0]] W fun e w' => e = .returned (.bool false) ∧ Below W.heap.size W w')) :
    Calls Tryd.prog 49 #[.string s] w fun e w' => e = .returned (.tuple #[.agg #[.string ⟨#[]⟩, .int .i64 0], .int .i64 12]) ∧ Below w.heap.size w w' := by
  go_enter Tryd.func49, Tryd.ntmps49
  go_wp2_with (first
    | (go_at_call 48; go_loud (refine (HC.out _ ((Below.refl _ w).alloc (Nat.le_refl _) _)).mono ?_; rintro e w1 ⟨rfl, hb⟩; have HB := Lib.hid hb; clear hb))
    | (go_at_call 60; go_loud (refine (HG.out _).mono ?_; rintro e w2 ⟨rfl, hb⟩; have HF := Lib.hid (FAt.start w w2 P 0 (HB.out.trans (hb.mono HB.out.size))); clear hb HB; obtain ⟨⟨⟨a0, a1⟩, ⟨c0, c1⟩, hf, hw, hm, hm2⟩, hg⟩ := HF.out))
    | (go_at_call 37; ((with_reducible refine (HR.out _).mono ?_); rintro e w4 ⟨rfl, hb⟩; replace HF := Lib.hid (HF.out.below hb); clear hb a0 a1 c0 c1 hf hw hm hm2 hg; obtain ⟨⟨⟨a0, a1⟩, ⟨c0, c1⟩, hf, hw, hm, hm2⟩, hg⟩ := HF.out)))
  obtain ⟨z0, z1⟩ := stored2 (W := w4) (.string ⟨#[]⟩) (.int .i64 0) a0 a1
  exact bodyPost_ret (v := .tuple #[.agg #[.string ⟨#[]⟩, .int .i64 0], .int .i64 12]) (by simp [results, Tryd.results49, go_sem, z0, z1]) rfl ⟨rfl, set2_below hw (Nat.le_refl _) _ _⟩
set_option maxHeartbeats 1000000 in
theorem cparse_dash (s x y P : ByteArray) (N : Int) (w : World) (HC : Hid (∀ W, Below w.heap.size w W → Calls Tryd.prog 48 #[.string s, .string ⟨#[45]⟩] W fun e w' => e = .returned (.tuple #[.string x, .string y, .bool true]) ∧ Below W.heap.size W w')) (HG : Hid (∀ W, Calls Tryd.prog 60 #[.string x] W fun e w' => e = .returned (.string P) ∧ Below W.heap.size W w')) (HN : Hid (∀ W, Below w.heap.size w W → Calls Tryd.prog 61 #[.string y] W fun e w' => e = .returned (.tuple #[.int .i64 N, .bool true]) ∧ Below W.heap.size W w')) (HR : Hid (∀ W, Calls Tryd.prog 37 #[.agg #[.string P, .int .i64 N]] W fun e w' => e = .returned (.bool true) ∧ Below W.heap.size W w')) :
    Calls Tryd.prog 49 #[.string s] w fun e w' => e = .returned (.tuple #[.agg #[.string P, .int .i64 N], .int .i64 0]) ∧ Below w.heap.size w w' := by
  go_enter Tryd.func49, Tryd.ntmps49
  go_wp2_with (first
    | (go_at_call 48; go_loud (refine (HC.out _ ((Below.refl _ w).alloc (Nat.le_refl _) _)).mono ?_; rintro e w1 ⟨rfl, hb⟩; have HB := Lib.hid hb; clear hb))
    | (go_at_call 60; go_loud (refine (HG.out _).mono ?_; rintro e w2 ⟨rfl, hb⟩; have HF := Lib.hid (FAt.start w w2 P 0 (HB.out.trans (hb.mono HB.out.size))); clear hb HB; obtain ⟨⟨⟨a0, a1⟩, ⟨c0, c1⟩, hf, hw, hm, hm2⟩, hg⟩ := HF.out))
    | (go_at_call 61; ((with_reducible refine (HN.out _ hw).mono ?_); rintro e w3 ⟨rfl, hb⟩; replace HF := Lib.hid ((HF.out.below hb).num N); have c0w := (hb.cell (p := ⟨w2.heap.size, 0, none⟩) hm2).trans c0; have c1w := (hb.cell (p := ⟨w2.heap.size, 1, none⟩) hm2).trans c1; have g1w := (hb.frozen (p := ⟨w2.heap.size, 1, none⟩) hm2).trans (hg 1); clear hb a0 a1 c0 c1 hf hw hm hm2 hg; obtain ⟨⟨⟨a0, a1⟩, ⟨c0, c1⟩, hf, hw, hm, hm2⟩, hg⟩ := HF.out))
    | (go_at_call 37; ((with_reducible refine (HR.out _).mono ?_); rintro e w4 ⟨rfl, hb⟩; replace HF := Lib.hid (HF.out.below hb); clear hb a0 a1 c0 c1 hf hw hm hm2 hg; obtain ⟨⟨⟨a0, a1⟩, ⟨c0, c1⟩, hf, hw, hm, hm2⟩, hg⟩ := HF.out)))
  obtain ⟨z0, z1⟩ := stored2 (W := w4) (.string P) (.int .i64 N) a0 a1
  exact bodyPost_ret (v := .tuple #[.agg #[.string P, .int .i64 N], .int .i64 0]) (by simp [results, Tryd.results49, go_sem, z0, z1]) rfl ⟨rfl, set2_below hw (Nat.le_refl _) _ _⟩
set_option maxHeartbeats 1000000 in
theorem cparse_dash_no (s x y P : ByteArray) (N : Int) (w : World) (HC : Hid (∀ W, Below w.heap.size w W → Calls Tryd.prog 48 #[.string s, .string ⟨#[45]⟩] W fun e w' => e = .returned (.tuple #[.string x, .string y, .bool true]) ∧ Below W.heap.size W w')) (HG : Hid (∀ W, Calls Tryd.prog 60 #[.string x] W fun e w' => e = .returned (.string P) ∧ Below W.heap.size W w')) (HN : Hid (∀ W, Below w.heap.size w W → Calls Tryd.prog 61 #[.string y] W fun e w' => e = .returned (.tuple #[.int .i64 N, .bool true]) ∧ Below W.heap.size W w')) (HR : Hid (∀ W, Calls Tryd.prog 37 #[.agg #[.string P, .int .i64 N]] W fun e w' => e = .returned (.bool false) ∧ Below W.heap.size W w')) :
    Calls Tryd.prog 49 #[.string s] w fun e w' => e = .returned (.tuple #[.agg #[.string ⟨#[]⟩, .int .i64 0], .int .i64 12]) ∧ Below w.heap.size w w' := by
  go_enter Tryd.func49, Tryd.ntmps49
  go_wp2_with (first
    | (go_at_call 48; go_loud (refine (HC.out _ ((Below.refl _ w).alloc (Nat.le_refl _) _)).mono ?_; rintro e w1 ⟨rfl, hb⟩; have HB := Lib.hid hb; clear hb))
    | (go_at_call 60; go_loud (refine (HG.out _).mono ?_; rintro e w2 ⟨rfl, hb⟩; have HF := Lib.hid (FAt.start w w2 P 0 (HB.out.trans (hb.mono HB.out.size))); clear hb HB; obtain ⟨⟨⟨a0, a1⟩, ⟨c0, c1⟩, hf, hw, hm, hm2⟩, hg⟩ := HF.out))
    | (go_at_call 61; ((with_reducible refine (HN.out _ hw).mono ?_); rintro e w3 ⟨rfl, hb⟩; replace HF := Lib.hid ((HF.out.below hb).num N); have c0w := (hb.cell (p := ⟨w2.heap.size, 0, none⟩) hm2).trans c0; have c1w := (hb.cell (p := ⟨w2.heap.size, 1, none⟩) hm2).trans c1; have g1w := (hb.frozen (p := ⟨w2.heap.size, 1, none⟩) hm2).trans (hg 1); clear hb a0 a1 c0 c1 hf hw hm hm2 hg; obtain ⟨⟨⟨a0, a1⟩, ⟨c0, c1⟩, hf, hw, hm, hm2⟩, hg⟩ := HF.out))
    | (go_at_call 37; ((with_reducible refine (HR.out _).mono ?_); rintro e w4 ⟨rfl, hb⟩; replace HF := Lib.hid (HF.out.below hb); clear hb a0 a1 c0 c1 hf hw hm hm2 hg; obtain ⟨⟨⟨a0, a1⟩, ⟨c0, c1⟩, hf, hw, hm, hm2⟩, hg⟩ := HF.out)))
  obtain ⟨z0, z1⟩ := stored2 (W := w4) (.string ⟨#[]⟩) (.int .i64 0) a0 a1
  exact bodyPost_ret (v := .tuple #[.agg #[.string ⟨#[]⟩, .int .i64 0], .int .i64 12]) (by simp [results, Tryd.results49, go_sem, z0, z1]) rfl ⟨rfl, set2_below hw (Nat.le_refl _) _ _⟩
set_option maxHeartbeats 1000000 in
theorem cparse_dash_bad (s x y P : ByteArray) (N : Int) (w : World) (HC : Hid (∀ W, Below w.heap.size w W → Calls Tryd.prog 48 #[.string s, .string ⟨#[45]⟩] W fun e w' => e = .returned (.tuple #[.string x, .string y, .bool true]) ∧ Below W.heap.size W w')) (HG : Hid (∀ W, Calls Tryd.prog 60 #[.string x] W fun e w' => e = .returned (.string P) ∧ Below W.heap.size W w')) (HN : Hid (∀ W, Below w.heap.size w W → Calls Tryd.prog 61 #[.string y] W fun e w' => e = .returned (.tuple #[.int .i64 N, .bool false]) ∧ Below W.heap.size W w')) :
    Calls Tryd.prog 49 #[.string s] w fun e w' => e = .returned (.tuple #[.agg #[.string ⟨#[]⟩, .int .i64 0], .int .i64 12]) ∧ Below w.heap.size w w' := by
  go_enter Tryd.func49, Tryd.ntmps49
  go_wp2_with (first
    | (go_at_call 48; go_loud (refine (HC.out _ ((Below.refl _ w).alloc (Nat.le_refl _) _)).mono ?_; rintro e w1 ⟨rfl, hb⟩; have HB := Lib.hid hb; clear hb))
    | (go_at_call 60; go_loud (refine (HG.out _).mono ?_; rintro e w2 ⟨rfl, hb⟩; have HF := Lib.hid (FAt.start w w2 P 0 (HB.out.trans (hb.mono HB.out.size))); clear hb HB; obtain ⟨⟨⟨a0, a1⟩, ⟨c0, c1⟩, hf, hw, hm, hm2⟩, hg⟩ := HF.out))
    | (go_at_call 61; ((with_reducible refine (HN.out _ hw).mono ?_); rintro e w3 ⟨rfl, hb⟩; replace HF := Lib.hid ((HF.out.below hb).num N); have c0w := (hb.cell (p := ⟨w2.heap.size, 0, none⟩) hm2).trans c0; have c1w := (hb.cell (p := ⟨w2.heap.size, 1, none⟩) hm2).trans c1; have g1w := (hb.frozen (p := ⟨w2.heap.size, 1, none⟩) hm2).trans (hg 1); clear hb a0 a1 c0 c1 hf hw hm hm2 hg; obtain ⟨⟨⟨a0, a1⟩, ⟨c0, c1⟩, hf, hw, hm, hm2⟩, hg⟩ := HF.out)))
  obtain ⟨z0, z1⟩ := stored2 (W := (w3.setCell ⟨w2.heap.size, 1, none⟩ (.int .i64 N))) (.string ⟨#[]⟩) (.int .i64 0) a0 a1
  exact bodyPost_ret (v := .tuple #[.agg #[.string ⟨#[]⟩, .int .i64 0], .int .i64 12]) (by simp [results, Tryd.results49, go_sem, z0, z1]) rfl ⟨rfl, set2_below hw (Nat.le_refl _) _ _⟩
theorem cparse_ok : CParseOk := fun s w hV h => by
  have hlen : s.data.toList.length = s.size := by simp
  rcases dash_or s.data.toList with hl | ⟨l, r, he, hl⟩
  · have HC := Lib.hid (cut_below s w hV h s ⟨#[]⟩ false (cut_none _ hl))
    have HG := Lib.hid (fun W => great_any s W h)
    rw [read_end _ hl]
    obtain ⟨P, hP⟩ : ∃ P : ByteArray, P = ⟨(s.data.toList.map upD).toArray⟩ := ⟨_, rfl⟩
    have hPs : P.size ≤ 300 := by rw [hP]; show (List.toArray _).size ≤ 300; rw [List.size_toArray, List.length_map]; omega
    rw [← hP] at HG
    have HR := Lib.hid (fun W => cright_ok P 0 W hPs)
    unfold readE
    rw [← hP]
    cases hr : rightD P 0
    · rw [hr] at HR
      exact cparse_plain_no s s ⟨#[]⟩ P w HC HG HR
    · rw [hr] at HR
      have k := cparse_plain s s ⟨#[]⟩ P w HC HG HR
      rw [hP] at k
      exact k
  · have hs2 : l.length + (r.length + 1) = s.size := by rw [← hlen, he]; simp
    have HC := Lib.hid (cut_below s w hV h ⟨l.toArray⟩ ⟨r.toArray⟩ true (by rw [he]; exact cut_at _ _ hl))
    have HG := Lib.hid (fun W => great_any ⟨l.toArray⟩ W (by show (List.toArray _).size ≤ 300; rw [List.size_toArray]; omega))
    have HN := Lib.hid (fun W (hb : Below w.heap.size w W) => cnum_any ⟨r.toArray⟩ W (hV.below hb) (by show (List.toArray _).size ≤ 300; rw [List.size_toArray]; omega))
    rw [show ((⟨l.toArray⟩ : ByteArray).data.toList) = l from rfl] at HG
    rw [show ((⟨r.toArray⟩ : ByteArray).data.toList) = r from rfl] at HN
    rw [he, read_dash _ _ hl]
    obtain ⟨P, hP⟩ : ∃ P : ByteArray, P = ⟨(l.map upD).toArray⟩ := ⟨_, rfl⟩
    have hPs : P.size ≤ 300 := by rw [hP]; show (List.toArray _).size ≤ 300; rw [List.size_toArray, List.length_map]; omega
    rw [← hP] at HG ⊢
    have hnum := num_fnd r P
    rcases hq : numD r with ⟨N, B⟩
    rw [hq] at hnum HN
    simp only at hnum HN
    have HR := Lib.hid (fun W => cright_ok P N W hPs)
    unfold readE
    cases hB : B
    · rw [hB] at HN hnum
      rw [if_neg (by simp)] at hnum
      rw [hnum]
      exact cparse_dash_bad s _ _ P N w HC HG HN
    · rw [hB] at HN hnum
      cases hr : rightD P N
      · rw [hr] at HR hnum
        rw [if_neg (by simp)] at hnum
        rw [hnum]
        exact cparse_dash_no s _ _ P N w HC HG HN HR
      · rw [hr] at HR hnum
        rw [if_pos ⟨rfl, rfl⟩] at hnum
        obtain ⟨e1, e2⟩ := hnum
        have k := cparse_dash s _ _ P N w HC HG HN HR
        rw [e2]
        simp only [Bool.true_and]
        rw [← e1, hr, if_pos rfl]
        simp only
        rw [← e1, ← hP]
        exact k
end Go.Proofs.YteiappicdnekoaaDoor
