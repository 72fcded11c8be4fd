/-
The landed code's Get of calls.
A scope with several labels: what holds at each jump, and a measure that each jump lowers.
-/
import Derived.Test.YtgoaepjjegblnaaGreatDoorMix18
import Derived.Test.YtgoaepjjegblnaaGreatDoorMix19
import Derived.Lib.SmallJoins
import Derived.Lib.ItoaNum
import Derived.Lib.QuietBelow
import Derived.Lib.IndexBytes
import Derived.IntWalk
import Derived.Test.YtgoaepjjegblnaaGreatDoorProg
import Derived.WalkKit
import Derived.Scope
import Derived.WalkMore
namespace Go.Proofs.YtgoaepjjegblnaaGreatDoor
open Go.RowKit Go.Sort
set_option maxRecDepth 20000
theorem cget_short (s : ByteArray) (w : World) (h : s.size < 7) :
    Calls Tryz.prog 191 #[.string s] w fun e w' => e = .returned (.tuple #[.agg #[.string ⟨#[]⟩, .int .i64 0], .bool false, .bool false, .int .i64 4]) ∧ Below w.heap.size w w' := by
  have d7 : decide ((s.size : Int) < 7) = true := decide_eq_true (by omega)
  go_enter Tryz.func191, Tryz.ntmps191
  go_wp2
  exact bodyPost_ret (v := .tuple #[.agg #[.string ⟨#[]⟩, .int .i64 0], .bool false, .bool false, .int .i64 4]) (by simp [results, Tryz.results191, go_sem]) rfl ⟨rfl, (Below.refl _ w).alloc (Nat.le_refl _) _⟩
theorem cget_long (s : ByteArray) (w : World) (h : 7 < s.size) :
    Calls Tryz.prog 191 #[.string s] w fun e w' => e = .returned (.tuple #[.agg #[.string ⟨#[]⟩, .int .i64 0], .bool false, .bool false, .int .i64 5]) ∧ Below w.heap.size w w' := by
  have d7 : decide ((s.size : Int) < 7) = false := decide_eq_false (by omega)
  have d8 : decide ((7 : Int) < (s.size : Int)) = true := decide_eq_true (by omega)
  go_enter Tryz.func191, Tryz.ntmps191
  go_wp2
  exact bodyPost_ret (v := .tuple #[.agg #[.string ⟨#[]⟩, .int .i64 0], .bool false, .bool false, .int .i64 5]) (by simp [results, Tryz.results191, go_sem]) rfl ⟨rfl, (Below.refl _ w).alloc (Nat.le_refl _) _⟩
/-- the answer's cells, still empty, and those of a call that was read -/
def EAt (w W : World) (b : ByteArray) (n : Int) (m : Nat) : Prop :=
  (W.cell? ⟨w.heap.size, 0, none⟩ = some (.string ⟨#[]⟩) ∧ W.cell? ⟨w.heap.size, 1, none⟩ = some (.int .i64 0)) ∧
  (W.cell? ⟨m, 0, none⟩ = some (.string b) ∧ W.cell? ⟨m, 1, none⟩ = some (.int .i64 n)) ∧
  (∀ i, W.frozen? ⟨w.heap.size, i, none⟩ = false) ∧ Below w.heap.size w W ∧ w.heap.size < m ∧ m < W.heap.size
theorem EAt.below {w W W' : World} {b : ByteArray} {n : Int} {m : Nat} (h : EAt w W b n m) (hb : Below W.heap.size W W') : EAt w W' b n m := by
  obtain ⟨⟨a0, a1⟩, ⟨c0, c1⟩, f, hw, h1, h2⟩ := h
  have k := fun (j i : Nat) (hm : j < W.heap.size) => hb.cell (p := ⟨j, i, none⟩) hm
  have q := fun (j i : Nat) (hm : j < W.heap.size) => hb.frozen (p := ⟨j, i, none⟩) hm
  exact ⟨⟨(k _ _ (by omega)).trans a0, (k _ _ (by omega)).trans a1⟩, ⟨(k _ _ h2).trans c0, (k _ _ h2).trans c1⟩, fun i => (q _ _ (by omega)).trans (f i), hw.trans (hb.mono hw.size), h1, Nat.lt_of_lt_of_le h2 hb.size⟩
theorem EAt.start (w w1 : World) (b : ByteArray) (n : Int) (hb : Below (w.alloc (.cells #[.string ⟨#[]⟩, .int .i64 0] 54)).heap.size (w.alloc (.cells #[.string ⟨#[]⟩, .int .i64 0] 54)) w1) : EAt w (w1.alloc (.cells #[.string b, .int .i64 n] 54)) b n w1.heap.size := by
  have hs : w.heap.size < w1.heap.size := Nat.lt_of_lt_of_le (by simp) hb.size
  have k := fun (i : Nat) => (show (w1.alloc (.cells #[.string b, .int .i64 n] 54)).cell? ⟨w.heap.size, i, none⟩ = w1.cell? ⟨w.heap.size, i, none⟩ from World.cell?_alloc_past _ _ _ (by simpa using hs)).trans (hb.cell (p := ⟨w.heap.size, i, none⟩) (by simp))
  have q := fun (i : Nat) => (show (w1.alloc (.cells #[.string b, .int .i64 n] 54)).frozen? ⟨w.heap.size, i, none⟩ = w1.frozen? ⟨w.heap.size, i, none⟩ from World.frozen?_alloc_past _ _ _ (by simpa using hs)).trans (hb.frozen (p := ⟨w.heap.size, i, none⟩) (by simp))
  exact ⟨⟨(k 0).trans (World.cell?_alloc_at _ _ _ _ rfl), (k 1).trans (World.cell?_alloc_at _ _ _ _ rfl)⟩, ⟨World.cell?_alloc_at _ _ _ _ rfl, World.cell?_alloc_at _ _ _ _ rfl⟩, fun i => (q i).trans (World.frozen?_alloc_at _ _ _ _ rfl), (((Below.refl _ w).alloc (Nat.le_refl _) _).trans (hb.mono (by simp))).alloc (by omega) _, hs, by simp⟩
set_option maxHeartbeats 1000000 in
theorem cget_seven (s : ByteArray) (w : World) (h : s.size = 7) :
    Calls Tryz.prog 191 #[.string s] w fun e w' => e = .returned (getE s.data.toList) ∧ Below w.heap.size w w' := by
  have d7 : decide ((s.size : Int) < 7) = false := decide_eq_false (by omega)
  have d8 : decide ((7 : Int) < (s.size : Int)) = false := decide_eq_false (by omega)
  have hl : s.data.toList.length = 7 := by simpa using h
  have HD := Lib.hid (fun W => cread_any s W h)
  have hno := code_no s.data.toList
  obtain ⟨x, hx⟩ : ∃ x, x = (s.data.toList.getD 6 0).toNat := ⟨_, rfl⟩
  rw [← hx] at HD hno
  obtain ⟨N, hN⟩ : ∃ N : Nat, N = x / 2 % 16 := ⟨_, rfl⟩
  obtain ⟨M, hM⟩ : ∃ M : Bool, M = decide ((128 : Int) ≤ (x : Int)) := ⟨_, rfl⟩
  obtain ⟨L, hL⟩ : ∃ L : Bool, L = ((x : Int) % 2 == 1) := ⟨_, rfl⟩
  rw [← hN, ← hM, ← hL] at HD hno
  have hyes := code_yes s.data.toList N M L
  obtain ⟨R, hR⟩ : ∃ R : ByteArray, R = ⟨(rdD s.data.toList).toArray⟩ := ⟨_, rfl⟩
  have hRl : R.data.toList = rdD s.data.toList := by rw [hR]
  have hRs : R.size ≤ 300 := by
    have k1 : R.data.toList.length = R.size := by simp
    have k2 : (rdD s.data.toList).length ≤ 6 := by
      unfold rdD Lib.trimRightB
      rw [List.length_reverse]
      refine Nat.le_trans (List.dropWhile_sublist _).length_le ?_
      rw [List.length_reverse, List.length_map]
      exact List.length_take_le _ _
    rw [hRl] at k1
    omega
  rw [← hR] at HD hno hyes
  have HU := Lib.hid (fun W => cput_ok R (N : Int) M L W hRs)
  unfold putE at HU
  rw [hRl, show ((N : Int)).toNat = N by omega] at HU
  by_cases h1 : rightD R (N : Int) = true
  · rw [if_pos h1] at HU
    have ez : ((0 : Int) != 0) = false := rfl
    by_cases h2 : putD (rdD s.data.toList) N M L = s.data.toList
    · have hg := hyes h1 h2
      have hne : (s.toList == s.toList) = true := beq_self_eq_true _
      rw [h2, back_bytes] at HU
      have he : getE s.data.toList = .tuple #[.agg #[.string R, .int .i64 (N : Int)], .bool M, .bool L, .int .i64 0] := by
        unfold getE
        rw [hg, hR]
        rfl
      rw [he]
      clear he hg hyes hno hl h1 h2 hx hN hM hL hR hRl hRs
      go_enter Tryz.func191, Tryz.ntmps191
      go_wp2_with (first
        | (go_at_call 225; go_loud (refine (HD.out _).mono ?_; rintro e w1 ⟨rfl, hb⟩; have HE := Lib.hid (EAt.start w w1 R (N : Int) hb); clear hb; obtain ⟨⟨a0, a1⟩, ⟨c0, c1⟩, hf, hw, hm, hm2⟩ := HE.out))
        | (go_at_call 160; ((with_reducible refine (HU.out _).mono ?_); rintro e w2 ⟨rfl, hb⟩; replace HE := Lib.hid (HE.out.below hb); clear hb a0 a1 c0 c1 hf hw hm hm2; obtain ⟨⟨a0, a1⟩, ⟨c0, c1⟩, hf, hw, hm, hm2⟩ := HE.out)))
      obtain ⟨z0, z1⟩ := stored2 (W := w2) (.string R) (.int .i64 (N : Int)) a0 a1
      exact bodyPost_ret (v := .tuple #[.agg #[.string R, .int .i64 (N : Int)], .bool M, .bool L, .int .i64 0]) (by simp [results, Tryz.results191, go_sem, z0, z1]) rfl ⟨rfl, set2_below hw (Nat.le_refl _) _ _⟩
    · have hg := hno (fun q => h2 q.2)
      obtain ⟨U, hU⟩ : ∃ U : ByteArray, U = ⟨(putD (rdD s.data.toList) N M L).toArray⟩ := ⟨_, rfl⟩
      rw [← hU] at HU
      have hne : (U.toList == s.toList) = false := by
        rw [Lib.toList_data, Lib.toList_data, beq_eq_false_iff_ne, hU]
        exact h2
      have hnn : (U.toList != s.toList) = true := by
        show (!(U.toList == s.toList)) = true
        rw [hne]; rfl
      have he : getE s.data.toList = .tuple #[.agg #[.string ⟨#[]⟩, .int .i64 0], .bool false, .bool false, .int .i64 2] := by
        unfold getE
        rw [hg, hl]
        rfl
      rw [he]
      clear he hg hyes hno hl h1 h2 hx hN hM hL hR hRl hRs hU
      go_enter Tryz.func191, Tryz.ntmps191
      go_wp2_with (first
        | (go_at_call 225; go_loud (refine (HD.out _).mono ?_; rintro e w1 ⟨rfl, hb⟩; have HE := Lib.hid (EAt.start w w1 R (N : Int) hb); clear hb; obtain ⟨⟨a0, a1⟩, ⟨c0, c1⟩, hf, hw, hm, hm2⟩ := HE.out))
        | (go_at_call 160; ((with_reducible refine (HU.out _).mono ?_); rintro e w2 ⟨rfl, hb⟩; replace HE := Lib.hid (HE.out.below hb); clear hb a0 a1 c0 c1 hf hw hm hm2; obtain ⟨⟨a0, a1⟩, ⟨c0, c1⟩, hf, hw, hm, hm2⟩ := HE.out)))
      obtain ⟨z0, z1⟩ := stored2 (W := w2) (.string ⟨#[]⟩) (.int .i64 0) a0 a1
      exact bodyPost_ret (v := .tuple #[.agg #[.string ⟨#[]⟩, .int .i64 0], .bool false, .bool false, .int .i64 2]) (by simp [results, Tryz.results191, go_sem, z0, z1]) rfl ⟨rfl, set2_below hw (Nat.le_refl _) _ _⟩
  · rw [if_neg h1] at HU
    have hg := hno (fun q => h1 q.1)
    have he : getE s.data.toList = .tuple #[.agg #[.string ⟨#[]⟩, .int .i64 0], .bool false, .bool false, .int .i64 2] := by
      unfold getE
      rw [hg, hl]
      rfl
    rw [he]
    clear he hg hyes hno hl h1 hx hN hM hL hR hRl hRs
    go_enter Tryz.func191, Tryz.ntmps191
    go_wp2_with (first
      | (go_at_call 225; go_loud (refine (HD.out _).mono ?_; rintro e w1 ⟨rfl, hb⟩; have HE := Lib.hid (EAt.start w w1 R (N : Int) hb); clear hb; obtain ⟨⟨a0, a1⟩, ⟨c0, c1⟩, hf, hw, hm, hm2⟩ := HE.out))
      | (go_at_call 160; ((with_reducible refine (HU.out _).mono ?_); rintro e w2 ⟨rfl, hb⟩; replace HE := Lib.hid (HE.out.below hb); clear hb a0 a1 c0 c1 hf hw hm hm2; obtain ⟨⟨a0, a1⟩, ⟨c0, c1⟩, hf, hw, hm, hm2⟩ := HE.out)))
    obtain ⟨z0, z1⟩ := stored2 (W := w2) (.string ⟨#[]⟩) (.int .i64 0) a0 a1
    exact bodyPost_ret (v := .tuple #[.agg #[.string ⟨#[]⟩, .int .i64 0], .bool false, .bool false, .int .i64 2]) (by simp [results, Tryz.results191, go_sem, z0, z1]) rfl ⟨rfl, set2_below hw (Nat.le_refl _) _ _⟩
theorem cget_ok : CGetOk := fun s w _ => by
  have hl : s.data.toList.length = s.size := by simp
  by_cases h7 : s.size = 7
  · exact cget_seven s w h7
  · have hg : getD7 s.data.toList = (false, [], 0, false, false) := by
      unfold getD7
      rw [if_neg (fun q => h7 (by rw [← hl]; exact q.1))]
    unfold getE
    rw [hg, hl]
    by_cases h : s.size < 7
    · rw [if_neg (by simp), if_pos h]
      exact cget_short s w h
    · rw [if_neg (by simp), if_neg h, if_pos (by omega)]
      exact cget_long s w (by omega)
end Go.Proofs.YtgoaepjjegblnaaGreatDoor
namespace Go.Proofs.YtgoaepjjegblnaaGreatDoor
set_option maxRecDepth 20000
/-- by a goto to l: J l; else Q -/
def jumps (J : Nat → Act → World → Prop) (Q : Exit → Act → World → Prop) : Exit → Act → World → Prop
  | .goto l, a, w => J l a w
  | e, a, w => Q e a w
theorem jumps_ret (J : Nat → Act → World → Prop) (Q : Exit → Act → World → Prop) (a : Act) (w : World) : jumps J Q .ret a w = Q .ret a w := rfl
theorem scope_places {P : Program} {a : Act} {w : World} {Q : Exit → Act → World → Prop} {c : Code} (J : Nat → Act → World → Prop) (μ : Nat → Act → World → Nat)
    (first : c.wp P (jumps J Q) a w)
    (pass : ∀ l a w, J l a w → ∃ rest, findLabel c l = some rest ∧ rest.wp P (jumps (fun l' a' w' => J l' a' w' ∧ μ l' a' w' < μ l a w) Q) a w) : (Code.scope c).wp P Q a w := by
  intro b k cs
  have hg : ∀ l rest, findLabel c l = some rest → gotoIn l (.inScope c :: k) = some (.code rest :: .inScope c :: k) := fun l rest hf => by simp [gotoIn, hf]
  have key : ∀ n l a w rest, findLabel c l = some rest → μ l a w = n → J l a w → ∃ e a' w', Q e a' w' ∧ Arrives P (lone (b.at a (.code rest :: .inScope c :: k)) cs w) b k cs e a' w' := by
    intro n
    induction n using Nat.strongRecOn with
    | _ n ih =>
      intro l a w rest hf hn hJ
      obtain ⟨rest', hf', hp⟩ := pass l a w hJ
      rw [hf] at hf'
      obtain rfl := Option.some.inj hf'
      obtain ⟨e, a₁, w₁, hq, harr⟩ := hp b (.inScope c :: k) cs
      cases e with
      | normal => exact ⟨.normal, a₁, w₁, hq, Steps.trans harr (.one step_inScope)⟩
      | exit id => exact ⟨.exit id, a₁, w₁, hq, fun k' hk => harr k' (by simp [exitTo, hk])⟩
      | goto l' =>
        obtain ⟨hJ', hlt⟩ := hq
        obtain ⟨rest2, hf2, _⟩ := pass l' a₁ w₁ hJ'
        obtain ⟨e₂, a₂, w₂, hq₂, harr₂⟩ := ih _ (by omega) l' a₁ w₁ rest2 hf2 rfl hJ'
        exact ⟨e₂, a₂, w₂, hq₂, .of_steps (harr _ (hg l' rest2 hf2)) harr₂⟩
      | ret => exact ⟨_, a₁, w₁, hq, harr⟩
      | panic ch => exact ⟨_, a₁, w₁, hq, harr⟩
      | outgrown => exact ⟨_, a₁, w₁, hq, harr⟩
  obtain ⟨e, a₁, w₁, hq, harr⟩ := first b (.inScope c :: k) cs
  cases e with
  | normal => exact ⟨.normal, a₁, w₁, hq, .head step_scope (Steps.trans harr (.one step_inScope))⟩
  | exit id => exact ⟨.exit id, a₁, w₁, hq, fun k' hk => .head step_scope (harr k' (by simp [exitTo, hk]))⟩
  | goto l' =>
    obtain ⟨rest, hf, _⟩ := pass l' a₁ w₁ hq
    obtain ⟨e₂, a₂, w₂, hq₂, harr₂⟩ := key _ l' a₁ w₁ rest hf rfl hq
    exact ⟨e₂, a₂, w₂, hq₂, .of_steps (.head step_scope (harr _ (hg l' rest hf))) harr₂⟩
  | ret => exact ⟨_, a₁, w₁, hq, .of_steps (.one step_scope) harr⟩
  | panic ch => exact ⟨_, a₁, w₁, hq, .of_steps (.one step_scope) harr⟩
  | outgrown => exact ⟨_, a₁, w₁, hq, .of_steps (.one step_scope) harr⟩
end Go.Proofs.YtgoaepjjegblnaaGreatDoor
