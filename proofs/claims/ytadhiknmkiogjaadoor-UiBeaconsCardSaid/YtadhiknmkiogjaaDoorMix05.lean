/-
The landed code's Get of calls.
A scope with several labels: what holds at each jump, and a measure that each jump lowers.
The landed code's of.
The document's own Right of paths.
-/
import Derived.Test.YtadhiknmkiogjaaDoorMix04
import Derived.Lib.SmallJoins
import Derived.Lib.ItoaNum
import Derived.Lib.QuietBelow
import Derived.Lib.IndexBytes
import Derived.IntWalk
import Derived.Test.YtadhiknmkiogjaaDoorProg
import Derived.WalkKit
import Derived.Scope
import Derived.WalkMore
import Derived.Test.YtadhiknmkiogjaaDoorPathBase
import Derived.OrdersHeld
import Derived.Deep.RegionHeld
import Derived.BigRegion
import Derived.BigQuiet
import Derived.Deep.QuietTactic
namespace Go.Proofs.YtadhiknmkiogjaaDoor
open Go.RowKit Go.Sort
set_option maxRecDepth 20000
theorem cget_short (s : ByteArray) (w : World) (h : s.size < 7) :
    Calls Tryd.prog 66 #[.string s] w fun e w' => e = .returned (.tuple #[.agg #[.string ⟨#[]⟩, .int .i64 0], .bool false, .bool false, .int .i64 4]) ∧ Below w.heap.size w w' := by
  have d7 : decide ((s.size : Int) < 7) = true := decide_eq_true (by omega)
  go_enter Tryd.func66, Tryd.ntmps66
  go_wp2
  exact bodyPost_ret (v := .tuple #[.agg #[.string ⟨#[]⟩, .int .i64 0], .bool false, .bool false, .int .i64 4]) (by simp [results, Tryd.results66, go_sem]) rfl ⟨rfl, (Below.refl _ w).alloc (Nat.le_refl _) _⟩
theorem cget_long (s : ByteArray) (w : World) (h : 7 < s.size) :
    Calls Tryd.prog 66 #[.string s] w fun e w' => e = .returned (.tuple #[.agg #[.string ⟨#[]⟩, .int .i64 0], .bool false, .bool false, .int .i64 5]) ∧ Below w.heap.size w w' := by
  have d7 : decide ((s.size : Int) < 7) = false := decide_eq_false (by omega)
  have d8 : decide ((7 : Int) < (s.size : Int)) = true := decide_eq_true (by omega)
  go_enter Tryd.func66, Tryd.ntmps66
  go_wp2
  exact bodyPost_ret (v := .tuple #[.agg #[.string ⟨#[]⟩, .int .i64 0], .bool false, .bool false, .int .i64 5]) (by simp [results, Tryd.results66, go_sem]) rfl ⟨rfl, (Below.refl _ w).alloc (Nat.le_refl _) _⟩
/-- the answer's cells, still empty, and those of a call that was read -/
def EAt (w W : World) (b : ByteArray) (n : Int) (m : Nat) : Prop :=
  (W.cell? ⟨w.heap.size, 0, none⟩ = some (.string ⟨#[]⟩) ∧ W.cell? ⟨w.heap.size, 1, none⟩ = some (.int .i64 0)) ∧
  (W.cell? ⟨m, 0, none⟩ = some (.string b) ∧ W.cell? ⟨m, 1, none⟩ = some (.int .i64 n)) ∧
  (∀ i, W.frozen? ⟨w.heap.size, i, none⟩ = false) ∧ Below w.heap.size w W ∧ w.heap.size < m ∧ m < W.heap.size
theorem EAt.below {w W W' : World} {b : ByteArray} {n : Int} {m : Nat} (h : EAt w W b n m) (hb : Below W.heap.size W W') : EAt w W' b n m := by
  obtain ⟨⟨a0, a1⟩, ⟨c0, c1⟩, f, hw, h1, h2⟩ := h
  have k := fun (j i : Nat) (hm : j < W.heap.size) => hb.cell (p := ⟨j, i, none⟩) hm
  have q := fun (j i : Nat) (hm : j < W.heap.size) => hb.frozen (p := ⟨j, i, none⟩) hm
  exact ⟨⟨(k _ _ (by omega)).trans a0, (k _ _ (by omega)).trans a1⟩, ⟨(k _ _ h2).trans c0, (k _ _ h2).trans c1⟩, fun i => (q _ _ (by omega)).trans (f i), hw.trans (hb.mono hw.size), h1, Nat.lt_of_lt_of_le h2 hb.size⟩
theorem EAt.start (w w1 : World) (b : ByteArray) (n : Int) (hb : Below (w.alloc (.cells #[.string ⟨#[]⟩, .int .i64 0] 23)).heap.size (w.alloc (.cells #[.string ⟨#[]⟩, .int .i64 0] 23)) w1) : EAt w (w1.alloc (.cells #[.string b, .int .i64 n] 23)) b n w1.heap.size := by
  have hs : w.heap.size < w1.heap.size := Nat.lt_of_lt_of_le (by simp) hb.size
  have k := fun (i : Nat) => (show (w1.alloc (.cells #[.string b, .int .i64 n] 23)).cell? ⟨w.heap.size, i, none⟩ = w1.cell? ⟨w.heap.size, i, none⟩ from World.cell?_alloc_past _ _ _ (by simpa using hs)).trans (hb.cell (p := ⟨w.heap.size, i, none⟩) (by simp))
  have q := fun (i : Nat) => (show (w1.alloc (.cells #[.string b, .int .i64 n] 23)).frozen? ⟨w.heap.size, i, none⟩ = w1.frozen? ⟨w.heap.size, i, none⟩ from World.frozen?_alloc_past _ _ _ (by simpa using hs)).trans (hb.frozen (p := ⟨w.heap.size, i, none⟩) (by simp))
  exact ⟨⟨(k 0).trans (World.cell?_alloc_at _ _ _ _ rfl), (k 1).trans (World.cell?_alloc_at _ _ _ _ rfl)⟩, ⟨World.cell?_alloc_at _ _ _ _ rfl, World.cell?_alloc_at _ _ _ _ rfl⟩, fun i => (q i).trans (World.frozen?_alloc_at _ _ _ _ rfl), (((Below.refl _ w).alloc (Nat.le_refl _) _).trans (hb.mono (by simp))).alloc (by omega) _, hs, by simp⟩
set_option maxHeartbeats 1000000 in
theorem cget_seven (s : ByteArray) (w : World) (h : s.size = 7) :
    Calls Tryd.prog 66 #[.string s] w fun e w' => e = .returned (getE s.data.toList) ∧ Below w.heap.size w w' := by
  have d7 : decide ((s.size : Int) < 7) = false := decide_eq_false (by omega)
  have d8 : decide ((7 : Int) < (s.size : Int)) = false := decide_eq_false (by omega)
  have hl : s.data.toList.length = 7 := by simpa using h
  have HD := Lib.hid (fun W => cread_any s W h)
  have hno := code_no s.data.toList
  obtain ⟨x, hx⟩ : ∃ x, x = (s.data.toList.getD 6 0).toNat := ⟨_, rfl⟩
  rw [← hx] at HD hno
  obtain ⟨N, hN⟩ : ∃ N : Nat, N = x / 2 % 16 := ⟨_, rfl⟩
  obtain ⟨M, hM⟩ : ∃ M : Bool, M = decide ((128 : Int) ≤ (x : Int)) := ⟨_, rfl⟩
  obtain ⟨L, hL⟩ : ∃ L : Bool, L = ((x : Int) % 2 == 1) := ⟨_, rfl⟩
  rw [← hN, ← hM, ← hL] at HD hno
  have hyes := code_yes s.data.toList N M L
  obtain ⟨R, hR⟩ : ∃ R : ByteArray, R = ⟨(rdD s.data.toList).toArray⟩ := ⟨_, rfl⟩
  have hRl : R.data.toList = rdD s.data.toList := by rw [hR]
  have hRs : R.size ≤ 300 := by
    have k1 : R.data.toList.length = R.size := by simp
    have k2 : (rdD s.data.toList).length ≤ 6 := by
      unfold rdD Lib.trimRightB
      rw [List.length_reverse]
      refine Nat.le_trans (List.dropWhile_sublist _).length_le ?_
      rw [List.length_reverse, List.length_map]
      exact List.length_take_le _ _
    rw [hRl] at k1
    omega
  rw [← hR] at HD hno hyes
  have HU := Lib.hid (fun W => cput_ok R (N : Int) M L W hRs)
  unfold putE at HU
  rw [hRl, show ((N : Int)).toNat = N by omega] at HU
  by_cases h1 : rightD R (N : Int) = true
  · rw [if_pos h1] at HU
    have ez : ((0 : Int) != 0) = false := rfl
    by_cases h2 : putD (rdD s.data.toList) N M L = s.data.toList
    · have hg := hyes h1 h2
      have hne : (s.toList == s.toList) = true := beq_self_eq_true _
      rw [h2, back_bytes] at HU
      have he : getE s.data.toList = .tuple #[.agg #[.string R, .int .i64 (N : Int)], .bool M, .bool L, .int .i64 0] := by
        unfold getE
        rw [hg, hR]
        rfl
      rw [he]
      clear he hg hyes hno hl h1 h2 hx hN hM hL hR hRl hRs
      go_enter Tryd.func66, Tryd.ntmps66
      go_wp2_with (first
        | (go_at_call 71; go_loud (refine (HD.out _).mono ?_; rintro e w1 ⟨rfl, hb⟩; have HE := Lib.hid (EAt.start w w1 R (N : Int) hb); clear hb; obtain ⟨⟨a0, a1⟩, ⟨c0, c1⟩, hf, hw, hm, hm2⟩ := HE.out))
        | (go_at_call 52; ((with_reducible refine (HU.out _).mono ?_); rintro e w2 ⟨rfl, hb⟩; replace HE := Lib.hid (HE.out.below hb); clear hb a0 a1 c0 c1 hf hw hm hm2; obtain ⟨⟨a0, a1⟩, ⟨c0, c1⟩, hf, hw, hm, hm2⟩ := HE.out)))
      obtain ⟨z0, z1⟩ := stored2 (W := w2) (.string R) (.int .i64 (N : Int)) a0 a1
      exact bodyPost_ret (v := .tuple #[.agg #[.string R, .int .i64 (N : Int)], .bool M, .bool L, .int .i64 0]) (by simp [results, Tryd.results66, go_sem, z0, z1]) rfl ⟨rfl, set2_below hw (Nat.le_refl _) _ _⟩
    · have hg := hno (fun q => h2 q.2)
      obtain ⟨U, hU⟩ : ∃ U : ByteArray, U = ⟨(putD (rdD s.data.toList) N M L).toArray⟩ := ⟨_, rfl⟩
      rw [← hU] at HU
      have hne : (U.toList == s.toList) = false := by
        rw [Lib.toList_data, Lib.toList_data, beq_eq_false_iff_ne, hU]
        exact h2
      have hnn : (U.toList != s.toList) = true := by
        show (!(U.toList == s.toList)) = true
        rw [hne]; rfl
      have he : getE s.data.toList = .tuple #[.agg #[.string ⟨#[]⟩, .int .i64 0], .bool false, .bool false, .int .i64 2] := by
        unfold getE
        rw [hg, hl]
        rfl
      rw [he]
      clear he hg hyes hno hl h1 h2 hx hN hM hL hR hRl hRs hU
      go_enter Tryd.func66, Tryd.ntmps66
      go_wp2_with (first
        | (go_at_call 71; go_loud (refine (HD.out _).mono ?_; rintro e w1 ⟨rfl, hb⟩; have HE := Lib.hid (EAt.start w w1 R (N : Int) hb); clear hb; obtain ⟨⟨a0, a1⟩, ⟨c0, c1⟩, hf, hw, hm, hm2⟩ := HE.out))
        | (go_at_call 52; ((with_reducible refine (HU.out _).mono ?_); rintro e w2 ⟨rfl, hb⟩; replace HE := Lib.hid (HE.out.below hb); clear hb a0 a1 c0 c1 hf hw hm hm2; obtain ⟨⟨a0, a1⟩, ⟨c0, c1⟩, hf, hw, hm, hm2⟩ := HE.out)))
      obtain ⟨z0, z1⟩ := stored2 (W := w2) (.string ⟨#[]⟩) (.int .i64 0) a0 a1
      exact bodyPost_ret (v := .tuple #[.agg #[.string ⟨#[]⟩, .int .i64 0], .bool false, .bool false, .int .i64 2]) (by simp [results, Tryd.results66, go_sem, z0, z1]) rfl ⟨rfl, set2_below hw (Nat.le_refl _) _ _⟩
  · rw [if_neg h1] at HU
    have hg := hno (fun q => h1 q.1)
    have he : getE s.data.toList = .tuple #[.agg #[.string ⟨#[]⟩, .int .i64 0], .bool false, .bool false, .int .i64 2] := by
      unfold getE
      rw [hg, hl]
      rfl
    rw [he]
    clear he hg hyes hno hl h1 hx hN hM hL hR hRl hRs
    go_enter Tryd.func66, Tryd.ntmps66
    go_wp2_with (first
      | (go_at_call 71; go_loud (refine (HD.out _).mono ?_; rintro e w1 ⟨rfl, hb⟩; have HE := Lib.hid (EAt.start w w1 R (N : Int) hb); clear hb; obtain ⟨⟨a0, a1⟩, ⟨c0, c1⟩, hf, hw, hm, hm2⟩ := HE.out))
      | (go_at_call 52; ((with_reducible refine (HU.out _).mono ?_); rintro e w2 ⟨rfl, hb⟩; replace HE := Lib.hid (HE.out.below hb); clear hb a0 a1 c0 c1 hf hw hm hm2; obtain ⟨⟨a0, a1⟩, ⟨c0, c1⟩, hf, hw, hm, hm2⟩ := HE.out)))
    obtain ⟨z0, z1⟩ := stored2 (W := w2) (.string ⟨#[]⟩) (.int .i64 0) a0 a1
    exact bodyPost_ret (v := .tuple #[.agg #[.string ⟨#[]⟩, .int .i64 0], .bool false, .bool false, .int .i64 2]) (by simp [results, Tryd.results66, go_sem, z0, z1]) rfl ⟨rfl, set2_below hw (Nat.le_refl _) _ _⟩
theorem cget_ok : CGetOk := fun s w _ => by
  have hl : s.data.toList.length = s.size := by simp
  by_cases h7 : s.size = 7
  · exact cget_seven s w h7
  · have hg : getD7 s.data.toList = (false, [], 0, false, false) := by
      unfold getD7
      rw [if_neg (fun q => h7 (by rw [← hl]; exact q.1))]
    unfold getE
    rw [hg, hl]
    by_cases h : s.size < 7
    · rw [if_neg (by simp), if_pos h]
      exact cget_short s w h
    · rw [if_neg (by simp), if_neg h, if_pos (by omega)]
      exact cget_long s w (by omega)
end Go.Proofs.YtadhiknmkiogjaaDoor
namespace Go.Proofs.YtadhiknmkiogjaaDoor
set_option maxRecDepth 20000
/-- by a goto to l: J l; else Q -/
def jumps (J : Nat → Act → World → Prop) (Q : Exit → Act → World → Prop) : Exit → Act → World → Prop
  | .goto l, a, w => J l a w
  | e, a, w => Q e a w
theorem jumps_ret (J : Nat → Act → World → Prop) (Q : Exit → Act → World → Prop) (a : Act) (w : World) : jumps J Q .ret a w = Q .ret a w := rfl
theorem jumps_goto (J : Nat → Act → World → Prop) (Q : Exit → Act → World → Prop) (l : Nat) (a : Act) (w : World) : jumps J Q (.goto l) a w = J l a w := rfl
theorem scope_places {P : Program} {a : Act} {w : World} {Q : Exit → Act → World → Prop} {c : Code} (J : Nat → Act → World → Prop) (μ : Nat → Act → World → Nat)
    (first : c.wp P (jumps J Q) a w)
    (pass : ∀ l a w, J l a w → ∃ rest, findLabel c l = some rest ∧ rest.wp P (jumps (fun l' a' w' => J l' a' w' ∧ μ l' a' w' < μ l a w) Q) a w) : (Code.scope c).wp P Q a w := by
  intro b k cs
  have hg : ∀ l rest, findLabel c l = some rest → gotoIn l (.inScope c :: k) = some (.code rest :: .inScope c :: k) := fun l rest hf => by simp [gotoIn, hf]
  have key : ∀ n l a w rest, findLabel c l = some rest → μ l a w = n → J l a w → ∃ e a' w', Q e a' w' ∧ Arrives P (lone (b.at a (.code rest :: .inScope c :: k)) cs w) b k cs e a' w' := by
    intro n
    induction n using Nat.strongRecOn with
    | _ n ih =>
      intro l a w rest hf hn hJ
      obtain ⟨rest', hf', hp⟩ := pass l a w hJ
      rw [hf] at hf'
      obtain rfl := Option.some.inj hf'
      obtain ⟨e, a₁, w₁, hq, harr⟩ := hp b (.inScope c :: k) cs
      cases e with
      | normal => exact ⟨.normal, a₁, w₁, hq, Steps.trans harr (.one step_inScope)⟩
      | exit id => exact ⟨.exit id, a₁, w₁, hq, fun k' hk => harr k' (by simp [exitTo, hk])⟩
      | goto l' =>
        obtain ⟨hJ', hlt⟩ := hq
        obtain ⟨rest2, hf2, _⟩ := pass l' a₁ w₁ hJ'
        obtain ⟨e₂, a₂, w₂, hq₂, harr₂⟩ := ih _ (by omega) l' a₁ w₁ rest2 hf2 rfl hJ'
        exact ⟨e₂, a₂, w₂, hq₂, .of_steps (harr _ (hg l' rest2 hf2)) harr₂⟩
      | ret => exact ⟨_, a₁, w₁, hq, harr⟩
      | panic ch => exact ⟨_, a₁, w₁, hq, harr⟩
      | outgrown => exact ⟨_, a₁, w₁, hq, harr⟩
  obtain ⟨e, a₁, w₁, hq, harr⟩ := first b (.inScope c :: k) cs
  cases e with
  | normal => exact ⟨.normal, a₁, w₁, hq, .head step_scope (Steps.trans harr (.one step_inScope))⟩
  | exit id => exact ⟨.exit id, a₁, w₁, hq, fun k' hk => .head step_scope (harr k' (by simp [exitTo, hk]))⟩
  | goto l' =>
    obtain ⟨rest, hf, _⟩ := pass l' a₁ w₁ hq
    obtain ⟨e₂, a₂, w₂, hq₂, harr₂⟩ := key _ l' a₁ w₁ rest hf rfl hq
    exact ⟨e₂, a₂, w₂, hq₂, .of_steps (.head step_scope (harr _ (hg l' rest hf))) harr₂⟩
  | ret => exact ⟨_, a₁, w₁, hq, .of_steps (.one step_scope) harr⟩
  | panic ch => exact ⟨_, a₁, w₁, hq, .of_steps (.one step_scope) harr⟩
  | outgrown => exact ⟨_, a₁, w₁, hq, .of_steps (.one step_scope) harr⟩
end Go.Proofs.YtadhiknmkiogjaaDoor
namespace Go.Proofs.YtadhiknmkiogjaaDoor
open Go.RowKit Go.Sort
set_option maxRecDepth 20000
set_option maxHeartbeats 2000000 in
theorem of_any (tb fb : ByteArray) (tn fn : Int) (tm fm : Bool) (a : Option Addr) (cap : Nat) (D : List Ent) (w : World) (hD : D.length ≤ 1000) (hE : EntsAt w a cap ((tb, tn, tm) :: (fb, fn, fm) :: D)) :
    Calls Tryd.prog 67 #[.slice a (D.length + 2) cap] w fun e w' => ∃ v, e = .returned (.agg #[.string tb, .int .i64 tn, .string fb, .int .i64 fn, .bool tm, .bool fm, v]) ∧ OwnE 79 w' w.heap.size v D ∧ Below w.heap.size w w' := by
  obtain ⟨a', hs, hE'⟩ := slice_from Tryd.underlying56 sizeD hE 2 (by simp)
  have hle := hE.le
  obtain ⟨g, o, rfl, hg, c0, c1, c2⟩ := hE.at_ 0 (by simp)
  obtain ⟨g', o', ha, -, d0, d1, d2⟩ := hE.at_ 1 (by simp)
  simp only [Option.some.injEq, Addr.mk.injEq, and_true] at ha
  obtain ⟨rfl, rfl⟩ := ha
  simp only [List.getElem_cons_zero, List.getElem_cons_succ, Nat.zero_mul, Nat.add_zero, Nat.one_mul] at c0 c1 c2 d0 d1 d2
  simp only [List.length_cons, List.drop_succ_cons, List.drop_zero] at hs hE' hle
  obtain ⟨W, hW⟩ : ∃ W, W = (w.alloc (.cells #[.string ⟨#[]⟩, .int .i64 0, .string ⟨#[]⟩, .int .i64 0, .bool false, .bool false, .slice none 0 0] 58)) := ⟨_, rfl⟩
  have HB0 := Lib.hid (show Below w.heap.size w W from by rw [hW]; exact (Below.refl _ w).alloc (Nat.le_refl _) _)
  have hsz : W.heap.size = w.heap.size + 1 := by rw [hW]; simp
  have HP := Lib.hid (show P7 W w.heap.size _ _ _ _ _ _ _ from by rw [hW]; exact P7.new _ _ rfl _ _ _ _ _ _ _ _)
  have HC := Lib.hid (show W.cell? ⟨g, o, none⟩ = some (.string tb) ∧ W.cell? ⟨g, o + 1, none⟩ = some (.int .i64 tn) ∧ W.cell? ⟨g, o + 2, none⟩ = some (.bool tm) ∧ W.cell? ⟨g, o + 3, none⟩ = some (.string fb) ∧ W.cell? ⟨g, o + 3 + 1, none⟩ = some (.int .i64 fn) ∧ W.cell? ⟨g, o + 3 + 2, none⟩ = some (.bool fm) from
    ⟨(HB0.out.cell (p := ⟨g, _, none⟩) hg).trans c0, (HB0.out.cell (p := ⟨g, _, none⟩) hg).trans c1, (HB0.out.cell (p := ⟨g, _, none⟩) hg).trans c2, (HB0.out.cell (p := ⟨g, _, none⟩) hg).trans d0, (HB0.out.cell (p := ⟨g, _, none⟩) hg).trans d1, (HB0.out.cell (p := ⟨g, _, none⟩) hg).trans d2⟩)
  have HE := Lib.hid (hE'.below HB0.out)
  clear c0 c1 c2 d0 d1 d2 hE hE'
  have hl1 : (0 : Int) < (D.length : Int) + 2 := by omega
  have hl2 : (1 : Int) < (D.length : Int) + 2 := by omega
  have hgW : g < W.heap.size := by omega
  go_enter Tryd.func67, Tryd.ntmps67
  go_wp2
  rw [← hW]
  clear hW
  refine wp_region_held (S := fun W' => Below W.heap.size W W') (by kernel_rfl) ?_
  change wpAnyH _ _ _ _ _ _ _ _ W.drew
  have HB := Lib.hid ((Below.refl W.heap.size W).drew)
  refine wpAnyH_take (i := 0) (v := ?_) rfl (by kernel_rfl) (by kernel_rfl) (by kernel_rfl) (fun _ _ _ h => h) (Or.inl ⟨by rfl, ?_⟩) HB.out ?_
  rotate_left
  · intro w' hw'
    obtain ⟨x0, x1, x2, x3, x4, x5⟩ := HC.out; have y0 := (hw'.cell (p := ⟨g, o, none⟩) hgW).trans x0; have y1 := (hw'.cell (p := ⟨g, o + 1, none⟩) hgW).trans x1; have y2 := (hw'.cell (p := ⟨g, o + 2, none⟩) hgW).trans x2; have y3 := (hw'.cell (p := ⟨g, o + 3, none⟩) hgW).trans x3; have y4 := (hw'.cell (p := ⟨g, o + 3 + 1, none⟩) hgW).trans x4; have y5 := (hw'.cell (p := ⟨g, o + 3 + 2, none⟩) hgW).trans x5; clear x0 x1 x2 x3 x4 x5
    go_simp
    with_reducible rfl
  refine wpAnyH_take (i := 1) (v := ?_) rfl (by kernel_rfl) (by kernel_rfl) (by kernel_rfl) (fun _ _ _ h => h) (Or.inl ⟨by rfl, ?_⟩) HB.out ?_
  rotate_left
  · intro w' hw'
    obtain ⟨x0, x1, x2, x3, x4, x5⟩ := HC.out; have y0 := (hw'.cell (p := ⟨g, o, none⟩) hgW).trans x0; have y1 := (hw'.cell (p := ⟨g, o + 1, none⟩) hgW).trans x1; have y2 := (hw'.cell (p := ⟨g, o + 2, none⟩) hgW).trans x2; have y3 := (hw'.cell (p := ⟨g, o + 3, none⟩) hgW).trans x3; have y4 := (hw'.cell (p := ⟨g, o + 3 + 1, none⟩) hgW).trans x4; have y5 := (hw'.cell (p := ⟨g, o + 3 + 2, none⟩) hgW).trans x5; clear x0 x1 x2 x3 x4 x5
    go_simp
    with_reducible rfl
  refine wpAnyH_take (i := 2) (v := ?_) rfl (by kernel_rfl) (by kernel_rfl) (by kernel_rfl) (fun _ _ _ h => h) (Or.inl ⟨by rfl, ?_⟩) HB.out ?_
  rotate_left
  · intro w' hw'
    obtain ⟨x0, x1, x2, x3, x4, x5⟩ := HC.out; have y0 := (hw'.cell (p := ⟨g, o, none⟩) hgW).trans x0; have y1 := (hw'.cell (p := ⟨g, o + 1, none⟩) hgW).trans x1; have y2 := (hw'.cell (p := ⟨g, o + 2, none⟩) hgW).trans x2; have y3 := (hw'.cell (p := ⟨g, o + 3, none⟩) hgW).trans x3; have y4 := (hw'.cell (p := ⟨g, o + 3 + 1, none⟩) hgW).trans x4; have y5 := (hw'.cell (p := ⟨g, o + 3 + 2, none⟩) hgW).trans x5; clear x0 x1 x2 x3 x4 x5
    go_simp
    with_reducible rfl
  refine wpAnyH_take (i := 3) (v := ?_) rfl (by kernel_rfl) (by kernel_rfl) (by kernel_rfl) (fun _ _ _ h => h) (Or.inl ⟨by rfl, ?_⟩) HB.out ?_
  rotate_left
  · intro w' hw'
    obtain ⟨x0, x1, x2, x3, x4, x5⟩ := HC.out; have y0 := (hw'.cell (p := ⟨g, o, none⟩) hgW).trans x0; have y1 := (hw'.cell (p := ⟨g, o + 1, none⟩) hgW).trans x1; have y2 := (hw'.cell (p := ⟨g, o + 2, none⟩) hgW).trans x2; have y3 := (hw'.cell (p := ⟨g, o + 3, none⟩) hgW).trans x3; have y4 := (hw'.cell (p := ⟨g, o + 3 + 1, none⟩) hgW).trans x4; have y5 := (hw'.cell (p := ⟨g, o + 3 + 2, none⟩) hgW).trans x5; clear x0 x1 x2 x3 x4 x5
    go_simp
    with_reducible rfl
  refine wpAnyH_take (i := 4) (v := ?_) rfl (by kernel_rfl) (by kernel_rfl) (by kernel_rfl) (fun _ _ _ h => h) (Or.inl ⟨by rfl, ?_⟩) HB.out ?_
  rotate_left
  · intro w' hw'
    obtain ⟨x0, x1, x2, x3, x4, x5⟩ := HC.out; have y0 := (hw'.cell (p := ⟨g, o, none⟩) hgW).trans x0; have y1 := (hw'.cell (p := ⟨g, o + 1, none⟩) hgW).trans x1; have y2 := (hw'.cell (p := ⟨g, o + 2, none⟩) hgW).trans x2; have y3 := (hw'.cell (p := ⟨g, o + 3, none⟩) hgW).trans x3; have y4 := (hw'.cell (p := ⟨g, o + 3 + 1, none⟩) hgW).trans x4; have y5 := (hw'.cell (p := ⟨g, o + 3 + 2, none⟩) hgW).trans x5; clear x0 x1 x2 x3 x4 x5
    go_simp
    with_reducible rfl
  refine wpAnyH_take (i := 5) (v := ?_) rfl (by kernel_rfl) (by kernel_rfl) (by kernel_rfl) (fun _ _ _ h => h) (Or.inl ⟨by rfl, ?_⟩) HB.out ?_
  rotate_left
  · intro w' hw'
    obtain ⟨x0, x1, x2, x3, x4, x5⟩ := HC.out; have y0 := (hw'.cell (p := ⟨g, o, none⟩) hgW).trans x0; have y1 := (hw'.cell (p := ⟨g, o + 1, none⟩) hgW).trans x1; have y2 := (hw'.cell (p := ⟨g, o + 2, none⟩) hgW).trans x2; have y3 := (hw'.cell (p := ⟨g, o + 3, none⟩) hgW).trans x3; have y4 := (hw'.cell (p := ⟨g, o + 3 + 1, none⟩) hgW).trans x4; have y5 := (hw'.cell (p := ⟨g, o + 3 + 2, none⟩) hgW).trans x5; clear x0 x1 x2 x3 x4 x5
    go_simp
    with_reducible rfl
  refine wpAnyH_take (i := 6) (v := ?_) rfl (by kernel_rfl) (by kernel_rfl) (by kernel_rfl) (fun _ _ _ h => h) (Or.inl ⟨by rfl, ?_⟩) HB.out ?_
  rotate_left
  · intro w' hw'
    obtain ⟨x0, x1, x2, x3, x4, x5⟩ := HC.out; have y0 := (hw'.cell (p := ⟨g, o, none⟩) hgW).trans x0; have y1 := (hw'.cell (p := ⟨g, o + 1, none⟩) hgW).trans x1; have y2 := (hw'.cell (p := ⟨g, o + 2, none⟩) hgW).trans x2; have y3 := (hw'.cell (p := ⟨g, o + 3, none⟩) hgW).trans x3; have y4 := (hw'.cell (p := ⟨g, o + 3 + 1, none⟩) hgW).trans x4; have y5 := (hw'.cell (p := ⟨g, o + 3 + 2, none⟩) hgW).trans x5; clear x0 x1 x2 x3 x4 x5
    go_simp
    with_reducible rfl
  refine wpAnyH_take (i := 7) (v := ?_) rfl (by kernel_rfl) (by kernel_rfl) (by kernel_rfl) (fun _ _ _ h => h) (Or.inl ⟨by rfl, ?_⟩) HB.out ?_
  rotate_left
  · intro w' hw'
    obtain ⟨x0, x1, x2, x3, x4, x5⟩ := HC.out; have y0 := (hw'.cell (p := ⟨g, o, none⟩) hgW).trans x0; have y1 := (hw'.cell (p := ⟨g, o + 1, none⟩) hgW).trans x1; have y2 := (hw'.cell (p := ⟨g, o + 2, none⟩) hgW).trans x2; have y3 := (hw'.cell (p := ⟨g, o + 3, none⟩) hgW).trans x3; have y4 := (hw'.cell (p := ⟨g, o + 3 + 1, none⟩) hgW).trans x4; have y5 := (hw'.cell (p := ⟨g, o + 3 + 2, none⟩) hgW).trans x5; clear x0 x1 x2 x3 x4 x5
    go_simp
    with_reducible rfl
  refine wpAnyH_take (i := 8) (v := ?_) rfl (by kernel_rfl) (by kernel_rfl) (by kernel_rfl) (fun _ _ _ h => h) (Or.inl ⟨by rfl, ?_⟩) HB.out ?_
  rotate_left
  · intro w' hw'
    obtain ⟨x0, x1, x2, x3, x4, x5⟩ := HC.out; have y0 := (hw'.cell (p := ⟨g, o, none⟩) hgW).trans x0; have y1 := (hw'.cell (p := ⟨g, o + 1, none⟩) hgW).trans x1; have y2 := (hw'.cell (p := ⟨g, o + 2, none⟩) hgW).trans x2; have y3 := (hw'.cell (p := ⟨g, o + 3, none⟩) hgW).trans x3; have y4 := (hw'.cell (p := ⟨g, o + 3 + 1, none⟩) hgW).trans x4; have y5 := (hw'.cell (p := ⟨g, o + 3 + 2, none⟩) hgW).trans x5; clear x0 x1 x2 x3 x4 x5
    go_simp
    with_reducible rfl
  refine wpAnyH_take (i := 9) (v := ?_) rfl (by kernel_rfl) (by kernel_rfl) (by kernel_rfl) (fun _ _ _ h => h) (Or.inl ⟨by rfl, ?_⟩) HB.out ?_
  rotate_left
  · intro w' hw'
    obtain ⟨x0, x1, x2, x3, x4, x5⟩ := HC.out; have y0 := (hw'.cell (p := ⟨g, o, none⟩) hgW).trans x0; have y1 := (hw'.cell (p := ⟨g, o + 1, none⟩) hgW).trans x1; have y2 := (hw'.cell (p := ⟨g, o + 2, none⟩) hgW).trans x2; have y3 := (hw'.cell (p := ⟨g, o + 3, none⟩) hgW).trans x3; have y4 := (hw'.cell (p := ⟨g, o + 3 + 1, none⟩) hgW).trans x4; have y5 := (hw'.cell (p := ⟨g, o + 3 + 2, none⟩) hgW).trans x5; clear x0 x1 x2 x3 x4 x5
    go_simp
    with_reducible rfl
  refine wpAnyH_take (i := 10) (v := ?_) rfl (by kernel_rfl) (by kernel_rfl) (by kernel_rfl) (fun _ _ _ h => h) (Or.inl ⟨by rfl, ?_⟩) HB.out ?_
  rotate_left
  · intro w' hw'
    obtain ⟨x0, x1, x2, x3, x4, x5⟩ := HC.out; have y0 := (hw'.cell (p := ⟨g, o, none⟩) hgW).trans x0; have y1 := (hw'.cell (p := ⟨g, o + 1, none⟩) hgW).trans x1; have y2 := (hw'.cell (p := ⟨g, o + 2, none⟩) hgW).trans x2; have y3 := (hw'.cell (p := ⟨g, o + 3, none⟩) hgW).trans x3; have y4 := (hw'.cell (p := ⟨g, o + 3 + 1, none⟩) hgW).trans x4; have y5 := (hw'.cell (p := ⟨g, o + 3 + 2, none⟩) hgW).trans x5; clear x0 x1 x2 x3 x4 x5
    go_simp
    with_reducible rfl
  refine wpAnyH_take (i := 11) (v := ?_) rfl (by kernel_rfl) (by kernel_rfl) (by kernel_rfl) (fun _ _ _ h => h) (Or.inl ⟨by rfl, ?_⟩) HB.out ?_
  rotate_left
  · intro w' hw'
    obtain ⟨x0, x1, x2, x3, x4, x5⟩ := HC.out; have y0 := (hw'.cell (p := ⟨g, o, none⟩) hgW).trans x0; have y1 := (hw'.cell (p := ⟨g, o + 1, none⟩) hgW).trans x1; have y2 := (hw'.cell (p := ⟨g, o + 2, none⟩) hgW).trans x2; have y3 := (hw'.cell (p := ⟨g, o + 3, none⟩) hgW).trans x3; have y4 := (hw'.cell (p := ⟨g, o + 3 + 1, none⟩) hgW).trans x4; have y5 := (hw'.cell (p := ⟨g, o + 3 + 2, none⟩) hgW).trans x5; clear x0 x1 x2 x3 x4 x5
    go_simp
    with_reducible rfl
  refine wpAnyH_take (i := 12) (v := ?_) rfl (by kernel_rfl) (by kernel_rfl) (by kernel_rfl) (fun _ _ _ h => h) (Or.inl ⟨by rfl, ?_⟩) HB.out ?_
  rotate_left
  · intro w' hw'
    obtain ⟨x0, x1, x2, x3, x4, x5⟩ := HC.out; have y0 := (hw'.cell (p := ⟨g, o, none⟩) hgW).trans x0; have y1 := (hw'.cell (p := ⟨g, o + 1, none⟩) hgW).trans x1; have y2 := (hw'.cell (p := ⟨g, o + 2, none⟩) hgW).trans x2; have y3 := (hw'.cell (p := ⟨g, o + 3, none⟩) hgW).trans x3; have y4 := (hw'.cell (p := ⟨g, o + 3 + 1, none⟩) hgW).trans x4; have y5 := (hw'.cell (p := ⟨g, o + 3 + 2, none⟩) hgW).trans x5; clear x0 x1 x2 x3 x4 x5
    go_simp
    with_reducible rfl
  refine wpAnyH_take (i := 13) (v := ?_) rfl (by kernel_rfl) (by kernel_rfl) (by kernel_rfl) (fun _ _ _ h => h) (Or.inl ⟨by rfl, ?_⟩) HB.out ?_
  rotate_left
  · intro w' hw'
    obtain ⟨x0, x1, x2, x3, x4, x5⟩ := HC.out; have y0 := (hw'.cell (p := ⟨g, o, none⟩) hgW).trans x0; have y1 := (hw'.cell (p := ⟨g, o + 1, none⟩) hgW).trans x1; have y2 := (hw'.cell (p := ⟨g, o + 2, none⟩) hgW).trans x2; have y3 := (hw'.cell (p := ⟨g, o + 3, none⟩) hgW).trans x3; have y4 := (hw'.cell (p := ⟨g, o + 3 + 1, none⟩) hgW).trans x4; have y5 := (hw'.cell (p := ⟨g, o + 3 + 2, none⟩) hgW).trans x5; clear x0 x1 x2 x3 x4 x5
    go_simp
    with_reducible rfl
  refine wpAnyH_take (i := 14) (v := ?_) rfl (by kernel_rfl) (by kernel_rfl) (by kernel_rfl) (fun _ _ _ h => h) (Or.inl ⟨by rfl, ?_⟩) HB.out ?_
  rotate_left
  · intro w' hw'
    obtain ⟨x0, x1, x2, x3, x4, x5⟩ := HC.out; have y0 := (hw'.cell (p := ⟨g, o, none⟩) hgW).trans x0; have y1 := (hw'.cell (p := ⟨g, o + 1, none⟩) hgW).trans x1; have y2 := (hw'.cell (p := ⟨g, o + 2, none⟩) hgW).trans x2; have y3 := (hw'.cell (p := ⟨g, o + 3, none⟩) hgW).trans x3; have y4 := (hw'.cell (p := ⟨g, o + 3 + 1, none⟩) hgW).trans x4; have y5 := (hw'.cell (p := ⟨g, o + 3 + 2, none⟩) hgW).trans x5; clear x0 x1 x2 x3 x4 x5
    go_simp
    with_reducible rfl
  refine wpAnyH_take (i := 15) (v := ?_) rfl (by kernel_rfl) (by kernel_rfl) (by kernel_rfl) (fun _ _ _ h => h) (Or.inl ⟨by rfl, ?_⟩) HB.out ?_
  rotate_left
  · intro w' hw'
    obtain ⟨x0, x1, x2, x3, x4, x5⟩ := HC.out; have y0 := (hw'.cell (p := ⟨g, o, none⟩) hgW).trans x0; have y1 := (hw'.cell (p := ⟨g, o + 1, none⟩) hgW).trans x1; have y2 := (hw'.cell (p := ⟨g, o + 2, none⟩) hgW).trans x2; have y3 := (hw'.cell (p := ⟨g, o + 3, none⟩) hgW).trans x3; have y4 := (hw'.cell (p := ⟨g, o + 3 + 1, none⟩) hgW).trans x4; have y5 := (hw'.cell (p := ⟨g, o + 3 + 2, none⟩) hgW).trans x5; clear x0 x1 x2 x3 x4 x5
    go_simp
    with_reducible rfl
  refine wpAnyH_take (i := 16) (v := ?_) rfl (by kernel_rfl) (by kernel_rfl) (by kernel_rfl) (fun _ _ _ h => h) (Or.inl ⟨by rfl, ?_⟩) HB.out ?_
  rotate_left
  · intro w' hw'
    obtain ⟨x0, x1, x2, x3, x4, x5⟩ := HC.out; have y0 := (hw'.cell (p := ⟨g, o, none⟩) hgW).trans x0; have y1 := (hw'.cell (p := ⟨g, o + 1, none⟩) hgW).trans x1; have y2 := (hw'.cell (p := ⟨g, o + 2, none⟩) hgW).trans x2; have y3 := (hw'.cell (p := ⟨g, o + 3, none⟩) hgW).trans x3; have y4 := (hw'.cell (p := ⟨g, o + 3 + 1, none⟩) hgW).trans x4; have y5 := (hw'.cell (p := ⟨g, o + 3 + 2, none⟩) hgW).trans x5; clear x0 x1 x2 x3 x4 x5
    go_simp
    with_reducible rfl
  refine wpAnyH_ready (rs := [17]) (by kernel_rfl) (by simp) ?_
  refine AllReadyH.cons rfl (fun K hK => ?_) AllReadyH.nil
  go_simp
  have HB := Lib.hid (((Below.refl W.heap.size W).alloc (Nat.le_refl _) (.cells #[.string ⟨#[]⟩, .int .i64 0, .string ⟨#[]⟩, .int .i64 0, .bool false, .bool false, .slice none 0 0] 58)).drew)
  refine hK.out _ _ HB.out (fun _ => ?_)
  clear hK K
  have HQ := Lib.hid ((P7.new W (w.heap.size + 1) hsz.symm (.string ⟨#[]⟩) (.int .i64 0) (.string ⟨#[]⟩) (.int .i64 0) (.bool false) (.bool false) (.slice none 0 0) 58).drew)
  obtain ⟨⟨p0, q0, pl⟩, ⟨p1, q1, -⟩, ⟨p2, q2, -⟩, ⟨p3, q3, -⟩, ⟨p4, q4, -⟩, ⟨p5, q5, -⟩, ⟨p6, q6, -⟩⟩ := HQ.out
  have HX := Lib.hid ((HP.out.alloc (.cells #[.string ⟨#[]⟩, .int .i64 0, .string ⟨#[]⟩, .int .i64 0, .bool false, .bool false, .slice none 0 0] 58)).drew)
  have HE2 := Lib.hid ((HE.out.alloc (.cells #[.string ⟨#[]⟩, .int .i64 0, .string ⟨#[]⟩, .int .i64 0, .bool false, .bool false, .slice none 0 0] 58)).drew)
  generalize (W.alloc (.cells #[.string ⟨#[]⟩, .int .i64 0, .string ⟨#[]⟩, .int .i64 0, .bool false, .bool false, .slice none 0 0] 58)).drew = V at *
  refine wpAnyH_ready (rs := [18]) (by kernel_rfl) (by simp) ?_
  refine AllReadyH.cons rfl (fun K hK => ?_) AllReadyH.nil
  go_simp
  have HQ := Lib.hid (stored7 (m := w.heap.size + 1) (.string tb) (.int .i64 tn) (.string fb) (.int .i64 fn) (.bool tm) (.bool fm) (.slice none 0 0) HQ.out)
  have HX := Lib.hid (show P7 (((((((V.setCell ⟨(w.heap.size + 1), 0, none⟩ (.string tb)).setCell ⟨(w.heap.size + 1), 1, none⟩ (.int .i64 tn)).setCell ⟨(w.heap.size + 1), 2, none⟩ (.string fb)).setCell ⟨(w.heap.size + 1), 3, none⟩ (.int .i64 fn)).setCell ⟨(w.heap.size + 1), 4, none⟩ (.bool tm)).setCell ⟨(w.heap.size + 1), 5, none⟩ (.bool fm)).setCell ⟨(w.heap.size + 1), 6, none⟩ (.slice none 0 0)) w.heap.size _ _ _ _ _ _ _ from ((((((HX.out.other _ (by omega)).other _ (by omega)).other _ (by omega)).other _ (by omega)).other _ (by omega)).other _ (by omega)).other _ (by omega))
  have HB := Lib.hid (set7_below (m := w.heap.size + 1) HB.out (by omega) (.string tb) (.int .i64 tn) (.string fb) (.int .i64 fn) (.bool tm) (.bool fm) (.slice none 0 0))
  refine hK.out _ _ HB.out (fun _ => ?_)
  clear hK K
  have HE2 := Lib.hid (HE.out.below HB.out)
  generalize (((((((V.setCell ⟨(w.heap.size + 1), 0, none⟩ (.string tb)).setCell ⟨(w.heap.size + 1), 1, none⟩ (.int .i64 tn)).setCell ⟨(w.heap.size + 1), 2, none⟩ (.string fb)).setCell ⟨(w.heap.size + 1), 3, none⟩ (.int .i64 fn)).setCell ⟨(w.heap.size + 1), 4, none⟩ (.bool tm)).setCell ⟨(w.heap.size + 1), 5, none⟩ (.bool fm)).setCell ⟨(w.heap.size + 1), 6, none⟩ (.slice none 0 0)) = X at *
  clear p0 q0 pl p1 q1 p2 q2 p3 q3 p4 q4 p5 q5 p6 q6
  refine wpAnyH_done (by kernel_rfl) ?_ _
  go_wp2
  have HBX := Lib.hid (HB0.out.trans (HB.out.mono HB0.out.size))
  clear HB HB0 HE HP HC
  obtain ⟨⟨p0, q0, pl⟩, ⟨p1, q1, -⟩, ⟨p2, q2, -⟩, ⟨p3, q3, -⟩, ⟨p4, q4, -⟩, ⟨p5, q5, -⟩, ⟨p6, q6, -⟩⟩ := HQ.out
  have hsl : ∀ W, (Instr.slice 56 (.slice (some ⟨g, o, none⟩) (D.length + 2) cap) (some (.int .i64 2)) none none).run Tryd.prog W = .ok (.slice a' D.length (cap - 2)) W := hs
  have HE3 := Lib.hid (HE2.out.drew)
  have HQ3 := Lib.hid (HQ.out.drew)
  have HX3 := Lib.hid (HX.out.drew)
  have HBX3 := Lib.hid HBX.out.drew
  refine wp_region_any (by kernel_rfl) ?_
  try (change wpAny _ _ _ _ _ _ _ (World.drew _))
  have HYS := Lib.hid (show w.heap.size + 2 ≤ X.drew.heap.size from pl)
  generalize X.drew = Y at *
  clear p0 q0 pl p1 q1 p2 q2 p3 q3 p4 q4 p5 q5 p6 q6 HX HQ HBX HE2
  have y6 := HQ3.out.k6.cell
  have HLL := Lib.hid (show ([] : List Ent).length + D.length ≤ 100000 from by simp; omega)
  refine wpAny_take (i := 0) (v := ?_) rfl (by kernel_rfl) (by kernel_rfl) (by kernel_rfl) (fun _ _ _ h => h) (Or.inl ⟨by rfl, ?_⟩) ?_
  rotate_left
  · intro w; go_simp; with_reducible rfl
  refine wpAny_take (i := 2) (v := ?_) rfl (by kernel_rfl) (by kernel_rfl) (by kernel_rfl) (fun _ _ _ h => h) (Or.inl ⟨by rfl, ?_⟩) ?_
  rotate_left
  · intro w; go_simp; with_reducible rfl
  refine wpAny_take (i := 3) (v := ?_) rfl (by kernel_rfl) (by kernel_rfl) (by kernel_rfl) (fun _ _ _ h => h) (Or.inl ⟨by rfl, ?_⟩) ?_
  rotate_left
  · intro w; go_simp; with_reducible rfl
  refine wpAny_ready (rs := [1]) (by kernel_rfl) (by simp) ?_
  refine AllReady.cons rfl (fun K hK => ?_) AllReady.nil
  go_simp
  refine hK _ _ ?_
  clear hK K
  refine wpAny_ready (rs := [4]) (by kernel_rfl) (by simp) ?_
  refine AllReady.cons rfl (fun K hK => ?_) AllReady.nil
  rw [if_pos (by kernel_rfl)]
  unfold Oper.wp
  refine wp_append_ents infoD Tryd.underlying56 _ (.tmp 22) (.tmp 24) rfl (w.heap.size + 2) (.slice none 0 0) [] D rfl (OwnE.nil _ _ _) a' (cap - 2) rfl HE3.out HLL.out ?_ ?_
  · show _ ≤ Y.heap.size
    exact HYS.out
  intro v' w1 hown hgr hov
  obtain ⟨va, vn, vc, rfl⟩ := hown.form
  have HG := Lib.hid (show Below Y.heap.size Y w1 from (Below.refl _ Y).grown hgr (Nat.le_refl _) (fun k h => by cases h))
  have HQ4 := Lib.hid (HQ3.out.below HG.out)
  have HX4 := Lib.hid (HX3.out.below HG.out)
  have HOW := Lib.hid hown
  have HBX4 := Lib.hid (HBX3.out.trans (HG.out.mono HBX3.out.size))
  have HZ := Lib.hid (Nat.le_trans HYS.out HG.out.size)
  clear hown hgr hov HQ3 HX3 HG HBX3 HYS
  go_simp
  refine hK _ _ ?_
  clear hK K
  have HQ5 := Lib.hid (HQ4.out.put6 (.slice va vn vc))
  have HX5 := Lib.hid (HX4.out.other (g := w.heap.size + 1) (p := 6) (.slice va vn vc) (by omega))
  have HOW5 := Lib.hid (HOW.out.grown (grown_set (grown_refl w1 (some (w.heap.size + 1))) (o := 6) (.slice va vn vc)) (fun g hv e => by have := (HOW.out.ge hv).1; have := Option.some.inj e; omega))
  have HBX5 := Lib.hid (HBX4.out.setCell (p := ⟨w.heap.size + 1, 6, none⟩) (by show w.heap.size ≤ w.heap.size + 1; omega) (.slice va vn vc))
  obtain ⟨z0, zf, zl⟩ := HQ4.out.k6
  refine wpAny_ready (rs := [5]) (by kernel_rfl) (by simp) ?_
  refine AllReady.cons rfl (fun K hK => ?_) AllReady.nil
  go_simp
  refine hK _ _ ?_
  clear hK K
  refine wpAny_ready (rs := [6]) (by kernel_rfl) (by simp) ?_
  refine AllReady.cons rfl (fun K hK => ?_) AllReady.nil
  go_simp
  refine hK _ _ ?_
  clear hK K
  generalize w1.setCell ⟨w.heap.size + 1, 6, none⟩ (.slice va vn vc) = w5 at *
  refine wpAny_done (by kernel_rfl) ?_ _
  clear z0 zf zl HQ4 HX4 HOW HBX4 y6
  obtain ⟨⟨p0, q0, pl⟩, ⟨p1, q1, -⟩, ⟨p2, q2, -⟩, ⟨p3, q3, -⟩, ⟨p4, q4, -⟩, ⟨p5, q5, -⟩, ⟨p6, q6, -⟩⟩ := HQ5.out
  obtain ⟨⟨r0, s0, rl⟩, ⟨r1, s1, -⟩, ⟨r2, s2, -⟩, ⟨r3, s3, -⟩, ⟨r4, s4, -⟩, ⟨r5, s5, -⟩, ⟨r6, s6, -⟩⟩ := HX5.out
  have S7 := stored7 (m := w.heap.size) (.string tb) (.int .i64 tn) (.string fb) (.int .i64 fn) (.bool tm) (.bool fm) (.slice va vn vc) HX5.out
  have HF := Lib.hid (And.intro (HOW5.out.grown (grown7 (m := w.heap.size) (grown_refl w5 (some w.heap.size)) (Or.inr rfl) (.string tb) (.int .i64 tn) (.string fb) (.int .i64 fn) (.bool tm) (.bool fm) (.slice va vn vc)) (fun g hv e => by have := (HOW5.out.ge hv).1; have := Option.some.inj e; omega)) (set7_below (m := w.heap.size) HBX5.out (Nat.le_refl _) (.string tb) (.int .i64 tn) (.string fb) (.int .i64 fn) (.bool tm) (.bool fm) (.slice va vn vc)))
  go_wp2
  exact bodyPost_ret (v := .agg #[.string tb, .int .i64 tn, .string fb, .int .i64 fn, .bool tm, .bool fm, .slice va vn vc]) (by simp [results, Tryd.results67, go_sem, S7.k0.cell, S7.k1.cell, S7.k2.cell, S7.k3.cell, S7.k4.cell, S7.k5.cell, S7.k6.cell]) rfl ⟨_, rfl, HF.out.1.base (by omega), HF.out.2⟩
end Go.Proofs.YtadhiknmkiogjaaDoor
namespace Go.Proofs.YtadhiknmkiogjaaDoor
open Go.RowKit Go.Sort
set_option maxRecDepth 20000
theorem ord_viol (L : List Ent) (k : Nat) (h3 : 3 ≤ k) (hk : k < L.length) (h1 : L[k].2.2 = true) (h0 : (L[k - 1]'(by omega)).2.2 = false) : ordD (L.drop 2) = false := by
  cases hq : ordD (L.drop 2)
  · rfl
  · exfalso
    have := (ord_iff _).1 hq (k - 3) (by rw [List.length_drop]; omega) (by
      rw [List.getElem_drop]
      have e : 2 + (k - 3 + 1) = k := by omega
      simp only [e]; exact h1)
    rw [List.getElem_drop] at this
    have e : 2 + (k - 3) = k - 1 := by omega
    simp only [e] at this
    rw [h0] at this
    cases this
theorem ord_fine (L : List Ent) (h : ∀ j, 3 ≤ j → ∀ hj : j < L.length, L[j].2.2 = true → (L[j - 1]'(by omega)).2.2 = true) : ordD (L.drop 2) = true := by
  rw [ord_iff]
  intro i hi hx
  rw [List.getElem_drop] at hx ⊢
  have hl : 2 + (i + 1) < L.length := by rw [List.length_drop] at hi; omega
  exact h (2 + (i + 1)) (by omega) hl hx
set_option maxHeartbeats 1000000 in
theorem rordered_any (a : Option Addr) (cap : Nat) (L : List Ent) (w : World) (hL : L.length ≤ 1000) (hE : EntsAt w a cap L) :
    Calls Tryd.prog 55 #[.slice a L.length cap] w fun e w' => e = .returned (.bool (ordD (L.drop 2))) ∧ w' = w := by
  have HE := Lib.hid hE
  have HN := Lib.hid (ord_viol L)
  have HY := Lib.hid (ord_fine L)
  obtain ⟨R, hR⟩ : ∃ R, R = ordD (L.drop 2) := ⟨_, rfl⟩
  rw [← hR] at HN HY ⊢
  clear hE hR
  go_enter Tryd.func55, Tryd.ntmps55
  go_wp2
  go_loopw [3] (fun i wx => ∃ k : Nat, 3 ≤ k ∧ i = .int .i64 k ∧ Hid (∀ j, 3 ≤ j → ∀ hj : j < L.length, j < k → L[j].2.2 = true → (L[j - 1]'(by omega)).2.2 = true) ∧ wx = w) (fun i _ => L.length - (intOf i).toNat)
  case atStart => exact ⟨3, by omega, rfl, Lib.hid (fun j h3 hj hk => by omega), rfl⟩
  case round =>
    obtain ⟨k, hk, rfl, HR, rfl⟩ := hrel
    by_cases hlt : k < L.length
    · have dk : decide ((k : Int) < (L.length : Int)) = true := decide_eq_true (by omega)
      obtain ⟨g, o, rfl, hg, c0, c1, c2⟩ := HE.out.at_ k hlt
      obtain ⟨g', o', ha, -, -, -, d2⟩ := HE.out.at_ (k - 1) (by omega)
      simp only [Option.some.injEq, Addr.mk.injEq, and_true] at ha
      obtain ⟨rfl, rfl⟩ := ha
      clear c0 c1
      obtain ⟨p, hp⟩ : ∃ p, k = p + 1 := ⟨k - 1, by omega⟩
      subst hp
      have HD := Lib.hid (show L[p + 1].2.2 = L[p + 1].2.2 ∧ (L[p + 1 - 1]'(by omega)).2.2 = (L[p + 1 - 1]'(by omega)).2.2 from ⟨rfl, rfl⟩)
      simp only [Nat.add_sub_cancel] at d2 HD
      generalize h1 : L[p + 1].2.2 = m1 at *
      generalize h0 : (L[p]'(by omega)).2.2 = m0 at *
      have H1 := Lib.hid h1
      have H0 := Lib.hid h0
      clear h1 h0 HD
      have hp1 : (p : Int) + 1 - 1 = (p : Int) := by omega
      have hpl : p < L.length := by omega
      cases m1
      · go_wp2
        go_roundw
        case rel =>
          refine ⟨p + 1 + 1, by omega, by go_num, Lib.hid (fun j h3 hj hjk hx => ?_), by trivial⟩
          by_cases hjk2 : j = p + 1
          · subst hjk2; rw [H1.out] at hx; cases hx
          · exact HR.out j h3 hj (by omega) hx
        case measure => simp [intOf]; omega
      · cases m0
        · have hf := HN.out (p + 1) hk hlt H1.out H0.out
          subst hf
          go_wp2
          go_ret
          exact ⟨rfl, rfl⟩
        · go_wp2
          go_roundw
          case rel =>
            refine ⟨p + 1 + 1, by omega, by go_num, Lib.hid (fun j h3 hj hjk hx => ?_), by trivial⟩
            by_cases hjk2 : j = p + 1
            · subst hjk2; exact H0.out
            · exact HR.out j h3 hj (by omega) hx
          case measure => simp [intOf]; omega
    · have dk : decide ((k : Int) < (L.length : Int)) = false := decide_eq_false (by omega)
      have hf := HY.out (fun j h3 hj hx => HR.out j h3 hj (by omega) hx)
      subst hf
      go_wp2
      go_ret
      exact ⟨rfl, rfl⟩
end Go.Proofs.YtadhiknmkiogjaaDoor
