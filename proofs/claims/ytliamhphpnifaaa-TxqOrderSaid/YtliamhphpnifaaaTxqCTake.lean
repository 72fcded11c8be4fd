/-
The landed queue: Take.
-/
import Derived.Test.YtliamhphpnifaaaTxqCGo
namespace Go.Proofs.Ytliamhphpnifaaa
open Go.RowKit
set_option maxRecDepth 20000
theorem take_left (most bytes : Int) (S : List Ent) : ∀ k, k ≤ takeN most bytes 0 0 S → takeN most bytes k (sumF (S.take k)) (S.drop k) = takeN most bytes 0 0 S - k
  | 0, _ => rfl
  | k + 1, hk => by
    have ih := take_left most bytes S k (by omega)
    have hle := takeN_le most bytes S 0 0
    have hf := take_from most bytes S k (by omega)
    rw [ih] at hf
    by_cases h : k < S.length
    · rw [dif_pos h] at hf
      split at hf
      · omega
      · omega
    · rw [dif_neg h] at hf
      omega
theorem take_goes (most bytes : Int) (S : List Ent) (j : Nat) (hj : j < S.length) (hle : j ≤ takeN most bytes 0 0 S) : (j < takeN most bytes 0 0 S → (j : Int) < most ∧ (j = 0 ∨ sumF (S.take j) + S[j].fr.size ≤ bytes)) ∧
    (j = takeN most bytes 0 0 S → most ≤ (j : Int) ∨ (0 < (j : Int) ∧ bytes < sumF (S.take j) + S[j].fr.size)) := by
  have hl := take_left most bytes S j hle
  have hf := take_from most bytes S j (by omega)
  rw [hl, dif_pos hj] at hf
  unfold goesE at hf
  simp only [Bool.and_eq_true, Bool.or_eq_true, decide_eq_true_eq] at hf
  constructor
  · intro h
    split at hf
    · assumption
    · omega
  · intro h
    split at hf
    · omega
    · rename_i hn
      omega
theorem sumF_le16 (L : List Ent) (h : ∀ e ∈ L, e.fr.size ≤ 333) : 0 ≤ sumF L ∧ sumF L ≤ 333 * (L.length : Int) := by
  induction L with
  | nil => exact ⟨Int.le_refl _, Int.le_refl _⟩
  | cons e r ih =>
    have h1 := h e List.mem_cons_self
    have h2 := ih fun x hx => h x (List.mem_cons_of_mem _ hx)
    have e1 : sumF (e :: r) = (e.fr.size : Int) + sumF r := by unfold sumF; rw [List.map_cons, List.sum_cons]
    rw [e1, List.length_cons]
    omega
/-- what Take's function keeps when it was asked j times -/
def TkI (bt bm bs bb : Nat) (most bytes : Int) (S : List Ent) (T : Nat) (j : Nat) (W : World) : Prop :=
  TkB W bt bm bs bb ((min j T : Nat) : Int) (if j ≤ T then most else (T : Int)) (sumF (S.take (min j T))) bytes
theorem says_take16 (bt bm bs bb : Nat) (most bytes : Int) (S : List Ent) (hok : SOk S) :
    Says16 25 #[.pointer (some ⟨bt, 0, none⟩), .pointer (some ⟨bm, 0, none⟩), .pointer (some ⟨bs, 0, none⟩), .pointer (some ⟨bb, 0, none⟩)] S (fun j => decide (j < takeN most bytes 0 0 S)) (footT bt bm bs bb) (footT bt bm bs bb) (TkI bt bm bs bb most bytes S (takeN most bytes 0 0 S)) where
  sub := fun _ h => h
  enters := enters_of Try.func25 (by kernel_rfl) rfl
  mem := fun j W h => TkB.mem h
  stay := fun j W W' h hs => TkB.stay h hs
  call := by
    intro j hj W h
    have hT := takeN_le most bytes S 0 0
    have hgo := take_goes most bytes S j hj
    have hmany := hok.many
    have hfs := hok.size S[j] (List.getElem_mem hj)
    have hsum : ∀ k, 0 ≤ sumF (S.take k) ∧ sumF (S.take k) ≤ 100000 := fun k => by
      have h1 := sumF_le16 (S.take k) fun e he => hok.size e (List.mem_of_mem_take he)
      have h2 : (S.take k).length ≤ 16 := by rw [List.length_take]; omega
      omega
    have hst := sumF_take S j hj
    generalize takeN most bytes 0 0 S = T at *
    unfold TkI at h
    by_cases h1 : j < T
    · have e1 : min j T = j := by omega
      rw [e1, if_pos (by omega)] at h
      obtain ⟨g1, g2⟩ := (hgo (by omega)).1 h1
      refine (ctake_yes16 bt bm bs bb _ _ _ _ S[j].key S[j].fr W h ⟨by omega, by omega⟩ (hsum j) (by omega) g1 (g2.imp (by omega) id)).mono ?_
      rintro e W' ⟨rfl, h2, h3⟩
      refine ⟨by rw [decide_eq_true h1], ?_, h3⟩
      unfold TkI
      rw [show min (j + 1) T = j + 1 by omega, if_pos (by omega), hst]
      exact h2
    · have e1 : min j T = T := by omega
      have e2 : min (j + 1) T = T := by omega
      rw [e1] at h
      have fin : ∀ m, TkB W bt bm bs bb (T : Int) m (sumF (S.take T)) bytes → (m ≤ (T : Int) ∨ (0 < (T : Int) ∧ bytes < sumF (S.take T) + S[j].fr.size)) → Calls Try.prog 25 (#[.agg #[.int .i64 S[j].key, .string S[j].fr]] ++ #[.pointer (some ⟨bt, 0, none⟩), .pointer (some ⟨bm, 0, none⟩), .pointer (some ⟨bs, 0, none⟩), .pointer (some ⟨bb, 0, none⟩)]) W fun e W' => e = .returned (.bool (decide (j < T))) ∧ TkI bt bm bs bb most bytes S T (j + 1) W' ∧ Turn (footT bt bm bs bb) W W' := fun m hm hno => by
        refine (ctake_no16 bt bm bs bb _ m _ _ S[j].key S[j].fr W hm ⟨by omega, by omega⟩ (hsum T) (by omega) hno).mono ?_
        rintro e W' ⟨rfl, h2, h3⟩
        refine ⟨by rw [decide_eq_false h1], ?_, h3⟩
        unfold TkI
        rw [e2, if_neg (by omega)]
        exact h2
      by_cases h4 : j ≤ T
      · have h5 : j = T := by omega
        rw [if_pos h4] at h
        have := (hgo (by omega)).2 h5
        refine fin _ h ?_
        rw [← h5]
        exact this
      · rw [if_neg h4] at h
        exact fin _ h (Or.inl (Int.le_refl _))
theorem frs_drop (S : List Ent) (t : Nat) : goI (fun j => decide (j < t)) 0 S = S.take t ∧ stI (fun j => decide (j < t)) 0 S = S.drop t := by
  have := goI_first t S 0
  rwa [Nat.sub_zero] at this
set_option maxHeartbeats 1000000 in
theorem ctake16_nil (most bytes : Int) (w : World) : Calls Try.prog 12 #[.pointer none, .int .i64 most, .int .i64 bytes] w fun e w' => ∃ a c, e = .returned (.slice a 0 c) ∧ Below w.heap.size w w' := by
  have hmf : ∀ (fn : Fn) (first cap : Array Value) (W : World), (Instr.makeFunc fn first cap).run Try.prog W = .ok (.func fn first cap) W := fun _ _ _ _ => rfl
  have HD := Lib.hid (fun g W => cpart16_nil g W)
  have HB := Lib.hid (((((((Below.refl w.heap.size w).alloc (Nat.le_refl _) (.cells #[.int .i64 most] 3)).alloc (by simp) (.cells #[.int .i64 bytes] 3)).alloc (by simp; omega) (.cells #[.int .i64 0] 3)).alloc (by simp; omega) (.cells #[.int .i64 0] 3))))
  go_enter Try.func12, Try.ntmps12
  go_wp2_with (go_at_call 24; (with_reducible refine (HD.out _ _).mono ?_); rintro e w2 ⟨rfl, rfl⟩)
  exact bodyPost_ret (v := .slice none 0 0) (by simp [results, Try.results12, go_sem]) rfl ⟨_, _, rfl, HB.out⟩
theorem tk_start (w : World) (most bytes : Int) : TkB ((((w.alloc (.cells #[.int .i64 most] 3)).alloc (.cells #[.int .i64 bytes] 3)).alloc (.cells #[.int .i64 0] 3)).alloc (.cells #[.int .i64 0] 3)) (w.heap.size + 2) w.heap.size (w.heap.size + 3) (w.heap.size + 1) 0 most 0 bytes :=
  ⟨(RowAt.new _ (w.heap.size + 2) (by simp) [.int .i64 0] 3).alloc _, (((RowAt.new _ w.heap.size (by simp) [.int .i64 most] 3).alloc _).alloc _).alloc _, RowAt.new _ (w.heap.size + 3) (by simp) [.int .i64 0] 3, ((RowAt.new _ (w.heap.size + 1) (by simp) [.int .i64 bytes] 3).alloc _).alloc _, by omega, by omega, by omega, by omega, by omega, by omega⟩
set_option maxHeartbeats 1000000 in
theorem ctake16 (q : Nat) (S : List Ent) (F : Nat → Prop) (most bytes : Int) (w : World) (h : QuL w q S F) : Calls Try.prog 12 #[ptrQ q, .int .i64 most, .int .i64 bytes] w fun e w' =>
    ∃ F' v, e = .returned v ∧ QuL w' q (S.drop (takeN most bytes 0 0 S)) F' ∧ FreshS w w' F' v (frs (S.take (takeN most bytes 0 0 S))) ∧ Turn F w w' ∧ Grew F F' w := by
  have hmf : ∀ (fn : Fn) (first cap : Array Value) (W : World), (Instr.makeFunc fn first cap).run Try.prog W = .ok (.func fn first cap) W := fun _ _ _ _ => rfl
  have hb := (((((((Below.refl w.heap.size w).alloc (Nat.le_refl _) (.cells #[.int .i64 most] 3)).alloc (by simp) (.cells #[.int .i64 bytes] 3)).alloc (by simp; omega) (.cells #[.int .i64 0] 3)).alloc (by simp; omega) (.cells #[.int .i64 0] 3))))
  have hst := tk_start w most bytes
  have hF := quL_mem h
  have HD := Lib.hid (part_any16 25 #[.pointer (some ⟨w.heap.size + 2, 0, none⟩), .pointer (some ⟨w.heap.size, 0, none⟩), .pointer (some ⟨w.heap.size + 3, 0, none⟩), .pointer (some ⟨w.heap.size + 1, 0, none⟩)] S (fun j => decide (j < takeN most bytes 0 0 S)) _ _ _ q F w _ h hb (by
    rintro b (rfl | rfl | rfl | rfl) <;> omega) (says_take16 (w.heap.size + 2) w.heap.size (w.heap.size + 3) (w.heap.size + 1) most bytes S (quL_ok h)) (fun b hR => ⟨hst.mem b hR, fun hf => by
      have := hF b hf
      rcases hR with rfl | rfl | rfl | rfl <;> omega⟩) (by
    unfold TkI
    rw [Nat.zero_min, if_pos (Nat.zero_le _), List.take_zero]
    exact hst))
  obtain ⟨e1, e2⟩ := frs_drop S (takeN most bytes 0 0 S)
  rw [e1, e2] at HD
  clear hb hst hF h e1 e2
  generalize takeN most bytes 0 0 S = T at *
  go_enter Try.func12, Try.ntmps12
  go_wp2_with (go_at_call 24; (with_reducible refine HD.out.mono ?_); rintro e w2 ⟨tv, F', rfl, ⟨ta, tc, rfl, hfr⟩, hp⟩; have HP := Lib.hid hp; have HF := Lib.hid hfr; clear hp hfr)
  exact bodyPost_ret (v := .slice ta (frs (S.take T)).length tc) (by simp [results, Try.results12, go_sem]) rfl ⟨_, _, rfl, HP.out.1, ⟨ta, tc, rfl, HF.out⟩, HP.out.2⟩
end Go.Proofs.Ytliamhphpnifaaa
