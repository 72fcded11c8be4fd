/-
The landed queue: New, Drop, Take.
-/
import Derived.Test.YtliamhphpnifaaaTxqCFns
namespace Go.Proofs.Ytliamhphpnifaaa
open Go.RowKit
set_option maxRecDepth 20000
set_option maxHeartbeats 1000000 in
theorem cnew16 (w : World) : Calls Try.prog 8 #[] w fun e w' => ∃ q F, e = .returned (ptrQ q) ∧ QuL w' q [] F ∧ (∀ b, F b → w.heap.size ≤ b) ∧ Below w.heap.size w w' := by
  have HR := Lib.hid (RowAt.new w w.heap.size rfl [.slice none 0 0, .slice none 0 0, .slice none 0 0] 54)
  have HB := Lib.hid ((Below.refl w.heap.size w).alloc (Nat.le_refl _) (.cells #[.slice none 0 0, .slice none 0 0, .slice none 0 0] 54))
  go_enter Try.func8, Try.ntmps8
  go_wp2_with fail
  exact bodyPost_ret (v := .pointer (some ⟨w.heap.size, 0, none⟩)) (by simp [results, Try.results8, go_sem]) rfl
    ⟨_, _, rfl, ⟨fun _ => .slice none 0 0, ⟨HR.out, fun _ _ => OwnL.nil _ _ _ _, fun _ _ e => (by cases e), fun _ _ _ _ _ _ e => (by cases e)⟩, ⟨fun e he => (by cases he), List.Pairwise.nil, Nat.zero_le _, fun e he => (by cases he)⟩, fun _ => Nat.zero_le _, rfl⟩, (fun b hb => by rcases hb with e | ⟨_, _, e⟩; exact Nat.le_of_eq e.symm; cases e), HB.out⟩
theorem QuAt.congr {w : World} {q : Nat} {u : Nat → Value} {M M' : Nat → List Ent} (h : QuAt w q u M) (e : ∀ i, i < 3 → M i = M' i) : QuAt w q u M' := ⟨h.row, fun i hi => e i hi ▸ h.own i hi, h.nq, h.ap⟩
theorem SOk.sub {S S' : List Ent} (h : SOk S) (hs : S'.Sublist S) : SOk S' := ⟨fun e he => h.ok e (hs.subset he), h.by_.sublist hs, Nat.le_trans hs.length_le h.many, fun e he => h.size e (hs.subset he)⟩
/-- behind it: the queue, what it wrote, what is told -/
theorem part_end {w w1 W : World} {q : Nat} {u0 u : Nat → Value} {G : Nat → Prop} {I : Nat → World → Prop} {S T : List Ent} {g : Nat → Bool} {m : Nat} {tv : Value} (hq : QuAt w q u0 (clsE S)) (hok : SOk S) (h8 : ∀ c : Int, (ofC c S).length ≤ 8)
    (hb : Below w.heap.size w w1) (hG : ∀ b, G b → w.heap.size ≤ b) (h : PtAt w1 q u0 G I (doneE g S 3) m T [] tv (.slice none 0 0) u W) :
    QuL W q (stI g 0 S) (footQ q u) ∧ FreshS w W (footQ q u) tv (frs T) ∧ Turn (footQ q u0) w W ∧ Grew (footQ q u0) (footQ q u) w := by
  have hsz := hb.size
  have hql := hq.row.lt
  refine ⟨⟨u, h.qu.congr fun i hi => ?_, hok.sub (stI_sub g S 0), fun c => Nat.le_trans ((stI_sub g S 0).filter _).length_le (h8 c), rfl⟩, ?_, ?_, ?_⟩
  · unfold doneE
    rw [if_pos hi]
    exact (ofC_stay g S hok i hi).symm
  · obtain ⟨a, c, hv, hA⟩ := h.told.see
    refine ⟨a, c, hv, hA, fun p hp => ?_⟩
    have hown : tv.ownBlock = some p.block := by rw [hv, hp]; rfl
    have hge := h.told.ge hown
    refine ⟨by omega, hge.2, ?_⟩
    rintro (e | ⟨i, hi, e⟩)
    · omega
    · exact (h.qu.own i hi).apart h.told (by decide) e hown
  · have ht := h.turn
    refine ⟨ht.os.trans hb.os, ht.tape.trans hb.tape, ht.output.trans hb.output, Nat.le_trans hsz ht.size, fun b hb' hF => (ht.block b (by omega) ?_).trans (hb.block b hb')⟩
    rintro (e | e)
    · exact hF e
    · have := hG b e
      omega
  · rintro b (e | ⟨i, hi, e⟩)
    · exact Or.inl (Or.inl e)
    · exact (h.grew i hi b e).imp id fun hge => by omega
theorem frs_len (L : List Ent) : (frs L).length = L.length := by unfold frs; rw [List.length_map]
theorem joinS {S : List Ent} (h : SOk S) : joinU (clsE S) 3 = S := by rw [joinU_three]; exact h.parts.symm
theorem part_any16 (k : Nat) (cap : Array Value) (S : List Ent) (g : Nat → Bool) (G R : Nat → Prop) (I : Nat → World → Prop) (q : Nat) (F : Nat → Prop) (w w1 : World) (h : QuL w q S F) (hb : Below w.heap.size w w1) (hG : ∀ b, G b → w.heap.size ≤ b) (hs : Says16 k cap S g G R I)
    (hR : ∀ b, R b → b < w1.heap.size ∧ ¬ F b) (hI : I 0 w1) : Calls Try.prog 24 #[ptrQ q, .func (.func k) #[] cap] w1 fun e W => ∃ tv F', e = .returned tv ∧ FreshS w W F' tv (frs (goI g 0 S)) ∧ QuL W q (stI g 0 S) F' ∧ Turn F w W ∧ Grew F F' w := by
  obtain ⟨u0, h1, h2, h3, rfl⟩ := h
  refine (cpart16 k cap S g G R I q u0 w1 (h1.below hb) h2 hs hR hI).mono ?_
  rintro e W ⟨tv, u, he, hp⟩
  obtain ⟨z1, z2, z3, z4⟩ := part_end h1 h2 h3 hb hG hp
  rw [joinS h2] at z2
  exact ⟨tv, _, he, z2, z1, z3, z4⟩
/-- Drop's function, as one that part asks -/
def dropG (K : List Int) (S : List Ent) (j : Nat) : Bool := if h : j < S.length then decide (S[j].key ∈ K) else false
theorem says_drop16 (a : Option Addr) (n c b : Nat) (K : List Int) (S : List Ent) (hn : K.length = n) (hl : n ≤ 1000) :
    Says16 26 #[.pointer (some ⟨b, 0, none⟩)] S (dropG K S) (fun _ => False) (fun x => x = b ∨ (0 < n ∧ ∃ p, a = some p ∧ p.block = x)) (fun _ W => RowAt W b [.slice a n c] ∧ AtL encI W a K) where
  sub := fun _ h => h.elim
  enters := enters_of Try.func26 (by kernel_rfl) rfl
  mem := by
    rintro j W ⟨h1, h2⟩ x (rfl | ⟨h0, p, rfl, rfl⟩)
    · exact h1.lt
    · obtain ⟨g, o, e, hg⟩ := h2.some_ (by omega)
      cases e
      exact hg
  stay := by
    rintro j W W' ⟨h1, h2⟩ hs
    refine ⟨h1.block (hs.2 b (Or.inl rfl)) hs.1, ?_⟩
    by_cases h0 : 0 < n
    · exact h2.same (fun p e => hs.2 _ (Or.inr ⟨h0, p, e, rfl⟩)) hs.1
    · obtain rfl : K = [] := List.length_eq_zero_iff.1 (by omega)
      exact AtL.nil _ _ _
  call := by
    rintro j hj W ⟨h1, h2⟩
    refine (cdrop_fn16 a n c b K S[j].key S[j].fr W hn h2 hl (h1.cell 0 rfl) h1.lt).mono ?_
    rintro e W' ⟨rfl, hb⟩
    refine ⟨?_, ⟨h1.below hb, h2.below hb⟩, Turn.of_below hb⟩
    unfold dropG
    rw [dif_pos hj]
theorem goI_drop (K : List Int) (S : List Ent) : (goI (dropG K S) 0 S).length = cntK K S ∧ stI (dropG K S) 0 S = offK K S := by
  obtain ⟨h1, h2⟩ := goI_filter (dropG K S) (fun e => decide (e.key ∈ K)) S 0 fun i hi => by
    unfold dropG
    rw [dif_pos (by omega)]
    simp
  rw [h1, h2]
  exact ⟨List.countP_eq_length_filter.symm, rfl⟩
set_option maxHeartbeats 1000000 in
theorem cdrop16_nil (a : Option Addr) (n c : Nat) (w : World) : Calls Try.prog 15 #[.pointer none, .slice a n c] w fun e w' => e = .returned (.int .i64 0) ∧ Below w.heap.size w w' := by
  have hmf : ∀ (fn : Fn) (first cap : Array Value) (W : World), (Instr.makeFunc fn first cap).run Try.prog W = .ok (.func fn first cap) W := fun _ _ _ _ => rfl
  have HB0 := Lib.hid ((Below.refl w.heap.size w).alloc (Nat.le_refl _) (.cells #[.slice a n c] 60))
  have HD := Lib.hid (fun g W => cpart16_nil g W)
  go_enter Try.func15, Try.ntmps15
  go_wp2_with (go_at_call 24; (with_reducible refine (HD.out _ _).mono ?_); rintro e w2 ⟨rfl, rfl⟩)
  exact bodyPost_ret (v := .int .i64 0) (by simp [results, Try.results15, go_sem]) rfl ⟨rfl, HB0.out⟩
set_option maxHeartbeats 1000000 in
theorem cdrop16 (q : Nat) (S : List Ent) (F : Nat → Prop) (a : Option Addr) (n c : Nat) (K : List Int) (w : World) (h : QuL w q S F) (hn : K.length = n) (hl : n ≤ 1000) (hA : AtL encI w a K) (haF : ∀ p, a = some p → ¬ F p.block) :
    Calls Try.prog 15 #[ptrQ q, .slice a n c] w fun e w' => ∃ F', e = .returned (.int .i64 (cntK K S : Nat)) ∧ QuL w' q (offK K S) F' ∧ Turn F w w' ∧ Grew F F' w := by
  have hmf : ∀ (fn : Fn) (first cap : Array Value) (W : World), (Instr.makeFunc fn first cap).run Try.prog W = .ok (.func fn first cap) W := fun _ _ _ _ => rfl
  have hb := (Below.refl w.heap.size w).alloc (Nat.le_refl _) (.cells #[.slice a n c] 60)
  have hF := quL_mem h
  have HD := Lib.hid (part_any16 26 #[.pointer (some ⟨w.heap.size, 0, none⟩)] S (dropG K S) (fun _ => False) _ _ q F w (w.alloc (.cells #[.slice a n c] 60)) h hb (fun _ e => e.elim) (says_drop16 a n c w.heap.size K S hn hl) (by
    rintro b (rfl | ⟨h0, p, rfl, rfl⟩)
    · exact ⟨by simp, fun hf => by have := hF _ hf; omega⟩
    · obtain ⟨g, o, e, hg⟩ := hA.some_ (by omega)
      cases e
      exact ⟨by simp; omega, haF _ rfl⟩) ⟨RowAt.new w w.heap.size rfl [.slice a n c] 60, hA.below hb⟩)
  obtain ⟨e1, e2⟩ := goI_drop K S
  rw [e2] at HD
  obtain ⟨T, hT⟩ : ∃ T, T = goI (dropG K S) 0 S := ⟨_, rfl⟩
  rw [← hT] at HD e1
  have HT := Lib.hid (show (frs T).length = cntK K S from (frs_len T).trans e1)
  clear h hb hA haF e1 e2 hT hn hl hF
  rw [← HT.out]
  go_enter Try.func15, Try.ntmps15
  go_wp2_with (go_at_call 24; (with_reducible refine HD.out.mono ?_); rintro e w2 ⟨tv, F', rfl, ⟨ta, tc, rfl, -⟩, hp⟩; have HP := Lib.hid hp; clear hp)
  exact bodyPost_ret (v := .int .i64 ((frs T).length : Nat)) (by simp [results, Try.results15, go_sem]) rfl ⟨_, rfl, HP.out⟩
end Go.Proofs.Ytliamhphpnifaaa
