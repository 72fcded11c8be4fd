/-
A tick of a burst goes by: the landed air's pass.
-/
import Derived.Test.YtgfipndilngfbaaAirCSoundB
namespace Go.Proofs.Ytgfipndilngfbaa
open Go.RowKit
set_option maxRecDepth 20000
theorem elemS15 : Try.prog.elem 22 = 9 := by kernel_rfl
theorem sizeS15 (w : World) : (sizeOf 9).run Try.prog w = .ok 1 w := by kernel_rfl
/-- where a slice's rest lies -/
def restA (g o c : Nat) : Option Addr := if c = 1 then some ⟨g, o, none⟩ else some ⟨g, o + 1, none⟩
theorem run_rest15 (g o n c : Nat) (hn : 1 ≤ n) (W : World) : (Instr.slice 22 (.slice (some ⟨g, o, none⟩) n c) (some (.int .i64 1)) none none).run Try.prog W = .ok (.slice (restA g o c) (n - 1) (c - 1)) W := by
  have e1 : (⟨g, o, none⟩ : Addr).add 1 = ⟨g, o + 1, none⟩ := by unfold Addr.add; split <;> simp_all
  rw [run_slice_l W 22 (some ⟨g, o, none⟩) n c (by rw [elemS15]; exact Try.underlying22) .i64 1 (by omega) (by omega), elemS15, sizeS15]
  unfold restA
  by_cases h : c = 1 <;> simp [Result.andThen, sliced, h, e1]
theorem restA_block (g o c : Nat) : (restA g o c).map (·.block) = some g := by
  unfold restA
  split <;> rfl
theorem restA_at {w : World} {g o c : Nat} {f : ByteArray} {r : List ByteArray} (h : AtL encS w (some ⟨g, o, none⟩) (f :: r)) (hc : (f :: r).length ≤ c) : AtL encS w (restA g o c) r := by
  intro k hk
  have h1 : c ≠ 1 := by rw [List.length_cons] at hc; omega
  obtain ⟨g', o', ha, hg, hcell⟩ := h (k + 1) (by rw [List.length_cons]; omega)
  cases ha
  refine ⟨g, o + 1, by unfold restA; rw [if_neg h1], hg, fun j u hj => ?_⟩
  have := hcell j u (by simpa using hj)
  rw [show o + 1 + k * encS.n + j = o + (k + 1) * encS.n + j by rw [Nat.add_mul]; simp only [encS]; omega]
  exact this
theorem bu_upd {W W' : World} {b : Nat} {B' : Bu} {T : List Int} {fa fa' : Option Addr} {fc' : Nat} {tv : Value} (ht : Turn (fun k => k = b) W W') (hr : RowAt W' b [.int .i64 B'.lead, .int .i64 B'.tail, .slice fa' B'.frames.length fc', .int .i64 B'.went, tv]) (hc : B'.frames.length ≤ fc') (hA : AtL encS W fa' B'.frames)
    (h3 : ∀ q, fa = some q → q.block < W.heap.size ∧ q.block ≠ b ∧ tv.ownBlock ≠ some q.block) (hfa : fa'.map (·.block) = fa.map (·.block)) (ho : OwnN15 W 0 tv T) (htb : tv.ownBlock ≠ some b) :
    BuL W' b B' T (fun k => k = b ∨ (∃ q, fa = some q ∧ q.block = k) ∨ tv.ownBlock = some k) := by
  have hq : ∀ q', fa' = some q' → ∃ q, fa = some q ∧ q.block = q'.block := fun q' e => by
    rw [e] at hfa
    cases fa with
    | none => cases hfa
    | some q => exact ⟨q, rfl, by simpa using hfa.symm⟩
  refine ⟨fa', fc', tv, hr, hc, hA.turn ht fun q' e => ?_, fun q' e => ?_, OwnL.turn ho ht fun g e => fun q => htb (by rw [e, q]), htb, ?_⟩
  · obtain ⟨q, e1, e2⟩ := hq q' e
    rw [← e2]
    exact (h3 q e1).2.1
  · obtain ⟨q, e1, e2⟩ := hq q' e
    rw [← e2]
    exact ⟨Nat.lt_of_lt_of_le (h3 q e1).1 ht.size, (h3 q e1).2⟩
  · funext k
    rw [eq_iff_iff]
    refine or_congr Iff.rfl (or_congr ⟨fun ⟨q, e1, e2⟩ => ?_, fun ⟨q', e1, e2⟩ => ?_⟩ Iff.rfl)
    · rw [e1] at hfa
      cases fa' with
      | none => cases hfa
      | some q' => exact ⟨q', rfl, by rw [← e2]; simpa using hfa⟩
    · obtain ⟨q, e3, e4⟩ := hq q' e1
      exact ⟨q, e3, by rw [e4, e2]⟩
def PassTo (w : World) (b : Nat) (B : Bu) (T : List Int) (G : Nat → Prop) : Ending → World → Prop := fun e w' => e = .returned (.tuple #[]) ∧ BuL w' b B T G ∧ Turn (fun k => k = b) w w'
set_option maxHeartbeats 1000000 in
theorem cpass_lead (w : World) (b : Nat) (B : Bu) (T : List Int) (G : Nat → Prop) (h : BuL w b B T G) (hok : BuOk B) (hl : 0 < B.lead) (c : Nat → Bool) : Calls Try.prog 29 #[ptrV b] w (PassTo w b ⟨B.lead - 1, B.tail, B.frames, B.went, c⟩ T G) := by
  obtain ⟨fa, fc, tv, hr, hc, hA, h3, ho, htb, rfl⟩ := h
  have hz : wrap64 ((B.lead : Int) - 1) = ((B.lead - 1 : Nat) : Int) := by
    have := hok.lead
    rw [IntWalk.wrap64_in _ (by omega)]
    omega
  have d0 : decide (0 < B.lead) = true := decide_eq_true hl
  have d1 : decide ((0 : Int) < (B.lead : Int)) = true := decide_eq_true (by omega)
  have c0 := hr.cell 0 rfl
  have f0 := (hr.get 0 rfl).free
  have HE := Lib.hid (bu_upd (B' := ⟨B.lead - 1, B.tail, B.frames, B.went, c⟩) (fa := fa) (fa' := fa) ((Turn.refl (fun k => k = b) w).set (p := ⟨b, 0, none⟩) (Or.inl rfl) (.int .i64 ((B.lead - 1 : Nat) : Int))) (hr.put 0 (.int .i64 ((B.lead - 1 : Nat) : Int)) _ rfl) hc hA h3 rfl ho htb)
  have HT := Lib.hid ((Turn.refl (fun k => k = b) w).set (p := ⟨b, 0, none⟩) (Or.inl rfl) (.int .i64 ((B.lead - 1 : Nat) : Int)))
  unfold PassTo
  generalize ((B.lead - 1 : Nat) : Int) = x at *
  clear hr hc hA h3 ho htb hok
  go_enter Try.func29, Try.ntmps29
  go_wp2_with fail
  exact bodyPost_end (v := .tuple #[]) (by simp [results, Try.results29, go_sem]) rfl ⟨rfl, HE.out, HT.out⟩
set_option maxHeartbeats 1000000 in
theorem cpass_tail (w : World) (b : Nat) (B : Bu) (T : List Int) (G : Nat → Prop) (h : BuL w b B T G) (hok : BuOk B) (hpos : 0 < B.left) (hl : B.lead = 0) (hf : B.frames = []) (c : Nat → Bool) : Calls Try.prog 29 #[ptrV b] w (PassTo w b ⟨0, B.tail - 1, [], 0, c⟩ T G) := by
  obtain ⟨fa, fc, tv, hr, hc, hA, h3, ho, htb, rfl⟩ := h
  have hw := hok.over hf
  unfold Bu.left at hpos
  rw [hl, hf, hw] at hpos
  rw [hf] at hr hc hA
  rw [hl, hw] at hr
  have hz : wrap64 ((B.tail : Int) - 1) = ((B.tail - 1 : Nat) : Int) := by
    have := hok.tail
    rw [IntWalk.wrap64_in _ (by omega)]
    have e : sumL [] = 0 := rfl
    omega
  have c0 := hr.cell 0 rfl
  have c2 := hr.cell 2 rfl
  have c1 := hr.cell 1 rfl
  have f1 := (hr.get 1 rfl).free
  have HE := Lib.hid (bu_upd (B' := ⟨0, B.tail - 1, [], 0, c⟩) (fa := fa) (fa' := fa) ((Turn.refl (fun k => k = b) w).set (p := ⟨b, 1, none⟩) (Or.inl rfl) (.int .i64 ((B.tail - 1 : Nat) : Int))) (hr.put 1 (.int .i64 ((B.tail - 1 : Nat) : Int)) _ rfl) hc hA h3 rfl ho htb)
  have HT := Lib.hid ((Turn.refl (fun k => k = b) w).set (p := ⟨b, 1, none⟩) (Or.inl rfl) (.int .i64 ((B.tail - 1 : Nat) : Int)))
  unfold PassTo
  generalize ((B.tail - 1 : Nat) : Int) = x at *
  simp only [List.length_nil] at c2
  clear hr hc hA h3 ho htb hok hpos hw
  go_enter Try.func29, Try.ntmps29
  go_wp2_with fail
  exact bodyPost_end (v := .tuple #[]) (by simp [results, Try.results29, go_sem]) rfl ⟨rfl, HE.out, HT.out⟩
set_option maxHeartbeats 1000000 in
theorem cpass_more (w : World) (b : Nat) (B : Bu) (T : List Int) (G : Nat → Prop) (h : BuL w b B T G) (hok : BuOk B) (hl : B.lead = 0) (f : ByteArray) (r : List ByteArray) (hf : B.frames = f :: r) (hd : B.went + 1 ≠ longN f) (c : Nat → Bool) : Calls Try.prog 29 #[ptrV b] w (PassTo w b ⟨0, B.tail, f :: r, B.went + 1, c⟩ T G) := by
  have hq := hok.went f r hf
  have hs := hok.size f (by rw [hf]; exact List.mem_cons_self)
  have hlo := longN_le f hs
  have HL := Lib.hid (clast15 w b B T G h f r hf hs (by omega))
  rw [decide_eq_false hd] at HL
  have h' := h
  obtain ⟨fa, fc, tv, hr, hc, hA, h3, ho, htb, rfl⟩ := h
  have HX := Lib.hid (fun W (hb : Below w.heap.size w W) => h'.stay (SameOn.of_below hb h'.mem))
  have HR := Lib.hid hr
  rw [hl, hf] at hr
  have hz : wrap64 ((B.went : Int) + 1) = ((B.went + 1 : Nat) : Int) := by
    rw [IntWalk.wrap64_in _ (by omega)]
    omega
  have dk : ((((f :: r).length : Nat) : Int) == 0) = false := by rw [beq_eq_false_iff_ne, List.length_cons]; omega
  have c0 := hr.cell 0 rfl
  have c2 := hr.cell 2 rfl
  rw [hf] at hc hA
  have HE := Lib.hid (fun (W : World) (hb : Below w.heap.size w W) => And.intro (bu_upd (B' := ⟨0, B.tail, f :: r, B.went + 1, c⟩) (fa := fa) (fa' := fa) ((Turn.refl (fun k => k = b) W).set (p := ⟨b, 3, none⟩) (Or.inl rfl) (.int .i64 ((B.went + 1 : Nat) : Int))) ((hr.below hb).put 3 (.int .i64 ((B.went + 1 : Nat) : Int)) _ rfl) hc (hA.below hb)
    (fun q e => ⟨Nat.lt_of_lt_of_le (h3 q e).1 hb.size, (h3 q e).2⟩) rfl (OwnL.below ho hb) htb) ((Turn.of_below hb).set (F := fun k => k = b) (p := ⟨b, 3, none⟩) (Or.inl rfl) (.int .i64 ((B.went + 1 : Nat) : Int))))
  have HR2 := Lib.hid hr
  unfold PassTo
  generalize (f :: r).length = k at *
  generalize hx : ((B.went + 1 : Nat) : Int) = x at *
  clear hr hc hA h3 ho htb hok hq hs hlo hd h' hf hl HX HR
  go_enter Try.func29, Try.ntmps29
  go_wp2_with (go_at_call 41; (with_reducible refine HL.out.mono ?_); rintro e w1 ⟨rfl, hb⟩; have y3 := (HR2.out.below hb).cell 3 rfl; have f3 := ((HR2.out.below hb).get 3 rfl).free; have HE2 := Lib.hid (HE.out _ hb); clear hb)
  exact bodyPost_end (v := .tuple #[]) (by simp [results, Try.results29, go_sem]) rfl ⟨rfl, HE2.out⟩
set_option maxHeartbeats 1000000 in
theorem cpass_next (w : World) (b : Nat) (B : Bu) (T : List Int) (G : Nat → Prop) (h : BuL w b B T G) (hok : BuOk B) (hl : B.lead = 0) (f : ByteArray) (r : List ByteArray) (hf : B.frames = f :: r) (hd : B.went + 1 = longN f) (c : Nat → Bool) : Calls Try.prog 29 #[ptrV b] w (PassTo w b ⟨0, B.tail, r, 0, c⟩ T G) := by
  have hq := hok.went f r hf
  have hs := hok.size f (by rw [hf]; exact List.mem_cons_self)
  have hlo := longN_le f hs
  have HL := Lib.hid (clast15 w b B T G h f r hf hs (by omega))
  rw [decide_eq_true hd] at HL
  obtain ⟨fa, fc, tv, hr, hc, hA, h3, ho, htb, rfl⟩ := h
  rw [hl, hf] at hr
  rw [hf] at hc hA
  obtain ⟨g, o, rfl, -⟩ := hA.some_ (by simp)
  have dk : ((((f :: r).length : Nat) : Int) == 0) = false := by rw [beq_eq_false_iff_ne, List.length_cons]; omega
  have c0 := hr.cell 0 rfl
  have c2 := hr.cell 2 rfl
  have hsl := fun W => run_rest15 g o (f :: r).length fc (by simp) W
  have hlen : (f :: r).length - 1 = r.length := by simp
  rw [hlen] at hsl
  have HE := Lib.hid (fun (W : World) (hb : Below w.heap.size w W) => And.intro (bu_upd (B' := ⟨0, B.tail, r, 0, c⟩) (fa := some ⟨g, o, none⟩) (fa' := restA g o fc) (((Turn.refl (fun k => k = b) W).set (p := ⟨b, 2, none⟩) (Or.inl rfl) (.slice (restA g o fc) r.length (fc - 1))).set (p := ⟨b, 3, none⟩) (Or.inl rfl) (.int .i64 0))
    (((hr.below hb).put 2 (.slice (restA g o fc) r.length (fc - 1)) _ rfl).put 3 (.int .i64 0) _ rfl) (show r.length ≤ fc - 1 from by rw [List.length_cons] at hc; omega) (restA_at (hA.below hb) hc)
    (fun q e => ⟨Nat.lt_of_lt_of_le (h3 q e).1 hb.size, (h3 q e).2⟩) (restA_block g o fc) (OwnL.below ho hb) htb) (((Turn.of_below hb).set (F := fun k => k = b) (p := ⟨b, 2, none⟩) (Or.inl rfl) (.slice (restA g o fc) r.length (fc - 1))).set (p := ⟨b, 3, none⟩) (Or.inl rfl) (.int .i64 0)))
  have HR2 := Lib.hid hr
  unfold PassTo
  generalize (f :: r).length = k at *
  generalize r.length = k' at *
  generalize restA g o fc = fa' at *
  generalize fc - 1 = fc' at *
  clear hr hc hA h3 ho htb hok hq hs hlo hd hf hl hlen
  go_enter Try.func29, Try.ntmps29
  go_wp2_with (go_at_call 41; (with_reducible refine HL.out.mono ?_); rintro e w1 ⟨rfl, hb⟩; have y2 := (HR2.out.below hb).cell 2 rfl; have f2 := ((HR2.out.below hb).get 2 rfl).free; have y3 := (HR2.out.below hb).cell 3 rfl; have f3 := ((HR2.out.below hb).get 3 rfl).free; have HE2 := Lib.hid (HE.out _ hb); clear hb)
  exact bodyPost_end (v := .tuple #[]) (by simp [results, Try.results29, go_sem]) rfl ⟨rfl, HE2.out⟩
theorem step_ok {B : Bu} (h : BuOk B) (H : Nat → Nat → Bool) (n : Nat) (S : Ai) (i : Nat) : BuOk (stepB H n S i B) := by
  have h1 := h.lead
  have h2 := h.tail
  unfold stepB
  by_cases hl : 0 < B.lead
  · rw [if_pos hl]
    exact ⟨by dsimp only; omega, h2, h.many, h.size, fun _ => h.still hl, h.over, h.went⟩
  · rw [if_neg hl]
    cases hf : B.frames with
    | nil => exact ⟨Nat.zero_le _, by dsimp only; omega, Nat.zero_le _, fun f hf => absurd hf (List.not_mem_nil), fun _ => rfl, fun _ => rfl, fun f r e => by cases e⟩
    | cons f r =>
      dsimp only
      have hm := h.many
      rw [hf, List.length_cons] at hm
      have hs := h.size
      rw [hf] at hs
      by_cases hd : B.went + 1 = longN f
      · rw [if_pos hd]
        exact ⟨Nat.zero_le _, h2, by dsimp only; omega, fun g hg => hs g (List.mem_cons_of_mem _ hg), fun _ => rfl, fun _ => rfl, fun g r' e => by show 0 < longN g; unfold longN; omega⟩
      · rw [if_neg hd]
        have := h.went f r hf
        exact ⟨Nat.zero_le _, h2, by rw [List.length_cons]; exact hm, hs, fun q => absurd q (Nat.lt_irrefl 0), (fun e => by cases e), fun g r' e => by cases e; dsimp only; omega⟩
/-- a tick of it -/
theorem cpass15 (w : World) (b : Nat) (B : Bu) (T : List Int) (G : Nat → Prop) (h : BuL w b B T G) (hok : BuOk B) (hpos : 0 < B.left) (H : Nat → Nat → Bool) (n : Nat) (S : Ai) (i : Nat) : Calls Try.prog 29 #[ptrV b] w (PassTo w b (stepB H n S i B) T G) := by
  unfold stepB
  by_cases hl : 0 < B.lead
  · rw [if_pos hl]
    exact cpass_lead w b B T G h hok hl _
  · rw [if_neg hl]
    cases hf : B.frames with
    | nil => exact cpass_tail w b B T G h hok hpos (by omega) hf _
    | cons f r =>
      dsimp only
      by_cases hd : B.went + 1 = longN f
      · rw [if_pos hd]
        exact cpass_next w b B T G h hok (by omega) f r hf hd _
      · rw [if_neg hd]
        exact cpass_more w b B T G h hok (by omega) f r hf hd _
end Go.Proofs.Ytgfipndilngfbaa
