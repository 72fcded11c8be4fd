/-
The landed air's sound (written by tools/gen15/gen_sound.py).
-/
import Derived.Test.YtgfipndilngfbaaAirCSoundB
namespace Go.Proofs.Ytgfipndilngfbaa
open Go.RowKit
set_option maxRecDepth 20000
/-- what sound answers -/
def SoundTo (w : World) (a n : Nat) (H : Nat → Nat → Bool) (S : Ai) (p m hh : Nat) (Fp : Nat → Prop) (M : Nat → Option Nat) (G : Nat → Nat → Prop) (T : Nat → List Int) (i : Nat) (L : List Int) (D : List Gt) : Ending → World → Prop := fun e w' =>
  ∃ v G', e = .returned v ∧ AirAt w' a n H S p m hh Fp M (fun k => if k = i then G' else G k) (fun k => if k = i then L else T k) ∧ Turn (G i) w w' ∧ Grew (G i) G' w ∧ OwnL encG 37 w' w.heap.size v D
set_option maxHeartbeats 2000000 in
theorem csound_first_go {w : World} {a n : Nat} {H : Nat → Nat → Bool} {S : Ai} {p m hh : Nat} {Fp : Nat → Prop} {M : Nat → Option Nat} {G : Nat → Nat → Prop} {T : Nat → List Int} (h : AirAt w a n H S p m hh Fp M G T) (i b : Nat) (B : Bu) (f : ByteArray) (r : List ByteArray) (hM : M i = some b) (hS : S i = some B) (hf : B.frames = f :: r) (hw : B.went = 0) (_hT : 0 < B.went → T i = takersL n B.clear)
    (hd : decide (B.went + 1 = longN f) = false) (L : List Int) (hLL : L = takersL n (clearB H n S i B)) : Calls Try.prog 28 #[ptrV a, .int .i64 i, ptrV b] w (SoundTo w a n H S p m hh Fp M G T i L (([] : List Gt))) := by
  obtain ⟨B', hS', hi, hbu, hok⟩ := h.bu i b hM
  obtain rfl : B = B' := by rw [hS] at hS'; exact Option.some.inj hS'
  obtain ⟨fa, fc, tv, hr, hcap, hA, h3, hown, htb, hG⟩ := hbu
  obtain ⟨tg, tq, rfl, -⟩ := hA.some_ (by rw [hf]; simp)
  have HTX := Lib.hid (fun W (h : AtL encS W (some ⟨tg, tq, none⟩) B.frames) => show W.cell? ⟨tg, tq, none⟩ = some (.string f) from by rw [hf] at h; exact text_at h 0 (by simp))
  have hsome : (S i).isSome = true := by rw [hS]; rfl
  have hn := h.many
  have hb2 : Below w.heap.size w ((w.alloc (.cells #[ptrV a] 25)).alloc (.cells #[.int .i64 i] 3)) := ((Below.refl _ w).alloc (Nat.le_refl _) _).alloc (by simp) _
  have HT0 := Lib.hid (SoT.start (i := i) (c0 := w.heap.size) (c1 := w.heap.size + 1) h hb2 hr hcap hA h3 hown htb hG ⟨Nat.le_refl _, Nat.le_succ _⟩ ((RowAt.new w w.heap.size rfl [ptrV a] _).alloc _) (RowAt.new _ _ (by simp) [.int .i64 i] _))
  have HA2 := Lib.hid (h.below hb2)
  have HFIN := Lib.hid (fun W v (L' : List Int) (G' : Nat → Prop) (k : SoU w (G i) a b B i (some ⟨tg, tq, none⟩) fc v L' w.heap.size (w.heap.size + 1) G' W) => SoU.air h hM hS hok k)
  have HI := Lib.hid hi
  have HSZ := Lib.hid (show i ≤ 1000 ∧ n ≤ 16 ∧ B.went ≤ 1000 ∧ f.size ≤ 333 from by
    have q1 := hok.went f r hf
    have q2 := hok.size f (by rw [hf]; exact List.mem_cons_self)
    have q3 := longN_le f q2
    exact ⟨by omega, by omega, by omega, q2⟩)
  have HF := Lib.hid hf
  have HLAST := Lib.hid (fun W v (L' : List Int) (G' : Nat → Prop) (k : SoU w (G i) a b B i (some ⟨tg, tq, none⟩) fc v L' w.heap.size (w.heap.size + 1) G' W) => clast15 W b B L' G' k.bu f r hf HSZ.out.2.2.2 HSZ.out.2.2.1)
  rw [hd] at HLAST
  have HCC := Lib.hid ((keep_takers n (fun j => H j i) (clearN H n S i)).trans ((clear_first H n S i B hi hsome hw).trans hLL.symm))
  have dw : ((B.went : Int) == 0) = true := by rw [hw]; rfl
  have hmf : ∀ (fn : Fn) (first cap : Array Value) (W : World), (Instr.makeFunc fn first cap).run Try.prog W = .ok (.func fn first cap) W := fun _ _ _ _ => rfl
  have HG := Lib.hid (show ∀ k, G i k → k < w.heap.size from fun k hk => h.mem k (Or.inr (Or.inr (Or.inr (Or.inr ⟨i, hk⟩)))))
  have HFC := Lib.hid (show 0 < B.frames.length from by rw [hf]; simp)
  have HLN := Lib.hid (show L.length ≤ 16 from by rw [hLL]; exact Nat.le_trans (takers_le _ _) hn.2)
  have HIN := Lib.hid (show ∀ x ∈ L, ∃ j : Nat, (1 ≤ j ∧ j ≤ n) ∧ x = j from by rw [hLL]; exact takers_in _ _)
  clear h hr hA h3 hown htb hG hS hS' hM hok hcap hsome hn hb2 hf hw _hT hd hLL hi
  unfold SoundTo
  have k0 := HT0.out.r0.cell 0 rfl
  have k3 := HT0.out.row.cell 3 rfl
  generalize hw2 : ((w.alloc (.cells #[ptrV a] 25)).alloc (.cells #[.int .i64 i] 3)) = w2 at *
  go_enter Try.func28, Try.ntmps28
  go_upto_region 2 with fail
  clear k0 k3 hw2
  have HH := Lib.hid (cheard15 (HA2.out.plane.below ((Below.refl _ w2).drew)) HSZ.out.2.1 i HI.out)
  refine wp_region_held (S := fun W' => RowAt W' w.heap.size [ptrV a] ∧ RowAt W' (w.heap.size + 1) [.int .i64 i] ∧ RowAt W' a [ptrV p, .map (some m), .map (some hh)]) (by kernel_rfl) ?_
  change wpAnyH _ _ _ _ _ _ _ _ w2.drew
  have HB := Lib.hid (And.intro HT0.out.r0.drew (And.intro HT0.out.r1.drew HA2.out.row.drew))
  refine wpAnyH_take (i := 0) (v := ?_) rfl (by kernel_rfl) (by kernel_rfl) (by kernel_rfl) (fun _ _ _ h => h) (Or.inl ⟨by rfl, ?_⟩) HB.out ?_
  rotate_left
  · intro w' hw'
    go_simp
    with_reducible rfl
  go_simp
  refine wpAnyH_take (i := 1) (v := ?_) rfl (by kernel_rfl) (by kernel_rfl) (by kernel_rfl) (fun _ _ _ h => h) (Or.inl ⟨by rfl, ?_⟩) HB.out ?_
  rotate_left
  · intro w' hw'
    have xx := hw'.1.cell 0 rfl
    go_simp
    with_reducible rfl
  go_simp
  refine wpAnyH_take (i := 2) (v := ?_) rfl (by kernel_rfl) (by kernel_rfl) (by kernel_rfl) (fun _ _ _ h => h) (Or.inl ⟨by rfl, ?_⟩) HB.out ?_
  rotate_left
  · intro w' hw'
    go_simp
    with_reducible rfl
  go_simp
  refine wpAnyH_take (i := 3) (v := ?_) rfl (by kernel_rfl) (by kernel_rfl) (by kernel_rfl) (fun _ _ _ h => h) (Or.inl ⟨by rfl, ?_⟩) HB.out ?_
  rotate_left
  · intro w' hw'
    go_simp
    with_reducible rfl
  go_simp
  refine wpAnyH_take (i := 4) (v := ?_) rfl (by kernel_rfl) (by kernel_rfl) (by kernel_rfl) (fun _ _ _ h => h) (Or.inl ⟨by rfl, ?_⟩) HB.out ?_
  rotate_left
  · intro w' hw'
    have xx := hw'.2.2.cell 0 rfl
    go_simp
    with_reducible rfl
  go_simp
  refine wpAnyH_take (i := 5) (v := ?_) rfl (by kernel_rfl) (by kernel_rfl) (by kernel_rfl) (fun _ _ _ h => h) (Or.inl ⟨by rfl, ?_⟩) HB.out ?_
  rotate_left
  · intro w' hw'
    have xx := hw'.2.1.cell 0 rfl
    go_simp
    with_reducible rfl
  go_simp
  refine wpAnyH_ready (rs := [6]) (by kernel_rfl) (by simp) ?_
  refine AllReadyH.cons rfl (fun K hK => ?_) AllReadyH.nil
  go_simp
  go_at_call 37
  refine HH.out.mono ?_
  rintro e w3 ⟨v3, rfl, hown3, hb3⟩
  obtain ⟨va, vn, vc, rfl⟩ := OwnL.form' hown3
  have hb3' : Below w2.heap.size w2 w3 := (Below.refl _ w2).drew.trans hb3
  have HT3 := Lib.hid (SoT.take (HT0.out.below hb3') (v' := .slice va vn vc) (OwnL.base hown3 (Nat.zero_le _)) (fun k e => by
    have q := (OwnL.ge hown3 e).1
    have q2 : w.heap.size + 1 < w2.heap.size := HT0.out.r1.lt
    have q3 : w2.drew.heap.size = w2.heap.size := rfl
    exact ⟨by omega, by omega, by omega⟩))
  have HB2 := Lib.hid (And.intro (HT0.out.r0.below hb3') (And.intro (HT0.out.r1.below hb3') (HA2.out.row.below hb3')))
  have HB3 := Lib.hid (And.intro HT3.out.2.r0 (And.intro HT3.out.2.r1 HT3.out.2.base.row))
  obtain ⟨y0, yf⟩ := HT3.out.1
  have HT4 := Lib.hid HT3.out.2
  clear hown3 hb3 hb3' HT3 HH
  change K _ _
  refine hK.out _ _ HB2.out (fun _ => ?_)
  clear hK K HB
  have HB := HB2
  refine wpAnyH_take (i := 7) (v := ?_) rfl (by kernel_rfl) (by kernel_rfl) (by kernel_rfl) (fun _ _ _ h => h) (Or.inl ⟨by rfl, ?_⟩) HB.out ?_
  rotate_left
  · intro w' hw'
    go_simp
    with_reducible rfl
  go_simp
  refine wpAnyH_take (i := 8) (v := ?_) rfl (by kernel_rfl) (by kernel_rfl) (by kernel_rfl) (fun _ _ _ h => h) (Or.inl ⟨by rfl, ?_⟩) HB.out ?_
  rotate_left
  · intro w' hw'
    go_simp
    with_reducible rfl
  go_simp
  refine wpAnyH_ready (rs := [9]) (by kernel_rfl) (by simp) ?_
  refine AllReadyH.cons rfl (fun K hK => ?_) AllReadyH.nil
  go_simp
  refine hK.out _ _ HB3.out (fun _ => ?_)
  clear hK K HB HB2 HB3 y0 yf
  refine wpAnyH_done (by kernel_rfl) ?_ _
  generalize w3.setCell ⟨b, 4, none⟩ (.slice va vn vc) = w4 at *
  have k4 := HT4.out.row.cell 4 rfl
  have HDF := Lib.hid (cdel15 39 #[ptrV w.heap.size, ptrV (w.heap.size + 1)] (fun x => !clearN H n S i x.toNat) (.slice va vn vc) (takersL n fun j => H j i) w4 HT4.out.own (Nat.le_trans (takers_le _ _) HSZ.out.2.1) (HT4.out.says HI.out (takers_in _ _)))
  rw [HCC.out] at HDF
  go_wp2_with (first
    | (go_at_call 38; (with_reducible refine HDF.out.mono ?_); rintro e w5 ⟨v5, rfl, hown5, hob5, ht5⟩
       obtain ⟨xa, xc, rfl, -⟩ := OwnL.see hown5
       obtain ⟨⟨y0, yf⟩, G5, hu5⟩ := HT4.out.del hown5 hob5 ht5
       have HU := Lib.hid hu5
       clear hown5 hob5 ht5 hu5)
    | (go_at_call 41; (with_reducible refine (HLAST.out _ _ _ _ HU.out).mono ?_); rintro e wb ⟨rfl, hb6⟩
       have HB6 := Lib.hid hb6
       have HA6 := Lib.hid ((HFIN.out _ _ _ _ HU.out).below hb6)
       have HLO := Lib.hid (show LoAt a n H S p m hh Fp M _ _ b B i (some ⟨tg, tq, none⟩) fc (.slice xa L.length xc) L w.heap.size (w.heap.size + 1) wb from ⟨HA6.out, HU.out.row.below hb6, HU.out.txt.below hb6, OwnL.below HU.out.own hb6, HU.out.r0.below hb6, HU.out.r1.below hb6⟩)
       have HTG := Lib.hid (And.intro (HU.out.turn.then_ hb6) HU.out.grew)
       have k6 := HLO.out.row.cell 4 rfl
       clear hb6))
  exact bodyPost_ret (v := .slice none 0 0) (by simp [results, Try.results28, go_sem]) rfl ⟨_, G5, rfl, HA6.out, HTG.out.1, HTG.out.2, OwnL.nil _ _ _ _⟩
set_option maxHeartbeats 2000000 in
theorem csound_next_go {w : World} {a n : Nat} {H : Nat → Nat → Bool} {S : Ai} {p m hh : Nat} {Fp : Nat → Prop} {M : Nat → Option Nat} {G : Nat → Nat → Prop} {T : Nat → List Int} (h : AirAt w a n H S p m hh Fp M G T) (i b : Nat) (B : Bu) (f : ByteArray) (r : List ByteArray) (hM : M i = some b) (hS : S i = some B) (hf : B.frames = f :: r) (hw : 0 < B.went) (hT : 0 < B.went → T i = takersL n B.clear)
    (hd : decide (B.went + 1 = longN f) = false) (L : List Int) (hLL : L = takersL n (clearB H n S i B)) : Calls Try.prog 28 #[ptrV a, .int .i64 i, ptrV b] w (SoundTo w a n H S p m hh Fp M G T i L (([] : List Gt))) := by
  obtain ⟨B', hS', hi, hbu, hok⟩ := h.bu i b hM
  obtain rfl : B = B' := by rw [hS] at hS'; exact Option.some.inj hS'
  obtain ⟨fa, fc, tv, hr, hcap, hA, h3, hown, htb, hG⟩ := hbu
  obtain ⟨tg, tq, rfl, -⟩ := hA.some_ (by rw [hf]; simp)
  have HTX := Lib.hid (fun W (h : AtL encS W (some ⟨tg, tq, none⟩) B.frames) => show W.cell? ⟨tg, tq, none⟩ = some (.string f) from by rw [hf] at h; exact text_at h 0 (by simp))
  have hsome : (S i).isSome = true := by rw [hS]; rfl
  have hn := h.many
  have hb2 : Below w.heap.size w ((w.alloc (.cells #[ptrV a] 25)).alloc (.cells #[.int .i64 i] 3)) := ((Below.refl _ w).alloc (Nat.le_refl _) _).alloc (by simp) _
  have HT0 := Lib.hid (SoT.start (i := i) (c0 := w.heap.size) (c1 := w.heap.size + 1) h hb2 hr hcap hA h3 hown htb hG ⟨Nat.le_refl _, Nat.le_succ _⟩ ((RowAt.new w w.heap.size rfl [ptrV a] _).alloc _) (RowAt.new _ _ (by simp) [.int .i64 i] _))
  have HA2 := Lib.hid (h.below hb2)
  have HFIN := Lib.hid (fun W v (L' : List Int) (G' : Nat → Prop) (k : SoU w (G i) a b B i (some ⟨tg, tq, none⟩) fc v L' w.heap.size (w.heap.size + 1) G' W) => SoU.air h hM hS hok k)
  have HI := Lib.hid hi
  have HSZ := Lib.hid (show i ≤ 1000 ∧ n ≤ 16 ∧ B.went ≤ 1000 ∧ f.size ≤ 333 from by
    have q1 := hok.went f r hf
    have q2 := hok.size f (by rw [hf]; exact List.mem_cons_self)
    have q3 := longN_le f q2
    exact ⟨by omega, by omega, by omega, q2⟩)
  have HF := Lib.hid hf
  have HLAST := Lib.hid (fun W v (L' : List Int) (G' : Nat → Prop) (k : SoU w (G i) a b B i (some ⟨tg, tq, none⟩) fc v L' w.heap.size (w.heap.size + 1) G' W) => clast15 W b B L' G' k.bu f r hf HSZ.out.2.2.2 HSZ.out.2.2.1)
  rw [hd] at HLAST
  have HCC := Lib.hid ((congrArg _ (hT hw)).trans ((keep_takers n B.clear (clearN H n S i)).trans ((clear_next H n S i B hi hsome hw).trans hLL.symm)))
  have dw : ((B.went : Int) == 0) = false := by rw [beq_eq_false_iff_ne]; omega
  have HT1 := Lib.hid (hT hw)
  have hmf : ∀ (fn : Fn) (first cap : Array Value) (W : World), (Instr.makeFunc fn first cap).run Try.prog W = .ok (.func fn first cap) W := fun _ _ _ _ => rfl
  have HG := Lib.hid (show ∀ k, G i k → k < w.heap.size from fun k hk => h.mem k (Or.inr (Or.inr (Or.inr (Or.inr ⟨i, hk⟩)))))
  have HFC := Lib.hid (show 0 < B.frames.length from by rw [hf]; simp)
  have HLN := Lib.hid (show L.length ≤ 16 from by rw [hLL]; exact Nat.le_trans (takers_le _ _) hn.2)
  have HIN := Lib.hid (show ∀ x ∈ L, ∃ j : Nat, (1 ≤ j ∧ j ≤ n) ∧ x = j from by rw [hLL]; exact takers_in _ _)
  clear h hr hA h3 hown htb hG hS hS' hM hok hcap hsome hn hb2 hf hw hT hd hLL hi
  unfold SoundTo
  have k0 := HT0.out.r0.cell 0 rfl
  have k3 := HT0.out.row.cell 3 rfl
  generalize hw2 : ((w.alloc (.cells #[ptrV a] 25)).alloc (.cells #[.int .i64 i] 3)) = w2 at *
  go_enter Try.func28, Try.ntmps28
  have HT4 := Lib.hid HT0.out
  have k4 := HT4.out.row.cell 4 rfl
  have HDF := Lib.hid (cdel15 39 #[ptrV w.heap.size, ptrV (w.heap.size + 1)] (fun x => !clearN H n S i x.toNat) tv (T i) w2 HT4.out.own (by rw [HT1.out]; exact Nat.le_trans (takers_le _ _) HSZ.out.2.1) (HT4.out.says HI.out (by rw [HT1.out]; exact takers_in _ _)))
  rw [HCC.out] at HDF
  go_wp2_with (first
    | (go_at_call 38; (with_reducible refine HDF.out.mono ?_); rintro e w5 ⟨v5, rfl, hown5, hob5, ht5⟩
       obtain ⟨xa, xc, rfl, -⟩ := OwnL.see hown5
       obtain ⟨⟨y0, yf⟩, G5, hu5⟩ := HT4.out.del hown5 hob5 ht5
       have HU := Lib.hid hu5
       clear hown5 hob5 ht5 hu5)
    | (go_at_call 41; (with_reducible refine (HLAST.out _ _ _ _ HU.out).mono ?_); rintro e wb ⟨rfl, hb6⟩
       have HB6 := Lib.hid hb6
       have HA6 := Lib.hid ((HFIN.out _ _ _ _ HU.out).below hb6)
       have HLO := Lib.hid (show LoAt a n H S p m hh Fp M _ _ b B i (some ⟨tg, tq, none⟩) fc (.slice xa L.length xc) L w.heap.size (w.heap.size + 1) wb from ⟨HA6.out, HU.out.row.below hb6, HU.out.txt.below hb6, OwnL.below HU.out.own hb6, HU.out.r0.below hb6, HU.out.r1.below hb6⟩)
       have HTG := Lib.hid (And.intro (HU.out.turn.then_ hb6) HU.out.grew)
       have k6 := HLO.out.row.cell 4 rfl
       clear hb6))
  exact bodyPost_ret (v := .slice none 0 0) (by simp [results, Try.results28, go_sem]) rfl ⟨_, G5, rfl, HA6.out, HTG.out.1, HTG.out.2, OwnL.nil _ _ _ _⟩
set_option maxHeartbeats 2000000 in
theorem csound_first_end {w : World} {a n : Nat} {H : Nat → Nat → Bool} {S : Ai} {p m hh : Nat} {Fp : Nat → Prop} {M : Nat → Option Nat} {G : Nat → Nat → Prop} {T : Nat → List Int} (h : AirAt w a n H S p m hh Fp M G T) (i b : Nat) (B : Bu) (f : ByteArray) (r : List ByteArray) (hM : M i = some b) (hS : S i = some B) (hf : B.frames = f :: r) (hw : B.went = 0) (_hT : 0 < B.went → T i = takersL n B.clear)
    (hd : decide (B.went + 1 = longN f) = true) (L : List Int) (hLL : L = takersL n (clearB H n S i B)) : Calls Try.prog 28 #[ptrV a, .int .i64 i, ptrV b] w (SoundTo w a n H S p m hh Fp M G T i L (gotsL i f L)) := by
  obtain ⟨B', hS', hi, hbu, hok⟩ := h.bu i b hM
  obtain rfl : B = B' := by rw [hS] at hS'; exact Option.some.inj hS'
  obtain ⟨fa, fc, tv, hr, hcap, hA, h3, hown, htb, hG⟩ := hbu
  obtain ⟨tg, tq, rfl, -⟩ := hA.some_ (by rw [hf]; simp)
  have HTX := Lib.hid (fun W (h : AtL encS W (some ⟨tg, tq, none⟩) B.frames) => show W.cell? ⟨tg, tq, none⟩ = some (.string f) from by rw [hf] at h; exact text_at h 0 (by simp))
  have hsome : (S i).isSome = true := by rw [hS]; rfl
  have hn := h.many
  have hb2 : Below w.heap.size w ((w.alloc (.cells #[ptrV a] 25)).alloc (.cells #[.int .i64 i] 3)) := ((Below.refl _ w).alloc (Nat.le_refl _) _).alloc (by simp) _
  have HT0 := Lib.hid (SoT.start (i := i) (c0 := w.heap.size) (c1 := w.heap.size + 1) h hb2 hr hcap hA h3 hown htb hG ⟨Nat.le_refl _, Nat.le_succ _⟩ ((RowAt.new w w.heap.size rfl [ptrV a] _).alloc _) (RowAt.new _ _ (by simp) [.int .i64 i] _))
  have HA2 := Lib.hid (h.below hb2)
  have HFIN := Lib.hid (fun W v (L' : List Int) (G' : Nat → Prop) (k : SoU w (G i) a b B i (some ⟨tg, tq, none⟩) fc v L' w.heap.size (w.heap.size + 1) G' W) => SoU.air h hM hS hok k)
  have HI := Lib.hid hi
  have HSZ := Lib.hid (show i ≤ 1000 ∧ n ≤ 16 ∧ B.went ≤ 1000 ∧ f.size ≤ 333 from by
    have q1 := hok.went f r hf
    have q2 := hok.size f (by rw [hf]; exact List.mem_cons_self)
    have q3 := longN_le f q2
    exact ⟨by omega, by omega, by omega, q2⟩)
  have HF := Lib.hid hf
  have HLAST := Lib.hid (fun W v (L' : List Int) (G' : Nat → Prop) (k : SoU w (G i) a b B i (some ⟨tg, tq, none⟩) fc v L' w.heap.size (w.heap.size + 1) G' W) => clast15 W b B L' G' k.bu f r hf HSZ.out.2.2.2 HSZ.out.2.2.1)
  rw [hd] at HLAST
  have HCC := Lib.hid ((keep_takers n (fun j => H j i) (clearN H n S i)).trans ((clear_first H n S i B hi hsome hw).trans hLL.symm))
  have dw : ((B.went : Int) == 0) = true := by rw [hw]; rfl
  have hmf : ∀ (fn : Fn) (first cap : Array Value) (W : World), (Instr.makeFunc fn first cap).run Try.prog W = .ok (.func fn first cap) W := fun _ _ _ _ => rfl
  have HG := Lib.hid (show ∀ k, G i k → k < w.heap.size from fun k hk => h.mem k (Or.inr (Or.inr (Or.inr (Or.inr ⟨i, hk⟩)))))
  have HFC := Lib.hid (show 0 < B.frames.length from by rw [hf]; simp)
  have HLN := Lib.hid (show L.length ≤ 16 from by rw [hLL]; exact Nat.le_trans (takers_le _ _) hn.2)
  have HIN := Lib.hid (show ∀ x ∈ L, ∃ j : Nat, (1 ≤ j ∧ j ≤ n) ∧ x = j from by rw [hLL]; exact takers_in _ _)
  clear h hr hA h3 hown htb hG hS hS' hM hok hcap hsome hn hb2 hf hw _hT hd hLL hi
  unfold SoundTo
  have k0 := HT0.out.r0.cell 0 rfl
  have k3 := HT0.out.row.cell 3 rfl
  generalize hw2 : ((w.alloc (.cells #[ptrV a] 25)).alloc (.cells #[.int .i64 i] 3)) = w2 at *
  go_enter Try.func28, Try.ntmps28
  go_upto_region 2 with fail
  clear k0 k3 hw2
  have HH := Lib.hid (cheard15 (HA2.out.plane.below ((Below.refl _ w2).drew)) HSZ.out.2.1 i HI.out)
  refine wp_region_held (S := fun W' => RowAt W' w.heap.size [ptrV a] ∧ RowAt W' (w.heap.size + 1) [.int .i64 i] ∧ RowAt W' a [ptrV p, .map (some m), .map (some hh)]) (by kernel_rfl) ?_
  change wpAnyH _ _ _ _ _ _ _ _ w2.drew
  have HB := Lib.hid (And.intro HT0.out.r0.drew (And.intro HT0.out.r1.drew HA2.out.row.drew))
  refine wpAnyH_take (i := 0) (v := ?_) rfl (by kernel_rfl) (by kernel_rfl) (by kernel_rfl) (fun _ _ _ h => h) (Or.inl ⟨by rfl, ?_⟩) HB.out ?_
  rotate_left
  · intro w' hw'
    go_simp
    with_reducible rfl
  go_simp
  refine wpAnyH_take (i := 1) (v := ?_) rfl (by kernel_rfl) (by kernel_rfl) (by kernel_rfl) (fun _ _ _ h => h) (Or.inl ⟨by rfl, ?_⟩) HB.out ?_
  rotate_left
  · intro w' hw'
    have xx := hw'.1.cell 0 rfl
    go_simp
    with_reducible rfl
  go_simp
  refine wpAnyH_take (i := 2) (v := ?_) rfl (by kernel_rfl) (by kernel_rfl) (by kernel_rfl) (fun _ _ _ h => h) (Or.inl ⟨by rfl, ?_⟩) HB.out ?_
  rotate_left
  · intro w' hw'
    go_simp
    with_reducible rfl
  go_simp
  refine wpAnyH_take (i := 3) (v := ?_) rfl (by kernel_rfl) (by kernel_rfl) (by kernel_rfl) (fun _ _ _ h => h) (Or.inl ⟨by rfl, ?_⟩) HB.out ?_
  rotate_left
  · intro w' hw'
    go_simp
    with_reducible rfl
  go_simp
  refine wpAnyH_take (i := 4) (v := ?_) rfl (by kernel_rfl) (by kernel_rfl) (by kernel_rfl) (fun _ _ _ h => h) (Or.inl ⟨by rfl, ?_⟩) HB.out ?_
  rotate_left
  · intro w' hw'
    have xx := hw'.2.2.cell 0 rfl
    go_simp
    with_reducible rfl
  go_simp
  refine wpAnyH_take (i := 5) (v := ?_) rfl (by kernel_rfl) (by kernel_rfl) (by kernel_rfl) (fun _ _ _ h => h) (Or.inl ⟨by rfl, ?_⟩) HB.out ?_
  rotate_left
  · intro w' hw'
    have xx := hw'.2.1.cell 0 rfl
    go_simp
    with_reducible rfl
  go_simp
  refine wpAnyH_ready (rs := [6]) (by kernel_rfl) (by simp) ?_
  refine AllReadyH.cons rfl (fun K hK => ?_) AllReadyH.nil
  go_simp
  go_at_call 37
  refine HH.out.mono ?_
  rintro e w3 ⟨v3, rfl, hown3, hb3⟩
  obtain ⟨va, vn, vc, rfl⟩ := OwnL.form' hown3
  have hb3' : Below w2.heap.size w2 w3 := (Below.refl _ w2).drew.trans hb3
  have HT3 := Lib.hid (SoT.take (HT0.out.below hb3') (v' := .slice va vn vc) (OwnL.base hown3 (Nat.zero_le _)) (fun k e => by
    have q := (OwnL.ge hown3 e).1
    have q2 : w.heap.size + 1 < w2.heap.size := HT0.out.r1.lt
    have q3 : w2.drew.heap.size = w2.heap.size := rfl
    exact ⟨by omega, by omega, by omega⟩))
  have HB2 := Lib.hid (And.intro (HT0.out.r0.below hb3') (And.intro (HT0.out.r1.below hb3') (HA2.out.row.below hb3')))
  have HB3 := Lib.hid (And.intro HT3.out.2.r0 (And.intro HT3.out.2.r1 HT3.out.2.base.row))
  obtain ⟨y0, yf⟩ := HT3.out.1
  have HT4 := Lib.hid HT3.out.2
  clear hown3 hb3 hb3' HT3 HH
  change K _ _
  refine hK.out _ _ HB2.out (fun _ => ?_)
  clear hK K HB
  have HB := HB2
  refine wpAnyH_take (i := 7) (v := ?_) rfl (by kernel_rfl) (by kernel_rfl) (by kernel_rfl) (fun _ _ _ h => h) (Or.inl ⟨by rfl, ?_⟩) HB.out ?_
  rotate_left
  · intro w' hw'
    go_simp
    with_reducible rfl
  go_simp
  refine wpAnyH_take (i := 8) (v := ?_) rfl (by kernel_rfl) (by kernel_rfl) (by kernel_rfl) (fun _ _ _ h => h) (Or.inl ⟨by rfl, ?_⟩) HB.out ?_
  rotate_left
  · intro w' hw'
    go_simp
    with_reducible rfl
  go_simp
  refine wpAnyH_ready (rs := [9]) (by kernel_rfl) (by simp) ?_
  refine AllReadyH.cons rfl (fun K hK => ?_) AllReadyH.nil
  go_simp
  refine hK.out _ _ HB3.out (fun _ => ?_)
  clear hK K HB HB2 HB3 y0 yf
  refine wpAnyH_done (by kernel_rfl) ?_ _
  generalize w3.setCell ⟨b, 4, none⟩ (.slice va vn vc) = w4 at *
  have k4 := HT4.out.row.cell 4 rfl
  have HDF := Lib.hid (cdel15 39 #[ptrV w.heap.size, ptrV (w.heap.size + 1)] (fun x => !clearN H n S i x.toNat) (.slice va vn vc) (takersL n fun j => H j i) w4 HT4.out.own (Nat.le_trans (takers_le _ _) HSZ.out.2.1) (HT4.out.says HI.out (takers_in _ _)))
  rw [HCC.out] at HDF
  go_wp2_with (first
    | (go_at_call 38; (with_reducible refine HDF.out.mono ?_); rintro e w5 ⟨v5, rfl, hown5, hob5, ht5⟩
       obtain ⟨xa, xc, rfl, -⟩ := OwnL.see hown5
       obtain ⟨⟨y0, yf⟩, G5, hu5⟩ := HT4.out.del hown5 hob5 ht5
       have HU := Lib.hid hu5
       clear hown5 hob5 ht5 hu5)
    | (go_at_call 41; (with_reducible refine (HLAST.out _ _ _ _ HU.out).mono ?_); rintro e wb ⟨rfl, hb6⟩
       have HB6 := Lib.hid hb6
       have HA6 := Lib.hid ((HFIN.out _ _ _ _ HU.out).below hb6)
       have HLO := Lib.hid (show LoAt a n H S p m hh Fp M _ _ b B i (some ⟨tg, tq, none⟩) fc (.slice xa L.length xc) L w.heap.size (w.heap.size + 1) wb from ⟨HA6.out, HU.out.row.below hb6, HU.out.txt.below hb6, OwnL.below HU.out.own hb6, HU.out.r0.below hb6, HU.out.r1.below hb6⟩)
       have HTG := Lib.hid (And.intro (HU.out.turn.then_ hb6) HU.out.grew)
       have k6 := HLO.out.row.cell 4 rfl
       clear hb6))
  clear k4 HDF HCC
  have HK0 := HFC.out
  have HLX := HLN.out
  go_loopw [7, 43] (fun lv xv wx => ∃ (x : Nat) (tv' : Value), x ≤ L.length ∧ xv = .int .i64 x ∧ tv' = lv ∧ Hid (OwnL encG 37 wx wb.heap.size tv' (gotsL i f (L.take x)) ∧ Below wb.heap.size wb wx)) (fun _ xv _ => L.length - (intOf xv).toNat)
  case atStart => exact ⟨0, _, Nat.zero_le _, rfl, rfl, Lib.hid ⟨OwnL.nil _ _ _ _, Below.refl _ _⟩⟩
  case round =>
    obtain ⟨x, lv, hx, rfl, rfl, HK⟩ := hrel
    clear k6
    by_cases hlt : x < L.length
    · have HLW := Lib.hid (HLO.out.below HK.out.2)
      obtain ⟨ya, yc, hyv, hyA⟩ := OwnL.see HLW.out.own
      simp only [Value.slice.injEq, true_and] at hyv
      obtain ⟨rfl, rfl⟩ := hyv
      obtain ⟨g, o, rfl, -⟩ := hyA.some_ (by omega)
      have x0 := int_at hyA x hlt
      obtain ⟨J, hJ, hLJ⟩ := HIN.out L[x] (List.getElem_mem hlt)
      have HGN := Lib.hid (gots_next i f L x hlt)
      rw [hLJ] at x0 HGN
      rw [Int.toNat_natCast] at HGN
      have HJ := Lib.hid (show J ≤ 1000 from by have := HSZ.out.2.1; omega)
      have HGL := Lib.hid (show (gotsL i f (L.take x)).length ≤ 16 from by unfold gotsL; rw [List.length_map, List.length_take]; omega)
      clear hyA hLJ hJ
      generalize gotsL i f (L.take x) = Gx at *
      go_upto_region 10 with fail
      clear x0
      refine wp_region_held (S := fun W' => Below wr.heap.size wr W') (by kernel_rfl) ?_
      change wpAnyH _ _ _ _ _ _ _ _ wr.drew
      have HB := Lib.hid ((Below.refl wr.heap.size wr).drew)
      refine wpAnyH_take (i := 0) (v := ?_) rfl (by kernel_rfl) (by kernel_rfl) (by kernel_rfl) (fun _ _ _ h => h) (Or.inl ⟨by rfl, ?_⟩) HB.out ?_
      rotate_left
      · intro w' hw'
        have xx := (HLW.out.below hw').r0.cell 0 rfl
        go_simp
        with_reducible rfl
      go_simp
      refine wpAnyH_take (i := 1) (v := ?_) rfl (by kernel_rfl) (by kernel_rfl) (by kernel_rfl) (fun _ _ _ h => h) (Or.inl ⟨by rfl, ?_⟩) HB.out ?_
      rotate_left
      · intro w' hw'
        have xx := (HLW.out.below hw').r1.cell 0 rfl
        go_simp
        with_reducible rfl
      go_simp
      refine wpAnyH_take (i := 2) (v := ?_) rfl (by kernel_rfl) (by kernel_rfl) (by kernel_rfl) (fun _ _ _ h => h) (Or.inl ⟨by rfl, ?_⟩) HB.out ?_
      rotate_left
      · intro w' hw'
        go_simp
        with_reducible rfl
      go_simp
      refine wpAnyH_take (i := 3) (v := ?_) rfl (by kernel_rfl) (by kernel_rfl) (by kernel_rfl) (fun _ _ _ h => h) (Or.inl ⟨by rfl, ?_⟩) HB.out ?_
      rotate_left
      · intro w' hw'
        go_simp
        with_reducible rfl
      go_simp
      refine wpAnyH_take (i := 4) (v := ?_) rfl (by kernel_rfl) (by kernel_rfl) (by kernel_rfl) (fun _ _ _ h => h) (Or.inl ⟨by rfl, ?_⟩) HB.out ?_
      rotate_left
      · intro w' hw'
        go_simp
        with_reducible rfl
      go_simp
      refine wpAnyH_take (i := 5) (v := ?_) rfl (by kernel_rfl) (by kernel_rfl) (by kernel_rfl) (fun _ _ _ h => h) (Or.inl ⟨by rfl, ?_⟩) HB.out ?_
      rotate_left
      · intro w' hw'
        go_simp
        with_reducible rfl
      go_simp
      refine wpAnyH_take (i := 6) (v := ?_) rfl (by kernel_rfl) (by kernel_rfl) (by kernel_rfl) (fun _ _ _ h => h) (Or.inl ⟨by rfl, ?_⟩) HB.out ?_
      rotate_left
      · intro w' hw'
        go_simp
        with_reducible rfl
      go_simp
      refine wpAnyH_take (i := 7) (v := ?_) rfl (by kernel_rfl) (by kernel_rfl) (by kernel_rfl) (fun _ _ _ h => h) (Or.inl ⟨by rfl, ?_⟩) HB.out ?_
      rotate_left
      · intro w' hw'
        have xx := (HLW.out.below hw').row.cell 2 rfl
        go_simp
        with_reducible rfl
      go_simp
      refine wpAnyH_take (i := 8) (v := ?_) rfl (by kernel_rfl) (by kernel_rfl) (by kernel_rfl) (fun _ _ _ h => h) (Or.inl ⟨by rfl, ?_⟩) HB.out ?_
      rotate_left
      · intro w' hw'
        go_simp
        with_reducible rfl
      go_simp
      refine wpAnyH_take (i := 9) (v := ?_) rfl (by kernel_rfl) (by kernel_rfl) (by kernel_rfl) (fun _ _ _ h => h) (Or.inl ⟨by rfl, ?_⟩) HB.out ?_
      rotate_left
      · intro w' hw'
        have xx := HTX.out _ (HLW.out.below hw').txt
        go_simp
        with_reducible rfl
      go_simp
      refine wpAnyH_ready (rs := [10, 14]) (by kernel_rfl) (by simp) ?_
      refine AllReadyH.cons rfl (fun K hK => ?_) (AllReadyH.cons rfl (fun K hK => ?_) AllReadyH.nil)
      · go_simp
        go_at_call 42
        refine (carrive15 (HLW.out.below HB.out).air i J HSZ.out.1 HJ.out f).mono ?_
        rintro e w2 ⟨rfl, hb⟩
        have HB2 := Lib.hid (HB.out.trans (hb.mono HB.out.size))
        clear hb
        change K _ _
        refine hK.out _ _ HB2.out (fun _ => ?_)
        clear hK K HB
        have HB := HB2
        refine wpAnyH_take (i := 11) (v := ?_) rfl (by kernel_rfl) (by kernel_rfl) (by kernel_rfl) (fun _ _ _ h => h) (Or.inl ⟨by rfl, ?_⟩) HB.out ?_
        rotate_left
        · intro w' hw'
          go_simp
          with_reducible rfl
        go_simp
        refine wpAnyH_take (i := 12) (v := ?_) rfl (by kernel_rfl) (by kernel_rfl) (by kernel_rfl) (fun _ _ _ h => h) (Or.inl ⟨by rfl, ?_⟩) HB.out ?_
        rotate_left
        · intro w' hw'
          go_simp
          with_reducible rfl
        go_simp
        refine wpAnyH_take (i := 13) (v := ?_) rfl (by kernel_rfl) (by kernel_rfl) (by kernel_rfl) (fun _ _ _ h => h) (Or.inl ⟨by rfl, ?_⟩) HB.out ?_
        rotate_left
        · intro w' hw'
          go_simp
          with_reducible rfl
        go_simp
        have HB3 := Lib.hid (HB2.out.alloc HB2.out.size (.cells #[.int .i64 0, .int .i64 0, .string ⟨#[]⟩, .bool false] 37))
        have HR3 := Lib.hid (RowAt.new w2 w2.heap.size rfl [.int .i64 0, .int .i64 0, .string ⟨#[]⟩, .bool false] 37)
        have HG4 := Lib.hid HB2.out.size
        refine wpAnyH_ready (rs := [14]) (by kernel_rfl) (by simp) ?_
        refine AllReadyH.cons rfl (fun K hK => ?_) AllReadyH.nil
        go_simp
        refine hK.out _ _ HB3.out (fun _ => ?_)
        clear hK K HB HB2
        have HB := HB3
        generalize w2.alloc (.cells #[.int .i64 0, .int .i64 0, .string ⟨#[]⟩, .bool false] 37) = w3 at *
        generalize w2.heap.size = g4 at *
        have r0 := HR3.out.cell 0 rfl
        have rf0 := (HR3.out.get 0 rfl).free
        have r1 := HR3.out.cell 1 rfl
        have rf1 := (HR3.out.get 1 rfl).free
        have r2 := HR3.out.cell 2 rfl
        have rf2 := (HR3.out.get 2 rfl).free
        have r3 := HR3.out.cell 3 rfl
        have rf3 := (HR3.out.get 3 rfl).free
        have HR7 := Lib.hid (show RowAt ((((w3.setCell ⟨g4, 0, none⟩ (.int .i64 i)).setCell ⟨g4, 1, none⟩ (.int .i64 J)).setCell ⟨g4, 2, none⟩ (.string f)).setCell ⟨g4, 3, none⟩ (.bool false)) g4 [.int .i64 i, .int .i64 J, .string f, .bool false] from ((((HR3.out.put 0 (.int .i64 i) _ rfl).put 1 (.int .i64 J) _ rfl).put 2 (.string f) _ rfl).put 3 (.bool false) _ rfl))
        have HB7 := Lib.hid (show Below wr.heap.size wr ((((w3.setCell ⟨g4, 0, none⟩ (.int .i64 i)).setCell ⟨g4, 1, none⟩ (.int .i64 J)).setCell ⟨g4, 2, none⟩ (.string f)).setCell ⟨g4, 3, none⟩ (.bool false)) from ((((HB3.out.setCell (p := ⟨g4, 0, none⟩) HG4.out (.int .i64 i)).setCell (p := ⟨g4, 1, none⟩) HG4.out (.int .i64 J)).setCell (p := ⟨g4, 2, none⟩) HG4.out (.string f)).setCell (p := ⟨g4, 3, none⟩) HG4.out (.bool false)))
        refine wpAnyH_ready (rs := [15]) (by kernel_rfl) (by simp) ?_
        refine AllReadyH.cons rfl (fun K hK => ?_) AllReadyH.nil
        go_simp
        refine hK.out _ _ HB7.out (fun _ => ?_)
        clear hK K HB r0 r1 r2 r3 rf0 rf1 rf2 rf3
        have HB := HB7
        refine wpAnyH_take (i := 16) (v := ?_) rfl (by kernel_rfl) (by kernel_rfl) (by kernel_rfl) (fun _ _ _ h => h) (Or.inl ⟨by rfl, ?_⟩) HB.out ?_
        rotate_left
        · intro w' hw'
          go_simp
          with_reducible rfl
        go_simp
        refine wpAnyH_done (by kernel_rfl) ?_ _
        generalize ((((w3.setCell ⟨g4, 0, none⟩ (.int .i64 i)).setCell ⟨g4, 1, none⟩ (.int .i64 J)).setCell ⟨g4, 2, none⟩ (.string f)).setCell ⟨g4, 3, none⟩ (.bool false)) = w7 at *
        have HO7 := Lib.hid (OwnL.below HK.out.1 HB7.out)
        have HBB7 := Lib.hid (HK.out.2.trans (HB7.out.mono HK.out.2.size))
        have r0 := HR7.out.cell 0 rfl
        have r1 := HR7.out.cell 1 rfl
        have r2 := HR7.out.cell 2 rfl
        have r3 := HR7.out.cell 3 rfl
        go_wp2_with (at_builtin; refine wpList_append_one encG 37 34 Try.underlying34 infoG15 rfl (by decide) _ rfl (.tmp 62) (.tmp 64) rfl wb.heap.size lv Gx rfl (OwnL.alloc HO7.out _) w7.heap.size 1 rfl ⟨i, J, f⟩ (AtL.made encG 37 w7 w7.heap.size ⟨i, J, f⟩ _ rfl rfl) (by have := HGL.out; omega) (by have := HBB7.out.size; simp; omega) ?_; intro v8 w8 hown8 hgr8 hwh8)
        have HE := Lib.hid (And.intro hown8 (OwnL.appended (OwnL.alloc HO7.out (.cells #[.int .i64 i, .int .i64 J, .string f, .bool false] 37)) (HBB7.out.alloc HBB7.out.size _) (Nat.le_refl _) (by have := HBB7.out.size; simp; omega) hgr8))
        clear hown8 hgr8 hwh8 r0 r1 r2 r3
        go_roundw
        case rel => exact ⟨x + 1, _, by omega, rfl, rfl, Lib.hid ⟨by rw [HGN.out]; exact HE.out.1, HE.out.2⟩⟩
        case measure => simp [intOf]; omega
      · have HB2 := Lib.hid (((Below.refl wr.heap.size wr).alloc (Nat.le_refl _) (.cells #[.int .i64 0, .int .i64 0, .string ⟨#[]⟩, .bool false] 37)).drew)
        have HR2 := Lib.hid ((RowAt.new wr wr.heap.size rfl [.int .i64 0, .int .i64 0, .string ⟨#[]⟩, .bool false] 37).drew)
        have HG4 := Lib.hid (Nat.le_refl wr.heap.size)
        go_simp
        refine hK.out _ _ HB2.out (fun _ => ?_)
        clear hK K HB
        have HB := HB2
        generalize (wr.alloc (.cells #[.int .i64 0, .int .i64 0, .string ⟨#[]⟩, .bool false] 37)).drew = w1 at *
        refine wpAnyH_ready (rs := [10]) (by kernel_rfl) (by simp) ?_
        refine AllReadyH.cons rfl (fun K hK => ?_) AllReadyH.nil
        go_simp
        go_at_call 42
        refine (carrive15 (HLW.out.below HB.out).air i J HSZ.out.1 HJ.out f).mono ?_
        rintro e w2 ⟨rfl, hb⟩
        have HB3 := Lib.hid (HB.out.trans (hb.mono HB.out.size))
        have HR3 := Lib.hid (HR2.out.below hb)
        clear hb HR2 HB2
        change K _ _
        refine hK.out _ _ HB3.out (fun _ => ?_)
        clear hK K HB
        have HB := HB3
        refine wpAnyH_take (i := 11) (v := ?_) rfl (by kernel_rfl) (by kernel_rfl) (by kernel_rfl) (fun _ _ _ h => h) (Or.inl ⟨by rfl, ?_⟩) HB.out ?_
        rotate_left
        · intro w' hw'
          go_simp
          with_reducible rfl
        go_simp
        refine wpAnyH_take (i := 12) (v := ?_) rfl (by kernel_rfl) (by kernel_rfl) (by kernel_rfl) (fun _ _ _ h => h) (Or.inl ⟨by rfl, ?_⟩) HB.out ?_
        rotate_left
        · intro w' hw'
          go_simp
          with_reducible rfl
        go_simp
        refine wpAnyH_take (i := 13) (v := ?_) rfl (by kernel_rfl) (by kernel_rfl) (by kernel_rfl) (fun _ _ _ h => h) (Or.inl ⟨by rfl, ?_⟩) HB.out ?_
        rotate_left
        · intro w' hw'
          go_simp
          with_reducible rfl
        go_simp
        have r0 := HR3.out.cell 0 rfl
        have rf0 := (HR3.out.get 0 rfl).free
        have r1 := HR3.out.cell 1 rfl
        have rf1 := (HR3.out.get 1 rfl).free
        have r2 := HR3.out.cell 2 rfl
        have rf2 := (HR3.out.get 2 rfl).free
        have r3 := HR3.out.cell 3 rfl
        have rf3 := (HR3.out.get 3 rfl).free
        have HR7 := Lib.hid (show RowAt ((((w2.setCell ⟨wr.heap.size, 0, none⟩ (.int .i64 i)).setCell ⟨wr.heap.size, 1, none⟩ (.int .i64 J)).setCell ⟨wr.heap.size, 2, none⟩ (.string f)).setCell ⟨wr.heap.size, 3, none⟩ (.bool false)) wr.heap.size [.int .i64 i, .int .i64 J, .string f, .bool false] from ((((HR3.out.put 0 (.int .i64 i) _ rfl).put 1 (.int .i64 J) _ rfl).put 2 (.string f) _ rfl).put 3 (.bool false) _ rfl))
        have HB7 := Lib.hid (show Below wr.heap.size wr ((((w2.setCell ⟨wr.heap.size, 0, none⟩ (.int .i64 i)).setCell ⟨wr.heap.size, 1, none⟩ (.int .i64 J)).setCell ⟨wr.heap.size, 2, none⟩ (.string f)).setCell ⟨wr.heap.size, 3, none⟩ (.bool false)) from ((((HB3.out.setCell (p := ⟨wr.heap.size, 0, none⟩) HG4.out (.int .i64 i)).setCell (p := ⟨wr.heap.size, 1, none⟩) HG4.out (.int .i64 J)).setCell (p := ⟨wr.heap.size, 2, none⟩) HG4.out (.string f)).setCell (p := ⟨wr.heap.size, 3, none⟩) HG4.out (.bool false)))
        refine wpAnyH_ready (rs := [15]) (by kernel_rfl) (by simp) ?_
        refine AllReadyH.cons rfl (fun K hK => ?_) AllReadyH.nil
        go_simp
        refine hK.out _ _ HB7.out (fun _ => ?_)
        clear hK K HB r0 r1 r2 r3 rf0 rf1 rf2 rf3
        have HB := HB7
        refine wpAnyH_take (i := 16) (v := ?_) rfl (by kernel_rfl) (by kernel_rfl) (by kernel_rfl) (fun _ _ _ h => h) (Or.inl ⟨by rfl, ?_⟩) HB.out ?_
        rotate_left
        · intro w' hw'
          go_simp
          with_reducible rfl
        go_simp
        refine wpAnyH_done (by kernel_rfl) ?_ _
        generalize ((((w2.setCell ⟨wr.heap.size, 0, none⟩ (.int .i64 i)).setCell ⟨wr.heap.size, 1, none⟩ (.int .i64 J)).setCell ⟨wr.heap.size, 2, none⟩ (.string f)).setCell ⟨wr.heap.size, 3, none⟩ (.bool false)) = w7 at *
        have HO7 := Lib.hid (OwnL.below HK.out.1 HB7.out)
        have HBB7 := Lib.hid (HK.out.2.trans (HB7.out.mono HK.out.2.size))
        have r0 := HR7.out.cell 0 rfl
        have r1 := HR7.out.cell 1 rfl
        have r2 := HR7.out.cell 2 rfl
        have r3 := HR7.out.cell 3 rfl
        go_wp2_with (at_builtin; refine wpList_append_one encG 37 34 Try.underlying34 infoG15 rfl (by decide) _ rfl (.tmp 62) (.tmp 64) rfl wb.heap.size lv Gx rfl (OwnL.alloc HO7.out _) w7.heap.size 1 rfl ⟨i, J, f⟩ (AtL.made encG 37 w7 w7.heap.size ⟨i, J, f⟩ _ rfl rfl) (by have := HGL.out; omega) (by have := HBB7.out.size; simp; omega) ?_; intro v8 w8 hown8 hgr8 hwh8)
        have HE := Lib.hid (And.intro hown8 (OwnL.appended (OwnL.alloc HO7.out (.cells #[.int .i64 i, .int .i64 J, .string f, .bool false] 37)) (HBB7.out.alloc HBB7.out.size _) (Nat.le_refl _) (by have := HBB7.out.size; simp; omega) hgr8))
        clear hown8 hgr8 hwh8 r0 r1 r2 r3
        go_roundw
        case rel => exact ⟨x + 1, _, by omega, rfl, rfl, Lib.hid ⟨by rw [HGN.out]; exact HE.out.1, HE.out.2⟩⟩
        case measure => simp [intOf]; omega
    · obtain rfl : x = L.length := by omega
      have HKL := Lib.hid HK.out
      rw [List.take_length] at HKL
      go_wp2_with fail
      exact bodyPost_ret (by simp [results, Try.results28, go_sem]) rfl ⟨_, G5, rfl, HA6.out.below HKL.out.2, HTG.out.1.then_ HKL.out.2, HTG.out.2, OwnL.base HKL.out.1 (Nat.le_trans HTG.out.1.size (Nat.le_refl _))⟩
set_option maxHeartbeats 2000000 in
theorem csound_next_end {w : World} {a n : Nat} {H : Nat → Nat → Bool} {S : Ai} {p m hh : Nat} {Fp : Nat → Prop} {M : Nat → Option Nat} {G : Nat → Nat → Prop} {T : Nat → List Int} (h : AirAt w a n H S p m hh Fp M G T) (i b : Nat) (B : Bu) (f : ByteArray) (r : List ByteArray) (hM : M i = some b) (hS : S i = some B) (hf : B.frames = f :: r) (hw : 0 < B.went) (hT : 0 < B.went → T i = takersL n B.clear)
    (hd : decide (B.went + 1 = longN f) = true) (L : List Int) (hLL : L = takersL n (clearB H n S i B)) : Calls Try.prog 28 #[ptrV a, .int .i64 i, ptrV b] w (SoundTo w a n H S p m hh Fp M G T i L (gotsL i f L)) := by
  obtain ⟨B', hS', hi, hbu, hok⟩ := h.bu i b hM
  obtain rfl : B = B' := by rw [hS] at hS'; exact Option.some.inj hS'
  obtain ⟨fa, fc, tv, hr, hcap, hA, h3, hown, htb, hG⟩ := hbu
  obtain ⟨tg, tq, rfl, -⟩ := hA.some_ (by rw [hf]; simp)
  have HTX := Lib.hid (fun W (h : AtL encS W (some ⟨tg, tq, none⟩) B.frames) => show W.cell? ⟨tg, tq, none⟩ = some (.string f) from by rw [hf] at h; exact text_at h 0 (by simp))
  have hsome : (S i).isSome = true := by rw [hS]; rfl
  have hn := h.many
  have hb2 : Below w.heap.size w ((w.alloc (.cells #[ptrV a] 25)).alloc (.cells #[.int .i64 i] 3)) := ((Below.refl _ w).alloc (Nat.le_refl _) _).alloc (by simp) _
  have HT0 := Lib.hid (SoT.start (i := i) (c0 := w.heap.size) (c1 := w.heap.size + 1) h hb2 hr hcap hA h3 hown htb hG ⟨Nat.le_refl _, Nat.le_succ _⟩ ((RowAt.new w w.heap.size rfl [ptrV a] _).alloc _) (RowAt.new _ _ (by simp) [.int .i64 i] _))
  have HA2 := Lib.hid (h.below hb2)
  have HFIN := Lib.hid (fun W v (L' : List Int) (G' : Nat → Prop) (k : SoU w (G i) a b B i (some ⟨tg, tq, none⟩) fc v L' w.heap.size (w.heap.size + 1) G' W) => SoU.air h hM hS hok k)
  have HI := Lib.hid hi
  have HSZ := Lib.hid (show i ≤ 1000 ∧ n ≤ 16 ∧ B.went ≤ 1000 ∧ f.size ≤ 333 from by
    have q1 := hok.went f r hf
    have q2 := hok.size f (by rw [hf]; exact List.mem_cons_self)
    have q3 := longN_le f q2
    exact ⟨by omega, by omega, by omega, q2⟩)
  have HF := Lib.hid hf
  have HLAST := Lib.hid (fun W v (L' : List Int) (G' : Nat → Prop) (k : SoU w (G i) a b B i (some ⟨tg, tq, none⟩) fc v L' w.heap.size (w.heap.size + 1) G' W) => clast15 W b B L' G' k.bu f r hf HSZ.out.2.2.2 HSZ.out.2.2.1)
  rw [hd] at HLAST
  have HCC := Lib.hid ((congrArg _ (hT hw)).trans ((keep_takers n B.clear (clearN H n S i)).trans ((clear_next H n S i B hi hsome hw).trans hLL.symm)))
  have dw : ((B.went : Int) == 0) = false := by rw [beq_eq_false_iff_ne]; omega
  have HT1 := Lib.hid (hT hw)
  have hmf : ∀ (fn : Fn) (first cap : Array Value) (W : World), (Instr.makeFunc fn first cap).run Try.prog W = .ok (.func fn first cap) W := fun _ _ _ _ => rfl
  have HG := Lib.hid (show ∀ k, G i k → k < w.heap.size from fun k hk => h.mem k (Or.inr (Or.inr (Or.inr (Or.inr ⟨i, hk⟩)))))
  have HFC := Lib.hid (show 0 < B.frames.length from by rw [hf]; simp)
  have HLN := Lib.hid (show L.length ≤ 16 from by rw [hLL]; exact Nat.le_trans (takers_le _ _) hn.2)
  have HIN := Lib.hid (show ∀ x ∈ L, ∃ j : Nat, (1 ≤ j ∧ j ≤ n) ∧ x = j from by rw [hLL]; exact takers_in _ _)
  clear h hr hA h3 hown htb hG hS hS' hM hok hcap hsome hn hb2 hf hw hT hd hLL hi
  unfold SoundTo
  have k0 := HT0.out.r0.cell 0 rfl
  have k3 := HT0.out.row.cell 3 rfl
  generalize hw2 : ((w.alloc (.cells #[ptrV a] 25)).alloc (.cells #[.int .i64 i] 3)) = w2 at *
  go_enter Try.func28, Try.ntmps28
  have HT4 := Lib.hid HT0.out
  have k4 := HT4.out.row.cell 4 rfl
  have HDF := Lib.hid (cdel15 39 #[ptrV w.heap.size, ptrV (w.heap.size + 1)] (fun x => !clearN H n S i x.toNat) tv (T i) w2 HT4.out.own (by rw [HT1.out]; exact Nat.le_trans (takers_le _ _) HSZ.out.2.1) (HT4.out.says HI.out (by rw [HT1.out]; exact takers_in _ _)))
  rw [HCC.out] at HDF
  go_wp2_with (first
    | (go_at_call 38; (with_reducible refine HDF.out.mono ?_); rintro e w5 ⟨v5, rfl, hown5, hob5, ht5⟩
       obtain ⟨xa, xc, rfl, -⟩ := OwnL.see hown5
       obtain ⟨⟨y0, yf⟩, G5, hu5⟩ := HT4.out.del hown5 hob5 ht5
       have HU := Lib.hid hu5
       clear hown5 hob5 ht5 hu5)
    | (go_at_call 41; (with_reducible refine (HLAST.out _ _ _ _ HU.out).mono ?_); rintro e wb ⟨rfl, hb6⟩
       have HB6 := Lib.hid hb6
       have HA6 := Lib.hid ((HFIN.out _ _ _ _ HU.out).below hb6)
       have HLO := Lib.hid (show LoAt a n H S p m hh Fp M _ _ b B i (some ⟨tg, tq, none⟩) fc (.slice xa L.length xc) L w.heap.size (w.heap.size + 1) wb from ⟨HA6.out, HU.out.row.below hb6, HU.out.txt.below hb6, OwnL.below HU.out.own hb6, HU.out.r0.below hb6, HU.out.r1.below hb6⟩)
       have HTG := Lib.hid (And.intro (HU.out.turn.then_ hb6) HU.out.grew)
       have k6 := HLO.out.row.cell 4 rfl
       clear hb6))
  clear k4 HDF HCC
  have HK0 := HFC.out
  have HLX := HLN.out
  go_loopw [7, 43] (fun lv xv wx => ∃ (x : Nat) (tv' : Value), x ≤ L.length ∧ xv = .int .i64 x ∧ tv' = lv ∧ Hid (OwnL encG 37 wx wb.heap.size tv' (gotsL i f (L.take x)) ∧ Below wb.heap.size wb wx)) (fun _ xv _ => L.length - (intOf xv).toNat)
  case atStart => exact ⟨0, _, Nat.zero_le _, rfl, rfl, Lib.hid ⟨OwnL.nil _ _ _ _, Below.refl _ _⟩⟩
  case round =>
    obtain ⟨x, lv, hx, rfl, rfl, HK⟩ := hrel
    clear k6
    by_cases hlt : x < L.length
    · have HLW := Lib.hid (HLO.out.below HK.out.2)
      obtain ⟨ya, yc, hyv, hyA⟩ := OwnL.see HLW.out.own
      simp only [Value.slice.injEq, true_and] at hyv
      obtain ⟨rfl, rfl⟩ := hyv
      obtain ⟨g, o, rfl, -⟩ := hyA.some_ (by omega)
      have x0 := int_at hyA x hlt
      obtain ⟨J, hJ, hLJ⟩ := HIN.out L[x] (List.getElem_mem hlt)
      have HGN := Lib.hid (gots_next i f L x hlt)
      rw [hLJ] at x0 HGN
      rw [Int.toNat_natCast] at HGN
      have HJ := Lib.hid (show J ≤ 1000 from by have := HSZ.out.2.1; omega)
      have HGL := Lib.hid (show (gotsL i f (L.take x)).length ≤ 16 from by unfold gotsL; rw [List.length_map, List.length_take]; omega)
      clear hyA hLJ hJ
      generalize gotsL i f (L.take x) = Gx at *
      go_upto_region 10 with fail
      clear x0
      refine wp_region_held (S := fun W' => Below wr.heap.size wr W') (by kernel_rfl) ?_
      change wpAnyH _ _ _ _ _ _ _ _ wr.drew
      have HB := Lib.hid ((Below.refl wr.heap.size wr).drew)
      refine wpAnyH_take (i := 0) (v := ?_) rfl (by kernel_rfl) (by kernel_rfl) (by kernel_rfl) (fun _ _ _ h => h) (Or.inl ⟨by rfl, ?_⟩) HB.out ?_
      rotate_left
      · intro w' hw'
        have xx := (HLW.out.below hw').r0.cell 0 rfl
        go_simp
        with_reducible rfl
      go_simp
      refine wpAnyH_take (i := 1) (v := ?_) rfl (by kernel_rfl) (by kernel_rfl) (by kernel_rfl) (fun _ _ _ h => h) (Or.inl ⟨by rfl, ?_⟩) HB.out ?_
      rotate_left
      · intro w' hw'
        have xx := (HLW.out.below hw').r1.cell 0 rfl
        go_simp
        with_reducible rfl
      go_simp
      refine wpAnyH_take (i := 2) (v := ?_) rfl (by kernel_rfl) (by kernel_rfl) (by kernel_rfl) (fun _ _ _ h => h) (Or.inl ⟨by rfl, ?_⟩) HB.out ?_
      rotate_left
      · intro w' hw'
        go_simp
        with_reducible rfl
      go_simp
      refine wpAnyH_take (i := 3) (v := ?_) rfl (by kernel_rfl) (by kernel_rfl) (by kernel_rfl) (fun _ _ _ h => h) (Or.inl ⟨by rfl, ?_⟩) HB.out ?_
      rotate_left
      · intro w' hw'
        go_simp
        with_reducible rfl
      go_simp
      refine wpAnyH_take (i := 4) (v := ?_) rfl (by kernel_rfl) (by kernel_rfl) (by kernel_rfl) (fun _ _ _ h => h) (Or.inl ⟨by rfl, ?_⟩) HB.out ?_
      rotate_left
      · intro w' hw'
        go_simp
        with_reducible rfl
      go_simp
      refine wpAnyH_take (i := 5) (v := ?_) rfl (by kernel_rfl) (by kernel_rfl) (by kernel_rfl) (fun _ _ _ h => h) (Or.inl ⟨by rfl, ?_⟩) HB.out ?_
      rotate_left
      · intro w' hw'
        go_simp
        with_reducible rfl
      go_simp
      refine wpAnyH_take (i := 6) (v := ?_) rfl (by kernel_rfl) (by kernel_rfl) (by kernel_rfl) (fun _ _ _ h => h) (Or.inl ⟨by rfl, ?_⟩) HB.out ?_
      rotate_left
      · intro w' hw'
        go_simp
        with_reducible rfl
      go_simp
      refine wpAnyH_take (i := 7) (v := ?_) rfl (by kernel_rfl) (by kernel_rfl) (by kernel_rfl) (fun _ _ _ h => h) (Or.inl ⟨by rfl, ?_⟩) HB.out ?_
      rotate_left
      · intro w' hw'
        have xx := (HLW.out.below hw').row.cell 2 rfl
        go_simp
        with_reducible rfl
      go_simp
      refine wpAnyH_take (i := 8) (v := ?_) rfl (by kernel_rfl) (by kernel_rfl) (by kernel_rfl) (fun _ _ _ h => h) (Or.inl ⟨by rfl, ?_⟩) HB.out ?_
      rotate_left
      · intro w' hw'
        go_simp
        with_reducible rfl
      go_simp
      refine wpAnyH_take (i := 9) (v := ?_) rfl (by kernel_rfl) (by kernel_rfl) (by kernel_rfl) (fun _ _ _ h => h) (Or.inl ⟨by rfl, ?_⟩) HB.out ?_
      rotate_left
      · intro w' hw'
        have xx := HTX.out _ (HLW.out.below hw').txt
        go_simp
        with_reducible rfl
      go_simp
      refine wpAnyH_ready (rs := [10, 14]) (by kernel_rfl) (by simp) ?_
      refine AllReadyH.cons rfl (fun K hK => ?_) (AllReadyH.cons rfl (fun K hK => ?_) AllReadyH.nil)
      · go_simp
        go_at_call 42
        refine (carrive15 (HLW.out.below HB.out).air i J HSZ.out.1 HJ.out f).mono ?_
        rintro e w2 ⟨rfl, hb⟩
        have HB2 := Lib.hid (HB.out.trans (hb.mono HB.out.size))
        clear hb
        change K _ _
        refine hK.out _ _ HB2.out (fun _ => ?_)
        clear hK K HB
        have HB := HB2
        refine wpAnyH_take (i := 11) (v := ?_) rfl (by kernel_rfl) (by kernel_rfl) (by kernel_rfl) (fun _ _ _ h => h) (Or.inl ⟨by rfl, ?_⟩) HB.out ?_
        rotate_left
        · intro w' hw'
          go_simp
          with_reducible rfl
        go_simp
        refine wpAnyH_take (i := 12) (v := ?_) rfl (by kernel_rfl) (by kernel_rfl) (by kernel_rfl) (fun _ _ _ h => h) (Or.inl ⟨by rfl, ?_⟩) HB.out ?_
        rotate_left
        · intro w' hw'
          go_simp
          with_reducible rfl
        go_simp
        refine wpAnyH_take (i := 13) (v := ?_) rfl (by kernel_rfl) (by kernel_rfl) (by kernel_rfl) (fun _ _ _ h => h) (Or.inl ⟨by rfl, ?_⟩) HB.out ?_
        rotate_left
        · intro w' hw'
          go_simp
          with_reducible rfl
        go_simp
        have HB3 := Lib.hid (HB2.out.alloc HB2.out.size (.cells #[.int .i64 0, .int .i64 0, .string ⟨#[]⟩, .bool false] 37))
        have HR3 := Lib.hid (RowAt.new w2 w2.heap.size rfl [.int .i64 0, .int .i64 0, .string ⟨#[]⟩, .bool false] 37)
        have HG4 := Lib.hid HB2.out.size
        refine wpAnyH_ready (rs := [14]) (by kernel_rfl) (by simp) ?_
        refine AllReadyH.cons rfl (fun K hK => ?_) AllReadyH.nil
        go_simp
        refine hK.out _ _ HB3.out (fun _ => ?_)
        clear hK K HB HB2
        have HB := HB3
        generalize w2.alloc (.cells #[.int .i64 0, .int .i64 0, .string ⟨#[]⟩, .bool false] 37) = w3 at *
        generalize w2.heap.size = g4 at *
        have r0 := HR3.out.cell 0 rfl
        have rf0 := (HR3.out.get 0 rfl).free
        have r1 := HR3.out.cell 1 rfl
        have rf1 := (HR3.out.get 1 rfl).free
        have r2 := HR3.out.cell 2 rfl
        have rf2 := (HR3.out.get 2 rfl).free
        have r3 := HR3.out.cell 3 rfl
        have rf3 := (HR3.out.get 3 rfl).free
        have HR7 := Lib.hid (show RowAt ((((w3.setCell ⟨g4, 0, none⟩ (.int .i64 i)).setCell ⟨g4, 1, none⟩ (.int .i64 J)).setCell ⟨g4, 2, none⟩ (.string f)).setCell ⟨g4, 3, none⟩ (.bool false)) g4 [.int .i64 i, .int .i64 J, .string f, .bool false] from ((((HR3.out.put 0 (.int .i64 i) _ rfl).put 1 (.int .i64 J) _ rfl).put 2 (.string f) _ rfl).put 3 (.bool false) _ rfl))
        have HB7 := Lib.hid (show Below wr.heap.size wr ((((w3.setCell ⟨g4, 0, none⟩ (.int .i64 i)).setCell ⟨g4, 1, none⟩ (.int .i64 J)).setCell ⟨g4, 2, none⟩ (.string f)).setCell ⟨g4, 3, none⟩ (.bool false)) from ((((HB3.out.setCell (p := ⟨g4, 0, none⟩) HG4.out (.int .i64 i)).setCell (p := ⟨g4, 1, none⟩) HG4.out (.int .i64 J)).setCell (p := ⟨g4, 2, none⟩) HG4.out (.string f)).setCell (p := ⟨g4, 3, none⟩) HG4.out (.bool false)))
        refine wpAnyH_ready (rs := [15]) (by kernel_rfl) (by simp) ?_
        refine AllReadyH.cons rfl (fun K hK => ?_) AllReadyH.nil
        go_simp
        refine hK.out _ _ HB7.out (fun _ => ?_)
        clear hK K HB r0 r1 r2 r3 rf0 rf1 rf2 rf3
        have HB := HB7
        refine wpAnyH_take (i := 16) (v := ?_) rfl (by kernel_rfl) (by kernel_rfl) (by kernel_rfl) (fun _ _ _ h => h) (Or.inl ⟨by rfl, ?_⟩) HB.out ?_
        rotate_left
        · intro w' hw'
          go_simp
          with_reducible rfl
        go_simp
        refine wpAnyH_done (by kernel_rfl) ?_ _
        generalize ((((w3.setCell ⟨g4, 0, none⟩ (.int .i64 i)).setCell ⟨g4, 1, none⟩ (.int .i64 J)).setCell ⟨g4, 2, none⟩ (.string f)).setCell ⟨g4, 3, none⟩ (.bool false)) = w7 at *
        have HO7 := Lib.hid (OwnL.below HK.out.1 HB7.out)
        have HBB7 := Lib.hid (HK.out.2.trans (HB7.out.mono HK.out.2.size))
        have r0 := HR7.out.cell 0 rfl
        have r1 := HR7.out.cell 1 rfl
        have r2 := HR7.out.cell 2 rfl
        have r3 := HR7.out.cell 3 rfl
        go_wp2_with (at_builtin; refine wpList_append_one encG 37 34 Try.underlying34 infoG15 rfl (by decide) _ rfl (.tmp 62) (.tmp 64) rfl wb.heap.size lv Gx rfl (OwnL.alloc HO7.out _) w7.heap.size 1 rfl ⟨i, J, f⟩ (AtL.made encG 37 w7 w7.heap.size ⟨i, J, f⟩ _ rfl rfl) (by have := HGL.out; omega) (by have := HBB7.out.size; simp; omega) ?_; intro v8 w8 hown8 hgr8 hwh8)
        have HE := Lib.hid (And.intro hown8 (OwnL.appended (OwnL.alloc HO7.out (.cells #[.int .i64 i, .int .i64 J, .string f, .bool false] 37)) (HBB7.out.alloc HBB7.out.size _) (Nat.le_refl _) (by have := HBB7.out.size; simp; omega) hgr8))
        clear hown8 hgr8 hwh8 r0 r1 r2 r3
        go_roundw
        case rel => exact ⟨x + 1, _, by omega, rfl, rfl, Lib.hid ⟨by rw [HGN.out]; exact HE.out.1, HE.out.2⟩⟩
        case measure => simp [intOf]; omega
      · have HB2 := Lib.hid (((Below.refl wr.heap.size wr).alloc (Nat.le_refl _) (.cells #[.int .i64 0, .int .i64 0, .string ⟨#[]⟩, .bool false] 37)).drew)
        have HR2 := Lib.hid ((RowAt.new wr wr.heap.size rfl [.int .i64 0, .int .i64 0, .string ⟨#[]⟩, .bool false] 37).drew)
        have HG4 := Lib.hid (Nat.le_refl wr.heap.size)
        go_simp
        refine hK.out _ _ HB2.out (fun _ => ?_)
        clear hK K HB
        have HB := HB2
        generalize (wr.alloc (.cells #[.int .i64 0, .int .i64 0, .string ⟨#[]⟩, .bool false] 37)).drew = w1 at *
        refine wpAnyH_ready (rs := [10]) (by kernel_rfl) (by simp) ?_
        refine AllReadyH.cons rfl (fun K hK => ?_) AllReadyH.nil
        go_simp
        go_at_call 42
        refine (carrive15 (HLW.out.below HB.out).air i J HSZ.out.1 HJ.out f).mono ?_
        rintro e w2 ⟨rfl, hb⟩
        have HB3 := Lib.hid (HB.out.trans (hb.mono HB.out.size))
        have HR3 := Lib.hid (HR2.out.below hb)
        clear hb HR2 HB2
        change K _ _
        refine hK.out _ _ HB3.out (fun _ => ?_)
        clear hK K HB
        have HB := HB3
        refine wpAnyH_take (i := 11) (v := ?_) rfl (by kernel_rfl) (by kernel_rfl) (by kernel_rfl) (fun _ _ _ h => h) (Or.inl ⟨by rfl, ?_⟩) HB.out ?_
        rotate_left
        · intro w' hw'
          go_simp
          with_reducible rfl
        go_simp
        refine wpAnyH_take (i := 12) (v := ?_) rfl (by kernel_rfl) (by kernel_rfl) (by kernel_rfl) (fun _ _ _ h => h) (Or.inl ⟨by rfl, ?_⟩) HB.out ?_
        rotate_left
        · intro w' hw'
          go_simp
          with_reducible rfl
        go_simp
        refine wpAnyH_take (i := 13) (v := ?_) rfl (by kernel_rfl) (by kernel_rfl) (by kernel_rfl) (fun _ _ _ h => h) (Or.inl ⟨by rfl, ?_⟩) HB.out ?_
        rotate_left
        · intro w' hw'
          go_simp
          with_reducible rfl
        go_simp
        have r0 := HR3.out.cell 0 rfl
        have rf0 := (HR3.out.get 0 rfl).free
        have r1 := HR3.out.cell 1 rfl
        have rf1 := (HR3.out.get 1 rfl).free
        have r2 := HR3.out.cell 2 rfl
        have rf2 := (HR3.out.get 2 rfl).free
        have r3 := HR3.out.cell 3 rfl
        have rf3 := (HR3.out.get 3 rfl).free
        have HR7 := Lib.hid (show RowAt ((((w2.setCell ⟨wr.heap.size, 0, none⟩ (.int .i64 i)).setCell ⟨wr.heap.size, 1, none⟩ (.int .i64 J)).setCell ⟨wr.heap.size, 2, none⟩ (.string f)).setCell ⟨wr.heap.size, 3, none⟩ (.bool false)) wr.heap.size [.int .i64 i, .int .i64 J, .string f, .bool false] from ((((HR3.out.put 0 (.int .i64 i) _ rfl).put 1 (.int .i64 J) _ rfl).put 2 (.string f) _ rfl).put 3 (.bool false) _ rfl))
        have HB7 := Lib.hid (show Below wr.heap.size wr ((((w2.setCell ⟨wr.heap.size, 0, none⟩ (.int .i64 i)).setCell ⟨wr.heap.size, 1, none⟩ (.int .i64 J)).setCell ⟨wr.heap.size, 2, none⟩ (.string f)).setCell ⟨wr.heap.size, 3, none⟩ (.bool false)) from ((((HB3.out.setCell (p := ⟨wr.heap.size, 0, none⟩) HG4.out (.int .i64 i)).setCell (p := ⟨wr.heap.size, 1, none⟩) HG4.out (.int .i64 J)).setCell (p := ⟨wr.heap.size, 2, none⟩) HG4.out (.string f)).setCell (p := ⟨wr.heap.size, 3, none⟩) HG4.out (.bool false)))
        refine wpAnyH_ready (rs := [15]) (by kernel_rfl) (by simp) ?_
        refine AllReadyH.cons rfl (fun K hK => ?_) AllReadyH.nil
        go_simp
        refine hK.out _ _ HB7.out (fun _ => ?_)
        clear hK K HB r0 r1 r2 r3 rf0 rf1 rf2 rf3
        have HB := HB7
        refine wpAnyH_take (i := 16) (v := ?_) rfl (by kernel_rfl) (by kernel_rfl) (by kernel_rfl) (fun _ _ _ h => h) (Or.inl ⟨by rfl, ?_⟩) HB.out ?_
        rotate_left
        · intro w' hw'
          go_simp
          with_reducible rfl
        go_simp
        refine wpAnyH_done (by kernel_rfl) ?_ _
        generalize ((((w2.setCell ⟨wr.heap.size, 0, none⟩ (.int .i64 i)).setCell ⟨wr.heap.size, 1, none⟩ (.int .i64 J)).setCell ⟨wr.heap.size, 2, none⟩ (.string f)).setCell ⟨wr.heap.size, 3, none⟩ (.bool false)) = w7 at *
        have HO7 := Lib.hid (OwnL.below HK.out.1 HB7.out)
        have HBB7 := Lib.hid (HK.out.2.trans (HB7.out.mono HK.out.2.size))
        have r0 := HR7.out.cell 0 rfl
        have r1 := HR7.out.cell 1 rfl
        have r2 := HR7.out.cell 2 rfl
        have r3 := HR7.out.cell 3 rfl
        go_wp2_with (at_builtin; refine wpList_append_one encG 37 34 Try.underlying34 infoG15 rfl (by decide) _ rfl (.tmp 62) (.tmp 64) rfl wb.heap.size lv Gx rfl (OwnL.alloc HO7.out _) w7.heap.size 1 rfl ⟨i, J, f⟩ (AtL.made encG 37 w7 w7.heap.size ⟨i, J, f⟩ _ rfl rfl) (by have := HGL.out; omega) (by have := HBB7.out.size; simp; omega) ?_; intro v8 w8 hown8 hgr8 hwh8)
        have HE := Lib.hid (And.intro hown8 (OwnL.appended (OwnL.alloc HO7.out (.cells #[.int .i64 i, .int .i64 J, .string f, .bool false] 37)) (HBB7.out.alloc HBB7.out.size _) (Nat.le_refl _) (by have := HBB7.out.size; simp; omega) hgr8))
        clear hown8 hgr8 hwh8 r0 r1 r2 r3
        go_roundw
        case rel => exact ⟨x + 1, _, by omega, rfl, rfl, Lib.hid ⟨by rw [HGN.out]; exact HE.out.1, HE.out.2⟩⟩
        case measure => simp [intOf]; omega
    · obtain rfl : x = L.length := by omega
      have HKL := Lib.hid HK.out
      rw [List.take_length] at HKL
      go_wp2_with fail
      exact bodyPost_ret (by simp [results, Try.results28, go_sem]) rfl ⟨_, G5, rfl, HA6.out.below HKL.out.2, HTG.out.1.then_ HKL.out.2, HTG.out.2, OwnL.base HKL.out.1 (Nat.le_trans HTG.out.1.size (Nat.le_refl _))⟩
end Go.Proofs.Ytgfipndilngfbaa
