/-
The landed digipeater answers as the document says: all contracts.
The document's example of digipeaters.
-/
import Derived.Test.YtikabflmgckdnaaDoorMix38
import Derived.Test.YtikabflmgckdnaaDoorMix32
namespace Go.Proofs.YtikabflmgckdnaaDoor
open Go.RowKit Go.Sort
set_option maxRecDepth 20000
theorem con18_any (w : World) (d : Nat) (C : List Cl) (k : Nat × Nat × Nat) (F : Nat → Prop) (s : ByteArray) (hC : CodesOk w) (h : DiL w d C k F) (hs : s.size ≤ 1000) (hk : few k) : Calls Tryd.prog 10 #[ptrD d, .string s] w fun e w' =>
    e = .returned (sayD (onD C s.data.toList)) ∧ DiL w' d C (cntD k (onD C s.data.toList).2) F ∧ Turn F w w' := by
  obtain ⟨g, c, h⟩ := h
  cases hd : decB s.data.toList with
  | false =>
    have e : onD C s.data.toList = ([], 2) := by unfold onD; rw [if_pos hd]
    rw [e]
    exact (con18_bad w d g c C k F s h hs hk hC hd).mono fun e w' hq => ⟨hq.1, ⟨g, c, hq.2.1⟩, hq.2.2⟩
  | true =>
    have hr := (read_path s.data.toList (decB_get hd)).1
    obtain ⟨-, hl2, -, -⟩ := right_path _ hr
    obtain ⟨x, y, D, hL⟩ : ∃ x y D, pathL s.data.toList = x :: y :: D := by
      match hq : pathL s.data.toList, hl2 with
      | x :: y :: D, _ => exact ⟨x, y, D, rfl⟩
    cases hx : D[fstD D]? with
    | none =>
      have e : onD C s.data.toList = ([], 1) := by
        unfold onD
        rw [hd, if_neg (by decide), hL, next18, hx]
      rw [e]
      exact (con18_none w d g c C k F s h hs hk hC hd x y D hL hx).mono fun e w' hq => ⟨hq.1, ⟨g, c, hq.2.1⟩, hq.2.2⟩
    | some z =>
      cases hm : mineB C (z.1, z.2.1) with
      | false =>
        have e : onD C s.data.toList = ([], 1) := by
          unfold onD
          rw [hd, if_neg (by decide), hL, next18, hx]
          simp only
          rw [hm, if_neg Bool.false_ne_true]
        rw [e]
        exact (con18_other w d g c C k F s h hs hk hC hd x y D hL z hx hm).mono fun e w' hq => ⟨hq.1, ⟨g, c, hq.2.1⟩, hq.2.2⟩
      | true =>
        have e : onD C s.data.toList = (bytesP (sentL (x :: y :: D)) (x :: y :: D).length ++ s.data.toList.drop (7 * (x :: y :: D).length), 0) := by
          unfold onD
          rw [hd, if_neg (by decide), hL, next18, hx]
          simp only
          rw [hm, if_pos rfl]
        rw [e]
        exact (con18_yes w d g c C k F s h hs hk hC hd x y D hL z hx hm).mono fun e w' hq => ⟨hq.1, ⟨g, c, hq.2.1⟩, hq.2.2⟩
theorem diC : DiC DiL where
  mem := fun ⟨_, _, h⟩ => h.mem
  stay := fun ⟨g, c, h⟩ hs => ⟨g, c, h.stay hs⟩
  new := fun w b n a m c A _ hn hm hA h0 => cnew18 w b n a m c A hn hm hA h0
  on := con18_any
  mine := fun w d C k F b n ⟨g, c, h⟩ => cmine18 w d g c C k F b n h
  counts := fun w d C k F ⟨g, c, h⟩ => ccounts18 w d g c C k F h
  on0 := fun w s _ => con0_18 w s
  mine0 := fun w b n => cmine0_18 w b n
  counts0 := fun w => ccounts0_18 w
  decodes := fun w s hC hs => cdecs18 s w (by omega) hC
  for_ := fun w b n s hC hs => cfor18 b n s w hs hC
end Go.Proofs.YtikabflmgckdnaaDoor
namespace Go.Proofs.YtikabflmgckdnaaDoor
open Go.RowKit Go.Sort
set_option maxRecDepth 20000
theorem ex18_via (w : World) (g : Nat) (hE : CallsAt w (some ⟨g, 0, none⟩) [(⟨#[67]⟩, 0)]) : Calls Tryd.prog 20 #[.agg #[.string ⟨#[65]⟩, .int .i64 0], .agg #[.string ⟨#[66]⟩, .int .i64 0], .bool true, .slice (some ⟨g, 0, none⟩) 1 1] w fun e w' =>
    (∃ da dc, e = .returned (.tuple #[.agg #[.string ⟨#[66]⟩, .int .i64 0, .string ⟨#[65]⟩, .int .i64 0, .bool true, .bool false, .slice da 1 dc], .int .i64 0]) ∧ EntsAt w' da dc (freshD [(⟨#[67]⟩, 0)])) ∧ Below w.heap.size w w' := by
  have h := via_any ⟨#[65]⟩ ⟨#[66]⟩ 0 0 true (some ⟨g, 0, none⟩) 1 [(⟨#[67]⟩, 0)] w (by simp) hE (by decide) (by decide) (fun x hx => by rw [List.mem_singleton.1 hx]; decide)
  rw [ex18_right] at h
  simp only [if_true] at h
  exact h
theorem ex18_enc (da : Option Addr) (dc : Nat) (w : World) (hC : CodesOk w) (hE : EntsAt w da dc (freshD [(⟨#[67]⟩, 0)])) : Calls Tryd.prog 21 #[.agg #[.string ⟨#[66]⟩, .int .i64 0, .string ⟨#[65]⟩, .int .i64 0, .bool true, .bool false, .slice da 1 dc, .int .i64 12, .int .i64 0, .int .i64 0, .bool false, .int .i64 240, .string ⟨#[120]⟩], .bool false] w fun e w' =>
    e = .returned (.tuple #[.string ⟨exS18.toArray⟩, .int .i64 0]) ∧ Below w.heap.size w w' := enc_yes ⟨#[66]⟩ ⟨#[65]⟩ 0 0 true false da dc (freshD [(⟨#[67]⟩, 0)]) 12 0 0 false 240 ⟨#[120]⟩ false w hC (by decide) hE ex18_wrong
set_option maxHeartbeats 2000000 in
theorem cawake18 {D : DiP} (hD : DiC D) (w : World) (hC : CodesOk w) : Calls Tryd.prog 6 #[] w fun e w' => e = .returned (.bool true) ∧ Below w.heap.size w w' := by
  obtain ⟨S, hS⟩ : ∃ S : ByteArray, S = ⟨exS18.toArray⟩ := ⟨_, rfl⟩
  obtain ⟨T, hT⟩ : ∃ T : ByteArray, T = ⟨exT18.toArray⟩ := ⟨_, rfl⟩
  have hSl : S.data.toList = exS18 := by rw [hS]
  have hTl : T.data.toList = exT18 := by rw [hT]
  have hSz : S.size = 24 := by
    rw [← ex18_len.1, ← hSl]
    simp
  have hTz : T.size = 24 := by
    rw [← ex18_len.2, ← hTl]
    simp
  have HVI := Lib.hid (fun W g hE => ex18_via W g hE)
  have HEN := Lib.hid (show ∀ da dc W, Below w.heap.size w W → EntsAt W da dc (freshD [(⟨#[67]⟩, 0)]) → _ from fun da dc W hb hE => ex18_enc da dc W (hC.below hb) hE)
  rw [← hS] at HEN
  have HNE := Lib.hid (show ∀ W, Below w.heap.size w W → _ from fun W hb => hD.new W ⟨#[67]⟩ 0 none 0 0 [] (hC.below hb) rfl (by decide) (fun k hk => by simp at hk) (fun _ => rfl))
  have HON := Lib.hid (show ∀ W d K, DiO D w d [(⟨#[67]⟩, 0)] (0, 0, 0) K W → _ from fun W d K h => h.on hD hC S (by omega) ⟨by decide, by decide, by decide⟩)
  rw [hSl, ex18_on] at HON
  have HF1 := Lib.hid (show ∀ W, Below w.heap.size w W → _ from fun W hb => hD.for_ W ⟨#[66]⟩ 0 S (hC.below hb) (by omega))
  have HF2 := Lib.hid (show ∀ W, Below w.heap.size w W → _ from fun W hb => hD.for_ W ⟨#[66]⟩ 0 T (hC.below hb) (by omega))
  rw [hSl, ex18_for.1] at HF1
  rw [hTl, ex18_for.2] at HF2
  have hon : sayD (exT18, 0) = .tuple #[.string T, .bool true] := by rw [hT]; rfl
  rw [hon] at HON
  have hszS : ((S.size : Nat) : Int) = 24 := by rw [hSz]; rfl
  have hszT : ((T.size : Nat) : Int) = 24 := by rw [hTz]; rfl
  clear hS hT hSl hTl hSz hTz hon
  have HB0 := Lib.hid (show Below w.heap.size w ((((w.alloc (.cells #[.string ⟨#[65]⟩, .int .i64 0] 23)).alloc (.cells #[.string ⟨#[66]⟩, .int .i64 0] 23)).alloc (.cells #[.string ⟨#[67]⟩, .int .i64 0] 23)).alloc (.cells #[.string ⟨#[67]⟩, .int .i64 0] 23)) from ((((Below.refl w.heap.size w).alloc (Nat.le_refl _) _).alloc (by simp) _).alloc (by simp; omega) _).alloc (by simp; omega) _)
  have HRB0 := Lib.hid ((((RowAt.new (w.alloc (.cells #[.string ⟨#[65]⟩, .int .i64 0] 23)) (w.heap.size + 1) (by simp) [.string ⟨#[66]⟩, .int .i64 0] 23).alloc (.cells #[.string ⟨#[67]⟩, .int .i64 0] 23)).alloc (.cells #[.string ⟨#[67]⟩, .int .i64 0] 23)))
  have HRC0 := Lib.hid ((RowAt.new ((w.alloc (.cells #[.string ⟨#[65]⟩, .int .i64 0] 23)).alloc (.cells #[.string ⟨#[66]⟩, .int .i64 0] 23)) (w.heap.size + 1 + 1) (by simp) [.string ⟨#[67]⟩, .int .i64 0] 23).alloc (.cells #[.string ⟨#[67]⟩, .int .i64 0] 23))
  have hra := RowAt.new (((w.alloc (.cells #[.string ⟨#[65]⟩, .int .i64 0] 23)).alloc (.cells #[.string ⟨#[66]⟩, .int .i64 0] 23)).alloc (.cells #[.string ⟨#[67]⟩, .int .i64 0] 23)) (w.heap.size + 1 + 1 + 1) (by simp) [.string ⟨#[67]⟩, .int .i64 0] 23
  have HA0 := Lib.hid (show CallsAt ((((w.alloc (.cells #[.string ⟨#[65]⟩, .int .i64 0] 23)).alloc (.cells #[.string ⟨#[66]⟩, .int .i64 0] 23)).alloc (.cells #[.string ⟨#[67]⟩, .int .i64 0] 23)).alloc (.cells #[.string ⟨#[67]⟩, .int .i64 0] 23)) (some ⟨w.heap.size + 1 + 1 + 1, 0, none⟩) [(⟨#[67]⟩, 0)] from fun k hk => by
    have e : k = 0 := by simp at hk; exact hk
    subst e
    exact ⟨_, 0, rfl, by simp, hra.cell 0 rfl, hra.cell 1 rfl⟩)
  clear hra
  generalize hX : ((((w.alloc (.cells #[.string ⟨#[65]⟩, .int .i64 0] 23)).alloc (.cells #[.string ⟨#[66]⟩, .int .i64 0] 23)).alloc (.cells #[.string ⟨#[67]⟩, .int .i64 0] 23)).alloc (.cells #[.string ⟨#[67]⟩, .int .i64 0] 23)) = X0 at HB0 HRB0 HRC0 HA0
  have HX := Lib.hid hX
  clear hX
  go_enter Tryd.func6, Tryd.ntmps6
  go_wp2_with (first
    | (go_at_call 20; rw [HX.out]; (with_reducible refine (HVI.out _ _ HA0.out).mono ?_); rintro e w1 ⟨⟨da, dc, rfl, hE⟩, hb⟩; have hb1 := hb.alloc hb.size (.cells #[.string ⟨#[66]⟩, .int .i64 0, .string ⟨#[65]⟩, .int .i64 0, .bool true, .bool false, .slice da 1 dc] 55); have HB1 := Lib.hid (HB0.out.trans (hb1.mono HB0.out.size)); have HE1 := Lib.hid (hE.alloc (.cells #[.string ⟨#[66]⟩, .int .i64 0, .string ⟨#[65]⟩, .int .i64 0, .bool true, .bool false, .slice da 1 dc] 55)); have HP1 := Lib.hid (RowAt.new w1 w1.heap.size rfl [.string ⟨#[66]⟩, .int .i64 0, .string ⟨#[65]⟩, .int .i64 0, .bool true, .bool false, .slice da 1 dc] 55); have HRB1 := Lib.hid (HRB0.out.below hb1); have HRC1 := Lib.hid (HRC0.out.below hb1); clear hb hb1 hE; have p0 := HP1.out.cell 0 rfl; have p1 := HP1.out.cell 1 rfl; have p2 := HP1.out.cell 2 rfl; have p3 := HP1.out.cell 3 rfl; have p4 := HP1.out.cell 4 rfl; have p5 := HP1.out.cell 5 rfl; have p6 := HP1.out.cell 6 rfl)
    | (go_at_call 21; (with_reducible refine (HEN.out da dc _ HB1.out HE1.out).mono ?_); rintro e w2 ⟨rfl, hb⟩; clear p0 p1 p2 p3 p4 p5 p6; have HB2 := Lib.hid (HB1.out.trans (hb.mono HB1.out.size)); have HRB2 := Lib.hid (HRB1.out.below hb); have HRC2 := Lib.hid (HRC1.out.below hb); clear hb; have b0 := HRB2.out.cell 0 rfl; have b1 := HRB2.out.cell 1 rfl; have c0 := HRC2.out.cell 0 rfl; have c1 := HRC2.out.cell 1 rfl)
    | (go_at_call 8; (with_reducible refine (HNE.out _ HB2.out).mono ?_); rintro e w3 ⟨⟨-, d, F, rfl, hd, hf⟩ | ⟨hm, -⟩, hb⟩; rotate_left 1; exact absurd ex18_made hm; have HO := Lib.hid (show DiO D w d [(⟨#[67]⟩, 0)] (0, 0, 0) (fun b => b < w2.heap.size) w3 from ⟨F, hd, fun b hb' => Nat.le_trans HB2.out.size (hf b hb'), HB2.out.trans (hb.mono HB2.out.size), fun b hb' => ⟨Nat.lt_of_lt_of_le hb' hb.size, fun hf' => by have := hf b hf'; omega⟩⟩); have HRB3 := Lib.hid (HRB2.out.below hb); have HRC3 := Lib.hid (HRC2.out.below hb); clear hb hd hf b0 b1 c0 c1)
    | (go_at_call 10; (with_reducible refine (HON.out _ d _ HO.out).mono ?_); rintro e w4 ⟨rfl, ho, hs⟩; have HB4 := Lib.hid ho.bel; have HRB4 := Lib.hid (HRB3.out.block (hs.2 _ (by have := HRB2.out.lt; exact this)) hs.1); clear ho hs; have b0 := HRB4.out.cell 0 rfl; have b1 := HRB4.out.cell 1 rfl)
    | (go_at_call 13; (with_reducible refine (HF1.out _ HB4.out).mono ?_); rintro e w5 ⟨rfl, hb⟩; have HB5 := Lib.hid (HB4.out.trans (hb.mono HB4.out.size)); have HRB5 := Lib.hid (HRB4.out.below hb); clear hb b0 b1; have b0 := HRB5.out.cell 0 rfl; have b1 := HRB5.out.cell 1 rfl)
    | (go_at_call 13; (with_reducible refine (HF2.out _ HB5.out).mono ?_); rintro e w6 ⟨rfl, hb⟩; have HB6 := Lib.hid (HB5.out.trans (hb.mono HB5.out.size)); clear hb))
  exact bodyPost_ret (v := .bool true) (by simp [results, Tryd.results6, go_sem]) rfl ⟨rfl, HB6.out⟩
end Go.Proofs.YtikabflmgckdnaaDoor
