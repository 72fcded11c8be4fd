/-
The landed digipeater's On: what is not sent on.
The landed digipeater's On: what is sent on.
Calls in a row: are they right, and no two alike?
-/
import Derived.Test.YtikabflmgckdnaaDoorMix35
import Derived.Test.YtikabflmgckdnaaDoorMix36
import Derived.Test.YtikabflmgckdnaaDoorMix25
import Derived.Test.YtikabflmgckdnaaDoorMix23
import Derived.Test.YtikabflmgckdnaaDoorCallBase
namespace Go.Proofs.YtikabflmgckdnaaDoor
open Go.RowKit Go.Sort
set_option maxRecDepth 20000
set_option maxHeartbeats 1000000 in
theorem con18_bad (w : World) (d g c : Nat) (C : List Cl) (k : Nat × Nat × Nat) (F : Nat → Prop) (s : ByteArray) (h : DiAt w d g c C k F) (hs : s.size ≤ 1000) (hk : few k) (hC : CodesOk w) (hd : decB s.data.toList = false) : Calls Tryd.prog 10 #[ptrD d, .string s] w fun e w' =>
    e = .returned (.tuple #[.string ⟨#[]⟩, .bool false]) ∧ DiAt w' d g c C (k.1, k.2.1, k.2.2 + 1) F ∧ Turn F w w' := by
  have HDE := Lib.hid (cdecs18 s w (by omega) hC)
  rw [hd] at HDE
  obtain ⟨k0, k1, k2⟩ := k
  obtain ⟨h0, h1, h2⟩ := hk
  simp only at h0 h1 h2 ⊢
  have hz : wrap64 ((k2 : Int) + 1) = (k2 : Int) + 1 := IntWalk.wrap64_in _ (by omega)
  have HH := Lib.hid h
  clear h hC hd h0 h1 h2
  go_enter Tryd.func10, Tryd.ntmps10
  go_wp2_with (go_at_call 12; (with_reducible refine HDE.out.mono ?_); rintro e w1 ⟨rfl, hb⟩; have HI := Lib.hid (HH.out.below hb); have HT := Lib.hid (Turn.of_below (F := F) hb); clear hb; have x3 := HI.out.row.cell 3 rfl; have f3 := (HI.out.row.get 3 rfl).free; simp only at x3 f3)
  have HJ := Lib.hid (HI.out.put (k' := (k0, k1, k2 + 1)) 3 (.int .i64 ((k2 : Int) + 1)) (by simp [diV]))
  have HU := Lib.hid (HT.out.set (p := ⟨d, 3, none⟩) (Or.inl HH.out.fd) (.int .i64 ((k2 : Int) + 1)))
  exact bodyPost_ret (v := .tuple #[.string ⟨#[]⟩, .bool false]) (by simp [results, Tryd.results10, go_sem]) rfl ⟨rfl, HJ.out.1, HU.out⟩
set_option maxHeartbeats 1000000 in
theorem con18_none (w : World) (d g c : Nat) (C : List Cl) (k : Nat × Nat × Nat) (F : Nat → Prop) (s : ByteArray) (h : DiAt w d g c C k F) (hs : s.size ≤ 1000) (hk : few k) (hC : CodesOk w) (hd : decB s.data.toList = true) (x y : Ent) (D : List Ent) (hL : pathL s.data.toList = x :: y :: D) (hx : D[fstD D]? = none) : Calls Tryd.prog 10 #[ptrD d, .string s] w fun e w' =>
    e = .returned (.tuple #[.string ⟨#[]⟩, .bool false]) ∧ DiAt w' d g c C (k.1, k.2.1 + 1, k.2.2) F ∧ Turn F w w' := by
  have HDE := Lib.hid (cdecs18 s w (by omega) hC)
  rw [hd] at HDE
  have hr := (read_path s.data.toList (decB_get hd)).1
  rw [hL] at hr
  obtain ⟨hrr, -, hl10, -⟩ := right_path _ hr
  have hszz : ∀ e ∈ D, e.1.size ≤ 140737488351232 := fun e he => by
    have := (right_facts _ _ (hrr e (List.mem_cons_of_mem _ (List.mem_cons_of_mem _ he)))).2.1
    omega
  have HGE := Lib.hid (fun W => cget18 s (by omega) x y D hd hL W)
  have HNX := Lib.hid (fun da dc W (h : EntsAt W da dc D) => next_any x.1 y.1 x.2.1 y.2.1 x.2.2 y.2.2 da dc D W (by simp at hl10; omega) h hszz)
  unfold nextV at HNX
  simp only [hx] at HNX
  obtain ⟨k0, k1, k2⟩ := k
  obtain ⟨h0, h1, h2⟩ := hk
  simp only at h0 h1 h2 ⊢
  have HH := Lib.hid h
  have hz : wrap64 ((k1 : Int) + 1) = (k1 : Int) + 1 := IntWalk.wrap64_in _ (by omega)
  obtain ⟨xb, xn, xm⟩ := x
  obtain ⟨yb, yn, ym⟩ := y
  simp only at HGE HNX
  obtain ⟨zb, hzb⟩ : ∃ z : ByteArray, z = ⟨#[]⟩ := ⟨_, rfl⟩
  obtain ⟨zn, hzn⟩ : ∃ z : Int, z = 0 := ⟨_, rfl⟩
  rw [← hzb, ← hzn] at HNX
  clear h hC hd hx hL hr hrr hl10 hszz h0 h1 h2 hzn hzb
  go_enter Tryd.func10, Tryd.ntmps10
  go_wp2_with (first
    | (go_at_call 12; (with_reducible refine HDE.out.mono ?_); rintro e w1 ⟨rfl, hb⟩; have HI1 := Lib.hid (HH.out.below hb); have HT1 := Lib.hid (Turn.of_below (F := F) hb); clear hb)
    | (go_at_call 25; (with_reducible refine (HGE.out _).mono ?_); rintro e w2 ⟨⟨da, dc, rfl, hE⟩, hb⟩; have hb2 := hb.alloc hb.size (.cells #[.string xb, .int .i64 xn, .string yb, .int .i64 yn, .bool xm, .bool ym, .slice da D.length dc] 55); have HI2 := Lib.hid (HI1.out.below hb2); have HT2 := Lib.hid (HT1.out.then_ hb2); have HE := Lib.hid (hE.alloc (.cells #[.string xb, .int .i64 xn, .string yb, .int .i64 yn, .bool xm, .bool ym, .slice da D.length dc] 55)); have HP := Lib.hid (RowAt.new w2 w2.heap.size rfl [.string xb, .int .i64 xn, .string yb, .int .i64 yn, .bool xm, .bool ym, .slice da D.length dc] 55); have HMW := Lib.hid (show w.heap.size ≤ w2.heap.size from Nat.le_trans HT1.out.size hb.size); clear hb hb2 hE; have p0 := HP.out.cell 0 rfl; have p1 := HP.out.cell 1 rfl; have p2 := HP.out.cell 2 rfl; have p3 := HP.out.cell 3 rfl; have p4 := HP.out.cell 4 rfl; have p5 := HP.out.cell 5 rfl; have p6 := HP.out.cell 6 rfl)
    | (go_at_call 26; (with_reducible refine (HNX.out da dc _ HE.out).mono ?_); rintro e w3 ⟨rfl, hb⟩; have hb3 := hb.alloc hb.size (.cells #[.string zb, .int .i64 zn] 23); have HI3 := Lib.hid (HI2.out.below hb3); have HT3 := Lib.hid (HT2.out.then_ hb3); have HE3 := Lib.hid (HE.out.below hb3); have HP3 := Lib.hid (HP.out.below hb3); have HZ3 := Lib.hid (RowAt.new w3 w3.heap.size rfl [.string zb, .int .i64 zn] 23); clear hb hb3 p0 p1 p2 p3 p4 p5 p6; have z0 := HZ3.out.cell 0 rfl; have z1 := HZ3.out.cell 1 rfl; have x2 := HI3.out.row.cell 2 rfl; have f2 := (HI3.out.row.get 2 rfl).free; simp only at x2 f2))
  have HJ := Lib.hid (HI3.out.put (k' := (k0, k1 + 1, k2)) 2 (.int .i64 ((k1 : Int) + 1)) (by simp [diV]))
  have HU := Lib.hid (HT3.out.set (p := ⟨d, 2, none⟩) (Or.inl HH.out.fd) (.int .i64 ((k1 : Int) + 1)))
  exact bodyPost_ret (v := .tuple #[.string ⟨#[]⟩, .bool false]) (by simp [results, Tryd.results10, go_sem]) rfl ⟨rfl, HJ.out.1, HU.out⟩
set_option maxHeartbeats 1000000 in
theorem con18_other (w : World) (d g c : Nat) (C : List Cl) (k : Nat × Nat × Nat) (F : Nat → Prop) (s : ByteArray) (h : DiAt w d g c C k F) (hs : s.size ≤ 1000) (hk : few k) (hC : CodesOk w) (hd : decB s.data.toList = true) (x y : Ent) (D : List Ent) (hL : pathL s.data.toList = x :: y :: D) (z : Ent) (hx : D[fstD D]? = some z) (hm : mineB C (z.1, z.2.1) = false) : Calls Tryd.prog 10 #[ptrD d, .string s] w fun e w' =>
    e = .returned (.tuple #[.string ⟨#[]⟩, .bool false]) ∧ DiAt w' d g c C (k.1, k.2.1 + 1, k.2.2) F ∧ Turn F w w' := by
  have HDE := Lib.hid (cdecs18 s w (by omega) hC)
  rw [hd] at HDE
  have hr := (read_path s.data.toList (decB_get hd)).1
  rw [hL] at hr
  obtain ⟨hrr, -, hl10, -⟩ := right_path _ hr
  have hszz : ∀ e ∈ D, e.1.size ≤ 140737488351232 := fun e he => by
    have := (right_facts _ _ (hrr e (List.mem_cons_of_mem _ (List.mem_cons_of_mem _ he)))).2.1
    omega
  have HGE := Lib.hid (fun W => cget18 s (by omega) x y D hd hL W)
  have HNX := Lib.hid (fun da dc W (h : EntsAt W da dc D) => next_any x.1 y.1 x.2.1 y.2.1 x.2.2 y.2.2 da dc D W (by simp at hl10; omega) h hszz)
  unfold nextV at HNX
  simp only [hx] at HNX
  obtain ⟨k0, k1, k2⟩ := k
  obtain ⟨h0, h1, h2⟩ := hk
  simp only at h0 h1 h2 ⊢
  have HH := Lib.hid h
  have hz : wrap64 ((k1 : Int) + 1) = (k1 : Int) + 1 := IntWalk.wrap64_in _ (by omega)
  obtain ⟨xb, xn, xm⟩ := x
  obtain ⟨yb, yn, ym⟩ := y
  obtain ⟨zb, zn, zm⟩ := z
  simp only at HGE HNX hm
  have HMI := Lib.hid (fun W (h : DiAt W d g c C (k0, k1, k2) F) => cmine18 W d g c C (k0, k1, k2) F zb zn h)
  rw [hm] at HMI
  clear h hC hd hx hL hr hrr hl10 hszz h0 h1 h2 hm
  go_enter Tryd.func10, Tryd.ntmps10
  go_wp2_with (first
    | (go_at_call 12; (with_reducible refine HDE.out.mono ?_); rintro e w1 ⟨rfl, hb⟩; have HI1 := Lib.hid (HH.out.below hb); have HT1 := Lib.hid (Turn.of_below (F := F) hb); clear hb)
    | (go_at_call 25; (with_reducible refine (HGE.out _).mono ?_); rintro e w2 ⟨⟨da, dc, rfl, hE⟩, hb⟩; have hb2 := hb.alloc hb.size (.cells #[.string xb, .int .i64 xn, .string yb, .int .i64 yn, .bool xm, .bool ym, .slice da D.length dc] 55); have HI2 := Lib.hid (HI1.out.below hb2); have HT2 := Lib.hid (HT1.out.then_ hb2); have HE := Lib.hid (hE.alloc (.cells #[.string xb, .int .i64 xn, .string yb, .int .i64 yn, .bool xm, .bool ym, .slice da D.length dc] 55)); have HP := Lib.hid (RowAt.new w2 w2.heap.size rfl [.string xb, .int .i64 xn, .string yb, .int .i64 yn, .bool xm, .bool ym, .slice da D.length dc] 55); have HMW := Lib.hid (show w.heap.size ≤ w2.heap.size from Nat.le_trans HT1.out.size hb.size); clear hb hb2 hE; have p0 := HP.out.cell 0 rfl; have p1 := HP.out.cell 1 rfl; have p2 := HP.out.cell 2 rfl; have p3 := HP.out.cell 3 rfl; have p4 := HP.out.cell 4 rfl; have p5 := HP.out.cell 5 rfl; have p6 := HP.out.cell 6 rfl)
    | (go_at_call 26; (with_reducible refine (HNX.out da dc _ HE.out).mono ?_); rintro e w3 ⟨rfl, hb⟩; have hb3 := hb.alloc hb.size (.cells #[.string zb, .int .i64 zn] 23); have HI3 := Lib.hid (HI2.out.below hb3); have HT3 := Lib.hid (HT2.out.then_ hb3); have HE3 := Lib.hid (HE.out.below hb3); have HP3 := Lib.hid (HP.out.below hb3); have HZ3 := Lib.hid (RowAt.new w3 w3.heap.size rfl [.string zb, .int .i64 zn] 23); clear hb hb3 p0 p1 p2 p3 p4 p5 p6; have z0 := HZ3.out.cell 0 rfl; have z1 := HZ3.out.cell 1 rfl; have x2 := HI3.out.row.cell 2 rfl; have f2 := (HI3.out.row.get 2 rfl).free; simp only at x2 f2)
    | (go_at_call 16; (with_reducible refine (HMI.out _ HI3.out).mono ?_); rintro e w4 ⟨rfl, hb⟩; have HI4 := Lib.hid (HI3.out.below hb); have HT4 := Lib.hid (HT3.out.then_ hb); clear hb x2 f2 z0 z1; have x2 := HI4.out.row.cell 2 rfl; have f2 := (HI4.out.row.get 2 rfl).free; simp only at x2 f2))
  have HJ := Lib.hid (HI4.out.put (k' := (k0, k1 + 1, k2)) 2 (.int .i64 ((k1 : Int) + 1)) (by simp [diV]))
  have HU := Lib.hid (HT4.out.set (p := ⟨d, 2, none⟩) (Or.inl HH.out.fd) (.int .i64 ((k1 : Int) + 1)))
  exact bodyPost_ret (v := .tuple #[.string ⟨#[]⟩, .bool false]) (by simp [results, Tryd.results10, go_sem]) rfl ⟨rfl, HJ.out.1, HU.out⟩
end Go.Proofs.YtikabflmgckdnaaDoor
namespace Go.Proofs.YtikabflmgckdnaaDoor
open Go.RowKit Go.Sort
set_option maxRecDepth 20000
/-- what the landed Get answers of what can be decoded, of its own -/
theorem cget18o (s : ByteArray) (hs : s.size ≤ 100000) (x y : Ent) (D : List Ent) (hd : decB s.data.toList = true) (hL : pathL s.data.toList = x :: y :: D) (W : World) : Calls Tryd.prog 25 #[.string s] W fun e w' => (∃ da dc, e = .returned (.tuple #[.agg #[.string x.1, .int .i64 x.2.1, .string y.1, .int .i64 y.2.1, .bool x.2.2, .bool y.2.2, .slice da D.length dc], .int .i64 ((7 * (x :: y :: D).length : Nat) : Int), .int .i64 0]) ∧ EntsAt w' da dc D ∧ ∀ q, da = some q → W.heap.size ≤ q.block) ∧ Below W.heap.size W w' := by
  refine (pget_own s W hs).mono ?_
  rintro e w' ⟨-, h2, h3⟩
  obtain ⟨x', y', D', da, dc, e1, e2, e3⟩ := h2 (decB_get hd)
  have e1' : pathL s.data.toList = x' :: y' :: D' := e1
  rw [hL] at e1'
  simp only [List.cons.injEq] at e1'
  obtain ⟨rfl, rfl, rfl⟩ := e1'
  have e4 : (getP 10 [] s.data.toList).2 = x :: y :: D := hL
  refine ⟨⟨da, dc, ?_, ents_of_own e3, fun q hq => ?_⟩, h3⟩
  · rw [e2]
    try rw [e4]
  · subst hq
    exact (e3.ge (g := q.block) rfl).1
theorem same7 {F : Nat → Prop} {W : World} {m : Nat} (hF : ¬ F m) (u0 u1 u2 u3 u4 u5 u6 : Value) : SameOn F W (((((((W.setCell ⟨m, 0, none⟩ u0).setCell ⟨m, 1, none⟩ u1).setCell ⟨m, 2, none⟩ u2).setCell ⟨m, 3, none⟩ u3).setCell ⟨m, 4, none⟩ u4).setCell ⟨m, 5, none⟩ u5).setCell ⟨m, 6, none⟩ u6) :=
  ((((((SameOn.of_set (p := ⟨m, 0, none⟩) hF u0).trans (SameOn.of_set (p := ⟨m, 1, none⟩) hF u1)).trans (SameOn.of_set (p := ⟨m, 2, none⟩) hF u2)).trans (SameOn.of_set (p := ⟨m, 3, none⟩) hF u3)).trans (SameOn.of_set (p := ⟨m, 4, none⟩) hF u4)).trans (SameOn.of_set (p := ⟨m, 5, none⟩) hF u5)).trans (SameOn.of_set (p := ⟨m, 6, none⟩) hF u6)
theorem turn7 {F : Nat → Prop} {a W : World} {m : Nat} (h : Turn F a W) (hm : a.heap.size ≤ m) (u0 u1 u2 u3 u4 u5 u6 : Value) : Turn F a (((((((W.setCell ⟨m, 0, none⟩ u0).setCell ⟨m, 1, none⟩ u1).setCell ⟨m, 2, none⟩ u2).setCell ⟨m, 3, none⟩ u3).setCell ⟨m, 4, none⟩ u4).setCell ⟨m, 5, none⟩ u5).setCell ⟨m, 6, none⟩ u6) :=
  ((((((h.set (p := ⟨m, 0, none⟩) (Or.inr hm) u0).set (p := ⟨m, 1, none⟩) (Or.inr hm) u1).set (p := ⟨m, 2, none⟩) (Or.inr hm) u2).set (p := ⟨m, 3, none⟩) (Or.inr hm) u3).set (p := ⟨m, 4, none⟩) (Or.inr hm) u4).set (p := ⟨m, 5, none⟩) (Or.inr hm) u5).set (p := ⟨m, 6, none⟩) (Or.inr hm) u6
set_option maxHeartbeats 2000000 in
theorem con18_yes (w : World) (d g c : Nat) (C : List Cl) (k : Nat × Nat × Nat) (F : Nat → Prop) (s : ByteArray) (h : DiAt w d g c C k F) (hs : s.size ≤ 1000) (hk : few k) (hC : CodesOk w) (hd : decB s.data.toList = true) (x y : Ent) (D : List Ent) (hL : pathL s.data.toList = x :: y :: D) (z : Ent) (hx : D[fstD D]? = some z) (hm : mineB C (z.1, z.2.1) = true) : Calls Tryd.prog 10 #[ptrD d, .string s] w fun e w' =>
    e = .returned (.tuple #[.string ⟨(bytesP (sentL (x :: y :: D)) (x :: y :: D).length ++ s.data.toList.drop (7 * (x :: y :: D).length)).toArray⟩, .bool true]) ∧ DiAt w' d g c C (k.1 + 1, k.2.1, k.2.2) F ∧ Turn F w w' := by
  have HDE := Lib.hid (cdecs18 s w (by omega) hC)
  rw [hd] at HDE
  obtain ⟨hr, hby⟩ := read_path s.data.toList (decB_get hd)
  rw [hL] at hr hby
  obtain ⟨hrr, -, hl10, -⟩ := right_path _ hr
  have hsr := sentL_right _ hr
  rw [sentL_cons] at hsr
  have hszz : ∀ e ∈ (x :: y :: D), e.1.size ≤ 140737488351232 := fun e he => by
    have := (right_facts _ _ (hrr e he)).2.1
    omega
  have hD10 : D.length ≤ 8 := by simp at hl10; omega
  have hge := fun W => cget18o s (by omega) x y D hd hL W
  have HNX := Lib.hid (fun da dc W (h : EntsAt W da dc D) => next_any x.1 y.1 x.2.1 y.2.1 x.2.2 y.2.2 da dc D W (by omega) h (fun e he => hszz e (List.mem_cons_of_mem _ (List.mem_cons_of_mem _ he))))
  unfold nextV at HNX
  simp only [hx] at HNX
  have hfl : fstD D < D.length := (List.getElem?_eq_some_iff.1 hx).1
  have hse := fun da dc W (h : EntsAt W da dc D) => sent_own x.1 y.1 x.2.1 y.2.1 x.2.2 y.2.2 da dc D W (by omega) h (hszz x List.mem_cons_self) (hszz y (List.mem_cons_of_mem _ List.mem_cons_self)) (fun e he => hszz e (List.mem_cons_of_mem _ (List.mem_cons_of_mem _ he)))
  rw [decide_eq_true hfl] at hse
  have hpu := fun da dc W (h : EntsAt W da dc (sentD D)) => pput_any x.1 y.1 x.2.1 y.2.1 x.2.2 y.2.2 da dc (sentD D) W (by rw [sent_len]; omega) h
  unfold pputE at hpu
  rw [hsr, sent_len] at hpu
  simp only [if_true] at hpu
  obtain ⟨k0, k1, k2⟩ := k
  obtain ⟨h0, h1, h2⟩ := hk
  simp only at h0 h1 h2 ⊢
  have hz : wrap64 ((k0 : Int) + 1) = (k0 : Int) + 1 := IntWalk.wrap64_in _ (by omega)
  have HH := Lib.hid h
  have hNs : 7 * (x :: y :: D).length ≤ s.size := by
    have e1 : s.data.toList.length = s.size := by simp
    have e2 := congrArg List.length hby
    rw [List.length_append, bytesP_len' _ _ (Nat.le_refl _)] at e2
    omega
  obtain ⟨J, hJ, hcut⟩ := slice_rest s (7 * (x :: y :: D).length) hNs
  have hll : (x :: y :: sentD D).length = (x :: y :: D).length := by simp [sent_len]
  obtain ⟨S1, hS1⟩ : ∃ S1 : ByteArray, S1 = ⟨(bytesP (x :: y :: sentD D) (x :: y :: sentD D).length).toArray⟩ := ⟨_, rfl⟩
  have hz1 : S1.size ≤ 1000 := by
    have e1 : S1.data.toList.length = S1.size := by simp
    rw [← e1, hS1]
    show (bytesP (x :: y :: sentD D) (x :: y :: sentD D).length).length ≤ 1000
    rw [bytesP_len' _ _ (Nat.le_refl _), hll]
    omega
  have hz2 : J.size ≤ s.size := by
    have e1 : J.data.toList.length = J.size := by simp
    have e2 : s.data.toList.length = s.size := by simp
    rw [← e1, hJ, List.length_drop]
    omega
  have c1 := fun (w : World) => run_string_add_sum (P := Tryd.prog) (w := w) S1 J (by omega)
  obtain ⟨S3, hS3⟩ : ∃ S3 : ByteArray, S3 = S1 ++ J := ⟨_, rfl⟩
  rw [← hS3] at c1
  have hans : (⟨(bytesP (sentL (x :: y :: D)) (x :: y :: D).length ++ s.data.toList.drop (7 * (x :: y :: D).length)).toArray⟩ : ByteArray) = S3 := by
    rw [hS3]
    apply bytes_ext'
    rw [ByteArray.data_append, Array.toList_append, hJ, hS1, sentL_cons, hll]
  rw [hans]
  obtain ⟨N, hN⟩ : ∃ N : Nat, N = 7 * (x :: y :: D).length := ⟨_, rfl⟩
  rw [← hN] at hge hcut
  have hpu2 := fun da dc W (h : EntsAt W da dc (sentD D)) => (hpu da dc W h).mono fun e w' hq => show e = .returned (.tuple #[.string S1, .int .i64 0]) ∧ Below W.heap.size W w' from by
    rw [hS1]
    exact hq
  have HGE := Lib.hid hge
  have HSE := Lib.hid hse
  have HPU := Lib.hid hpu2
  obtain ⟨xb, xn, xm⟩ := x
  obtain ⟨yb, yn, ym⟩ := y
  obtain ⟨zb, zn, zm⟩ := z
  simp only at HGE HNX HSE HPU hm
  have HMI := Lib.hid (fun W (h : DiAt W d g c C (k0, k1, k2) F) => cmine18 W d g c C (k0, k1, k2) F zb zn h)
  rw [hm] at HMI
  clear h hC hd hx hL hr hrr hl10 hszz h0 h1 h2 hm hby hsr hge hse hpu hpu2 hNs hJ hll hS1 hz1 hz2 hS3 hans hN hfl
  have HF0 := Lib.hid HH.out.mem
  go_enter Tryd.func10, Tryd.ntmps10
  go_upto_region 12 with (first
    | (go_at_call 12; (with_reducible refine HDE.out.mono ?_); rintro e w1 ⟨rfl, hb⟩; have HI1 := Lib.hid (HH.out.below hb); have HT1 := Lib.hid (Turn.of_below (F := F) hb); clear hb)
    | (go_at_call 25; (with_reducible refine (HGE.out _).mono ?_); rintro e w2 ⟨⟨da, dc, rfl, hE, hq⟩, hb⟩; have hb2 := hb.alloc hb.size (.cells #[.string xb, .int .i64 xn, .string yb, .int .i64 yn, .bool xm, .bool ym, .slice da D.length dc] 55); have HI2 := Lib.hid (HI1.out.below hb2); have HT2 := Lib.hid (HT1.out.then_ hb2); have HE := Lib.hid (hE.alloc (.cells #[.string xb, .int .i64 xn, .string yb, .int .i64 yn, .bool xm, .bool ym, .slice da D.length dc] 55)); have HP := Lib.hid (RowAt.new w2 w2.heap.size rfl [.string xb, .int .i64 xn, .string yb, .int .i64 yn, .bool xm, .bool ym, .slice da D.length dc] 55); have HMW := Lib.hid (show w.heap.size ≤ w2.heap.size from Nat.le_trans HT1.out.size hb.size); have HQ := Lib.hid (show ∀ q, da = some q → w.heap.size ≤ q.block from fun q e => Nat.le_trans HT1.out.size (hq q e)); clear hb hb2 hE hq; have p0 := HP.out.cell 0 rfl; have p1 := HP.out.cell 1 rfl; have p2 := HP.out.cell 2 rfl; have p3 := HP.out.cell 3 rfl; have p4 := HP.out.cell 4 rfl; have p5 := HP.out.cell 5 rfl; have p6 := HP.out.cell 6 rfl)
    | (go_at_call 26; (with_reducible refine (HNX.out da dc _ HE.out).mono ?_); rintro e w3 ⟨rfl, hb⟩; have hb3 := hb.alloc hb.size (.cells #[.string zb, .int .i64 zn] 23); have HI3 := Lib.hid (HI2.out.below hb3); have HT3 := Lib.hid (HT2.out.then_ hb3); have HE3 := Lib.hid (HE.out.below hb3); have HP3 := Lib.hid (HP.out.below hb3); have HZ3 := Lib.hid (RowAt.new w3 w3.heap.size rfl [.string zb, .int .i64 zn] 23); clear hb hb3 p0 p1 p2 p3 p4 p5 p6; have z0 := HZ3.out.cell 0 rfl; have z1 := HZ3.out.cell 1 rfl)
    | (go_at_call 16; (with_reducible refine (HMI.out _ HI3.out).mono ?_); rintro e w4 ⟨rfl, hb⟩; have HI4 := Lib.hid (HI3.out.below hb); have HT4 := Lib.hid (HT3.out.then_ hb); have HE4 := Lib.hid (HE3.out.below hb); have HP4 := Lib.hid (HP3.out.below hb); clear hb z0 z1; have x1 := HI4.out.row.cell 1 rfl; have f1 := (HI4.out.row.get 1 rfl).free; simp only at x1 f1))
  have HI5 := Lib.hid (HI4.out.put (k' := (k0 + 1, k1, k2)) 1 (.int .i64 ((k0 : Int) + 1)) (by simp [diV])).1
  have HT5 := Lib.hid (HT4.out.set (p := ⟨d, 1, none⟩) (Or.inl HH.out.fd) (.int .i64 ((k0 : Int) + 1)))
  have hdl := HF0.out d HH.out.fd
  have hmw := HMW.out
  have HP5 := Lib.hid (HP4.out.other (g := d) (p := 1) (.int .i64 ((k0 : Int) + 1)) (by omega))
  have HE5 := Lib.hid (HE4.out.same (w' := w4.setCell ⟨d, 1, none⟩ (.int .i64 ((k0 : Int) + 1))) (fun q hq => Below.heap_setCell _ _ _ _ (by have := HQ.out q hq; show q.block ≠ d; omega)) (by simp [World.setCell]))
  have hnF : ¬ F w2.heap.size := fun hf => by have := HF0.out _ hf; omega
  have HNF := Lib.hid hnF
  clear x1 f1 HI4 HT4 HP4 HE4 HI3 HT3 HP3 HE3 HZ3 HI2 HT2 HE HP HI1 HT1 hdl hnF
  generalize w4.setCell ⟨d, 1, none⟩ (.int .i64 ((k0 : Int) + 1)) = W5 at *
  generalize w2.heap.size = m at *
  have p0 := HP5.out.cell 0 rfl
  have p1 := HP5.out.cell 1 rfl
  have p2 := HP5.out.cell 2 rfl
  have p3 := HP5.out.cell 3 rfl
  have p4 := HP5.out.cell 4 rfl
  have p5 := HP5.out.cell 5 rfl
  have p6 := HP5.out.cell 6 rfl
  go_upto_region 13 with (go_at_call 27; (with_reducible refine (HSE.out da dc _ HE5.out).mono ?_); rintro e w6 ⟨⟨da2, dc2, rfl, hO⟩, hb⟩; have HI6 := Lib.hid (HI5.out.below hb); have HT6 := Lib.hid (HT5.out.then_ hb); have HP6 := Lib.hid (HP5.out.below hb); have HO := Lib.hid hO; have HML := Lib.hid (HP5.out.get 0 rfl).lt; clear hb hO p0 p1 p2 p3 p4 p5 p6; have p0 := HP6.out.cell 0 rfl; have p1 := HP6.out.cell 1 rfl; have p2 := HP6.out.cell 2 rfl; have p3 := HP6.out.cell 3 rfl; have p4 := HP6.out.cell 4 rfl; have p5 := HP6.out.cell 5 rfl; have p6 := HP6.out.cell 6 rfl; have f0 := (HP6.out.get 0 rfl).free; have f1 := (HP6.out.get 1 rfl).free; have f2 := (HP6.out.get 2 rfl).free; have f3 := (HP6.out.get 3 rfl).free; have f4 := (HP6.out.get 4 rfl).free; have f5 := (HP6.out.get 5 rfl).free; have f6 := (HP6.out.get 6 rfl).free)
  have HI7 := Lib.hid (HI6.out.stay (same7 (W := w6) (m := m) HNF.out (.string xb) (.int .i64 xn) (.string yb) (.int .i64 yn) (.bool xm) (.bool ym) (.slice da2 D.length dc2)))
  have HT7 := Lib.hid (turn7 (m := m) HT6.out HMW.out (.string xb) (.int .i64 xn) (.string yb) (.int .i64 yn) (.bool xm) (.bool ym) (.slice da2 D.length dc2))
  have HO7 := Lib.hid (ents_of_own (own7 (m := m) (by have e := HO.out; rw [show (Value.slice da2 D.length dc2) = Value.slice da2 D.length dc2 from rfl] at e; exact e) HML.out (.string xb) (.int .i64 xn) (.string yb) (.int .i64 yn) (.bool xm) (.bool ym) (.slice da2 D.length dc2)))
  have HP7 := Lib.hid (stored7 (m := m) (.string xb) (.int .i64 xn) (.string yb) (.int .i64 yn) (.bool xm) (.bool ym) (.slice da2 D.length dc2) (⟨HP6.out 0 _ rfl, HP6.out 1 _ rfl, HP6.out 2 _ rfl, HP6.out 3 _ rfl, HP6.out 4 _ rfl, HP6.out 5 _ rfl, HP6.out 6 _ rfl⟩ : P7 w6 m _ _ _ _ _ _ _))
  clear p0 p1 p2 p3 p4 p5 p6 f0 f1 f2 f3 f4 f5 f6
  generalize (((((((w6.setCell ⟨m, 0, none⟩ (.string xb)).setCell ⟨m, 1, none⟩ (.int .i64 xn)).setCell ⟨m, 2, none⟩ (.string yb)).setCell ⟨m, 3, none⟩ (.int .i64 yn)).setCell ⟨m, 4, none⟩ (.bool xm)).setCell ⟨m, 5, none⟩ (.bool ym)).setCell ⟨m, 6, none⟩ (.slice da2 D.length dc2)) = W7 at *
  have q0 := HP7.out.k0.cell
  have q1 := HP7.out.k1.cell
  have q2 := HP7.out.k2.cell
  have q3 := HP7.out.k3.cell
  have q4 := HP7.out.k4.cell
  have q5 := HP7.out.k5.cell
  have q6 := HP7.out.k6.cell
  go_wp2_with (go_at_call 28; (with_reducible refine (HPU.out da2 dc2 _ HO7.out).mono ?_); rintro e w8 ⟨rfl, hb⟩; have HI8 := Lib.hid (HI7.out.below hb); have HT8 := Lib.hid (HT7.out.then_ hb); clear hb)
  exact bodyPost_ret (v := .tuple #[.string S3, .bool true]) (by simp [results, Tryd.results10, go_sem]) rfl ⟨rfl, HI8.out, HT8.out⟩
end Go.Proofs.YtikabflmgckdnaaDoor
namespace Go.Proofs.YtikabflmgckdnaaDoor
open Go.RowKit Go.Sort
/-- calls that lie in a row -/
def SAt (W : World) (lb off : Nat) (C : List (ByteArray × Int)) : Prop := ∀ k (h : k < C.length), W.cell? ⟨lb, off + k * 2, none⟩ = some (.string C[k].1) ∧ W.cell? ⟨lb, off + k * 2 + 1, none⟩ = some (.int .i64 C[k].2)
theorem SAt.below {W W' : World} {lb off B : Nat} {C : List (ByteArray × Int)} (h : SAt W lb off C) (hl : lb < B) (hb : Below B W W') : SAt W' lb off C := fun k hk =>
  ⟨(hb.cell (p := ⟨lb, off + k * 2, none⟩) hl).trans (h k hk).1, (hb.cell (p := ⟨lb, off + k * 2 + 1, none⟩) hl).trans (h k hk).2⟩
/-- no one of the first j is c -/
def apartD (C : List (ByteArray × Int)) (c : ByteArray × Int) (j : Nat) : Bool := (C.take j).all fun d => decide (c ≠ d)
/-- the first k are right, and no two alike -/
def wantD (C : List (ByteArray × Int)) : Nat → Bool
  | 0 => true
  | k + 1 => wantD C k && (match C[k]? with | none => true | some c => rightD c.1 c.2 && apartD C c k)
def CDistinctOk : Prop := ∀ (C : List (ByteArray × Int)) (a : Option Addr) (lb off cap : Nat) w, C.length ≤ 60 → (∀ c ∈ C, c.1.size ≤ 100) → (0 < C.length → a = some ⟨lb, off, none⟩ ∧ lb < w.heap.size) → SAt w lb off C →
  Calls Tryd.prog 22 #[.slice a C.length cap] w fun e w' => e = .returned (.bool (wantD C C.length)) ∧ Below w.heap.size w w'
theorem apartD_next (C : List (ByteArray × Int)) (c : ByteArray × Int) (j : Nat) (h : j < C.length) : apartD C c (j + 1) = (apartD C c j && decide (c ≠ C[j])) := by
  unfold apartD
  rw [List.take_succ_eq_append_getElem h, List.all_append]
  simp
theorem wantD_next (C : List (ByteArray × Int)) (k : Nat) (h : k < C.length) : wantD C (k + 1) = (wantD C k && (rightD C[k].1 C[k].2 && apartD C C[k] k)) := by
  show (wantD C k && _) = _
  rw [List.getElem?_eq_getElem h]
end Go.Proofs.YtikabflmgckdnaaDoor
