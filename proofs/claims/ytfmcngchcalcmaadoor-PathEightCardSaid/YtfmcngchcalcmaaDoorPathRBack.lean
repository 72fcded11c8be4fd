/-
The document's own Back of a path.
-/
import Derived.Test.YtfmcngchcalcmaaDoorPathPlain
import Derived.Test.YtfmcngchcalcmaaDoorPathRNext
import Derived.OrdersHeld
import Derived.Deep.RegionHeld
namespace Go.Proofs.YtfmcngchcalcmaaDoor
open Go.RowKit Go.Sort
set_option maxRecDepth 20000
/-- the digipeaters from behind, none of which has sent -/
def revD (D : List Ent) : List Ent := D.reverse.map fun e => (e.1, e.2.1, false)
/-- a command's marks? -/
def cmdD (x y : Ent) : Bool := x.2.2 && !y.2.2
/-- the way back -/
def backL (x y : Ent) (D : List Ent) : List Ent := (y.1, y.2.1, !cmdD x y) :: (x.1, x.2.1, cmdD x y) :: revD D
theorem revD_next (D : List Ent) (k : Nat) (h : k < D.length) : (revD D).take (k + 1) = (revD D).take k ++ [((D[D.length - 1 - k]'(by omega)).1, (D[D.length - 1 - k]'(by omega)).2.1, false)] := by
  have hl : k < (revD D).length := by simp [revD, h]
  rw [List.take_succ_eq_append_getElem hl]
  congr 2
  simp [revD]
theorem OutAt.first {V W : World} (n m B : Nat) (b c : ByteArray) (i j : Int) (x y : Bool) (hb : Below V.heap.size V W) (ho : OwnE 50 W B (.slice (some ⟨n, 0, none⟩) 2 2) [(b, i, x), (c, j, y)]) (hk : KeepAt W m 0 (.slice (some ⟨n, 0, none⟩) 2 2)) (hB : V.heap.size ≤ B) (hm : V.heap.size ≤ m) (hne : n ≠ m) (hw : B ≤ W.heap.size) :
    OutAt V W B m 0 50 (.slice (some ⟨n, 0, none⟩) 2 2) [(b, i, x), (c, j, y)] :=
  ⟨hk.cell, hk.free, ho, fun e => hne (Option.some.inj e), hb, hB, hm, hk.lt, hw⟩
theorem rback_A {V W : World} (hb : Below V.heap.size V W) (b c : ByteArray) (i j : Int) (x y : Bool) :
    OutAt V (((W.alloc (.cells #[.string b, .int .i64 i, .bool x, .string c, .int .i64 j, .bool y] 50)).alloc (.cells #[.slice (some ⟨W.heap.size, 0, none⟩) 2 2] 31)).drew) W.heap.size (W.heap.size + 1) 0 50 (.slice (some ⟨W.heap.size, 0, none⟩) 2 2) [(b, i, x), (c, j, y)] := by
  have hs := hb.size
  have ho := OwnE.lit2 W W.heap.size W.heap.size rfl (Nat.le_refl _) b c i j x y 50
  have e : W.heap.size + 1 = (W.alloc (.cells #[.string b, .int .i64 i, .bool x, .string c, .int .i64 j, .bool y] 50)).heap.size := by simp
  refine OutAt.drew (OutAt.first _ _ _ b c i j x y ((hb.alloc hs _).alloc (by simp; omega) _) (ho.alloc _) ?_ hs (by omega) (by omega) (by simp; omega))
  rw [e]
  exact ⟨World.cell?_alloc_at _ _ _ _ rfl, World.frozen?_alloc_at _ _ _ _ rfl, by simp⟩
theorem rback_B {V W : World} (hb : Below V.heap.size V W) (b c : ByteArray) (i j : Int) (x y : Bool) :
    OutAt V (((W.alloc (.cells #[.slice (some ⟨W.heap.size + 1, 0, none⟩) 2 2] 31)).alloc (.cells #[.string b, .int .i64 i, .bool x, .string c, .int .i64 j, .bool y] 50)).drew) W.heap.size W.heap.size 0 50 (.slice (some ⟨W.heap.size + 1, 0, none⟩) 2 2) [(b, i, x), (c, j, y)] := by
  have hs := hb.size
  have ho := OwnE.lit2 (W.alloc (.cells #[.slice (some ⟨W.heap.size + 1, 0, none⟩) 2 2] 31)) (W.heap.size + 1) W.heap.size (by simp) (by omega) b c i j x y 50
  have hk : KeepAt (W.alloc (.cells #[.slice (some ⟨W.heap.size + 1, 0, none⟩) 2 2] 31)) W.heap.size 0 (.slice (some ⟨W.heap.size + 1, 0, none⟩) 2 2) := ⟨World.cell?_alloc_at _ _ _ _ rfl, World.frozen?_alloc_at _ _ _ _ rfl, by simp⟩
  exact OutAt.drew (OutAt.first _ _ _ b c i j x y ((hb.alloc hs _).alloc (by simp; omega) _) ho (hk.alloc _) hs hs (by omega) (by simp; omega))
set_option maxHeartbeats 4000000 in
theorem rback_any (xb yb : ByteArray) (xn yn : Int) (xm ym : Bool) (D : List Ent) (a : Option Addr) (cap : Nat) (w : World) (hD : D.length ≤ 900) (hE : EntsAt w a cap ((xb, xn, xm) :: (yb, yn, ym) :: D)) :
    Calls Tryd.prog 30 #[.agg #[.slice a (D.length + 2) cap]] w fun e w' => (∃ v, e = .returned (.agg #[v]) ∧ Ents w' v (backL (xb, xn, xm) (yb, yn, ym) D)) ∧ Below w.heap.size w w' := by
  have hb0 := (Below.refl _ w).alloc (Nat.le_refl _) (.cells #[.slice a (D.length + 2) cap] 31)
  obtain ⟨g, o, rfl, hg⟩ := hE.some_ (by simp)
  obtain ⟨V, hV⟩ : ∃ V, V = w.alloc (.cells #[.slice (some ⟨g, o, none⟩) (D.length + 2) cap] 31) := ⟨_, rfl⟩
  have HV := Lib.hid (show Below w.heap.size w V from by rw [hV]; exact hb0)
  have hs : V.heap.size = w.heap.size + 1 := by rw [hV]; simp
  have HP := Lib.hid (show KeepAt V w.heap.size 0 (.slice (some ⟨g, o, none⟩) (D.length + 2) cap) from by rw [hV]; exact ⟨World.cell?_alloc_at _ _ _ _ rfl, World.frozen?_alloc_at _ _ _ _ rfl, by simp⟩)
  have hEV : EntsAt V (some ⟨g, o, none⟩) cap ((xb, xn, xm) :: (yb, yn, ym) :: D) := by rw [hV]; exact hE.alloc _
  have HR := Lib.hid (show KeepAt (V.alloc (.cells #[.slice none 0 0] 31)) (w.heap.size + 1) 0 (.slice none 0 0) from by rw [← hs]; exact ⟨World.cell?_alloc_at _ _ _ _ rfl, World.frozen?_alloc_at _ _ _ _ rfl, by simp⟩)
  have HB0 := Lib.hid ((Below.refl _ V).alloc (Nat.le_refl _) (.cells #[.slice none 0 0] 31))
  have hF : ∀ W, Below V.heap.size V W → (W.cell? ⟨g, o, none⟩ = some (.string xb) ∧ W.cell? ⟨g, o + 1, none⟩ = some (.int .i64 xn) ∧ W.cell? ⟨g, o + 2, none⟩ = some (.bool xm)) ∧ (W.cell? ⟨g, o + 3, none⟩ = some (.string yb) ∧ W.cell? ⟨g, o + 4, none⟩ = some (.int .i64 yn) ∧ W.cell? ⟨g, o + 5, none⟩ = some (.bool ym)) := fun W hb => by
    obtain ⟨g', o', ha, _, c0, c1, c2⟩ := (hEV.below hb).at_ 0 (by simp)
    obtain ⟨g2, o2, ha2, _, d0, d1, d2⟩ := (hEV.below hb).at_ 1 (by simp)
    simp only [Option.some.injEq, Addr.mk.injEq, and_true] at ha ha2
    obtain ⟨rfl, rfl⟩ := ha
    obtain ⟨rfl, rfl⟩ := ha2
    exact ⟨⟨by simpa using c0, by simpa using c1, by simpa using c2⟩, ⟨by simpa using d0, by simpa using d1, by simpa using d2⟩⟩
  have hG : ∀ p, 2 ≤ p → p ≤ D.length + 1 → ∃ b n, ((revD D).take (D.length + 1 - (p - 1)) = (revD D).take (D.length + 1 - p) ++ [(b, n, false)]) ∧ ∀ W, Below V.heap.size V W → W.cell? ⟨g, o + p * 3, none⟩ = some (.string b) ∧ W.cell? ⟨g, o + p * 3 + 1, none⟩ = some (.int .i64 n) := fun p h2 hp => by
    have hlt : p - 2 < D.length := by omega
    refine ⟨D[p - 2].1, D[p - 2].2.1, ?_, fun W hb => ?_⟩
    · have k := revD_next D (D.length + 1 - p) (by omega)
      have e1 : D.length + 1 - p + 1 = D.length + 1 - (p - 1) := by omega
      have e2 : D.length - 1 - (D.length + 1 - p) = p - 2 := by omega
      simp only [e1, e2] at k
      exact k
    · obtain ⟨g', o', ha, _, c0, c1, _⟩ := (hEV.below hb).at_ p (by simp; omega)
      simp only [Option.some.injEq, Addr.mk.injEq, and_true] at ha
      obtain ⟨rfl, rfl⟩ := ha
      obtain ⟨q, rfl⟩ : ∃ q, p = q + 2 := ⟨p - 2, by omega⟩
      exact ⟨c0, c1⟩
  have HF := Lib.hid hF
  have HG := Lib.hid hG
  have HT0 := Lib.hid (show (revD D).take (D.length + 1 - (D.length + 1)) = [] from by rw [Nat.sub_self]; rfl)
  have HTL := Lib.hid (show (revD D).take (D.length + 1 - 1) = revD D from by rw [List.take_of_length_le (by simp [revD])])
  have HTK := Lib.hid (show ∀ k, ((revD D).take k).length ≤ 900 from fun k => by simp [revD]; omega)
  unfold backL
  generalize revD D = RD at *
  have b1 : (1 : Int) < (D.length : Int) + 2 := by omega
  have b0 : (0 : Int) < (D.length : Int) + 2 := by omega
  have HS := Lib.hid hs
  clear hE hF hG hb0 hg hEV hs
  subst hV
  cases xm
  · go_enter Tryd.func30, Tryd.ntmps30
    obtain ⟨⟨q0, q1, q2⟩, q3, q4, q5⟩ := HF.out _ HB0.out
    go_wp2
    generalize (w.alloc (.cells #[.slice (some ⟨g, o, none⟩) (D.length + 2) cap] 31)) = V at *
    have HWS := Lib.hid (show (V.alloc (.cells #[.slice none 0 0] 31)).heap.size = V.heap.size + 1 from by simp)
    generalize (V.alloc (.cells #[.slice none 0 0] 31)) = W at *
    clear q0 q1 q2 q3 q4 q5
    have HB1 := Lib.hid ((Below.refl W.heap.size W).drew)
    refine wp_region_held (S := fun W' => Below W.heap.size W W') (by kernel_rfl) ?_
    change wpAnyH _ _ _ _ _ _ _ _ W.drew
    have HB := Lib.hid ((Below.refl W.heap.size W).drew)
    refine wpAnyH_take (i := 0) (v := ?_) rfl (by kernel_rfl) (by kernel_rfl) (by kernel_rfl) (fun _ _ _ h => h) (Or.inl ⟨by rfl, ?_⟩) HB.out ?_
    rotate_left
    · intro w' hw'
      obtain ⟨p0, -, pl⟩ := HP.out.below (HB0.out.trans (hw'.mono HB0.out.size)); obtain ⟨⟨q0, q1, q2⟩, q3, q4, q5⟩ := HF.out w' (HB0.out.trans (hw'.mono HB0.out.size))
      go_simp
      with_reducible rfl
    go_simp
    refine wpAnyH_take (i := 1) (v := ?_) rfl (by kernel_rfl) (by kernel_rfl) (by kernel_rfl) (fun _ _ _ h => h) (Or.inl ⟨by rfl, ?_⟩) HB.out ?_
    rotate_left
    · intro w' hw'
      obtain ⟨p0, -, pl⟩ := HP.out.below (HB0.out.trans (hw'.mono HB0.out.size)); obtain ⟨⟨q0, q1, q2⟩, q3, q4, q5⟩ := HF.out w' (HB0.out.trans (hw'.mono HB0.out.size))
      go_simp
      with_reducible rfl
    go_simp
    refine wpAnyH_take (i := 2) (v := ?_) rfl (by kernel_rfl) (by kernel_rfl) (by kernel_rfl) (fun _ _ _ h => h) (Or.inl ⟨by rfl, ?_⟩) HB.out ?_
    rotate_left
    · intro w' hw'
      obtain ⟨p0, -, pl⟩ := HP.out.below (HB0.out.trans (hw'.mono HB0.out.size)); obtain ⟨⟨q0, q1, q2⟩, q3, q4, q5⟩ := HF.out w' (HB0.out.trans (hw'.mono HB0.out.size))
      go_simp
      with_reducible rfl
    go_simp
    refine wpAnyH_take (i := 3) (v := ?_) rfl (by kernel_rfl) (by kernel_rfl) (by kernel_rfl) (fun _ _ _ h => h) (Or.inl ⟨by rfl, ?_⟩) HB.out ?_
    rotate_left
    · intro w' hw'
      obtain ⟨p0, -, pl⟩ := HP.out.below (HB0.out.trans (hw'.mono HB0.out.size)); obtain ⟨⟨q0, q1, q2⟩, q3, q4, q5⟩ := HF.out w' (HB0.out.trans (hw'.mono HB0.out.size))
      go_simp
      with_reducible rfl
    go_simp
    refine wpAnyH_take (i := 4) (v := ?_) rfl (by kernel_rfl) (by kernel_rfl) (by kernel_rfl) (fun _ _ _ h => h) (Or.inl ⟨by rfl, ?_⟩) HB.out ?_
    rotate_left
    · intro w' hw'
      obtain ⟨p0, -, pl⟩ := HP.out.below (HB0.out.trans (hw'.mono HB0.out.size)); obtain ⟨⟨q0, q1, q2⟩, q3, q4, q5⟩ := HF.out w' (HB0.out.trans (hw'.mono HB0.out.size))
      go_simp
      with_reducible rfl
    go_simp
    refine wpAnyH_take (i := 5) (v := ?_) rfl (by kernel_rfl) (by kernel_rfl) (by kernel_rfl) (fun _ _ _ h => h) (Or.inl ⟨by rfl, ?_⟩) HB.out ?_
    rotate_left
    · intro w' hw'
      obtain ⟨p0, -, pl⟩ := HP.out.below (HB0.out.trans (hw'.mono HB0.out.size)); obtain ⟨⟨q0, q1, q2⟩, q3, q4, q5⟩ := HF.out w' (HB0.out.trans (hw'.mono HB0.out.size))
      go_simp
      with_reducible rfl
    go_simp
    refine wpAnyH_take (i := 6) (v := ?_) rfl (by kernel_rfl) (by kernel_rfl) (by kernel_rfl) (fun _ _ _ h => h) (Or.inl ⟨by rfl, ?_⟩) HB.out ?_
    rotate_left
    · intro w' hw'
      obtain ⟨p0, -, pl⟩ := HP.out.below (HB0.out.trans (hw'.mono HB0.out.size)); obtain ⟨⟨q0, q1, q2⟩, q3, q4, q5⟩ := HF.out w' (HB0.out.trans (hw'.mono HB0.out.size))
      go_simp
      with_reducible rfl
    go_simp
    refine wpAnyH_take (i := 7) (v := ?_) rfl (by kernel_rfl) (by kernel_rfl) (by kernel_rfl) (fun _ _ _ h => h) (Or.inl ⟨by rfl, ?_⟩) HB.out ?_
    rotate_left
    · intro w' hw'
      obtain ⟨p0, -, pl⟩ := HP.out.below (HB0.out.trans (hw'.mono HB0.out.size)); obtain ⟨⟨q0, q1, q2⟩, q3, q4, q5⟩ := HF.out w' (HB0.out.trans (hw'.mono HB0.out.size))
      go_simp
      with_reducible rfl
    go_simp
    refine wpAnyH_take (i := 8) (v := ?_) rfl (by kernel_rfl) (by kernel_rfl) (by kernel_rfl) (fun _ _ _ h => h) (Or.inl ⟨by rfl, ?_⟩) HB.out ?_
    rotate_left
    · intro w' hw'
      obtain ⟨p0, -, pl⟩ := HP.out.below (HB0.out.trans (hw'.mono HB0.out.size)); obtain ⟨⟨q0, q1, q2⟩, q3, q4, q5⟩ := HF.out w' (HB0.out.trans (hw'.mono HB0.out.size))
      go_simp
      with_reducible rfl
    go_simp
    refine wpAnyH_take (i := 9) (v := ?_) rfl (by kernel_rfl) (by kernel_rfl) (by kernel_rfl) (fun _ _ _ h => h) (Or.inl ⟨by rfl, ?_⟩) HB.out ?_
    rotate_left
    · intro w' hw'
      obtain ⟨p0, -, pl⟩ := HP.out.below (HB0.out.trans (hw'.mono HB0.out.size)); obtain ⟨⟨q0, q1, q2⟩, q3, q4, q5⟩ := HF.out w' (HB0.out.trans (hw'.mono HB0.out.size))
      go_simp
      with_reducible rfl
    go_simp
    refine wpAnyH_take (i := 10) (v := ?_) rfl (by kernel_rfl) (by kernel_rfl) (by kernel_rfl) (fun _ _ _ h => h) (Or.inl ⟨by rfl, ?_⟩) HB.out ?_
    rotate_left
    · intro w' hw'
      obtain ⟨p0, -, pl⟩ := HP.out.below (HB0.out.trans (hw'.mono HB0.out.size)); obtain ⟨⟨q0, q1, q2⟩, q3, q4, q5⟩ := HF.out w' (HB0.out.trans (hw'.mono HB0.out.size))
      go_simp
      with_reducible rfl
    go_simp
    refine wpAnyH_take (i := 11) (v := ?_) rfl (by kernel_rfl) (by kernel_rfl) (by kernel_rfl) (fun _ _ _ h => h) (Or.inl ⟨by rfl, ?_⟩) HB.out ?_
    rotate_left
    · intro w' hw'
      obtain ⟨p0, -, pl⟩ := HP.out.below (HB0.out.trans (hw'.mono HB0.out.size)); obtain ⟨⟨q0, q1, q2⟩, q3, q4, q5⟩ := HF.out w' (HB0.out.trans (hw'.mono HB0.out.size))
      go_simp
      with_reducible rfl
    go_simp
    refine wpAnyH_take (i := 12) (v := ?_) rfl (by kernel_rfl) (by kernel_rfl) (by kernel_rfl) (fun _ _ _ h => h) (Or.inl ⟨by rfl, ?_⟩) HB.out ?_
    rotate_left
    · intro w' hw'
      obtain ⟨p0, -, pl⟩ := HP.out.below (HB0.out.trans (hw'.mono HB0.out.size)); obtain ⟨⟨q0, q1, q2⟩, q3, q4, q5⟩ := HF.out w' (HB0.out.trans (hw'.mono HB0.out.size))
      go_simp
      with_reducible rfl
    go_simp
    refine wpAnyH_take (i := 13) (v := ?_) rfl (by kernel_rfl) (by kernel_rfl) (by kernel_rfl) (fun _ _ _ h => h) (Or.inl ⟨by rfl, ?_⟩) HB.out ?_
    rotate_left
    · intro w' hw'
      obtain ⟨p0, -, pl⟩ := HP.out.below (HB0.out.trans (hw'.mono HB0.out.size)); obtain ⟨⟨q0, q1, q2⟩, q3, q4, q5⟩ := HF.out w' (HB0.out.trans (hw'.mono HB0.out.size))
      go_simp
      with_reducible rfl
    go_simp
    refine wpAnyH_take (i := 14) (v := ?_) rfl (by kernel_rfl) (by kernel_rfl) (by kernel_rfl) (fun _ _ _ h => h) (Or.inl ⟨by rfl, ?_⟩) HB.out ?_
    rotate_left
    · intro w' hw'
      obtain ⟨p0, -, pl⟩ := HP.out.below (HB0.out.trans (hw'.mono HB0.out.size)); obtain ⟨⟨q0, q1, q2⟩, q3, q4, q5⟩ := HF.out w' (HB0.out.trans (hw'.mono HB0.out.size))
      go_simp
      with_reducible rfl
    go_simp
    refine wpAnyH_ready (rs := [15, 17]) (by kernel_rfl) (by simp) ?_
    refine AllReadyH.cons rfl (fun K hK => ?_) (AllReadyH.cons rfl (fun K hK => ?_) AllReadyH.nil)
    · go_simp
      have HB := Lib.hid ((((Below.refl W.heap.size W).alloc (Nat.le_refl _) (.cells #[.string yb, .int .i64 yn, .bool true, .string xb, .int .i64 xn, .bool false] 50))).drew)
      refine hK.out _ _ HB.out (fun _ => ?_)
      clear hK K
      refine wpAnyH_take (i := 16) (v := ?_) rfl (by kernel_rfl) (by kernel_rfl) (by kernel_rfl) (fun _ _ _ h => h) (Or.inl ⟨by rfl, ?_⟩) HB.out ?_
      rotate_left
      · intro w' hw'
        go_simp
        with_reducible rfl
      go_simp
      refine wpAnyH_ready (rs := [17]) (by kernel_rfl) (by simp) ?_
      refine AllReadyH.cons rfl (fun K hK => ?_) AllReadyH.nil
      go_simp
      have HB := Lib.hid (((((Below.refl W.heap.size W).alloc (Nat.le_refl _) (.cells #[.string yb, .int .i64 yn, .bool true, .string xb, .int .i64 xn, .bool false] 50))).alloc (by simp) (.cells #[.slice none 0 0] 31)).drew)
      refine hK.out _ _ HB.out (fun _ => ?_)
      clear hK K
      refine wpAnyH_ready (rs := [18]) (by kernel_rfl) (by simp) ?_
      refine AllReadyH.cons rfl (fun K hK => ?_) AllReadyH.nil
      go_simp
      have HB := Lib.hid (((((Below.refl W.heap.size W).alloc (Nat.le_refl _) (.cells #[.string yb, .int .i64 yn, .bool true, .string xb, .int .i64 xn, .bool false] 50))).alloc (by simp) (.cells #[.slice (some ⟨W.heap.size, 0, none⟩) 2 2] 31)).drew)
      refine hK.out _ _ HB.out (fun _ => ?_)
      clear hK K
      refine wpAnyH_done (by kernel_rfl) ?_ _
      have HO := Lib.hid (rback_A (V := V) HB0.out yb xb yn xn true false)
      have HR1 := Lib.hid (HR.out.below HB.out)
      have HP1 := Lib.hid (HP.out.below (HB0.out.trans (HB.out.mono HB0.out.size)))
      clear HB HB1 HR
      generalize (((W.alloc (.cells #[.string yb, .int .i64 yn, .bool true, .string xb, .int .i64 xn, .bool false] 50)).alloc (.cells #[.slice (some ⟨W.heap.size, 0, none⟩) 2 2] 31)).drew) = W1 at *
      have hms : (W.heap.size + 1) ≠ w.heap.size ∧ (W.heap.size + 1) ≠ w.heap.size + 1 := by have := HB0.out.size; have := HR1.out.lt; have e := HS.out; have h2 := HWS.out; constructor <;> omega
      have hBb : w.heap.size + 1 < W.heap.size ∧ w.heap.size < W.heap.size := by have e := HS.out; have h2 := HWS.out; constructor <;> omega
      generalize W.heap.size = Bb at *
      generalize hm : Bb + 1 = m at *
      clear hm
      obtain ⟨p0, -, pl⟩ := HP1.out
      go_wp2
      clear p0 pl
      go_loopw [5] (fun i wx => ∃ p : Nat, 1 ≤ p ∧ p ≤ D.length + 1 ∧ i = .int .i64 p ∧ ∃ tv, Hid (OutAt V wx Bb m 0 50 tv ([(yb, yn, true), (xb, xn, false)] ++ RD.take (D.length + 1 - p)) ∧ KeepAt wx (w.heap.size + 1) 0 (.slice none 0 0) ∧ KeepAt wx w.heap.size 0 (.slice (some ⟨g, o, none⟩) (D.length + 2) cap))) (fun i _ => (intOf i).toNat)
      case atStart => exact ⟨D.length + 1, by omega, by omega, by go_num, _, by rw [HT0.out]; exact HO.out, HR1.out, HP1.out⟩
      case round =>
        obtain ⟨p, hp1, hp, rfl, tv, HQ⟩ := hrel
        clear HO HR1 HP1
        have HO := Lib.hid HQ.out.1
        have HR1 := Lib.hid HQ.out.2.1
        have HP1 := Lib.hid HQ.out.2.2
        clear HQ
        obtain ⟨ta, tn, tc, htv⟩ := HO.out.own.form
        by_cases h2 : 2 ≤ p
        · have dk : decide ((2 : Int) ≤ (p : Int)) = true := decide_eq_true (by omega)
          obtain ⟨b, n, hT, hc⟩ := HG.out p h2 hp
          have HT := Lib.hid (show ([(yb, yn, true), (xb, xn, false)] ++ RD.take (D.length + 1 - p)) ++ [(b, n, false)] = [(yb, yn, true), (xb, xn, false)] ++ RD.take (D.length + 1 - (p - 1)) from by rw [hT, List.append_assoc])
          have HCB := Lib.hid hc
          have HL := Lib.hid (show ([(yb, yn, true), (xb, xn, false)] ++ RD.take (D.length + 1 - p)).length + 1 ≤ 100000 from by have := HTK.out (D.length + 1 - p); rw [List.length_append]; simp only [List.length_cons, List.length_nil]; omega)
          clear hT hc
          generalize ([(yb, yn, true), (xb, xn, false)] ++ RD.take (D.length + 1 - p)) = LL at *
          have bp : (p : Int) < (D.length : Int) + 2 := by omega
          subst htv
          go_wp2
          refine wp_region_held (S := fun W' => Below V.heap.size V W') (by kernel_rfl) ?_
          change wpAnyH _ _ _ _ _ _ _ _ wr.drew
          have HB := Lib.hid (HO.out.bel.drew)
          refine wpAnyH_take (i := 0) (v := ?_) rfl (by kernel_rfl) (by kernel_rfl) (by kernel_rfl) (fun _ _ _ h => h) (Or.inl ⟨by rfl, ?_⟩) HB.out ?_
          rotate_left
          · intro w' hw'
            obtain ⟨p0, -, pl⟩ := HP.out.below hw'; obtain ⟨c0, c1⟩ := HCB.out w' hw'
            go_simp
            with_reducible rfl
          go_simp
          refine wpAnyH_take (i := 2) (v := ?_) rfl (by kernel_rfl) (by kernel_rfl) (by kernel_rfl) (fun _ _ _ h => h) (Or.inl ⟨by rfl, ?_⟩) HB.out ?_
          rotate_left
          · intro w' hw'
            obtain ⟨p0, -, pl⟩ := HP.out.below hw'; obtain ⟨c0, c1⟩ := HCB.out w' hw'
            go_simp
            with_reducible rfl
          go_simp
          refine wpAnyH_take (i := 3) (v := ?_) rfl (by kernel_rfl) (by kernel_rfl) (by kernel_rfl) (fun _ _ _ h => h) (Or.inl ⟨by rfl, ?_⟩) HB.out ?_
          rotate_left
          · intro w' hw'
            obtain ⟨p0, -, pl⟩ := HP.out.below hw'; obtain ⟨c0, c1⟩ := HCB.out w' hw'
            go_simp
            with_reducible rfl
          go_simp
          refine wpAnyH_take (i := 4) (v := ?_) rfl (by kernel_rfl) (by kernel_rfl) (by kernel_rfl) (fun _ _ _ h => h) (Or.inl ⟨by rfl, ?_⟩) HB.out ?_
          rotate_left
          · intro w' hw'
            obtain ⟨p0, -, pl⟩ := HP.out.below hw'; obtain ⟨c0, c1⟩ := HCB.out w' hw'
            go_simp
            with_reducible rfl
          go_simp
          refine wpAnyH_take (i := 5) (v := ?_) rfl (by kernel_rfl) (by kernel_rfl) (by kernel_rfl) (fun _ _ _ h => h) (Or.inl ⟨by rfl, ?_⟩) HB.out ?_
          rotate_left
          · intro w' hw'
            obtain ⟨p0, -, pl⟩ := HP.out.below hw'; obtain ⟨c0, c1⟩ := HCB.out w' hw'
            go_simp
            with_reducible rfl
          go_simp
          refine wpAnyH_take (i := 6) (v := ?_) rfl (by kernel_rfl) (by kernel_rfl) (by kernel_rfl) (fun _ _ _ h => h) (Or.inl ⟨by rfl, ?_⟩) HB.out ?_
          rotate_left
          · intro w' hw'
            obtain ⟨p0, -, pl⟩ := HP.out.below hw'; obtain ⟨c0, c1⟩ := HCB.out w' hw'
            go_simp
            with_reducible rfl
          go_simp
          refine wpAnyH_take (i := 7) (v := ?_) rfl (by kernel_rfl) (by kernel_rfl) (by kernel_rfl) (fun _ _ _ h => h) (Or.inl ⟨by rfl, ?_⟩) HB.out ?_
          rotate_left
          · intro w' hw'
            obtain ⟨p0, -, pl⟩ := HP.out.below hw'; obtain ⟨c0, c1⟩ := HCB.out w' hw'
            go_simp
            with_reducible rfl
          go_simp
          refine wpAnyH_take (i := 8) (v := ?_) rfl (by kernel_rfl) (by kernel_rfl) (by kernel_rfl) (fun _ _ _ h => h) (Or.inl ⟨by rfl, ?_⟩) HB.out ?_
          rotate_left
          · intro w' hw'
            obtain ⟨p0, -, pl⟩ := HP.out.below hw'; obtain ⟨c0, c1⟩ := HCB.out w' hw'
            go_simp
            with_reducible rfl
          go_simp
          have O2 := Lib.hid ((HO.out.alloc (.cells #[.string b, .int .i64 n, .bool false] 50)).drew)
          have K2 := Lib.hid (show KeepAt (wr.alloc (.cells #[.string b, .int .i64 n, .bool false] 50)).drew (w.heap.size + 1) 0 (.slice none 0 0) ∧ KeepAt (wr.alloc (.cells #[.string b, .int .i64 n, .bool false] 50)).drew w.heap.size 0 (.slice (some ⟨g, o, none⟩) (D.length + 2) cap) from ⟨(HR1.out.alloc _).drew, (HP1.out.alloc _).drew⟩)
          have N2 := Lib.hid ((EntsAt.new1 wr wr.heap.size rfl b n false 50).drew)
          have HGR := Lib.hid (fun w1 v' => O2.out.grown (w1 := w1) (v' := v') (L' := LL ++ [(b, n, false)]))
          refine wpAnyH_ready (rs := [1, 9]) (by kernel_rfl) (by simp) ?_
          refine AllReadyH.cons rfl (fun K hK => ?_) (AllReadyH.cons rfl (fun K hK => ?_) AllReadyH.nil)
          · have y0 := HO.out.cell
            go_simp
            refine hK.out _ _ HB.out (fun _ => ?_)
            clear hK K y0
            refine wpAnyH_ready (rs := [9]) (by kernel_rfl) (by simp) ?_
            refine AllReadyH.cons rfl (fun K hK => ?_) AllReadyH.nil
            go_simp
            have HB := Lib.hid O2.out.bel
            refine hK.out _ _ HB.out (fun _ => ?_)
            clear hK K
            refine wpAnyH_ready (rs := [10]) (by kernel_rfl) (by simp) ?_
            refine AllReadyH.cons rfl (fun K hK => ?_) AllReadyH.nil
            rw [if_pos (by kernel_rfl)]
            unfold Oper.wp
            refine wp_append_ents infoE Tryd.underlying29 _ (.tmp 45) (.tmp 53) rfl Bb (.slice ta tn tc) LL [(b, n, false)] rfl O2.out.own (some ⟨wr.heap.size, 0, none⟩) 1 rfl N2.out HL.out O2.out.bw ?_
            intro v' w4 hown hgr hov
            have HB := Lib.hid (O2.out.bel.grown hgr O2.out.bel.size (fun k hk => Nat.le_trans O2.out.base (O2.out.own.ge hk).1))
            obtain ⟨⟨va, vn, vc, rfl⟩, hc1, hf1, hs1, hO1, hB1⟩ := HGR.out w4 v' hown hgr hov
            have HO4 := Lib.hid hO1
            have HR4 := Lib.hid ((K2.out.1.block (W' := w4) (hB1 _ hBb.1) hs1).other (g := m) (p := 0) (.slice va vn vc) hms.2)
            have HP4 := Lib.hid ((K2.out.2.block (W' := w4) (hB1 _ hBb.2) hs1).other (g := m) (p := 0) (.slice va vn vc) hms.1)
            have hml4 : m < w4.heap.size := Nat.lt_of_lt_of_le O2.out.lt hs1
            clear hown hgr hov hO1 hB1
            go_simp
            refine hK.out _ _ HB.out (fun _ => ?_)
            clear hK K
            refine wpAnyH_take (i := 11) (v := ?_) rfl (by kernel_rfl) (by kernel_rfl) (by kernel_rfl) (fun _ _ _ h => h) (Or.inl ⟨by rfl, ?_⟩) HB.out ?_
            rotate_left
            · intro w' hw'
              go_simp
              with_reducible rfl
            go_simp
            refine wpAnyH_ready (rs := [12]) (by kernel_rfl) (by simp) ?_
            refine AllReadyH.cons rfl (fun K hK => ?_) AllReadyH.nil
            go_simp
            have HB := Lib.hid HO4.out.bel
            refine hK.out _ _ HB.out (fun _ => ?_)
            clear hK K
            refine wpAnyH_done (by kernel_rfl) ?_ _
            clear HB HGR O2 K2 N2 HO HR1 HP1 HCB hc1 hf1
            generalize w4.setCell ⟨m, 0, none⟩ (.slice va vn vc) = w5 at *
            go_wp2
            go_roundw
            case rel => exact ⟨p - 1, by omega, by omega, by congr 1; omega, _, HT.out ▸ HO4.out, HR4.out, HP4.out⟩
            case measure => simp [intOf]; omega
          · go_simp
            have HB := Lib.hid O2.out.bel
            refine hK.out _ _ HB.out (fun _ => ?_)
            clear hK K
            have y0 := O2.out.cell
            refine wpAnyH_ready (rs := [1]) (by kernel_rfl) (by simp) ?_
            refine AllReadyH.cons rfl (fun K hK => ?_) AllReadyH.nil
            go_simp
            clear y0
            refine hK.out _ _ HB.out (fun _ => ?_)
            clear hK K
            refine wpAnyH_ready (rs := [10]) (by kernel_rfl) (by simp) ?_
            refine AllReadyH.cons rfl (fun K hK => ?_) AllReadyH.nil
            rw [if_pos (by kernel_rfl)]
            unfold Oper.wp
            refine wp_append_ents infoE Tryd.underlying29 _ (.tmp 45) (.tmp 53) rfl Bb (.slice ta tn tc) LL [(b, n, false)] rfl O2.out.own (some ⟨wr.heap.size, 0, none⟩) 1 rfl N2.out HL.out O2.out.bw ?_
            intro v' w4 hown hgr hov
            have HB := Lib.hid (O2.out.bel.grown hgr O2.out.bel.size (fun k hk => Nat.le_trans O2.out.base (O2.out.own.ge hk).1))
            obtain ⟨⟨va, vn, vc, rfl⟩, hc1, hf1, hs1, hO1, hB1⟩ := HGR.out w4 v' hown hgr hov
            have HO4 := Lib.hid hO1
            have HR4 := Lib.hid ((K2.out.1.block (W' := w4) (hB1 _ hBb.1) hs1).other (g := m) (p := 0) (.slice va vn vc) hms.2)
            have HP4 := Lib.hid ((K2.out.2.block (W' := w4) (hB1 _ hBb.2) hs1).other (g := m) (p := 0) (.slice va vn vc) hms.1)
            have hml4 : m < w4.heap.size := Nat.lt_of_lt_of_le O2.out.lt hs1
            clear hown hgr hov hO1 hB1
            go_simp
            refine hK.out _ _ HB.out (fun _ => ?_)
            clear hK K
            refine wpAnyH_take (i := 11) (v := ?_) rfl (by kernel_rfl) (by kernel_rfl) (by kernel_rfl) (fun _ _ _ h => h) (Or.inl ⟨by rfl, ?_⟩) HB.out ?_
            rotate_left
            · intro w' hw'
              go_simp
              with_reducible rfl
            go_simp
            refine wpAnyH_ready (rs := [12]) (by kernel_rfl) (by simp) ?_
            refine AllReadyH.cons rfl (fun K hK => ?_) AllReadyH.nil
            go_simp
            have HB := Lib.hid HO4.out.bel
            refine hK.out _ _ HB.out (fun _ => ?_)
            clear hK K
            refine wpAnyH_done (by kernel_rfl) ?_ _
            clear HB HGR O2 K2 N2 HO HR1 HP1 HCB hc1 hf1
            generalize w4.setCell ⟨m, 0, none⟩ (.slice va vn vc) = w5 at *
            go_wp2
            go_roundw
            case rel => exact ⟨p - 1, by omega, by omega, by congr 1; omega, _, HT.out ▸ HO4.out, HR4.out, HP4.out⟩
            case measure => simp [intOf]; omega
        · obtain rfl : p = 1 := by omega
          have dk : decide ((2 : Int) ≤ 1) = false := by decide
          rw [HTL.out] at HO
          have hmc := HO.out.cell
          have hmf := HO.out.free
          have hml := HO.out.lt
          obtain ⟨kc, kf, kl⟩ := HR1.out
          subst htv
          have z0 := set_here (v := .slice ta tn tc) kc
          have HX := Lib.hid (And.intro (HO.out.own.grown (grown_set (grown_refl wr (some (w.heap.size + 1))) (o := 0) (.slice ta tn tc)) (fun g' hv e => by have := (HO.out.own.ge hv).1; have e' : w.heap.size + 1 = g' := Option.some.inj e; have := hBb.1; omega)) (HO.out.bel.setCell (p := ⟨w.heap.size + 1, 0, none⟩) (by show V.heap.size ≤ w.heap.size + 1; have := HS.out; omega) (.slice ta tn tc)))
          go_wp2
          exact bodyPost_ret (v := .agg #[.slice ta tn tc]) (by simp [results, Tryd.results30, go_sem, z0]) rfl ⟨⟨_, rfl, HX.out.1.ents⟩, HV.out.trans (HX.out.2.mono (by have := HS.out; omega))⟩
    · go_simp
      have HB := Lib.hid ((((Below.refl W.heap.size W).alloc (Nat.le_refl _) (.cells #[.slice none 0 0] 31))).drew)
      refine hK.out _ _ HB.out (fun _ => ?_)
      clear hK K
      refine wpAnyH_ready (rs := [15]) (by kernel_rfl) (by simp) ?_
      refine AllReadyH.cons rfl (fun K hK => ?_) AllReadyH.nil
      go_simp
      have HB := Lib.hid (((((Below.refl W.heap.size W).alloc (Nat.le_refl _) (.cells #[.slice none 0 0] 31))).alloc (by simp) (.cells #[.string yb, .int .i64 yn, .bool true, .string xb, .int .i64 xn, .bool false] 50)).drew)
      refine hK.out _ _ HB.out (fun _ => ?_)
      clear hK K
      refine wpAnyH_take (i := 16) (v := ?_) rfl (by kernel_rfl) (by kernel_rfl) (by kernel_rfl) (fun _ _ _ h => h) (Or.inl ⟨by rfl, ?_⟩) HB.out ?_
      rotate_left
      · intro w' hw'
        go_simp
        with_reducible rfl
      go_simp
      refine wpAnyH_ready (rs := [18]) (by kernel_rfl) (by simp) ?_
      refine AllReadyH.cons rfl (fun K hK => ?_) AllReadyH.nil
      go_simp
      have HB := Lib.hid (((((Below.refl W.heap.size W).alloc (Nat.le_refl _) (.cells #[.slice (some ⟨W.heap.size + 1, 0, none⟩) 2 2] 31))).alloc (by simp) (.cells #[.string yb, .int .i64 yn, .bool true, .string xb, .int .i64 xn, .bool false] 50)).drew)
      refine hK.out _ _ HB.out (fun _ => ?_)
      clear hK K
      refine wpAnyH_done (by kernel_rfl) ?_ _
      have HO := Lib.hid (rback_B (V := V) HB0.out yb xb yn xn true false)
      have HR1 := Lib.hid (HR.out.below HB.out)
      have HP1 := Lib.hid (HP.out.below (HB0.out.trans (HB.out.mono HB0.out.size)))
      clear HB HB1 HR
      generalize (((W.alloc (.cells #[.slice (some ⟨W.heap.size + 1, 0, none⟩) 2 2] 31)).alloc (.cells #[.string yb, .int .i64 yn, .bool true, .string xb, .int .i64 xn, .bool false] 50)).drew) = W1 at *
      have hms : W.heap.size ≠ w.heap.size ∧ W.heap.size ≠ w.heap.size + 1 := by have := HB0.out.size; have := HR1.out.lt; have e := HS.out; have h2 := HWS.out; constructor <;> omega
      have hBb : w.heap.size + 1 < W.heap.size ∧ w.heap.size < W.heap.size := by have e := HS.out; have h2 := HWS.out; constructor <;> omega
      generalize W.heap.size = m at *
      obtain ⟨p0, -, pl⟩ := HP1.out
      go_wp2
      clear p0 pl
      go_loopw [5] (fun i wx => ∃ p : Nat, 1 ≤ p ∧ p ≤ D.length + 1 ∧ i = .int .i64 p ∧ ∃ tv, Hid (OutAt V wx m m 0 50 tv ([(yb, yn, true), (xb, xn, false)] ++ RD.take (D.length + 1 - p)) ∧ KeepAt wx (w.heap.size + 1) 0 (.slice none 0 0) ∧ KeepAt wx w.heap.size 0 (.slice (some ⟨g, o, none⟩) (D.length + 2) cap))) (fun i _ => (intOf i).toNat)
      case atStart => exact ⟨D.length + 1, by omega, by omega, by go_num, _, by rw [HT0.out]; exact HO.out, HR1.out, HP1.out⟩
      case round =>
        obtain ⟨p, hp1, hp, rfl, tv, HQ⟩ := hrel
        clear HO HR1 HP1
        have HO := Lib.hid HQ.out.1
        have HR1 := Lib.hid HQ.out.2.1
        have HP1 := Lib.hid HQ.out.2.2
        clear HQ
        obtain ⟨ta, tn, tc, htv⟩ := HO.out.own.form
        by_cases h2 : 2 ≤ p
        · have dk : decide ((2 : Int) ≤ (p : Int)) = true := decide_eq_true (by omega)
          obtain ⟨b, n, hT, hc⟩ := HG.out p h2 hp
          have HT := Lib.hid (show ([(yb, yn, true), (xb, xn, false)] ++ RD.take (D.length + 1 - p)) ++ [(b, n, false)] = [(yb, yn, true), (xb, xn, false)] ++ RD.take (D.length + 1 - (p - 1)) from by rw [hT, List.append_assoc])
          have HCB := Lib.hid hc
          have HL := Lib.hid (show ([(yb, yn, true), (xb, xn, false)] ++ RD.take (D.length + 1 - p)).length + 1 ≤ 100000 from by have := HTK.out (D.length + 1 - p); rw [List.length_append]; simp only [List.length_cons, List.length_nil]; omega)
          clear hT hc
          generalize ([(yb, yn, true), (xb, xn, false)] ++ RD.take (D.length + 1 - p)) = LL at *
          have bp : (p : Int) < (D.length : Int) + 2 := by omega
          subst htv
          go_wp2
          refine wp_region_held (S := fun W' => Below V.heap.size V W') (by kernel_rfl) ?_
          change wpAnyH _ _ _ _ _ _ _ _ wr.drew
          have HB := Lib.hid (HO.out.bel.drew)
          refine wpAnyH_take (i := 0) (v := ?_) rfl (by kernel_rfl) (by kernel_rfl) (by kernel_rfl) (fun _ _ _ h => h) (Or.inl ⟨by rfl, ?_⟩) HB.out ?_
          rotate_left
          · intro w' hw'
            obtain ⟨p0, -, pl⟩ := HP.out.below hw'; obtain ⟨c0, c1⟩ := HCB.out w' hw'
            go_simp
            with_reducible rfl
          go_simp
          refine wpAnyH_take (i := 2) (v := ?_) rfl (by kernel_rfl) (by kernel_rfl) (by kernel_rfl) (fun _ _ _ h => h) (Or.inl ⟨by rfl, ?_⟩) HB.out ?_
          rotate_left
          · intro w' hw'
            obtain ⟨p0, -, pl⟩ := HP.out.below hw'; obtain ⟨c0, c1⟩ := HCB.out w' hw'
            go_simp
            with_reducible rfl
          go_simp
          refine wpAnyH_take (i := 3) (v := ?_) rfl (by kernel_rfl) (by kernel_rfl) (by kernel_rfl) (fun _ _ _ h => h) (Or.inl ⟨by rfl, ?_⟩) HB.out ?_
          rotate_left
          · intro w' hw'
            obtain ⟨p0, -, pl⟩ := HP.out.below hw'; obtain ⟨c0, c1⟩ := HCB.out w' hw'
            go_simp
            with_reducible rfl
          go_simp
          refine wpAnyH_take (i := 4) (v := ?_) rfl (by kernel_rfl) (by kernel_rfl) (by kernel_rfl) (fun _ _ _ h => h) (Or.inl ⟨by rfl, ?_⟩) HB.out ?_
          rotate_left
          · intro w' hw'
            obtain ⟨p0, -, pl⟩ := HP.out.below hw'; obtain ⟨c0, c1⟩ := HCB.out w' hw'
            go_simp
            with_reducible rfl
          go_simp
          refine wpAnyH_take (i := 5) (v := ?_) rfl (by kernel_rfl) (by kernel_rfl) (by kernel_rfl) (fun _ _ _ h => h) (Or.inl ⟨by rfl, ?_⟩) HB.out ?_
          rotate_left
          · intro w' hw'
            obtain ⟨p0, -, pl⟩ := HP.out.below hw'; obtain ⟨c0, c1⟩ := HCB.out w' hw'
            go_simp
            with_reducible rfl
          go_simp
          refine wpAnyH_take (i := 6) (v := ?_) rfl (by kernel_rfl) (by kernel_rfl) (by kernel_rfl) (fun _ _ _ h => h) (Or.inl ⟨by rfl, ?_⟩) HB.out ?_
          rotate_left
          · intro w' hw'
            obtain ⟨p0, -, pl⟩ := HP.out.below hw'; obtain ⟨c0, c1⟩ := HCB.out w' hw'
            go_simp
            with_reducible rfl
          go_simp
          refine wpAnyH_take (i := 7) (v := ?_) rfl (by kernel_rfl) (by kernel_rfl) (by kernel_rfl) (fun _ _ _ h => h) (Or.inl ⟨by rfl, ?_⟩) HB.out ?_
          rotate_left
          · intro w' hw'
            obtain ⟨p0, -, pl⟩ := HP.out.below hw'; obtain ⟨c0, c1⟩ := HCB.out w' hw'
            go_simp
            with_reducible rfl
          go_simp
          refine wpAnyH_take (i := 8) (v := ?_) rfl (by kernel_rfl) (by kernel_rfl) (by kernel_rfl) (fun _ _ _ h => h) (Or.inl ⟨by rfl, ?_⟩) HB.out ?_
          rotate_left
          · intro w' hw'
            obtain ⟨p0, -, pl⟩ := HP.out.below hw'; obtain ⟨c0, c1⟩ := HCB.out w' hw'
            go_simp
            with_reducible rfl
          go_simp
          have O2 := Lib.hid ((HO.out.alloc (.cells #[.string b, .int .i64 n, .bool false] 50)).drew)
          have K2 := Lib.hid (show KeepAt (wr.alloc (.cells #[.string b, .int .i64 n, .bool false] 50)).drew (w.heap.size + 1) 0 (.slice none 0 0) ∧ KeepAt (wr.alloc (.cells #[.string b, .int .i64 n, .bool false] 50)).drew w.heap.size 0 (.slice (some ⟨g, o, none⟩) (D.length + 2) cap) from ⟨(HR1.out.alloc _).drew, (HP1.out.alloc _).drew⟩)
          have N2 := Lib.hid ((EntsAt.new1 wr wr.heap.size rfl b n false 50).drew)
          have HGR := Lib.hid (fun w1 v' => O2.out.grown (w1 := w1) (v' := v') (L' := LL ++ [(b, n, false)]))
          refine wpAnyH_ready (rs := [1, 9]) (by kernel_rfl) (by simp) ?_
          refine AllReadyH.cons rfl (fun K hK => ?_) (AllReadyH.cons rfl (fun K hK => ?_) AllReadyH.nil)
          · have y0 := HO.out.cell
            go_simp
            refine hK.out _ _ HB.out (fun _ => ?_)
            clear hK K y0
            refine wpAnyH_ready (rs := [9]) (by kernel_rfl) (by simp) ?_
            refine AllReadyH.cons rfl (fun K hK => ?_) AllReadyH.nil
            go_simp
            have HB := Lib.hid O2.out.bel
            refine hK.out _ _ HB.out (fun _ => ?_)
            clear hK K
            refine wpAnyH_ready (rs := [10]) (by kernel_rfl) (by simp) ?_
            refine AllReadyH.cons rfl (fun K hK => ?_) AllReadyH.nil
            rw [if_pos (by kernel_rfl)]
            unfold Oper.wp
            refine wp_append_ents infoE Tryd.underlying29 _ (.tmp 45) (.tmp 53) rfl m (.slice ta tn tc) LL [(b, n, false)] rfl O2.out.own (some ⟨wr.heap.size, 0, none⟩) 1 rfl N2.out HL.out O2.out.bw ?_
            intro v' w4 hown hgr hov
            have HB := Lib.hid (O2.out.bel.grown hgr O2.out.bel.size (fun k hk => Nat.le_trans O2.out.base (O2.out.own.ge hk).1))
            obtain ⟨⟨va, vn, vc, rfl⟩, hc1, hf1, hs1, hO1, hB1⟩ := HGR.out w4 v' hown hgr hov
            have HO4 := Lib.hid hO1
            have HR4 := Lib.hid ((K2.out.1.block (W' := w4) (hB1 _ hBb.1) hs1).other (g := m) (p := 0) (.slice va vn vc) hms.2)
            have HP4 := Lib.hid ((K2.out.2.block (W' := w4) (hB1 _ hBb.2) hs1).other (g := m) (p := 0) (.slice va vn vc) hms.1)
            have hml4 : m < w4.heap.size := Nat.lt_of_lt_of_le O2.out.lt hs1
            clear hown hgr hov hO1 hB1
            go_simp
            refine hK.out _ _ HB.out (fun _ => ?_)
            clear hK K
            refine wpAnyH_take (i := 11) (v := ?_) rfl (by kernel_rfl) (by kernel_rfl) (by kernel_rfl) (fun _ _ _ h => h) (Or.inl ⟨by rfl, ?_⟩) HB.out ?_
            rotate_left
            · intro w' hw'
              go_simp
              with_reducible rfl
            go_simp
            refine wpAnyH_ready (rs := [12]) (by kernel_rfl) (by simp) ?_
            refine AllReadyH.cons rfl (fun K hK => ?_) AllReadyH.nil
            go_simp
            have HB := Lib.hid HO4.out.bel
            refine hK.out _ _ HB.out (fun _ => ?_)
            clear hK K
            refine wpAnyH_done (by kernel_rfl) ?_ _
            clear HB HGR O2 K2 N2 HO HR1 HP1 HCB hc1 hf1
            generalize w4.setCell ⟨m, 0, none⟩ (.slice va vn vc) = w5 at *
            go_wp2
            go_roundw
            case rel => exact ⟨p - 1, by omega, by omega, by congr 1; omega, _, HT.out ▸ HO4.out, HR4.out, HP4.out⟩
            case measure => simp [intOf]; omega
          · go_simp
            have HB := Lib.hid O2.out.bel
            refine hK.out _ _ HB.out (fun _ => ?_)
            clear hK K
            have y0 := O2.out.cell
            refine wpAnyH_ready (rs := [1]) (by kernel_rfl) (by simp) ?_
            refine AllReadyH.cons rfl (fun K hK => ?_) AllReadyH.nil
            go_simp
            clear y0
            refine hK.out _ _ HB.out (fun _ => ?_)
            clear hK K
            refine wpAnyH_ready (rs := [10]) (by kernel_rfl) (by simp) ?_
            refine AllReadyH.cons rfl (fun K hK => ?_) AllReadyH.nil
            rw [if_pos (by kernel_rfl)]
            unfold Oper.wp
            refine wp_append_ents infoE Tryd.underlying29 _ (.tmp 45) (.tmp 53) rfl m (.slice ta tn tc) LL [(b, n, false)] rfl O2.out.own (some ⟨wr.heap.size, 0, none⟩) 1 rfl N2.out HL.out O2.out.bw ?_
            intro v' w4 hown hgr hov
            have HB := Lib.hid (O2.out.bel.grown hgr O2.out.bel.size (fun k hk => Nat.le_trans O2.out.base (O2.out.own.ge hk).1))
            obtain ⟨⟨va, vn, vc, rfl⟩, hc1, hf1, hs1, hO1, hB1⟩ := HGR.out w4 v' hown hgr hov
            have HO4 := Lib.hid hO1
            have HR4 := Lib.hid ((K2.out.1.block (W' := w4) (hB1 _ hBb.1) hs1).other (g := m) (p := 0) (.slice va vn vc) hms.2)
            have HP4 := Lib.hid ((K2.out.2.block (W' := w4) (hB1 _ hBb.2) hs1).other (g := m) (p := 0) (.slice va vn vc) hms.1)
            have hml4 : m < w4.heap.size := Nat.lt_of_lt_of_le O2.out.lt hs1
            clear hown hgr hov hO1 hB1
            go_simp
            refine hK.out _ _ HB.out (fun _ => ?_)
            clear hK K
            refine wpAnyH_take (i := 11) (v := ?_) rfl (by kernel_rfl) (by kernel_rfl) (by kernel_rfl) (fun _ _ _ h => h) (Or.inl ⟨by rfl, ?_⟩) HB.out ?_
            rotate_left
            · intro w' hw'
              go_simp
              with_reducible rfl
            go_simp
            refine wpAnyH_ready (rs := [12]) (by kernel_rfl) (by simp) ?_
            refine AllReadyH.cons rfl (fun K hK => ?_) AllReadyH.nil
            go_simp
            have HB := Lib.hid HO4.out.bel
            refine hK.out _ _ HB.out (fun _ => ?_)
            clear hK K
            refine wpAnyH_done (by kernel_rfl) ?_ _
            clear HB HGR O2 K2 N2 HO HR1 HP1 HCB hc1 hf1
            generalize w4.setCell ⟨m, 0, none⟩ (.slice va vn vc) = w5 at *
            go_wp2
            go_roundw
            case rel => exact ⟨p - 1, by omega, by omega, by congr 1; omega, _, HT.out ▸ HO4.out, HR4.out, HP4.out⟩
            case measure => simp [intOf]; omega
        · obtain rfl : p = 1 := by omega
          have dk : decide ((2 : Int) ≤ 1) = false := by decide
          rw [HTL.out] at HO
          have hmc := HO.out.cell
          have hmf := HO.out.free
          have hml := HO.out.lt
          obtain ⟨kc, kf, kl⟩ := HR1.out
          subst htv
          have z0 := set_here (v := .slice ta tn tc) kc
          have HX := Lib.hid (And.intro (HO.out.own.grown (grown_set (grown_refl wr (some (w.heap.size + 1))) (o := 0) (.slice ta tn tc)) (fun g' hv e => by have := (HO.out.own.ge hv).1; have e' : w.heap.size + 1 = g' := Option.some.inj e; have := hBb.1; omega)) (HO.out.bel.setCell (p := ⟨w.heap.size + 1, 0, none⟩) (by show V.heap.size ≤ w.heap.size + 1; have := HS.out; omega) (.slice ta tn tc)))
          go_wp2
          exact bodyPost_ret (v := .agg #[.slice ta tn tc]) (by simp [results, Tryd.results30, go_sem, z0]) rfl ⟨⟨_, rfl, HX.out.1.ents⟩, HV.out.trans (HX.out.2.mono (by have := HS.out; omega))⟩
  · go_enter Tryd.func30, Tryd.ntmps30
    obtain ⟨⟨q0, q1, q2⟩, q3, q4, q5⟩ := HF.out _ HB0.out
    go_wp2
    generalize (w.alloc (.cells #[.slice (some ⟨g, o, none⟩) (D.length + 2) cap] 31)) = V at *
    have HWS := Lib.hid (show (V.alloc (.cells #[.slice none 0 0] 31)).heap.size = V.heap.size + 1 from by simp)
    generalize (V.alloc (.cells #[.slice none 0 0] 31)) = W at *
    clear q0 q1 q2 q3 q4 q5
    have HB1 := Lib.hid ((Below.refl W.heap.size W).drew)
    refine wp_region_held (S := fun W' => Below W.heap.size W W') (by kernel_rfl) ?_
    change wpAnyH _ _ _ _ _ _ _ _ W.drew
    have HB := Lib.hid ((Below.refl W.heap.size W).drew)
    refine wpAnyH_take (i := 0) (v := ?_) rfl (by kernel_rfl) (by kernel_rfl) (by kernel_rfl) (fun _ _ _ h => h) (Or.inl ⟨by rfl, ?_⟩) HB.out ?_
    rotate_left
    · intro w' hw'
      obtain ⟨p0, -, pl⟩ := HP.out.below (HB0.out.trans (hw'.mono HB0.out.size)); obtain ⟨⟨q0, q1, q2⟩, q3, q4, q5⟩ := HF.out w' (HB0.out.trans (hw'.mono HB0.out.size))
      go_simp
      with_reducible rfl
    go_simp
    refine wpAnyH_take (i := 1) (v := ?_) rfl (by kernel_rfl) (by kernel_rfl) (by kernel_rfl) (fun _ _ _ h => h) (Or.inl ⟨by rfl, ?_⟩) HB.out ?_
    rotate_left
    · intro w' hw'
      obtain ⟨p0, -, pl⟩ := HP.out.below (HB0.out.trans (hw'.mono HB0.out.size)); obtain ⟨⟨q0, q1, q2⟩, q3, q4, q5⟩ := HF.out w' (HB0.out.trans (hw'.mono HB0.out.size))
      go_simp
      with_reducible rfl
    go_simp
    refine wpAnyH_take (i := 2) (v := ?_) rfl (by kernel_rfl) (by kernel_rfl) (by kernel_rfl) (fun _ _ _ h => h) (Or.inl ⟨by rfl, ?_⟩) HB.out ?_
    rotate_left
    · intro w' hw'
      obtain ⟨p0, -, pl⟩ := HP.out.below (HB0.out.trans (hw'.mono HB0.out.size)); obtain ⟨⟨q0, q1, q2⟩, q3, q4, q5⟩ := HF.out w' (HB0.out.trans (hw'.mono HB0.out.size))
      go_simp
      with_reducible rfl
    go_simp
    refine wpAnyH_take (i := 3) (v := ?_) rfl (by kernel_rfl) (by kernel_rfl) (by kernel_rfl) (fun _ _ _ h => h) (Or.inl ⟨by rfl, ?_⟩) HB.out ?_
    rotate_left
    · intro w' hw'
      obtain ⟨p0, -, pl⟩ := HP.out.below (HB0.out.trans (hw'.mono HB0.out.size)); obtain ⟨⟨q0, q1, q2⟩, q3, q4, q5⟩ := HF.out w' (HB0.out.trans (hw'.mono HB0.out.size))
      go_simp
      with_reducible rfl
    go_simp
    refine wpAnyH_take (i := 4) (v := ?_) rfl (by kernel_rfl) (by kernel_rfl) (by kernel_rfl) (fun _ _ _ h => h) (Or.inl ⟨by rfl, ?_⟩) HB.out ?_
    rotate_left
    · intro w' hw'
      obtain ⟨p0, -, pl⟩ := HP.out.below (HB0.out.trans (hw'.mono HB0.out.size)); obtain ⟨⟨q0, q1, q2⟩, q3, q4, q5⟩ := HF.out w' (HB0.out.trans (hw'.mono HB0.out.size))
      go_simp
      with_reducible rfl
    go_simp
    refine wpAnyH_take (i := 5) (v := ?_) rfl (by kernel_rfl) (by kernel_rfl) (by kernel_rfl) (fun _ _ _ h => h) (Or.inl ⟨by rfl, ?_⟩) HB.out ?_
    rotate_left
    · intro w' hw'
      obtain ⟨p0, -, pl⟩ := HP.out.below (HB0.out.trans (hw'.mono HB0.out.size)); obtain ⟨⟨q0, q1, q2⟩, q3, q4, q5⟩ := HF.out w' (HB0.out.trans (hw'.mono HB0.out.size))
      go_simp
      with_reducible rfl
    go_simp
    refine wpAnyH_take (i := 6) (v := ?_) rfl (by kernel_rfl) (by kernel_rfl) (by kernel_rfl) (fun _ _ _ h => h) (Or.inl ⟨by rfl, ?_⟩) HB.out ?_
    rotate_left
    · intro w' hw'
      obtain ⟨p0, -, pl⟩ := HP.out.below (HB0.out.trans (hw'.mono HB0.out.size)); obtain ⟨⟨q0, q1, q2⟩, q3, q4, q5⟩ := HF.out w' (HB0.out.trans (hw'.mono HB0.out.size))
      go_simp
      with_reducible rfl
    go_simp
    refine wpAnyH_take (i := 7) (v := ?_) rfl (by kernel_rfl) (by kernel_rfl) (by kernel_rfl) (fun _ _ _ h => h) (Or.inl ⟨by rfl, ?_⟩) HB.out ?_
    rotate_left
    · intro w' hw'
      obtain ⟨p0, -, pl⟩ := HP.out.below (HB0.out.trans (hw'.mono HB0.out.size)); obtain ⟨⟨q0, q1, q2⟩, q3, q4, q5⟩ := HF.out w' (HB0.out.trans (hw'.mono HB0.out.size))
      go_simp
      with_reducible rfl
    go_simp
    refine wpAnyH_take (i := 8) (v := ?_) rfl (by kernel_rfl) (by kernel_rfl) (by kernel_rfl) (fun _ _ _ h => h) (Or.inl ⟨by rfl, ?_⟩) HB.out ?_
    rotate_left
    · intro w' hw'
      obtain ⟨p0, -, pl⟩ := HP.out.below (HB0.out.trans (hw'.mono HB0.out.size)); obtain ⟨⟨q0, q1, q2⟩, q3, q4, q5⟩ := HF.out w' (HB0.out.trans (hw'.mono HB0.out.size))
      go_simp
      with_reducible rfl
    go_simp
    refine wpAnyH_take (i := 9) (v := ?_) rfl (by kernel_rfl) (by kernel_rfl) (by kernel_rfl) (fun _ _ _ h => h) (Or.inl ⟨by rfl, ?_⟩) HB.out ?_
    rotate_left
    · intro w' hw'
      obtain ⟨p0, -, pl⟩ := HP.out.below (HB0.out.trans (hw'.mono HB0.out.size)); obtain ⟨⟨q0, q1, q2⟩, q3, q4, q5⟩ := HF.out w' (HB0.out.trans (hw'.mono HB0.out.size))
      go_simp
      with_reducible rfl
    go_simp
    refine wpAnyH_take (i := 10) (v := ?_) rfl (by kernel_rfl) (by kernel_rfl) (by kernel_rfl) (fun _ _ _ h => h) (Or.inl ⟨by rfl, ?_⟩) HB.out ?_
    rotate_left
    · intro w' hw'
      obtain ⟨p0, -, pl⟩ := HP.out.below (HB0.out.trans (hw'.mono HB0.out.size)); obtain ⟨⟨q0, q1, q2⟩, q3, q4, q5⟩ := HF.out w' (HB0.out.trans (hw'.mono HB0.out.size))
      go_simp
      with_reducible rfl
    go_simp
    refine wpAnyH_take (i := 11) (v := ?_) rfl (by kernel_rfl) (by kernel_rfl) (by kernel_rfl) (fun _ _ _ h => h) (Or.inl ⟨by rfl, ?_⟩) HB.out ?_
    rotate_left
    · intro w' hw'
      obtain ⟨p0, -, pl⟩ := HP.out.below (HB0.out.trans (hw'.mono HB0.out.size)); obtain ⟨⟨q0, q1, q2⟩, q3, q4, q5⟩ := HF.out w' (HB0.out.trans (hw'.mono HB0.out.size))
      go_simp
      with_reducible rfl
    go_simp
    refine wpAnyH_take (i := 12) (v := ?_) rfl (by kernel_rfl) (by kernel_rfl) (by kernel_rfl) (fun _ _ _ h => h) (Or.inl ⟨by rfl, ?_⟩) HB.out ?_
    rotate_left
    · intro w' hw'
      obtain ⟨p0, -, pl⟩ := HP.out.below (HB0.out.trans (hw'.mono HB0.out.size)); obtain ⟨⟨q0, q1, q2⟩, q3, q4, q5⟩ := HF.out w' (HB0.out.trans (hw'.mono HB0.out.size))
      go_simp
      with_reducible rfl
    go_simp
    refine wpAnyH_take (i := 13) (v := ?_) rfl (by kernel_rfl) (by kernel_rfl) (by kernel_rfl) (fun _ _ _ h => h) (Or.inl ⟨by rfl, ?_⟩) HB.out ?_
    rotate_left
    · intro w' hw'
      obtain ⟨p0, -, pl⟩ := HP.out.below (HB0.out.trans (hw'.mono HB0.out.size)); obtain ⟨⟨q0, q1, q2⟩, q3, q4, q5⟩ := HF.out w' (HB0.out.trans (hw'.mono HB0.out.size))
      go_simp
      with_reducible rfl
    go_simp
    refine wpAnyH_take (i := 14) (v := ?_) rfl (by kernel_rfl) (by kernel_rfl) (by kernel_rfl) (fun _ _ _ h => h) (Or.inl ⟨by rfl, ?_⟩) HB.out ?_
    rotate_left
    · intro w' hw'
      obtain ⟨p0, -, pl⟩ := HP.out.below (HB0.out.trans (hw'.mono HB0.out.size)); obtain ⟨⟨q0, q1, q2⟩, q3, q4, q5⟩ := HF.out w' (HB0.out.trans (hw'.mono HB0.out.size))
      go_simp
      with_reducible rfl
    go_simp
    refine wpAnyH_ready (rs := [15, 17]) (by kernel_rfl) (by simp) ?_
    refine AllReadyH.cons rfl (fun K hK => ?_) (AllReadyH.cons rfl (fun K hK => ?_) AllReadyH.nil)
    · go_simp
      have HB := Lib.hid ((((Below.refl W.heap.size W).alloc (Nat.le_refl _) (.cells #[.string yb, .int .i64 yn, .bool ym, .string xb, .int .i64 xn, .bool (!ym)] 50))).drew)
      refine hK.out _ _ HB.out (fun _ => ?_)
      clear hK K
      refine wpAnyH_take (i := 16) (v := ?_) rfl (by kernel_rfl) (by kernel_rfl) (by kernel_rfl) (fun _ _ _ h => h) (Or.inl ⟨by rfl, ?_⟩) HB.out ?_
      rotate_left
      · intro w' hw'
        go_simp
        with_reducible rfl
      go_simp
      refine wpAnyH_ready (rs := [17]) (by kernel_rfl) (by simp) ?_
      refine AllReadyH.cons rfl (fun K hK => ?_) AllReadyH.nil
      go_simp
      have HB := Lib.hid (((((Below.refl W.heap.size W).alloc (Nat.le_refl _) (.cells #[.string yb, .int .i64 yn, .bool ym, .string xb, .int .i64 xn, .bool (!ym)] 50))).alloc (by simp) (.cells #[.slice none 0 0] 31)).drew)
      refine hK.out _ _ HB.out (fun _ => ?_)
      clear hK K
      refine wpAnyH_ready (rs := [18]) (by kernel_rfl) (by simp) ?_
      refine AllReadyH.cons rfl (fun K hK => ?_) AllReadyH.nil
      go_simp
      have HB := Lib.hid (((((Below.refl W.heap.size W).alloc (Nat.le_refl _) (.cells #[.string yb, .int .i64 yn, .bool ym, .string xb, .int .i64 xn, .bool (!ym)] 50))).alloc (by simp) (.cells #[.slice (some ⟨W.heap.size, 0, none⟩) 2 2] 31)).drew)
      refine hK.out _ _ HB.out (fun _ => ?_)
      clear hK K
      refine wpAnyH_done (by kernel_rfl) ?_ _
      have HO := Lib.hid (rback_A (V := V) HB0.out yb xb yn xn ym (!ym))
      have HR1 := Lib.hid (HR.out.below HB.out)
      have HP1 := Lib.hid (HP.out.below (HB0.out.trans (HB.out.mono HB0.out.size)))
      clear HB HB1 HR
      generalize (((W.alloc (.cells #[.string yb, .int .i64 yn, .bool ym, .string xb, .int .i64 xn, .bool (!ym)] 50)).alloc (.cells #[.slice (some ⟨W.heap.size, 0, none⟩) 2 2] 31)).drew) = W1 at *
      have hms : (W.heap.size + 1) ≠ w.heap.size ∧ (W.heap.size + 1) ≠ w.heap.size + 1 := by have := HB0.out.size; have := HR1.out.lt; have e := HS.out; have h2 := HWS.out; constructor <;> omega
      have hBb : w.heap.size + 1 < W.heap.size ∧ w.heap.size < W.heap.size := by have e := HS.out; have h2 := HWS.out; constructor <;> omega
      generalize W.heap.size = Bb at *
      generalize hm : Bb + 1 = m at *
      clear hm
      obtain ⟨p0, -, pl⟩ := HP1.out
      go_wp2
      clear p0 pl
      go_loopw [5] (fun i wx => ∃ p : Nat, 1 ≤ p ∧ p ≤ D.length + 1 ∧ i = .int .i64 p ∧ ∃ tv, Hid (OutAt V wx Bb m 0 50 tv ([(yb, yn, ym), (xb, xn, (!ym))] ++ RD.take (D.length + 1 - p)) ∧ KeepAt wx (w.heap.size + 1) 0 (.slice none 0 0) ∧ KeepAt wx w.heap.size 0 (.slice (some ⟨g, o, none⟩) (D.length + 2) cap))) (fun i _ => (intOf i).toNat)
      case atStart => exact ⟨D.length + 1, by omega, by omega, by go_num, _, by rw [HT0.out]; exact HO.out, HR1.out, HP1.out⟩
      case round =>
        obtain ⟨p, hp1, hp, rfl, tv, HQ⟩ := hrel
        clear HO HR1 HP1
        have HO := Lib.hid HQ.out.1
        have HR1 := Lib.hid HQ.out.2.1
        have HP1 := Lib.hid HQ.out.2.2
        clear HQ
        obtain ⟨ta, tn, tc, htv⟩ := HO.out.own.form
        by_cases h2 : 2 ≤ p
        · have dk : decide ((2 : Int) ≤ (p : Int)) = true := decide_eq_true (by omega)
          obtain ⟨b, n, hT, hc⟩ := HG.out p h2 hp
          have HT := Lib.hid (show ([(yb, yn, ym), (xb, xn, (!ym))] ++ RD.take (D.length + 1 - p)) ++ [(b, n, false)] = [(yb, yn, ym), (xb, xn, (!ym))] ++ RD.take (D.length + 1 - (p - 1)) from by rw [hT, List.append_assoc])
          have HCB := Lib.hid hc
          have HL := Lib.hid (show ([(yb, yn, ym), (xb, xn, (!ym))] ++ RD.take (D.length + 1 - p)).length + 1 ≤ 100000 from by have := HTK.out (D.length + 1 - p); rw [List.length_append]; simp only [List.length_cons, List.length_nil]; omega)
          clear hT hc
          generalize ([(yb, yn, ym), (xb, xn, (!ym))] ++ RD.take (D.length + 1 - p)) = LL at *
          have bp : (p : Int) < (D.length : Int) + 2 := by omega
          subst htv
          go_wp2
          refine wp_region_held (S := fun W' => Below V.heap.size V W') (by kernel_rfl) ?_
          change wpAnyH _ _ _ _ _ _ _ _ wr.drew
          have HB := Lib.hid (HO.out.bel.drew)
          refine wpAnyH_take (i := 0) (v := ?_) rfl (by kernel_rfl) (by kernel_rfl) (by kernel_rfl) (fun _ _ _ h => h) (Or.inl ⟨by rfl, ?_⟩) HB.out ?_
          rotate_left
          · intro w' hw'
            obtain ⟨p0, -, pl⟩ := HP.out.below hw'; obtain ⟨c0, c1⟩ := HCB.out w' hw'
            go_simp
            with_reducible rfl
          go_simp
          refine wpAnyH_take (i := 2) (v := ?_) rfl (by kernel_rfl) (by kernel_rfl) (by kernel_rfl) (fun _ _ _ h => h) (Or.inl ⟨by rfl, ?_⟩) HB.out ?_
          rotate_left
          · intro w' hw'
            obtain ⟨p0, -, pl⟩ := HP.out.below hw'; obtain ⟨c0, c1⟩ := HCB.out w' hw'
            go_simp
            with_reducible rfl
          go_simp
          refine wpAnyH_take (i := 3) (v := ?_) rfl (by kernel_rfl) (by kernel_rfl) (by kernel_rfl) (fun _ _ _ h => h) (Or.inl ⟨by rfl, ?_⟩) HB.out ?_
          rotate_left
          · intro w' hw'
            obtain ⟨p0, -, pl⟩ := HP.out.below hw'; obtain ⟨c0, c1⟩ := HCB.out w' hw'
            go_simp
            with_reducible rfl
          go_simp
          refine wpAnyH_take (i := 4) (v := ?_) rfl (by kernel_rfl) (by kernel_rfl) (by kernel_rfl) (fun _ _ _ h => h) (Or.inl ⟨by rfl, ?_⟩) HB.out ?_
          rotate_left
          · intro w' hw'
            obtain ⟨p0, -, pl⟩ := HP.out.below hw'; obtain ⟨c0, c1⟩ := HCB.out w' hw'
            go_simp
            with_reducible rfl
          go_simp
          refine wpAnyH_take (i := 5) (v := ?_) rfl (by kernel_rfl) (by kernel_rfl) (by kernel_rfl) (fun _ _ _ h => h) (Or.inl ⟨by rfl, ?_⟩) HB.out ?_
          rotate_left
          · intro w' hw'
            obtain ⟨p0, -, pl⟩ := HP.out.below hw'; obtain ⟨c0, c1⟩ := HCB.out w' hw'
            go_simp
            with_reducible rfl
          go_simp
          refine wpAnyH_take (i := 6) (v := ?_) rfl (by kernel_rfl) (by kernel_rfl) (by kernel_rfl) (fun _ _ _ h => h) (Or.inl ⟨by rfl, ?_⟩) HB.out ?_
          rotate_left
          · intro w' hw'
            obtain ⟨p0, -, pl⟩ := HP.out.below hw'; obtain ⟨c0, c1⟩ := HCB.out w' hw'
            go_simp
            with_reducible rfl
          go_simp
          refine wpAnyH_take (i := 7) (v := ?_) rfl (by kernel_rfl) (by kernel_rfl) (by kernel_rfl) (fun _ _ _ h => h) (Or.inl ⟨by rfl, ?_⟩) HB.out ?_
          rotate_left
          · intro w' hw'
            obtain ⟨p0, -, pl⟩ := HP.out.below hw'; obtain ⟨c0, c1⟩ := HCB.out w' hw'
            go_simp
            with_reducible rfl
          go_simp
          refine wpAnyH_take (i := 8) (v := ?_) rfl (by kernel_rfl) (by kernel_rfl) (by kernel_rfl) (fun _ _ _ h => h) (Or.inl ⟨by rfl, ?_⟩) HB.out ?_
          rotate_left
          · intro w' hw'
            obtain ⟨p0, -, pl⟩ := HP.out.below hw'; obtain ⟨c0, c1⟩ := HCB.out w' hw'
            go_simp
            with_reducible rfl
          go_simp
          have O2 := Lib.hid ((HO.out.alloc (.cells #[.string b, .int .i64 n, .bool false] 50)).drew)
          have K2 := Lib.hid (show KeepAt (wr.alloc (.cells #[.string b, .int .i64 n, .bool false] 50)).drew (w.heap.size + 1) 0 (.slice none 0 0) ∧ KeepAt (wr.alloc (.cells #[.string b, .int .i64 n, .bool false] 50)).drew w.heap.size 0 (.slice (some ⟨g, o, none⟩) (D.length + 2) cap) from ⟨(HR1.out.alloc _).drew, (HP1.out.alloc _).drew⟩)
          have N2 := Lib.hid ((EntsAt.new1 wr wr.heap.size rfl b n false 50).drew)
          have HGR := Lib.hid (fun w1 v' => O2.out.grown (w1 := w1) (v' := v') (L' := LL ++ [(b, n, false)]))
          refine wpAnyH_ready (rs := [1, 9]) (by kernel_rfl) (by simp) ?_
          refine AllReadyH.cons rfl (fun K hK => ?_) (AllReadyH.cons rfl (fun K hK => ?_) AllReadyH.nil)
          · have y0 := HO.out.cell
            go_simp
            refine hK.out _ _ HB.out (fun _ => ?_)
            clear hK K y0
            refine wpAnyH_ready (rs := [9]) (by kernel_rfl) (by simp) ?_
            refine AllReadyH.cons rfl (fun K hK => ?_) AllReadyH.nil
            go_simp
            have HB := Lib.hid O2.out.bel
            refine hK.out _ _ HB.out (fun _ => ?_)
            clear hK K
            refine wpAnyH_ready (rs := [10]) (by kernel_rfl) (by simp) ?_
            refine AllReadyH.cons rfl (fun K hK => ?_) AllReadyH.nil
            rw [if_pos (by kernel_rfl)]
            unfold Oper.wp
            refine wp_append_ents infoE Tryd.underlying29 _ (.tmp 45) (.tmp 53) rfl Bb (.slice ta tn tc) LL [(b, n, false)] rfl O2.out.own (some ⟨wr.heap.size, 0, none⟩) 1 rfl N2.out HL.out O2.out.bw ?_
            intro v' w4 hown hgr hov
            have HB := Lib.hid (O2.out.bel.grown hgr O2.out.bel.size (fun k hk => Nat.le_trans O2.out.base (O2.out.own.ge hk).1))
            obtain ⟨⟨va, vn, vc, rfl⟩, hc1, hf1, hs1, hO1, hB1⟩ := HGR.out w4 v' hown hgr hov
            have HO4 := Lib.hid hO1
            have HR4 := Lib.hid ((K2.out.1.block (W' := w4) (hB1 _ hBb.1) hs1).other (g := m) (p := 0) (.slice va vn vc) hms.2)
            have HP4 := Lib.hid ((K2.out.2.block (W' := w4) (hB1 _ hBb.2) hs1).other (g := m) (p := 0) (.slice va vn vc) hms.1)
            have hml4 : m < w4.heap.size := Nat.lt_of_lt_of_le O2.out.lt hs1
            clear hown hgr hov hO1 hB1
            go_simp
            refine hK.out _ _ HB.out (fun _ => ?_)
            clear hK K
            refine wpAnyH_take (i := 11) (v := ?_) rfl (by kernel_rfl) (by kernel_rfl) (by kernel_rfl) (fun _ _ _ h => h) (Or.inl ⟨by rfl, ?_⟩) HB.out ?_
            rotate_left
            · intro w' hw'
              go_simp
              with_reducible rfl
            go_simp
            refine wpAnyH_ready (rs := [12]) (by kernel_rfl) (by simp) ?_
            refine AllReadyH.cons rfl (fun K hK => ?_) AllReadyH.nil
            go_simp
            have HB := Lib.hid HO4.out.bel
            refine hK.out _ _ HB.out (fun _ => ?_)
            clear hK K
            refine wpAnyH_done (by kernel_rfl) ?_ _
            clear HB HGR O2 K2 N2 HO HR1 HP1 HCB hc1 hf1
            generalize w4.setCell ⟨m, 0, none⟩ (.slice va vn vc) = w5 at *
            go_wp2
            go_roundw
            case rel => exact ⟨p - 1, by omega, by omega, by congr 1; omega, _, HT.out ▸ HO4.out, HR4.out, HP4.out⟩
            case measure => simp [intOf]; omega
          · go_simp
            have HB := Lib.hid O2.out.bel
            refine hK.out _ _ HB.out (fun _ => ?_)
            clear hK K
            have y0 := O2.out.cell
            refine wpAnyH_ready (rs := [1]) (by kernel_rfl) (by simp) ?_
            refine AllReadyH.cons rfl (fun K hK => ?_) AllReadyH.nil
            go_simp
            clear y0
            refine hK.out _ _ HB.out (fun _ => ?_)
            clear hK K
            refine wpAnyH_ready (rs := [10]) (by kernel_rfl) (by simp) ?_
            refine AllReadyH.cons rfl (fun K hK => ?_) AllReadyH.nil
            rw [if_pos (by kernel_rfl)]
            unfold Oper.wp
            refine wp_append_ents infoE Tryd.underlying29 _ (.tmp 45) (.tmp 53) rfl Bb (.slice ta tn tc) LL [(b, n, false)] rfl O2.out.own (some ⟨wr.heap.size, 0, none⟩) 1 rfl N2.out HL.out O2.out.bw ?_
            intro v' w4 hown hgr hov
            have HB := Lib.hid (O2.out.bel.grown hgr O2.out.bel.size (fun k hk => Nat.le_trans O2.out.base (O2.out.own.ge hk).1))
            obtain ⟨⟨va, vn, vc, rfl⟩, hc1, hf1, hs1, hO1, hB1⟩ := HGR.out w4 v' hown hgr hov
            have HO4 := Lib.hid hO1
            have HR4 := Lib.hid ((K2.out.1.block (W' := w4) (hB1 _ hBb.1) hs1).other (g := m) (p := 0) (.slice va vn vc) hms.2)
            have HP4 := Lib.hid ((K2.out.2.block (W' := w4) (hB1 _ hBb.2) hs1).other (g := m) (p := 0) (.slice va vn vc) hms.1)
            have hml4 : m < w4.heap.size := Nat.lt_of_lt_of_le O2.out.lt hs1
            clear hown hgr hov hO1 hB1
            go_simp
            refine hK.out _ _ HB.out (fun _ => ?_)
            clear hK K
            refine wpAnyH_take (i := 11) (v := ?_) rfl (by kernel_rfl) (by kernel_rfl) (by kernel_rfl) (fun _ _ _ h => h) (Or.inl ⟨by rfl, ?_⟩) HB.out ?_
            rotate_left
            · intro w' hw'
              go_simp
              with_reducible rfl
            go_simp
            refine wpAnyH_ready (rs := [12]) (by kernel_rfl) (by simp) ?_
            refine AllReadyH.cons rfl (fun K hK => ?_) AllReadyH.nil
            go_simp
            have HB := Lib.hid HO4.out.bel
            refine hK.out _ _ HB.out (fun _ => ?_)
            clear hK K
            refine wpAnyH_done (by kernel_rfl) ?_ _
            clear HB HGR O2 K2 N2 HO HR1 HP1 HCB hc1 hf1
            generalize w4.setCell ⟨m, 0, none⟩ (.slice va vn vc) = w5 at *
            go_wp2
            go_roundw
            case rel => exact ⟨p - 1, by omega, by omega, by congr 1; omega, _, HT.out ▸ HO4.out, HR4.out, HP4.out⟩
            case measure => simp [intOf]; omega
        · obtain rfl : p = 1 := by omega
          have dk : decide ((2 : Int) ≤ 1) = false := by decide
          rw [HTL.out] at HO
          have hmc := HO.out.cell
          have hmf := HO.out.free
          have hml := HO.out.lt
          obtain ⟨kc, kf, kl⟩ := HR1.out
          subst htv
          have z0 := set_here (v := .slice ta tn tc) kc
          have HX := Lib.hid (And.intro (HO.out.own.grown (grown_set (grown_refl wr (some (w.heap.size + 1))) (o := 0) (.slice ta tn tc)) (fun g' hv e => by have := (HO.out.own.ge hv).1; have e' : w.heap.size + 1 = g' := Option.some.inj e; have := hBb.1; omega)) (HO.out.bel.setCell (p := ⟨w.heap.size + 1, 0, none⟩) (by show V.heap.size ≤ w.heap.size + 1; have := HS.out; omega) (.slice ta tn tc)))
          go_wp2
          exact bodyPost_ret (v := .agg #[.slice ta tn tc]) (by simp [results, Tryd.results30, go_sem, z0]) rfl ⟨⟨_, rfl, (show Ents _ _ _ from by rw [show cmdD (xb, xn, true) (yb, yn, ym) = !ym from rfl, Bool.not_not]; exact HX.out.1.ents)⟩, HV.out.trans (HX.out.2.mono (by have := HS.out; omega))⟩
    · go_simp
      have HB := Lib.hid ((((Below.refl W.heap.size W).alloc (Nat.le_refl _) (.cells #[.slice none 0 0] 31))).drew)
      refine hK.out _ _ HB.out (fun _ => ?_)
      clear hK K
      refine wpAnyH_ready (rs := [15]) (by kernel_rfl) (by simp) ?_
      refine AllReadyH.cons rfl (fun K hK => ?_) AllReadyH.nil
      go_simp
      have HB := Lib.hid (((((Below.refl W.heap.size W).alloc (Nat.le_refl _) (.cells #[.slice none 0 0] 31))).alloc (by simp) (.cells #[.string yb, .int .i64 yn, .bool ym, .string xb, .int .i64 xn, .bool (!ym)] 50)).drew)
      refine hK.out _ _ HB.out (fun _ => ?_)
      clear hK K
      refine wpAnyH_take (i := 16) (v := ?_) rfl (by kernel_rfl) (by kernel_rfl) (by kernel_rfl) (fun _ _ _ h => h) (Or.inl ⟨by rfl, ?_⟩) HB.out ?_
      rotate_left
      · intro w' hw'
        go_simp
        with_reducible rfl
      go_simp
      refine wpAnyH_ready (rs := [18]) (by kernel_rfl) (by simp) ?_
      refine AllReadyH.cons rfl (fun K hK => ?_) AllReadyH.nil
      go_simp
      have HB := Lib.hid (((((Below.refl W.heap.size W).alloc (Nat.le_refl _) (.cells #[.slice (some ⟨W.heap.size + 1, 0, none⟩) 2 2] 31))).alloc (by simp) (.cells #[.string yb, .int .i64 yn, .bool ym, .string xb, .int .i64 xn, .bool (!ym)] 50)).drew)
      refine hK.out _ _ HB.out (fun _ => ?_)
      clear hK K
      refine wpAnyH_done (by kernel_rfl) ?_ _
      have HO := Lib.hid (rback_B (V := V) HB0.out yb xb yn xn ym (!ym))
      have HR1 := Lib.hid (HR.out.below HB.out)
      have HP1 := Lib.hid (HP.out.below (HB0.out.trans (HB.out.mono HB0.out.size)))
      clear HB HB1 HR
      generalize (((W.alloc (.cells #[.slice (some ⟨W.heap.size + 1, 0, none⟩) 2 2] 31)).alloc (.cells #[.string yb, .int .i64 yn, .bool ym, .string xb, .int .i64 xn, .bool (!ym)] 50)).drew) = W1 at *
      have hms : W.heap.size ≠ w.heap.size ∧ W.heap.size ≠ w.heap.size + 1 := by have := HB0.out.size; have := HR1.out.lt; have e := HS.out; have h2 := HWS.out; constructor <;> omega
      have hBb : w.heap.size + 1 < W.heap.size ∧ w.heap.size < W.heap.size := by have e := HS.out; have h2 := HWS.out; constructor <;> omega
      generalize W.heap.size = m at *
      obtain ⟨p0, -, pl⟩ := HP1.out
      go_wp2
      clear p0 pl
      go_loopw [5] (fun i wx => ∃ p : Nat, 1 ≤ p ∧ p ≤ D.length + 1 ∧ i = .int .i64 p ∧ ∃ tv, Hid (OutAt V wx m m 0 50 tv ([(yb, yn, ym), (xb, xn, (!ym))] ++ RD.take (D.length + 1 - p)) ∧ KeepAt wx (w.heap.size + 1) 0 (.slice none 0 0) ∧ KeepAt wx w.heap.size 0 (.slice (some ⟨g, o, none⟩) (D.length + 2) cap))) (fun i _ => (intOf i).toNat)
      case atStart => exact ⟨D.length + 1, by omega, by omega, by go_num, _, by rw [HT0.out]; exact HO.out, HR1.out, HP1.out⟩
      case round =>
        obtain ⟨p, hp1, hp, rfl, tv, HQ⟩ := hrel
        clear HO HR1 HP1
        have HO := Lib.hid HQ.out.1
        have HR1 := Lib.hid HQ.out.2.1
        have HP1 := Lib.hid HQ.out.2.2
        clear HQ
        obtain ⟨ta, tn, tc, htv⟩ := HO.out.own.form
        by_cases h2 : 2 ≤ p
        · have dk : decide ((2 : Int) ≤ (p : Int)) = true := decide_eq_true (by omega)
          obtain ⟨b, n, hT, hc⟩ := HG.out p h2 hp
          have HT := Lib.hid (show ([(yb, yn, ym), (xb, xn, (!ym))] ++ RD.take (D.length + 1 - p)) ++ [(b, n, false)] = [(yb, yn, ym), (xb, xn, (!ym))] ++ RD.take (D.length + 1 - (p - 1)) from by rw [hT, List.append_assoc])
          have HCB := Lib.hid hc
          have HL := Lib.hid (show ([(yb, yn, ym), (xb, xn, (!ym))] ++ RD.take (D.length + 1 - p)).length + 1 ≤ 100000 from by have := HTK.out (D.length + 1 - p); rw [List.length_append]; simp only [List.length_cons, List.length_nil]; omega)
          clear hT hc
          generalize ([(yb, yn, ym), (xb, xn, (!ym))] ++ RD.take (D.length + 1 - p)) = LL at *
          have bp : (p : Int) < (D.length : Int) + 2 := by omega
          subst htv
          go_wp2
          refine wp_region_held (S := fun W' => Below V.heap.size V W') (by kernel_rfl) ?_
          change wpAnyH _ _ _ _ _ _ _ _ wr.drew
          have HB := Lib.hid (HO.out.bel.drew)
          refine wpAnyH_take (i := 0) (v := ?_) rfl (by kernel_rfl) (by kernel_rfl) (by kernel_rfl) (fun _ _ _ h => h) (Or.inl ⟨by rfl, ?_⟩) HB.out ?_
          rotate_left
          · intro w' hw'
            obtain ⟨p0, -, pl⟩ := HP.out.below hw'; obtain ⟨c0, c1⟩ := HCB.out w' hw'
            go_simp
            with_reducible rfl
          go_simp
          refine wpAnyH_take (i := 2) (v := ?_) rfl (by kernel_rfl) (by kernel_rfl) (by kernel_rfl) (fun _ _ _ h => h) (Or.inl ⟨by rfl, ?_⟩) HB.out ?_
          rotate_left
          · intro w' hw'
            obtain ⟨p0, -, pl⟩ := HP.out.below hw'; obtain ⟨c0, c1⟩ := HCB.out w' hw'
            go_simp
            with_reducible rfl
          go_simp
          refine wpAnyH_take (i := 3) (v := ?_) rfl (by kernel_rfl) (by kernel_rfl) (by kernel_rfl) (fun _ _ _ h => h) (Or.inl ⟨by rfl, ?_⟩) HB.out ?_
          rotate_left
          · intro w' hw'
            obtain ⟨p0, -, pl⟩ := HP.out.below hw'; obtain ⟨c0, c1⟩ := HCB.out w' hw'
            go_simp
            with_reducible rfl
          go_simp
          refine wpAnyH_take (i := 4) (v := ?_) rfl (by kernel_rfl) (by kernel_rfl) (by kernel_rfl) (fun _ _ _ h => h) (Or.inl ⟨by rfl, ?_⟩) HB.out ?_
          rotate_left
          · intro w' hw'
            obtain ⟨p0, -, pl⟩ := HP.out.below hw'; obtain ⟨c0, c1⟩ := HCB.out w' hw'
            go_simp
            with_reducible rfl
          go_simp
          refine wpAnyH_take (i := 5) (v := ?_) rfl (by kernel_rfl) (by kernel_rfl) (by kernel_rfl) (fun _ _ _ h => h) (Or.inl ⟨by rfl, ?_⟩) HB.out ?_
          rotate_left
          · intro w' hw'
            obtain ⟨p0, -, pl⟩ := HP.out.below hw'; obtain ⟨c0, c1⟩ := HCB.out w' hw'
            go_simp
            with_reducible rfl
          go_simp
          refine wpAnyH_take (i := 6) (v := ?_) rfl (by kernel_rfl) (by kernel_rfl) (by kernel_rfl) (fun _ _ _ h => h) (Or.inl ⟨by rfl, ?_⟩) HB.out ?_
          rotate_left
          · intro w' hw'
            obtain ⟨p0, -, pl⟩ := HP.out.below hw'; obtain ⟨c0, c1⟩ := HCB.out w' hw'
            go_simp
            with_reducible rfl
          go_simp
          refine wpAnyH_take (i := 7) (v := ?_) rfl (by kernel_rfl) (by kernel_rfl) (by kernel_rfl) (fun _ _ _ h => h) (Or.inl ⟨by rfl, ?_⟩) HB.out ?_
          rotate_left
          · intro w' hw'
            obtain ⟨p0, -, pl⟩ := HP.out.below hw'; obtain ⟨c0, c1⟩ := HCB.out w' hw'
            go_simp
            with_reducible rfl
          go_simp
          refine wpAnyH_take (i := 8) (v := ?_) rfl (by kernel_rfl) (by kernel_rfl) (by kernel_rfl) (fun _ _ _ h => h) (Or.inl ⟨by rfl, ?_⟩) HB.out ?_
          rotate_left
          · intro w' hw'
            obtain ⟨p0, -, pl⟩ := HP.out.below hw'; obtain ⟨c0, c1⟩ := HCB.out w' hw'
            go_simp
            with_reducible rfl
          go_simp
          have O2 := Lib.hid ((HO.out.alloc (.cells #[.string b, .int .i64 n, .bool false] 50)).drew)
          have K2 := Lib.hid (show KeepAt (wr.alloc (.cells #[.string b, .int .i64 n, .bool false] 50)).drew (w.heap.size + 1) 0 (.slice none 0 0) ∧ KeepAt (wr.alloc (.cells #[.string b, .int .i64 n, .bool false] 50)).drew w.heap.size 0 (.slice (some ⟨g, o, none⟩) (D.length + 2) cap) from ⟨(HR1.out.alloc _).drew, (HP1.out.alloc _).drew⟩)
          have N2 := Lib.hid ((EntsAt.new1 wr wr.heap.size rfl b n false 50).drew)
          have HGR := Lib.hid (fun w1 v' => O2.out.grown (w1 := w1) (v' := v') (L' := LL ++ [(b, n, false)]))
          refine wpAnyH_ready (rs := [1, 9]) (by kernel_rfl) (by simp) ?_
          refine AllReadyH.cons rfl (fun K hK => ?_) (AllReadyH.cons rfl (fun K hK => ?_) AllReadyH.nil)
          · have y0 := HO.out.cell
            go_simp
            refine hK.out _ _ HB.out (fun _ => ?_)
            clear hK K y0
            refine wpAnyH_ready (rs := [9]) (by kernel_rfl) (by simp) ?_
            refine AllReadyH.cons rfl (fun K hK => ?_) AllReadyH.nil
            go_simp
            have HB := Lib.hid O2.out.bel
            refine hK.out _ _ HB.out (fun _ => ?_)
            clear hK K
            refine wpAnyH_ready (rs := [10]) (by kernel_rfl) (by simp) ?_
            refine AllReadyH.cons rfl (fun K hK => ?_) AllReadyH.nil
            rw [if_pos (by kernel_rfl)]
            unfold Oper.wp
            refine wp_append_ents infoE Tryd.underlying29 _ (.tmp 45) (.tmp 53) rfl m (.slice ta tn tc) LL [(b, n, false)] rfl O2.out.own (some ⟨wr.heap.size, 0, none⟩) 1 rfl N2.out HL.out O2.out.bw ?_
            intro v' w4 hown hgr hov
            have HB := Lib.hid (O2.out.bel.grown hgr O2.out.bel.size (fun k hk => Nat.le_trans O2.out.base (O2.out.own.ge hk).1))
            obtain ⟨⟨va, vn, vc, rfl⟩, hc1, hf1, hs1, hO1, hB1⟩ := HGR.out w4 v' hown hgr hov
            have HO4 := Lib.hid hO1
            have HR4 := Lib.hid ((K2.out.1.block (W' := w4) (hB1 _ hBb.1) hs1).other (g := m) (p := 0) (.slice va vn vc) hms.2)
            have HP4 := Lib.hid ((K2.out.2.block (W' := w4) (hB1 _ hBb.2) hs1).other (g := m) (p := 0) (.slice va vn vc) hms.1)
            have hml4 : m < w4.heap.size := Nat.lt_of_lt_of_le O2.out.lt hs1
            clear hown hgr hov hO1 hB1
            go_simp
            refine hK.out _ _ HB.out (fun _ => ?_)
            clear hK K
            refine wpAnyH_take (i := 11) (v := ?_) rfl (by kernel_rfl) (by kernel_rfl) (by kernel_rfl) (fun _ _ _ h => h) (Or.inl ⟨by rfl, ?_⟩) HB.out ?_
            rotate_left
            · intro w' hw'
              go_simp
              with_reducible rfl
            go_simp
            refine wpAnyH_ready (rs := [12]) (by kernel_rfl) (by simp) ?_
            refine AllReadyH.cons rfl (fun K hK => ?_) AllReadyH.nil
            go_simp
            have HB := Lib.hid HO4.out.bel
            refine hK.out _ _ HB.out (fun _ => ?_)
            clear hK K
            refine wpAnyH_done (by kernel_rfl) ?_ _
            clear HB HGR O2 K2 N2 HO HR1 HP1 HCB hc1 hf1
            generalize w4.setCell ⟨m, 0, none⟩ (.slice va vn vc) = w5 at *
            go_wp2
            go_roundw
            case rel => exact ⟨p - 1, by omega, by omega, by congr 1; omega, _, HT.out ▸ HO4.out, HR4.out, HP4.out⟩
            case measure => simp [intOf]; omega
          · go_simp
            have HB := Lib.hid O2.out.bel
            refine hK.out _ _ HB.out (fun _ => ?_)
            clear hK K
            have y0 := O2.out.cell
            refine wpAnyH_ready (rs := [1]) (by kernel_rfl) (by simp) ?_
            refine AllReadyH.cons rfl (fun K hK => ?_) AllReadyH.nil
            go_simp
            clear y0
            refine hK.out _ _ HB.out (fun _ => ?_)
            clear hK K
            refine wpAnyH_ready (rs := [10]) (by kernel_rfl) (by simp) ?_
            refine AllReadyH.cons rfl (fun K hK => ?_) AllReadyH.nil
            rw [if_pos (by kernel_rfl)]
            unfold Oper.wp
            refine wp_append_ents infoE Tryd.underlying29 _ (.tmp 45) (.tmp 53) rfl m (.slice ta tn tc) LL [(b, n, false)] rfl O2.out.own (some ⟨wr.heap.size, 0, none⟩) 1 rfl N2.out HL.out O2.out.bw ?_
            intro v' w4 hown hgr hov
            have HB := Lib.hid (O2.out.bel.grown hgr O2.out.bel.size (fun k hk => Nat.le_trans O2.out.base (O2.out.own.ge hk).1))
            obtain ⟨⟨va, vn, vc, rfl⟩, hc1, hf1, hs1, hO1, hB1⟩ := HGR.out w4 v' hown hgr hov
            have HO4 := Lib.hid hO1
            have HR4 := Lib.hid ((K2.out.1.block (W' := w4) (hB1 _ hBb.1) hs1).other (g := m) (p := 0) (.slice va vn vc) hms.2)
            have HP4 := Lib.hid ((K2.out.2.block (W' := w4) (hB1 _ hBb.2) hs1).other (g := m) (p := 0) (.slice va vn vc) hms.1)
            have hml4 : m < w4.heap.size := Nat.lt_of_lt_of_le O2.out.lt hs1
            clear hown hgr hov hO1 hB1
            go_simp
            refine hK.out _ _ HB.out (fun _ => ?_)
            clear hK K
            refine wpAnyH_take (i := 11) (v := ?_) rfl (by kernel_rfl) (by kernel_rfl) (by kernel_rfl) (fun _ _ _ h => h) (Or.inl ⟨by rfl, ?_⟩) HB.out ?_
            rotate_left
            · intro w' hw'
              go_simp
              with_reducible rfl
            go_simp
            refine wpAnyH_ready (rs := [12]) (by kernel_rfl) (by simp) ?_
            refine AllReadyH.cons rfl (fun K hK => ?_) AllReadyH.nil
            go_simp
            have HB := Lib.hid HO4.out.bel
            refine hK.out _ _ HB.out (fun _ => ?_)
            clear hK K
            refine wpAnyH_done (by kernel_rfl) ?_ _
            clear HB HGR O2 K2 N2 HO HR1 HP1 HCB hc1 hf1
            generalize w4.setCell ⟨m, 0, none⟩ (.slice va vn vc) = w5 at *
            go_wp2
            go_roundw
            case rel => exact ⟨p - 1, by omega, by omega, by congr 1; omega, _, HT.out ▸ HO4.out, HR4.out, HP4.out⟩
            case measure => simp [intOf]; omega
        · obtain rfl : p = 1 := by omega
          have dk : decide ((2 : Int) ≤ 1) = false := by decide
          rw [HTL.out] at HO
          have hmc := HO.out.cell
          have hmf := HO.out.free
          have hml := HO.out.lt
          obtain ⟨kc, kf, kl⟩ := HR1.out
          subst htv
          have z0 := set_here (v := .slice ta tn tc) kc
          have HX := Lib.hid (And.intro (HO.out.own.grown (grown_set (grown_refl wr (some (w.heap.size + 1))) (o := 0) (.slice ta tn tc)) (fun g' hv e => by have := (HO.out.own.ge hv).1; have e' : w.heap.size + 1 = g' := Option.some.inj e; have := hBb.1; omega)) (HO.out.bel.setCell (p := ⟨w.heap.size + 1, 0, none⟩) (by show V.heap.size ≤ w.heap.size + 1; have := HS.out; omega) (.slice ta tn tc)))
          go_wp2
          exact bodyPost_ret (v := .agg #[.slice ta tn tc]) (by simp [results, Tryd.results30, go_sem, z0]) rfl ⟨⟨_, rfl, (show Ents _ _ _ from by rw [show cmdD (xb, xn, true) (yb, yn, ym) = !ym from rfl, Bool.not_not]; exact HX.out.1.ents)⟩, HV.out.trans (HX.out.2.mono (by have := HS.out; omega))⟩
end Go.Proofs.YtfmcngchcalcmaaDoor
