/-
The landed code's read: the control of a kind out of its bytes.
-/
import Derived.Test.YtfmcngchcalcmaaDoorCtlCFind
import Derived.Test.YtfmcngchcalcmaaDoorCtlCells
import Derived.BigRegion
import Derived.IntWalk
namespace Go.Proofs.YtfmcngchcalcmaaDoor
open Go.RowKit
set_option maxRecDepth 20000
theorem ix1 (x : UInt8) (h : 0 < (⟨#[x]⟩ : ByteArray).size) : (⟨#[x]⟩ : ByteArray)[0]'h = x := rfl
/-- what read makes of one byte -/
def read1V (k : Int) (x : UInt8) : Value := .agg #[.int .i64 k, .int .i64 (if hasD k then wrap64 ((x.toNat : Int) / 32) else 0), .int .i64 (if k == 1 then (wrap64 ((x.toNat : Int) / 2)).tmod 8 else 0), .bool (bits BinOp.and .u8 (x.toNat : Int) 16 != 0)]
/-- what read makes of two bytes -/
def read2V (k : Int) (x y : UInt8) : Value := .agg #[.int .i64 k, .int .i64 (wrap64 ((y.toNat : Int) / 2)), .int .i64 (if k == 1 then wrap64 ((x.toNat : Int) / 2) else 0), .bool (bits BinOp.and .u8 (y.toNat : Int) 1 != 0)]
set_option maxHeartbeats 1000000 in
theorem read1_any (k : Int) (x : UInt8) (w : World) : Calls Tryd.prog 74 #[.int .i64 k, .string ⟨#[x]⟩] w fun e w' => e = .returned (read1V k x) ∧ Below w.heap.size w w' := by
  have HH := Lib.hid (fun W => hasNr_any k W)
  unfold read1V
  generalize hasD k = H at *
  generalize hk1 : (k == 1) = K1 at *
  cases H <;> cases K1
  all_goals
    simp only [if_true, if_false, Bool.false_eq_true]
    go_enter Tryd.func74, Tryd.ntmps74
    go_wp2_with (go_at_call 68; (with_reducible refine (HH.out _).mono ?_); rintro e w1 ⟨rfl, rfl⟩)
    exact bodyPost_ret (by simp [results, Tryd.results74, go_sem, ix1]) rfl ⟨rfl, ((Below.refl _ w).alloc (Nat.le_refl _) _).alloc (by simp) _⟩
set_option maxHeartbeats 1000000 in
theorem read2_at (k : Int) (s : ByteArray) (w : World) (hs : s.size = 2) (n0 : 0 < s.size) (n1 : 1 < s.size) : Calls Tryd.prog 74 #[.int .i64 k, .string s] w fun e w' => e = .returned (read2V k (s[0]'n0) (s[1]'n1)) ∧ Below w.heap.size w w' := by
  have d2 : ((s.size : Int) == 2) = true := by simp [hs]
  have b0 : (0 : Int) < (s.size : Int) := by omega
  have b1 : (1 : Int) < (s.size : Int) := by omega
  unfold read2V
  clear hs
  generalize hk1 : (k == 1) = K1 at *
  have hNR : IntKind.i64.wrap (((s[1]'n1).toNat : Int) / 2) = wrap64 (((s[1]'n1).toNat : Int) / 2) := Go.IntWalk.i64_left _
  cases K1
  · simp only [if_false, Bool.false_eq_true]
    go_enter Tryd.func74, Tryd.ntmps74
    go_wp2
    refine wp_region_any (by kernel_rfl) ?_
    try (change wpAny _ _ _ _ _ _ _ (World.drew _))
    refine wpAny_take (i := 0) (v := ?_) rfl (by kernel_rfl) (by kernel_rfl) (by kernel_rfl) (fun _ _ _ h => h) (Or.inl ⟨by rfl, ?_⟩) ?_
    rotate_left
    · intro w; go_simp; with_reducible rfl
    refine wpAny_take (i := 1) (v := ?_) rfl (by kernel_rfl) (by kernel_rfl) (by kernel_rfl) (fun _ _ _ h => h) (Or.inl ⟨by rfl, ?_⟩) ?_
    rotate_left
    · intro w; go_simp; with_reducible rfl
    refine wpAny_take (i := 2) (v := ?_) rfl (by kernel_rfl) (by kernel_rfl) (by kernel_rfl) (fun _ _ _ h => h) (Or.inl ⟨by rfl, ?_⟩) ?_
    rotate_left
    · intro w; go_simp; with_reducible rfl
    refine wpAny_take (i := 3) (v := ?_) rfl (by kernel_rfl) (by kernel_rfl) (by kernel_rfl) (fun _ _ _ h => h) (Or.inl ⟨by rfl, ?_⟩) ?_
    rotate_left
    · intro w; go_simp; with_reducible rfl
    refine wpAny_take (i := 4) (v := ?_) rfl (by kernel_rfl) (by kernel_rfl) (by kernel_rfl) (fun _ _ _ h => h) (Or.inl ⟨by rfl, ?_⟩) ?_
    rotate_left
    · intro w; go_simp; with_reducible rfl
    refine wpAny_take (i := 5) (v := ?_) rfl (by kernel_rfl) (by kernel_rfl) (by kernel_rfl) (fun _ _ _ h => h) (Or.inl ⟨by rfl, ?_⟩) ?_
    rotate_left
    · intro w; go_simp; with_reducible rfl
    refine wpAny_take (i := 6) (v := ?_) rfl (by kernel_rfl) (by kernel_rfl) (by kernel_rfl) (fun _ _ _ h => h) (Or.inl ⟨by rfl, ?_⟩) ?_
    rotate_left
    · intro w; go_simp; with_reducible rfl
    refine wpAny_take (i := 7) (v := ?_) rfl (by kernel_rfl) (by kernel_rfl) (by kernel_rfl) (fun _ _ _ h => h) (Or.inl ⟨by rfl, ?_⟩) ?_
    rotate_left
    · intro w; go_simp; with_reducible rfl
    refine wpAny_take (i := 8) (v := ?_) rfl (by kernel_rfl) (by kernel_rfl) (by kernel_rfl) (fun _ _ _ h => h) (Or.inl ⟨by rfl, ?_⟩) ?_
    rotate_left
    · intro w; go_simp; with_reducible rfl
    refine wpAny_take (i := 9) (v := ?_) rfl (by kernel_rfl) (by kernel_rfl) (by kernel_rfl) (fun _ _ _ h => h) (Or.inl ⟨by rfl, ?_⟩) ?_
    rotate_left
    · intro w; go_simp; with_reducible rfl
    refine wpAny_ready (rs := [10]) (by kernel_rfl) (by simp) ?_
    refine AllReady.cons rfl (fun K hK => ?_) AllReady.nil
    go_simp
    refine hK _ _ ?_
    clear hK K
    refine wpAny_ready (rs := [11]) (by kernel_rfl) (by simp) ?_
    refine AllReady.cons rfl (fun K hK => ?_) AllReady.nil
    go_simp
    refine hK _ _ ?_
    clear hK K
    refine wpAny_done (by kernel_rfl) ?_ _
    clear hNR
    generalize hNR : wrap64 (((s[1]'n1).toNat : Int) / 2) = NR at *
    generalize hPF : (bits BinOp.and .u8 ((s[1]'n1).toNat : Int) 1 != 0) = PF at *
    have HNR := Lib.hid hNR
    have HPF := Lib.hid hPF
    clear hNR hPF
    have HR := Lib.hid (((C4.new w w.heap.size rfl (.int .i64 0) (.int .i64 0) (.int .i64 0) (.bool false) 65).alloc (.cells #[.int .i64 k, .int .i64 NR, .int .i64 0, .bool PF] 65)).drew)
    have HC := Lib.hid ((C4.new (w.alloc (.cells #[.int .i64 0, .int .i64 0, .int .i64 0, .bool false] 65)) (w.heap.size + 1) (by simp) (.int .i64 k) (.int .i64 NR) (.int .i64 0) (.bool PF) 65).drew)
    have HB := Lib.hid ((((Below.refl _ w).alloc (Nat.le_refl _) (.cells #[.int .i64 0, .int .i64 0, .int .i64 0, .bool false] 65)).alloc (by simp) (.cells #[.int .i64 k, .int .i64 NR, .int .i64 0, .bool PF] 65)).drew)
    generalize ((w.alloc (.cells #[.int .i64 0, .int .i64 0, .int .i64 0, .bool false] 65)).alloc (.cells #[.int .i64 k, .int .i64 NR, .int .i64 0, .bool PF] 65)).drew = W at *
    obtain ⟨c0, c1, c2, c3, -, -, -, -, cl⟩ := HC.out
    obtain ⟨r0, r1, r2, r3, g0, g1, g2, g3, rl⟩ := HR.out
    go_wp2
    have S4 := stored4 (.int .i64 k) (.int .i64 NR) (.int .i64 0) (.bool PF) HR.out
    exact bodyPost_ret (v := .agg #[.int .i64 k, .int .i64 NR, .int .i64 0, .bool PF]) (by simp [results, Tryd.results74, go_sem, S4.c0, S4.c1, S4.c2, S4.c3]) rfl ⟨by rw [HNR.out, HPF.out], set4_below HB.out (Nat.le_refl _) _ _ _ _⟩
  · simp only [if_true]
    go_enter Tryd.func74, Tryd.ntmps74
    go_wp2
    refine wp_region_any (by kernel_rfl) ?_
    try (change wpAny _ _ _ _ _ _ _ (World.drew _))
    refine wpAny_take (i := 0) (v := ?_) rfl (by kernel_rfl) (by kernel_rfl) (by kernel_rfl) (fun _ _ _ h => h) (Or.inl ⟨by rfl, ?_⟩) ?_
    rotate_left
    · intro w; go_simp; with_reducible rfl
    refine wpAny_take (i := 1) (v := ?_) rfl (by kernel_rfl) (by kernel_rfl) (by kernel_rfl) (fun _ _ _ h => h) (Or.inl ⟨by rfl, ?_⟩) ?_
    rotate_left
    · intro w; go_simp; with_reducible rfl
    refine wpAny_take (i := 2) (v := ?_) rfl (by kernel_rfl) (by kernel_rfl) (by kernel_rfl) (fun _ _ _ h => h) (Or.inl ⟨by rfl, ?_⟩) ?_
    rotate_left
    · intro w; go_simp; with_reducible rfl
    refine wpAny_take (i := 3) (v := ?_) rfl (by kernel_rfl) (by kernel_rfl) (by kernel_rfl) (fun _ _ _ h => h) (Or.inl ⟨by rfl, ?_⟩) ?_
    rotate_left
    · intro w; go_simp; with_reducible rfl
    refine wpAny_take (i := 4) (v := ?_) rfl (by kernel_rfl) (by kernel_rfl) (by kernel_rfl) (fun _ _ _ h => h) (Or.inl ⟨by rfl, ?_⟩) ?_
    rotate_left
    · intro w; go_simp; with_reducible rfl
    refine wpAny_take (i := 5) (v := ?_) rfl (by kernel_rfl) (by kernel_rfl) (by kernel_rfl) (fun _ _ _ h => h) (Or.inl ⟨by rfl, ?_⟩) ?_
    rotate_left
    · intro w; go_simp; with_reducible rfl
    refine wpAny_take (i := 6) (v := ?_) rfl (by kernel_rfl) (by kernel_rfl) (by kernel_rfl) (fun _ _ _ h => h) (Or.inl ⟨by rfl, ?_⟩) ?_
    rotate_left
    · intro w; go_simp; with_reducible rfl
    refine wpAny_take (i := 7) (v := ?_) rfl (by kernel_rfl) (by kernel_rfl) (by kernel_rfl) (fun _ _ _ h => h) (Or.inl ⟨by rfl, ?_⟩) ?_
    rotate_left
    · intro w; go_simp; with_reducible rfl
    refine wpAny_take (i := 8) (v := ?_) rfl (by kernel_rfl) (by kernel_rfl) (by kernel_rfl) (fun _ _ _ h => h) (Or.inl ⟨by rfl, ?_⟩) ?_
    rotate_left
    · intro w; go_simp; with_reducible rfl
    refine wpAny_take (i := 9) (v := ?_) rfl (by kernel_rfl) (by kernel_rfl) (by kernel_rfl) (fun _ _ _ h => h) (Or.inl ⟨by rfl, ?_⟩) ?_
    rotate_left
    · intro w; go_simp; with_reducible rfl
    refine wpAny_ready (rs := [10]) (by kernel_rfl) (by simp) ?_
    refine AllReady.cons rfl (fun K hK => ?_) AllReady.nil
    go_simp
    refine hK _ _ ?_
    clear hK K
    refine wpAny_ready (rs := [11]) (by kernel_rfl) (by simp) ?_
    refine AllReady.cons rfl (fun K hK => ?_) AllReady.nil
    go_simp
    refine hK _ _ ?_
    clear hK K
    refine wpAny_done (by kernel_rfl) ?_ _
    clear hNR
    generalize hNR : wrap64 (((s[1]'n1).toNat : Int) / 2) = NR at *
    generalize hPF : (bits BinOp.and .u8 ((s[1]'n1).toNat : Int) 1 != 0) = PF at *
    have HNR := Lib.hid hNR
    have HPF := Lib.hid hPF
    clear hNR hPF
    have HR := Lib.hid (((C4.new w w.heap.size rfl (.int .i64 0) (.int .i64 0) (.int .i64 0) (.bool false) 65).alloc (.cells #[.int .i64 k, .int .i64 NR, .int .i64 0, .bool PF] 65)).drew)
    have HC := Lib.hid ((C4.new (w.alloc (.cells #[.int .i64 0, .int .i64 0, .int .i64 0, .bool false] 65)) (w.heap.size + 1) (by simp) (.int .i64 k) (.int .i64 NR) (.int .i64 0) (.bool PF) 65).drew)
    have HB := Lib.hid ((((Below.refl _ w).alloc (Nat.le_refl _) (.cells #[.int .i64 0, .int .i64 0, .int .i64 0, .bool false] 65)).alloc (by simp) (.cells #[.int .i64 k, .int .i64 NR, .int .i64 0, .bool PF] 65)).drew)
    generalize ((w.alloc (.cells #[.int .i64 0, .int .i64 0, .int .i64 0, .bool false] 65)).alloc (.cells #[.int .i64 k, .int .i64 NR, .int .i64 0, .bool PF] 65)).drew = W at *
    obtain ⟨c0, c1, c2, c3, h0, h1, h2, h3, cl⟩ := HC.out
    obtain ⟨r0, r1, r2, r3, g0, g1, g2, g3, rl⟩ := HR.out
    generalize hNS : wrap64 (((s[0]'n0).toNat : Int) / 2) = NS at *
    go_wp2
    have S4 := stored4 (.int .i64 k) (.int .i64 NR) (.int .i64 NS) (.bool PF) (HR.out.other (g := w.heap.size + 1) 2 (.int .i64 NS) (by omega))
    exact bodyPost_ret (v := .agg #[.int .i64 k, .int .i64 NR, .int .i64 NS, .bool PF]) (by simp [results, Tryd.results74, go_sem, hNS, S4.c0, S4.c1, S4.c2, S4.c3]) rfl ⟨by rw [HNR.out, HPF.out, hNS], set4_below (HB.out.setCell (p := ⟨w.heap.size + 1, 2, none⟩) (by show w.heap.size ≤ w.heap.size + 1; omega) _) (Nat.le_refl _) _ _ _ _⟩
theorem read2_any (k : Int) (x y : UInt8) (w : World) : Calls Tryd.prog 74 #[.int .i64 k, .string ⟨#[x, y]⟩] w fun e w' => e = .returned (read2V k x y) ∧ Below w.heap.size w w' := read2_at k ⟨#[x, y]⟩ w rfl (show 0 < 2 by omega) (show 1 < 2 by omega)
end Go.Proofs.YtfmcngchcalcmaaDoor
