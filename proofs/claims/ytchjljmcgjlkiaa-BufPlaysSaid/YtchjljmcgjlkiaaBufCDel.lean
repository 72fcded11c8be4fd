/-
The library's Delete of the first one: of pieces, of messages.
-/
import Derived.Test.YtchjljmcgjlkiaaShift
import Derived.Test.YtchjljmcgjlkiaaSegCells
import Derived.Test.YtchjljmcgjlkiaaTurn
namespace Go.Proofs.Ytchjljmcgjlkiaa
open Go.RowKit
set_option maxRecDepth 20000
/-- a clear that runs so, as the next operation -/
theorem wpList_clear_run {P : Program} {t : TypeId} (w : World) {ops : Array Oper} {rest : List Oper} {o : Oper} {a : Act} {Q : Exit → Act → World → Prop} (hgd : o.guard = none) (x : Operand) (ho : o.op = .call { callee := .builtin .clear, args := #[x], argTypes := #[t] })
    {vx v' : Value} {w' : World} (hx : a.eval x = vx) (hr : (Builtin.clear_ #[t] o.type #[vx]).run P w = .ok v' w') (h : wpList P ops Q rest (a.put o.dst v') w') : wpList P ops Q (o :: rest) a w := by
  refine wpList_plain hgd fun K hK => ?_
  unfold Oper.wp execOp
  simp only [ho, resolve, invoke, builtin, Sem.run_bind, Sem.run_pure, Result.andThen_ok, List.map_toArray, List.map_cons, List.map_nil, hx, hr]
  exact hK _ _ h
/-- a message as it lies: a slice of pieces -/
structure Ms where
  g : Nat
  c : Nat
  ps : List Pc
def Ms.v (m : Ms) : Value := .slice (some ⟨m.g, 0, none⟩) m.ps.length m.c
def encM : Enc Ms := ⟨1, by omega, fun m => [m.v], fun _ => rfl, fun _ u hu => by rw [List.mem_singleton.1 hu]; rfl⟩
theorem infoM : (Try.prog.info? 49).map (fun i => (i.zero, i.size, i.bytes)) = some (some (.slice none 0 0), 1, 24) := by kernel_rfl
theorem zeroP19 (w : World) : (zeroValue 36).run Try.prog w = .ok (.agg #[.int .i64 0, .string ⟨#[]⟩]) w := by kernel_rfl
theorem elemP19 : Try.prog.elem 49 = 36 := by kernel_rfl
theorem sizeP19 (w : World) : (sizeOf 36).run Try.prog w = .ok encP.n w := by kernel_rfl
set_option maxHeartbeats 2000000 in
theorem cdelP19 (g m c : Nat) (u : Pc) (R : List Pc) (B : Nat) (w : World) (h : OwnL encP 36 w B (.slice (some ⟨g, 0, none⟩) m c) (u :: R)) (hl : m ≤ 1000) :
    Calls Try.prog 25 #[.slice (some ⟨g, 0, none⟩) m c, .int .i64 0, .int .i64 1] w fun e w' => e = .returned (.slice (some ⟨g, 0, none⟩) R.length c) ∧ OwnL encP 36 w' B (.slice (some ⟨g, 0, none⟩) R.length c) R ∧ Turn (fun b => b = g) w w' := by
  obtain ⟨hm, -, hcap, -⟩ := h.block_
  obtain ⟨n, hn⟩ : ∃ n, n = R.length := ⟨_, rfl⟩
  have hmn : m = n + 1 := by rw [hm, hn]; rfl
  have hmc : m ≤ c := by rw [hm]; exact hcap
  have s1 := fun W => run_check encP 36 49 Try.underlying49 elemP19 sizeP19 g m c (by omega) hmc W
  have s2 := fun W => run_begin encP 36 49 Try.underlying49 elemP19 sizeP19 g m c W
  have s3 := fun W => run_front encP 36 49 Try.underlying49 elemP19 sizeP19 g m n c hmn W
  have s4 := fun W => run_last encP 36 49 Try.underlying49 elemP19 sizeP19 g m n c hmn hmc W
  have hap := run_shift encP 36 49 49 Try.underlying49 infoC w B g m c u R h
  have hap' : (Builtin.append_ #[49, 49] 49 #[.slice (some ⟨g, 0, none⟩) 0 c, .slice (some (if c = 1 then ⟨g, 0, none⟩ else ⟨g, (encP).n, none⟩)) R.length (c - 1)]).run Try.prog w.drew = .ok (.slice (some ⟨g, 0, none⟩) R.length c) (w.drew.setCells g 0 (flatE encP R)) := run_shift encP 36 49 49 Try.underlying49 infoC w.drew B g m c u R h.drew
  have hcl := run_clear_one (w.drew.setCells g 0 (flatE encP R)) 36 49 0 (.agg #[.int .i64 0, .string ⟨#[]⟩]) Try.underlying49 zeroP19 (by intro y hy; have hy' : y ∈ [Value.int .i64 0, Value.string ⟨#[]⟩] := hy; simp only [List.mem_cons, List.not_mem_nil, or_false] at hy'; rcases hy' with rfl | rfl <;> rfl) g (R.length * (encP).n) (c - n) (fun j hj => (h.drew.place j hj).1) (fun j hj => (h.drew.place j hj).2)
  have HE := Lib.hid (And.intro (h.drew.shifted (Value.cells (.agg #[.int .i64 0, .string ⟨#[]⟩])).toList) (((Turn.refl (fun b => b = g) w).drew.setCells (g := g) (Or.inl rfl) 0 (flatE encP R)).setCells (g := g) (Or.inl rfl) (R.length * (encP).n) (Value.cells (.agg #[.int .i64 0, .string ⟨#[]⟩])).toList))
  rw [← hn] at hap' hcl HE ⊢
  generalize (if c = 1 then (⟨g, 0, none⟩ : Addr) else ⟨g, (encP).n, none⟩) = ad at *
  generalize hw3 : (w.drew.setCells g 0 (flatE encP R)).setCells g (n * (encP).n) (Value.cells (.agg #[.int .i64 0, .string ⟨#[]⟩])).toList = w3 at *
  generalize hw2 : w.drew.setCells g 0 (flatE encP R) = w2 at *
  generalize n * (encP).n = o at *
  clear h hap hm hn hmn hcap hw2 hw3
  go_enter Try.func25, Try.ntmps25
  go_wp2_with (at_builtin; refine wpList_clear_run _ rfl (.tmp 31) rfl rfl hcl ?_)
  refine wp_region_any (by kernel_rfl) ?_
  try (change wpAny _ _ _ _ _ _ _ (World.drew _))
  go_simp
  refine wpAny_take (i := 0) (v := ?_) rfl (by kernel_rfl) (by kernel_rfl) (by kernel_rfl) (fun _ _ _ h => h) (Or.inl ⟨by rfl, ?_⟩) ?_
  rotate_left
  · intro w; go_simp; with_reducible rfl
  refine wpAny_take (i := 1) (v := ?_) rfl (by kernel_rfl) (by kernel_rfl) (by kernel_rfl) (fun _ _ _ h => h) (Or.inl ⟨by rfl, ?_⟩) ?_
  rotate_left
  · intro w; go_simp; with_reducible rfl
  refine wpAny_take (i := 2) (v := ?_) rfl (by kernel_rfl) (by kernel_rfl) (by kernel_rfl) (fun _ _ _ h => h) (Or.inl ⟨by rfl, ?_⟩) ?_
  rotate_left
  · intro w; go_simp; with_reducible rfl
  refine wpAny_take (i := 3) (v := ?_) rfl (by kernel_rfl) (by kernel_rfl) (by kernel_rfl) (fun _ _ _ h => h) (Or.inl ⟨by rfl, ?_⟩) ?_
  rotate_left
  · intro w; go_simp; with_reducible rfl
  refine wpAny_take (i := 4) (v := ?_) rfl (by kernel_rfl) (by kernel_rfl) (by kernel_rfl) (fun _ _ _ h => h) (Or.inl ⟨by rfl, ?_⟩) ?_
  rotate_left
  · intro w; go_simp; with_reducible rfl
  refine wpAny_take (i := 5) (v := ?_) rfl (by kernel_rfl) (by kernel_rfl) (by kernel_rfl) (fun _ _ _ h => h) (Or.inl ⟨by rfl, ?_⟩) ?_
  rotate_left
  · intro w; go_simp; with_reducible rfl
  refine wpAny_ready (rs := [6]) (by kernel_rfl) (by simp) ?_
  refine AllReady.cons rfl (fun K hK => ?_) AllReady.nil
  rw [if_pos (by kernel_rfl)]
  refine wp_append_run (.tmp 22) (.tmp 25) rfl rfl rfl hap' ?_
  refine hK _ _ ?_
  clear hK K
  go_simp
  refine wpAny_ready (rs := [7]) (by kernel_rfl) (by simp) ?_
  refine AllReady.cons rfl (fun K hK => ?_) AllReady.nil
  go_simp
  refine hK _ _ ?_
  clear hK K
  refine wpAny_done (by kernel_rfl) ?_ _
  go_wp2_with (at_builtin; refine wpList_clear_run _ rfl (.tmp 31) rfl rfl hcl ?_)
  exact bodyPost_ret (v := .slice (some ⟨g, 0, none⟩) n c) (by simp [results, Try.results25, go_sem]) rfl ⟨rfl, HE.out⟩
theorem zeroM19 (w : World) : (zeroValue 49).run Try.prog w = .ok (.slice none 0 0) w := by kernel_rfl
theorem elemM19 : Try.prog.elem 54 = 49 := by kernel_rfl
theorem sizeM19 (w : World) : (sizeOf 49).run Try.prog w = .ok encM.n w := by kernel_rfl
set_option maxHeartbeats 2000000 in
theorem cdelM19 (g m c : Nat) (u : Ms) (R : List Ms) (B : Nat) (w : World) (h : OwnL encM 49 w B (.slice (some ⟨g, 0, none⟩) m c) (u :: R)) (hl : m ≤ 1000) :
    Calls Try.prog 26 #[.slice (some ⟨g, 0, none⟩) m c, .int .i64 0, .int .i64 1] w fun e w' => e = .returned (.slice (some ⟨g, 0, none⟩) R.length c) ∧ OwnL encM 49 w' B (.slice (some ⟨g, 0, none⟩) R.length c) R ∧ Turn (fun b => b = g) w w' := by
  obtain ⟨hm, -, hcap, -⟩ := h.block_
  obtain ⟨n, hn⟩ : ∃ n, n = R.length := ⟨_, rfl⟩
  have hmn : m = n + 1 := by rw [hm, hn]; rfl
  have hmc : m ≤ c := by rw [hm]; exact hcap
  have s1 := fun W => run_check encM 49 54 Try.underlying54 elemM19 sizeM19 g m c (by omega) hmc W
  have s2 := fun W => run_begin encM 49 54 Try.underlying54 elemM19 sizeM19 g m c W
  have s3 := fun W => run_front encM 49 54 Try.underlying54 elemM19 sizeM19 g m n c hmn W
  have s4 := fun W => run_last encM 49 54 Try.underlying54 elemM19 sizeM19 g m n c hmn hmc W
  have hap := run_shift encM 49 54 54 Try.underlying54 infoM w B g m c u R h
  have hap' : (Builtin.append_ #[54, 54] 54 #[.slice (some ⟨g, 0, none⟩) 0 c, .slice (some (if c = 1 then ⟨g, 0, none⟩ else ⟨g, (encM).n, none⟩)) R.length (c - 1)]).run Try.prog w.drew = .ok (.slice (some ⟨g, 0, none⟩) R.length c) (w.drew.setCells g 0 (flatE encM R)) := run_shift encM 49 54 54 Try.underlying54 infoM w.drew B g m c u R h.drew
  have hcl := run_clear_one (w.drew.setCells g 0 (flatE encM R)) 49 54 0 (.slice none 0 0) Try.underlying54 zeroM19 (by intro y hy; have hy' : y ∈ [Value.slice none 0 0] := hy; rw [List.mem_singleton.1 hy']; rfl) g (R.length * (encM).n) (c - n) (fun j hj => (h.drew.place j hj).1) (fun j hj => (h.drew.place j hj).2)
  have HE := Lib.hid (And.intro (h.drew.shifted (Value.cells (.slice none 0 0)).toList) (((Turn.refl (fun b => b = g) w).drew.setCells (g := g) (Or.inl rfl) 0 (flatE encM R)).setCells (g := g) (Or.inl rfl) (R.length * (encM).n) (Value.cells (.slice none 0 0)).toList))
  rw [← hn] at hap' hcl HE ⊢
  generalize (if c = 1 then (⟨g, 0, none⟩ : Addr) else ⟨g, (encM).n, none⟩) = ad at *
  generalize hw3 : (w.drew.setCells g 0 (flatE encM R)).setCells g (n * (encM).n) (Value.cells (.slice none 0 0)).toList = w3 at *
  generalize hw2 : w.drew.setCells g 0 (flatE encM R) = w2 at *
  generalize n * (encM).n = o at *
  clear h hap hm hn hmn hcap hw2 hw3
  go_enter Try.func26, Try.ntmps26
  go_wp2_with (at_builtin; refine wpList_clear_run _ rfl (.tmp 31) rfl rfl hcl ?_)
  refine wp_region_any (by kernel_rfl) ?_
  try (change wpAny _ _ _ _ _ _ _ (World.drew _))
  go_simp
  refine wpAny_take (i := 0) (v := ?_) rfl (by kernel_rfl) (by kernel_rfl) (by kernel_rfl) (fun _ _ _ h => h) (Or.inl ⟨by rfl, ?_⟩) ?_
  rotate_left
  · intro w; go_simp; with_reducible rfl
  refine wpAny_take (i := 1) (v := ?_) rfl (by kernel_rfl) (by kernel_rfl) (by kernel_rfl) (fun _ _ _ h => h) (Or.inl ⟨by rfl, ?_⟩) ?_
  rotate_left
  · intro w; go_simp; with_reducible rfl
  refine wpAny_take (i := 2) (v := ?_) rfl (by kernel_rfl) (by kernel_rfl) (by kernel_rfl) (fun _ _ _ h => h) (Or.inl ⟨by rfl, ?_⟩) ?_
  rotate_left
  · intro w; go_simp; with_reducible rfl
  refine wpAny_take (i := 3) (v := ?_) rfl (by kernel_rfl) (by kernel_rfl) (by kernel_rfl) (fun _ _ _ h => h) (Or.inl ⟨by rfl, ?_⟩) ?_
  rotate_left
  · intro w; go_simp; with_reducible rfl
  refine wpAny_take (i := 4) (v := ?_) rfl (by kernel_rfl) (by kernel_rfl) (by kernel_rfl) (fun _ _ _ h => h) (Or.inl ⟨by rfl, ?_⟩) ?_
  rotate_left
  · intro w; go_simp; with_reducible rfl
  refine wpAny_take (i := 5) (v := ?_) rfl (by kernel_rfl) (by kernel_rfl) (by kernel_rfl) (fun _ _ _ h => h) (Or.inl ⟨by rfl, ?_⟩) ?_
  rotate_left
  · intro w; go_simp; with_reducible rfl
  refine wpAny_ready (rs := [6]) (by kernel_rfl) (by simp) ?_
  refine AllReady.cons rfl (fun K hK => ?_) AllReady.nil
  rw [if_pos (by kernel_rfl)]
  refine wp_append_run (.tmp 22) (.tmp 25) rfl rfl rfl hap' ?_
  refine hK _ _ ?_
  clear hK K
  go_simp
  refine wpAny_ready (rs := [7]) (by kernel_rfl) (by simp) ?_
  refine AllReady.cons rfl (fun K hK => ?_) AllReady.nil
  go_simp
  refine hK _ _ ?_
  clear hK K
  refine wpAny_done (by kernel_rfl) ?_ _
  go_wp2_with (at_builtin; refine wpList_clear_run _ rfl (.tmp 31) rfl rfl hcl ?_)
  exact bodyPost_ret (v := .slice (some ⟨g, 0, none⟩) n c) (by simp [results, Try.results26, go_sem]) rfl ⟨rfl, HE.out⟩
end Go.Proofs.Ytchjljmcgjlkiaa
