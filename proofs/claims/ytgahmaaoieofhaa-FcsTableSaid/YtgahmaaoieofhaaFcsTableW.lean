/-
Walk of the statement FcsTable.
-/
import Derived.Test.YtgahmaaoieofhaaFcsLong
namespace Go.Proofs.Ytgahmaaoieofhaa
open Go.RowKit
theorem neq_tab (w : World) : (binOp .neq 43 (.agg (tabCells 256)) (.agg (tabCells 256))).run Try.prog w = .ok (.bool false) w := by kernel_rfl
theorem load_tab (b : Nat) (w : World) (t : TypeId) (fr : Nat × Nat) (h : w.heap[b]? = some (.cells (tabCells 256) t fr)) :
    (loadVar 43 ⟨b, 0, none⟩).run Try.prog w = .ok (.agg (tabCells 256)) w :=
  run_loadVar_row w b t _ _ fr _ h Try.underlying43 rfl (by rw [tabCells_size]; kernel_rfl)
theorem quiet_load_tab {o : Oper} {a : Act} {C : World → Prop} {K : Act → Prop} (x : Operand) (ho : o.op = .load 43 x) (b : Nat) (hx : a.eval x = .pointer (some ⟨b, 0, none⟩))
    (hC : ∀ w, C w → ∃ t fr, w.heap[b]? = some (.cells (tabCells 256) t fr)) (h : K (a.put o.dst (.agg (tabCells 256)))) : o.quiet Try.prog a C K :=
  ⟨_, fun w hw => by
    obtain ⟨t, fr, hh⟩ := hC w hw
    unfold Oper.quietAt execOp
    simp only [ho, hx, Instr.loadAt, Instr.sureAddr, Sem.run_bind, Sem.run_pure, Result.andThen_ok, load_tab b w t fr hh]
    exact ⟨rfl, rfl⟩, h⟩
set_option maxRecDepth 100000 in
set_option maxHeartbeats 400000 in
theorem table_any (c d : Nat) (w : World) (hc : c < 256) (hd : d < 256) :
    Calls Try.prog 6 #[.int .u8 c, .int .u8 d] w fun e w' => e = .returned (.bool true) ∧ Below w.heap.size w w' := by
  go_enter Try.func6, Try.ntmps6
  go_wp2_with (first
    | (go_at_call 10; refine (awake_any _).mono ?_; rintro e w1 ⟨rfl, hb⟩)
    | (go_at_call 12; refine (new_any _).mono ?_; rintro e w2 ⟨rfl, rfl⟩))
  have hz3 : (((w1.alloc (.cells (tabCells 256) 43)).alloc (.cells (tabCells 256) 43))).heap.size = w1.heap.size + 2 := by simp
  have hl1 : ∀ w', (∃ n, w' = ((w1.alloc (.cells (tabCells 256) 43)).alloc (.cells (tabCells 256) 43)).drewN n) → ∃ t fr, w'.heap[w1.heap.size]? = some (.cells (tabCells 256) t fr) := by
    rintro _ ⟨n, rfl⟩
    exact ⟨43, (0, 0), heap_alloc2_old w1 _ _⟩
  have hl2 : ∀ w', (∃ n, w' = ((w1.alloc (.cells (tabCells 256) 43)).alloc (.cells (tabCells 256) 43)).drewN n) → ∃ t fr, w'.heap[w1.heap.size + 1]? = some (.cells (tabCells 256) t fr) := by
    rintro _ ⟨n, rfl⟩
    exact ⟨43, (0, 0), heap_alloc2_new w1 _ _⟩
  have ht : IsTab ((w1.alloc (.cells (tabCells 256) 43)).alloc (.cells (tabCells 256) 43)) w1.heap.size := (tab_new w1 _).alloc (by simp) _
  have hb3 : Below w.heap.size w ((w1.alloc (.cells (tabCells 256) 43)).alloc (.cells (tabCells 256) 43)) := (hb.alloc hb.size _).alloc (by have := hb.size; simp; omega) _
  generalize (w1.alloc (.cells (tabCells 256) 43)).alloc (.cells (tabCells 256) 43) = w3 at *
  have c0 : w3.cell? ⟨w1.heap.size, 0, none⟩ = some (.int .u16 0) := ht 0 (by omega)
  have HZ := Lib.hid hz3
  have HT := Lib.hid ht
  have HB := Lib.hid hb3
  have HL1 := Lib.hid hl1
  have HL2 := Lib.hid hl2
  clear hz3 ht hb3 hb hl1 hl2
  have hnq := neq_tab
  refine wp_region_quiet_lit (by kernel_rfl) (by kernel_rfl) ?_
  iterate 5 go_big_quiet_step (fail)
  go_big_quiet_want
  refine quiet_load_tab _ rfl _ rfl HL1.out ?_
  go_simp
  go_big_quiet_on
  iterate 2 go_big_quiet_step (fail)
  go_big_quiet_want
  refine quiet_load_tab _ rfl _ rfl HL2.out ?_
  go_simp
  go_big_quiet_on
  repeat (go_big_quiet_step (fail))
  refine wpQuiet_nil ?_
  intro _ hw'
  obtain ⟨nq, hw''⟩ := hw'
  subst hw''
  clear hnq
  go_wp2
  have hcd : c ^^^ d < 256 := Nat.xor_lt_two_pow (n := 8) hc hd
  have hcdi : ((c ^^^ d : Nat) : Int) < 256 := by omega
  have hx8 := u8_xor_nat c d hc hd
  have hx16 : bits .xor .u16 ((s8 c : Nat) : Int) ((s8 d : Nat) : Int) = ((s8 (c ^^^ d) : Nat) : Int) := by
    rw [s8, s8, s8, sn_lin]; exact u16_xor_nat _ _ (sn_lt 8 c (by omega)) (sn_lt 8 d (by omega))
  have k1 := HT.out (c ^^^ d) hcd
  have k2 := HT.out c hc
  have k3 := HT.out d hd
  have hz : (((s8 c : Nat) : Int) == 0) = ((c : Int) == 0) := by
    by_cases h0 : c = 0
    · subst h0; rfl
    · have : s8 c ≠ 0 := fun h => h0 (sn_zero 8 (by omega) h)
      rw [beq_eq_false_iff_ne.2 (by omega), beq_eq_false_iff_ne.2 (by omega)]
  have hb0 : ((c : Int) == 0) = true ∨ ((c : Int) == 0) = false := by cases ((c : Int) == 0) <;> simp
  generalize s8 c = sc at *
  generalize s8 d = sd at *
  generalize s8 (c ^^^ d) = scd at *
  clear hcd c0 HT HL1 HL2 HZ
  rcases hb0 with hb0 | hb0
  all_goals
    rw [hb0] at hz
    go_quiet (fail)
    go_wp2
    go_ret
    exact ⟨rfl, below_drewN (below_drewN HB.out _) _⟩
end Go.Proofs.Ytgahmaaoieofhaa
