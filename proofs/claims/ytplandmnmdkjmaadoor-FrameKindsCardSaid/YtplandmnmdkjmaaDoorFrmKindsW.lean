/-
Walk of the statement FrameKinds.
-/
import Derived.Test.YtplandmnmdkjmaaDoorFrmKindP
import Derived.Test.YtplandmnmdkjmaaDoorFrmRDec
import Derived.Test.YtplandmnmdkjmaaDoorFrmAwake
namespace Go.Proofs.YtplandmnmdkjmaaDoor
open Go.RowKit Go.Sort
set_option maxRecDepth 20000
theorem fkinds_long (s : ByteArray) (w : World) (hC : CodesOk w) (hN : NamesOk w) (hs : 2000 < s.size) :
    Calls Tryd.prog 4 #[.string s] w fun e w' => e = .returned (.bool true) ∧ Below w.heap.size w w' := by
  have d : decide ((2000 : Int) < (s.size : Int)) = true := decide_eq_true (by omega)
  have HAW := Lib.hid (fawake_any w hC hN)
  clear hC hN
  go_enter Tryd.func4, Tryd.ntmps4
  go_wp2_with (go_at_call 6; (with_reducible refine HAW.out.mono ?_); rintro e w1 ⟨rfl, hb⟩; have HB := Lib.hid hb; clear hb)
  go_ret
  exact ⟨rfl, HB.out⟩
set_option maxHeartbeats 4000000 in
theorem fkinds_some (s : ByteArray) (w : World) (hC : CodesOk w) (hN : NamesOk w) (hs : s.size ≤ 2000) :
    Calls Tryd.prog 4 #[.string s] w fun e w' => e = .returned (.bool true) ∧ Below w.heap.size w w' := by
  have d : decide ((2000 : Int) < (s.size : Int)) = false := decide_eq_false (by omega)
  have HAW := Lib.hid (fawake_any w hC hN)
  have hki := fun W (hb : Below w.heap.size w W) => kind_any s W (by omega) (hC.below hb)
  have hle := kindF_le s.data.toList
  have hna := kindF_narrow s.data.toList
  have hwi := kindF_wide s.data.toList
  have hra := fun W => rdec_any s false W (by omega)
  have hrb := fun W => rdec_any s true W (by omega)
  unfold RDecTo at hra hrb
  generalize kindF s.data.toList = k at *
  obtain ⟨K, hK⟩ : ∃ K : Int, K = (k : Int) := ⟨_, rfl⟩
  rw [← hK] at hki
  have k0 : decide (0 ≤ K) = true := decide_eq_true (by omega)
  have k14 : decide (K ≤ 14) = true := decide_eq_true (by omega)
  have HKI := Lib.hid hki
  have HRA := Lib.hid (show ∀ W, Calls Tryd.prog 16 #[.string s, .bool false] W fun e w' => (∃ (a : Option Addr) (n c : Nat) (ka nr ns : Int) (pf : Bool) (pid : Int) (info : ByteArray) (er : Int), e = .returned (.tuple #[.agg #[.slice a n c, .int .i64 ka, .int .i64 nr, .int .i64 ns, .bool pf, .int .i64 pid, .string info], .int .i64 er]) ∧ (er = 0 → K = ka)) ∧ Below W.heap.size W w' from fun W => (hra W).mono fun e w' hq => by
    obtain ⟨⟨a, n, c, ka, nr, ns, pf, pid, info, er, rfl, h0⟩, hb⟩ := hq
    exact ⟨⟨a, n, c, ka, nr, ns, pf, pid, info, er, rfl, fun h => by
      obtain ⟨h1, h2⟩ := h0 (by omega)
      have := hna h1
      omega⟩, hb⟩)
  have HRB := Lib.hid (show ∀ W, Calls Tryd.prog 16 #[.string s, .bool true] W fun e w' => (∃ (a : Option Addr) (n c : Nat) (kb nr ns : Int) (pf : Bool) (pid : Int) (info : ByteArray) (er : Int), e = .returned (.tuple #[.agg #[.slice a n c, .int .i64 kb, .int .i64 nr, .int .i64 ns, .bool pf, .int .i64 pid, .string info], .int .i64 er]) ∧ (er = 0 → 6 ≤ kb → K = kb)) ∧ Below W.heap.size W w' from fun W => (hrb W).mono fun e w' hq => by
    obtain ⟨⟨a, n, c, kb, nr, ns, pf, pid, info, er, rfl, h0⟩, hb⟩ := hq
    exact ⟨⟨a, n, c, kb, nr, ns, pf, pid, info, er, rfl, fun h h6 => by
      obtain ⟨h1, h2⟩ := h0 (by omega)
      have := hwi h1 (by omega)
      omega⟩, hb⟩)
  clear hC hN hki hra hrb hle hna hwi hK
  go_enter Tryd.func4, Tryd.ntmps4
  go_wp2_with (first
    | (go_at_call 6; (with_reducible refine HAW.out.mono ?_); rintro e w1 ⟨rfl, hb⟩; have HB := Lib.hid hb; clear hb)
    | (go_at_call 15; (with_reducible refine (HKI.out _ HB.out).mono ?_); rintro e w2 ⟨rfl, hb⟩; replace HB := Lib.hid (HB.out.trans (hb.mono HB.out.size)); clear hb)
    | (go_at_call 16; (with_reducible refine (HRA.out _).mono ?_); rintro e w3 ⟨⟨a, n, c, ka, nr, ns, pf, pid, info, er, rfl, h0⟩, hb⟩; have HA0 := Lib.hid h0; have hb2 := HB.out.trans (hb.mono HB.out.size); replace HB := Lib.hid (hb2.alloc hb2.size (.cells #[.slice a n c, .int .i64 ka, .int .i64 nr, .int .i64 ns, .bool pf, .int .i64 pid, .string info] 38)); have HP := Lib.hid (P7.new w3 w3.heap.size rfl (.slice a n c) (.int .i64 ka) (.int .i64 nr) (.int .i64 ns) (.bool pf) (.int .i64 pid) (.string info) 38); clear hb hb2 h0))
  go_at_call 16
  with_reducible refine (HRB.out _).mono ?_
  rintro e w4 ⟨⟨a', n', c', kb, nr', ns', pf', pid', info', er', rfl, h0⟩, hb⟩
  have hb2 := HB.out.trans (hb.mono HB.out.size)
  replace HB := Lib.hid (hb2.alloc hb2.size (.cells #[.slice a' n' c', .int .i64 kb, .int .i64 nr', .int .i64 ns', .bool pf', .int .i64 pid', .string info'] 38))
  replace HP := Lib.hid ((HP.out.below hb).alloc (.cells #[.slice a' n' c', .int .i64 kb, .int .i64 nr', .int .i64 ns', .bool pf', .int .i64 pid', .string info'] 38))
  have HQ := Lib.hid (P7.new w4 w4.heap.size rfl (.slice a' n' c') (.int .i64 kb) (.int .i64 nr') (.int .i64 ns') (.bool pf') (.int .i64 pid') (.string info') 38)
  obtain ⟨⟨p0, -, pl⟩, ⟨p1, -, -⟩, ⟨p2, -, -⟩, ⟨p3, -, -⟩, ⟨p4, -, -⟩, ⟨p5, -, -⟩, ⟨p6, -, -⟩⟩ := HP.out
  obtain ⟨⟨q0, -, ql⟩, ⟨q1, -, -⟩, ⟨q2, -, -⟩, ⟨q3, -, -⟩, ⟨q4, -, -⟩, ⟨q5, -, -⟩, ⟨q6, -, -⟩⟩ := HQ.out
  have hA := HA0.out
  clear hb hb2 HA0
  obtain ⟨EA, hEA⟩ : ∃ x, x = (er != 0) := ⟨_, rfl⟩
  obtain ⟨QA, hQA⟩ : ∃ x, x = (K == ka) := ⟨_, rfl⟩
  obtain ⟨EB, hEB⟩ : ∃ x, x = (er' != 0) := ⟨_, rfl⟩
  obtain ⟨LB, hLB⟩ : ∃ x, x = decide (kb < 6) := ⟨_, rfl⟩
  obtain ⟨QB, hQB⟩ : ∃ x, x = (K == kb) := ⟨_, rfl⟩
  have h1 : EA = false → QA = true := by
    intro h; rw [h] at hEA
    rw [hQA, beq_iff_eq]
    exact hA (by simpa using hEA.symm)
  have h2 : EB = false → LB = false → QB = true := by
    intro h h'; rw [h] at hEB; rw [h'] at hLB
    rw [hQB, beq_iff_eq]
    have := of_decide_eq_false hLB.symm
    exact h0 (by simpa using hEB.symm) (by omega)
  replace hEA := hEA.symm
  replace hQA := hQA.symm
  replace hEB := hEB.symm
  replace hLB := hLB.symm
  replace hQB := hQB.symm
  clear hA h0
  cases EA <;> cases EB <;> cases LB
  all_goals
    first
      | (obtain rfl := h1 rfl; obtain rfl := h2 rfl rfl; clear h1 h2; go_wp2_with fail; go_ret; exact ⟨rfl, HB.out⟩)
      | (obtain rfl := h1 rfl; clear h1 h2 hQB; go_wp2_with fail; go_ret; exact ⟨rfl, HB.out⟩)
      | (obtain rfl := h2 rfl rfl; clear h1 h2 hQA; go_wp2_with fail; go_ret; exact ⟨rfl, HB.out⟩)
      | (clear h1 h2 hQA hQB; go_wp2_with fail; go_ret; exact ⟨rfl, HB.out⟩)
theorem fkinds_any (s : ByteArray) (w : World) (hC : CodesOk w) (hN : NamesOk w) :
    Calls Tryd.prog 4 #[.string s] w fun e w' => e = .returned (.bool true) ∧ Below w.heap.size w w' := by
  by_cases h : 2000 < s.size
  · exact fkinds_long s w hC hN h
  · exact fkinds_some s w hC hN (by omega)
end Go.Proofs.YtplandmnmdkjmaaDoor
