/-
The document's Take: of any piece, in any state (written by tools/gen10/gen_rtake.py).
-/
import Derived.Test.YtaelhickopeocaaSegCells
namespace Go.Proofs.Ytaelhickopeocaa
open Go.RowKit
set_option maxRecDepth 20000
/-- what is asked of the document's Take -/
def RTakeTo (m : Nat) (w : World) (r : Gs × Pc × Bool × Int) : Ending → World → Prop := fun e w' =>
  e = .returned (.tuple #[pcV r.2.1, .bool r.2.2.1, .int .i64 r.2.2.2]) ∧ RowAt w' m (gsV r.1) ∧ Turn (fun k => k = m) w w'
set_option maxHeartbeats 1000000 in
theorem rtake_pid (m : Nat) (s : Gs) (p : Pc) (w : World) (h : RowAt w m (gsV s)) (hP : p.pid < 0 ∨ 255 < p.pid) : Calls Try.prog 15 #[.pointer (some ⟨m, 0, none⟩), pcV p] w (RTakeTo m w (takeD s p)) := by
  obtain ⟨on, pid, left, T⟩ := s
  obtain ⟨P, I⟩ := p
  simp only [gsV] at h
  have hmw : m < w.heap.size := h.lt
  have hm0 : m ≠ w.heap.size := by omega
  have hm1 : m ≠ w.heap.size + 1 := by omega
  have hm2 : w.heap.size + 1 ≠ m := by omega
  have HG := Lib.hid ((h.alloc (.cells #[.int .i64 P, .string I] 45)).alloc (.cells #[.int .i64 0, .string ⟨#[]⟩] 45))
  have HP := Lib.hid ((RowAt.new w w.heap.size rfl [.int .i64 P, .string I] 45).alloc (.cells #[.int .i64 0, .string ⟨#[]⟩] 45))
  have HQ := Lib.hid (RowAt.new (w.alloc (.cells #[.int .i64 P, .string I] 45)) (w.heap.size + 1) (by simp) [.int .i64 0, .string ⟨#[]⟩] 45)
  have HT := Lib.hid (((Turn.refl (fun k => k = m) w).alloc (.cells #[.int .i64 P, .string I] 45)).alloc (.cells #[.int .i64 0, .string ⟨#[]⟩] 45))
  clear h
  have HE := Lib.hid (show takeD ⟨on, pid, left, T⟩ ⟨P, I⟩ = (⟨on, pid, left, T⟩, zeroP, false, 1) from by unfold takeD; exact if_pos hP)
  simp only at hP
  unfold RTakeTo
  unfold pcV
  go_enter Try.func15, Try.ntmps15
  go_upto_region 1 with (fail)
  generalize (w.alloc (.cells #[.int .i64 P, .string I] 45)).alloc (.cells #[.int .i64 0, .string ⟨#[]⟩] 45) = w1 at *
  rcases hP with hP | hP
  · have g0 := HG.out.cell 0 rfl
    have gf0 := (HG.out.get 0 rfl).free
    have g1 := HG.out.cell 1 rfl
    have gf1 := (HG.out.get 1 rfl).free
    have g2 := HG.out.cell 2 rfl
    have gf2 := (HG.out.get 2 rfl).free
    have g3 := HG.out.cell 3 rfl
    have gf3 := (HG.out.get 3 rfl).free
    have q0 := HQ.out.cell 0 rfl
    have qf0 := (HQ.out.get 0 rfl).free
    have q1 := HQ.out.cell 1 rfl
    have qf1 := (HQ.out.get 1 rfl).free
    have p0 := HP.out.cell 0 rfl
    have p1 := HP.out.cell 1 rfl
    go_wp2_with fail
    have HG2 := Lib.hid (show RowAt ((w1.setCell ⟨w.heap.size + 1, 0, none⟩ (.int .i64 0)).setCell ⟨w.heap.size + 1, 1, none⟩ (.string ⟨#[]⟩)) m [.bool on, .int .i64 pid, .int .i64 left, .string T] from ((HG.out.other (p := 0) (.int .i64 0) hm2).other (p := 1) (.string ⟨#[]⟩) hm2))
    have HQ2 := Lib.hid (show RowAt ((w1.setCell ⟨w.heap.size + 1, 0, none⟩ (.int .i64 0)).setCell ⟨w.heap.size + 1, 1, none⟩ (.string ⟨#[]⟩)) (w.heap.size + 1) [.int .i64 0, .string ⟨#[]⟩] from ((HQ.out.put 0 (.int .i64 0) _ rfl).put 1 (.string ⟨#[]⟩) _ rfl))
    have HP2 := Lib.hid ((HP.out.other (p := 0) (.int .i64 0) (Nat.succ_ne_self _)).other (p := 1) (.string ⟨#[]⟩) (Nat.succ_ne_self _))
    have HT2 := Lib.hid ((HT.out.set (p := ⟨w.heap.size + 1, 0, none⟩) (Or.inr (Nat.le_succ _)) (.int .i64 0)).set (p := ⟨w.heap.size + 1, 1, none⟩) (Or.inr (Nat.le_succ _)) (.string ⟨#[]⟩))
    clear g0 g1 g2 g3 gf0 gf1 gf2 gf3 q0 q1 qf0 qf1 p0 p1
    clear HG HQ HP HT
    have HG := HG2
    have HQ := HQ2
    have HP := HP2
    have HT := HT2
    clear HG2 HQ2 HP2 HT2
    have s0 := HQ.out.cell 0 rfl
    have s1 := HQ.out.cell 1 rfl
    exact bodyPost_ret (v := .tuple #[.agg #[.int .i64 0, .string ⟨#[]⟩], .bool false, .int .i64 1]) (by simp [results, Try.results15, go_sem, s0, s1]) rfl ⟨by first | (rw [HE.out]; done) | (rw [HE.out]; rfl), by rw [HE.out]; exact HG.out, HT.out⟩
  · have g0 := HG.out.cell 0 rfl
    have gf0 := (HG.out.get 0 rfl).free
    have g1 := HG.out.cell 1 rfl
    have gf1 := (HG.out.get 1 rfl).free
    have g2 := HG.out.cell 2 rfl
    have gf2 := (HG.out.get 2 rfl).free
    have g3 := HG.out.cell 3 rfl
    have gf3 := (HG.out.get 3 rfl).free
    have q0 := HQ.out.cell 0 rfl
    have qf0 := (HQ.out.get 0 rfl).free
    have q1 := HQ.out.cell 1 rfl
    have qf1 := (HQ.out.get 1 rfl).free
    have p0 := HP.out.cell 0 rfl
    have p1 := HP.out.cell 1 rfl
    go_wp2_with fail
    have HG2 := Lib.hid (show RowAt ((w1.setCell ⟨w.heap.size + 1, 0, none⟩ (.int .i64 0)).setCell ⟨w.heap.size + 1, 1, none⟩ (.string ⟨#[]⟩)) m [.bool on, .int .i64 pid, .int .i64 left, .string T] from ((HG.out.other (p := 0) (.int .i64 0) hm2).other (p := 1) (.string ⟨#[]⟩) hm2))
    have HQ2 := Lib.hid (show RowAt ((w1.setCell ⟨w.heap.size + 1, 0, none⟩ (.int .i64 0)).setCell ⟨w.heap.size + 1, 1, none⟩ (.string ⟨#[]⟩)) (w.heap.size + 1) [.int .i64 0, .string ⟨#[]⟩] from ((HQ.out.put 0 (.int .i64 0) _ rfl).put 1 (.string ⟨#[]⟩) _ rfl))
    have HP2 := Lib.hid ((HP.out.other (p := 0) (.int .i64 0) (Nat.succ_ne_self _)).other (p := 1) (.string ⟨#[]⟩) (Nat.succ_ne_self _))
    have HT2 := Lib.hid ((HT.out.set (p := ⟨w.heap.size + 1, 0, none⟩) (Or.inr (Nat.le_succ _)) (.int .i64 0)).set (p := ⟨w.heap.size + 1, 1, none⟩) (Or.inr (Nat.le_succ _)) (.string ⟨#[]⟩))
    clear g0 g1 g2 g3 gf0 gf1 gf2 gf3 q0 q1 qf0 qf1 p0 p1
    clear HG HQ HP HT
    have HG := HG2
    have HQ := HQ2
    have HP := HP2
    have HT := HT2
    clear HG2 HQ2 HP2 HT2
    have s0 := HQ.out.cell 0 rfl
    have s1 := HQ.out.cell 1 rfl
    exact bodyPost_ret (v := .tuple #[.agg #[.int .i64 0, .string ⟨#[]⟩], .bool false, .int .i64 1]) (by simp [results, Try.results15, go_sem, s0, s1]) rfl ⟨by first | (rw [HE.out]; done) | (rw [HE.out]; rfl), by rw [HE.out]; exact HG.out, HT.out⟩
set_option maxHeartbeats 1000000 in
theorem rtake_long (m : Nat) (s : Gs) (p : Pc) (w : World) (h : RowAt w m (gsV s)) (hP : ¬ (p.pid < 0 ∨ 255 < p.pid)) (h8 : p.pid ≠ 8) (hz : 600 < p.info.size) : Calls Try.prog 15 #[.pointer (some ⟨m, 0, none⟩), pcV p] w (RTakeTo m w (takeD s p)) := by
  obtain ⟨on, pid, left, T⟩ := s
  obtain ⟨P, I⟩ := p
  simp only [gsV] at h
  have hmw : m < w.heap.size := h.lt
  have hm0 : m ≠ w.heap.size := by omega
  have hm1 : m ≠ w.heap.size + 1 := by omega
  have hm2 : w.heap.size + 1 ≠ m := by omega
  have HG := Lib.hid ((h.alloc (.cells #[.int .i64 P, .string I] 45)).alloc (.cells #[.int .i64 0, .string ⟨#[]⟩] 45))
  have HP := Lib.hid ((RowAt.new w w.heap.size rfl [.int .i64 P, .string I] 45).alloc (.cells #[.int .i64 0, .string ⟨#[]⟩] 45))
  have HQ := Lib.hid (RowAt.new (w.alloc (.cells #[.int .i64 P, .string I] 45)) (w.heap.size + 1) (by simp) [.int .i64 0, .string ⟨#[]⟩] 45)
  have HT := Lib.hid (((Turn.refl (fun k => k = m) w).alloc (.cells #[.int .i64 P, .string I] 45)).alloc (.cells #[.int .i64 0, .string ⟨#[]⟩] 45))
  clear h
  simp only at hP h8 hz
  have HE := Lib.hid (show takeD ⟨on, pid, left, T⟩ ⟨P, I⟩ = (zeroG, zeroP, false, 5) from by unfold takeD; rw [if_neg hP, if_pos h8, if_pos hz])
  have hP0 : ¬ P < 0 := fun hh => hP (Or.inl hh)
  have hP1 : ¬ 255 < P := fun hh => hP (Or.inr hh)
  clear hP
  unfold RTakeTo
  unfold pcV
  go_enter Try.func15, Try.ntmps15
  go_upto_region 1 with (fail)
  generalize (w.alloc (.cells #[.int .i64 P, .string I] 45)).alloc (.cells #[.int .i64 0, .string ⟨#[]⟩] 45) = w1 at *
  have g0 := HG.out.cell 0 rfl
  have gf0 := (HG.out.get 0 rfl).free
  have g1 := HG.out.cell 1 rfl
  have gf1 := (HG.out.get 1 rfl).free
  have g2 := HG.out.cell 2 rfl
  have gf2 := (HG.out.get 2 rfl).free
  have g3 := HG.out.cell 3 rfl
  have gf3 := (HG.out.get 3 rfl).free
  have q0 := HQ.out.cell 0 rfl
  have qf0 := (HQ.out.get 0 rfl).free
  have q1 := HQ.out.cell 1 rfl
  have qf1 := (HQ.out.get 1 rfl).free
  have p0 := HP.out.cell 0 rfl
  have p1 := HP.out.cell 1 rfl
  go_upto_region 6 with (fail)
  have HG2 := Lib.hid (show RowAt ((((w1.setCell ⟨m, 0, none⟩ (.bool false)).setCell ⟨m, 1, none⟩ (.int .i64 0)).setCell ⟨m, 2, none⟩ (.int .i64 0)).setCell ⟨m, 3, none⟩ (.string ⟨#[]⟩)) m [.bool false, .int .i64 0, .int .i64 0, .string ⟨#[]⟩] from ((((HG.out.put 0 (.bool false) _ rfl).put 1 (.int .i64 0) _ rfl).put 2 (.int .i64 0) _ rfl).put 3 (.string ⟨#[]⟩) _ rfl))
  have HQ2 := Lib.hid (show RowAt ((((w1.setCell ⟨m, 0, none⟩ (.bool false)).setCell ⟨m, 1, none⟩ (.int .i64 0)).setCell ⟨m, 2, none⟩ (.int .i64 0)).setCell ⟨m, 3, none⟩ (.string ⟨#[]⟩)) (w.heap.size + 1) [.int .i64 0, .string ⟨#[]⟩] from ((((HQ.out.other (p := 0) (.bool false) hm1).other (p := 1) (.int .i64 0) hm1).other (p := 2) (.int .i64 0) hm1).other (p := 3) (.string ⟨#[]⟩) hm1))
  have HP2 := Lib.hid ((((HP.out.other (p := 0) (.bool false) hm0).other (p := 1) (.int .i64 0) hm0).other (p := 2) (.int .i64 0) hm0).other (p := 3) (.string ⟨#[]⟩) hm0)
  have HT2 := Lib.hid ((((HT.out.set (p := ⟨m, 0, none⟩) (Or.inl rfl) (.bool false)).set (p := ⟨m, 1, none⟩) (Or.inl rfl) (.int .i64 0)).set (p := ⟨m, 2, none⟩) (Or.inl rfl) (.int .i64 0)).set (p := ⟨m, 3, none⟩) (Or.inl rfl) (.string ⟨#[]⟩))
  clear g0 g1 g2 g3 gf0 gf1 gf2 gf3 q0 q1 qf0 qf1 p0 p1
  clear HG HQ HP HT
  generalize ((((w1.setCell ⟨m, 0, none⟩ (.bool false)).setCell ⟨m, 1, none⟩ (.int .i64 0)).setCell ⟨m, 2, none⟩ (.int .i64 0)).setCell ⟨m, 3, none⟩ (.string ⟨#[]⟩)) = w2 at *
  have HG := HG2
  have HQ := HQ2
  have HP := HP2
  have HT := HT2
  clear HG2 HQ2 HP2 HT2
  have g0 := HG.out.cell 0 rfl
  have gf0 := (HG.out.get 0 rfl).free
  have g1 := HG.out.cell 1 rfl
  have gf1 := (HG.out.get 1 rfl).free
  have g2 := HG.out.cell 2 rfl
  have gf2 := (HG.out.get 2 rfl).free
  have g3 := HG.out.cell 3 rfl
  have gf3 := (HG.out.get 3 rfl).free
  have q0 := HQ.out.cell 0 rfl
  have qf0 := (HQ.out.get 0 rfl).free
  have q1 := HQ.out.cell 1 rfl
  have qf1 := (HQ.out.get 1 rfl).free
  have p0 := HP.out.cell 0 rfl
  have p1 := HP.out.cell 1 rfl
  go_wp2_with fail
  have HG2 := Lib.hid (show RowAt ((w2.setCell ⟨w.heap.size + 1, 0, none⟩ (.int .i64 0)).setCell ⟨w.heap.size + 1, 1, none⟩ (.string ⟨#[]⟩)) m [.bool false, .int .i64 0, .int .i64 0, .string ⟨#[]⟩] from ((HG.out.other (p := 0) (.int .i64 0) hm2).other (p := 1) (.string ⟨#[]⟩) hm2))
  have HQ2 := Lib.hid (show RowAt ((w2.setCell ⟨w.heap.size + 1, 0, none⟩ (.int .i64 0)).setCell ⟨w.heap.size + 1, 1, none⟩ (.string ⟨#[]⟩)) (w.heap.size + 1) [.int .i64 0, .string ⟨#[]⟩] from ((HQ.out.put 0 (.int .i64 0) _ rfl).put 1 (.string ⟨#[]⟩) _ rfl))
  have HP2 := Lib.hid ((HP.out.other (p := 0) (.int .i64 0) (Nat.succ_ne_self _)).other (p := 1) (.string ⟨#[]⟩) (Nat.succ_ne_self _))
  have HT2 := Lib.hid ((HT.out.set (p := ⟨w.heap.size + 1, 0, none⟩) (Or.inr (Nat.le_succ _)) (.int .i64 0)).set (p := ⟨w.heap.size + 1, 1, none⟩) (Or.inr (Nat.le_succ _)) (.string ⟨#[]⟩))
  clear g0 g1 g2 g3 gf0 gf1 gf2 gf3 q0 q1 qf0 qf1 p0 p1
  clear HG HQ HP HT
  have HG := HG2
  have HQ := HQ2
  have HP := HP2
  have HT := HT2
  clear HG2 HQ2 HP2 HT2
  have s0 := HQ.out.cell 0 rfl
  have s1 := HQ.out.cell 1 rfl
  exact bodyPost_ret (v := .tuple #[.agg #[.int .i64 0, .string ⟨#[]⟩], .bool false, .int .i64 5]) (by simp [results, Try.results15, go_sem, s0, s1]) rfl ⟨by first | (rw [HE.out]; done) | (rw [HE.out]; rfl), by rw [HE.out]; exact HG.out, HT.out⟩
set_option maxHeartbeats 1000000 in
theorem rtake_self (m : Nat) (s : Gs) (p : Pc) (w : World) (h : RowAt w m (gsV s)) (hP : ¬ (p.pid < 0 ∨ 255 < p.pid)) (h8 : p.pid ≠ 8) (hz : ¬ 600 < p.info.size) : Calls Try.prog 15 #[.pointer (some ⟨m, 0, none⟩), pcV p] w (RTakeTo m w (takeD s p)) := by
  obtain ⟨on, pid, left, T⟩ := s
  obtain ⟨P, I⟩ := p
  simp only [gsV] at h
  have hmw : m < w.heap.size := h.lt
  have hm0 : m ≠ w.heap.size := by omega
  have hm1 : m ≠ w.heap.size + 1 := by omega
  have hm2 : w.heap.size + 1 ≠ m := by omega
  have HG := Lib.hid ((h.alloc (.cells #[.int .i64 P, .string I] 45)).alloc (.cells #[.int .i64 0, .string ⟨#[]⟩] 45))
  have HP := Lib.hid ((RowAt.new w w.heap.size rfl [.int .i64 P, .string I] 45).alloc (.cells #[.int .i64 0, .string ⟨#[]⟩] 45))
  have HQ := Lib.hid (RowAt.new (w.alloc (.cells #[.int .i64 P, .string I] 45)) (w.heap.size + 1) (by simp) [.int .i64 0, .string ⟨#[]⟩] 45)
  have HT := Lib.hid (((Turn.refl (fun k => k = m) w).alloc (.cells #[.int .i64 P, .string I] 45)).alloc (.cells #[.int .i64 0, .string ⟨#[]⟩] 45))
  clear h
  simp only at hP h8 hz
  have HE := Lib.hid (show takeD ⟨on, pid, left, T⟩ ⟨P, I⟩ = (⟨on, pid, left, T⟩, ⟨P, I⟩, true, 0) from by unfold takeD; rw [if_neg hP, if_pos h8, if_neg hz])
  have hP0 : ¬ P < 0 := fun hh => hP (Or.inl hh)
  have hP1 : ¬ 255 < P := fun hh => hP (Or.inr hh)
  clear hP
  unfold RTakeTo
  unfold pcV
  go_enter Try.func15, Try.ntmps15
  go_upto_region 1 with (fail)
  generalize (w.alloc (.cells #[.int .i64 P, .string I] 45)).alloc (.cells #[.int .i64 0, .string ⟨#[]⟩] 45) = w1 at *
  have g0 := HG.out.cell 0 rfl
  have gf0 := (HG.out.get 0 rfl).free
  have g1 := HG.out.cell 1 rfl
  have gf1 := (HG.out.get 1 rfl).free
  have g2 := HG.out.cell 2 rfl
  have gf2 := (HG.out.get 2 rfl).free
  have g3 := HG.out.cell 3 rfl
  have gf3 := (HG.out.get 3 rfl).free
  have q0 := HQ.out.cell 0 rfl
  have qf0 := (HQ.out.get 0 rfl).free
  have q1 := HQ.out.cell 1 rfl
  have qf1 := (HQ.out.get 1 rfl).free
  have p0 := HP.out.cell 0 rfl
  have p1 := HP.out.cell 1 rfl
  go_wp2_with fail
  have HG2 := Lib.hid (show RowAt ((w1.setCell ⟨w.heap.size + 1, 0, none⟩ (.int .i64 P)).setCell ⟨w.heap.size + 1, 1, none⟩ (.string I)) m [.bool on, .int .i64 pid, .int .i64 left, .string T] from ((HG.out.other (p := 0) (.int .i64 P) hm2).other (p := 1) (.string I) hm2))
  have HQ2 := Lib.hid (show RowAt ((w1.setCell ⟨w.heap.size + 1, 0, none⟩ (.int .i64 P)).setCell ⟨w.heap.size + 1, 1, none⟩ (.string I)) (w.heap.size + 1) [.int .i64 P, .string I] from ((HQ.out.put 0 (.int .i64 P) _ rfl).put 1 (.string I) _ rfl))
  have HP2 := Lib.hid ((HP.out.other (p := 0) (.int .i64 P) (Nat.succ_ne_self _)).other (p := 1) (.string I) (Nat.succ_ne_self _))
  have HT2 := Lib.hid ((HT.out.set (p := ⟨w.heap.size + 1, 0, none⟩) (Or.inr (Nat.le_succ _)) (.int .i64 P)).set (p := ⟨w.heap.size + 1, 1, none⟩) (Or.inr (Nat.le_succ _)) (.string I))
  clear g0 g1 g2 g3 gf0 gf1 gf2 gf3 q0 q1 qf0 qf1 p0 p1
  clear HG HQ HP HT
  have HG := HG2
  have HQ := HQ2
  have HP := HP2
  have HT := HT2
  clear HG2 HQ2 HP2 HT2
  have s0 := HQ.out.cell 0 rfl
  have s1 := HQ.out.cell 1 rfl
  exact bodyPost_ret (v := .tuple #[.agg #[.int .i64 P, .string I], .bool true, .int .i64 0]) (by simp [results, Try.results15, go_sem, s0, s1]) rfl ⟨by first | (rw [HE.out]; done) | (rw [HE.out]; rfl), by rw [HE.out]; exact HG.out, HT.out⟩
set_option maxHeartbeats 1000000 in
theorem rtake_none (m : Nat) (s : Gs) (p : Pc) (w : World) (h : RowAt w m (gsV s)) (h8 : p.pid = 8) (hI : p.info.data.toList = []) : Calls Try.prog 15 #[.pointer (some ⟨m, 0, none⟩), pcV p] w (RTakeTo m w (takeD s p)) := by
  obtain ⟨on, pid, left, T⟩ := s
  obtain ⟨P, I⟩ := p
  simp only [gsV] at h
  have hmw : m < w.heap.size := h.lt
  have hm0 : m ≠ w.heap.size := by omega
  have hm1 : m ≠ w.heap.size + 1 := by omega
  have hm2 : w.heap.size + 1 ≠ m := by omega
  have HG := Lib.hid ((h.alloc (.cells #[.int .i64 P, .string I] 45)).alloc (.cells #[.int .i64 0, .string ⟨#[]⟩] 45))
  have HP := Lib.hid ((RowAt.new w w.heap.size rfl [.int .i64 P, .string I] 45).alloc (.cells #[.int .i64 0, .string ⟨#[]⟩] 45))
  have HQ := Lib.hid (RowAt.new (w.alloc (.cells #[.int .i64 P, .string I] 45)) (w.heap.size + 1) (by simp) [.int .i64 0, .string ⟨#[]⟩] 45)
  have HT := Lib.hid (((Turn.refl (fun k => k = m) w).alloc (.cells #[.int .i64 P, .string I] 45)).alloc (.cells #[.int .i64 0, .string ⟨#[]⟩] 45))
  clear h
  simp only at h8 hI
  subst h8
  have hsz : I.size = 0 := by rw [show I.size = I.data.toList.length from by simp, hI]; rfl
  have HE := Lib.hid (show takeD ⟨on, pid, left, T⟩ ⟨8, I⟩ = (zeroG, zeroP, false, 4) from by unfold takeD; rw [if_neg (show ¬ ((8 : Int) < 0 ∨ 255 < (8 : Int)) by decide), if_neg (show ¬ ((8 : Int) ≠ 8) by decide)]; simp only [hI])
  clear hI
  unfold RTakeTo
  unfold pcV
  go_enter Try.func15, Try.ntmps15
  go_upto_region 1 with (fail)
  generalize (w.alloc (.cells #[.int .i64 8, .string I] 45)).alloc (.cells #[.int .i64 0, .string ⟨#[]⟩] 45) = w1 at *
  have g0 := HG.out.cell 0 rfl
  have gf0 := (HG.out.get 0 rfl).free
  have g1 := HG.out.cell 1 rfl
  have gf1 := (HG.out.get 1 rfl).free
  have g2 := HG.out.cell 2 rfl
  have gf2 := (HG.out.get 2 rfl).free
  have g3 := HG.out.cell 3 rfl
  have gf3 := (HG.out.get 3 rfl).free
  have q0 := HQ.out.cell 0 rfl
  have qf0 := (HQ.out.get 0 rfl).free
  have q1 := HQ.out.cell 1 rfl
  have qf1 := (HQ.out.get 1 rfl).free
  have p0 := HP.out.cell 0 rfl
  have p1 := HP.out.cell 1 rfl
  go_upto_region 10 with (fail)
  have HG2 := Lib.hid (show RowAt ((((w1.setCell ⟨m, 0, none⟩ (.bool false)).setCell ⟨m, 1, none⟩ (.int .i64 0)).setCell ⟨m, 2, none⟩ (.int .i64 0)).setCell ⟨m, 3, none⟩ (.string ⟨#[]⟩)) m [.bool false, .int .i64 0, .int .i64 0, .string ⟨#[]⟩] from ((((HG.out.put 0 (.bool false) _ rfl).put 1 (.int .i64 0) _ rfl).put 2 (.int .i64 0) _ rfl).put 3 (.string ⟨#[]⟩) _ rfl))
  have HQ2 := Lib.hid (show RowAt ((((w1.setCell ⟨m, 0, none⟩ (.bool false)).setCell ⟨m, 1, none⟩ (.int .i64 0)).setCell ⟨m, 2, none⟩ (.int .i64 0)).setCell ⟨m, 3, none⟩ (.string ⟨#[]⟩)) (w.heap.size + 1) [.int .i64 0, .string ⟨#[]⟩] from ((((HQ.out.other (p := 0) (.bool false) hm1).other (p := 1) (.int .i64 0) hm1).other (p := 2) (.int .i64 0) hm1).other (p := 3) (.string ⟨#[]⟩) hm1))
  have HP2 := Lib.hid ((((HP.out.other (p := 0) (.bool false) hm0).other (p := 1) (.int .i64 0) hm0).other (p := 2) (.int .i64 0) hm0).other (p := 3) (.string ⟨#[]⟩) hm0)
  have HT2 := Lib.hid ((((HT.out.set (p := ⟨m, 0, none⟩) (Or.inl rfl) (.bool false)).set (p := ⟨m, 1, none⟩) (Or.inl rfl) (.int .i64 0)).set (p := ⟨m, 2, none⟩) (Or.inl rfl) (.int .i64 0)).set (p := ⟨m, 3, none⟩) (Or.inl rfl) (.string ⟨#[]⟩))
  clear g0 g1 g2 g3 gf0 gf1 gf2 gf3 q0 q1 qf0 qf1 p0 p1
  clear HG HQ HP HT
  generalize ((((w1.setCell ⟨m, 0, none⟩ (.bool false)).setCell ⟨m, 1, none⟩ (.int .i64 0)).setCell ⟨m, 2, none⟩ (.int .i64 0)).setCell ⟨m, 3, none⟩ (.string ⟨#[]⟩)) = w2 at *
  have HG := HG2
  have HQ := HQ2
  have HP := HP2
  have HT := HT2
  clear HG2 HQ2 HP2 HT2
  have g0 := HG.out.cell 0 rfl
  have gf0 := (HG.out.get 0 rfl).free
  have g1 := HG.out.cell 1 rfl
  have gf1 := (HG.out.get 1 rfl).free
  have g2 := HG.out.cell 2 rfl
  have gf2 := (HG.out.get 2 rfl).free
  have g3 := HG.out.cell 3 rfl
  have gf3 := (HG.out.get 3 rfl).free
  have q0 := HQ.out.cell 0 rfl
  have qf0 := (HQ.out.get 0 rfl).free
  have q1 := HQ.out.cell 1 rfl
  have qf1 := (HQ.out.get 1 rfl).free
  have p0 := HP.out.cell 0 rfl
  have p1 := HP.out.cell 1 rfl
  go_wp2_with fail
  have HG2 := Lib.hid (show RowAt ((w2.setCell ⟨w.heap.size + 1, 0, none⟩ (.int .i64 0)).setCell ⟨w.heap.size + 1, 1, none⟩ (.string ⟨#[]⟩)) m [.bool false, .int .i64 0, .int .i64 0, .string ⟨#[]⟩] from ((HG.out.other (p := 0) (.int .i64 0) hm2).other (p := 1) (.string ⟨#[]⟩) hm2))
  have HQ2 := Lib.hid (show RowAt ((w2.setCell ⟨w.heap.size + 1, 0, none⟩ (.int .i64 0)).setCell ⟨w.heap.size + 1, 1, none⟩ (.string ⟨#[]⟩)) (w.heap.size + 1) [.int .i64 0, .string ⟨#[]⟩] from ((HQ.out.put 0 (.int .i64 0) _ rfl).put 1 (.string ⟨#[]⟩) _ rfl))
  have HP2 := Lib.hid ((HP.out.other (p := 0) (.int .i64 0) (Nat.succ_ne_self _)).other (p := 1) (.string ⟨#[]⟩) (Nat.succ_ne_self _))
  have HT2 := Lib.hid ((HT.out.set (p := ⟨w.heap.size + 1, 0, none⟩) (Or.inr (Nat.le_succ _)) (.int .i64 0)).set (p := ⟨w.heap.size + 1, 1, none⟩) (Or.inr (Nat.le_succ _)) (.string ⟨#[]⟩))
  clear g0 g1 g2 g3 gf0 gf1 gf2 gf3 q0 q1 qf0 qf1 p0 p1
  clear HG HQ HP HT
  have HG := HG2
  have HQ := HQ2
  have HP := HP2
  have HT := HT2
  clear HG2 HQ2 HP2 HT2
  have s0 := HQ.out.cell 0 rfl
  have s1 := HQ.out.cell 1 rfl
  exact bodyPost_ret (v := .tuple #[.agg #[.int .i64 0, .string ⟨#[]⟩], .bool false, .int .i64 4]) (by simp [results, Try.results15, go_sem, s0, s1]) rfl ⟨by first | (rw [HE.out]; done) | (rw [HE.out]; rfl), by rw [HE.out]; exact HG.out, HT.out⟩
set_option maxHeartbeats 1000000 in
theorem rtake_head (m : Nat) (s : Gs) (p : Pc) (w : World) (h : RowAt w m (gsV s)) (x : UInt8) (h8 : p.pid = 8) (hI : p.info.data.toList = [x]) (hx : 128 ≤ int8 x) : Calls Try.prog 15 #[.pointer (some ⟨m, 0, none⟩), pcV p] w (RTakeTo m w (takeD s p)) := by
  obtain ⟨on, pid, left, T⟩ := s
  obtain ⟨P, I⟩ := p
  simp only [gsV] at h
  have hmw : m < w.heap.size := h.lt
  have hm0 : m ≠ w.heap.size := by omega
  have hm1 : m ≠ w.heap.size + 1 := by omega
  have hm2 : w.heap.size + 1 ≠ m := by omega
  have HG := Lib.hid ((h.alloc (.cells #[.int .i64 P, .string I] 45)).alloc (.cells #[.int .i64 0, .string ⟨#[]⟩] 45))
  have HP := Lib.hid ((RowAt.new w w.heap.size rfl [.int .i64 P, .string I] 45).alloc (.cells #[.int .i64 0, .string ⟨#[]⟩] 45))
  have HQ := Lib.hid (RowAt.new (w.alloc (.cells #[.int .i64 P, .string I] 45)) (w.heap.size + 1) (by simp) [.int .i64 0, .string ⟨#[]⟩] 45)
  have HT := Lib.hid (((Turn.refl (fun k => k = m) w).alloc (.cells #[.int .i64 P, .string I] 45)).alloc (.cells #[.int .i64 0, .string ⟨#[]⟩] 45))
  clear h
  simp only at h8 hI
  subst h8
  have hsz : I.size = 1 := by rw [show I.size = I.data.toList.length from by simp, hI]; rfl
  have hi0 : ∀ W, (Instr.index 9 (.string I) (.int .i64 0)).run Try.prog W = .ok (.int .u8 (int8 x)) W := fun W => index_text I 0 x (by rw [hI]; rfl) W
  have HE := Lib.hid (show takeD ⟨on, pid, left, T⟩ ⟨8, I⟩ = (zeroG, zeroP, false, 4) from by unfold takeD; rw [if_neg (show ¬ ((8 : Int) < 0 ∨ 255 < (8 : Int)) by decide), if_neg (show ¬ ((8 : Int) ≠ 8) by decide)]; simp only [hI]; rw [if_pos hx])
  generalize int8 x = X at *
  clear hI
  unfold RTakeTo
  unfold pcV
  go_enter Try.func15, Try.ntmps15
  go_upto_region 1 with (fail)
  generalize (w.alloc (.cells #[.int .i64 8, .string I] 45)).alloc (.cells #[.int .i64 0, .string ⟨#[]⟩] 45) = w1 at *
  have g0 := HG.out.cell 0 rfl
  have gf0 := (HG.out.get 0 rfl).free
  have g1 := HG.out.cell 1 rfl
  have gf1 := (HG.out.get 1 rfl).free
  have g2 := HG.out.cell 2 rfl
  have gf2 := (HG.out.get 2 rfl).free
  have g3 := HG.out.cell 3 rfl
  have gf3 := (HG.out.get 3 rfl).free
  have q0 := HQ.out.cell 0 rfl
  have qf0 := (HQ.out.get 0 rfl).free
  have q1 := HQ.out.cell 1 rfl
  have qf1 := (HQ.out.get 1 rfl).free
  have p0 := HP.out.cell 0 rfl
  have p1 := HP.out.cell 1 rfl
  go_upto_region 10 with (fail)
  have HG2 := Lib.hid (show RowAt ((((w1.setCell ⟨m, 0, none⟩ (.bool false)).setCell ⟨m, 1, none⟩ (.int .i64 0)).setCell ⟨m, 2, none⟩ (.int .i64 0)).setCell ⟨m, 3, none⟩ (.string ⟨#[]⟩)) m [.bool false, .int .i64 0, .int .i64 0, .string ⟨#[]⟩] from ((((HG.out.put 0 (.bool false) _ rfl).put 1 (.int .i64 0) _ rfl).put 2 (.int .i64 0) _ rfl).put 3 (.string ⟨#[]⟩) _ rfl))
  have HQ2 := Lib.hid (show RowAt ((((w1.setCell ⟨m, 0, none⟩ (.bool false)).setCell ⟨m, 1, none⟩ (.int .i64 0)).setCell ⟨m, 2, none⟩ (.int .i64 0)).setCell ⟨m, 3, none⟩ (.string ⟨#[]⟩)) (w.heap.size + 1) [.int .i64 0, .string ⟨#[]⟩] from ((((HQ.out.other (p := 0) (.bool false) hm1).other (p := 1) (.int .i64 0) hm1).other (p := 2) (.int .i64 0) hm1).other (p := 3) (.string ⟨#[]⟩) hm1))
  have HP2 := Lib.hid ((((HP.out.other (p := 0) (.bool false) hm0).other (p := 1) (.int .i64 0) hm0).other (p := 2) (.int .i64 0) hm0).other (p := 3) (.string ⟨#[]⟩) hm0)
  have HT2 := Lib.hid ((((HT.out.set (p := ⟨m, 0, none⟩) (Or.inl rfl) (.bool false)).set (p := ⟨m, 1, none⟩) (Or.inl rfl) (.int .i64 0)).set (p := ⟨m, 2, none⟩) (Or.inl rfl) (.int .i64 0)).set (p := ⟨m, 3, none⟩) (Or.inl rfl) (.string ⟨#[]⟩))
  clear g0 g1 g2 g3 gf0 gf1 gf2 gf3 q0 q1 qf0 qf1 p0 p1
  clear HG HQ HP HT
  generalize ((((w1.setCell ⟨m, 0, none⟩ (.bool false)).setCell ⟨m, 1, none⟩ (.int .i64 0)).setCell ⟨m, 2, none⟩ (.int .i64 0)).setCell ⟨m, 3, none⟩ (.string ⟨#[]⟩)) = w2 at *
  have HG := HG2
  have HQ := HQ2
  have HP := HP2
  have HT := HT2
  clear HG2 HQ2 HP2 HT2
  have g0 := HG.out.cell 0 rfl
  have gf0 := (HG.out.get 0 rfl).free
  have g1 := HG.out.cell 1 rfl
  have gf1 := (HG.out.get 1 rfl).free
  have g2 := HG.out.cell 2 rfl
  have gf2 := (HG.out.get 2 rfl).free
  have g3 := HG.out.cell 3 rfl
  have gf3 := (HG.out.get 3 rfl).free
  have q0 := HQ.out.cell 0 rfl
  have qf0 := (HQ.out.get 0 rfl).free
  have q1 := HQ.out.cell 1 rfl
  have qf1 := (HQ.out.get 1 rfl).free
  have p0 := HP.out.cell 0 rfl
  have p1 := HP.out.cell 1 rfl
  go_wp2_with fail
  have HG2 := Lib.hid (show RowAt ((w2.setCell ⟨w.heap.size + 1, 0, none⟩ (.int .i64 0)).setCell ⟨w.heap.size + 1, 1, none⟩ (.string ⟨#[]⟩)) m [.bool false, .int .i64 0, .int .i64 0, .string ⟨#[]⟩] from ((HG.out.other (p := 0) (.int .i64 0) hm2).other (p := 1) (.string ⟨#[]⟩) hm2))
  have HQ2 := Lib.hid (show RowAt ((w2.setCell ⟨w.heap.size + 1, 0, none⟩ (.int .i64 0)).setCell ⟨w.heap.size + 1, 1, none⟩ (.string ⟨#[]⟩)) (w.heap.size + 1) [.int .i64 0, .string ⟨#[]⟩] from ((HQ.out.put 0 (.int .i64 0) _ rfl).put 1 (.string ⟨#[]⟩) _ rfl))
  have HP2 := Lib.hid ((HP.out.other (p := 0) (.int .i64 0) (Nat.succ_ne_self _)).other (p := 1) (.string ⟨#[]⟩) (Nat.succ_ne_self _))
  have HT2 := Lib.hid ((HT.out.set (p := ⟨w.heap.size + 1, 0, none⟩) (Or.inr (Nat.le_succ _)) (.int .i64 0)).set (p := ⟨w.heap.size + 1, 1, none⟩) (Or.inr (Nat.le_succ _)) (.string ⟨#[]⟩))
  clear g0 g1 g2 g3 gf0 gf1 gf2 gf3 q0 q1 qf0 qf1 p0 p1
  clear HG HQ HP HT
  have HG := HG2
  have HQ := HQ2
  have HP := HP2
  have HT := HT2
  clear HG2 HQ2 HP2 HT2
  have s0 := HQ.out.cell 0 rfl
  have s1 := HQ.out.cell 1 rfl
  exact bodyPost_ret (v := .tuple #[.agg #[.int .i64 0, .string ⟨#[]⟩], .bool false, .int .i64 4]) (by simp [results, Try.results15, go_sem, s0, s1]) rfl ⟨by first | (rw [HE.out]; done) | (rw [HE.out]; rfl), by rw [HE.out]; exact HG.out, HT.out⟩
set_option maxHeartbeats 1000000 in
theorem rtake_next_off (m : Nat) (s : Gs) (p : Pc) (w : World) (h : RowAt w m (gsV s)) (x : UInt8) (t : List UInt8) (h8 : p.pid = 8) (hI : p.info.data.toList = x :: t) (hx : ¬ 128 ≤ int8 x) (hzT : s.text.size ≤ 600) (hzI : p.info.size ≤ 2000) (hoff : s.on = false ∨ s.on = true ∧ int8 x + 1 ≠ s.left) : Calls Try.prog 15 #[.pointer (some ⟨m, 0, none⟩), pcV p] w (RTakeTo m w (takeD s p)) := by
  obtain ⟨on, pid, left, T⟩ := s
  obtain ⟨P, I⟩ := p
  simp only [gsV] at h
  have hmw : m < w.heap.size := h.lt
  have hm0 : m ≠ w.heap.size := by omega
  have hm1 : m ≠ w.heap.size + 1 := by omega
  have hm2 : w.heap.size + 1 ≠ m := by omega
  have HG := Lib.hid ((h.alloc (.cells #[.int .i64 P, .string I] 45)).alloc (.cells #[.int .i64 0, .string ⟨#[]⟩] 45))
  have HP := Lib.hid ((RowAt.new w w.heap.size rfl [.int .i64 P, .string I] 45).alloc (.cells #[.int .i64 0, .string ⟨#[]⟩] 45))
  have HQ := Lib.hid (RowAt.new (w.alloc (.cells #[.int .i64 P, .string I] 45)) (w.heap.size + 1) (by simp) [.int .i64 0, .string ⟨#[]⟩] 45)
  have HT := Lib.hid (((Turn.refl (fun k => k = m) w).alloc (.cells #[.int .i64 P, .string I] 45)).alloc (.cells #[.int .i64 0, .string ⟨#[]⟩] 45))
  clear h
  simp only at *
  subst h8
  have hx0 := int8_low x
  have hsz : I.size = 1 + t.length := by rw [show I.size = I.data.toList.length from by simp, hI]; simp; omega
  have hi0 : ∀ W, (Instr.index 9 (.string I) (.int .i64 0)).run Try.prog W = .ok (.int .u8 (int8 x)) W := fun W => index_text I 0 x (by rw [hI]; rfl) W
  have hs1 : ∀ W, (Instr.slice 9 (.string I) (some (.int .i64 1)) none none).run Try.prog W = .ok (.string ⟨t.toArray⟩) W := fun W => by
    have k := slice_behind I 1 (by omega) W
    rw [hI] at k
    exact k
  have hS : (⟨t.toArray⟩ : ByteArray).size = t.length := by show t.toArray.size = _; simp
  have HE0 : takeD ⟨on, pid, left, T⟩ ⟨8, I⟩ = goOn ⟨on, pid, left, T⟩ (int8 x) t := by
    unfold takeD
    rw [if_neg (show ¬ ((8 : Int) < 0 ∨ 255 < (8 : Int)) by decide), if_neg (show ¬ ((8 : Int) ≠ 8) by decide)]
    simp only [hI]
    rw [if_neg hx]
  have HE := Lib.hid (show takeD ⟨on, pid, left, T⟩ ⟨8, I⟩ = (zeroG, zeroP, false, 7) from by
    rw [HE0]
    unfold goOn
    rw [if_pos]
    rcases hoff with h1 | ⟨h1, h2⟩
    · simp [h1]
    · simp [h2])
  clear HE0 hI
  have hz0 : ((I.size : Int) == 0) = false := by rw [beq_eq_false_iff_ne]; omega
  have hzS : (⟨t.toArray⟩ : ByteArray).size ≤ 2000 := by omega
  clear hsz
  generalize (⟨t.toArray⟩ : ByteArray) = S at *
  generalize t.length = n at *
  generalize int8 x = X at *
  have z0 : IntKind.i64.wrap X = X := i64_small _ (by omega) (by omega)
  have z2 : IntKind.i64.wrap (X + 1) = X + 1 := i64_small _ (by omega) (by omega)
  unfold RTakeTo
  unfold pcV
  go_enter Try.func15, Try.ntmps15
  go_upto_region 1 with (fail)
  generalize (w.alloc (.cells #[.int .i64 8, .string I] 45)).alloc (.cells #[.int .i64 0, .string ⟨#[]⟩] 45) = w1 at *
  rcases hoff with h1 | ⟨h1, h2⟩
  · subst h1
    have g0 := HG.out.cell 0 rfl
    have gf0 := (HG.out.get 0 rfl).free
    have g1 := HG.out.cell 1 rfl
    have gf1 := (HG.out.get 1 rfl).free
    have g2 := HG.out.cell 2 rfl
    have gf2 := (HG.out.get 2 rfl).free
    have g3 := HG.out.cell 3 rfl
    have gf3 := (HG.out.get 3 rfl).free
    have q0 := HQ.out.cell 0 rfl
    have qf0 := (HQ.out.get 0 rfl).free
    have q1 := HQ.out.cell 1 rfl
    have qf1 := (HQ.out.get 1 rfl).free
    have p0 := HP.out.cell 0 rfl
    have p1 := HP.out.cell 1 rfl
    go_upto_region 19 with (fail)
    have HG2 := Lib.hid (show RowAt ((((w1.setCell ⟨m, 0, none⟩ (.bool false)).setCell ⟨m, 1, none⟩ (.int .i64 0)).setCell ⟨m, 2, none⟩ (.int .i64 0)).setCell ⟨m, 3, none⟩ (.string ⟨#[]⟩)) m [.bool false, .int .i64 0, .int .i64 0, .string ⟨#[]⟩] from ((((HG.out.put 0 (.bool false) _ rfl).put 1 (.int .i64 0) _ rfl).put 2 (.int .i64 0) _ rfl).put 3 (.string ⟨#[]⟩) _ rfl))
    have HQ2 := Lib.hid (show RowAt ((((w1.setCell ⟨m, 0, none⟩ (.bool false)).setCell ⟨m, 1, none⟩ (.int .i64 0)).setCell ⟨m, 2, none⟩ (.int .i64 0)).setCell ⟨m, 3, none⟩ (.string ⟨#[]⟩)) (w.heap.size + 1) [.int .i64 0, .string ⟨#[]⟩] from ((((HQ.out.other (p := 0) (.bool false) hm1).other (p := 1) (.int .i64 0) hm1).other (p := 2) (.int .i64 0) hm1).other (p := 3) (.string ⟨#[]⟩) hm1))
    have HP2 := Lib.hid ((((HP.out.other (p := 0) (.bool false) hm0).other (p := 1) (.int .i64 0) hm0).other (p := 2) (.int .i64 0) hm0).other (p := 3) (.string ⟨#[]⟩) hm0)
    have HT2 := Lib.hid ((((HT.out.set (p := ⟨m, 0, none⟩) (Or.inl rfl) (.bool false)).set (p := ⟨m, 1, none⟩) (Or.inl rfl) (.int .i64 0)).set (p := ⟨m, 2, none⟩) (Or.inl rfl) (.int .i64 0)).set (p := ⟨m, 3, none⟩) (Or.inl rfl) (.string ⟨#[]⟩))
    clear g0 g1 g2 g3 gf0 gf1 gf2 gf3 q0 q1 qf0 qf1 p0 p1
    clear HG HQ HP HT
    generalize ((((w1.setCell ⟨m, 0, none⟩ (.bool false)).setCell ⟨m, 1, none⟩ (.int .i64 0)).setCell ⟨m, 2, none⟩ (.int .i64 0)).setCell ⟨m, 3, none⟩ (.string ⟨#[]⟩)) = w2 at *
    have HG := HG2
    have HQ := HQ2
    have HP := HP2
    have HT := HT2
    clear HG2 HQ2 HP2 HT2
    have g0 := HG.out.cell 0 rfl
    have gf0 := (HG.out.get 0 rfl).free
    have g1 := HG.out.cell 1 rfl
    have gf1 := (HG.out.get 1 rfl).free
    have g2 := HG.out.cell 2 rfl
    have gf2 := (HG.out.get 2 rfl).free
    have g3 := HG.out.cell 3 rfl
    have gf3 := (HG.out.get 3 rfl).free
    have q0 := HQ.out.cell 0 rfl
    have qf0 := (HQ.out.get 0 rfl).free
    have q1 := HQ.out.cell 1 rfl
    have qf1 := (HQ.out.get 1 rfl).free
    have p0 := HP.out.cell 0 rfl
    have p1 := HP.out.cell 1 rfl
    go_wp2_with fail
    have HG2 := Lib.hid (show RowAt ((w2.setCell ⟨w.heap.size + 1, 0, none⟩ (.int .i64 0)).setCell ⟨w.heap.size + 1, 1, none⟩ (.string ⟨#[]⟩)) m [.bool false, .int .i64 0, .int .i64 0, .string ⟨#[]⟩] from ((HG.out.other (p := 0) (.int .i64 0) hm2).other (p := 1) (.string ⟨#[]⟩) hm2))
    have HQ2 := Lib.hid (show RowAt ((w2.setCell ⟨w.heap.size + 1, 0, none⟩ (.int .i64 0)).setCell ⟨w.heap.size + 1, 1, none⟩ (.string ⟨#[]⟩)) (w.heap.size + 1) [.int .i64 0, .string ⟨#[]⟩] from ((HQ.out.put 0 (.int .i64 0) _ rfl).put 1 (.string ⟨#[]⟩) _ rfl))
    have HP2 := Lib.hid ((HP.out.other (p := 0) (.int .i64 0) (Nat.succ_ne_self _)).other (p := 1) (.string ⟨#[]⟩) (Nat.succ_ne_self _))
    have HT2 := Lib.hid ((HT.out.set (p := ⟨w.heap.size + 1, 0, none⟩) (Or.inr (Nat.le_succ _)) (.int .i64 0)).set (p := ⟨w.heap.size + 1, 1, none⟩) (Or.inr (Nat.le_succ _)) (.string ⟨#[]⟩))
    clear g0 g1 g2 g3 gf0 gf1 gf2 gf3 q0 q1 qf0 qf1 p0 p1
    clear HG HQ HP HT
    have HG := HG2
    have HQ := HQ2
    have HP := HP2
    have HT := HT2
    clear HG2 HQ2 HP2 HT2
    have s0 := HQ.out.cell 0 rfl
    have s1 := HQ.out.cell 1 rfl
    exact bodyPost_ret (v := .tuple #[.agg #[.int .i64 0, .string ⟨#[]⟩], .bool false, .int .i64 7]) (by simp [results, Try.results15, go_sem, s0, s1]) rfl ⟨by first | (rw [HE.out]; done) | (rw [HE.out]; rfl), by rw [HE.out]; exact HG.out, HT.out⟩
  · subst h1
    have g0 := HG.out.cell 0 rfl
    have gf0 := (HG.out.get 0 rfl).free
    have g1 := HG.out.cell 1 rfl
    have gf1 := (HG.out.get 1 rfl).free
    have g2 := HG.out.cell 2 rfl
    have gf2 := (HG.out.get 2 rfl).free
    have g3 := HG.out.cell 3 rfl
    have gf3 := (HG.out.get 3 rfl).free
    have q0 := HQ.out.cell 0 rfl
    have qf0 := (HQ.out.get 0 rfl).free
    have q1 := HQ.out.cell 1 rfl
    have qf1 := (HQ.out.get 1 rfl).free
    have p0 := HP.out.cell 0 rfl
    have p1 := HP.out.cell 1 rfl
    go_upto_region 19 with (fail)
    have HG2 := Lib.hid (show RowAt ((((w1.setCell ⟨m, 0, none⟩ (.bool false)).setCell ⟨m, 1, none⟩ (.int .i64 0)).setCell ⟨m, 2, none⟩ (.int .i64 0)).setCell ⟨m, 3, none⟩ (.string ⟨#[]⟩)) m [.bool false, .int .i64 0, .int .i64 0, .string ⟨#[]⟩] from ((((HG.out.put 0 (.bool false) _ rfl).put 1 (.int .i64 0) _ rfl).put 2 (.int .i64 0) _ rfl).put 3 (.string ⟨#[]⟩) _ rfl))
    have HQ2 := Lib.hid (show RowAt ((((w1.setCell ⟨m, 0, none⟩ (.bool false)).setCell ⟨m, 1, none⟩ (.int .i64 0)).setCell ⟨m, 2, none⟩ (.int .i64 0)).setCell ⟨m, 3, none⟩ (.string ⟨#[]⟩)) (w.heap.size + 1) [.int .i64 0, .string ⟨#[]⟩] from ((((HQ.out.other (p := 0) (.bool false) hm1).other (p := 1) (.int .i64 0) hm1).other (p := 2) (.int .i64 0) hm1).other (p := 3) (.string ⟨#[]⟩) hm1))
    have HP2 := Lib.hid ((((HP.out.other (p := 0) (.bool false) hm0).other (p := 1) (.int .i64 0) hm0).other (p := 2) (.int .i64 0) hm0).other (p := 3) (.string ⟨#[]⟩) hm0)
    have HT2 := Lib.hid ((((HT.out.set (p := ⟨m, 0, none⟩) (Or.inl rfl) (.bool false)).set (p := ⟨m, 1, none⟩) (Or.inl rfl) (.int .i64 0)).set (p := ⟨m, 2, none⟩) (Or.inl rfl) (.int .i64 0)).set (p := ⟨m, 3, none⟩) (Or.inl rfl) (.string ⟨#[]⟩))
    clear g0 g1 g2 g3 gf0 gf1 gf2 gf3 q0 q1 qf0 qf1 p0 p1
    clear HG HQ HP HT
    generalize ((((w1.setCell ⟨m, 0, none⟩ (.bool false)).setCell ⟨m, 1, none⟩ (.int .i64 0)).setCell ⟨m, 2, none⟩ (.int .i64 0)).setCell ⟨m, 3, none⟩ (.string ⟨#[]⟩)) = w2 at *
    have HG := HG2
    have HQ := HQ2
    have HP := HP2
    have HT := HT2
    clear HG2 HQ2 HP2 HT2
    have g0 := HG.out.cell 0 rfl
    have gf0 := (HG.out.get 0 rfl).free
    have g1 := HG.out.cell 1 rfl
    have gf1 := (HG.out.get 1 rfl).free
    have g2 := HG.out.cell 2 rfl
    have gf2 := (HG.out.get 2 rfl).free
    have g3 := HG.out.cell 3 rfl
    have gf3 := (HG.out.get 3 rfl).free
    have q0 := HQ.out.cell 0 rfl
    have qf0 := (HQ.out.get 0 rfl).free
    have q1 := HQ.out.cell 1 rfl
    have qf1 := (HQ.out.get 1 rfl).free
    have p0 := HP.out.cell 0 rfl
    have p1 := HP.out.cell 1 rfl
    go_wp2_with fail
    have HG2 := Lib.hid (show RowAt ((w2.setCell ⟨w.heap.size + 1, 0, none⟩ (.int .i64 0)).setCell ⟨w.heap.size + 1, 1, none⟩ (.string ⟨#[]⟩)) m [.bool false, .int .i64 0, .int .i64 0, .string ⟨#[]⟩] from ((HG.out.other (p := 0) (.int .i64 0) hm2).other (p := 1) (.string ⟨#[]⟩) hm2))
    have HQ2 := Lib.hid (show RowAt ((w2.setCell ⟨w.heap.size + 1, 0, none⟩ (.int .i64 0)).setCell ⟨w.heap.size + 1, 1, none⟩ (.string ⟨#[]⟩)) (w.heap.size + 1) [.int .i64 0, .string ⟨#[]⟩] from ((HQ.out.put 0 (.int .i64 0) _ rfl).put 1 (.string ⟨#[]⟩) _ rfl))
    have HP2 := Lib.hid ((HP.out.other (p := 0) (.int .i64 0) (Nat.succ_ne_self _)).other (p := 1) (.string ⟨#[]⟩) (Nat.succ_ne_self _))
    have HT2 := Lib.hid ((HT.out.set (p := ⟨w.heap.size + 1, 0, none⟩) (Or.inr (Nat.le_succ _)) (.int .i64 0)).set (p := ⟨w.heap.size + 1, 1, none⟩) (Or.inr (Nat.le_succ _)) (.string ⟨#[]⟩))
    clear g0 g1 g2 g3 gf0 gf1 gf2 gf3 q0 q1 qf0 qf1 p0 p1
    clear HG HQ HP HT
    have HG := HG2
    have HQ := HQ2
    have HP := HP2
    have HT := HT2
    clear HG2 HQ2 HP2 HT2
    have s0 := HQ.out.cell 0 rfl
    have s1 := HQ.out.cell 1 rfl
    exact bodyPost_ret (v := .tuple #[.agg #[.int .i64 0, .string ⟨#[]⟩], .bool false, .int .i64 7]) (by simp [results, Try.results15, go_sem, s0, s1]) rfl ⟨by first | (rw [HE.out]; done) | (rw [HE.out]; rfl), by rw [HE.out]; exact HG.out, HT.out⟩
set_option maxHeartbeats 1000000 in
theorem rtake_next_long (m : Nat) (s : Gs) (p : Pc) (w : World) (h : RowAt w m (gsV s)) (x : UInt8) (t : List UInt8) (h8 : p.pid = 8) (hI : p.info.data.toList = x :: t) (hx : ¬ 128 ≤ int8 x) (hzT : s.text.size ≤ 600) (hzI : p.info.size ≤ 2000) (hon : s.on = true) (hleft : int8 x + 1 = s.left) (hlong : 600 < (s.text.size : Int) + t.length) : Calls Try.prog 15 #[.pointer (some ⟨m, 0, none⟩), pcV p] w (RTakeTo m w (takeD s p)) := by
  obtain ⟨on, pid, left, T⟩ := s
  obtain ⟨P, I⟩ := p
  simp only [gsV] at h
  have hmw : m < w.heap.size := h.lt
  have hm0 : m ≠ w.heap.size := by omega
  have hm1 : m ≠ w.heap.size + 1 := by omega
  have hm2 : w.heap.size + 1 ≠ m := by omega
  have HG := Lib.hid ((h.alloc (.cells #[.int .i64 P, .string I] 45)).alloc (.cells #[.int .i64 0, .string ⟨#[]⟩] 45))
  have HP := Lib.hid ((RowAt.new w w.heap.size rfl [.int .i64 P, .string I] 45).alloc (.cells #[.int .i64 0, .string ⟨#[]⟩] 45))
  have HQ := Lib.hid (RowAt.new (w.alloc (.cells #[.int .i64 P, .string I] 45)) (w.heap.size + 1) (by simp) [.int .i64 0, .string ⟨#[]⟩] 45)
  have HT := Lib.hid (((Turn.refl (fun k => k = m) w).alloc (.cells #[.int .i64 P, .string I] 45)).alloc (.cells #[.int .i64 0, .string ⟨#[]⟩] 45))
  clear h
  simp only at *
  subst h8
  subst hon
  have hx0 := int8_low x
  have hsz : I.size = 1 + t.length := by rw [show I.size = I.data.toList.length from by simp, hI]; simp; omega
  have hi0 : ∀ W, (Instr.index 9 (.string I) (.int .i64 0)).run Try.prog W = .ok (.int .u8 (int8 x)) W := fun W => index_text I 0 x (by rw [hI]; rfl) W
  have hs1 : ∀ W, (Instr.slice 9 (.string I) (some (.int .i64 1)) none none).run Try.prog W = .ok (.string ⟨t.toArray⟩) W := fun W => by
    have k := slice_behind I 1 (by omega) W
    rw [hI] at k
    exact k
  have hS : (⟨t.toArray⟩ : ByteArray).size = t.length := by show t.toArray.size = _; simp
  have HE0 : takeD ⟨true, pid, left, T⟩ ⟨8, I⟩ = goOn ⟨true, pid, left, T⟩ (int8 x) t := by
    unfold takeD
    rw [if_neg (show ¬ ((8 : Int) < 0 ∨ 255 < (8 : Int)) by decide), if_neg (show ¬ ((8 : Int) ≠ 8) by decide)]
    simp only [hI]
    rw [if_neg hx]
  have HE1 : (!(⟨true, pid, left, T⟩ : Gs).on || (int8 x) + 1 != (⟨true, pid, left, T⟩ : Gs).left) = false := by simp [hleft]
  have HE := Lib.hid (show takeD ⟨true, pid, left, T⟩ ⟨8, I⟩ = (zeroG, zeroP, false, 5) from by
    rw [HE0]
    unfold goOn
    rw [if_neg (by rw [HE1]; exact Bool.false_ne_true), if_pos (show 600 < (T.size : Int) + t.length from hlong)])
  clear HE0 HE1 hI
  have hz0 : ((I.size : Int) == 0) = false := by rw [beq_eq_false_iff_ne]; omega
  have hzS : (⟨t.toArray⟩ : ByteArray).size ≤ 2000 := by omega
  clear hsz
  generalize (⟨t.toArray⟩ : ByteArray) = S at *
  generalize t.length = n at *
  generalize int8 x = X at *
  have z0 : IntKind.i64.wrap X = X := i64_small _ (by omega) (by omega)
  have z2 : IntKind.i64.wrap (X + 1) = X + 1 := i64_small _ (by omega) (by omega)
  have zs : IntKind.i64.wrap ((T.size : Int) + (S.size : Int)) = (T.size : Int) + (S.size : Int) := i64_small _ (by omega) (by omega)
  subst hleft
  unfold RTakeTo
  unfold pcV
  go_enter Try.func15, Try.ntmps15
  go_upto_region 1 with (fail)
  generalize (w.alloc (.cells #[.int .i64 8, .string I] 45)).alloc (.cells #[.int .i64 0, .string ⟨#[]⟩] 45) = w1 at *
  have g0 := HG.out.cell 0 rfl
  have gf0 := (HG.out.get 0 rfl).free
  have g1 := HG.out.cell 1 rfl
  have gf1 := (HG.out.get 1 rfl).free
  have g2 := HG.out.cell 2 rfl
  have gf2 := (HG.out.get 2 rfl).free
  have g3 := HG.out.cell 3 rfl
  have gf3 := (HG.out.get 3 rfl).free
  have q0 := HQ.out.cell 0 rfl
  have qf0 := (HQ.out.get 0 rfl).free
  have q1 := HQ.out.cell 1 rfl
  have qf1 := (HQ.out.get 1 rfl).free
  have p0 := HP.out.cell 0 rfl
  have p1 := HP.out.cell 1 rfl
  go_upto_region 22 with (fail)
  have HG2 := Lib.hid (show RowAt ((((w1.setCell ⟨m, 0, none⟩ (.bool false)).setCell ⟨m, 1, none⟩ (.int .i64 0)).setCell ⟨m, 2, none⟩ (.int .i64 0)).setCell ⟨m, 3, none⟩ (.string ⟨#[]⟩)) m [.bool false, .int .i64 0, .int .i64 0, .string ⟨#[]⟩] from ((((HG.out.put 0 (.bool false) _ rfl).put 1 (.int .i64 0) _ rfl).put 2 (.int .i64 0) _ rfl).put 3 (.string ⟨#[]⟩) _ rfl))
  have HQ2 := Lib.hid (show RowAt ((((w1.setCell ⟨m, 0, none⟩ (.bool false)).setCell ⟨m, 1, none⟩ (.int .i64 0)).setCell ⟨m, 2, none⟩ (.int .i64 0)).setCell ⟨m, 3, none⟩ (.string ⟨#[]⟩)) (w.heap.size + 1) [.int .i64 0, .string ⟨#[]⟩] from ((((HQ.out.other (p := 0) (.bool false) hm1).other (p := 1) (.int .i64 0) hm1).other (p := 2) (.int .i64 0) hm1).other (p := 3) (.string ⟨#[]⟩) hm1))
  have HP2 := Lib.hid ((((HP.out.other (p := 0) (.bool false) hm0).other (p := 1) (.int .i64 0) hm0).other (p := 2) (.int .i64 0) hm0).other (p := 3) (.string ⟨#[]⟩) hm0)
  have HT2 := Lib.hid ((((HT.out.set (p := ⟨m, 0, none⟩) (Or.inl rfl) (.bool false)).set (p := ⟨m, 1, none⟩) (Or.inl rfl) (.int .i64 0)).set (p := ⟨m, 2, none⟩) (Or.inl rfl) (.int .i64 0)).set (p := ⟨m, 3, none⟩) (Or.inl rfl) (.string ⟨#[]⟩))
  clear g0 g1 g2 g3 gf0 gf1 gf2 gf3 q0 q1 qf0 qf1 p0 p1
  clear HG HQ HP HT
  generalize ((((w1.setCell ⟨m, 0, none⟩ (.bool false)).setCell ⟨m, 1, none⟩ (.int .i64 0)).setCell ⟨m, 2, none⟩ (.int .i64 0)).setCell ⟨m, 3, none⟩ (.string ⟨#[]⟩)) = w2 at *
  have HG := HG2
  have HQ := HQ2
  have HP := HP2
  have HT := HT2
  clear HG2 HQ2 HP2 HT2
  have g0 := HG.out.cell 0 rfl
  have gf0 := (HG.out.get 0 rfl).free
  have g1 := HG.out.cell 1 rfl
  have gf1 := (HG.out.get 1 rfl).free
  have g2 := HG.out.cell 2 rfl
  have gf2 := (HG.out.get 2 rfl).free
  have g3 := HG.out.cell 3 rfl
  have gf3 := (HG.out.get 3 rfl).free
  have q0 := HQ.out.cell 0 rfl
  have qf0 := (HQ.out.get 0 rfl).free
  have q1 := HQ.out.cell 1 rfl
  have qf1 := (HQ.out.get 1 rfl).free
  have p0 := HP.out.cell 0 rfl
  have p1 := HP.out.cell 1 rfl
  go_wp2_with fail
  have HG2 := Lib.hid (show RowAt ((w2.setCell ⟨w.heap.size + 1, 0, none⟩ (.int .i64 0)).setCell ⟨w.heap.size + 1, 1, none⟩ (.string ⟨#[]⟩)) m [.bool false, .int .i64 0, .int .i64 0, .string ⟨#[]⟩] from ((HG.out.other (p := 0) (.int .i64 0) hm2).other (p := 1) (.string ⟨#[]⟩) hm2))
  have HQ2 := Lib.hid (show RowAt ((w2.setCell ⟨w.heap.size + 1, 0, none⟩ (.int .i64 0)).setCell ⟨w.heap.size + 1, 1, none⟩ (.string ⟨#[]⟩)) (w.heap.size + 1) [.int .i64 0, .string ⟨#[]⟩] from ((HQ.out.put 0 (.int .i64 0) _ rfl).put 1 (.string ⟨#[]⟩) _ rfl))
  have HP2 := Lib.hid ((HP.out.other (p := 0) (.int .i64 0) (Nat.succ_ne_self _)).other (p := 1) (.string ⟨#[]⟩) (Nat.succ_ne_self _))
  have HT2 := Lib.hid ((HT.out.set (p := ⟨w.heap.size + 1, 0, none⟩) (Or.inr (Nat.le_succ _)) (.int .i64 0)).set (p := ⟨w.heap.size + 1, 1, none⟩) (Or.inr (Nat.le_succ _)) (.string ⟨#[]⟩))
  clear g0 g1 g2 g3 gf0 gf1 gf2 gf3 q0 q1 qf0 qf1 p0 p1
  clear HG HQ HP HT
  have HG := HG2
  have HQ := HQ2
  have HP := HP2
  have HT := HT2
  clear HG2 HQ2 HP2 HT2
  have s0 := HQ.out.cell 0 rfl
  have s1 := HQ.out.cell 1 rfl
  exact bodyPost_ret (v := .tuple #[.agg #[.int .i64 0, .string ⟨#[]⟩], .bool false, .int .i64 5]) (by simp [results, Try.results15, go_sem, s0, s1]) rfl ⟨by first | (rw [HE.out]; done) | (rw [HE.out]; rfl), by rw [HE.out]; exact HG.out, HT.out⟩
set_option maxHeartbeats 1000000 in
theorem rtake_next_more (m : Nat) (s : Gs) (p : Pc) (w : World) (h : RowAt w m (gsV s)) (x : UInt8) (t : List UInt8) (h8 : p.pid = 8) (hI : p.info.data.toList = x :: t) (hx : ¬ 128 ≤ int8 x) (hzT : s.text.size ≤ 600) (hzI : p.info.size ≤ 2000) (hon : s.on = true) (hleft : int8 x + 1 = s.left) (hfit : ¬ 600 < (s.text.size : Int) + t.length) (hk : 0 < int8 x) : Calls Try.prog 15 #[.pointer (some ⟨m, 0, none⟩), pcV p] w (RTakeTo m w (takeD s p)) := by
  obtain ⟨on, pid, left, T⟩ := s
  obtain ⟨P, I⟩ := p
  simp only [gsV] at h
  have hmw : m < w.heap.size := h.lt
  have hm0 : m ≠ w.heap.size := by omega
  have hm1 : m ≠ w.heap.size + 1 := by omega
  have hm2 : w.heap.size + 1 ≠ m := by omega
  have HG := Lib.hid ((h.alloc (.cells #[.int .i64 P, .string I] 45)).alloc (.cells #[.int .i64 0, .string ⟨#[]⟩] 45))
  have HP := Lib.hid ((RowAt.new w w.heap.size rfl [.int .i64 P, .string I] 45).alloc (.cells #[.int .i64 0, .string ⟨#[]⟩] 45))
  have HQ := Lib.hid (RowAt.new (w.alloc (.cells #[.int .i64 P, .string I] 45)) (w.heap.size + 1) (by simp) [.int .i64 0, .string ⟨#[]⟩] 45)
  have HT := Lib.hid (((Turn.refl (fun k => k = m) w).alloc (.cells #[.int .i64 P, .string I] 45)).alloc (.cells #[.int .i64 0, .string ⟨#[]⟩] 45))
  clear h
  simp only at *
  subst h8
  subst hon
  have hx0 := int8_low x
  have hsz : I.size = 1 + t.length := by rw [show I.size = I.data.toList.length from by simp, hI]; simp; omega
  have hi0 : ∀ W, (Instr.index 9 (.string I) (.int .i64 0)).run Try.prog W = .ok (.int .u8 (int8 x)) W := fun W => index_text I 0 x (by rw [hI]; rfl) W
  have hs1 : ∀ W, (Instr.slice 9 (.string I) (some (.int .i64 1)) none none).run Try.prog W = .ok (.string ⟨t.toArray⟩) W := fun W => by
    have k := slice_behind I 1 (by omega) W
    rw [hI] at k
    exact k
  have hS : (⟨t.toArray⟩ : ByteArray).size = t.length := by show t.toArray.size = _; simp
  have HE0 : takeD ⟨true, pid, left, T⟩ ⟨8, I⟩ = goOn ⟨true, pid, left, T⟩ (int8 x) t := by
    unfold takeD
    rw [if_neg (show ¬ ((8 : Int) < 0 ∨ 255 < (8 : Int)) by decide), if_neg (show ¬ ((8 : Int) ≠ 8) by decide)]
    simp only [hI]
    rw [if_neg hx]
  have HE1 : (!(⟨true, pid, left, T⟩ : Gs).on || (int8 x) + 1 != (⟨true, pid, left, T⟩ : Gs).left) = false := by simp [hleft]
  obtain ⟨N, hN⟩ : ∃ N, T ++ ⟨t.toArray⟩ = N := ⟨_, rfl⟩
  have HE := Lib.hid (show takeD ⟨true, pid, left, T⟩ ⟨8, I⟩ = (⟨true, pid, int8 x, N⟩, zeroP, false, 0) from by
    rw [HE0]
    unfold goOn
    rw [if_neg (by rw [HE1]; exact Bool.false_ne_true), if_neg (show ¬ 600 < (T.size : Int) + t.length from hfit), if_pos hk, ← hN])
  clear HE0 HE1 hI
  have ha := fun (W : World) => run_string_add_sum (P := Try.prog) (w := W) T ⟨t.toArray⟩ (by rw [hS]; omega)
  rw [hN] at ha
  clear hN
  have hz0 : ((I.size : Int) == 0) = false := by rw [beq_eq_false_iff_ne]; omega
  have hzS : (⟨t.toArray⟩ : ByteArray).size ≤ 2000 := by omega
  clear hsz
  generalize (⟨t.toArray⟩ : ByteArray) = S at *
  generalize t.length = n at *
  generalize int8 x = K at *
  have z0 : IntKind.i64.wrap K = K := i64_small _ (by omega) (by omega)
  have z2 : IntKind.i64.wrap (K + 1) = K + 1 := i64_small _ (by omega) (by omega)
  have zs : IntKind.i64.wrap ((T.size : Int) + (S.size : Int)) = (T.size : Int) + (S.size : Int) := i64_small _ (by omega) (by omega)
  subst hleft
  unfold RTakeTo
  unfold pcV
  go_enter Try.func15, Try.ntmps15
  go_upto_region 1 with (fail)
  generalize (w.alloc (.cells #[.int .i64 8, .string I] 45)).alloc (.cells #[.int .i64 0, .string ⟨#[]⟩] 45) = w1 at *
  have g0 := HG.out.cell 0 rfl
  have gf0 := (HG.out.get 0 rfl).free
  have g1 := HG.out.cell 1 rfl
  have gf1 := (HG.out.get 1 rfl).free
  have g2 := HG.out.cell 2 rfl
  have gf2 := (HG.out.get 2 rfl).free
  have g3 := HG.out.cell 3 rfl
  have gf3 := (HG.out.get 3 rfl).free
  have q0 := HQ.out.cell 0 rfl
  have qf0 := (HQ.out.get 0 rfl).free
  have q1 := HQ.out.cell 1 rfl
  have qf1 := (HQ.out.get 1 rfl).free
  have p0 := HP.out.cell 0 rfl
  have p1 := HP.out.cell 1 rfl
  go_upto_region 24 with (fail)
  have HG2 := Lib.hid (show RowAt (w1.setCell ⟨m, 3, none⟩ (.string N)) m [.bool true, .int .i64 pid, .int .i64 (K + 1), .string N] from (HG.out.put 3 (.string N) _ rfl))
  have HQ2 := Lib.hid (show RowAt (w1.setCell ⟨m, 3, none⟩ (.string N)) (w.heap.size + 1) [.int .i64 0, .string ⟨#[]⟩] from (HQ.out.other (p := 3) (.string N) hm1))
  have HP2 := Lib.hid (HP.out.other (p := 3) (.string N) hm0)
  have HT2 := Lib.hid (HT.out.set (p := ⟨m, 3, none⟩) (Or.inl rfl) (.string N))
  clear g0 g1 g2 g3 gf0 gf1 gf2 gf3 q0 q1 qf0 qf1 p0 p1
  clear HG HQ HP HT
  generalize (w1.setCell ⟨m, 3, none⟩ (.string N)) = w2 at *
  have HG := HG2
  have HQ := HQ2
  have HP := HP2
  have HT := HT2
  clear HG2 HQ2 HP2 HT2
  have g0 := HG.out.cell 0 rfl
  have gf0 := (HG.out.get 0 rfl).free
  have g1 := HG.out.cell 1 rfl
  have gf1 := (HG.out.get 1 rfl).free
  have g2 := HG.out.cell 2 rfl
  have gf2 := (HG.out.get 2 rfl).free
  have g3 := HG.out.cell 3 rfl
  have gf3 := (HG.out.get 3 rfl).free
  have q0 := HQ.out.cell 0 rfl
  have qf0 := (HQ.out.get 0 rfl).free
  have q1 := HQ.out.cell 1 rfl
  have qf1 := (HQ.out.get 1 rfl).free
  have p0 := HP.out.cell 0 rfl
  have p1 := HP.out.cell 1 rfl
  go_upto_region 25 with (fail)
  have HG2 := Lib.hid (show RowAt (w2.setCell ⟨m, 2, none⟩ (.int .i64 K)) m [.bool true, .int .i64 pid, .int .i64 K, .string N] from (HG.out.put 2 (.int .i64 K) _ rfl))
  have HQ2 := Lib.hid (show RowAt (w2.setCell ⟨m, 2, none⟩ (.int .i64 K)) (w.heap.size + 1) [.int .i64 0, .string ⟨#[]⟩] from (HQ.out.other (p := 2) (.int .i64 K) hm1))
  have HP2 := Lib.hid (HP.out.other (p := 2) (.int .i64 K) hm0)
  have HT2 := Lib.hid (HT.out.set (p := ⟨m, 2, none⟩) (Or.inl rfl) (.int .i64 K))
  clear g0 g1 g2 g3 gf0 gf1 gf2 gf3 q0 q1 qf0 qf1 p0 p1
  clear HG HQ HP HT
  generalize (w2.setCell ⟨m, 2, none⟩ (.int .i64 K)) = w3 at *
  have HG := HG2
  have HQ := HQ2
  have HP := HP2
  have HT := HT2
  clear HG2 HQ2 HP2 HT2
  have g0 := HG.out.cell 0 rfl
  have gf0 := (HG.out.get 0 rfl).free
  have g1 := HG.out.cell 1 rfl
  have gf1 := (HG.out.get 1 rfl).free
  have g2 := HG.out.cell 2 rfl
  have gf2 := (HG.out.get 2 rfl).free
  have g3 := HG.out.cell 3 rfl
  have gf3 := (HG.out.get 3 rfl).free
  have q0 := HQ.out.cell 0 rfl
  have qf0 := (HQ.out.get 0 rfl).free
  have q1 := HQ.out.cell 1 rfl
  have qf1 := (HQ.out.get 1 rfl).free
  have p0 := HP.out.cell 0 rfl
  have p1 := HP.out.cell 1 rfl
  go_wp2_with fail
  have HG2 := Lib.hid (show RowAt ((w3.setCell ⟨w.heap.size + 1, 0, none⟩ (.int .i64 0)).setCell ⟨w.heap.size + 1, 1, none⟩ (.string ⟨#[]⟩)) m [.bool true, .int .i64 pid, .int .i64 K, .string N] from ((HG.out.other (p := 0) (.int .i64 0) hm2).other (p := 1) (.string ⟨#[]⟩) hm2))
  have HQ2 := Lib.hid (show RowAt ((w3.setCell ⟨w.heap.size + 1, 0, none⟩ (.int .i64 0)).setCell ⟨w.heap.size + 1, 1, none⟩ (.string ⟨#[]⟩)) (w.heap.size + 1) [.int .i64 0, .string ⟨#[]⟩] from ((HQ.out.put 0 (.int .i64 0) _ rfl).put 1 (.string ⟨#[]⟩) _ rfl))
  have HP2 := Lib.hid ((HP.out.other (p := 0) (.int .i64 0) (Nat.succ_ne_self _)).other (p := 1) (.string ⟨#[]⟩) (Nat.succ_ne_self _))
  have HT2 := Lib.hid ((HT.out.set (p := ⟨w.heap.size + 1, 0, none⟩) (Or.inr (Nat.le_succ _)) (.int .i64 0)).set (p := ⟨w.heap.size + 1, 1, none⟩) (Or.inr (Nat.le_succ _)) (.string ⟨#[]⟩))
  clear g0 g1 g2 g3 gf0 gf1 gf2 gf3 q0 q1 qf0 qf1 p0 p1
  clear HG HQ HP HT
  have HG := HG2
  have HQ := HQ2
  have HP := HP2
  have HT := HT2
  clear HG2 HQ2 HP2 HT2
  have s0 := HQ.out.cell 0 rfl
  have s1 := HQ.out.cell 1 rfl
  exact bodyPost_ret (v := .tuple #[.agg #[.int .i64 0, .string ⟨#[]⟩], .bool false, .int .i64 0]) (by simp [results, Try.results15, go_sem, s0, s1]) rfl ⟨by first | (rw [HE.out]; done) | (rw [HE.out]; rfl), by rw [HE.out]; exact HG.out, HT.out⟩
set_option maxHeartbeats 1000000 in
theorem rtake_next_whole (m : Nat) (s : Gs) (p : Pc) (w : World) (h : RowAt w m (gsV s)) (x : UInt8) (t : List UInt8) (h8 : p.pid = 8) (hI : p.info.data.toList = x :: t) (hx : ¬ 128 ≤ int8 x) (hzT : s.text.size ≤ 600) (hzI : p.info.size ≤ 2000) (hon : s.on = true) (hleft : int8 x + 1 = s.left) (hfit : ¬ 600 < (s.text.size : Int) + t.length) (hk : ¬ 0 < int8 x) : Calls Try.prog 15 #[.pointer (some ⟨m, 0, none⟩), pcV p] w (RTakeTo m w (takeD s p)) := by
  obtain ⟨on, pid, left, T⟩ := s
  obtain ⟨P, I⟩ := p
  simp only [gsV] at h
  have hmw : m < w.heap.size := h.lt
  have hm0 : m ≠ w.heap.size := by omega
  have hm1 : m ≠ w.heap.size + 1 := by omega
  have hm2 : w.heap.size + 1 ≠ m := by omega
  have HG := Lib.hid ((h.alloc (.cells #[.int .i64 P, .string I] 45)).alloc (.cells #[.int .i64 0, .string ⟨#[]⟩] 45))
  have HP := Lib.hid ((RowAt.new w w.heap.size rfl [.int .i64 P, .string I] 45).alloc (.cells #[.int .i64 0, .string ⟨#[]⟩] 45))
  have HQ := Lib.hid (RowAt.new (w.alloc (.cells #[.int .i64 P, .string I] 45)) (w.heap.size + 1) (by simp) [.int .i64 0, .string ⟨#[]⟩] 45)
  have HT := Lib.hid (((Turn.refl (fun k => k = m) w).alloc (.cells #[.int .i64 P, .string I] 45)).alloc (.cells #[.int .i64 0, .string ⟨#[]⟩] 45))
  clear h
  simp only at *
  subst h8
  subst hon
  have hx0 := int8_low x
  have hsz : I.size = 1 + t.length := by rw [show I.size = I.data.toList.length from by simp, hI]; simp; omega
  have hi0 : ∀ W, (Instr.index 9 (.string I) (.int .i64 0)).run Try.prog W = .ok (.int .u8 (int8 x)) W := fun W => index_text I 0 x (by rw [hI]; rfl) W
  have hs1 : ∀ W, (Instr.slice 9 (.string I) (some (.int .i64 1)) none none).run Try.prog W = .ok (.string ⟨t.toArray⟩) W := fun W => by
    have k := slice_behind I 1 (by omega) W
    rw [hI] at k
    exact k
  have hS : (⟨t.toArray⟩ : ByteArray).size = t.length := by show t.toArray.size = _; simp
  have HE0 : takeD ⟨true, pid, left, T⟩ ⟨8, I⟩ = goOn ⟨true, pid, left, T⟩ (int8 x) t := by
    unfold takeD
    rw [if_neg (show ¬ ((8 : Int) < 0 ∨ 255 < (8 : Int)) by decide), if_neg (show ¬ ((8 : Int) ≠ 8) by decide)]
    simp only [hI]
    rw [if_neg hx]
  have HE1 : (!(⟨true, pid, left, T⟩ : Gs).on || (int8 x) + 1 != (⟨true, pid, left, T⟩ : Gs).left) = false := by simp [hleft]
  obtain ⟨N, hN⟩ : ∃ N, T ++ ⟨t.toArray⟩ = N := ⟨_, rfl⟩
  have HE := Lib.hid (show takeD ⟨true, pid, left, T⟩ ⟨8, I⟩ = (zeroG, ⟨pid, N⟩, true, 0) from by
    rw [HE0]
    unfold goOn
    rw [if_neg (by rw [HE1]; exact Bool.false_ne_true), if_neg (show ¬ 600 < (T.size : Int) + t.length from hfit), if_neg hk, ← hN])
  clear HE0 HE1 hI
  have ha := fun (W : World) => run_string_add_sum (P := Try.prog) (w := W) T ⟨t.toArray⟩ (by rw [hS]; omega)
  rw [hN] at ha
  clear hN
  have hz0 : ((I.size : Int) == 0) = false := by rw [beq_eq_false_iff_ne]; omega
  have hzS : (⟨t.toArray⟩ : ByteArray).size ≤ 2000 := by omega
  clear hsz
  generalize (⟨t.toArray⟩ : ByteArray) = S at *
  generalize t.length = n at *
  generalize int8 x = K at *
  have z0 : IntKind.i64.wrap K = K := i64_small _ (by omega) (by omega)
  have z2 : IntKind.i64.wrap (K + 1) = K + 1 := i64_small _ (by omega) (by omega)
  have zs : IntKind.i64.wrap ((T.size : Int) + (S.size : Int)) = (T.size : Int) + (S.size : Int) := i64_small _ (by omega) (by omega)
  subst hleft
  unfold RTakeTo
  unfold pcV
  go_enter Try.func15, Try.ntmps15
  go_upto_region 1 with (fail)
  generalize (w.alloc (.cells #[.int .i64 8, .string I] 45)).alloc (.cells #[.int .i64 0, .string ⟨#[]⟩] 45) = w1 at *
  have g0 := HG.out.cell 0 rfl
  have gf0 := (HG.out.get 0 rfl).free
  have g1 := HG.out.cell 1 rfl
  have gf1 := (HG.out.get 1 rfl).free
  have g2 := HG.out.cell 2 rfl
  have gf2 := (HG.out.get 2 rfl).free
  have g3 := HG.out.cell 3 rfl
  have gf3 := (HG.out.get 3 rfl).free
  have q0 := HQ.out.cell 0 rfl
  have qf0 := (HQ.out.get 0 rfl).free
  have q1 := HQ.out.cell 1 rfl
  have qf1 := (HQ.out.get 1 rfl).free
  have p0 := HP.out.cell 0 rfl
  have p1 := HP.out.cell 1 rfl
  go_upto_region 24 with (fail)
  have HG2 := Lib.hid (show RowAt (w1.setCell ⟨m, 3, none⟩ (.string N)) m [.bool true, .int .i64 pid, .int .i64 (K + 1), .string N] from (HG.out.put 3 (.string N) _ rfl))
  have HQ2 := Lib.hid (show RowAt (w1.setCell ⟨m, 3, none⟩ (.string N)) (w.heap.size + 1) [.int .i64 0, .string ⟨#[]⟩] from (HQ.out.other (p := 3) (.string N) hm1))
  have HP2 := Lib.hid (HP.out.other (p := 3) (.string N) hm0)
  have HT2 := Lib.hid (HT.out.set (p := ⟨m, 3, none⟩) (Or.inl rfl) (.string N))
  clear g0 g1 g2 g3 gf0 gf1 gf2 gf3 q0 q1 qf0 qf1 p0 p1
  clear HG HQ HP HT
  generalize (w1.setCell ⟨m, 3, none⟩ (.string N)) = w2 at *
  have HG := HG2
  have HQ := HQ2
  have HP := HP2
  have HT := HT2
  clear HG2 HQ2 HP2 HT2
  have g0 := HG.out.cell 0 rfl
  have gf0 := (HG.out.get 0 rfl).free
  have g1 := HG.out.cell 1 rfl
  have gf1 := (HG.out.get 1 rfl).free
  have g2 := HG.out.cell 2 rfl
  have gf2 := (HG.out.get 2 rfl).free
  have g3 := HG.out.cell 3 rfl
  have gf3 := (HG.out.get 3 rfl).free
  have q0 := HQ.out.cell 0 rfl
  have qf0 := (HQ.out.get 0 rfl).free
  have q1 := HQ.out.cell 1 rfl
  have qf1 := (HQ.out.get 1 rfl).free
  have p0 := HP.out.cell 0 rfl
  have p1 := HP.out.cell 1 rfl
  go_upto_region 25 with (fail)
  have HG2 := Lib.hid (show RowAt (w2.setCell ⟨m, 2, none⟩ (.int .i64 K)) m [.bool true, .int .i64 pid, .int .i64 K, .string N] from (HG.out.put 2 (.int .i64 K) _ rfl))
  have HQ2 := Lib.hid (show RowAt (w2.setCell ⟨m, 2, none⟩ (.int .i64 K)) (w.heap.size + 1) [.int .i64 0, .string ⟨#[]⟩] from (HQ.out.other (p := 2) (.int .i64 K) hm1))
  have HP2 := Lib.hid (HP.out.other (p := 2) (.int .i64 K) hm0)
  have HT2 := Lib.hid (HT.out.set (p := ⟨m, 2, none⟩) (Or.inl rfl) (.int .i64 K))
  clear g0 g1 g2 g3 gf0 gf1 gf2 gf3 q0 q1 qf0 qf1 p0 p1
  clear HG HQ HP HT
  generalize (w2.setCell ⟨m, 2, none⟩ (.int .i64 K)) = w3 at *
  have HG := HG2
  have HQ := HQ2
  have HP := HP2
  have HT := HT2
  clear HG2 HQ2 HP2 HT2
  have g0 := HG.out.cell 0 rfl
  have gf0 := (HG.out.get 0 rfl).free
  have g1 := HG.out.cell 1 rfl
  have gf1 := (HG.out.get 1 rfl).free
  have g2 := HG.out.cell 2 rfl
  have gf2 := (HG.out.get 2 rfl).free
  have g3 := HG.out.cell 3 rfl
  have gf3 := (HG.out.get 3 rfl).free
  have q0 := HQ.out.cell 0 rfl
  have qf0 := (HQ.out.get 0 rfl).free
  have q1 := HQ.out.cell 1 rfl
  have qf1 := (HQ.out.get 1 rfl).free
  have p0 := HP.out.cell 0 rfl
  have p1 := HP.out.cell 1 rfl
  have d1 := HG.out.drew.cell 1 rfl
  have d3 := HG.out.drew.cell 3 rfl
  have d4 := (HG.out.alloc (.cells #[.int .i64 0, .string ⟨#[]⟩] 45)).cell 1 rfl
  have d5 := (HG.out.alloc (.cells #[.int .i64 0, .string ⟨#[]⟩] 45)).cell 3 rfl
  go_upto_region 27 with (fail)
  go_region
  clear d1 d3 d4 d5
  have hmq : m < w3.heap.size := HG.out.lt
  have hqq : w.heap.size + 1 < w3.heap.size := HQ.out.lt
  have HO := Lib.hid ((RowAt.new w3 w3.heap.size rfl [.int .i64 pid, .string N] 45).drew)
  replace HG := Lib.hid ((HG.out.alloc (.cells #[.int .i64 pid, .string N] 45)).drew)
  replace HQ := Lib.hid ((HQ.out.alloc (.cells #[.int .i64 pid, .string N] 45)).drew)
  replace HP := Lib.hid ((HP.out.alloc (.cells #[.int .i64 pid, .string N] 45)).drew)
  replace HT := Lib.hid ((HT.out.alloc (.cells #[.int .i64 pid, .string N] 45)).drew)
  clear g0 g1 g2 g3 gf0 gf1 gf2 gf3 q0 q1 qf0 qf1 p0 p1
  generalize (w3.alloc (.cells #[.int .i64 pid, .string N] 45)).drew = wb at *
  have hmo : m ≠ w3.heap.size := by omega
  obtain ⟨ob, hob⟩ : ∃ ob, ob = w3.heap.size := ⟨_, rfl⟩
  rw [← hob] at HO hmo ⊢
  clear hob hmq hqq
  have g0 := HG.out.cell 0 rfl
  have gf0 := (HG.out.get 0 rfl).free
  have g1 := HG.out.cell 1 rfl
  have gf1 := (HG.out.get 1 rfl).free
  have g2 := HG.out.cell 2 rfl
  have gf2 := (HG.out.get 2 rfl).free
  have g3 := HG.out.cell 3 rfl
  have gf3 := (HG.out.get 3 rfl).free
  have q0 := HQ.out.cell 0 rfl
  have qf0 := (HQ.out.get 0 rfl).free
  have q1 := HQ.out.cell 1 rfl
  have qf1 := (HQ.out.get 1 rfl).free
  have p0 := HP.out.cell 0 rfl
  have p1 := HP.out.cell 1 rfl
  replace HO := Lib.hid ((((HO.out.other (p := 0) (.bool false) hmo).other (p := 1) (.int .i64 0) hmo).other (p := 2) (.int .i64 0) hmo).other (p := 3) (.string ⟨#[]⟩) hmo)
  go_upto_region 29 with (fail)
  have HG2 := Lib.hid (show RowAt ((((wb.setCell ⟨m, 0, none⟩ (.bool false)).setCell ⟨m, 1, none⟩ (.int .i64 0)).setCell ⟨m, 2, none⟩ (.int .i64 0)).setCell ⟨m, 3, none⟩ (.string ⟨#[]⟩)) m [.bool false, .int .i64 0, .int .i64 0, .string ⟨#[]⟩] from ((((HG.out.put 0 (.bool false) _ rfl).put 1 (.int .i64 0) _ rfl).put 2 (.int .i64 0) _ rfl).put 3 (.string ⟨#[]⟩) _ rfl))
  have HQ2 := Lib.hid (show RowAt ((((wb.setCell ⟨m, 0, none⟩ (.bool false)).setCell ⟨m, 1, none⟩ (.int .i64 0)).setCell ⟨m, 2, none⟩ (.int .i64 0)).setCell ⟨m, 3, none⟩ (.string ⟨#[]⟩)) (w.heap.size + 1) [.int .i64 0, .string ⟨#[]⟩] from ((((HQ.out.other (p := 0) (.bool false) hm1).other (p := 1) (.int .i64 0) hm1).other (p := 2) (.int .i64 0) hm1).other (p := 3) (.string ⟨#[]⟩) hm1))
  have HP2 := Lib.hid ((((HP.out.other (p := 0) (.bool false) hm0).other (p := 1) (.int .i64 0) hm0).other (p := 2) (.int .i64 0) hm0).other (p := 3) (.string ⟨#[]⟩) hm0)
  have HT2 := Lib.hid ((((HT.out.set (p := ⟨m, 0, none⟩) (Or.inl rfl) (.bool false)).set (p := ⟨m, 1, none⟩) (Or.inl rfl) (.int .i64 0)).set (p := ⟨m, 2, none⟩) (Or.inl rfl) (.int .i64 0)).set (p := ⟨m, 3, none⟩) (Or.inl rfl) (.string ⟨#[]⟩))
  clear g0 g1 g2 g3 gf0 gf1 gf2 gf3 q0 q1 qf0 qf1 p0 p1
  clear HG HQ HP HT
  generalize ((((wb.setCell ⟨m, 0, none⟩ (.bool false)).setCell ⟨m, 1, none⟩ (.int .i64 0)).setCell ⟨m, 2, none⟩ (.int .i64 0)).setCell ⟨m, 3, none⟩ (.string ⟨#[]⟩)) = w4 at *
  have HG := HG2
  have HQ := HQ2
  have HP := HP2
  have HT := HT2
  clear HG2 HQ2 HP2 HT2
  have g0 := HG.out.cell 0 rfl
  have gf0 := (HG.out.get 0 rfl).free
  have g1 := HG.out.cell 1 rfl
  have gf1 := (HG.out.get 1 rfl).free
  have g2 := HG.out.cell 2 rfl
  have gf2 := (HG.out.get 2 rfl).free
  have g3 := HG.out.cell 3 rfl
  have gf3 := (HG.out.get 3 rfl).free
  have q0 := HQ.out.cell 0 rfl
  have qf0 := (HQ.out.get 0 rfl).free
  have q1 := HQ.out.cell 1 rfl
  have qf1 := (HQ.out.get 1 rfl).free
  have p0 := HP.out.cell 0 rfl
  have p1 := HP.out.cell 1 rfl
  have o0 := HO.out.cell 0 rfl
  have o1 := HO.out.cell 1 rfl
  go_wp2_with fail
  have HG2 := Lib.hid (show RowAt ((w4.setCell ⟨w.heap.size + 1, 0, none⟩ (.int .i64 pid)).setCell ⟨w.heap.size + 1, 1, none⟩ (.string N)) m [.bool false, .int .i64 0, .int .i64 0, .string ⟨#[]⟩] from ((HG.out.other (p := 0) (.int .i64 pid) hm2).other (p := 1) (.string N) hm2))
  have HQ2 := Lib.hid (show RowAt ((w4.setCell ⟨w.heap.size + 1, 0, none⟩ (.int .i64 pid)).setCell ⟨w.heap.size + 1, 1, none⟩ (.string N)) (w.heap.size + 1) [.int .i64 pid, .string N] from ((HQ.out.put 0 (.int .i64 pid) _ rfl).put 1 (.string N) _ rfl))
  have HP2 := Lib.hid ((HP.out.other (p := 0) (.int .i64 pid) (Nat.succ_ne_self _)).other (p := 1) (.string N) (Nat.succ_ne_self _))
  have HT2 := Lib.hid ((HT.out.set (p := ⟨w.heap.size + 1, 0, none⟩) (Or.inr (Nat.le_succ _)) (.int .i64 pid)).set (p := ⟨w.heap.size + 1, 1, none⟩) (Or.inr (Nat.le_succ _)) (.string N))
  clear g0 g1 g2 g3 gf0 gf1 gf2 gf3 q0 q1 qf0 qf1 p0 p1
  clear HG HQ HP HT
  have HG := HG2
  have HQ := HQ2
  have HP := HP2
  have HT := HT2
  clear HG2 HQ2 HP2 HT2
  have s0 := HQ.out.cell 0 rfl
  have s1 := HQ.out.cell 1 rfl
  exact bodyPost_ret (v := .tuple #[.agg #[.int .i64 pid, .string N], .bool true, .int .i64 0]) (by simp [results, Try.results15, go_sem, s0, s1]) rfl ⟨by first | (rw [HE.out]; done) | (rw [HE.out]; rfl), by rw [HE.out]; exact HG.out, HT.out⟩
set_option maxHeartbeats 1000000 in
theorem rtake_first_long (m : Nat) (s : Gs) (p : Pc) (w : World) (h : RowAt w m (gsV s)) (x y : UInt8) (t : List UInt8) (h8 : p.pid = 8) (hI : p.info.data.toList = x :: y :: t) (hx : 128 ≤ int8 x) (hzT : s.text.size ≤ 600) (hzI : p.info.size ≤ 2000) (hlong : 600 < ((0 : Nat) : Int) + t.length) : Calls Try.prog 15 #[.pointer (some ⟨m, 0, none⟩), pcV p] w (RTakeTo m w (takeD s p)) := by
  obtain ⟨on, pid, left, T⟩ := s
  obtain ⟨P, I⟩ := p
  simp only [gsV] at h
  have hmw : m < w.heap.size := h.lt
  have hm0 : m ≠ w.heap.size := by omega
  have hm1 : m ≠ w.heap.size + 1 := by omega
  have hm2 : w.heap.size + 1 ≠ m := by omega
  have HG := Lib.hid ((h.alloc (.cells #[.int .i64 P, .string I] 45)).alloc (.cells #[.int .i64 0, .string ⟨#[]⟩] 45))
  have HP := Lib.hid ((RowAt.new w w.heap.size rfl [.int .i64 P, .string I] 45).alloc (.cells #[.int .i64 0, .string ⟨#[]⟩] 45))
  have HQ := Lib.hid (RowAt.new (w.alloc (.cells #[.int .i64 P, .string I] 45)) (w.heap.size + 1) (by simp) [.int .i64 0, .string ⟨#[]⟩] 45)
  have HT := Lib.hid (((Turn.refl (fun k => k = m) w).alloc (.cells #[.int .i64 P, .string I] 45)).alloc (.cells #[.int .i64 0, .string ⟨#[]⟩] 45))
  clear h
  simp only at *
  subst h8
  have hx0 := int8_low x
  have hsz : I.size = 2 + t.length := by rw [show I.size = I.data.toList.length from by simp, hI]; simp; omega
  have hi0 : ∀ W, (Instr.index 9 (.string I) (.int .i64 0)).run Try.prog W = .ok (.int .u8 (int8 x)) W := fun W => index_text I 0 x (by rw [hI]; rfl) W
  have hs1 : ∀ W, (Instr.slice 9 (.string I) (some (.int .i64 1)) none none).run Try.prog W = .ok (.string ⟨(y :: t).toArray⟩) W := fun W => by
    have k := slice_behind I 1 (by omega) W
    rw [hI] at k
    exact k
  have hi1 : ∀ W, (Instr.index 9 (.string ⟨(y :: t).toArray⟩) (.int .i64 0)).run Try.prog W = .ok (.int .u8 (int8 y)) W := fun W => index_text _ 0 y rfl W
  have hs2 : ∀ W, (Instr.slice 9 (.string ⟨(y :: t).toArray⟩) (some (.int .i64 1)) none none).run Try.prog W = .ok (.string ⟨t.toArray⟩) W := fun W => by
    have k := slice_behind ⟨(y :: t).toArray⟩ 1 (by show 1 ≤ (y :: t).toArray.size; simp) W
    exact k
  have hy0 := int8_low y
  have hS : (⟨t.toArray⟩ : ByteArray).size = t.length := by show t.toArray.size = _; simp
  have HE0 : takeD ⟨on, pid, left, T⟩ ⟨8, I⟩ = goOn ⟨true, int8 y, int8 x - 128 + 1, ⟨#[]⟩⟩ (int8 x - 128) t := by
    unfold takeD
    rw [if_neg (show ¬ ((8 : Int) < 0 ∨ 255 < (8 : Int)) by decide), if_neg (show ¬ ((8 : Int) ≠ 8) by decide)]
    simp only [hI]
    rw [if_pos hx]
  have HE1 : (!(⟨true, int8 y, int8 x - 128 + 1, ⟨#[]⟩⟩ : Gs).on || (int8 x - 128) + 1 != (⟨true, int8 y, int8 x - 128 + 1, ⟨#[]⟩⟩ : Gs).left) = false := by simp
  have HE := Lib.hid (show takeD ⟨on, pid, left, T⟩ ⟨8, I⟩ = (zeroG, zeroP, false, 5) from by
    rw [HE0]
    unfold goOn
    rw [if_neg (by rw [HE1]; exact Bool.false_ne_true), if_pos (show 600 < ((⟨#[]⟩ : ByteArray).size : Int) + t.length from hlong)])
  clear HE0 HE1 hI
  have hz0 : ((I.size : Int) == 0) = false := by rw [beq_eq_false_iff_ne]; omega
  have hz1 : ((I.size : Int) == 1) = false := by rw [beq_eq_false_iff_ne]; omega
  have hzS : (⟨t.toArray⟩ : ByteArray).size ≤ 2000 := by omega
  clear hsz
  generalize (⟨t.toArray⟩ : ByteArray) = S at *
  generalize t.length = n at *
  generalize int8 x = X at *
  generalize int8 y = Y at *
  generalize (⟨(y :: t).toArray⟩ : ByteArray) = S1 at *
  obtain ⟨K, hK⟩ : ∃ K, K = X - 128 := ⟨_, rfl⟩
  have z0 : IntKind.i64.wrap X = X := i64_small _ (by omega) (by omega)
  have z1 : IntKind.i64.wrap (X - 128) = K := (i64_small _ (by omega) (by omega)).trans hK.symm
  have z2 : IntKind.i64.wrap (K + 1) = K + 1 := i64_small _ (by omega) (by omega)
  have z3 : IntKind.i64.wrap Y = Y := i64_small _ (by omega) (by omega)
  clear hK
  have zs : IntKind.i64.wrap (S.size : Int) = (S.size : Int) := i64_small _ (by omega) (by omega)
  unfold RTakeTo
  unfold pcV
  go_enter Try.func15, Try.ntmps15
  go_upto_region 1 with (fail)
  generalize (w.alloc (.cells #[.int .i64 8, .string I] 45)).alloc (.cells #[.int .i64 0, .string ⟨#[]⟩] 45) = w1 at *
  have g0 := HG.out.cell 0 rfl
  have gf0 := (HG.out.get 0 rfl).free
  have g1 := HG.out.cell 1 rfl
  have gf1 := (HG.out.get 1 rfl).free
  have g2 := HG.out.cell 2 rfl
  have gf2 := (HG.out.get 2 rfl).free
  have g3 := HG.out.cell 3 rfl
  have gf3 := (HG.out.get 3 rfl).free
  have q0 := HQ.out.cell 0 rfl
  have qf0 := (HQ.out.get 0 rfl).free
  have q1 := HQ.out.cell 1 rfl
  have qf1 := (HQ.out.get 1 rfl).free
  have p0 := HP.out.cell 0 rfl
  have p1 := HP.out.cell 1 rfl
  go_upto_region 15 with (fail)
  have HG2 := Lib.hid (show RowAt ((((w1.setCell ⟨m, 0, none⟩ (.bool true)).setCell ⟨m, 1, none⟩ (.int .i64 Y)).setCell ⟨m, 2, none⟩ (.int .i64 (K + 1))).setCell ⟨m, 3, none⟩ (.string ⟨#[]⟩)) m [.bool true, .int .i64 Y, .int .i64 (K + 1), .string ⟨#[]⟩] from ((((HG.out.put 0 (.bool true) _ rfl).put 1 (.int .i64 Y) _ rfl).put 2 (.int .i64 (K + 1)) _ rfl).put 3 (.string ⟨#[]⟩) _ rfl))
  have HQ2 := Lib.hid (show RowAt ((((w1.setCell ⟨m, 0, none⟩ (.bool true)).setCell ⟨m, 1, none⟩ (.int .i64 Y)).setCell ⟨m, 2, none⟩ (.int .i64 (K + 1))).setCell ⟨m, 3, none⟩ (.string ⟨#[]⟩)) (w.heap.size + 1) [.int .i64 0, .string ⟨#[]⟩] from ((((HQ.out.other (p := 0) (.bool true) hm1).other (p := 1) (.int .i64 Y) hm1).other (p := 2) (.int .i64 (K + 1)) hm1).other (p := 3) (.string ⟨#[]⟩) hm1))
  have HP2 := Lib.hid ((((HP.out.other (p := 0) (.bool true) hm0).other (p := 1) (.int .i64 Y) hm0).other (p := 2) (.int .i64 (K + 1)) hm0).other (p := 3) (.string ⟨#[]⟩) hm0)
  have HT2 := Lib.hid ((((HT.out.set (p := ⟨m, 0, none⟩) (Or.inl rfl) (.bool true)).set (p := ⟨m, 1, none⟩) (Or.inl rfl) (.int .i64 Y)).set (p := ⟨m, 2, none⟩) (Or.inl rfl) (.int .i64 (K + 1))).set (p := ⟨m, 3, none⟩) (Or.inl rfl) (.string ⟨#[]⟩))
  clear g0 g1 g2 g3 gf0 gf1 gf2 gf3 q0 q1 qf0 qf1 p0 p1
  clear HG HQ HP HT
  generalize ((((w1.setCell ⟨m, 0, none⟩ (.bool true)).setCell ⟨m, 1, none⟩ (.int .i64 Y)).setCell ⟨m, 2, none⟩ (.int .i64 (K + 1))).setCell ⟨m, 3, none⟩ (.string ⟨#[]⟩)) = w2 at *
  have HG := HG2
  have HQ := HQ2
  have HP := HP2
  have HT := HT2
  clear HG2 HQ2 HP2 HT2
  have g0 := HG.out.cell 0 rfl
  have gf0 := (HG.out.get 0 rfl).free
  have g1 := HG.out.cell 1 rfl
  have gf1 := (HG.out.get 1 rfl).free
  have g2 := HG.out.cell 2 rfl
  have gf2 := (HG.out.get 2 rfl).free
  have g3 := HG.out.cell 3 rfl
  have gf3 := (HG.out.get 3 rfl).free
  have q0 := HQ.out.cell 0 rfl
  have qf0 := (HQ.out.get 0 rfl).free
  have q1 := HQ.out.cell 1 rfl
  have qf1 := (HQ.out.get 1 rfl).free
  have p0 := HP.out.cell 0 rfl
  have p1 := HP.out.cell 1 rfl
  go_upto_region 22 with (fail)
  have HG2 := Lib.hid (show RowAt ((((w2.setCell ⟨m, 0, none⟩ (.bool false)).setCell ⟨m, 1, none⟩ (.int .i64 0)).setCell ⟨m, 2, none⟩ (.int .i64 0)).setCell ⟨m, 3, none⟩ (.string ⟨#[]⟩)) m [.bool false, .int .i64 0, .int .i64 0, .string ⟨#[]⟩] from ((((HG.out.put 0 (.bool false) _ rfl).put 1 (.int .i64 0) _ rfl).put 2 (.int .i64 0) _ rfl).put 3 (.string ⟨#[]⟩) _ rfl))
  have HQ2 := Lib.hid (show RowAt ((((w2.setCell ⟨m, 0, none⟩ (.bool false)).setCell ⟨m, 1, none⟩ (.int .i64 0)).setCell ⟨m, 2, none⟩ (.int .i64 0)).setCell ⟨m, 3, none⟩ (.string ⟨#[]⟩)) (w.heap.size + 1) [.int .i64 0, .string ⟨#[]⟩] from ((((HQ.out.other (p := 0) (.bool false) hm1).other (p := 1) (.int .i64 0) hm1).other (p := 2) (.int .i64 0) hm1).other (p := 3) (.string ⟨#[]⟩) hm1))
  have HP2 := Lib.hid ((((HP.out.other (p := 0) (.bool false) hm0).other (p := 1) (.int .i64 0) hm0).other (p := 2) (.int .i64 0) hm0).other (p := 3) (.string ⟨#[]⟩) hm0)
  have HT2 := Lib.hid ((((HT.out.set (p := ⟨m, 0, none⟩) (Or.inl rfl) (.bool false)).set (p := ⟨m, 1, none⟩) (Or.inl rfl) (.int .i64 0)).set (p := ⟨m, 2, none⟩) (Or.inl rfl) (.int .i64 0)).set (p := ⟨m, 3, none⟩) (Or.inl rfl) (.string ⟨#[]⟩))
  clear g0 g1 g2 g3 gf0 gf1 gf2 gf3 q0 q1 qf0 qf1 p0 p1
  clear HG HQ HP HT
  generalize ((((w2.setCell ⟨m, 0, none⟩ (.bool false)).setCell ⟨m, 1, none⟩ (.int .i64 0)).setCell ⟨m, 2, none⟩ (.int .i64 0)).setCell ⟨m, 3, none⟩ (.string ⟨#[]⟩)) = w3 at *
  have HG := HG2
  have HQ := HQ2
  have HP := HP2
  have HT := HT2
  clear HG2 HQ2 HP2 HT2
  have g0 := HG.out.cell 0 rfl
  have gf0 := (HG.out.get 0 rfl).free
  have g1 := HG.out.cell 1 rfl
  have gf1 := (HG.out.get 1 rfl).free
  have g2 := HG.out.cell 2 rfl
  have gf2 := (HG.out.get 2 rfl).free
  have g3 := HG.out.cell 3 rfl
  have gf3 := (HG.out.get 3 rfl).free
  have q0 := HQ.out.cell 0 rfl
  have qf0 := (HQ.out.get 0 rfl).free
  have q1 := HQ.out.cell 1 rfl
  have qf1 := (HQ.out.get 1 rfl).free
  have p0 := HP.out.cell 0 rfl
  have p1 := HP.out.cell 1 rfl
  go_wp2_with fail
  have HG2 := Lib.hid (show RowAt ((w3.setCell ⟨w.heap.size + 1, 0, none⟩ (.int .i64 0)).setCell ⟨w.heap.size + 1, 1, none⟩ (.string ⟨#[]⟩)) m [.bool false, .int .i64 0, .int .i64 0, .string ⟨#[]⟩] from ((HG.out.other (p := 0) (.int .i64 0) hm2).other (p := 1) (.string ⟨#[]⟩) hm2))
  have HQ2 := Lib.hid (show RowAt ((w3.setCell ⟨w.heap.size + 1, 0, none⟩ (.int .i64 0)).setCell ⟨w.heap.size + 1, 1, none⟩ (.string ⟨#[]⟩)) (w.heap.size + 1) [.int .i64 0, .string ⟨#[]⟩] from ((HQ.out.put 0 (.int .i64 0) _ rfl).put 1 (.string ⟨#[]⟩) _ rfl))
  have HP2 := Lib.hid ((HP.out.other (p := 0) (.int .i64 0) (Nat.succ_ne_self _)).other (p := 1) (.string ⟨#[]⟩) (Nat.succ_ne_self _))
  have HT2 := Lib.hid ((HT.out.set (p := ⟨w.heap.size + 1, 0, none⟩) (Or.inr (Nat.le_succ _)) (.int .i64 0)).set (p := ⟨w.heap.size + 1, 1, none⟩) (Or.inr (Nat.le_succ _)) (.string ⟨#[]⟩))
  clear g0 g1 g2 g3 gf0 gf1 gf2 gf3 q0 q1 qf0 qf1 p0 p1
  clear HG HQ HP HT
  have HG := HG2
  have HQ := HQ2
  have HP := HP2
  have HT := HT2
  clear HG2 HQ2 HP2 HT2
  have s0 := HQ.out.cell 0 rfl
  have s1 := HQ.out.cell 1 rfl
  exact bodyPost_ret (v := .tuple #[.agg #[.int .i64 0, .string ⟨#[]⟩], .bool false, .int .i64 5]) (by simp [results, Try.results15, go_sem, s0, s1]) rfl ⟨by first | (rw [HE.out]; done) | (rw [HE.out]; rfl), by rw [HE.out]; exact HG.out, HT.out⟩
set_option maxHeartbeats 1000000 in
theorem rtake_first_more (m : Nat) (s : Gs) (p : Pc) (w : World) (h : RowAt w m (gsV s)) (x y : UInt8) (t : List UInt8) (h8 : p.pid = 8) (hI : p.info.data.toList = x :: y :: t) (hx : 128 ≤ int8 x) (hzT : s.text.size ≤ 600) (hzI : p.info.size ≤ 2000) (hfit : ¬ 600 < ((0 : Nat) : Int) + t.length) (hk : 0 < int8 x - 128) : Calls Try.prog 15 #[.pointer (some ⟨m, 0, none⟩), pcV p] w (RTakeTo m w (takeD s p)) := by
  obtain ⟨on, pid, left, T⟩ := s
  obtain ⟨P, I⟩ := p
  simp only [gsV] at h
  have hmw : m < w.heap.size := h.lt
  have hm0 : m ≠ w.heap.size := by omega
  have hm1 : m ≠ w.heap.size + 1 := by omega
  have hm2 : w.heap.size + 1 ≠ m := by omega
  have HG := Lib.hid ((h.alloc (.cells #[.int .i64 P, .string I] 45)).alloc (.cells #[.int .i64 0, .string ⟨#[]⟩] 45))
  have HP := Lib.hid ((RowAt.new w w.heap.size rfl [.int .i64 P, .string I] 45).alloc (.cells #[.int .i64 0, .string ⟨#[]⟩] 45))
  have HQ := Lib.hid (RowAt.new (w.alloc (.cells #[.int .i64 P, .string I] 45)) (w.heap.size + 1) (by simp) [.int .i64 0, .string ⟨#[]⟩] 45)
  have HT := Lib.hid (((Turn.refl (fun k => k = m) w).alloc (.cells #[.int .i64 P, .string I] 45)).alloc (.cells #[.int .i64 0, .string ⟨#[]⟩] 45))
  clear h
  simp only at *
  subst h8
  have hx0 := int8_low x
  have hsz : I.size = 2 + t.length := by rw [show I.size = I.data.toList.length from by simp, hI]; simp; omega
  have hi0 : ∀ W, (Instr.index 9 (.string I) (.int .i64 0)).run Try.prog W = .ok (.int .u8 (int8 x)) W := fun W => index_text I 0 x (by rw [hI]; rfl) W
  have hs1 : ∀ W, (Instr.slice 9 (.string I) (some (.int .i64 1)) none none).run Try.prog W = .ok (.string ⟨(y :: t).toArray⟩) W := fun W => by
    have k := slice_behind I 1 (by omega) W
    rw [hI] at k
    exact k
  have hi1 : ∀ W, (Instr.index 9 (.string ⟨(y :: t).toArray⟩) (.int .i64 0)).run Try.prog W = .ok (.int .u8 (int8 y)) W := fun W => index_text _ 0 y rfl W
  have hs2 : ∀ W, (Instr.slice 9 (.string ⟨(y :: t).toArray⟩) (some (.int .i64 1)) none none).run Try.prog W = .ok (.string ⟨t.toArray⟩) W := fun W => by
    have k := slice_behind ⟨(y :: t).toArray⟩ 1 (by show 1 ≤ (y :: t).toArray.size; simp) W
    exact k
  have hy0 := int8_low y
  have hS : (⟨t.toArray⟩ : ByteArray).size = t.length := by show t.toArray.size = _; simp
  have HE0 : takeD ⟨on, pid, left, T⟩ ⟨8, I⟩ = goOn ⟨true, int8 y, int8 x - 128 + 1, ⟨#[]⟩⟩ (int8 x - 128) t := by
    unfold takeD
    rw [if_neg (show ¬ ((8 : Int) < 0 ∨ 255 < (8 : Int)) by decide), if_neg (show ¬ ((8 : Int) ≠ 8) by decide)]
    simp only [hI]
    rw [if_pos hx]
  have HE1 : (!(⟨true, int8 y, int8 x - 128 + 1, ⟨#[]⟩⟩ : Gs).on || (int8 x - 128) + 1 != (⟨true, int8 y, int8 x - 128 + 1, ⟨#[]⟩⟩ : Gs).left) = false := by simp
  obtain ⟨N, hN⟩ : ∃ N, (⟨#[]⟩ : ByteArray) ++ ⟨t.toArray⟩ = N := ⟨_, rfl⟩
  have HE := Lib.hid (show takeD ⟨on, pid, left, T⟩ ⟨8, I⟩ = (⟨true, (int8 y), int8 x - 128, N⟩, zeroP, false, 0) from by
    rw [HE0]
    unfold goOn
    rw [if_neg (by rw [HE1]; exact Bool.false_ne_true), if_neg (show ¬ 600 < ((⟨#[]⟩ : ByteArray).size : Int) + t.length from hfit), if_pos hk, ← hN])
  clear HE0 HE1 hI
  have ha := fun (W : World) => run_string_add_sum (P := Try.prog) (w := W) (⟨#[]⟩ : ByteArray) ⟨t.toArray⟩ (by rw [hS]; show 0 + t.length ≤ _; omega)
  rw [hN] at ha
  clear hN
  have hz0 : ((I.size : Int) == 0) = false := by rw [beq_eq_false_iff_ne]; omega
  have hz1 : ((I.size : Int) == 1) = false := by rw [beq_eq_false_iff_ne]; omega
  have hzS : (⟨t.toArray⟩ : ByteArray).size ≤ 2000 := by omega
  clear hsz
  generalize (⟨t.toArray⟩ : ByteArray) = S at *
  generalize t.length = n at *
  generalize int8 x = X at *
  generalize int8 y = Y at *
  generalize (⟨(y :: t).toArray⟩ : ByteArray) = S1 at *
  obtain ⟨K, hK⟩ : ∃ K, K = X - 128 := ⟨_, rfl⟩
  have z0 : IntKind.i64.wrap X = X := i64_small _ (by omega) (by omega)
  have z1 : IntKind.i64.wrap (X - 128) = K := (i64_small _ (by omega) (by omega)).trans hK.symm
  have z2 : IntKind.i64.wrap (K + 1) = K + 1 := i64_small _ (by omega) (by omega)
  have z3 : IntKind.i64.wrap Y = Y := i64_small _ (by omega) (by omega)
  rw [← hK] at hk HE
  clear hK
  have zs : IntKind.i64.wrap (S.size : Int) = (S.size : Int) := i64_small _ (by omega) (by omega)
  unfold RTakeTo
  unfold pcV
  go_enter Try.func15, Try.ntmps15
  go_upto_region 1 with (fail)
  generalize (w.alloc (.cells #[.int .i64 8, .string I] 45)).alloc (.cells #[.int .i64 0, .string ⟨#[]⟩] 45) = w1 at *
  have g0 := HG.out.cell 0 rfl
  have gf0 := (HG.out.get 0 rfl).free
  have g1 := HG.out.cell 1 rfl
  have gf1 := (HG.out.get 1 rfl).free
  have g2 := HG.out.cell 2 rfl
  have gf2 := (HG.out.get 2 rfl).free
  have g3 := HG.out.cell 3 rfl
  have gf3 := (HG.out.get 3 rfl).free
  have q0 := HQ.out.cell 0 rfl
  have qf0 := (HQ.out.get 0 rfl).free
  have q1 := HQ.out.cell 1 rfl
  have qf1 := (HQ.out.get 1 rfl).free
  have p0 := HP.out.cell 0 rfl
  have p1 := HP.out.cell 1 rfl
  go_upto_region 15 with (fail)
  have HG2 := Lib.hid (show RowAt ((((w1.setCell ⟨m, 0, none⟩ (.bool true)).setCell ⟨m, 1, none⟩ (.int .i64 Y)).setCell ⟨m, 2, none⟩ (.int .i64 (K + 1))).setCell ⟨m, 3, none⟩ (.string ⟨#[]⟩)) m [.bool true, .int .i64 Y, .int .i64 (K + 1), .string ⟨#[]⟩] from ((((HG.out.put 0 (.bool true) _ rfl).put 1 (.int .i64 Y) _ rfl).put 2 (.int .i64 (K + 1)) _ rfl).put 3 (.string ⟨#[]⟩) _ rfl))
  have HQ2 := Lib.hid (show RowAt ((((w1.setCell ⟨m, 0, none⟩ (.bool true)).setCell ⟨m, 1, none⟩ (.int .i64 Y)).setCell ⟨m, 2, none⟩ (.int .i64 (K + 1))).setCell ⟨m, 3, none⟩ (.string ⟨#[]⟩)) (w.heap.size + 1) [.int .i64 0, .string ⟨#[]⟩] from ((((HQ.out.other (p := 0) (.bool true) hm1).other (p := 1) (.int .i64 Y) hm1).other (p := 2) (.int .i64 (K + 1)) hm1).other (p := 3) (.string ⟨#[]⟩) hm1))
  have HP2 := Lib.hid ((((HP.out.other (p := 0) (.bool true) hm0).other (p := 1) (.int .i64 Y) hm0).other (p := 2) (.int .i64 (K + 1)) hm0).other (p := 3) (.string ⟨#[]⟩) hm0)
  have HT2 := Lib.hid ((((HT.out.set (p := ⟨m, 0, none⟩) (Or.inl rfl) (.bool true)).set (p := ⟨m, 1, none⟩) (Or.inl rfl) (.int .i64 Y)).set (p := ⟨m, 2, none⟩) (Or.inl rfl) (.int .i64 (K + 1))).set (p := ⟨m, 3, none⟩) (Or.inl rfl) (.string ⟨#[]⟩))
  clear g0 g1 g2 g3 gf0 gf1 gf2 gf3 q0 q1 qf0 qf1 p0 p1
  clear HG HQ HP HT
  generalize ((((w1.setCell ⟨m, 0, none⟩ (.bool true)).setCell ⟨m, 1, none⟩ (.int .i64 Y)).setCell ⟨m, 2, none⟩ (.int .i64 (K + 1))).setCell ⟨m, 3, none⟩ (.string ⟨#[]⟩)) = w2 at *
  have HG := HG2
  have HQ := HQ2
  have HP := HP2
  have HT := HT2
  clear HG2 HQ2 HP2 HT2
  have g0 := HG.out.cell 0 rfl
  have gf0 := (HG.out.get 0 rfl).free
  have g1 := HG.out.cell 1 rfl
  have gf1 := (HG.out.get 1 rfl).free
  have g2 := HG.out.cell 2 rfl
  have gf2 := (HG.out.get 2 rfl).free
  have g3 := HG.out.cell 3 rfl
  have gf3 := (HG.out.get 3 rfl).free
  have q0 := HQ.out.cell 0 rfl
  have qf0 := (HQ.out.get 0 rfl).free
  have q1 := HQ.out.cell 1 rfl
  have qf1 := (HQ.out.get 1 rfl).free
  have p0 := HP.out.cell 0 rfl
  have p1 := HP.out.cell 1 rfl
  go_upto_region 24 with (fail)
  have HG2 := Lib.hid (show RowAt (w2.setCell ⟨m, 3, none⟩ (.string N)) m [.bool true, .int .i64 Y, .int .i64 (K + 1), .string N] from (HG.out.put 3 (.string N) _ rfl))
  have HQ2 := Lib.hid (show RowAt (w2.setCell ⟨m, 3, none⟩ (.string N)) (w.heap.size + 1) [.int .i64 0, .string ⟨#[]⟩] from (HQ.out.other (p := 3) (.string N) hm1))
  have HP2 := Lib.hid (HP.out.other (p := 3) (.string N) hm0)
  have HT2 := Lib.hid (HT.out.set (p := ⟨m, 3, none⟩) (Or.inl rfl) (.string N))
  clear g0 g1 g2 g3 gf0 gf1 gf2 gf3 q0 q1 qf0 qf1 p0 p1
  clear HG HQ HP HT
  generalize (w2.setCell ⟨m, 3, none⟩ (.string N)) = w3 at *
  have HG := HG2
  have HQ := HQ2
  have HP := HP2
  have HT := HT2
  clear HG2 HQ2 HP2 HT2
  have g0 := HG.out.cell 0 rfl
  have gf0 := (HG.out.get 0 rfl).free
  have g1 := HG.out.cell 1 rfl
  have gf1 := (HG.out.get 1 rfl).free
  have g2 := HG.out.cell 2 rfl
  have gf2 := (HG.out.get 2 rfl).free
  have g3 := HG.out.cell 3 rfl
  have gf3 := (HG.out.get 3 rfl).free
  have q0 := HQ.out.cell 0 rfl
  have qf0 := (HQ.out.get 0 rfl).free
  have q1 := HQ.out.cell 1 rfl
  have qf1 := (HQ.out.get 1 rfl).free
  have p0 := HP.out.cell 0 rfl
  have p1 := HP.out.cell 1 rfl
  go_upto_region 25 with (fail)
  have HG2 := Lib.hid (show RowAt (w3.setCell ⟨m, 2, none⟩ (.int .i64 K)) m [.bool true, .int .i64 Y, .int .i64 K, .string N] from (HG.out.put 2 (.int .i64 K) _ rfl))
  have HQ2 := Lib.hid (show RowAt (w3.setCell ⟨m, 2, none⟩ (.int .i64 K)) (w.heap.size + 1) [.int .i64 0, .string ⟨#[]⟩] from (HQ.out.other (p := 2) (.int .i64 K) hm1))
  have HP2 := Lib.hid (HP.out.other (p := 2) (.int .i64 K) hm0)
  have HT2 := Lib.hid (HT.out.set (p := ⟨m, 2, none⟩) (Or.inl rfl) (.int .i64 K))
  clear g0 g1 g2 g3 gf0 gf1 gf2 gf3 q0 q1 qf0 qf1 p0 p1
  clear HG HQ HP HT
  generalize (w3.setCell ⟨m, 2, none⟩ (.int .i64 K)) = w4 at *
  have HG := HG2
  have HQ := HQ2
  have HP := HP2
  have HT := HT2
  clear HG2 HQ2 HP2 HT2
  have g0 := HG.out.cell 0 rfl
  have gf0 := (HG.out.get 0 rfl).free
  have g1 := HG.out.cell 1 rfl
  have gf1 := (HG.out.get 1 rfl).free
  have g2 := HG.out.cell 2 rfl
  have gf2 := (HG.out.get 2 rfl).free
  have g3 := HG.out.cell 3 rfl
  have gf3 := (HG.out.get 3 rfl).free
  have q0 := HQ.out.cell 0 rfl
  have qf0 := (HQ.out.get 0 rfl).free
  have q1 := HQ.out.cell 1 rfl
  have qf1 := (HQ.out.get 1 rfl).free
  have p0 := HP.out.cell 0 rfl
  have p1 := HP.out.cell 1 rfl
  go_wp2_with fail
  have HG2 := Lib.hid (show RowAt ((w4.setCell ⟨w.heap.size + 1, 0, none⟩ (.int .i64 0)).setCell ⟨w.heap.size + 1, 1, none⟩ (.string ⟨#[]⟩)) m [.bool true, .int .i64 Y, .int .i64 K, .string N] from ((HG.out.other (p := 0) (.int .i64 0) hm2).other (p := 1) (.string ⟨#[]⟩) hm2))
  have HQ2 := Lib.hid (show RowAt ((w4.setCell ⟨w.heap.size + 1, 0, none⟩ (.int .i64 0)).setCell ⟨w.heap.size + 1, 1, none⟩ (.string ⟨#[]⟩)) (w.heap.size + 1) [.int .i64 0, .string ⟨#[]⟩] from ((HQ.out.put 0 (.int .i64 0) _ rfl).put 1 (.string ⟨#[]⟩) _ rfl))
  have HP2 := Lib.hid ((HP.out.other (p := 0) (.int .i64 0) (Nat.succ_ne_self _)).other (p := 1) (.string ⟨#[]⟩) (Nat.succ_ne_self _))
  have HT2 := Lib.hid ((HT.out.set (p := ⟨w.heap.size + 1, 0, none⟩) (Or.inr (Nat.le_succ _)) (.int .i64 0)).set (p := ⟨w.heap.size + 1, 1, none⟩) (Or.inr (Nat.le_succ _)) (.string ⟨#[]⟩))
  clear g0 g1 g2 g3 gf0 gf1 gf2 gf3 q0 q1 qf0 qf1 p0 p1
  clear HG HQ HP HT
  have HG := HG2
  have HQ := HQ2
  have HP := HP2
  have HT := HT2
  clear HG2 HQ2 HP2 HT2
  have s0 := HQ.out.cell 0 rfl
  have s1 := HQ.out.cell 1 rfl
  exact bodyPost_ret (v := .tuple #[.agg #[.int .i64 0, .string ⟨#[]⟩], .bool false, .int .i64 0]) (by simp [results, Try.results15, go_sem, s0, s1]) rfl ⟨by first | (rw [HE.out]; done) | (rw [HE.out]; rfl), by rw [HE.out]; exact HG.out, HT.out⟩
set_option maxHeartbeats 1000000 in
theorem rtake_first_whole (m : Nat) (s : Gs) (p : Pc) (w : World) (h : RowAt w m (gsV s)) (x y : UInt8) (t : List UInt8) (h8 : p.pid = 8) (hI : p.info.data.toList = x :: y :: t) (hx : 128 ≤ int8 x) (hzT : s.text.size ≤ 600) (hzI : p.info.size ≤ 2000) (hfit : ¬ 600 < ((0 : Nat) : Int) + t.length) (hk : ¬ 0 < int8 x - 128) : Calls Try.prog 15 #[.pointer (some ⟨m, 0, none⟩), pcV p] w (RTakeTo m w (takeD s p)) := by
  obtain ⟨on, pid, left, T⟩ := s
  obtain ⟨P, I⟩ := p
  simp only [gsV] at h
  have hmw : m < w.heap.size := h.lt
  have hm0 : m ≠ w.heap.size := by omega
  have hm1 : m ≠ w.heap.size + 1 := by omega
  have hm2 : w.heap.size + 1 ≠ m := by omega
  have HG := Lib.hid ((h.alloc (.cells #[.int .i64 P, .string I] 45)).alloc (.cells #[.int .i64 0, .string ⟨#[]⟩] 45))
  have HP := Lib.hid ((RowAt.new w w.heap.size rfl [.int .i64 P, .string I] 45).alloc (.cells #[.int .i64 0, .string ⟨#[]⟩] 45))
  have HQ := Lib.hid (RowAt.new (w.alloc (.cells #[.int .i64 P, .string I] 45)) (w.heap.size + 1) (by simp) [.int .i64 0, .string ⟨#[]⟩] 45)
  have HT := Lib.hid (((Turn.refl (fun k => k = m) w).alloc (.cells #[.int .i64 P, .string I] 45)).alloc (.cells #[.int .i64 0, .string ⟨#[]⟩] 45))
  clear h
  simp only at *
  subst h8
  have hx0 := int8_low x
  have hsz : I.size = 2 + t.length := by rw [show I.size = I.data.toList.length from by simp, hI]; simp; omega
  have hi0 : ∀ W, (Instr.index 9 (.string I) (.int .i64 0)).run Try.prog W = .ok (.int .u8 (int8 x)) W := fun W => index_text I 0 x (by rw [hI]; rfl) W
  have hs1 : ∀ W, (Instr.slice 9 (.string I) (some (.int .i64 1)) none none).run Try.prog W = .ok (.string ⟨(y :: t).toArray⟩) W := fun W => by
    have k := slice_behind I 1 (by omega) W
    rw [hI] at k
    exact k
  have hi1 : ∀ W, (Instr.index 9 (.string ⟨(y :: t).toArray⟩) (.int .i64 0)).run Try.prog W = .ok (.int .u8 (int8 y)) W := fun W => index_text _ 0 y rfl W
  have hs2 : ∀ W, (Instr.slice 9 (.string ⟨(y :: t).toArray⟩) (some (.int .i64 1)) none none).run Try.prog W = .ok (.string ⟨t.toArray⟩) W := fun W => by
    have k := slice_behind ⟨(y :: t).toArray⟩ 1 (by show 1 ≤ (y :: t).toArray.size; simp) W
    exact k
  have hy0 := int8_low y
  have hS : (⟨t.toArray⟩ : ByteArray).size = t.length := by show t.toArray.size = _; simp
  have HE0 : takeD ⟨on, pid, left, T⟩ ⟨8, I⟩ = goOn ⟨true, int8 y, int8 x - 128 + 1, ⟨#[]⟩⟩ (int8 x - 128) t := by
    unfold takeD
    rw [if_neg (show ¬ ((8 : Int) < 0 ∨ 255 < (8 : Int)) by decide), if_neg (show ¬ ((8 : Int) ≠ 8) by decide)]
    simp only [hI]
    rw [if_pos hx]
  have HE1 : (!(⟨true, int8 y, int8 x - 128 + 1, ⟨#[]⟩⟩ : Gs).on || (int8 x - 128) + 1 != (⟨true, int8 y, int8 x - 128 + 1, ⟨#[]⟩⟩ : Gs).left) = false := by simp
  obtain ⟨N, hN⟩ : ∃ N, (⟨#[]⟩ : ByteArray) ++ ⟨t.toArray⟩ = N := ⟨_, rfl⟩
  have HE := Lib.hid (show takeD ⟨on, pid, left, T⟩ ⟨8, I⟩ = (zeroG, ⟨(int8 y), N⟩, true, 0) from by
    rw [HE0]
    unfold goOn
    rw [if_neg (by rw [HE1]; exact Bool.false_ne_true), if_neg (show ¬ 600 < ((⟨#[]⟩ : ByteArray).size : Int) + t.length from hfit), if_neg hk, ← hN])
  clear HE0 HE1 hI
  have ha := fun (W : World) => run_string_add_sum (P := Try.prog) (w := W) (⟨#[]⟩ : ByteArray) ⟨t.toArray⟩ (by rw [hS]; show 0 + t.length ≤ _; omega)
  rw [hN] at ha
  clear hN
  have hz0 : ((I.size : Int) == 0) = false := by rw [beq_eq_false_iff_ne]; omega
  have hz1 : ((I.size : Int) == 1) = false := by rw [beq_eq_false_iff_ne]; omega
  have hzS : (⟨t.toArray⟩ : ByteArray).size ≤ 2000 := by omega
  clear hsz
  generalize (⟨t.toArray⟩ : ByteArray) = S at *
  generalize t.length = n at *
  generalize int8 x = X at *
  generalize int8 y = Y at *
  generalize (⟨(y :: t).toArray⟩ : ByteArray) = S1 at *
  obtain ⟨K, hK⟩ : ∃ K, K = X - 128 := ⟨_, rfl⟩
  have z0 : IntKind.i64.wrap X = X := i64_small _ (by omega) (by omega)
  have z1 : IntKind.i64.wrap (X - 128) = K := (i64_small _ (by omega) (by omega)).trans hK.symm
  have z2 : IntKind.i64.wrap (K + 1) = K + 1 := i64_small _ (by omega) (by omega)
  have z3 : IntKind.i64.wrap Y = Y := i64_small _ (by omega) (by omega)
  rw [← hK] at hk
  clear hK
  have zs : IntKind.i64.wrap (S.size : Int) = (S.size : Int) := i64_small _ (by omega) (by omega)
  unfold RTakeTo
  unfold pcV
  go_enter Try.func15, Try.ntmps15
  go_upto_region 1 with (fail)
  generalize (w.alloc (.cells #[.int .i64 8, .string I] 45)).alloc (.cells #[.int .i64 0, .string ⟨#[]⟩] 45) = w1 at *
  have g0 := HG.out.cell 0 rfl
  have gf0 := (HG.out.get 0 rfl).free
  have g1 := HG.out.cell 1 rfl
  have gf1 := (HG.out.get 1 rfl).free
  have g2 := HG.out.cell 2 rfl
  have gf2 := (HG.out.get 2 rfl).free
  have g3 := HG.out.cell 3 rfl
  have gf3 := (HG.out.get 3 rfl).free
  have q0 := HQ.out.cell 0 rfl
  have qf0 := (HQ.out.get 0 rfl).free
  have q1 := HQ.out.cell 1 rfl
  have qf1 := (HQ.out.get 1 rfl).free
  have p0 := HP.out.cell 0 rfl
  have p1 := HP.out.cell 1 rfl
  go_upto_region 15 with (fail)
  have HG2 := Lib.hid (show RowAt ((((w1.setCell ⟨m, 0, none⟩ (.bool true)).setCell ⟨m, 1, none⟩ (.int .i64 Y)).setCell ⟨m, 2, none⟩ (.int .i64 (K + 1))).setCell ⟨m, 3, none⟩ (.string ⟨#[]⟩)) m [.bool true, .int .i64 Y, .int .i64 (K + 1), .string ⟨#[]⟩] from ((((HG.out.put 0 (.bool true) _ rfl).put 1 (.int .i64 Y) _ rfl).put 2 (.int .i64 (K + 1)) _ rfl).put 3 (.string ⟨#[]⟩) _ rfl))
  have HQ2 := Lib.hid (show RowAt ((((w1.setCell ⟨m, 0, none⟩ (.bool true)).setCell ⟨m, 1, none⟩ (.int .i64 Y)).setCell ⟨m, 2, none⟩ (.int .i64 (K + 1))).setCell ⟨m, 3, none⟩ (.string ⟨#[]⟩)) (w.heap.size + 1) [.int .i64 0, .string ⟨#[]⟩] from ((((HQ.out.other (p := 0) (.bool true) hm1).other (p := 1) (.int .i64 Y) hm1).other (p := 2) (.int .i64 (K + 1)) hm1).other (p := 3) (.string ⟨#[]⟩) hm1))
  have HP2 := Lib.hid ((((HP.out.other (p := 0) (.bool true) hm0).other (p := 1) (.int .i64 Y) hm0).other (p := 2) (.int .i64 (K + 1)) hm0).other (p := 3) (.string ⟨#[]⟩) hm0)
  have HT2 := Lib.hid ((((HT.out.set (p := ⟨m, 0, none⟩) (Or.inl rfl) (.bool true)).set (p := ⟨m, 1, none⟩) (Or.inl rfl) (.int .i64 Y)).set (p := ⟨m, 2, none⟩) (Or.inl rfl) (.int .i64 (K + 1))).set (p := ⟨m, 3, none⟩) (Or.inl rfl) (.string ⟨#[]⟩))
  clear g0 g1 g2 g3 gf0 gf1 gf2 gf3 q0 q1 qf0 qf1 p0 p1
  clear HG HQ HP HT
  generalize ((((w1.setCell ⟨m, 0, none⟩ (.bool true)).setCell ⟨m, 1, none⟩ (.int .i64 Y)).setCell ⟨m, 2, none⟩ (.int .i64 (K + 1))).setCell ⟨m, 3, none⟩ (.string ⟨#[]⟩)) = w2 at *
  have HG := HG2
  have HQ := HQ2
  have HP := HP2
  have HT := HT2
  clear HG2 HQ2 HP2 HT2
  have g0 := HG.out.cell 0 rfl
  have gf0 := (HG.out.get 0 rfl).free
  have g1 := HG.out.cell 1 rfl
  have gf1 := (HG.out.get 1 rfl).free
  have g2 := HG.out.cell 2 rfl
  have gf2 := (HG.out.get 2 rfl).free
  have g3 := HG.out.cell 3 rfl
  have gf3 := (HG.out.get 3 rfl).free
  have q0 := HQ.out.cell 0 rfl
  have qf0 := (HQ.out.get 0 rfl).free
  have q1 := HQ.out.cell 1 rfl
  have qf1 := (HQ.out.get 1 rfl).free
  have p0 := HP.out.cell 0 rfl
  have p1 := HP.out.cell 1 rfl
  go_upto_region 24 with (fail)
  have HG2 := Lib.hid (show RowAt (w2.setCell ⟨m, 3, none⟩ (.string N)) m [.bool true, .int .i64 Y, .int .i64 (K + 1), .string N] from (HG.out.put 3 (.string N) _ rfl))
  have HQ2 := Lib.hid (show RowAt (w2.setCell ⟨m, 3, none⟩ (.string N)) (w.heap.size + 1) [.int .i64 0, .string ⟨#[]⟩] from (HQ.out.other (p := 3) (.string N) hm1))
  have HP2 := Lib.hid (HP.out.other (p := 3) (.string N) hm0)
  have HT2 := Lib.hid (HT.out.set (p := ⟨m, 3, none⟩) (Or.inl rfl) (.string N))
  clear g0 g1 g2 g3 gf0 gf1 gf2 gf3 q0 q1 qf0 qf1 p0 p1
  clear HG HQ HP HT
  generalize (w2.setCell ⟨m, 3, none⟩ (.string N)) = w3 at *
  have HG := HG2
  have HQ := HQ2
  have HP := HP2
  have HT := HT2
  clear HG2 HQ2 HP2 HT2
  have g0 := HG.out.cell 0 rfl
  have gf0 := (HG.out.get 0 rfl).free
  have g1 := HG.out.cell 1 rfl
  have gf1 := (HG.out.get 1 rfl).free
  have g2 := HG.out.cell 2 rfl
  have gf2 := (HG.out.get 2 rfl).free
  have g3 := HG.out.cell 3 rfl
  have gf3 := (HG.out.get 3 rfl).free
  have q0 := HQ.out.cell 0 rfl
  have qf0 := (HQ.out.get 0 rfl).free
  have q1 := HQ.out.cell 1 rfl
  have qf1 := (HQ.out.get 1 rfl).free
  have p0 := HP.out.cell 0 rfl
  have p1 := HP.out.cell 1 rfl
  go_upto_region 25 with (fail)
  have HG2 := Lib.hid (show RowAt (w3.setCell ⟨m, 2, none⟩ (.int .i64 K)) m [.bool true, .int .i64 Y, .int .i64 K, .string N] from (HG.out.put 2 (.int .i64 K) _ rfl))
  have HQ2 := Lib.hid (show RowAt (w3.setCell ⟨m, 2, none⟩ (.int .i64 K)) (w.heap.size + 1) [.int .i64 0, .string ⟨#[]⟩] from (HQ.out.other (p := 2) (.int .i64 K) hm1))
  have HP2 := Lib.hid (HP.out.other (p := 2) (.int .i64 K) hm0)
  have HT2 := Lib.hid (HT.out.set (p := ⟨m, 2, none⟩) (Or.inl rfl) (.int .i64 K))
  clear g0 g1 g2 g3 gf0 gf1 gf2 gf3 q0 q1 qf0 qf1 p0 p1
  clear HG HQ HP HT
  generalize (w3.setCell ⟨m, 2, none⟩ (.int .i64 K)) = w4 at *
  have HG := HG2
  have HQ := HQ2
  have HP := HP2
  have HT := HT2
  clear HG2 HQ2 HP2 HT2
  have g0 := HG.out.cell 0 rfl
  have gf0 := (HG.out.get 0 rfl).free
  have g1 := HG.out.cell 1 rfl
  have gf1 := (HG.out.get 1 rfl).free
  have g2 := HG.out.cell 2 rfl
  have gf2 := (HG.out.get 2 rfl).free
  have g3 := HG.out.cell 3 rfl
  have gf3 := (HG.out.get 3 rfl).free
  have q0 := HQ.out.cell 0 rfl
  have qf0 := (HQ.out.get 0 rfl).free
  have q1 := HQ.out.cell 1 rfl
  have qf1 := (HQ.out.get 1 rfl).free
  have p0 := HP.out.cell 0 rfl
  have p1 := HP.out.cell 1 rfl
  have d1 := HG.out.drew.cell 1 rfl
  have d3 := HG.out.drew.cell 3 rfl
  have d4 := (HG.out.alloc (.cells #[.int .i64 0, .string ⟨#[]⟩] 45)).cell 1 rfl
  have d5 := (HG.out.alloc (.cells #[.int .i64 0, .string ⟨#[]⟩] 45)).cell 3 rfl
  go_upto_region 27 with (fail)
  go_region
  clear d1 d3 d4 d5
  have hmq : m < w4.heap.size := HG.out.lt
  have hqq : w.heap.size + 1 < w4.heap.size := HQ.out.lt
  have HO := Lib.hid ((RowAt.new w4 w4.heap.size rfl [.int .i64 Y, .string N] 45).drew)
  replace HG := Lib.hid ((HG.out.alloc (.cells #[.int .i64 Y, .string N] 45)).drew)
  replace HQ := Lib.hid ((HQ.out.alloc (.cells #[.int .i64 Y, .string N] 45)).drew)
  replace HP := Lib.hid ((HP.out.alloc (.cells #[.int .i64 Y, .string N] 45)).drew)
  replace HT := Lib.hid ((HT.out.alloc (.cells #[.int .i64 Y, .string N] 45)).drew)
  clear g0 g1 g2 g3 gf0 gf1 gf2 gf3 q0 q1 qf0 qf1 p0 p1
  generalize (w4.alloc (.cells #[.int .i64 Y, .string N] 45)).drew = wb at *
  have hmo : m ≠ w4.heap.size := by omega
  obtain ⟨ob, hob⟩ : ∃ ob, ob = w4.heap.size := ⟨_, rfl⟩
  rw [← hob] at HO hmo ⊢
  clear hob hmq hqq
  have g0 := HG.out.cell 0 rfl
  have gf0 := (HG.out.get 0 rfl).free
  have g1 := HG.out.cell 1 rfl
  have gf1 := (HG.out.get 1 rfl).free
  have g2 := HG.out.cell 2 rfl
  have gf2 := (HG.out.get 2 rfl).free
  have g3 := HG.out.cell 3 rfl
  have gf3 := (HG.out.get 3 rfl).free
  have q0 := HQ.out.cell 0 rfl
  have qf0 := (HQ.out.get 0 rfl).free
  have q1 := HQ.out.cell 1 rfl
  have qf1 := (HQ.out.get 1 rfl).free
  have p0 := HP.out.cell 0 rfl
  have p1 := HP.out.cell 1 rfl
  replace HO := Lib.hid ((((HO.out.other (p := 0) (.bool false) hmo).other (p := 1) (.int .i64 0) hmo).other (p := 2) (.int .i64 0) hmo).other (p := 3) (.string ⟨#[]⟩) hmo)
  go_upto_region 29 with (fail)
  have HG2 := Lib.hid (show RowAt ((((wb.setCell ⟨m, 0, none⟩ (.bool false)).setCell ⟨m, 1, none⟩ (.int .i64 0)).setCell ⟨m, 2, none⟩ (.int .i64 0)).setCell ⟨m, 3, none⟩ (.string ⟨#[]⟩)) m [.bool false, .int .i64 0, .int .i64 0, .string ⟨#[]⟩] from ((((HG.out.put 0 (.bool false) _ rfl).put 1 (.int .i64 0) _ rfl).put 2 (.int .i64 0) _ rfl).put 3 (.string ⟨#[]⟩) _ rfl))
  have HQ2 := Lib.hid (show RowAt ((((wb.setCell ⟨m, 0, none⟩ (.bool false)).setCell ⟨m, 1, none⟩ (.int .i64 0)).setCell ⟨m, 2, none⟩ (.int .i64 0)).setCell ⟨m, 3, none⟩ (.string ⟨#[]⟩)) (w.heap.size + 1) [.int .i64 0, .string ⟨#[]⟩] from ((((HQ.out.other (p := 0) (.bool false) hm1).other (p := 1) (.int .i64 0) hm1).other (p := 2) (.int .i64 0) hm1).other (p := 3) (.string ⟨#[]⟩) hm1))
  have HP2 := Lib.hid ((((HP.out.other (p := 0) (.bool false) hm0).other (p := 1) (.int .i64 0) hm0).other (p := 2) (.int .i64 0) hm0).other (p := 3) (.string ⟨#[]⟩) hm0)
  have HT2 := Lib.hid ((((HT.out.set (p := ⟨m, 0, none⟩) (Or.inl rfl) (.bool false)).set (p := ⟨m, 1, none⟩) (Or.inl rfl) (.int .i64 0)).set (p := ⟨m, 2, none⟩) (Or.inl rfl) (.int .i64 0)).set (p := ⟨m, 3, none⟩) (Or.inl rfl) (.string ⟨#[]⟩))
  clear g0 g1 g2 g3 gf0 gf1 gf2 gf3 q0 q1 qf0 qf1 p0 p1
  clear HG HQ HP HT
  generalize ((((wb.setCell ⟨m, 0, none⟩ (.bool false)).setCell ⟨m, 1, none⟩ (.int .i64 0)).setCell ⟨m, 2, none⟩ (.int .i64 0)).setCell ⟨m, 3, none⟩ (.string ⟨#[]⟩)) = w5 at *
  have HG := HG2
  have HQ := HQ2
  have HP := HP2
  have HT := HT2
  clear HG2 HQ2 HP2 HT2
  have g0 := HG.out.cell 0 rfl
  have gf0 := (HG.out.get 0 rfl).free
  have g1 := HG.out.cell 1 rfl
  have gf1 := (HG.out.get 1 rfl).free
  have g2 := HG.out.cell 2 rfl
  have gf2 := (HG.out.get 2 rfl).free
  have g3 := HG.out.cell 3 rfl
  have gf3 := (HG.out.get 3 rfl).free
  have q0 := HQ.out.cell 0 rfl
  have qf0 := (HQ.out.get 0 rfl).free
  have q1 := HQ.out.cell 1 rfl
  have qf1 := (HQ.out.get 1 rfl).free
  have p0 := HP.out.cell 0 rfl
  have p1 := HP.out.cell 1 rfl
  have o0 := HO.out.cell 0 rfl
  have o1 := HO.out.cell 1 rfl
  go_wp2_with fail
  have HG2 := Lib.hid (show RowAt ((w5.setCell ⟨w.heap.size + 1, 0, none⟩ (.int .i64 Y)).setCell ⟨w.heap.size + 1, 1, none⟩ (.string N)) m [.bool false, .int .i64 0, .int .i64 0, .string ⟨#[]⟩] from ((HG.out.other (p := 0) (.int .i64 Y) hm2).other (p := 1) (.string N) hm2))
  have HQ2 := Lib.hid (show RowAt ((w5.setCell ⟨w.heap.size + 1, 0, none⟩ (.int .i64 Y)).setCell ⟨w.heap.size + 1, 1, none⟩ (.string N)) (w.heap.size + 1) [.int .i64 Y, .string N] from ((HQ.out.put 0 (.int .i64 Y) _ rfl).put 1 (.string N) _ rfl))
  have HP2 := Lib.hid ((HP.out.other (p := 0) (.int .i64 Y) (Nat.succ_ne_self _)).other (p := 1) (.string N) (Nat.succ_ne_self _))
  have HT2 := Lib.hid ((HT.out.set (p := ⟨w.heap.size + 1, 0, none⟩) (Or.inr (Nat.le_succ _)) (.int .i64 Y)).set (p := ⟨w.heap.size + 1, 1, none⟩) (Or.inr (Nat.le_succ _)) (.string N))
  clear g0 g1 g2 g3 gf0 gf1 gf2 gf3 q0 q1 qf0 qf1 p0 p1
  clear HG HQ HP HT
  have HG := HG2
  have HQ := HQ2
  have HP := HP2
  have HT := HT2
  clear HG2 HQ2 HP2 HT2
  have s0 := HQ.out.cell 0 rfl
  have s1 := HQ.out.cell 1 rfl
  exact bodyPost_ret (v := .tuple #[.agg #[.int .i64 Y, .string N], .bool true, .int .i64 0]) (by simp [results, Try.results15, go_sem, s0, s1]) rfl ⟨by first | (rw [HE.out]; done) | (rw [HE.out]; rfl), by rw [HE.out]; exact HG.out, HT.out⟩
end Go.Proofs.Ytaelhickopeocaa
