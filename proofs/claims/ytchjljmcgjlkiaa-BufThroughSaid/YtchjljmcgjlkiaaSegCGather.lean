/-
The landed code's gather and Take: of any piece, in any state (written by tools/gen10/gen_ctake.py).
-/
import Derived.Test.YtchjljmcgjlkiaaSegCTake
namespace Go.Proofs.Ytchjljmcgjlkiaa
open Go.RowKit
set_option maxRecDepth 20000
/-- what is asked of them -/
def CTakeTo (m : Nat) (w : World) (r : Gs × Pc × Bool × Int) : Ending → World → Prop := fun e w' =>
  e = .returned (.tuple #[pcV r.2.1, .bool r.2.2.1, .int .i64 r.2.2.2]) ∧ RowAt w' m (csV r.1) ∧ Turn (fun k => k = m) w w'
theorem two_put {W : World} {n : Nat} {P : Int} {I : ByteArray} (h : RowAt W n [.int .i64 P, .string I]) (u v : Value) : RowAt ((W.setCell ⟨n, 0, none⟩ u).setCell ⟨n, 1, none⟩ v) n [u, v] := (h.put 0 u _ rfl).put 1 v _ rfl
theorem two_off {W : World} {n m : Nat} {L : List Value} (h : RowAt W m L) (hn : n ≠ m) (u v : Value) : RowAt ((W.setCell ⟨n, 0, none⟩ u).setCell ⟨n, 1, none⟩ v) m L := (h.other (p := 0) u hn).other (p := 1) v hn
theorem two_turn {F : Nat → Prop} {a W : World} {n : Nat} (h : Turn F a W) (hn : a.heap.size ≤ n) (u v : Value) : Turn F a ((W.setCell ⟨n, 0, none⟩ u).setCell ⟨n, 1, none⟩ v) := (h.set (p := ⟨n, 0, none⟩) (Or.inr hn) u).set (p := ⟨n, 1, none⟩) (Or.inr hn) v
theorem three_put {W : World} {n : Nat} {x0 x1 x2 : Value} (h : RowAt W n [x0, x1, x2]) (u v t : Value) : RowAt (((W.setCell ⟨n, 0, none⟩ u).setCell ⟨n, 1, none⟩ v).setCell ⟨n, 2, none⟩ t) n [u, v, t] := ((h.put 0 u _ rfl).put 1 v _ rfl).put 2 t _ rfl
theorem three_off {W : World} {n m : Nat} {L : List Value} (h : RowAt W m L) (hn : n ≠ m) (u v t : Value) : RowAt (((W.setCell ⟨n, 0, none⟩ u).setCell ⟨n, 1, none⟩ v).setCell ⟨n, 2, none⟩ t) m L := ((h.other (p := 0) u hn).other (p := 1) v hn).other (p := 2) t hn
theorem three_turn {F : Nat → Prop} {a W : World} {n : Nat} (h : Turn F a W) (hn : F n ∨ a.heap.size ≤ n) (u v t : Value) : Turn F a (((W.setCell ⟨n, 0, none⟩ u).setCell ⟨n, 1, none⟩ v).setCell ⟨n, 2, none⟩ t) := ((h.set (p := ⟨n, 0, none⟩) hn u).set (p := ⟨n, 1, none⟩) hn v).set (p := ⟨n, 2, none⟩) hn t
theorem same_turn {m : Nat} {a b c : World} (h : Turn (fun k => k = m) a b) (k : Turn (fun k => k = m) b c) : Turn (fun k => k = m) a c := h.trans k (Grew.refl _ _)
set_option maxHeartbeats 1000000 in
theorem cgather_any (m : Nat) (s : Gs) (I : ByteArray) (w : World) (h : RowAt w m (csV s)) (hok : GOk s) (hzI : I.size ≤ 2000) : Calls Try.prog 28 #[.pointer (some ⟨m, 0, none⟩), .string I] w (CTakeTo m w (takeD s ⟨8, I⟩)) := by
  rw [gather_doc s I hok]
  have hmw : m < w.heap.size := h.lt
  have hm0 : w.heap.size ≠ m := by omega
  have hm1 : ¬ (w.heap.size = m) := hm0
  have HAF := Lib.hid (fun W => cafter_any s.left s.pid s.text I W hok.left hok.text hzI)
  have HG := Lib.hid (h.alloc (.cells #[.int .i64 0, .string ⟨#[]⟩] 36))
  have HQ := Lib.hid (RowAt.new w w.heap.size rfl [.int .i64 0, .string ⟨#[]⟩] 36)
  have HT := Lib.hid ((Turn.refl (fun k => k = m) w).alloc (.cells #[.int .i64 0, .string ⟨#[]⟩] 36))
  have HS := Lib.hid (show w.heap.size < (w.alloc (.cells #[.int .i64 0, .string ⟨#[]⟩] 36)).heap.size from by simp)
  clear h hok
  generalize afterD s.left s.pid s.text I.data.toList = r at *
  obtain ⟨⟨a, b, c⟩, E⟩ := r
  unfold CTakeTo pcV
  go_enter Try.func28, Try.ntmps28
  go_upto_region 1 with (fail)
  generalize w.alloc (.cells #[.int .i64 0, .string ⟨#[]⟩] 36) = w1 at *
  have g0 := HG.out.cell 0 rfl
  have g1 := HG.out.cell 1 rfl
  have g2 := HG.out.cell 2 rfl
  go_upto_region 2 with (go_at_call 38; (with_reducible refine (HAF.out _).mono ?_); rintro e w2 ⟨rfl, hb⟩; have HG2 := Lib.hid (HG.out.below hb); have HQ2 := Lib.hid (HQ.out.below hb); have HT2 := Lib.hid (HT.out.then_ hb); have HS2 := Lib.hid (Nat.lt_of_lt_of_le HS.out hb.size); clear hb HG HQ HT HS g0 g1 g2)
  have HN := Lib.hid (RowAt.new w2 w2.heap.size rfl [.int .i64 a, .int .i64 b, .string c] 67)
  have HG3 := Lib.hid (HG2.out.alloc (.cells #[.int .i64 a, .int .i64 b, .string c] 67))
  have HQ3 := Lib.hid (HQ2.out.alloc (.cells #[.int .i64 a, .int .i64 b, .string c] 67))
  have HT3 := Lib.hid (HT2.out.alloc (.cells #[.int .i64 a, .int .i64 b, .string c] 67))
  have hn0 : w2.heap.size ≠ m := by have := HS2.out; omega
  have hn1 : w2.heap.size ≠ w.heap.size := by have := HS2.out; omega
  have hn2 : m ≠ w2.heap.size := fun e => hn0 e.symm
  have hnw : w.heap.size ≤ w2.heap.size := by have := HS2.out; omega
  clear HG2 HQ2 HT2 HS2 HAF
  generalize (w2.alloc (.cells #[.int .i64 a, .int .i64 b, .string c] 67)) = w3 at *
  generalize w2.heap.size = n at *
  by_cases hE : E = 0
  · subst hE
    by_cases ha : 0 < a
    · have hd : gatherD ((a, b, c), 0) = (⟨true, b, a, c⟩, zeroP, false, 0) := by
        unfold gatherD
        rw [if_neg (show ¬ ((0 : Int) ≠ 0) from fun h => h rfl)]
        exact if_pos ha
      have HD := Lib.hid hd
      clear hd
      have n0 := HN.out.cell 0 rfl
      have n1 := HN.out.cell 1 rfl
      have n2 := HN.out.cell 2 rfl
      have g0 := HG3.out.cell 0 rfl
      have gf0 := (HG3.out.get 0 rfl).free
      have g1 := HG3.out.cell 1 rfl
      have gf1 := (HG3.out.get 1 rfl).free
      have g2 := HG3.out.cell 2 rfl
      have gf2 := (HG3.out.get 2 rfl).free
      go_upto_region 7 with (fail)
      clear g0 gf0 g1 gf1 g2 gf2 n0 n1 n2
      have HG4 := Lib.hid (show RowAt (((w3.setCell ⟨m, 0, none⟩ (.int .i64 a)).setCell ⟨m, 1, none⟩ (.int .i64 b)).setCell ⟨m, 2, none⟩ (.string c)) m (csV ⟨true, b, a, c⟩) from three_put HG3.out _ _ _)
      have HQ4 := Lib.hid (show RowAt (((w3.setCell ⟨m, 0, none⟩ (.int .i64 a)).setCell ⟨m, 1, none⟩ (.int .i64 b)).setCell ⟨m, 2, none⟩ (.string c)) w.heap.size [.int .i64 0, .string ⟨#[]⟩] from three_off HQ3.out (fun e => hm0 e.symm) _ _ _)
      have HT4 := Lib.hid (show Turn (fun k => k = m) w (((w3.setCell ⟨m, 0, none⟩ (.int .i64 a)).setCell ⟨m, 1, none⟩ (.int .i64 b)).setCell ⟨m, 2, none⟩ (.string c)) from three_turn HT3.out (Or.inl rfl) _ _ _)
      clear HG3 HQ3 HT3 HN
      generalize (((w3.setCell ⟨m, 0, none⟩ (.int .i64 a)).setCell ⟨m, 1, none⟩ (.int .i64 b)).setCell ⟨m, 2, none⟩ (.string c)) = w4 at *
      have q0 := HQ4.out.cell 0 rfl
      have qf0 := (HQ4.out.get 0 rfl).free
      have q1 := HQ4.out.cell 1 rfl
      have qf1 := (HQ4.out.get 1 rfl).free
      go_wp2_with fail
      clear q0 qf0 q1 qf1
      have HGz := Lib.hid (show RowAt ((w4.setCell ⟨w.heap.size, 0, none⟩ (.int .i64 0)).setCell ⟨w.heap.size, 1, none⟩ (.string ⟨#[]⟩)) m (csV ⟨true, b, a, c⟩) from two_off HG4.out hm0 _ _)
      have HQz := Lib.hid (show RowAt ((w4.setCell ⟨w.heap.size, 0, none⟩ (.int .i64 0)).setCell ⟨w.heap.size, 1, none⟩ (.string ⟨#[]⟩)) (w.heap.size) [.int .i64 0, .string ⟨#[]⟩] from two_put HQ4.out _ _)
      have HTz := Lib.hid (show Turn (fun k => k = m) w ((w4.setCell ⟨w.heap.size, 0, none⟩ (.int .i64 0)).setCell ⟨w.heap.size, 1, none⟩ (.string ⟨#[]⟩)) from two_turn HT4.out (Nat.le_refl _) _ _)
      have s0 := HQz.out.cell 0 rfl
      have s1 := HQz.out.cell 1 rfl
      exact bodyPost_ret (v := .tuple #[.agg #[.int .i64 0, .string ⟨#[]⟩], .bool false, .int .i64 0]) (by simp [results, Try.results28, go_sem, s0, s1]) rfl ⟨by first | (rw [HD.out]; done) | (rw [HD.out]; rfl), by rw [HD.out]; exact HGz.out, HTz.out⟩
    · have hd : gatherD ((a, b, c), 0) = (zeroG, ⟨b, c⟩, true, 0) := by
        unfold gatherD
        rw [if_neg (show ¬ ((0 : Int) ≠ 0) from fun h => h rfl)]
        exact if_neg ha
      have HD := Lib.hid hd
      clear hd
      have n0 := HN.out.cell 0 rfl
      have n1 := HN.out.cell 1 rfl
      have n2 := HN.out.cell 2 rfl
      go_upto_region 9 with ((go_at_call 29; (with_reducible refine (creset_any m s _ HG3.out).mono ?_); rintro e w4 ⟨rfl, hg, ht⟩; have HG4 := Lib.hid hg; have HQ4 := Lib.hid (HQ3.out.turn ht hm1); have HN4 := Lib.hid (HN.out.turn ht hn0); have HT4 := Lib.hid (same_turn HT3.out ht); clear hg ht; have q0 := HQ4.out.cell 0 rfl; have qf0 := (HQ4.out.get 0 rfl).free; have q1 := HQ4.out.cell 1 rfl; have qf1 := (HQ4.out.get 1 rfl).free))
      clear n0 n1 n2
      clear q0 qf0 q1 qf1
      have n0 := HN4.out.cell 0 rfl
      have n1 := HN4.out.cell 1 rfl
      have n2 := HN4.out.cell 2 rfl
      have q0 := HQ4.out.cell 0 rfl
      have qf0 := (HQ4.out.get 0 rfl).free
      have q1 := HQ4.out.cell 1 rfl
      have qf1 := (HQ4.out.get 1 rfl).free
      go_wp2_with fail
      clear q0 qf0 q1 qf1
      have HGz := Lib.hid (show RowAt ((w4.setCell ⟨w.heap.size, 0, none⟩ (.int .i64 b)).setCell ⟨w.heap.size, 1, none⟩ (.string c)) m (csV zeroG) from two_off HG4.out hm0 _ _)
      have HQz := Lib.hid (show RowAt ((w4.setCell ⟨w.heap.size, 0, none⟩ (.int .i64 b)).setCell ⟨w.heap.size, 1, none⟩ (.string c)) (w.heap.size) [.int .i64 b, .string c] from two_put HQ4.out _ _)
      have HTz := Lib.hid (show Turn (fun k => k = m) w ((w4.setCell ⟨w.heap.size, 0, none⟩ (.int .i64 b)).setCell ⟨w.heap.size, 1, none⟩ (.string c)) from two_turn HT4.out (Nat.le_refl _) _ _)
      have s0 := HQz.out.cell 0 rfl
      have s1 := HQz.out.cell 1 rfl
      exact bodyPost_ret (v := .tuple #[.agg #[.int .i64 b, .string c], .bool true, .int .i64 0]) (by simp [results, Try.results28, go_sem, s0, s1]) rfl ⟨by first | (rw [HD.out]; done) | (rw [HD.out]; rfl), by rw [HD.out]; exact HGz.out, HTz.out⟩
  · have hd : gatherD ((a, b, c), E) = (zeroG, zeroP, false, E) := by
      unfold gatherD
      exact if_pos hE
    have HD := Lib.hid hd
    clear hd
    go_wp2_with (go_at_call 29; (with_reducible refine (creset_any m s _ HG3.out).mono ?_); rintro e w4 ⟨rfl, hg, ht⟩; have HG4 := Lib.hid hg; have HQ4 := Lib.hid (HQ3.out.turn ht hm1); have HN4 := Lib.hid (HN.out.turn ht hn0); have HT4 := Lib.hid (same_turn HT3.out ht); clear hg ht; have q0 := HQ4.out.cell 0 rfl; have qf0 := (HQ4.out.get 0 rfl).free; have q1 := HQ4.out.cell 1 rfl; have qf1 := (HQ4.out.get 1 rfl).free)
    clear q0 qf0 q1 qf1
    have HGz := Lib.hid (show RowAt ((w4.setCell ⟨w.heap.size, 0, none⟩ (.int .i64 0)).setCell ⟨w.heap.size, 1, none⟩ (.string ⟨#[]⟩)) m (csV zeroG) from two_off HG4.out hm0 _ _)
    have HQz := Lib.hid (show RowAt ((w4.setCell ⟨w.heap.size, 0, none⟩ (.int .i64 0)).setCell ⟨w.heap.size, 1, none⟩ (.string ⟨#[]⟩)) (w.heap.size) [.int .i64 0, .string ⟨#[]⟩] from two_put HQ4.out _ _)
    have HTz := Lib.hid (show Turn (fun k => k = m) w ((w4.setCell ⟨w.heap.size, 0, none⟩ (.int .i64 0)).setCell ⟨w.heap.size, 1, none⟩ (.string ⟨#[]⟩)) from two_turn HT4.out (Nat.le_refl _) _ _)
    have s0 := HQz.out.cell 0 rfl
    have s1 := HQz.out.cell 1 rfl
    exact bodyPost_ret (v := .tuple #[.agg #[.int .i64 0, .string ⟨#[]⟩], .bool false, .int .i64 E]) (by simp [results, Try.results28, go_sem, s0, s1]) rfl ⟨by first | (rw [HD.out]; done) | (rw [HD.out]; rfl), by rw [HD.out]; exact HGz.out, HTz.out⟩
set_option maxHeartbeats 1000000 in
theorem ctake_any (m : Nat) (s : Gs) (p : Pc) (w : World) (h : RowAt w m (csV s)) (hok : GOk s) (hzI : p.info.size ≤ 2000) : Calls Try.prog 21 #[.pointer (some ⟨m, 0, none⟩), pcV p] w (CTakeTo m w (takeD s p)) := by
  obtain ⟨P, I⟩ := p
  simp only at hzI
  have hmw : m < w.heap.size := h.lt
  have hm0 : w.heap.size + 1 ≠ m := by omega
  have hm1 : ¬ (w.heap.size + 1 = m) := hm0
  have hm2 : ¬ (w.heap.size = m) := by omega
  have hok2 := Lib.hid hok
  have HG := Lib.hid ((h.alloc (.cells #[.int .i64 P, .string I] 36)).alloc (.cells #[.int .i64 0, .string ⟨#[]⟩] 36))
  have HP := Lib.hid ((RowAt.new w w.heap.size rfl [.int .i64 P, .string I] 36).alloc (.cells #[.int .i64 0, .string ⟨#[]⟩] 36))
  have HQ := Lib.hid (RowAt.new (w.alloc (.cells #[.int .i64 P, .string I] 36)) (w.heap.size + 1) (by simp) [.int .i64 0, .string ⟨#[]⟩] 36)
  have HT := Lib.hid (((Turn.refl (fun k => k = m) w).alloc (.cells #[.int .i64 P, .string I] 36)).alloc (.cells #[.int .i64 0, .string ⟨#[]⟩] 36))
  have HPI := Lib.hid (fun W => cpid_any P W)
  clear h hok
  unfold CTakeTo
  unfold pcV
  go_enter Try.func21, Try.ntmps21
  go_upto_region 1 with (fail)
  generalize (w.alloc (.cells #[.int .i64 P, .string I] 36)).alloc (.cells #[.int .i64 0, .string ⟨#[]⟩] 36) = w1 at *
  have p0 := HP.out.cell 0 rfl
  have p1 := HP.out.cell 1 rfl
  have q0 := HQ.out.cell 0 rfl
  have qf0 := (HQ.out.get 0 rfl).free
  have q1 := HQ.out.cell 1 rfl
  have qf1 := (HQ.out.get 1 rfl).free
  by_cases hP : P < 0 ∨ 255 < P
  · have hd : takeD s ⟨P, I⟩ = (s, zeroP, false, 1) := by
      unfold takeD
      exact if_pos hP
    have HD := Lib.hid hd
    clear hd
    have hv : (decide (0 ≤ P) && decide (P ≤ 255)) = false := by
      rcases hP with hP | hP <;> simp <;> omega
    rw [hv] at HPI
    clear hP
    go_wp2_with (go_at_call 27; (with_reducible refine (HPI.out _).mono ?_); rintro e w1 ⟨rfl, rfl⟩)
    clear q0 qf0 q1 qf1 p0 p1
    have HGz := Lib.hid (show RowAt ((w1.setCell ⟨w.heap.size + 1, 0, none⟩ (.int .i64 0)).setCell ⟨w.heap.size + 1, 1, none⟩ (.string ⟨#[]⟩)) m (csV s) from two_off HG.out hm0 _ _)
    have HQz := Lib.hid (show RowAt ((w1.setCell ⟨w.heap.size + 1, 0, none⟩ (.int .i64 0)).setCell ⟨w.heap.size + 1, 1, none⟩ (.string ⟨#[]⟩)) (w.heap.size + 1) [.int .i64 0, .string ⟨#[]⟩] from two_put HQ.out _ _)
    have HTz := Lib.hid (show Turn (fun k => k = m) w ((w1.setCell ⟨w.heap.size + 1, 0, none⟩ (.int .i64 0)).setCell ⟨w.heap.size + 1, 1, none⟩ (.string ⟨#[]⟩)) from two_turn HT.out (Nat.le_succ _) _ _)
    have s0 := HQz.out.cell 0 rfl
    have s1 := HQz.out.cell 1 rfl
    exact bodyPost_ret (v := .tuple #[.agg #[.int .i64 0, .string ⟨#[]⟩], .bool false, .int .i64 1]) (by simp [results, Try.results21, go_sem, s0, s1]) rfl ⟨by first | (rw [HD.out]; done) | (rw [HD.out]; rfl), by rw [HD.out]; exact HGz.out, HTz.out⟩
  · have hv : (decide (0 ≤ P) && decide (P ≤ 255)) = true := by
      simp
      omega
    rw [hv] at HPI
    by_cases h8 : P = 8
    · subst h8
      clear hP
      have HGA := Lib.hid (fun W hW => cgather_any m s I W hW hok2.out hzI)
      obtain ⟨⟨g', ⟨P', I'⟩, f', E'⟩, hr⟩ : ∃ r, takeD s ⟨8, I⟩ = r := ⟨_, rfl⟩
      rw [hr] at HGA
      have HD := Lib.hid hr
      clear hr
      go_wp2_with (first | (go_at_call 27; (with_reducible refine (HPI.out _).mono ?_); rintro e w1 ⟨rfl, rfl⟩) | (go_at_call 28; (with_reducible refine (HGA.out _ HG.out).mono ?_); rintro e w2 ⟨rfl, hg, ht⟩; have HG4 := Lib.hid hg; have HQ4 := Lib.hid (HQ.out.turn ht hm1); have HT4 := Lib.hid (same_turn HT.out ht); clear hg ht q0 q1 qf0 qf1 p0 p1; have q0 := HQ4.out.cell 0 rfl; have qf0 := (HQ4.out.get 0 rfl).free; have q1 := HQ4.out.cell 1 rfl; have qf1 := (HQ4.out.get 1 rfl).free; unfold pcV))
      clear q0 qf0 q1 qf1
      have HGz := Lib.hid (show RowAt ((w2.setCell ⟨w.heap.size + 1, 0, none⟩ ((.int .i64 P'))).setCell ⟨w.heap.size + 1, 1, none⟩ ((.string I'))) m (csV g') from two_off HG4.out hm0 _ _)
      have HQz := Lib.hid (show RowAt ((w2.setCell ⟨w.heap.size + 1, 0, none⟩ ((.int .i64 P'))).setCell ⟨w.heap.size + 1, 1, none⟩ ((.string I'))) (w.heap.size + 1) [(.int .i64 P'), (.string I')] from two_put HQ4.out _ _)
      have HTz := Lib.hid (show Turn (fun k => k = m) w ((w2.setCell ⟨w.heap.size + 1, 0, none⟩ ((.int .i64 P'))).setCell ⟨w.heap.size + 1, 1, none⟩ ((.string I'))) from two_turn HT4.out (Nat.le_succ _) _ _)
      have s0 := HQz.out.cell 0 rfl
      have s1 := HQz.out.cell 1 rfl
      exact bodyPost_ret (v := .tuple #[.agg #[(.int .i64 P'), (.string I')], .bool f', .int .i64 E']) (by simp [results, Try.results21, go_sem, s0, s1]) rfl ⟨by first | (rw [HD.out]; done) | (rw [HD.out]; rfl), by rw [HD.out]; exact HGz.out, HTz.out⟩
    · by_cases hz : 600 < I.size
      · have hd : takeD s ⟨P, I⟩ = (zeroG, zeroP, false, 5) := by
          unfold takeD
          rw [if_neg hP]
          simp only
          rw [if_pos h8]
          exact if_pos hz
        have HD := Lib.hid hd
        clear hd hP
        go_wp2_with (first | (go_at_call 27; (with_reducible refine (HPI.out _).mono ?_); rintro e w1 ⟨rfl, rfl⟩) | (go_at_call 29; (with_reducible refine (creset_any m s _ HG.out).mono ?_); rintro e w2 ⟨rfl, hg, ht⟩; have HG4 := Lib.hid hg; have HQ4 := Lib.hid (HQ.out.turn ht hm1); have HT4 := Lib.hid (same_turn HT.out ht); clear hg ht q0 q1 qf0 qf1 p0 p1; have q0 := HQ4.out.cell 0 rfl; have qf0 := (HQ4.out.get 0 rfl).free; have q1 := HQ4.out.cell 1 rfl; have qf1 := (HQ4.out.get 1 rfl).free))
        clear q0 qf0 q1 qf1
        have HGz := Lib.hid (show RowAt ((w2.setCell ⟨w.heap.size + 1, 0, none⟩ (.int .i64 0)).setCell ⟨w.heap.size + 1, 1, none⟩ (.string ⟨#[]⟩)) m (csV zeroG) from two_off HG4.out hm0 _ _)
        have HQz := Lib.hid (show RowAt ((w2.setCell ⟨w.heap.size + 1, 0, none⟩ (.int .i64 0)).setCell ⟨w.heap.size + 1, 1, none⟩ (.string ⟨#[]⟩)) (w.heap.size + 1) [.int .i64 0, .string ⟨#[]⟩] from two_put HQ4.out _ _)
        have HTz := Lib.hid (show Turn (fun k => k = m) w ((w2.setCell ⟨w.heap.size + 1, 0, none⟩ (.int .i64 0)).setCell ⟨w.heap.size + 1, 1, none⟩ (.string ⟨#[]⟩)) from two_turn HT4.out (Nat.le_succ _) _ _)
        have s0 := HQz.out.cell 0 rfl
        have s1 := HQz.out.cell 1 rfl
        exact bodyPost_ret (v := .tuple #[.agg #[.int .i64 0, .string ⟨#[]⟩], .bool false, .int .i64 5]) (by simp [results, Try.results21, go_sem, s0, s1]) rfl ⟨by first | (rw [HD.out]; done) | (rw [HD.out]; rfl), by rw [HD.out]; exact HGz.out, HTz.out⟩
      · have hd : takeD s ⟨P, I⟩ = (s, ⟨P, I⟩, true, 0) := by
          unfold takeD
          rw [if_neg hP]
          simp only
          rw [if_pos h8]
          exact if_neg hz
        have HD := Lib.hid hd
        clear hd hP
        have HAL := Lib.hid (fun W => calone_any ⟨P, I⟩ W hzI)
        go_wp2_with (first | (go_at_call 27; (with_reducible refine (HPI.out _).mono ?_); rintro e w1 ⟨rfl, rfl⟩) | (go_at_call 30; (with_reducible refine (HAL.out _).mono ?_); rintro e w2 ⟨rfl, hb⟩; have HG4 := Lib.hid (HG.out.below hb); have HQ4 := Lib.hid (HQ.out.below hb); have HT4 := Lib.hid (HT.out.then_ hb); clear hb q0 q1 qf0 qf1 p0 p1; have q0 := HQ4.out.cell 0 rfl; have qf0 := (HQ4.out.get 0 rfl).free; have q1 := HQ4.out.cell 1 rfl; have qf1 := (HQ4.out.get 1 rfl).free; unfold pcV))
        clear q0 qf0 q1 qf1
        have HGz := Lib.hid (show RowAt ((w2.setCell ⟨w.heap.size + 1, 0, none⟩ (.int .i64 P)).setCell ⟨w.heap.size + 1, 1, none⟩ (.string I)) m (csV s) from two_off HG4.out hm0 _ _)
        have HQz := Lib.hid (show RowAt ((w2.setCell ⟨w.heap.size + 1, 0, none⟩ (.int .i64 P)).setCell ⟨w.heap.size + 1, 1, none⟩ (.string I)) (w.heap.size + 1) [.int .i64 P, .string I] from two_put HQ4.out _ _)
        have HTz := Lib.hid (show Turn (fun k => k = m) w ((w2.setCell ⟨w.heap.size + 1, 0, none⟩ (.int .i64 P)).setCell ⟨w.heap.size + 1, 1, none⟩ (.string I)) from two_turn HT4.out (Nat.le_succ _) _ _)
        have s0 := HQz.out.cell 0 rfl
        have s1 := HQz.out.cell 1 rfl
        exact bodyPost_ret (v := .tuple #[.agg #[.int .i64 P, .string I], .bool true, .int .i64 0]) (by simp [results, Try.results21, go_sem, s0, s1]) rfl ⟨by first | (rw [HD.out]; done) | (rw [HD.out]; rfl), by rw [HD.out]; exact HGz.out, HTz.out⟩
end Go.Proofs.Ytchjljmcgjlkiaa
