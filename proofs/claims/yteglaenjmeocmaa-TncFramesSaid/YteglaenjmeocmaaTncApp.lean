/-
Walk of the document's own Apply, way by way.
-/
import Derived.Test.YteglaenjmeocmaaTncRef
namespace Go.Proofs.Yteglaenjmeocmaa
open Go.RowKit
set_option maxHeartbeats 1000000 in
theorem rapp_no (a b c d : Int) (f : Bool) (port cmd : Int) (s : ByteArray) (w : World) (hok : (Par.ok ⟨a, b, c, d, f⟩) = false) :
    Calls Try.prog 8 #[.agg #[.int .i64 a, .int .i64 b, .int .i64 c, .int .i64 d, .bool f], .agg #[.int .i64 port, .int .i64 cmd, .string s]] w fun e w' => e = .returned (.tuple #[.agg #[.int .i64 a, .int .i64 b, .int .i64 c, .int .i64 d, .bool f], .int .i64 1]) ∧ Below w.heap.size w w' := by
  have HR := Lib.hid (fun W => rright_any ⟨a, b, c, d, f⟩ W)
  rw [hok] at HR
  clear hok
  go_enter Try.func8, Try.ntmps8
  go_wp2_with (first
    | (go_at_call 11; refine (HR.out _).mono ?_; rintro e w1 ⟨rfl, hb⟩; obtain ⟨hc, hf⟩ := below_cells hb))
  have r := fun i => (hc (w.heap.size + 1 + 1) i (by simp)).trans (World.cell?_alloc_at _ _ _ _ (by simp))
  obtain ⟨q0, q1, q2, q3, q4⟩ := stored5 (W := w1) (n := w.heap.size + 1 + 1) (.int .i64 a) (.int .i64 b) (.int .i64 c) (.int .i64 d) (.bool f) (r 0) (r 1) (r 2) (r 3) (r 4)
  exact bodyPost_ret (v := .tuple #[.agg #[.int .i64 a, .int .i64 b, .int .i64 c, .int .i64 d, .bool f], .int .i64 1]) (by simp [results, Try.results8, go_sem, q0, q1, q2, q3, q4]) rfl ⟨rfl, set5_below (three_below hb) (by omega) _ _ _ _ _⟩
set_option maxHeartbeats 1000000 in
theorem rapp_form0 (a b c d : Int) (f : Bool) (port cmd : Int) (s : ByteArray) (w : World) (hok : (Par.ok ⟨a, b, c, d, f⟩) = true) (h : port < 0) :
    Calls Try.prog 8 #[.agg #[.int .i64 a, .int .i64 b, .int .i64 c, .int .i64 d, .bool f], .agg #[.int .i64 port, .int .i64 cmd, .string s]] w fun e w' => e = .returned (.tuple #[.agg #[.int .i64 a, .int .i64 b, .int .i64 c, .int .i64 d, .bool f], .int .i64 2]) ∧ Below w.heap.size w w' := by
  have HR := Lib.hid (fun W => rright_any ⟨a, b, c, d, f⟩ W)
  rw [hok] at HR
  clear hok
  go_enter Try.func8, Try.ntmps8
  go_wp2_with (first
    | (go_at_call 11; refine (HR.out _).mono ?_; rintro e w1 ⟨rfl, hb⟩; obtain ⟨hc, hf⟩ := below_cells hb))
  have r := fun i => (hc (w.heap.size + 1 + 1) i (by simp)).trans (World.cell?_alloc_at _ _ _ _ (by simp))
  obtain ⟨q0, q1, q2, q3, q4⟩ := stored5 (W := w1) (n := w.heap.size + 1 + 1) (.int .i64 a) (.int .i64 b) (.int .i64 c) (.int .i64 d) (.bool f) (r 0) (r 1) (r 2) (r 3) (r 4)
  exact bodyPost_ret (v := .tuple #[.agg #[.int .i64 a, .int .i64 b, .int .i64 c, .int .i64 d, .bool f], .int .i64 2]) (by simp [results, Try.results8, go_sem, q0, q1, q2, q3, q4]) rfl ⟨rfl, set5_below (three_below hb) (by omega) _ _ _ _ _⟩
set_option maxHeartbeats 1000000 in
theorem rapp_form1 (a b c d : Int) (f : Bool) (port cmd : Int) (s : ByteArray) (w : World) (hok : (Par.ok ⟨a, b, c, d, f⟩) = true) (h : 15 < port) :
    Calls Try.prog 8 #[.agg #[.int .i64 a, .int .i64 b, .int .i64 c, .int .i64 d, .bool f], .agg #[.int .i64 port, .int .i64 cmd, .string s]] w fun e w' => e = .returned (.tuple #[.agg #[.int .i64 a, .int .i64 b, .int .i64 c, .int .i64 d, .bool f], .int .i64 2]) ∧ Below w.heap.size w w' := by
  have HR := Lib.hid (fun W => rright_any ⟨a, b, c, d, f⟩ W)
  rw [hok] at HR
  clear hok
  go_enter Try.func8, Try.ntmps8
  go_wp2_with (first
    | (go_at_call 11; refine (HR.out _).mono ?_; rintro e w1 ⟨rfl, hb⟩; obtain ⟨hc, hf⟩ := below_cells hb))
  have r := fun i => (hc (w.heap.size + 1 + 1) i (by simp)).trans (World.cell?_alloc_at _ _ _ _ (by simp))
  obtain ⟨q0, q1, q2, q3, q4⟩ := stored5 (W := w1) (n := w.heap.size + 1 + 1) (.int .i64 a) (.int .i64 b) (.int .i64 c) (.int .i64 d) (.bool f) (r 0) (r 1) (r 2) (r 3) (r 4)
  exact bodyPost_ret (v := .tuple #[.agg #[.int .i64 a, .int .i64 b, .int .i64 c, .int .i64 d, .bool f], .int .i64 2]) (by simp [results, Try.results8, go_sem, q0, q1, q2, q3, q4]) rfl ⟨rfl, set5_below (three_below hb) (by omega) _ _ _ _ _⟩
set_option maxHeartbeats 1000000 in
theorem rapp_form2 (a b c d : Int) (f : Bool) (port cmd : Int) (s : ByteArray) (w : World) (hok : (Par.ok ⟨a, b, c, d, f⟩) = true) (h0 : 0 ≤ port) (h1 : port ≤ 15) (h : cmd < 0) :
    Calls Try.prog 8 #[.agg #[.int .i64 a, .int .i64 b, .int .i64 c, .int .i64 d, .bool f], .agg #[.int .i64 port, .int .i64 cmd, .string s]] w fun e w' => e = .returned (.tuple #[.agg #[.int .i64 a, .int .i64 b, .int .i64 c, .int .i64 d, .bool f], .int .i64 2]) ∧ Below w.heap.size w w' := by
  have HR := Lib.hid (fun W => rright_any ⟨a, b, c, d, f⟩ W)
  rw [hok] at HR
  clear hok
  go_enter Try.func8, Try.ntmps8
  go_wp2_with (first
    | (go_at_call 11; refine (HR.out _).mono ?_; rintro e w1 ⟨rfl, hb⟩; obtain ⟨hc, hf⟩ := below_cells hb))
  have r := fun i => (hc (w.heap.size + 1 + 1) i (by simp)).trans (World.cell?_alloc_at _ _ _ _ (by simp))
  obtain ⟨q0, q1, q2, q3, q4⟩ := stored5 (W := w1) (n := w.heap.size + 1 + 1) (.int .i64 a) (.int .i64 b) (.int .i64 c) (.int .i64 d) (.bool f) (r 0) (r 1) (r 2) (r 3) (r 4)
  exact bodyPost_ret (v := .tuple #[.agg #[.int .i64 a, .int .i64 b, .int .i64 c, .int .i64 d, .bool f], .int .i64 2]) (by simp [results, Try.results8, go_sem, q0, q1, q2, q3, q4]) rfl ⟨rfl, set5_below (three_below hb) (by omega) _ _ _ _ _⟩
set_option maxHeartbeats 1000000 in
theorem rapp_form3 (a b c d : Int) (f : Bool) (port cmd : Int) (s : ByteArray) (w : World) (hok : (Par.ok ⟨a, b, c, d, f⟩) = true) (h0 : 0 ≤ port) (h1 : port ≤ 15) (h : 15 < cmd) :
    Calls Try.prog 8 #[.agg #[.int .i64 a, .int .i64 b, .int .i64 c, .int .i64 d, .bool f], .agg #[.int .i64 port, .int .i64 cmd, .string s]] w fun e w' => e = .returned (.tuple #[.agg #[.int .i64 a, .int .i64 b, .int .i64 c, .int .i64 d, .bool f], .int .i64 2]) ∧ Below w.heap.size w w' := by
  have HR := Lib.hid (fun W => rright_any ⟨a, b, c, d, f⟩ W)
  rw [hok] at HR
  clear hok
  go_enter Try.func8, Try.ntmps8
  go_wp2_with (first
    | (go_at_call 11; refine (HR.out _).mono ?_; rintro e w1 ⟨rfl, hb⟩; obtain ⟨hc, hf⟩ := below_cells hb))
  have r := fun i => (hc (w.heap.size + 1 + 1) i (by simp)).trans (World.cell?_alloc_at _ _ _ _ (by simp))
  obtain ⟨q0, q1, q2, q3, q4⟩ := stored5 (W := w1) (n := w.heap.size + 1 + 1) (.int .i64 a) (.int .i64 b) (.int .i64 c) (.int .i64 d) (.bool f) (r 0) (r 1) (r 2) (r 3) (r 4)
  exact bodyPost_ret (v := .tuple #[.agg #[.int .i64 a, .int .i64 b, .int .i64 c, .int .i64 d, .bool f], .int .i64 2]) (by simp [results, Try.results8, go_sem, q0, q1, q2, q3, q4]) rfl ⟨rfl, set5_below (three_below hb) (by omega) _ _ _ _ _⟩
set_option maxHeartbeats 1000000 in
theorem rapp_form4 (a b c d : Int) (f : Bool) (port : Int) (s : ByteArray) (w : World) (hok : (Par.ok ⟨a, b, c, d, f⟩) = true) (h0 : 0 ≤ port) (h1 : port ≤ 15) (h : port ≠ 15) :
    Calls Try.prog 8 #[.agg #[.int .i64 a, .int .i64 b, .int .i64 c, .int .i64 d, .bool f], .agg #[.int .i64 port, .int .i64 15, .string s]] w fun e w' => e = .returned (.tuple #[.agg #[.int .i64 a, .int .i64 b, .int .i64 c, .int .i64 d, .bool f], .int .i64 2]) ∧ Below w.heap.size w w' := by
  have HR := Lib.hid (fun W => rright_any ⟨a, b, c, d, f⟩ W)
  rw [hok] at HR
  clear hok
  have t1 : (port != 15) = true := by rw [bne_iff_ne]; exact h
  clear h
  go_enter Try.func8, Try.ntmps8
  go_wp2_with (first
    | (go_at_call 11; refine (HR.out _).mono ?_; rintro e w1 ⟨rfl, hb⟩; obtain ⟨hc, hf⟩ := below_cells hb))
  have r := fun i => (hc (w.heap.size + 1 + 1) i (by simp)).trans (World.cell?_alloc_at _ _ _ _ (by simp))
  obtain ⟨q0, q1, q2, q3, q4⟩ := stored5 (W := w1) (n := w.heap.size + 1 + 1) (.int .i64 a) (.int .i64 b) (.int .i64 c) (.int .i64 d) (.bool f) (r 0) (r 1) (r 2) (r 3) (r 4)
  exact bodyPost_ret (v := .tuple #[.agg #[.int .i64 a, .int .i64 b, .int .i64 c, .int .i64 d, .bool f], .int .i64 2]) (by simp [results, Try.results8, go_sem, q0, q1, q2, q3, q4]) rfl ⟨rfl, set5_below (three_below hb) (by omega) _ _ _ _ _⟩
set_option maxHeartbeats 1000000 in
theorem rapp_none (a b c d : Int) (f : Bool) (port cmd : Int) (s : ByteArray) (w : World) (hok : (Par.ok ⟨a, b, c, d, f⟩) = true) (h0 : 0 ≤ port) (h1 : port ≤ 15) (h2 : 7 ≤ cmd) (h3 : cmd ≤ 14) :
    Calls Try.prog 8 #[.agg #[.int .i64 a, .int .i64 b, .int .i64 c, .int .i64 d, .bool f], .agg #[.int .i64 port, .int .i64 cmd, .string s]] w fun e w' => e = .returned (.tuple #[.agg #[.int .i64 a, .int .i64 b, .int .i64 c, .int .i64 d, .bool f], .int .i64 7]) ∧ Below w.heap.size w w' := by
  have HR := Lib.hid (fun W => rright_any ⟨a, b, c, d, f⟩ W)
  rw [hok] at HR
  clear hok
  have t1 : (cmd == 15) = false := by rw [beq_eq_false_iff_ne]; omega
  go_enter Try.func8, Try.ntmps8
  go_wp2_with (first
    | (go_at_call 11; refine (HR.out _).mono ?_; rintro e w1 ⟨rfl, hb⟩; obtain ⟨hc, hf⟩ := below_cells hb))
  have r := fun i => (hc (w.heap.size + 1 + 1) i (by simp)).trans (World.cell?_alloc_at _ _ _ _ (by simp))
  obtain ⟨q0, q1, q2, q3, q4⟩ := stored5 (W := w1) (n := w.heap.size + 1 + 1) (.int .i64 a) (.int .i64 b) (.int .i64 c) (.int .i64 d) (.bool f) (r 0) (r 1) (r 2) (r 3) (r 4)
  exact bodyPost_ret (v := .tuple #[.agg #[.int .i64 a, .int .i64 b, .int .i64 c, .int .i64 d, .bool f], .int .i64 7]) (by simp [results, Try.results8, go_sem, q0, q1, q2, q3, q4]) rfl ⟨rfl, set5_below (three_below hb) (by omega) _ _ _ _ _⟩
set_option maxHeartbeats 1000000 in
theorem rapp_data0 (a b c d : Int) (f : Bool) (port : Int) (s : ByteArray) (w : World) (hok : (Par.ok ⟨a, b, c, d, f⟩) = true) (h0 : 0 ≤ port) (h1 : port ≤ 15) :
    Calls Try.prog 8 #[.agg #[.int .i64 a, .int .i64 b, .int .i64 c, .int .i64 d, .bool f], .agg #[.int .i64 port, .int .i64 0, .string s]] w fun e w' => e = .returned (.tuple #[.agg #[.int .i64 a, .int .i64 b, .int .i64 c, .int .i64 d, .bool f], .int .i64 0]) ∧ Below w.heap.size w w' := by
  have HR := Lib.hid (fun W => rright_any ⟨a, b, c, d, f⟩ W)
  rw [hok] at HR
  clear hok
  go_enter Try.func8, Try.ntmps8
  go_wp2_with (first
    | (go_at_call 11; refine (HR.out _).mono ?_; rintro e w1 ⟨rfl, hb⟩; obtain ⟨hc, hf⟩ := below_cells hb))
  have r := fun i => (hc (w.heap.size + 1 + 1) i (by simp)).trans (World.cell?_alloc_at _ _ _ _ (by simp))
  obtain ⟨q0, q1, q2, q3, q4⟩ := stored5 (W := w1) (n := w.heap.size + 1 + 1) (.int .i64 a) (.int .i64 b) (.int .i64 c) (.int .i64 d) (.bool f) (r 0) (r 1) (r 2) (r 3) (r 4)
  exact bodyPost_ret (v := .tuple #[.agg #[.int .i64 a, .int .i64 b, .int .i64 c, .int .i64 d, .bool f], .int .i64 0]) (by simp [results, Try.results8, go_sem, q0, q1, q2, q3, q4]) rfl ⟨rfl, set5_below (three_below hb) (by omega) _ _ _ _ _⟩
set_option maxHeartbeats 1000000 in
theorem rapp_data6 (a b c d : Int) (f : Bool) (port : Int) (s : ByteArray) (w : World) (hok : (Par.ok ⟨a, b, c, d, f⟩) = true) (h0 : 0 ≤ port) (h1 : port ≤ 15) :
    Calls Try.prog 8 #[.agg #[.int .i64 a, .int .i64 b, .int .i64 c, .int .i64 d, .bool f], .agg #[.int .i64 port, .int .i64 6, .string s]] w fun e w' => e = .returned (.tuple #[.agg #[.int .i64 a, .int .i64 b, .int .i64 c, .int .i64 d, .bool f], .int .i64 0]) ∧ Below w.heap.size w w' := by
  have HR := Lib.hid (fun W => rright_any ⟨a, b, c, d, f⟩ W)
  rw [hok] at HR
  clear hok
  go_enter Try.func8, Try.ntmps8
  go_wp2_with (first
    | (go_at_call 11; refine (HR.out _).mono ?_; rintro e w1 ⟨rfl, hb⟩; obtain ⟨hc, hf⟩ := below_cells hb))
  have r := fun i => (hc (w.heap.size + 1 + 1) i (by simp)).trans (World.cell?_alloc_at _ _ _ _ (by simp))
  obtain ⟨q0, q1, q2, q3, q4⟩ := stored5 (W := w1) (n := w.heap.size + 1 + 1) (.int .i64 a) (.int .i64 b) (.int .i64 c) (.int .i64 d) (.bool f) (r 0) (r 1) (r 2) (r 3) (r 4)
  exact bodyPost_ret (v := .tuple #[.agg #[.int .i64 a, .int .i64 b, .int .i64 c, .int .i64 d, .bool f], .int .i64 0]) (by simp [results, Try.results8, go_sem, q0, q1, q2, q3, q4]) rfl ⟨rfl, set5_below (three_below hb) (by omega) _ _ _ _ _⟩
end Go.Proofs.Yteglaenjmeocmaa
