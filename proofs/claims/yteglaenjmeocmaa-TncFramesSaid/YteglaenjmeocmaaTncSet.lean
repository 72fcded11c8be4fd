/-
Walk of the document's own Apply: what a frame sets.
-/
import Derived.Test.YteglaenjmeocmaaTncRef
namespace Go.Proofs.Yteglaenjmeocmaa
open Go.RowKit
set_option maxHeartbeats 1000000 in
theorem rapp_data15 (a b c d : Int) (f : Bool)  (s : ByteArray) (w : World) (hok : (Par.ok ⟨a, b, c, d, f⟩) = true) :
    Calls Try.prog 8 #[.agg #[.int .i64 a, .int .i64 b, .int .i64 c, .int .i64 d, .bool f], .agg #[.int .i64 15, .int .i64 15, .string s]] w fun e w' => e = .returned (.tuple #[.agg #[.int .i64 a, .int .i64 b, .int .i64 c, .int .i64 d, .bool f], .int .i64 0]) ∧ Below w.heap.size w w' := by
  have HR := Lib.hid (fun W => rright_any ⟨a, b, c, d, f⟩ W)
  rw [hok] at HR
  clear hok
  go_enter Try.func8, Try.ntmps8
  go_wp2_with (first
    | (go_at_call 11; refine (HR.out _).mono ?_; rintro e w1 ⟨rfl, hb⟩; obtain ⟨hc, hf⟩ := below_cells hb))
  have r := fun i => (hc (w.heap.size + 1 + 1) i (by simp)).trans (World.cell?_alloc_at _ _ _ _ (by simp))
  obtain ⟨q0, q1, q2, q3, q4⟩ := stored5 (W := w1) (n := w.heap.size + 1 + 1) (.int .i64 a) (.int .i64 b) (.int .i64 c) (.int .i64 d) (.bool f) (r 0) (r 1) (r 2) (r 3) (r 4)
  exact bodyPost_ret (v := .tuple #[.agg #[.int .i64 a, .int .i64 b, .int .i64 c, .int .i64 d, .bool f], .int .i64 0]) (by simp [results, Try.results8, go_sem, q0, q1, q2, q3, q4]) rfl ⟨rfl, set5_below (three_below hb) (by omega) _ _ _ _ _⟩
set_option maxHeartbeats 1000000 in
theorem rapp_short (a b c d : Int) (f : Bool) (port cmd : Int) (w : World) (hok : (Par.ok ⟨a, b, c, d, f⟩) = true) (h0 : 0 ≤ port) (h1 : port ≤ 15) (h2 : 1 ≤ cmd) (h3 : cmd ≤ 5) :
    Calls Try.prog 8 #[.agg #[.int .i64 a, .int .i64 b, .int .i64 c, .int .i64 d, .bool f], .agg #[.int .i64 port, .int .i64 cmd, .string ⟨#[]⟩]] w fun e w' => e = .returned (.tuple #[.agg #[.int .i64 a, .int .i64 b, .int .i64 c, .int .i64 d, .bool f], .int .i64 4]) ∧ Below w.heap.size w w' := by
  have HR := Lib.hid (fun W => rright_any ⟨a, b, c, d, f⟩ W)
  rw [hok] at HR
  clear hok
  have t1 : (cmd == 15) = false := by rw [beq_eq_false_iff_ne]; omega
  have t2 : (cmd == 0) = false := by rw [beq_eq_false_iff_ne]; omega
  have t3 : (cmd == 6) = false := by rw [beq_eq_false_iff_ne]; omega
  go_enter Try.func8, Try.ntmps8
  go_wp2_with (first
    | (go_at_call 11; refine (HR.out _).mono ?_; rintro e w1 ⟨rfl, hb⟩; obtain ⟨hc, hf⟩ := below_cells hb))
  have r := fun i => (hc (w.heap.size + 1 + 1) i (by simp)).trans (World.cell?_alloc_at _ _ _ _ (by simp))
  obtain ⟨q0, q1, q2, q3, q4⟩ := stored5 (W := w1) (n := w.heap.size + 1 + 1) (.int .i64 a) (.int .i64 b) (.int .i64 c) (.int .i64 d) (.bool f) (r 0) (r 1) (r 2) (r 3) (r 4)
  exact bodyPost_ret (v := .tuple #[.agg #[.int .i64 a, .int .i64 b, .int .i64 c, .int .i64 d, .bool f], .int .i64 4]) (by simp [results, Try.results8, go_sem, q0, q1, q2, q3, q4]) rfl ⟨rfl, set5_below (three_below hb) (by omega) _ _ _ _ _⟩
set_option maxHeartbeats 1000000 in
theorem rapp_full (a b c d : Int) (f : Bool) (port : Int) (s : ByteArray) (w : World) (hok : (Par.ok ⟨a, b, c, d, f⟩) = true) (h0 : 0 ≤ port) (h1 : port ≤ 15) (hpos : 0 < s.size) :
    Calls Try.prog 8 #[.agg #[.int .i64 a, .int .i64 b, .int .i64 c, .int .i64 d, .bool f], .agg #[.int .i64 port, .int .i64 5, .string s]] w fun e w' => e = .returned (.tuple #[.agg #[.int .i64 a, .int .i64 b, .int .i64 c, .int .i64 d, .bool (decide (0 < s[0].toNat))], .int .i64 0]) ∧ Below w.heap.size w w' := by
  have HR := Lib.hid (fun W => rright_any ⟨a, b, c, d, f⟩ W)
  rw [hok] at HR
  clear hok
  have t1 : (((s.size : Nat) : Int) == 0) = false := by rw [beq_eq_false_iff_ne]; omega
  go_enter Try.func8, Try.ntmps8
  go_wp2_with (first
    | (go_at_call 11; refine (HR.out _).mono ?_; rintro e w1 ⟨rfl, hb⟩; obtain ⟨hc, hf⟩ := below_cells hb; have kk := (hc w.heap.size 4 (by simp; omega)).trans (by rw [World.cell?_alloc_past _ _ _ (by simp; omega), World.cell?_alloc_past _ _ _ (by simp), World.cell?_alloc_new]; rfl : _ = some (.bool f))))
  have r := fun i => (show (w1.setCell ⟨w.heap.size, 4, none⟩ (.bool (decide (0 < s[0].toNat)))).cell? ⟨w.heap.size + 1 + 1, i, none⟩ = w1.cell? ⟨w.heap.size + 1 + 1, i, none⟩ from by rw [set_block _ _ _ _ _ _ (by omega)]).trans ((hc (w.heap.size + 1 + 1) i (by simp)).trans (World.cell?_alloc_at _ _ _ _ (by simp)))
  obtain ⟨q0, q1, q2, q3, q4⟩ := stored5 (W := w1.setCell ⟨w.heap.size, 4, none⟩ (.bool (decide (0 < s[0].toNat)))) (n := w.heap.size + 1 + 1) (.int .i64 a) (.int .i64 b) (.int .i64 c) (.int .i64 d) (.bool (decide (0 < s[0].toNat))) (r 0) (r 1) (r 2) (r 3) (r 4)
  exact bodyPost_ret (v := .tuple #[.agg #[.int .i64 a, .int .i64 b, .int .i64 c, .int .i64 d, .bool (decide (0 < s[0].toNat))], .int .i64 0]) (by simp [results, Try.results8, go_sem, q0, q1, q2, q3, q4]) rfl ⟨rfl, set5_below ((three_below hb).setCell (p := ⟨w.heap.size, 4, none⟩) (Nat.le_refl _) _) (by omega) _ _ _ _ _⟩
set_option maxHeartbeats 1000000 in
theorem rapp_num1 (a b c d : Int) (f : Bool) (port : Int) (s : ByteArray) (w : World) (hok : (Par.ok ⟨a, b, c, d, f⟩) = true) (h0 : 0 ≤ port) (h1 : port ≤ 15) (hpos : 0 < s.size) :
    Calls Try.prog 8 #[.agg #[.int .i64 a, .int .i64 b, .int .i64 c, .int .i64 d, .bool f], .agg #[.int .i64 port, .int .i64 1, .string s]] w fun e w' => e = .returned (.tuple #[.agg #[.int .i64 ((s[0].toNat : Nat) : Int), .int .i64 b, .int .i64 c, .int .i64 d, .bool f], .int .i64 0]) ∧ Below w.heap.size w w' := by
  have HR := Lib.hid (fun W => rright_any ⟨a, b, c, d, f⟩ W)
  rw [hok] at HR
  clear hok
  have t1 : (((s.size : Nat) : Int) == 0) = false := by rw [beq_eq_false_iff_ne]; omega
  have hx : s[0].toNat < 256 := blt' _
  go_enter Try.func8, Try.ntmps8
  go_wp2_with (first
    | (go_at_call 11; refine (HR.out _).mono ?_; rintro e w1 ⟨rfl, hb⟩; obtain ⟨hc, hf⟩ := below_cells hb; have kk := (hc w.heap.size 0 (by simp; omega)).trans (by rw [World.cell?_alloc_past _ _ _ (by simp; omega), World.cell?_alloc_past _ _ _ (by simp), World.cell?_alloc_new]; rfl : _ = some (.int .i64 a))))
  go_region
  go_wp2
  have r := fun i => (show (w1.setCell ⟨w.heap.size, 0, none⟩ (.int .i64 ((s[0].toNat : Nat) : Int))).cell? ⟨w.heap.size + 1 + 1, i, none⟩ = w1.cell? ⟨w.heap.size + 1 + 1, i, none⟩ from by rw [set_block _ _ _ _ _ _ (by omega)]).trans ((hc (w.heap.size + 1 + 1) i (by simp)).trans (World.cell?_alloc_at _ _ _ _ (by simp)))
  obtain ⟨q0, q1, q2, q3, q4⟩ := stored5 (W := w1.setCell ⟨w.heap.size, 0, none⟩ (.int .i64 ((s[0].toNat : Nat) : Int))) (n := w.heap.size + 1 + 1) (.int .i64 ((s[0].toNat : Nat) : Int)) (.int .i64 b) (.int .i64 c) (.int .i64 d) (.bool f) (r 0) (r 1) (r 2) (r 3) (r 4)
  exact bodyPost_ret (v := .tuple #[.agg #[.int .i64 ((s[0].toNat : Nat) : Int), .int .i64 b, .int .i64 c, .int .i64 d, .bool f], .int .i64 0]) (by simp [results, Try.results8, go_sem, q0, q1, q2, q3, q4]) rfl ⟨rfl, Below.drew (set5_below ((three_below hb).setCell (p := ⟨w.heap.size, 0, none⟩) (Nat.le_refl _) _) (by omega) _ _ _ _ _)⟩
set_option maxHeartbeats 1000000 in
theorem rapp_num2 (a b c d : Int) (f : Bool) (port : Int) (s : ByteArray) (w : World) (hok : (Par.ok ⟨a, b, c, d, f⟩) = true) (h0 : 0 ≤ port) (h1 : port ≤ 15) (hpos : 0 < s.size) :
    Calls Try.prog 8 #[.agg #[.int .i64 a, .int .i64 b, .int .i64 c, .int .i64 d, .bool f], .agg #[.int .i64 port, .int .i64 2, .string s]] w fun e w' => e = .returned (.tuple #[.agg #[.int .i64 a, .int .i64 ((s[0].toNat : Nat) : Int), .int .i64 c, .int .i64 d, .bool f], .int .i64 0]) ∧ Below w.heap.size w w' := by
  have HR := Lib.hid (fun W => rright_any ⟨a, b, c, d, f⟩ W)
  rw [hok] at HR
  clear hok
  have t1 : (((s.size : Nat) : Int) == 0) = false := by rw [beq_eq_false_iff_ne]; omega
  have hx : s[0].toNat < 256 := blt' _
  go_enter Try.func8, Try.ntmps8
  go_wp2_with (first
    | (go_at_call 11; refine (HR.out _).mono ?_; rintro e w1 ⟨rfl, hb⟩; obtain ⟨hc, hf⟩ := below_cells hb; have kk := (hc w.heap.size 1 (by simp; omega)).trans (by rw [World.cell?_alloc_past _ _ _ (by simp; omega), World.cell?_alloc_past _ _ _ (by simp), World.cell?_alloc_new]; rfl : _ = some (.int .i64 b))))
  go_region
  go_wp2
  have r := fun i => (show (w1.setCell ⟨w.heap.size, 1, none⟩ (.int .i64 ((s[0].toNat : Nat) : Int))).cell? ⟨w.heap.size + 1 + 1, i, none⟩ = w1.cell? ⟨w.heap.size + 1 + 1, i, none⟩ from by rw [set_block _ _ _ _ _ _ (by omega)]).trans ((hc (w.heap.size + 1 + 1) i (by simp)).trans (World.cell?_alloc_at _ _ _ _ (by simp)))
  obtain ⟨q0, q1, q2, q3, q4⟩ := stored5 (W := w1.setCell ⟨w.heap.size, 1, none⟩ (.int .i64 ((s[0].toNat : Nat) : Int))) (n := w.heap.size + 1 + 1) (.int .i64 a) (.int .i64 ((s[0].toNat : Nat) : Int)) (.int .i64 c) (.int .i64 d) (.bool f) (r 0) (r 1) (r 2) (r 3) (r 4)
  exact bodyPost_ret (v := .tuple #[.agg #[.int .i64 a, .int .i64 ((s[0].toNat : Nat) : Int), .int .i64 c, .int .i64 d, .bool f], .int .i64 0]) (by simp [results, Try.results8, go_sem, q0, q1, q2, q3, q4]) rfl ⟨rfl, Below.drew (set5_below ((three_below hb).setCell (p := ⟨w.heap.size, 1, none⟩) (Nat.le_refl _) _) (by omega) _ _ _ _ _)⟩
set_option maxHeartbeats 1000000 in
theorem rapp_num3 (a b c d : Int) (f : Bool) (port : Int) (s : ByteArray) (w : World) (hok : (Par.ok ⟨a, b, c, d, f⟩) = true) (h0 : 0 ≤ port) (h1 : port ≤ 15) (hpos : 0 < s.size) :
    Calls Try.prog 8 #[.agg #[.int .i64 a, .int .i64 b, .int .i64 c, .int .i64 d, .bool f], .agg #[.int .i64 port, .int .i64 3, .string s]] w fun e w' => e = .returned (.tuple #[.agg #[.int .i64 a, .int .i64 b, .int .i64 ((s[0].toNat : Nat) : Int), .int .i64 d, .bool f], .int .i64 0]) ∧ Below w.heap.size w w' := by
  have HR := Lib.hid (fun W => rright_any ⟨a, b, c, d, f⟩ W)
  rw [hok] at HR
  clear hok
  have t1 : (((s.size : Nat) : Int) == 0) = false := by rw [beq_eq_false_iff_ne]; omega
  have hx : s[0].toNat < 256 := blt' _
  go_enter Try.func8, Try.ntmps8
  go_wp2_with (first
    | (go_at_call 11; refine (HR.out _).mono ?_; rintro e w1 ⟨rfl, hb⟩; obtain ⟨hc, hf⟩ := below_cells hb; have kk := (hc w.heap.size 2 (by simp; omega)).trans (by rw [World.cell?_alloc_past _ _ _ (by simp; omega), World.cell?_alloc_past _ _ _ (by simp), World.cell?_alloc_new]; rfl : _ = some (.int .i64 c))))
  go_region
  go_wp2
  have r := fun i => (show (w1.setCell ⟨w.heap.size, 2, none⟩ (.int .i64 ((s[0].toNat : Nat) : Int))).cell? ⟨w.heap.size + 1 + 1, i, none⟩ = w1.cell? ⟨w.heap.size + 1 + 1, i, none⟩ from by rw [set_block _ _ _ _ _ _ (by omega)]).trans ((hc (w.heap.size + 1 + 1) i (by simp)).trans (World.cell?_alloc_at _ _ _ _ (by simp)))
  obtain ⟨q0, q1, q2, q3, q4⟩ := stored5 (W := w1.setCell ⟨w.heap.size, 2, none⟩ (.int .i64 ((s[0].toNat : Nat) : Int))) (n := w.heap.size + 1 + 1) (.int .i64 a) (.int .i64 b) (.int .i64 ((s[0].toNat : Nat) : Int)) (.int .i64 d) (.bool f) (r 0) (r 1) (r 2) (r 3) (r 4)
  exact bodyPost_ret (v := .tuple #[.agg #[.int .i64 a, .int .i64 b, .int .i64 ((s[0].toNat : Nat) : Int), .int .i64 d, .bool f], .int .i64 0]) (by simp [results, Try.results8, go_sem, q0, q1, q2, q3, q4]) rfl ⟨rfl, Below.drew (set5_below ((three_below hb).setCell (p := ⟨w.heap.size, 2, none⟩) (Nat.le_refl _) _) (by omega) _ _ _ _ _)⟩
set_option maxHeartbeats 1000000 in
theorem rapp_num4 (a b c d : Int) (f : Bool) (port : Int) (s : ByteArray) (w : World) (hok : (Par.ok ⟨a, b, c, d, f⟩) = true) (h0 : 0 ≤ port) (h1 : port ≤ 15) (hpos : 0 < s.size) :
    Calls Try.prog 8 #[.agg #[.int .i64 a, .int .i64 b, .int .i64 c, .int .i64 d, .bool f], .agg #[.int .i64 port, .int .i64 4, .string s]] w fun e w' => e = .returned (.tuple #[.agg #[.int .i64 a, .int .i64 b, .int .i64 c, .int .i64 ((s[0].toNat : Nat) : Int), .bool f], .int .i64 0]) ∧ Below w.heap.size w w' := by
  have HR := Lib.hid (fun W => rright_any ⟨a, b, c, d, f⟩ W)
  rw [hok] at HR
  clear hok
  have t1 : (((s.size : Nat) : Int) == 0) = false := by rw [beq_eq_false_iff_ne]; omega
  have hx : s[0].toNat < 256 := blt' _
  go_enter Try.func8, Try.ntmps8
  go_wp2_with (first
    | (go_at_call 11; refine (HR.out _).mono ?_; rintro e w1 ⟨rfl, hb⟩; obtain ⟨hc, hf⟩ := below_cells hb; have kk := (hc w.heap.size 3 (by simp; omega)).trans (by rw [World.cell?_alloc_past _ _ _ (by simp; omega), World.cell?_alloc_past _ _ _ (by simp), World.cell?_alloc_new]; rfl : _ = some (.int .i64 d))))
  go_region
  go_wp2
  have r := fun i => (show (w1.setCell ⟨w.heap.size, 3, none⟩ (.int .i64 ((s[0].toNat : Nat) : Int))).cell? ⟨w.heap.size + 1 + 1, i, none⟩ = w1.cell? ⟨w.heap.size + 1 + 1, i, none⟩ from by rw [set_block _ _ _ _ _ _ (by omega)]).trans ((hc (w.heap.size + 1 + 1) i (by simp)).trans (World.cell?_alloc_at _ _ _ _ (by simp)))
  obtain ⟨q0, q1, q2, q3, q4⟩ := stored5 (W := w1.setCell ⟨w.heap.size, 3, none⟩ (.int .i64 ((s[0].toNat : Nat) : Int))) (n := w.heap.size + 1 + 1) (.int .i64 a) (.int .i64 b) (.int .i64 c) (.int .i64 ((s[0].toNat : Nat) : Int)) (.bool f) (r 0) (r 1) (r 2) (r 3) (r 4)
  exact bodyPost_ret (v := .tuple #[.agg #[.int .i64 a, .int .i64 b, .int .i64 c, .int .i64 ((s[0].toNat : Nat) : Int), .bool f], .int .i64 0]) (by simp [results, Try.results8, go_sem, q0, q1, q2, q3, q4]) rfl ⟨rfl, Below.drew (set5_below ((three_below hb).setCell (p := ⟨w.heap.size, 3, none⟩) (Nat.le_refl _) _) (by omega) _ _ _ _ _)⟩
end Go.Proofs.Yteglaenjmeocmaa
