/-
The code's own Apply.
-/
import Derived.Test.YteglaenjmeocmaaTncPut
namespace Go.Proofs.Yteglaenjmeocmaa
open Go.RowKit Go.Sort
/-- what a command, from 1 to 5, sets -/
def setD (p : Par) (cmd : Int) (x : UInt8) : Par := if cmd = 5 then ⟨p.a, p.b, p.c, p.d, decide (x ≠ 0)⟩ else if cmd = 1 then ⟨(x.toNat : Nat), p.b, p.c, p.d, p.f⟩ else if cmd = 2 then ⟨p.a, (x.toNat : Nat), p.c, p.d, p.f⟩ else if cmd = 3 then ⟨p.a, p.b, (x.toNat : Nat), p.d, p.f⟩ else ⟨p.a, p.b, p.c, (x.toNat : Nat), p.f⟩
theorem set_any (p : Par) (cmd : Int) (x : UInt8) (w : World) (h1 : 1 ≤ cmd) (h5 : cmd ≤ 5) :
    Calls Try.prog 19 #[p.v, .int .i64 cmd, .int .u8 ((x.toNat : Nat) : Int)] w fun e w' => e = .returned (setD p cmd x).v ∧ Below w.heap.size w w' := by
  obtain ⟨a, b, c, d, f⟩ := p
  obtain rfl | rfl | rfl | rfl | rfl : cmd = 1 ∨ cmd = 2 ∨ cmd = 3 ∨ cmd = 4 ∨ cmd = 5 := by omega
  · exact set_num1 a b c d f x w
  · exact set_num2 a b c d f x w
  · exact set_num3 a b c d f x w
  · exact set_num4 a b c d f x w
  · exact set_full a b c d f x w
/-- a frame's three cells -/
def FrAt (w : World) (n : Nat) (port cmd : Int) (s : ByteArray) : Prop := w.cell? ⟨n, 0, none⟩ = some (.int .i64 port) ∧ w.cell? ⟨n, 1, none⟩ = some (.int .i64 cmd) ∧ w.cell? ⟨n, 2, none⟩ = some (.string s)
/-- five cells that may be written -/
def Free5 (w : World) (n : Nat) : Prop := (w.cell? ⟨n, 0, none⟩ = some (.int .i64 0) ∧ w.cell? ⟨n, 1, none⟩ = some (.int .i64 0) ∧ w.cell? ⟨n, 2, none⟩ = some (.int .i64 0) ∧ w.cell? ⟨n, 3, none⟩ = some (.int .i64 0) ∧ w.cell? ⟨n, 4, none⟩ = some (.bool false)) ∧ ∀ i, w.frozen? ⟨n, i, none⟩ = false
/-- what lies in memory while Apply runs -/
def ApAt (w W : World) (p : Par) (port cmd : Int) (s : ByteArray) : Prop := ParAt W w.heap.size p ∧ FrAt W (w.heap.size + 1) port cmd s ∧ Free5 W (w.heap.size + 1 + 1) ∧ Below w.heap.size w W ∧ w.heap.size + 1 + 1 < W.heap.size
theorem ap_start (w : World) (p : Par) (port cmd : Int) (s : ByteArray) : ApAt w (((w.alloc (.cells #[.int .i64 p.a, .int .i64 p.b, .int .i64 p.c, .int .i64 p.d, .bool p.f] 23)).alloc (.cells #[.int .i64 port, .int .i64 cmd, .string s] 25)).alloc (.cells #[.int .i64 0, .int .i64 0, .int .i64 0, .int .i64 0, .bool false] 23)) p port cmd s := by
  obtain ⟨a, b, c, d, e⟩ := par_cells2 p w (.cells #[.int .i64 port, .int .i64 cmd, .string s] 25) 23
  refine ⟨⟨?_, ?_, ?_, ?_, ?_⟩, ⟨?_, ?_, ?_⟩, ⟨⟨?_, ?_, ?_, ?_, ?_⟩, fun i => ?_⟩, ?_, ?_⟩
  · exact (World.cell?_alloc_past _ _ _ (by simp; omega)).trans a
  · exact (World.cell?_alloc_past _ _ _ (by simp; omega)).trans b
  · exact (World.cell?_alloc_past _ _ _ (by simp; omega)).trans c
  · exact (World.cell?_alloc_past _ _ _ (by simp; omega)).trans d
  · exact (World.cell?_alloc_past _ _ _ (by simp; omega)).trans e
  · exact (World.cell?_alloc_past _ _ _ (by simp)).trans (World.cell?_alloc_at _ _ _ _ (by simp))
  · exact (World.cell?_alloc_past _ _ _ (by simp)).trans (World.cell?_alloc_at _ _ _ _ (by simp))
  · exact (World.cell?_alloc_past _ _ _ (by simp)).trans (World.cell?_alloc_at _ _ _ _ (by simp))
  · exact World.cell?_alloc_at _ _ _ _ (by simp)
  · exact World.cell?_alloc_at _ _ _ _ (by simp)
  · exact World.cell?_alloc_at _ _ _ _ (by simp)
  · exact World.cell?_alloc_at _ _ _ _ (by simp)
  · exact World.cell?_alloc_at _ _ _ _ (by simp)
  · exact World.frozen?_alloc_at _ _ _ _ (by simp)
  · exact (((Below.refl _ w).alloc (Nat.le_refl _) _).alloc (by simp) _).alloc (by simp; omega) _
  · simp
theorem ApAt.below {w W W' : World} {p : Par} {port cmd : Int} {s : ByteArray} (h : ApAt w W p port cmd s) (hb : Below W.heap.size W W') : ApAt w W' p port cmd s := by
  obtain ⟨h1, ⟨f0, f1, f2⟩, ⟨⟨g0, g1, g2, g3, g4⟩, g⟩, h4, h5⟩ := h
  have hk := hb.size
  have c := fun (n i : Nat) (hn : n < W.heap.size) => hb.cell (p := ⟨n, i, none⟩) hn
  exact ⟨h1.below (by omega) hb, ⟨(c _ _ (by omega)).trans f0, (c _ _ (by omega)).trans f1, (c _ _ (by omega)).trans f2⟩, ⟨⟨(c _ _ h5).trans g0, (c _ _ h5).trans g1, (c _ _ h5).trans g2, (c _ _ h5).trans g3, (c _ _ h5).trans g4⟩, fun i => (hb.frozen (p := ⟨_, i, none⟩) h5).trans (g i)⟩, h4.trans (hb.mono h4.size), by omega⟩
set_option maxHeartbeats 1000000 in
theorem tapp_no (a b c d : Int) (f : Bool) (port cmd : Int) (s : ByteArray) (w : World) (hok : Par.ok ⟨a, b, c, d, f⟩ = false) :
    Calls Try.prog 7 #[.agg #[.int .i64 a, .int .i64 b, .int .i64 c, .int .i64 d, .bool f], .agg #[.int .i64 port, .int .i64 cmd, .string s]] w fun e w' => e = .returned (.tuple #[.agg #[.int .i64 a, .int .i64 b, .int .i64 c, .int .i64 d, .bool f], .int .i64 1]) ∧ Below w.heap.size w w' := by
  have HR := Lib.hid (fun W => right_ok ⟨a, b, c, d, f⟩ W)
  rw [hok] at HR
  simp only [Par.v] at HR
  have HA := Lib.hid (ap_start w ⟨a, b, c, d, f⟩ port cmd s)
  clear hok
  go_enter Try.func7, Try.ntmps7
  go_wp2_with (first
    | (go_at_call 10; ((with_reducible refine (HR.out _).mono ?_); rintro e w1 ⟨rfl, hb⟩; replace HA := Lib.hid (HA.out.below hb); clear hb; obtain ⟨⟨y0, y1, y2, y3, y4⟩, ⟨z0, z1, z2⟩, ⟨⟨r0, r1, r2, r3, r4⟩, kf⟩, _, hsz⟩ := HA.out; simp only at y0 y1 y2 y3 y4 z0 z1 z2)))
  obtain ⟨q0, q1, q2, q3, q4⟩ := stored5 (W := w1) (n := w.heap.size + 1 + 1) (.int .i64 a) (.int .i64 b) (.int .i64 c) (.int .i64 d) (.bool f) r0 r1 r2 r3 r4
  have HS := Lib.hid (set5_below HA.out.2.2.2.1 (n := w.heap.size + 1 + 1) (by omega) (.int .i64 a) (.int .i64 b) (.int .i64 c) (.int .i64 d) (.bool f))
  exact bodyPost_ret (v := .tuple #[.agg #[.int .i64 a, .int .i64 b, .int .i64 c, .int .i64 d, .bool f], .int .i64 1]) (by simp [results, Try.results7, go_sem, q0, q1, q2, q3, q4]) rfl ⟨rfl, HS.out⟩
set_option maxHeartbeats 1000000 in
theorem tapp_form (a b c d : Int) (f : Bool) (port cmd : Int) (s : ByteArray) (w : World) (hok : Par.ok ⟨a, b, c, d, f⟩ = true) (hfm : formD port cmd = false) :
    Calls Try.prog 7 #[.agg #[.int .i64 a, .int .i64 b, .int .i64 c, .int .i64 d, .bool f], .agg #[.int .i64 port, .int .i64 cmd, .string s]] w fun e w' => e = .returned (.tuple #[.agg #[.int .i64 a, .int .i64 b, .int .i64 c, .int .i64 d, .bool f], .int .i64 2]) ∧ Below w.heap.size w w' := by
  have HR := Lib.hid (fun W => right_ok ⟨a, b, c, d, f⟩ W)
  rw [hok] at HR
  simp only [Par.v] at HR
  have HA := Lib.hid (ap_start w ⟨a, b, c, d, f⟩ port cmd s)
  have HF := Lib.hid (fun W => formed_any port cmd s W)
  rw [hfm] at HF
  clear hfm
  clear hok
  go_enter Try.func7, Try.ntmps7
  go_wp2_with (first
    | (go_at_call 10; ((with_reducible refine (HR.out _).mono ?_); rintro e w1 ⟨rfl, hb⟩; replace HA := Lib.hid (HA.out.below hb); clear hb; obtain ⟨⟨y0, y1, y2, y3, y4⟩, ⟨z0, z1, z2⟩, ⟨⟨r0, r1, r2, r3, r4⟩, kf⟩, _, hsz⟩ := HA.out; simp only at y0 y1 y2 y3 y4 z0 z1 z2))
    | (go_at_call 18; ((with_reducible refine (HF.out _).mono ?_); rintro e w2 ⟨rfl, hb⟩; replace HA := Lib.hid (HA.out.below hb); clear hb; obtain ⟨⟨y0, y1, y2, y3, y4⟩, ⟨z0, z1, z2⟩, ⟨⟨r0, r1, r2, r3, r4⟩, kf⟩, _, hsz⟩ := HA.out; simp only at y0 y1 y2 y3 y4 z0 z1 z2)))
  obtain ⟨q0, q1, q2, q3, q4⟩ := stored5 (W := w2) (n := w.heap.size + 1 + 1) (.int .i64 a) (.int .i64 b) (.int .i64 c) (.int .i64 d) (.bool f) r0 r1 r2 r3 r4
  have HS := Lib.hid (set5_below HA.out.2.2.2.1 (n := w.heap.size + 1 + 1) (by omega) (.int .i64 a) (.int .i64 b) (.int .i64 c) (.int .i64 d) (.bool f))
  exact bodyPost_ret (v := .tuple #[.agg #[.int .i64 a, .int .i64 b, .int .i64 c, .int .i64 d, .bool f], .int .i64 2]) (by simp [results, Try.results7, go_sem, q0, q1, q2, q3, q4]) rfl ⟨rfl, HS.out⟩
set_option maxHeartbeats 1000000 in
theorem tapp_data0 (a b c d : Int) (f : Bool) (port : Int) (s : ByteArray) (w : World) (hok : Par.ok ⟨a, b, c, d, f⟩ = true) (hfm : formD port 0 = true) :
    Calls Try.prog 7 #[.agg #[.int .i64 a, .int .i64 b, .int .i64 c, .int .i64 d, .bool f], .agg #[.int .i64 port, .int .i64 0, .string s]] w fun e w' => e = .returned (.tuple #[.agg #[.int .i64 a, .int .i64 b, .int .i64 c, .int .i64 d, .bool f], .int .i64 0]) ∧ Below w.heap.size w w' := by
  have HR := Lib.hid (fun W => right_ok ⟨a, b, c, d, f⟩ W)
  rw [hok] at HR
  simp only [Par.v] at HR
  have HA := Lib.hid (ap_start w ⟨a, b, c, d, f⟩ port (0) s)
  have HF := Lib.hid (fun W => formed_any port (0) s W)
  rw [hfm] at HF
  clear hfm
  clear hok
  go_enter Try.func7, Try.ntmps7
  go_wp2_with (first
    | (go_at_call 10; ((with_reducible refine (HR.out _).mono ?_); rintro e w1 ⟨rfl, hb⟩; replace HA := Lib.hid (HA.out.below hb); clear hb; obtain ⟨⟨y0, y1, y2, y3, y4⟩, ⟨z0, z1, z2⟩, ⟨⟨r0, r1, r2, r3, r4⟩, kf⟩, _, hsz⟩ := HA.out; simp only at y0 y1 y2 y3 y4 z0 z1 z2))
    | (go_at_call 18; ((with_reducible refine (HF.out _).mono ?_); rintro e w2 ⟨rfl, hb⟩; replace HA := Lib.hid (HA.out.below hb); clear hb; obtain ⟨⟨y0, y1, y2, y3, y4⟩, ⟨z0, z1, z2⟩, ⟨⟨r0, r1, r2, r3, r4⟩, kf⟩, _, hsz⟩ := HA.out; simp only at y0 y1 y2 y3 y4 z0 z1 z2)))
  obtain ⟨q0, q1, q2, q3, q4⟩ := stored5 (W := w2) (n := w.heap.size + 1 + 1) (.int .i64 a) (.int .i64 b) (.int .i64 c) (.int .i64 d) (.bool f) r0 r1 r2 r3 r4
  have HS := Lib.hid (set5_below HA.out.2.2.2.1 (n := w.heap.size + 1 + 1) (by omega) (.int .i64 a) (.int .i64 b) (.int .i64 c) (.int .i64 d) (.bool f))
  exact bodyPost_ret (v := .tuple #[.agg #[.int .i64 a, .int .i64 b, .int .i64 c, .int .i64 d, .bool f], .int .i64 0]) (by simp [results, Try.results7, go_sem, q0, q1, q2, q3, q4]) rfl ⟨rfl, HS.out⟩
set_option maxHeartbeats 1000000 in
theorem tapp_data6 (a b c d : Int) (f : Bool) (port : Int) (s : ByteArray) (w : World) (hok : Par.ok ⟨a, b, c, d, f⟩ = true) (hfm : formD port 6 = true) :
    Calls Try.prog 7 #[.agg #[.int .i64 a, .int .i64 b, .int .i64 c, .int .i64 d, .bool f], .agg #[.int .i64 port, .int .i64 6, .string s]] w fun e w' => e = .returned (.tuple #[.agg #[.int .i64 a, .int .i64 b, .int .i64 c, .int .i64 d, .bool f], .int .i64 0]) ∧ Below w.heap.size w w' := by
  have HR := Lib.hid (fun W => right_ok ⟨a, b, c, d, f⟩ W)
  rw [hok] at HR
  simp only [Par.v] at HR
  have HA := Lib.hid (ap_start w ⟨a, b, c, d, f⟩ port (6) s)
  have HF := Lib.hid (fun W => formed_any port (6) s W)
  rw [hfm] at HF
  clear hfm
  clear hok
  go_enter Try.func7, Try.ntmps7
  go_wp2_with (first
    | (go_at_call 10; ((with_reducible refine (HR.out _).mono ?_); rintro e w1 ⟨rfl, hb⟩; replace HA := Lib.hid (HA.out.below hb); clear hb; obtain ⟨⟨y0, y1, y2, y3, y4⟩, ⟨z0, z1, z2⟩, ⟨⟨r0, r1, r2, r3, r4⟩, kf⟩, _, hsz⟩ := HA.out; simp only at y0 y1 y2 y3 y4 z0 z1 z2))
    | (go_at_call 18; ((with_reducible refine (HF.out _).mono ?_); rintro e w2 ⟨rfl, hb⟩; replace HA := Lib.hid (HA.out.below hb); clear hb; obtain ⟨⟨y0, y1, y2, y3, y4⟩, ⟨z0, z1, z2⟩, ⟨⟨r0, r1, r2, r3, r4⟩, kf⟩, _, hsz⟩ := HA.out; simp only at y0 y1 y2 y3 y4 z0 z1 z2)))
  obtain ⟨q0, q1, q2, q3, q4⟩ := stored5 (W := w2) (n := w.heap.size + 1 + 1) (.int .i64 a) (.int .i64 b) (.int .i64 c) (.int .i64 d) (.bool f) r0 r1 r2 r3 r4
  have HS := Lib.hid (set5_below HA.out.2.2.2.1 (n := w.heap.size + 1 + 1) (by omega) (.int .i64 a) (.int .i64 b) (.int .i64 c) (.int .i64 d) (.bool f))
  exact bodyPost_ret (v := .tuple #[.agg #[.int .i64 a, .int .i64 b, .int .i64 c, .int .i64 d, .bool f], .int .i64 0]) (by simp [results, Try.results7, go_sem, q0, q1, q2, q3, q4]) rfl ⟨rfl, HS.out⟩
set_option maxHeartbeats 1000000 in
theorem tapp_data15 (a b c d : Int) (f : Bool) (port : Int) (s : ByteArray) (w : World) (hok : Par.ok ⟨a, b, c, d, f⟩ = true) (hfm : formD port 15 = true) :
    Calls Try.prog 7 #[.agg #[.int .i64 a, .int .i64 b, .int .i64 c, .int .i64 d, .bool f], .agg #[.int .i64 port, .int .i64 15, .string s]] w fun e w' => e = .returned (.tuple #[.agg #[.int .i64 a, .int .i64 b, .int .i64 c, .int .i64 d, .bool f], .int .i64 0]) ∧ Below w.heap.size w w' := by
  have HR := Lib.hid (fun W => right_ok ⟨a, b, c, d, f⟩ W)
  rw [hok] at HR
  simp only [Par.v] at HR
  have HA := Lib.hid (ap_start w ⟨a, b, c, d, f⟩ port (15) s)
  have HF := Lib.hid (fun W => formed_any port (15) s W)
  rw [hfm] at HF
  clear hfm
  clear hok
  go_enter Try.func7, Try.ntmps7
  go_wp2_with (first
    | (go_at_call 10; ((with_reducible refine (HR.out _).mono ?_); rintro e w1 ⟨rfl, hb⟩; replace HA := Lib.hid (HA.out.below hb); clear hb; obtain ⟨⟨y0, y1, y2, y3, y4⟩, ⟨z0, z1, z2⟩, ⟨⟨r0, r1, r2, r3, r4⟩, kf⟩, _, hsz⟩ := HA.out; simp only at y0 y1 y2 y3 y4 z0 z1 z2))
    | (go_at_call 18; ((with_reducible refine (HF.out _).mono ?_); rintro e w2 ⟨rfl, hb⟩; replace HA := Lib.hid (HA.out.below hb); clear hb; obtain ⟨⟨y0, y1, y2, y3, y4⟩, ⟨z0, z1, z2⟩, ⟨⟨r0, r1, r2, r3, r4⟩, kf⟩, _, hsz⟩ := HA.out; simp only at y0 y1 y2 y3 y4 z0 z1 z2)))
  obtain ⟨q0, q1, q2, q3, q4⟩ := stored5 (W := w2) (n := w.heap.size + 1 + 1) (.int .i64 a) (.int .i64 b) (.int .i64 c) (.int .i64 d) (.bool f) r0 r1 r2 r3 r4
  have HS := Lib.hid (set5_below HA.out.2.2.2.1 (n := w.heap.size + 1 + 1) (by omega) (.int .i64 a) (.int .i64 b) (.int .i64 c) (.int .i64 d) (.bool f))
  exact bodyPost_ret (v := .tuple #[.agg #[.int .i64 a, .int .i64 b, .int .i64 c, .int .i64 d, .bool f], .int .i64 0]) (by simp [results, Try.results7, go_sem, q0, q1, q2, q3, q4]) rfl ⟨rfl, HS.out⟩
set_option maxHeartbeats 1000000 in
theorem tapp_none (a b c d : Int) (f : Bool) (port cmd : Int) (s : ByteArray) (w : World) (hok : Par.ok ⟨a, b, c, d, f⟩ = true) (hfm : formD port cmd = true) (h7 : 7 ≤ cmd) (h14 : cmd ≤ 14) :
    Calls Try.prog 7 #[.agg #[.int .i64 a, .int .i64 b, .int .i64 c, .int .i64 d, .bool f], .agg #[.int .i64 port, .int .i64 cmd, .string s]] w fun e w' => e = .returned (.tuple #[.agg #[.int .i64 a, .int .i64 b, .int .i64 c, .int .i64 d, .bool f], .int .i64 7]) ∧ Below w.heap.size w w' := by
  have HR := Lib.hid (fun W => right_ok ⟨a, b, c, d, f⟩ W)
  rw [hok] at HR
  simp only [Par.v] at HR
  have HA := Lib.hid (ap_start w ⟨a, b, c, d, f⟩ port cmd s)
  have HF := Lib.hid (fun W => formed_any port cmd s W)
  rw [hfm] at HF
  have t1 : (cmd == 0) = false := by rw [beq_eq_false_iff_ne]; omega
  have t2 : (cmd == 6) = false := by rw [beq_eq_false_iff_ne]; omega
  have t3 : (cmd == 15) = false := by rw [beq_eq_false_iff_ne]; omega
  clear hfm
  clear hok
  go_enter Try.func7, Try.ntmps7
  go_wp2_with (first
    | (go_at_call 10; ((with_reducible refine (HR.out _).mono ?_); rintro e w1 ⟨rfl, hb⟩; replace HA := Lib.hid (HA.out.below hb); clear hb; obtain ⟨⟨y0, y1, y2, y3, y4⟩, ⟨z0, z1, z2⟩, ⟨⟨r0, r1, r2, r3, r4⟩, kf⟩, _, hsz⟩ := HA.out; simp only at y0 y1 y2 y3 y4 z0 z1 z2))
    | (go_at_call 18; ((with_reducible refine (HF.out _).mono ?_); rintro e w2 ⟨rfl, hb⟩; replace HA := Lib.hid (HA.out.below hb); clear hb; obtain ⟨⟨y0, y1, y2, y3, y4⟩, ⟨z0, z1, z2⟩, ⟨⟨r0, r1, r2, r3, r4⟩, kf⟩, _, hsz⟩ := HA.out; simp only at y0 y1 y2 y3 y4 z0 z1 z2)))
  obtain ⟨q0, q1, q2, q3, q4⟩ := stored5 (W := w2) (n := w.heap.size + 1 + 1) (.int .i64 a) (.int .i64 b) (.int .i64 c) (.int .i64 d) (.bool f) r0 r1 r2 r3 r4
  have HS := Lib.hid (set5_below HA.out.2.2.2.1 (n := w.heap.size + 1 + 1) (by omega) (.int .i64 a) (.int .i64 b) (.int .i64 c) (.int .i64 d) (.bool f))
  exact bodyPost_ret (v := .tuple #[.agg #[.int .i64 a, .int .i64 b, .int .i64 c, .int .i64 d, .bool f], .int .i64 7]) (by simp [results, Try.results7, go_sem, q0, q1, q2, q3, q4]) rfl ⟨rfl, HS.out⟩
set_option maxHeartbeats 1000000 in
theorem tapp_short (a b c d : Int) (f : Bool) (port cmd : Int) (w : World) (hok : Par.ok ⟨a, b, c, d, f⟩ = true) (hfm : formD port cmd = true) (h1 : 1 ≤ cmd) (h5 : cmd ≤ 5) :
    Calls Try.prog 7 #[.agg #[.int .i64 a, .int .i64 b, .int .i64 c, .int .i64 d, .bool f], .agg #[.int .i64 port, .int .i64 cmd, .string ⟨#[]⟩]] w fun e w' => e = .returned (.tuple #[.agg #[.int .i64 a, .int .i64 b, .int .i64 c, .int .i64 d, .bool f], .int .i64 4]) ∧ Below w.heap.size w w' := by
  have HR := Lib.hid (fun W => right_ok ⟨a, b, c, d, f⟩ W)
  rw [hok] at HR
  simp only [Par.v] at HR
  have HA := Lib.hid (ap_start w ⟨a, b, c, d, f⟩ port cmd ⟨#[]⟩)
  have HF := Lib.hid (fun W => formed_any port cmd ⟨#[]⟩ W)
  rw [hfm] at HF
  have t1 : (cmd == 0) = false := by rw [beq_eq_false_iff_ne]; omega
  have t2 : (cmd == 6) = false := by rw [beq_eq_false_iff_ne]; omega
  have t3 : (cmd == 15) = false := by rw [beq_eq_false_iff_ne]; omega
  clear hfm
  clear hok
  go_enter Try.func7, Try.ntmps7
  go_wp2_with (first
    | (go_at_call 10; ((with_reducible refine (HR.out _).mono ?_); rintro e w1 ⟨rfl, hb⟩; replace HA := Lib.hid (HA.out.below hb); clear hb; obtain ⟨⟨y0, y1, y2, y3, y4⟩, ⟨z0, z1, z2⟩, ⟨⟨r0, r1, r2, r3, r4⟩, kf⟩, _, hsz⟩ := HA.out; simp only at y0 y1 y2 y3 y4 z0 z1 z2))
    | (go_at_call 18; ((with_reducible refine (HF.out _).mono ?_); rintro e w2 ⟨rfl, hb⟩; replace HA := Lib.hid (HA.out.below hb); clear hb; obtain ⟨⟨y0, y1, y2, y3, y4⟩, ⟨z0, z1, z2⟩, ⟨⟨r0, r1, r2, r3, r4⟩, kf⟩, _, hsz⟩ := HA.out; simp only at y0 y1 y2 y3 y4 z0 z1 z2)))
  obtain ⟨q0, q1, q2, q3, q4⟩ := stored5 (W := w2) (n := w.heap.size + 1 + 1) (.int .i64 a) (.int .i64 b) (.int .i64 c) (.int .i64 d) (.bool f) r0 r1 r2 r3 r4
  have HS := Lib.hid (set5_below HA.out.2.2.2.1 (n := w.heap.size + 1 + 1) (by omega) (.int .i64 a) (.int .i64 b) (.int .i64 c) (.int .i64 d) (.bool f))
  exact bodyPost_ret (v := .tuple #[.agg #[.int .i64 a, .int .i64 b, .int .i64 c, .int .i64 d, .bool f], .int .i64 4]) (by simp [results, Try.results7, go_sem, q0, q1, q2, q3, q4]) rfl ⟨rfl, HS.out⟩
end Go.Proofs.Yteglaenjmeocmaa
