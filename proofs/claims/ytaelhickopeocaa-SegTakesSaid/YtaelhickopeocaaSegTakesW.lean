/-
Walk of the statement SegTakes.
-/
import Derived.Test.YtaelhickopeocaaSegAwake
import Derived.Test.YtaelhickopeocaaSegCGather
import Derived.Test.YtaelhickopeocaaSegRTakes
namespace Go.Proofs.Ytaelhickopeocaa
open Go.RowKit
set_option maxRecDepth 20000
/-- how a thing to do lies: a piece, or (1) a reset -/
def encO : Enc (Int × Pc) := ⟨3, by omega, fun o => [.int .i64 o.1, .int .i64 o.2.pid, .string o.2.info], fun _ => rfl, fun o u hu => by
  rcases List.mem_cons.1 hu with rfl | hu
  · rfl
  · rcases List.mem_cons.1 hu with rfl | hu
    · rfl
    · rw [List.mem_singleton.1 hu]; rfl⟩
theorem op_at {w : World} {g o : Nat} {L : List (Int × Pc)} (h : AtL encO w (some ⟨g, o, none⟩) L) (k : Nat) (hk : k < L.length) :
    w.cell? ⟨g, o + k * 3, none⟩ = some (.int .i64 L[k].1) ∧ w.cell? ⟨g, o + k * 3 + 1, none⟩ = some (.int .i64 L[k].2.pid) ∧ w.cell? ⟨g, o + k * 3 + 2, none⟩ = some (.string L[k].2.info) :=
  ⟨h.get k hk 0 rfl, h.get k hk 1 rfl, h.get k hk 2 rfl⟩
theorem rtake_at (m : Nat) (s : Gs) (P : Int) (I : ByteArray) (hok : GOk s) (hz : I.size ≤ 2000) (s' : Gs) (P' : Int) (I' : ByteArray) (ok : Bool) (E' : Int) (hr : takeD s ⟨P, I⟩ = (s', ⟨P', I'⟩, ok, E')) (W : World) (h : RowAt W m (gsV s)) :
    Calls Try.prog 15 #[.pointer (some ⟨m, 0, none⟩), .agg #[.int .i64 P, .string I]] W fun e w' =>
      e = .returned (.tuple #[.agg #[.int .i64 P', .string I'], .bool ok, .int .i64 E']) ∧ RowAt w' m (gsV s') ∧ Turn (fun x => x = m) W w' := by
  have := rtake_any m s ⟨P, I⟩ W h hok.text hz
  rw [hr] at this
  exact this
theorem ctake_at (m : Nat) (s : Gs) (P : Int) (I : ByteArray) (hok : GOk s) (hz : I.size ≤ 2000) (s' : Gs) (P' : Int) (I' : ByteArray) (ok : Bool) (E' : Int) (hr : takeD s ⟨P, I⟩ = (s', ⟨P', I'⟩, ok, E')) (W : World) (h : RowAt W m (csV s)) :
    Calls Try.prog 14 #[.pointer (some ⟨m, 0, none⟩), .agg #[.int .i64 P, .string I]] W fun e w' =>
      e = .returned (.tuple #[.agg #[.int .i64 P', .string I'], .bool ok, .int .i64 E']) ∧ RowAt w' m (csV s') ∧ Turn (fun x => x = m) W w' := by
  have := ctake_any m s ⟨P, I⟩ W h hok hz
  rw [hr] at this
  exact this
/-- what holds ahead of a round -/
structure TkAt (w : World) (m1 m2 : Nat) (s : Gs) (W : World) : Prop where
  c : RowAt W m1 (csV s)
  r : RowAt W m2 (gsV s)
  bel : Below w.heap.size w W
  l1 : w.heap.size ≤ m1
  l2 : w.heap.size ≤ m2
  ne : m1 ≠ m2
theorem TkAt.below {w : World} {m1 m2 : Nat} {s : Gs} {W W' : World} (h : TkAt w m1 m2 s W) (hb : Below W.heap.size W W') : TkAt w m1 m2 s W' :=
  ⟨h.c.below hb, h.r.below hb, h.bel.trans (hb.mono h.bel.size), h.l1, h.l2, h.ne⟩
theorem TkAt.alloc {w : World} {m1 m2 : Nat} {s : Gs} {W : World} (h : TkAt w m1 m2 s W) (o : Obj) : TkAt w m1 m2 s (W.alloc o) := h.below ((Below.refl _ W).alloc (Nat.le_refl _) o)
theorem TkAt.lt {w : World} {m1 m2 : Nat} {s : Gs} {W : World} (h : TkAt w m1 m2 s W) : m1 < W.heap.size ∧ m2 < W.heap.size := ⟨(h.c.get 0 rfl).lt, (h.r.get 0 rfl).lt⟩
/-- both have moved on -/
theorem TkAt.both {w : World} {m1 m2 : Nat} {s s' : Gs} {W X Y : World} (h : TkAt w m1 m2 s W) (hc : RowAt X m1 (csV s')) (t1 : Turn (fun x => x = m1) W X) (hr : RowAt Y m2 (gsV s')) (t2 : Turn (fun x => x = m2) X Y) : TkAt w m1 m2 s' Y := by
  have h0 := h.bel.size
  have h1 := t1.size
  exact ⟨hc.turn t2 h.ne, hr, (h.bel.trans (t1.below h0 (fun k e => by rw [e]; exact h.l1))).trans (t2.below (Nat.le_trans h0 h1) (fun k e => by rw [e]; exact h.l2)), h.l1, h.l2, h.ne⟩
theorem four_put {W : World} {n : Nat} {x0 x1 x2 x3 : Value} (h : RowAt W n [x0, x1, x2, x3]) (u0 u1 u2 u3 : Value) : RowAt ((((W.setCell ⟨n, 0, none⟩ u0).setCell ⟨n, 1, none⟩ u1).setCell ⟨n, 2, none⟩ u2).setCell ⟨n, 3, none⟩ u3) n [u0, u1, u2, u3] :=
  (((h.put 0 u0 _ rfl).put 1 u1 _ rfl).put 2 u2 _ rfl).put 3 u3 _ rfl
theorem four_turn {F : Nat → Prop} {a W : World} {n : Nat} (h : Turn F a W) (hn : F n ∨ a.heap.size ≤ n) (u0 u1 u2 u3 : Value) : Turn F a ((((W.setCell ⟨n, 0, none⟩ u0).setCell ⟨n, 1, none⟩ u1).setCell ⟨n, 2, none⟩ u2).setCell ⟨n, 3, none⟩ u3) :=
  (((h.set (p := ⟨n, 0, none⟩) hn u0).set (p := ⟨n, 1, none⟩) hn u1).set (p := ⟨n, 2, none⟩) hn u2).set (p := ⟨n, 3, none⟩) hn u3
set_option maxHeartbeats 2000000 in
theorem segtakes_any (a : Option Addr) (n c : Nat) (L : List (Int × Pc)) (w : World) (hn : L.length = n) (hA : AtL encO w a L) : Calls Try.prog 4 #[.slice a n c] w fun e w' => e = .returned (.bool true) ∧ Below w.heap.size w w' := by
  have HAW := Lib.hid (fun W => segawake_any W)
  by_cases hz : 150 < n
  · have dz : decide ((150 : Int) < (n : Int)) = true := decide_eq_true (by omega)
    clear hA hn
    go_enter Try.func4, Try.ntmps4
    go_wp2_with (go_at_call 7; (with_reducible refine (HAW.out _).mono ?_); rintro e w1 ⟨rfl, hb⟩; have HB1 := Lib.hid hb; clear hb)
    exact bodyPost_ret (v := .bool true) (by simp [results, Try.results4, go_sem]) rfl ⟨rfl, HB1.out⟩
  · have hnb : n ≤ 150 := by omega
    have HN := Lib.hid hn
    have HA := Lib.hid hA
    clear hA hn hz
    go_enter Try.func4, Try.ntmps4
    go_upto_region 6 with (first | (go_at_call 7; (with_reducible refine (HAW.out _).mono ?_); rintro e w1 ⟨rfl, hb⟩; have HB1 := Lib.hid hb; clear hb) | (go_at_call 12; (with_reducible refine (cnew_any _).mono ?_); rintro e w3 ⟨rfl, rfl⟩))
    have hsw := HB1.out.size
    have HTK := Lib.hid (show TkAt w w1.heap.size (w1.heap.size + 1) zeroG ((w1.alloc (.cells #[.int .i64 0, .int .i64 0, .string ⟨#[]⟩] 58)).alloc (.cells #[.bool false, .int .i64 0, .int .i64 0, .string ⟨#[]⟩] 40)) from
      ⟨(RowAt.new w1 w1.heap.size rfl [.int .i64 0, .int .i64 0, .string ⟨#[]⟩] 58).alloc _, RowAt.new (w1.alloc (.cells #[.int .i64 0, .int .i64 0, .string ⟨#[]⟩] 58)) (w1.heap.size + 1) (by simp) [.bool false, .int .i64 0, .int .i64 0, .string ⟨#[]⟩] 40,
        (HB1.out.alloc hsw _).alloc (by simp; omega) _, hsw, by omega, by omega⟩)
    clear HB1 HAW hsw
    generalize ((w1.alloc (.cells #[.int .i64 0, .int .i64 0, .string ⟨#[]⟩] 58)).alloc (.cells #[.bool false, .int .i64 0, .int .i64 0, .string ⟨#[]⟩] 40)) = w3 at *
    obtain ⟨m2, hm2⟩ : ∃ m2, m2 = w1.heap.size + 1 := ⟨_, rfl⟩
    rw [← hm2] at HTK ⊢
    clear hm2
    generalize w1.heap.size = m1 at *
    go_wp2_with fail
    go_loopw [24] (fun v wx => ∃ k : Nat, k ≤ n ∧ v = .int .i64 k ∧ ∃ s : Gs, Hid (GOk s ∧ TkAt w m1 m2 s wx)) (fun v _ => n - (intOf v).toNat)
    case atStart => exact ⟨0, by omega, rfl, zeroG, Lib.hid ⟨GOk.zero, HTK.out⟩⟩
    case round =>
      obtain ⟨k, hk, rfl, s, HK⟩ := hrel
      clear HTK
      by_cases hlt : k < n
      · have hL : k < L.length := by rw [HN.out]; exact hlt
        obtain ⟨g, o, rfl, _⟩ := HA.out.some_ (by omega)
        have ⟨x0, x1, x2⟩ := op_at (HA.out.below HK.out.2.bel) k hL
        obtain ⟨⟨KO, ⟨P, I⟩⟩, hq⟩ : ∃ q, L[k] = q := ⟨_, rfl⟩
        rw [hq] at x0 x1 x2
        simp only at x0 x1 x2
        clear hq
        have hmr := HK.out.2.lt
        have hb1 : ¬ (wr.heap.size = m1) := by omega
        have hb2 : ¬ (wr.heap.size = m2) := by omega
        have HX := Lib.hid (RowAt.new wr wr.heap.size rfl [.int .i64 KO, .int .i64 P, .string I] 42)
        have HT := Lib.hid (HK.out.2.alloc (.cells #[.int .i64 KO, .int .i64 P, .string I] 42))
        have HG := Lib.hid HK.out.1
        clear HK hmr
        go_upto_region 9 with (fail)
        clear x0 x1 x2
        generalize (wr.alloc (.cells #[.int .i64 KO, .int .i64 P, .string I] 42)) = wb at *
        generalize wr.heap.size = nb at *
        have x0 := HX.out.cell 0 rfl
        have x1 := HX.out.cell 1 rfl
        have x2 := HX.out.cell 2 rfl
        by_cases hsz : 2000 < I.size
        · have dz : decide ((2000 : Int) < (I.size : Int)) = true := decide_eq_true (by omega)
          clear hsz
          go_wp2_with fail
          exact bodyPost_ret (v := .bool true) (by simp [results, Try.results4, go_sem]) rfl ⟨rfl, HT.out.bel⟩
        · have dz : decide ((2000 : Int) < (I.size : Int)) = false := decide_eq_false (by omega)
          have hzI : I.size ≤ 2000 := by omega
          clear hsz
          by_cases hko : KO = 1
          · have dk : (KO == 1) = true := by rw [hko]; rfl
            clear hko
            go_upto_region 13 with (go_at_call 13; (with_reducible refine (creset_any m1 s _ HT.out.c).mono ?_); rintro e w4 ⟨rfl, hg, ht⟩; have HC4 := Lib.hid hg; have HT4 := Lib.hid ht; have HR4 := Lib.hid (HT.out.r.turn ht (fun e => HT.out.ne e.symm)); clear hg ht x0 x1 x2)
            have y0 := HR4.out.cell 0 rfl
            have y1 := HR4.out.cell 1 rfl
            have y2 := HR4.out.cell 2 rfl
            have y3 := HR4.out.cell 3 rfl
            have yf0 := (HR4.out.get 0 rfl).free
            have yf1 := (HR4.out.get 1 rfl).free
            have yf2 := (HR4.out.get 2 rfl).free
            have yf3 := (HR4.out.get 3 rfl).free
            go_wp2_with fail
            have HZ := Lib.hid (HT.out.both (s' := zeroG) HC4.out HT4.out (four_put HR4.out (.bool false) (.int .i64 0) (.int .i64 0) (.string ⟨#[]⟩)) (four_turn (Turn.refl (fun x => x = m2) w4) (Or.inl rfl) (.bool false) (.int .i64 0) (.int .i64 0) (.string ⟨#[]⟩)))
            clear y0 y1 y2 y3 yf0 yf1 yf2 yf3
            go_roundw
            case rel => exact ⟨k + 1, hlt, by go_num, zeroG, Lib.hid ⟨GOk.zero, HZ.out⟩⟩
            case measure => simp [intOf]; omega
          · have dk : (KO == 1) = false := by rw [beq_eq_false_iff_ne]; exact hko
            clear hko
            obtain ⟨⟨s', ⟨P', I'⟩, ok, E'⟩, hr⟩ : ∃ r, takeD s ⟨P, I⟩ = r := ⟨_, rfl⟩
            have hg' := take_ok s ⟨P, I⟩ HG.out
            rw [hr] at hg'
            simp only at hg'
            have HG' := Lib.hid hg'
            have HTC := Lib.hid (fun W h => ctake_at m1 s P I HG.out hzI s' P' I' ok E' hr W h)
            have HTR := Lib.hid (fun W h => rtake_at m2 s P I HG.out hzI s' P' I' ok E' hr W h)
            clear hr hg' HG
            go_upto_region 15 with (go_at_call 14; (with_reducible refine (HTC.out _ HT.out.c).mono ?_); rintro e w4 ⟨rfl, hg, ht⟩; have HC4 := Lib.hid hg; have HT4 := Lib.hid ht; have HR4 := Lib.hid (HT.out.r.turn ht (fun e => HT.out.ne e.symm)); have HX4 := Lib.hid (HX.out.turn ht hb1); have hs4 := Nat.lt_of_lt_of_le HT.out.lt.2 ht.size; clear hg ht x0 x1 x2)
            have HC5 := Lib.hid (HC4.out.alloc (.cells #[.int .i64 P', .string I'] 33))
            have HT5 := Lib.hid (HT4.out.alloc (.cells #[.int .i64 P', .string I'] 33))
            have HR5 := Lib.hid (HR4.out.alloc (.cells #[.int .i64 P', .string I'] 33))
            have HX5 := Lib.hid (HX4.out.alloc (.cells #[.int .i64 P', .string I'] 33))
            have HM5 := Lib.hid (RowAt.new w4 w4.heap.size rfl [.int .i64 P', .string I'] 33)
            have hb3 : ¬ (w4.heap.size = m2) := by omega
            clear HC4 HT4 HR4 HX4 hs4
            generalize (w4.alloc (.cells #[.int .i64 P', .string I'] 33)) = w5 at *
            generalize w4.heap.size = n4 at *
            have x1 := HX5.out.cell 1 rfl
            have x2 := HX5.out.cell 2 rfl
            go_upto_region 16 with (go_at_call 15; (with_reducible refine (HTR.out _ HR5.out).mono ?_); rintro e w6 ⟨rfl, hg, ht⟩; have HR6 := Lib.hid hg; have HT6 := Lib.hid ht; have HM6 := Lib.hid (HM5.out.turn ht hb3); clear hg ht x1 x2)
            have HZ := Lib.hid (HT.out.both (s' := s') HC5.out HT5.out (HR6.out.alloc (.cells #[.int .i64 P', .string I'] 45)) (HT6.out.alloc (.cells #[.int .i64 P', .string I'] 45)))
            have HM7 := Lib.hid (HM6.out.alloc (.cells #[.int .i64 P', .string I'] 45))
            have HQ7 := Lib.hid (RowAt.new w6 w6.heap.size rfl [.int .i64 P', .string I'] 45)
            clear HC5 HT5 HR5 HX5 HM5 HR6 HT6 HM6 HT HX HTC HTR hb1 hb2 hb3
            generalize (w6.alloc (.cells #[.int .i64 P', .string I'] 45)) = w7 at *
            generalize w6.heap.size = n6 at *
            have y0 := HM7.out.cell 0 rfl
            have y1 := HM7.out.cell 1 rfl
            have q0 := HQ7.out.cell 0 rfl
            have q1 := HQ7.out.cell 1 rfl
            have HOP := Lib.hid (copen_any m1 s' w7 HZ.out.c)
            obtain ⟨on, pid, left, text⟩ := s'
            have z0 := HZ.out.r.cell 0 rfl
            have z2 := HZ.out.r.cell 2 rfl
            simp only at z0 z2
            cases on with
            | false =>
              have hz0 := HG'.out.off rfl
              simp only [zeroG, Gs.mk.injEq] at hz0
              obtain ⟨-, rfl, rfl, rfl⟩ := hz0
              go_wp2_with (go_at_call 16; (with_reducible refine HOP.out.mono ?_); rintro e w8 ⟨rfl, rfl⟩)
              go_roundw
              case rel => exact ⟨k + 1, hlt, by go_num, _, Lib.hid ⟨HG'.out, HZ.out⟩⟩
              case measure => simp [intOf]; omega
            | true =>
              go_wp2_with (go_at_call 16; (with_reducible refine HOP.out.mono ?_); rintro e w8 ⟨rfl, rfl⟩)
              go_roundw
              case rel => exact ⟨k + 1, hlt, by go_num, _, Lib.hid ⟨HG'.out, HZ.out⟩⟩
              case measure => simp [intOf]; omega
      · have HF := Lib.hid HK.out
        clear HK hk
        go_wp2_with fail
        exact bodyPost_ret (v := .bool true) (by simp [results, Try.results4, go_sem]) rfl ⟨rfl, HF.out.2.bel⟩
end Go.Proofs.Ytaelhickopeocaa
