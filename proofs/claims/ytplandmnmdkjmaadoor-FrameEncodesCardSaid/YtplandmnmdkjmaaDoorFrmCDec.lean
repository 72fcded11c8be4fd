/-
The landed code's Decode of a right frame's bytes.
-/
import Derived.Test.YtplandmnmdkjmaaDoorFrmCBegin
import Derived.Test.YtplandmnmdkjmaaDoorFrmCEnc
import Derived.Test.YtplandmnmdkjmaaDoorPathBytesP
import Derived.Test.YtplandmnmdkjmaaDoorCallCText
import Derived.Test.YtplandmnmdkjmaaDoorCtlRGetA
namespace Go.Proofs.YtplandmnmdkjmaaDoor
open Go.RowKit Go.Sort
set_option maxRecDepth 20000
/-- the answer's cells, and the frame that is made -/
structure DcAt (w W : World) (m : Nat) (sv v0 v1 v2 v3 v4 v5 v6 v7 v8 v9 v10 v11 v12 : Value) (D : List Ent) : Prop where
  res : F13 W w.heap.size (.string ⟨#[]⟩) (.int .i64 0) (.string ⟨#[]⟩) (.int .i64 0) (.bool false) (.bool false) (.slice none 0 0) (.int .i64 0) (.int .i64 0) (.int .i64 0) (.bool false) (.int .i64 0) (.string ⟨#[]⟩)
  box : F13 W m v0 v1 v2 v3 v4 v5 v6 v7 v8 v9 v10 v11 v12
  own : OwnE 86 W (w.heap.size + 1) sv D
  bel : Below w.heap.size w W
  rm : w.heap.size < m
  lt : ∀ g, sv.ownBlock = some g → g < m
theorem DcAt.below {w W W' : World} {m : Nat} {sv v0 v1 v2 v3 v4 v5 v6 v7 v8 v9 v10 v11 v12 : Value} {D : List Ent} (h : DcAt w W m sv v0 v1 v2 v3 v4 v5 v6 v7 v8 v9 v10 v11 v12 D) (hb : Below W.heap.size W W') : DcAt w W' m sv v0 v1 v2 v3 v4 v5 v6 v7 v8 v9 v10 v11 v12 D :=
  ⟨h.res.below hb, h.box.below hb, h.own.below hb, h.bel.trans (hb.mono h.bel.size), h.rm, h.lt⟩
theorem DcAt.pid {w W : World} {m : Nat} {sv v0 v1 v2 v3 v4 v5 v6 v7 v8 v9 v10 v11 v12 : Value} {D : List Ent} (h : DcAt w W m sv v0 v1 v2 v3 v4 v5 v6 v7 v8 v9 v10 v11 v12 D) (u : Value) : DcAt w (W.setCell ⟨m, 11, none⟩ u) m sv v0 v1 v2 v3 v4 v5 v6 v7 v8 v9 v10 u v12 D := by
  have hm := h.rm
  exact ⟨h.res.other _ (by omega), h.box.pid u, h.own.grown (grown_set (grown_refl W (some m)) (o := 11) u) (fun g hv e => by have := h.lt g hv; have := Option.some.inj e; omega), h.bel.setCell (p := ⟨m, 11, none⟩) (by show w.heap.size ≤ m; omega) _, hm, h.lt⟩
theorem DcAt.info {w W : World} {m : Nat} {sv v0 v1 v2 v3 v4 v5 v6 v7 v8 v9 v10 v11 v12 : Value} {D : List Ent} (h : DcAt w W m sv v0 v1 v2 v3 v4 v5 v6 v7 v8 v9 v10 v11 v12 D) (u : Value) : DcAt w (W.setCell ⟨m, 12, none⟩ u) m sv v0 v1 v2 v3 v4 v5 v6 v7 v8 v9 v10 v11 u D := by
  have hm := h.rm
  exact ⟨h.res.other _ (by omega), h.box.info u, h.own.grown (grown_set (grown_refl W (some m)) (o := 12) u) (fun g hv e => by have := h.lt g hv; have := Option.some.inj e; omega), h.bel.setCell (p := ⟨m, 12, none⟩) (by show w.heap.size ≤ m; omega) _, hm, h.lt⟩
theorem DcAt.drew {w W : World} {m : Nat} {sv v0 v1 v2 v3 v4 v5 v6 v7 v8 v9 v10 v11 v12 : Value} {D : List Ent} (h : DcAt w W m sv v0 v1 v2 v3 v4 v5 v6 v7 v8 v9 v10 v11 v12 D) : DcAt w W.drew m sv v0 v1 v2 v3 v4 v5 v6 v7 v8 v9 v10 v11 v12 D := h.below ((Below.refl _ W).drew)
theorem gotU_inj (r q : Nat × Nat × Nat × Bool × Nat × Nat) (h : gotU r = gotU q) : r = q := by
  obtain ⟨a, b, c, d, e, f⟩ := r
  obtain ⟨a', b', c', d', e', f'⟩ := q
  unfold gotU at h
  simp only [Value.tuple.injEq, Array.mk.injEq, List.cons.injEq, Value.agg.injEq, Value.int.injEq, Value.bool.injEq, true_and, and_true] at h
  obtain ⟨⟨h1, h2, h3, h4⟩, h5, h6⟩ := h
  obtain rfl : a = a' := by omega
  obtain rfl : b = b' := by omega
  obtain rfl : c = c' := by omega
  obtain rfl : e = e' := by omega
  obtain rfl : f = f' := by omega
  rw [h4]
theorem slice_at (s : ByteArray) (A : Nat) (h : A ≤ s.size) : ∃ T : ByteArray, T.data.toList = s.data.toList.drop A ∧ ∀ W, (Instr.slice 9 (.string s) (some (.int .i64 (A : Int))) none none).run Tryd.prog W = .ok (.string T) W := by
  refine ⟨s.extract A s.size, ?_, fun W => ?_⟩
  · rw [Lib.extract_to_end]
  · have k := run_slice_string_l (P := Tryd.prog) (w := W) 9 s Tryd.underlying9 .i64 (A : Int) (by omega) (by omega)
    rw [show ((A : Int)).toNat = A from by omega] at k
    exact k
/-- what the bytes of a right frame are read as -/
theorem read_right (L : List Ent) (k nr ns : Int) (pf wide : Bool) (pid : Int) (info : List UInt8) (h1 : rightP L = true) (h2 : rightC k nr ns wide = true) :
    (getP 10 [] (bytesF L k nr ns pf wide pid info)) = (0, L) ∧ ctlOf (bytesF L k nr ns pf wide pid info) wide = (k.toNat, nr.toNat, ns.toNat, pf, (putB k.toNat nr.toNat ns.toNat pf wide).length, 0) ∧ begE (bytesF L k nr ns pf wide pid info) wide = 0 := by
  have hg : getP 10 [] (bytesF L k nr ns pf wide pid info) = (0, L) := by unfold bytesF; exact get_bytes L _ h1
  have hd : (bytesF L k nr ns pf wide pid info).drop (7 * L.length) = putB k.toNat nr.toNat ns.toNat pf wide ++ (pidB k pid ++ info) := by
    unfold bytesF
    exact List.drop_left' (bytesP_len' L L.length (Nat.le_refl _))
  have hc : ctlOf (bytesF L k nr ns pf wide pid info) wide = (k.toNat, nr.toNat, ns.toNat, pf, (putB k.toNat nr.toNat ns.toNat pf wide).length, 0) := by
    unfold ctlOf
    rw [hg]
    dsimp only
    rw [hd]
    obtain ⟨K, R, S, rfl, rfl, rfl, _⟩ := rightC_facts h2
    obtain ⟨a, _, _⟩ := cget_put K R S pf wide (pidB K pid ++ info) h2
    rw [ref_get] at a
    exact gotU_inj _ _ a
  refine ⟨hg, hc, ?_⟩
  unfold begE
  rw [hg, hc]
  rfl
set_option maxHeartbeats 4000000 in
theorem fdec_right (tb fb : ByteArray) (tn fn : Int) (tm fm : Bool) (D : List Ent) (k nr ns : Int) (pf wide : Bool) (pid : Int) (info s : ByteArray) (w : World) (hC : CodesOk w) (hw : wrongF ((tb, tn, tm) :: (fb, fn, fm) :: D) k nr ns wide pid info.size = 0) (hs : s.data.toList = bytesF ((tb, tn, tm) :: (fb, fn, fm) :: D) k nr ns pf wide pid info.data.toList) :
    Calls Tryd.prog 12 #[.string s, .bool wide] w fun e w' => (∃ da dc, e = .returned (.tuple #[.agg #[.string tb, .int .i64 tn, .string fb, .int .i64 fn, .bool tm, .bool fm, .slice da D.length dc, .int .i64 k, .int .i64 nr, .int .i64 ns, .bool pf, .int .i64 pid, .string info], .int .i64 0]) ∧ EntsAt w' da dc D) ∧ Below w.heap.size w w' := by
  obtain ⟨h1, h2, h3, h4⟩ := right_frame hw
  obtain ⟨r1, r2, r3⟩ := read_right ((tb, tn, tm) :: (fb, fn, fm) :: D) k nr ns pf wide pid info.data.toList h1 h2
  obtain ⟨P, rfl, hP, hP0⟩ := pid_facts h3
  have hi := (inf_facts h4).1
  have hll := right_len h1
  have hbl := bytesP_len' ((tb, tn, tm) :: (fb, fn, fm) :: D) (((tb, tn, tm) :: (fb, fn, fm) :: D)).length (Nat.le_refl _)
  have hpl := putB_le k.toNat nr.toNat ns.toNat pf wide
  have hk : ((k.toNat : Nat) : Int) = k ∧ ((nr.toNat : Nat) : Int) = nr ∧ ((ns.toNat : Nat) : Int) = ns := by
    obtain ⟨K, R, S, rfl, rfl, rfl, _⟩ := rightC_facts h2
    exact ⟨rfl, rfl, rfl⟩
  have hsl : s.data.toList.length = s.size := by simp
  have hil : info.data.toList.length = info.size := by simp
  have hpb : (pidB k (P : Int)).length ≤ 1 := by unfold pidB; split <;> simp
  obtain ⟨A, hA⟩ : ∃ A : Nat, A = 7 * (((tb, tn, tm) :: (fb, fn, fm) :: D)).length + (putB k.toNat nr.toNat ns.toNat pf wide).length := ⟨_, rfl⟩
  have hrest : s.data.toList.drop A = pidB k (P : Int) ++ info.data.toList := by
    rw [hs]
    unfold bytesF
    rw [← List.append_assoc]
    exact List.drop_left' (by rw [List.length_append, hbl, hA])
  have hsz : s.size = A + ((pidB k (P : Int)).length + info.size) := by
    rw [← hsl, hs]
    unfold bytesF
    rw [List.length_append, List.length_append, List.length_append, hbl, hA, hil]
    omega
  have hbg := fun W (hb : Below w.heap.size w W) => begin_any s wide W (by omega) (hC.below hb)
  unfold BegTo at hbg
  rw [hs, r1, r2, r3] at hbg
  dsimp only at hbg
  rw [hk.1, hk.2.1, hk.2.2, ← hA] at hbg
  have HBG := Lib.hid (show ∀ W, Below w.heap.size w W → Calls Tryd.prog 32 #[.string s, .bool wide] W fun e w' => (∃ da dc, e = .returned (.tuple #[.agg #[.string tb, .int .i64 tn, .string fb, .int .i64 fn, .bool tm, .bool fm, .slice da D.length dc, .int .i64 k, .int .i64 nr, .int .i64 ns, .bool pf, .int .i64 0, .string ⟨#[]⟩], .int .i64 (A : Int), .int .i64 0]) ∧ OwnE 86 w' W.heap.size (.slice da D.length dc) D) ∧ Below W.heap.size W w' from fun W hb => (hbg W hb).mono fun e w' hq => by
    obtain ⟨x, y, D', da, dc, e1, e2, e3⟩ := hq.2.1 rfl
    simp only [List.cons.injEq] at e1
    obtain ⟨rfl, rfl, rfl⟩ := e1
    exact ⟨⟨da, dc, e2, e3⟩, hq.2.2⟩)
  obtain ⟨J, hJ, hcut⟩ := slice_at s A (by omega)
  have HB0 := Lib.hid ((Below.refl _ w).alloc (Nat.le_refl _) (.cells #[.string ⟨#[]⟩, .int .i64 0, .string ⟨#[]⟩, .int .i64 0, .bool false, .bool false, .slice none 0 0, .int .i64 0, .int .i64 0, .int .i64 0, .bool false, .int .i64 0, .string ⟨#[]⟩] 30))
  have HF0 := Lib.hid (F13.new w w.heap.size rfl (.string ⟨#[]⟩) (.int .i64 0) (.string ⟨#[]⟩) (.int .i64 0) (.bool false) (.bool false) (.slice none 0 0) (.int .i64 0) (.int .i64 0) (.int .i64 0) (.bool false) (.int .i64 0) (.string ⟨#[]⟩) 30)
  have hpd := fun W => pid_any k W
  have HCL := Lib.hid (fun W => clone_any info W (by omega))
  cases hp : pidD k
  · rw [hp] at hpd
    have HPD := Lib.hid hpd
    obtain rfl := hP0 hp
    have hJi : J = info := by
      apply bytes_ext'
      rw [hJ, hrest]
      unfold pidB
      rw [hp]
      rfl
    rw [hJi] at hcut
    clear hJi hJ
    rw [show (((0 : Nat) : Int)) = 0 from rfl]
    have HIN := Lib.hid (show ∀ da dc W, Calls Tryd.prog 33 #[.agg #[.string tb, .int .i64 tn, .string fb, .int .i64 fn, .bool tm, .bool fm, .slice da D.length dc, .int .i64 k, .int .i64 nr, .int .i64 ns, .bool pf, .int .i64 0, .string info]] W fun e w' => e = .returned (.int .i64 0) ∧ Below W.heap.size W w' from fun da dc W => by
      have k9 := inffault_any tb fb tn fn tm fm da D.length dc k nr ns pf 0 info W
      rw [h4] at k9
      exact k9)
    clear h1 h2 h3 h4 r1 r2 r3 hP hP0 hi hll hbl hpl hk hsl hil hpb hA hrest hsz hbg hs hw hC hpd hp
    go_enter Tryd.func12, Tryd.ntmps12
    go_wp2_with (first
      | (go_at_call 32; (with_reducible refine (HBG.out _ HB0.out).mono ?_); rintro e w1 ⟨⟨da, dc, rfl, hE⟩, hb⟩; have hb1 := HB0.out.trans (hb.mono HB0.out.size); have HA := Lib.hid (show DcAt w (w1.alloc (.cells #[.string tb, .int .i64 tn, .string fb, .int .i64 fn, .bool tm, .bool fm, .slice da D.length dc, .int .i64 k, .int .i64 nr, .int .i64 ns, .bool pf, .int .i64 0, .string info] 30)) w1.heap.size (.slice da D.length dc) (.string tb) (.int .i64 tn) (.string fb) (.int .i64 fn) (.bool tm) (.bool fm) (.slice da D.length dc) (.int .i64 k) (.int .i64 nr) (.int .i64 ns) (.bool pf) (.int .i64 0) (.string info) D from ⟨(HF0.out.below hb).alloc _, F13.new w1 _ rfl _ _ _ _ _ _ _ _ _ _ _ _ _ _, (hE.base (by simp)).alloc _, hb1.alloc hb1.size _, Nat.lt_of_lt_of_le (by simp) hb.size, fun g hv => (hE.ge hv).2⟩); clear hb hb1 hE)
      | (go_at_call 31; (with_reducible refine (HPD.out _).mono ?_); rintro e w2 ⟨rfl, rfl⟩)
      | (go_at_call 33; (with_reducible refine (HIN.out da dc _).mono ?_); rintro e w3 ⟨rfl, hb⟩; replace HA := Lib.hid (HA.out.below hb); clear hb)
      | (go_at_call 34; (with_reducible refine (HCL.out _).mono ?_); rintro e w4 ⟨rfl, hb⟩; replace HA := Lib.hid (HA.out.below hb); clear hb; have HA5 := Lib.hid (HA.out.info (.string info)); have hne := HA.out.rm; have hne2 : ¬ w1.heap.size = w.heap.size := (by omega); obtain ⟨⟨p0, q0, pl⟩, ⟨p1, q1, -⟩, ⟨p2, q2, -⟩, ⟨p3, q3, -⟩, ⟨p4, q4, -⟩, ⟨p5, q5, -⟩, ⟨p6, q6, -⟩, ⟨p7, q7, -⟩, ⟨p8, q8, -⟩, ⟨p9, q9, -⟩, ⟨p10, q10, -⟩, ⟨p11, q11, -⟩, ⟨p12, q12, -⟩⟩ := HA.out.res; obtain ⟨⟨b0, z0, bl⟩, ⟨b1, z1, -⟩, ⟨b2, z2, -⟩, ⟨b3, z3, -⟩, ⟨b4, z4, -⟩, ⟨b5, z5, -⟩, ⟨b6, z6, -⟩, ⟨b7, z7, -⟩, ⟨b8, z8, -⟩, ⟨b9, z9, -⟩, ⟨b10, z10, -⟩, ⟨b11, z11, -⟩, ⟨b12, z12, -⟩⟩ := HA.out.box))
    have S9 := F13.stored HA5.out.res (.string tb) (.int .i64 tn) (.string fb) (.int .i64 fn) (.bool tm) (.bool fm) (.slice da D.length dc) (.int .i64 k) (.int .i64 nr) (.int .i64 ns) (.bool pf) (.int .i64 0) (.string info)
    have HBF := Lib.hid (set13_below HA5.out.bel (Nat.le_refl _) (.string tb) (.int .i64 tn) (.string fb) (.int .i64 fn) (.bool tm) (.bool fm) (.slice da D.length dc) (.int .i64 k) (.int .i64 nr) (.int .i64 ns) (.bool pf) (.int .i64 0) (.string info))
    have HEF := Lib.hid (ents_of_own (own13 HA5.out.own (Nat.lt_succ_self _) (.string tb) (.int .i64 tn) (.string fb) (.int .i64 fn) (.bool tm) (.bool fm) (.slice da D.length dc) (.int .i64 k) (.int .i64 nr) (.int .i64 ns) (.bool pf) (.int .i64 0) (.string info)))
    exact bodyPost_ret (v := .tuple #[.agg #[.string tb, .int .i64 tn, .string fb, .int .i64 fn, .bool tm, .bool fm, .slice da D.length dc, .int .i64 k, .int .i64 nr, .int .i64 ns, .bool pf, .int .i64 0, .string info], .int .i64 0]) (by simp [results, Tryd.results12, go_sem, S9.k0.cell, S9.k1.cell, S9.k2.cell, S9.k3.cell, S9.k4.cell, S9.k5.cell, S9.k6.cell, S9.k7.cell, S9.k8.cell, S9.k9.cell, S9.k10.cell, S9.k11.cell, S9.k12.cell]) rfl ⟨⟨da, dc, rfl, HEF.out⟩, HBF.out⟩
  · rw [hp] at hpd
    have HPD := Lib.hid hpd
    have hJl : J.data.toList = UInt8.ofNat P :: info.data.toList := by
      rw [hJ, hrest]
      unfold pidB
      rw [hp]
      rfl
    have hJz : J.size = info.size + 1 := by
      have : J.data.toList.length = J.size := by simp
      rw [← this, hJl, List.length_cons, hil]
    have n0 : 0 < J.size := by omega
    obtain ⟨X, hX⟩ : ∃ X : Int, X = (P : Int) := ⟨_, rfl⟩
    have hj0 : (((J[0]'n0).toNat : Nat) : Int) = X := by
      rw [head_at J _ _ hJl n0, hX]
      simp; omega
    have hwx : IntKind.i64.wrap X = X := by rw [hX]; exact IntWalk.i64_in _ (by omega)
    have hje : J.toList.isEmpty = false := txt_full J n0
    obtain ⟨I2, hI2, hcut2⟩ := slice_at J 1 (by omega)
    have hI3 : I2 = info := by
      apply bytes_ext'
      rw [hI2, hJl]
      rfl
    rw [hI3] at hcut2
    have hcut3 : ∀ W, (Instr.slice 9 (.string J) (some (.int .i64 1)) none none).run Tryd.prog W = .ok (.string info) W := hcut2
    rw [← hX]
    clear hcut2 hI3 hI2 hJl hJ
    have HIN := Lib.hid (show ∀ da dc W, Calls Tryd.prog 33 #[.agg #[.string tb, .int .i64 tn, .string fb, .int .i64 fn, .bool tm, .bool fm, .slice da D.length dc, .int .i64 k, .int .i64 nr, .int .i64 ns, .bool pf, .int .i64 X, .string info]] W fun e w' => e = .returned (.int .i64 0) ∧ Below W.heap.size W w' from fun da dc W => by
      have k9 := inffault_any tb fb tn fn tm fm da D.length dc k nr ns pf X info W
      rw [h4] at k9
      exact k9)
    clear hX hJz
    clear h1 h2 h3 h4 r1 r2 r3 hP hP0 hi hll hbl hpl hk hsl hil hpb hA hrest hsz hbg hs hw hC hpd hp
    go_enter Tryd.func12, Tryd.ntmps12
    go_wp2_with (first
      | (go_at_call 32; (with_reducible refine (HBG.out _ HB0.out).mono ?_); rintro e w1 ⟨⟨da, dc, rfl, hE⟩, hb⟩; have hb1 := HB0.out.trans (hb.mono HB0.out.size); have HA := Lib.hid (show DcAt w (w1.alloc (.cells #[.string tb, .int .i64 tn, .string fb, .int .i64 fn, .bool tm, .bool fm, .slice da D.length dc, .int .i64 k, .int .i64 nr, .int .i64 ns, .bool pf, .int .i64 0, .string ⟨#[]⟩] 30)) w1.heap.size (.slice da D.length dc) (.string tb) (.int .i64 tn) (.string fb) (.int .i64 fn) (.bool tm) (.bool fm) (.slice da D.length dc) (.int .i64 k) (.int .i64 nr) (.int .i64 ns) (.bool pf) (.int .i64 0) (.string ⟨#[]⟩) D from ⟨(HF0.out.below hb).alloc _, F13.new w1 _ rfl _ _ _ _ _ _ _ _ _ _ _ _ _ _, (hE.base (by simp)).alloc _, hb1.alloc hb1.size _, Nat.lt_of_lt_of_le (by simp) hb.size, fun g hv => (hE.ge hv).2⟩); clear hb hb1 hE)
      | (go_at_call 31; (with_reducible refine (HPD.out _).mono ?_); rintro e w2 ⟨rfl, rfl⟩))
    generalize w1.alloc (.cells #[.string tb, .int .i64 tn, .string fb, .int .i64 fn, .bool tm, .bool fm, .slice da D.length dc, .int .i64 k, .int .i64 nr, .int .i64 ns, .bool pf, .int .i64 0, .string ⟨#[]⟩] 30) = W0 at *
    generalize w1.heap.size = m at *
    have HA1 := Lib.hid (HA.out.pid (.int .i64 X)).drew
    obtain ⟨⟨b0, z0, bl⟩, ⟨b1, z1, -⟩, ⟨b2, z2, -⟩, ⟨b3, z3, -⟩, ⟨b4, z4, -⟩, ⟨b5, z5, -⟩, ⟨b6, z6, -⟩, ⟨b7, z7, -⟩, ⟨b8, z8, -⟩, ⟨b9, z9, -⟩, ⟨b10, z10, -⟩, ⟨b11, z11, -⟩, ⟨b12, z12, -⟩⟩ := HA.out.box
    clear HA
    refine wp_region_any (by kernel_rfl) ?_
    try (change wpAny _ _ _ _ _ _ _ (World.drew _))
    refine wpAny_take (i := 0) (v := ?_) rfl (by kernel_rfl) (by kernel_rfl) (by kernel_rfl) (fun _ _ _ h => h) (Or.inl ⟨by rfl, ?_⟩) ?_
    rotate_left
    · intro w; go_simp; with_reducible rfl
    refine wpAny_take (i := 1) (v := ?_) rfl (by kernel_rfl) (by kernel_rfl) (by kernel_rfl) (fun _ _ _ h => h) (Or.inl ⟨by rfl, ?_⟩) ?_
    rotate_left
    · intro w; go_simp; with_reducible rfl
    refine wpAny_take (i := 2) (v := ?_) rfl (by kernel_rfl) (by kernel_rfl) (by kernel_rfl) (fun _ _ _ h => h) (Or.inl ⟨by rfl, ?_⟩) ?_
    rotate_left
    · intro w; go_simp; with_reducible rfl
    refine wpAny_take (i := 3) (v := ?_) rfl (by kernel_rfl) (by kernel_rfl) (by kernel_rfl) (fun _ _ _ h => h) (Or.inl ⟨by rfl, ?_⟩) ?_
    rotate_left
    · intro w; go_simp; with_reducible rfl
    refine wpAny_take (i := 4) (v := ?_) rfl (by kernel_rfl) (by kernel_rfl) (by kernel_rfl) (fun _ _ _ h => h) (Or.inl ⟨by rfl, ?_⟩) ?_
    rotate_left
    · intro w; go_simp; with_reducible rfl
    refine wpAny_take (i := 5) (v := ?_) rfl (by kernel_rfl) (by kernel_rfl) (by kernel_rfl) (fun _ _ _ h => h) (Or.inl ⟨by rfl, ?_⟩) ?_
    rotate_left
    · intro w; go_simp; with_reducible rfl
    refine wpAny_ready (rs := [6]) (by kernel_rfl) (by simp) ?_
    refine AllReady.cons rfl (fun K hK => ?_) AllReady.nil
    go_simp
    refine hK _ _ ?_
    clear hK K
    refine wpAny_ready (rs := [7]) (by kernel_rfl) (by simp) ?_
    refine AllReady.cons rfl (fun K hK => ?_) AllReady.nil
    go_simp
    refine hK _ _ ?_
    clear hK K
    refine wpAny_done (by kernel_rfl) ?_ _
    clear b0 z0 bl b1 z1 b2 z2 b3 z3 b4 z4 b5 z5 b6 z6 b7 z7 b8 z8 b9 z9 b10 z10 b11 z11 b12 z12
    generalize (W0.setCell ⟨m, 11, none⟩ (.int .i64 X)).drew = W1 at *
    have HA3 := Lib.hid (HA1.out.info (.string info))
    obtain ⟨⟨b0, z0, bl⟩, ⟨b1, z1, -⟩, ⟨b2, z2, -⟩, ⟨b3, z3, -⟩, ⟨b4, z4, -⟩, ⟨b5, z5, -⟩, ⟨b6, z6, -⟩, ⟨b7, z7, -⟩, ⟨b8, z8, -⟩, ⟨b9, z9, -⟩, ⟨b10, z10, -⟩, ⟨b11, z11, -⟩, ⟨b12, z12, -⟩⟩ := HA1.out.box
    go_wp2_with (first
      | (go_at_call 33; (with_reducible refine (HIN.out da dc _).mono ?_); rintro e w3 ⟨rfl, hb⟩; have HA := Lib.hid (HA3.out.below hb); clear hb; clear b0 z0 bl b1 z1 b2 z2 b3 z3 b4 z4 b5 z5 b6 z6 b7 z7 b8 z8 b9 z9 b10 z10 b11 z11 b12 z12; obtain ⟨⟨b0, z0, bl⟩, ⟨b1, z1, -⟩, ⟨b2, z2, -⟩, ⟨b3, z3, -⟩, ⟨b4, z4, -⟩, ⟨b5, z5, -⟩, ⟨b6, z6, -⟩, ⟨b7, z7, -⟩, ⟨b8, z8, -⟩, ⟨b9, z9, -⟩, ⟨b10, z10, -⟩, ⟨b11, z11, -⟩, ⟨b12, z12, -⟩⟩ := HA.out.box)
      | (go_at_call 34; (with_reducible refine (HCL.out _).mono ?_); rintro e w4 ⟨rfl, hb⟩; replace HA := Lib.hid (HA.out.below hb); clear hb; have HA5 := Lib.hid (HA.out.info (.string info)); have hne := HA.out.rm; have hne2 : ¬ m = w.heap.size := (by omega); clear b0 z0 bl b1 z1 b2 z2 b3 z3 b4 z4 b5 z5 b6 z6 b7 z7 b8 z8 b9 z9 b10 z10 b11 z11 b12 z12; obtain ⟨⟨p0, q0, pl⟩, ⟨p1, q1, -⟩, ⟨p2, q2, -⟩, ⟨p3, q3, -⟩, ⟨p4, q4, -⟩, ⟨p5, q5, -⟩, ⟨p6, q6, -⟩, ⟨p7, q7, -⟩, ⟨p8, q8, -⟩, ⟨p9, q9, -⟩, ⟨p10, q10, -⟩, ⟨p11, q11, -⟩, ⟨p12, q12, -⟩⟩ := HA.out.res; obtain ⟨⟨b0, z0, bl⟩, ⟨b1, z1, -⟩, ⟨b2, z2, -⟩, ⟨b3, z3, -⟩, ⟨b4, z4, -⟩, ⟨b5, z5, -⟩, ⟨b6, z6, -⟩, ⟨b7, z7, -⟩, ⟨b8, z8, -⟩, ⟨b9, z9, -⟩, ⟨b10, z10, -⟩, ⟨b11, z11, -⟩, ⟨b12, z12, -⟩⟩ := HA.out.box))
    have S9 := F13.stored HA5.out.res (.string tb) (.int .i64 tn) (.string fb) (.int .i64 fn) (.bool tm) (.bool fm) (.slice da D.length dc) (.int .i64 k) (.int .i64 nr) (.int .i64 ns) (.bool pf) (.int .i64 X) (.string info)
    have HBF := Lib.hid (set13_below HA5.out.bel (Nat.le_refl _) (.string tb) (.int .i64 tn) (.string fb) (.int .i64 fn) (.bool tm) (.bool fm) (.slice da D.length dc) (.int .i64 k) (.int .i64 nr) (.int .i64 ns) (.bool pf) (.int .i64 X) (.string info))
    have HEF := Lib.hid (ents_of_own (own13 HA5.out.own (Nat.lt_succ_self _) (.string tb) (.int .i64 tn) (.string fb) (.int .i64 fn) (.bool tm) (.bool fm) (.slice da D.length dc) (.int .i64 k) (.int .i64 nr) (.int .i64 ns) (.bool pf) (.int .i64 X) (.string info)))
    exact bodyPost_ret (v := .tuple #[.agg #[.string tb, .int .i64 tn, .string fb, .int .i64 fn, .bool tm, .bool fm, .slice da D.length dc, .int .i64 k, .int .i64 nr, .int .i64 ns, .bool pf, .int .i64 X, .string info], .int .i64 0]) (by simp [results, Tryd.results12, go_sem, S9.k0.cell, S9.k1.cell, S9.k2.cell, S9.k3.cell, S9.k4.cell, S9.k5.cell, S9.k6.cell, S9.k7.cell, S9.k8.cell, S9.k9.cell, S9.k10.cell, S9.k11.cell, S9.k12.cell]) rfl ⟨⟨da, dc, rfl, HEF.out⟩, HBF.out⟩
end Go.Proofs.YtplandmnmdkjmaaDoor
