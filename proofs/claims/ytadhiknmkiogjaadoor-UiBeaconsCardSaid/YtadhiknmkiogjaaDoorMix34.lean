/-
The document's own Put of datagrams.
Ops of beacons as they are handed in; a beacon and the document's, one beside the other.
-/
import Derived.Test.YtadhiknmkiogjaaDoorMix25
import Derived.Test.YtadhiknmkiogjaaDoorFrmREnc
import Derived.Test.YtadhiknmkiogjaaDoorMix33
import Derived.Test.YtadhiknmkiogjaaDoorMix26
import Derived.Test.YtadhiknmkiogjaaDoorMix27
import Derived.OrdersHeld
import Derived.Deep.RegionHeld
import Derived.Deep.DeepCutAuto
import Derived.Test.YtadhiknmkiogjaaDoorMix30
namespace Go.Proofs.YtadhiknmkiogjaaDoor
open Go.RowKit Go.Sort
set_option maxRecDepth 20000
/-- the variable p, and the box of the datagram -/
structure RpU (w W : World) (GL : List Value) (tv : Value) (L : List Ent) : Prop where
  out : OutAt w W (w.heap.size + 1) (w.heap.size + 1 + 1) 0 67 tv L
  box : RowAt W w.heap.size GL
theorem RpU.below {w W W' : World} {GL : List Value} {tv : Value} {L : List Ent} (h : RpU w W GL tv L) (hb : Below W.heap.size W W') : RpU w W' GL tv L := ⟨h.out.below hb, h.box.below hb⟩
theorem RpU.alloc {w W : World} {GL : List Value} {tv : Value} {L : List Ent} (h : RpU w W GL tv L) (o : Obj) : RpU w (W.alloc o) GL tv L := h.below ((Below.refl _ W).alloc (Nat.le_refl _) _)
theorem RpU.drew {w W : World} {GL : List Value} {tv : Value} {L : List Ent} (h : RpU w W GL tv L) : RpU w W.drew GL tv L := ⟨h.out.drew, h.box.drew⟩
theorem RpU.grown {w W w1 : World} {GL : List Value} {tv v' : Value} {L L' : List Ent} (h : RpU w W GL tv L) (h1 : OwnE 67 w1 (w.heap.size + 1) v' L') (hg : W.grownBy w1 tv.ownBlock) (hv : v'.ownBlock = tv.ownBlock ∨ v'.ownBlock = some W.heap.size) :
    (∃ a n c, v' = .slice a n c) ∧ KeepAt w1 (w.heap.size + 1 + 1) 0 tv ∧ RowAt w1 w.heap.size GL ∧ RpU w (w1.setCell ⟨w.heap.size + 1 + 1, 0, none⟩ v') GL v' L' := by
  obtain ⟨hs, hc, hf, hz, ho, hk⟩ := h.out.grown h1 hg hv
  have hr := h.box.block (hk w.heap.size (by omega)) hz
  exact ⟨hs, ⟨hc, hf, Nat.lt_of_lt_of_le h.out.lt hz⟩, hr, ho, hr.other v' (by omega)⟩
theorem gramL_next (fb tb : ByteArray) (fn tn : Int) (C : List (ByteArray × Int)) (k : Nat) (h : k < C.length) : gramL fb tb fn tn (C.take (k + 1)) = gramL fb tb fn tn (C.take k) ++ [(C[k].1, C[k].2, false)] := by
  unfold gramL
  rw [fresh_next C k h]
  rfl
theorem gramL_len (fb tb : ByteArray) (fn tn : Int) (C : List (ByteArray × Int)) : (gramL fb tb fn tn C).length = C.length + 2 := by simp [gramL, freshD]
set_option maxHeartbeats 2000000 in
theorem rput22_any (fb tb : ByteArray) (fn tn : Int) (a : Option Addr) (cap : Nat) (C : List (ByteArray × Int)) (pid : Int) (t : ByteArray) (w : World) (hC : C.length ≤ 900) (hE : CallsAt w a C) :
    Calls Tryd.prog 9 #[.agg #[.string fb, .int .i64 fn, .string tb, .int .i64 tn, .slice a C.length cap, .int .i64 pid, .string t]] w fun e w' => e = .returned (.tuple #[.string (gramS fb tb fn tn C pid t), .int .i64 (gramE fb tb fn tn C pid t.size : Nat)]) ∧ Below w.heap.size w w' := by
  obtain ⟨W1, hW1⟩ : ∃ W1, W1 = (w.alloc (.cells #[.string fb, .int .i64 fn, .string tb, .int .i64 tn, .slice a C.length cap, .int .i64 pid, .string t] 34)) := ⟨_, rfl⟩
  have hs1 : W1.heap.size = w.heap.size + 1 := by rw [hW1]; simp
  have hb1 : Below w.heap.size w W1 := by rw [hW1]; exact (Below.refl _ w).alloc (Nat.le_refl _) _
  have hr1 : RowAt W1 w.heap.size [.string fb, .int .i64 fn, .string tb, .int .i64 tn, .slice a C.length cap, .int .i64 pid, .string t] := by rw [hW1]; exact RowAt.new w w.heap.size rfl [.string fb, .int .i64 fn, .string tb, .int .i64 tn, .slice a C.length cap, .int .i64 pid, .string t] 34
  obtain ⟨W2, hW2⟩ : ∃ W2, W2 = W1.alloc (.cells #[.string tb, .int .i64 tn, .bool true, .string fb, .int .i64 fn, .bool false] 67) := ⟨_, rfl⟩
  have hs2 : W2.heap.size = w.heap.size + 1 + 1 := by rw [hW2]; simp [hs1]
  have ho2 : OwnE 67 W2 (w.heap.size + 1) (.slice (some ⟨w.heap.size + 1, 0, none⟩) 2 2) [(tb, tn, true), (fb, fn, false)] := by rw [hW2]; exact OwnE.lit2 W1 (w.heap.size + 1) (w.heap.size + 1) hs1.symm (Nat.le_refl _) tb fb tn fn true false 67
  have hb2 : Below w.heap.size w W2 := by rw [hW2]; exact hb1.alloc hb1.size _
  have hr2 : RowAt W2 w.heap.size [.string fb, .int .i64 fn, .string tb, .int .i64 tn, .slice a C.length cap, .int .i64 pid, .string t] := by rw [hW2]; exact hr1.alloc _
  have HU0 := Lib.hid (show RpU w (W2.alloc (.cells #[.slice (some ⟨w.heap.size + 1, 0, none⟩) 2 2] 70)) [.string fb, .int .i64 fn, .string tb, .int .i64 tn, .slice a C.length cap, .int .i64 pid, .string t] (.slice (some ⟨w.heap.size + 1, 0, none⟩) 2 2) (gramL fb tb fn tn (C.take 0)) from
    ⟨⟨by rw [← hs2]; exact World.cell?_alloc_at _ _ _ _ rfl, by rw [← hs2]; exact World.frozen?_alloc_at _ _ _ _ rfl, ho2.alloc _, by simp [Value.ownBlock], hb2.alloc hb2.size _, by omega, by omega, by simp [hs2], by simp [hs2]⟩, hr2.alloc _⟩)
  rw [hW2, hW1] at HU0
  have HX := Lib.hid (show ∀ W, RowAt W w.heap.size [.string fb, .int .i64 fn, .string tb, .int .i64 tn, .slice a C.length cap, .int .i64 pid, .string t] → W.cell? ⟨w.heap.size, 4, none⟩ = some (.slice a C.length cap) ∧ W.cell? ⟨w.heap.size, 5, none⟩ = some (.int .i64 pid) ∧ W.cell? ⟨w.heap.size, 6, none⟩ = some (.string t) from fun W h => ⟨h.cell 4 rfl, h.cell 5 rfl, h.cell 6 rfl⟩)
  obtain ⟨GLL, HU1, HX1⟩ : ∃ GLL : List Value, Hid (RpU w (((w.alloc (.cells #[.string fb, .int .i64 fn, .string tb, .int .i64 tn, .slice a C.length cap, .int .i64 pid, .string t] 34)).alloc (.cells #[.string tb, .int .i64 tn, .bool true, .string fb, .int .i64 fn, .bool false] 67)).alloc (.cells #[.slice (some ⟨w.heap.size + 1, 0, none⟩) 2 2] 70)) GLL (.slice (some ⟨w.heap.size + 1, 0, none⟩) 2 2) (gramL fb tb fn tn (C.take 0))) ∧ Hid (∀ W, RowAt W w.heap.size GLL → W.cell? ⟨w.heap.size, 4, none⟩ = some (.slice a C.length cap) ∧ W.cell? ⟨w.heap.size, 5, none⟩ = some (.int .i64 pid) ∧ W.cell? ⟨w.heap.size, 6, none⟩ = some (.string t)) := ⟨_, HU0, HX⟩
  clear HU0 HX
  have HN := Lib.hid (gramL_next fb tb fn tn C)
  have HTL := Lib.hid (show gramL fb tb fn tn (C.take C.length) = gramL fb tb fn tn C by rw [List.take_length])
  have HLN := Lib.hid (show ∀ k, k ≤ C.length → (gramL fb tb fn tn (C.take k)).length = k + 2 from fun k hk => by rw [gramL_len]; simp; omega)
  have hlf := gramL_len fb tb fn tn C
  have HE := Lib.hid hE
  have HC := Lib.hid hC
  have hwr := fun va vc W (h : EntsAt W va vc (gramL fb tb fn tn C)) => rwrong_any va vc (gramL fb tb fn tn C) 12 0 0 false pid t false W (by omega) h
  have hen := fun va vc W (h : EntsAt W va vc (gramL fb tb fn tn C)) (h0 : gramE fb tb fn tn C pid t.size = 0) => renc_any va vc (gramL fb tb fn tn C) 12 0 0 false pid t false W h h0
  obtain ⟨S, hS⟩ : ∃ S, S = gramS fb tb fn tn C pid t := ⟨_, rfl⟩
  obtain ⟨G, hG⟩ : ∃ G, G = gramE fb tb fn tn C pid t.size := ⟨_, rfl⟩
  have hwr2 := fun va vc W h => show Calls Tryd.prog 22 #[.agg #[.slice va (gramL fb tb fn tn C).length vc, .int .i64 12, .int .i64 0, .int .i64 0, .bool false, .int .i64 pid, .string t], .bool false] W fun e w' => e = .returned (.int .i64 (G : Nat)) ∧ Below W.heap.size W w' from by rw [hG]; exact hwr va vc W h
  have hen2 := fun va vc W h (h0 : G = 0) => show Calls Tryd.prog 23 #[.agg #[.slice va (gramL fb tb fn tn C).length vc, .int .i64 12, .int .i64 0, .int .i64 0, .bool false, .int .i64 pid, .string t], .bool false] W fun e w' => e = .returned (.string S) ∧ Below W.heap.size W w' from by
    have h1 : gramE fb tb fn tn C pid t.size = 0 := hG.symm.trans h0
    have k := hen va vc W h h1
    rw [hS]
    unfold gramS
    rw [if_pos h1]
    exact k
  have HS0 := Lib.hid (show G ≠ 0 → S = ⟨#[]⟩ from fun h0 => by rw [hS]; unfold gramS; rw [if_neg (fun q => h0 (hG.trans q))])
  rw [← hS, ← hG]
  have HWR := Lib.hid hwr2
  have HEN := Lib.hid hen2
  clear hwr hen hwr2 hen2 hS hG hs1 hb1 hr1 hs2 ho2 hb2 hr2 hE hlf hW1 hW2 hC
  go_enter Tryd.func9, Tryd.ntmps9
  go_wp2_with fail
  generalize ((w.alloc (.cells #[.string fb, .int .i64 fn, .string tb, .int .i64 tn, .slice a C.length cap, .int .i64 pid, .string t] 34)).alloc (.cells #[.string tb, .int .i64 tn, .bool true, .string fb, .int .i64 fn, .bool false] 67)).alloc (.cells #[.slice (some ⟨w.heap.size + 1, 0, none⟩) 2 2] 70) = W3 at *
  go_loopw [5] (fun i wx => ∃ k : Nat, k ≤ C.length ∧ i = .int .i64 k ∧ ∃ tv, Hid (RpU w wx GLL tv (gramL fb tb fn tn (C.take k)))) (fun i _ => C.length - (intOf i).toNat)
  case atStart => exact ⟨0, by omega, rfl, _, HU1⟩
  case round =>
    obtain ⟨k, hk, rfl, tv, HQ⟩ := hrel
    clear HU1
    have x4 := (HX1.out wr HQ.out.box).1
    by_cases hlt : k < C.length
    · have dk : decide ((k : Int) < (C.length : Int)) = true := decide_eq_true (by omega)
      have hnx := HN.out k hlt
      obtain ⟨g, o, rfl, hg, c0, c1⟩ := HE.out k hlt
      replace c0 := (HQ.out.out.bel.cell (p := ⟨g, _, none⟩) hg).trans c0
      replace c1 := (HQ.out.out.bel.cell (p := ⟨g, _, none⟩) hg).trans c1
      have HGW := Lib.hid hg
      replace hg := Nat.lt_of_lt_of_le hg HQ.out.out.bel.size
      have HL := Lib.hid (show (gramL fb tb fn tn (C.take k)).length + 1 ≤ 100000 from by have := HLN.out k hk; have := HC.out; omega)
      generalize C[k] = d at *
      obtain ⟨db, dn⟩ := d
      simp only at c0 c1 hnx
      have HNX := Lib.hid hnx
      generalize gramL fb tb fn tn (C.take k) = LL at *
      have HG0 := Lib.hid (show g < wr.heap.size ∧ wr.cell? ⟨g, o + k * 2, none⟩ = some (.string db) ∧ wr.cell? ⟨g, o + k * 2 + 1, none⟩ = some (.int .i64 dn) from ⟨hg, c0, c1⟩)
      obtain ⟨ta, tn', tc, htv⟩ := HQ.out.out.own.form
      subst htv
      clear hnx c0 c1 hg
      go_upto_region 5 with fail
      clear x4
      have HK0 := Lib.hid (show ∀ W, Below wr.heap.size wr W → RpU w W GLL (.slice ta tn' tc) LL ∧ W.cell? ⟨g, o + k * 2, none⟩ = some (.string db) ∧ W.cell? ⟨g, o + k * 2 + 1, none⟩ = some (.int .i64 dn) from fun W hb => ⟨HQ.out.below hb, (hb.cell (p := ⟨g, _, none⟩) HG0.out.1).trans HG0.out.2.1, (hb.cell (p := ⟨g, _, none⟩) HG0.out.1).trans HG0.out.2.2⟩)
      clear HG0 HQ
      refine wp_region_held (S := fun W' => RowAt W' w.heap.size GLL ∧ W'.cell? ⟨g, o + k * 2, none⟩ = some (.string db) ∧ W'.cell? ⟨g, o + k * 2 + 1, none⟩ = some (.int .i64 dn)) (by kernel_rfl) ?_
      change wpAnyH _ _ _ _ _ _ _ _ (World.drew _)
      have HBB := Lib.hid ((Below.refl wr.heap.size wr).drew)
      have HB := Lib.hid (show RowAt wr.drew w.heap.size GLL ∧ wr.drew.cell? ⟨g, o + k * 2, none⟩ = some (.string db) ∧ wr.drew.cell? ⟨g, o + k * 2 + 1, none⟩ = some (.int .i64 dn) from by
        obtain ⟨h1, h2, h3⟩ := HK0.out _ HBB.out
        exact ⟨h1.box, h2, h3⟩)
      refine wpAnyH_take (i := 0) (v := ?_) rfl (by kernel_rfl) (by kernel_rfl) (by kernel_rfl) (fun _ _ _ h => h) (Or.inl ⟨by rfl, ?_⟩) HB.out ?_
      rotate_left
      · intro w' hw'
        go_simp
        with_reducible rfl
      go_simp
      refine wpAnyH_take (i := 2) (v := ?_) rfl (by kernel_rfl) (by kernel_rfl) (by kernel_rfl) (fun _ _ _ h => h) (Or.inl ⟨by rfl, ?_⟩) HB.out ?_
      rotate_left
      · intro w' hw'
        go_simp
        with_reducible rfl
      go_simp
      refine wpAnyH_take (i := 4) (v := ?_) rfl (by kernel_rfl) (by kernel_rfl) (by kernel_rfl) (fun _ _ _ h => h) (Or.inl ⟨by rfl, ?_⟩) HB.out ?_
      rotate_left
      · intro w' hw'
        go_simp
        with_reducible rfl
      go_simp
      refine wpAnyH_take (i := 3) (v := ?_) rfl (by kernel_rfl) (by kernel_rfl) (by kernel_rfl) (fun _ _ _ h => h) (Or.inl ⟨by rfl, ?_⟩) HB.out ?_
      rotate_left
      · intro w' hw'
        have xx := (HX1.out w' hw'.1).1
        go_simp
        with_reducible rfl
      go_simp
      refine wpAnyH_take (i := 5) (v := ?_) rfl (by kernel_rfl) (by kernel_rfl) (by kernel_rfl) (fun _ _ _ h => h) (Or.inl ⟨by rfl, ?_⟩) HB.out ?_
      rotate_left
      · intro w' hw'
        go_simp
        with_reducible rfl
      go_simp
      refine wpAnyH_take (i := 6) (v := ?_) rfl (by kernel_rfl) (by kernel_rfl) (by kernel_rfl) (fun _ _ _ h => h) (Or.inl ⟨by rfl, ?_⟩) HB.out ?_
      rotate_left
      · intro w' hw'
        obtain ⟨-, x0, x1⟩ := hw'
        go_simp
        with_reducible rfl
      go_simp
      refine wpAnyH_take (i := 7) (v := ?_) rfl (by kernel_rfl) (by kernel_rfl) (by kernel_rfl) (fun _ _ _ h => h) (Or.inl ⟨by rfl, ?_⟩) HB.out ?_
      rotate_left
      · intro w' hw'
        go_simp
        with_reducible rfl
      go_simp
      refine wpAnyH_ready (rs := [1, 8]) (by kernel_rfl) (by simp) ?_
      refine AllReadyH.cons rfl (fun K hK => ?_) (AllReadyH.cons rfl (fun K hK => ?_) AllReadyH.nil)
      · have xx : wr.drew.cell? ⟨w.heap.size + 1 + 1, 0, none⟩ = some (.slice ta tn' tc) := (HK0.out _ HBB.out).1.out.cell
        go_simp
        clear xx
        refine hK.out _ _ HB.out (fun _ => ?_)
        clear hK K
        refine wpAnyH_ready (rs := [8]) (by kernel_rfl) (by simp) ?_
        refine AllReadyH.cons rfl (fun K hK => ?_) AllReadyH.nil
        go_simp
        obtain ⟨w3, hw3⟩ : ∃ w3, w3 = (wr.alloc (.cells #[.string db, .int .i64 dn, .bool false] 67)).drew := ⟨_, rfl⟩
        have HM := Lib.hid (show EntsAt w3 (some ⟨wr.heap.size, 0, none⟩) 1 [(db, dn, false)] by rw [hw3]; exact (EntsAt.new1 wr wr.heap.size rfl db dn false 67).below ((Below.refl _ _).drew))
        have HB3 := Lib.hid (show Below wr.heap.size wr w3 by rw [hw3]; exact ((Below.refl wr.heap.size wr).alloc (Nat.le_refl _) _).drew)
        rw [← hw3]
        clear hw3 HB
        have HU3 := Lib.hid (HK0.out w3 HB3.out)
        have HB := Lib.hid (show RowAt w3 w.heap.size GLL ∧ w3.cell? ⟨g, o + k * 2, none⟩ = some (.string db) ∧ w3.cell? ⟨g, o + k * 2 + 1, none⟩ = some (.int .i64 dn) from by
          obtain ⟨h1, h2, h3⟩ := HU3.out
          exact ⟨h1.box, h2, h3⟩)
        refine hK.out _ _ HB.out (fun _ => ?_)
        clear hK K
        obtain ⟨v4, w4, hrun, hown, hgr, hwh⟩ := run_append_ents infoE Tryd.underlying68 w3 68 (w.heap.size + 1) (.slice ta tn' tc) LL [(db, dn, false)] HU3.out.1.out.own (some ⟨wr.heap.size, 0, none⟩) 1 HM.out HL.out HU3.out.1.out.bw
        rw [← HNX.out] at hown
        obtain ⟨⟨va, vn, vc, rfl⟩, hk4, hr4, hu4⟩ := HU3.out.1.grown hown hgr hwh
        have HRUN := Lib.hid hrun
        have HU4 := Lib.hid hu4
        have HK4 := Lib.hid hk4
        have hbk : w4.heap[g]? = w3.heap[g]? := hgr.block g (Nat.lt_of_lt_of_le HGW.out HU3.out.1.out.bel.size) (fun e => by have := (HU3.out.1.out.own.ge e.symm).1; have := HGW.out; omega)
        clear HB
        have HB := Lib.hid (show RowAt w4 w.heap.size GLL ∧ w4.cell? ⟨g, o + k * 2, none⟩ = some (.string db) ∧ w4.cell? ⟨g, o + k * 2 + 1, none⟩ = some (.int .i64 dn) from ⟨hr4, (World.cell?_of_block (a := ⟨g, _, none⟩) hbk).trans HU3.out.2.1, (World.cell?_of_block (a := ⟨g, _, none⟩) hbk).trans HU3.out.2.2⟩)
        clear hrun hown hgr hwh hk4 hr4 hu4 hbk
        refine wpAnyH_ready (rs := [9]) (by kernel_rfl) (by simp) ?_
        refine AllReadyH.cons rfl (fun K hK => ?_) AllReadyH.nil
        rw [if_pos (by kernel_rfl)]
        refine wp_append_run (.tmp 24) (.tmp 31) rfl rfl rfl HRUN.out ?_
        go_simp
        refine hK.out _ _ HB.out (fun _ => ?_)
        clear hK K
        refine wpAnyH_take (i := 10) (v := ?_) rfl (by kernel_rfl) (by kernel_rfl) (by kernel_rfl) (fun _ _ _ h => h) (Or.inl ⟨by rfl, ?_⟩) HB.out ?_
        rotate_left
        · intro w' hw'
          go_simp
          with_reducible rfl
        go_simp
        obtain ⟨xx, xy, xz⟩ := HK4.out
        refine wpAnyH_ready (rs := [11]) (by kernel_rfl) (by simp) ?_
        refine AllReadyH.cons rfl (fun K hK => ?_) AllReadyH.nil
        go_simp
        clear xx xy xz
        replace HB := Lib.hid (show RowAt (w4.setCell ⟨w.heap.size + 1 + 1, 0, none⟩ (.slice va vn vc)) w.heap.size GLL ∧ (w4.setCell ⟨w.heap.size + 1 + 1, 0, none⟩ (.slice va vn vc)).cell? ⟨g, o + k * 2, none⟩ = some (.string db) ∧ (w4.setCell ⟨w.heap.size + 1 + 1, 0, none⟩ (.slice va vn vc)).cell? ⟨g, o + k * 2 + 1, none⟩ = some (.int .i64 dn) from ⟨HB.out.1.other _ (by omega), (set_block w4 (w.heap.size + 1 + 1) g 0 (o + k * 2) (.slice va vn vc) (by have := HGW.out; omega)).trans HB.out.2.1, (set_block w4 (w.heap.size + 1 + 1) g 0 (o + k * 2 + 1) (.slice va vn vc) (by have := HGW.out; omega)).trans HB.out.2.2⟩)
        refine hK.out _ _ HB.out (fun _ => ?_)
        clear hK K
        refine wpAnyH_done (by kernel_rfl) ?_ _
        clear HB HK4 HU3
        generalize w4.setCell ⟨w.heap.size + 1 + 1, 0, none⟩ (.slice va vn vc) = w5 at *
        have hCC := HC.out
        go_wp2
        go_roundw
        case rel => exact ⟨k + 1, by omega, by go_num, _, HU4⟩
        case measure => simp [intOf]; omega
      · go_simp
        obtain ⟨w3, hw3⟩ : ∃ w3, w3 = (wr.alloc (.cells #[.string db, .int .i64 dn, .bool false] 67)).drew := ⟨_, rfl⟩
        have HM := Lib.hid (show EntsAt w3 (some ⟨wr.heap.size, 0, none⟩) 1 [(db, dn, false)] by rw [hw3]; exact (EntsAt.new1 wr wr.heap.size rfl db dn false 67).below ((Below.refl _ _).drew))
        have HB3 := Lib.hid (show Below wr.heap.size wr w3 by rw [hw3]; exact ((Below.refl wr.heap.size wr).alloc (Nat.le_refl _) _).drew)
        rw [← hw3]
        clear hw3 HB
        have HU3 := Lib.hid (HK0.out w3 HB3.out)
        have HB := Lib.hid (show RowAt w3 w.heap.size GLL ∧ w3.cell? ⟨g, o + k * 2, none⟩ = some (.string db) ∧ w3.cell? ⟨g, o + k * 2 + 1, none⟩ = some (.int .i64 dn) from by
          obtain ⟨h1, h2, h3⟩ := HU3.out
          exact ⟨h1.box, h2, h3⟩)
        refine hK.out _ _ HB.out (fun _ => ?_)
        clear hK K
        have xx := HU3.out.1.out.cell
        refine wpAnyH_ready (rs := [1]) (by kernel_rfl) (by simp) ?_
        refine AllReadyH.cons rfl (fun K hK => ?_) AllReadyH.nil
        go_simp
        clear xx
        refine hK.out _ _ HB.out (fun _ => ?_)
        clear hK K
        obtain ⟨v4, w4, hrun, hown, hgr, hwh⟩ := run_append_ents infoE Tryd.underlying68 w3 68 (w.heap.size + 1) (.slice ta tn' tc) LL [(db, dn, false)] HU3.out.1.out.own (some ⟨wr.heap.size, 0, none⟩) 1 HM.out HL.out HU3.out.1.out.bw
        rw [← HNX.out] at hown
        obtain ⟨⟨va, vn, vc, rfl⟩, hk4, hr4, hu4⟩ := HU3.out.1.grown hown hgr hwh
        have HRUN := Lib.hid hrun
        have HU4 := Lib.hid hu4
        have HK4 := Lib.hid hk4
        have hbk : w4.heap[g]? = w3.heap[g]? := hgr.block g (Nat.lt_of_lt_of_le HGW.out HU3.out.1.out.bel.size) (fun e => by have := (HU3.out.1.out.own.ge e.symm).1; have := HGW.out; omega)
        clear HB
        have HB := Lib.hid (show RowAt w4 w.heap.size GLL ∧ w4.cell? ⟨g, o + k * 2, none⟩ = some (.string db) ∧ w4.cell? ⟨g, o + k * 2 + 1, none⟩ = some (.int .i64 dn) from ⟨hr4, (World.cell?_of_block (a := ⟨g, _, none⟩) hbk).trans HU3.out.2.1, (World.cell?_of_block (a := ⟨g, _, none⟩) hbk).trans HU3.out.2.2⟩)
        clear hrun hown hgr hwh hk4 hr4 hu4 hbk
        refine wpAnyH_ready (rs := [9]) (by kernel_rfl) (by simp) ?_
        refine AllReadyH.cons rfl (fun K hK => ?_) AllReadyH.nil
        rw [if_pos (by kernel_rfl)]
        refine wp_append_run (.tmp 24) (.tmp 31) rfl rfl rfl HRUN.out ?_
        go_simp
        refine hK.out _ _ HB.out (fun _ => ?_)
        clear hK K
        refine wpAnyH_take (i := 10) (v := ?_) rfl (by kernel_rfl) (by kernel_rfl) (by kernel_rfl) (fun _ _ _ h => h) (Or.inl ⟨by rfl, ?_⟩) HB.out ?_
        rotate_left
        · intro w' hw'
          go_simp
          with_reducible rfl
        go_simp
        obtain ⟨xx, xy, xz⟩ := HK4.out
        refine wpAnyH_ready (rs := [11]) (by kernel_rfl) (by simp) ?_
        refine AllReadyH.cons rfl (fun K hK => ?_) AllReadyH.nil
        go_simp
        clear xx xy xz
        replace HB := Lib.hid (show RowAt (w4.setCell ⟨w.heap.size + 1 + 1, 0, none⟩ (.slice va vn vc)) w.heap.size GLL ∧ (w4.setCell ⟨w.heap.size + 1 + 1, 0, none⟩ (.slice va vn vc)).cell? ⟨g, o + k * 2, none⟩ = some (.string db) ∧ (w4.setCell ⟨w.heap.size + 1 + 1, 0, none⟩ (.slice va vn vc)).cell? ⟨g, o + k * 2 + 1, none⟩ = some (.int .i64 dn) from ⟨HB.out.1.other _ (by omega), (set_block w4 (w.heap.size + 1 + 1) g 0 (o + k * 2) (.slice va vn vc) (by have := HGW.out; omega)).trans HB.out.2.1, (set_block w4 (w.heap.size + 1 + 1) g 0 (o + k * 2 + 1) (.slice va vn vc) (by have := HGW.out; omega)).trans HB.out.2.2⟩)
        refine hK.out _ _ HB.out (fun _ => ?_)
        clear hK K
        refine wpAnyH_done (by kernel_rfl) ?_ _
        clear HB HK4 HU3
        generalize w4.setCell ⟨w.heap.size + 1 + 1, 0, none⟩ (.slice va vn vc) = w5 at *
        have hCC := HC.out
        go_wp2
        go_roundw
        case rel => exact ⟨k + 1, by omega, by go_num, _, HU4⟩
        case measure => simp [intOf]; omega
    · obtain rfl : k = C.length := by omega
      have dk : decide ((C.length : Int) < (C.length : Int)) = false := decide_eq_false (by omega)
      rw [HTL.out] at HQ
      obtain ⟨va, vc, htv, hEA⟩ := HQ.out.out.own.ents
      have HEA := Lib.hid hEA
      subst htv
      have p0 := HQ.out.out.cell
      have x5 := (HX1.out wr HQ.out.box).2.1
      have x6 := (HX1.out wr HQ.out.box).2.2
      clear hEA
      generalize gramL fb tb fn tn C = L at *
      by_cases hG0 : G = 0
      · have hz : ((G : Int) != 0) = false := by rw [hG0]; rfl
        have HGZ := Lib.hid hG0
        clear hG0
        go_wp2_with (first
          | (go_at_call 22; (with_reducible refine (HWR.out va vc _ (HEA.out.alloc _)).mono ?_); rintro e w6 ⟨rfl, hb⟩; have hb6 := (HQ.out.out.bel.alloc HQ.out.out.bel.size (.cells #[.slice va L.length vc, .int .i64 12, .int .i64 0, .int .i64 0, .bool false, .int .i64 pid, .string t] 73)); have HB6 := Lib.hid (hb6.trans (hb.mono hb6.size)); have HE6 := Lib.hid ((HEA.out.alloc (.cells #[.slice va L.length vc, .int .i64 12, .int .i64 0, .int .i64 0, .bool false, .int .i64 pid, .string t] 73)).below hb); have HF6 := Lib.hid ((RowAt.new wr wr.heap.size rfl [.slice va L.length vc, .int .i64 12, .int .i64 0, .int .i64 0, .bool false, .int .i64 pid, .string t] 73).below hb); clear hb hb6; have f0 := HF6.out.cell 0 rfl; have f1 := HF6.out.cell 1 rfl; have f2 := HF6.out.cell 2 rfl; have f3 := HF6.out.cell 3 rfl; have f4 := HF6.out.cell 4 rfl; have f5 := HF6.out.cell 5 rfl; have f6 := HF6.out.cell 6 rfl)
          | (go_at_call 23; (with_reducible refine (HEN.out va vc _ HE6.out HGZ.out).mono ?_); rintro e w7 ⟨rfl, hb⟩; have HB7 := Lib.hid (HB6.out.trans (hb.mono HB6.out.size)); clear hb))
        exact bodyPost_ret (v := .tuple #[.string S, .int .i64 0]) (by simp [results, Tryd.results9, go_sem]) rfl ⟨by rw [HGZ.out]; rfl, HB7.out⟩
      · have hz : ((G : Int) != 0) = true := by rw [bne_iff_ne]; omega
        have HSE := Lib.hid (HS0.out hG0)
        clear hG0
        go_wp2_with (first
          | (go_at_call 22; (with_reducible refine (HWR.out va vc _ (HEA.out.alloc _)).mono ?_); rintro e w6 ⟨rfl, hb⟩; have hb6 := (HQ.out.out.bel.alloc HQ.out.out.bel.size (.cells #[.slice va L.length vc, .int .i64 12, .int .i64 0, .int .i64 0, .bool false, .int .i64 pid, .string t] 73)); have HB6 := Lib.hid (hb6.trans (hb.mono hb6.size)); clear hb hb6))
        exact bodyPost_ret (v := .tuple #[.string ⟨#[]⟩, .int .i64 (G : Nat)]) (by simp [results, Tryd.results9, go_sem]) rfl ⟨by rw [HSE.out], HB6.out⟩
end Go.Proofs.YtadhiknmkiogjaaDoor
namespace Go.Proofs.YtadhiknmkiogjaaDoor
open Go.RowKit Go.Sort
set_option maxRecDepth 20000
/-- an op: its kind, its number, its datagram -/
structure Op22 where
  k : Int
  N : Int
  fb : ByteArray
  fn : Int
  tb : ByteArray
  tn : Int
  a : Option Addr
  cap : Nat
  C : List (ByteArray × Int)
  pid : Int
  t : ByteArray
abbrev Op22.gv (o : Op22) : Array Value := #[.string o.fb, .int .i64 o.fn, .string o.tb, .int .i64 o.tn, .slice o.a o.C.length o.cap, .int .i64 o.pid, .string o.t]
def encOp : Enc Op22 := ⟨9, by omega, fun o => [.int .i64 o.k, .int .i64 o.N, .string o.fb, .int .i64 o.fn, .string o.tb, .int .i64 o.tn, .slice o.a o.C.length o.cap, .int .i64 o.pid, .string o.t], fun _ => rfl, fun _ u hu => by
  simp only [List.mem_cons, List.not_mem_nil, or_false] at hu
  rcases hu with rfl | rfl | rfl | rfl | rfl | rfl | rfl | rfl | rfl <;> rfl⟩
/-- its digipeaters lie there; its letters are not beyond reach -/
structure Op22.ok (w : World) (o : Op22) : Prop where
  at_ : CallsAt w o.a o.C
  tb : o.tb.size ≤ 140737488351232
  C : ∀ x ∈ o.C, x.1.size ≤ 140737488351232
/-- how many ticks are left, by the document -/
def leftD22 (ev went : Int) : Int := if ev = 0 then 0 else ev - went % ev
theorem emod_next (went ev : Int) (h : 0 < ev) : (went + 1) % ev = if went % ev + 1 = ev then 0 else went % ev + 1 := by
  have h1 := Int.emod_nonneg went (show ev ≠ 0 by omega)
  have h2 := Int.emod_lt_of_pos went h
  have e : went + 1 = (went % ev + 1) + ev * (went / ev) := by have := Int.emod_add_mul_ediv went ev; omega
  rw [e, Int.add_mul_emod_self_left]
  split
  · rename_i h3
    rw [h3, Int.emod_self]
  · exact Int.emod_eq_of_lt (by omega) (by omega)
theorem tick_both (ev went : Int) (h : 0 ≤ ev) : tickB ev (leftD22 ev went) = (decide (ev ≠ 0) && decide ((went + 1) % ev = 0)) ∧ tickL ev (leftD22 ev went) = leftD22 ev (if ev = 0 then went else went + 1) := by
  unfold tickB tickL leftD22
  by_cases h0 : ev = 0
  · simp [h0]
  · have h1 := Int.emod_nonneg went h0
    have h2 := Int.emod_lt_of_pos went (show 0 < ev by omega)
    rw [if_neg h0, if_neg h0, if_neg h0, if_neg h0, decide_eq_true h0, Bool.true_and, Bool.true_and, emod_next went ev (by omega)]
    by_cases h3 : went % ev + 1 = ev
    · rw [if_pos h3, if_neg (by omega)]
      exact ⟨by rw [decide_eq_true (by omega), decide_eq_true rfl], by omega⟩
    · rw [if_neg h3, if_pos (by omega)]
      exact ⟨by rw [decide_eq_false (by omega), decide_eq_false (by omega)], by omega⟩
theorem left_in (ev went : Int) (h : 0 ≤ ev ∧ ev ≤ 10000) : 0 ≤ leftD22 ev went ∧ leftD22 ev went ≤ 10000 := by
  unfold leftD22
  split
  · omega
  · have h1 := Int.emod_nonneg went (show ev ≠ 0 by omega)
    have h2 := Int.emod_lt_of_pos went (show 0 < ev by omega)
    omega
/-- both, and the box of the call -/
structure BeU (w W : World) (p q : Nat) (b : ByteArray) (n ev left went : Int) (s : ByteArray) : Prop where
  box : RowAt W w.heap.size [.string b, .int .i64 n]
  bea : RowAt W p (bcV b n ev left s)
  ref : RowAt W q [.int .i64 ev, .int .i64 went, .string s]
  bel : Below w.heap.size w W
  lt : w.heap.size < p ∧ p < q
section
variable {w W W' : World} {p q : Nat} {b : ByteArray} {n ev left went : Int} {s : ByteArray}
theorem BeU.below (h : BeU w W p q b n ev left went s) (hb : Below W.heap.size W W') : BeU w W' p q b n ev left went s := ⟨h.box.below hb, h.bea.below hb, h.ref.below hb, h.bel.trans (hb.mono h.bel.size), h.lt⟩
theorem BeU.turnP (h : BeU w W p q b n ev left went s) (ht : Turn (fun k => k = p) W W') :
    RowAt W' w.heap.size [.string b, .int .i64 n] ∧ RowAt W' q [.int .i64 ev, .int .i64 went, .string s] ∧ Below w.heap.size w W' :=
  ⟨h.box.turn ht (by have := h.lt; omega), h.ref.turn ht (by have := h.lt; omega), h.bel.trans (ht.below h.bel.size (fun k hk => by have := h.lt; omega))⟩
theorem BeU.turnQ (h : BeU w W p q b n ev left went s) (ht : Turn (fun k => k = q) W W') :
    RowAt W' w.heap.size [.string b, .int .i64 n] ∧ RowAt W' p (bcV b n ev left s) ∧ Below w.heap.size w W' :=
  ⟨h.box.turn ht (by have := h.lt; omega), h.bea.turn ht (by have := h.lt; omega), h.bel.trans (ht.below h.bel.size (fun k hk => by have := h.lt; omega))⟩
theorem BeU.drewN (h : BeU w W p q b n ev left went s) (k : Nat) : BeU w (W.drewN k) p q b n ev left went s := h.below ⟨rfl, rfl, rfl, Nat.le_refl _, fun _ _ => rfl⟩
end
end Go.Proofs.YtadhiknmkiogjaaDoor
