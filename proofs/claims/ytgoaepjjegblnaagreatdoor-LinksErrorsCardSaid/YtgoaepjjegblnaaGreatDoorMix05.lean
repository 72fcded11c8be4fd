/-
The landed code's Via.
Any number of cells in a row, in a block of their own, as a list of what they hold.
-/
import Derived.Test.YtgoaepjjegblnaaGreatDoorMix03
import Derived.Test.YtgoaepjjegblnaaGreatDoorMix04
import Derived.Lib.SmallJoins
import Derived.Lib.ItoaNum
import Derived.Lib.QuietBelow
import Derived.Lib.IndexBytes
import Derived.IntWalk
import Derived.Test.YtgoaepjjegblnaaGreatDoorMix00
namespace Go.Proofs.YtgoaepjjegblnaaGreatDoor
open Go.RowKit Go.Sort
set_option maxRecDepth 20000
/-- calls that lie in a row from a on -/
def CallsAt (w : World) (a : Option Addr) (C : List (ByteArray × Int)) : Prop :=
  ∀ k (h : k < C.length), ∃ g o, a = some ⟨g, o, none⟩ ∧ g < w.heap.size ∧ w.cell? ⟨g, o + k * 2, none⟩ = some (.string C[k].1) ∧ w.cell? ⟨g, o + k * 2 + 1, none⟩ = some (.int .i64 C[k].2)
theorem CallsAt.below {w w' : World} {a : Option Addr} {C : List (ByteArray × Int)} (h : CallsAt w a C) (hb : Below w.heap.size w w') : CallsAt w' a C := fun k hk => by
  obtain ⟨g, o, ha, hg, h0, h1⟩ := h k hk
  exact ⟨g, o, ha, Nat.lt_of_lt_of_le hg hb.size, (hb.cell (p := ⟨g, _, none⟩) hg).trans h0, (hb.cell (p := ⟨g, _, none⟩) hg).trans h1⟩
/-- calls that have sent nothing -/
def freshD (C : List (ByteArray × Int)) : List Ent := C.map fun c => (c.1, c.2, false)
/-- a path's cells, whose last one holds a slice of the call's own; the answer's cells, still empty -/
structure VAt (w W : World) (m r : Nat) (tv t0 t1 t2 t3 t4 t5 : Value) (LL : List Ent) : Prop where
  out : OutAt w W (m + 1) m 6 157 tv LL
  p : P7 W m t0 t1 t2 t3 t4 t5 tv
  res : P7 W r (.string ⟨#[]⟩) (.int .i64 0) (.string ⟨#[]⟩) (.int .i64 0) (.bool false) (.bool false) (.slice none 0 0)
  rm : r < m
theorem VAt.below {w W W' : World} {m r : Nat} {tv t0 t1 t2 t3 t4 t5 : Value} {LL : List Ent} (h : VAt w W m r tv t0 t1 t2 t3 t4 t5 LL) (hb : Below W.heap.size W W') : VAt w W' m r tv t0 t1 t2 t3 t4 t5 LL :=
  ⟨h.out.below hb, h.p.below hb, h.res.below hb, h.rm⟩
theorem VAt.alloc {w W : World} {m r : Nat} {tv t0 t1 t2 t3 t4 t5 : Value} {LL : List Ent} (h : VAt w W m r tv t0 t1 t2 t3 t4 t5 LL) (o : Obj) : VAt w (W.alloc o) m r tv t0 t1 t2 t3 t4 t5 LL := h.below ((Below.refl _ W).alloc (Nat.le_refl _) _)
theorem VAt.drew {w W : World} {m r : Nat} {tv t0 t1 t2 t3 t4 t5 : Value} {LL : List Ent} (h : VAt w W m r tv t0 t1 t2 t3 t4 t5 LL) : VAt w W.drew m r tv t0 t1 t2 t3 t4 t5 LL := ⟨h.out.drew, h.p.drew, h.res.drew, h.rm⟩
theorem VAt.grown {w W w1 : World} {m r : Nat} {tv v' t0 t1 t2 t3 t4 t5 : Value} {LL L' : List Ent} (h : VAt w W m r tv t0 t1 t2 t3 t4 t5 LL) (h1 : OwnE 157 w1 (m + 1) v' L') (hg : W.grownBy w1 tv.ownBlock) (hv : v'.ownBlock = tv.ownBlock ∨ v'.ownBlock = some W.heap.size) :
    (∃ a n c, v' = .slice a n c) ∧ P7 w1 m t0 t1 t2 t3 t4 t5 tv ∧ VAt w (w1.setCell ⟨m, 6, none⟩ v') m r v' t0 t1 t2 t3 t4 t5 L' := by
  obtain ⟨hs, -, -, hz, ho, hk⟩ := h.out.grown h1 hg hv
  have hp := h.p.block (hk m (by omega)) hz
  exact ⟨hs, hp, ho, hp.put6 v', (h.res.block (hk r (by have := h.rm; omega)) hz).other v' (by have := h.rm; omega), h.rm⟩
theorem VAt.start (w w1 : World) (r : Nat) (t0 t1 t2 t3 t4 t5 : Value) (T : TypeId) (hb : Below w.heap.size w w1) (hr : P7 w1 r (.string ⟨#[]⟩) (.int .i64 0) (.string ⟨#[]⟩) (.int .i64 0) (.bool false) (.bool false) (.slice none 0 0)) :
    VAt w (w1.alloc (.cells #[t0, t1, t2, t3, t4, t5, .slice none 0 0] T)) w1.heap.size r (.slice none 0 0) t0 t1 t2 t3 t4 t5 [] := by
  have hp := P7.new w1 w1.heap.size rfl t0 t1 t2 t3 t4 t5 (.slice none 0 0) T
  exact ⟨⟨hp.k6.cell, hp.k6.free, OwnE.nil _ _ _, by simp [Value.ownBlock], hb.alloc hb.size _, by have := hb.size; omega, hb.size, by simp, by simp⟩, hp, hr.alloc _, hr.k0.lt⟩
theorem fresh_next (C : List (ByteArray × Int)) (k : Nat) (h : k < C.length) : freshD (C.take (k + 1)) = freshD (C.take k) ++ [(C[k].1, C[k].2, false)] := by
  unfold freshD
  rw [List.take_succ_eq_append_getElem h, List.map_append]
  rfl
set_option maxHeartbeats 4000000 in
theorem via_own (fb tb : ByteArray) (fn tn : Int) (c : Bool) (a : Option Addr) (cap : Nat) (C : List (ByteArray × Int)) (w : World) (hC : C.length ≤ 1000) (hE : CallsAt w a C)
    (hf : fb.size ≤ 140737488351232) (ht : tb.size ≤ 140737488351232) (hs : ∀ x ∈ C, x.1.size ≤ 140737488351232) :
    Calls Tryz.prog 77 #[.agg #[.string fb, .int .i64 fn], .agg #[.string tb, .int .i64 tn], .bool c, .slice a C.length cap] w fun e w' =>
      (if rightP ((tb, tn, c) :: (fb, fn, !c) :: freshD C) then ∃ da dc, e = .returned (.tuple #[.agg #[.string tb, .int .i64 tn, .string fb, .int .i64 fn, .bool c, .bool (!c), .slice da (freshD C).length dc], .int .i64 0]) ∧ EntsAt w' da dc (freshD C) ∧ ∀ q, da = some q → w.heap.size ≤ q.block ∧ q.block < w'.heap.size
        else e = .returned (.tuple #[.agg #[.string ⟨#[]⟩, .int .i64 0, .string ⟨#[]⟩, .int .i64 0, .bool false, .bool false, .slice none 0 0], .int .i64 11])) ∧ Below w.heap.size w w' := by
  obtain ⟨W0, hW0⟩ : ∃ W0, W0 = (((w.alloc (.cells #[.string fb, .int .i64 fn] 54)).alloc (.cells #[.string tb, .int .i64 tn] 54)).alloc (.cells #[.string ⟨#[]⟩, .int .i64 0, .string ⟨#[]⟩, .int .i64 0, .bool false, .bool false, .slice none 0 0] 57)) := ⟨_, rfl⟩
  have HB0 := Lib.hid (show Below w.heap.size w W0 from by rw [hW0]; exact (((Below.refl _ w).alloc (Nat.le_refl _) _).alloc (by simp) _).alloc (by simp; omega) _)
  have HR0 := Lib.hid (show P7 W0 (w.heap.size + 1 + 1) _ _ _ _ _ _ _ from by rw [hW0]; exact P7.new _ _ (by simp) _ _ _ _ _ _ _ _)
  have HE := Lib.hid hE
  have HS := Lib.hid hs
  have HAH := Lib.hid (fun W => ahead_any fb tb fn tn c W hf ht)
  have HRI := Lib.hid (fun da dc W (h : EntsAt W da dc (freshD C)) => pright_any tb fb tn fn c (!c) da dc (freshD C) W (by simp [freshD]; omega) h)
  have HFL := Lib.hid (show (freshD C).length = C.length from by simp [freshD])
  have HFN := Lib.hid (fresh_next C)
  have HAN := Lib.hid (fun b n W (h : b.size ≤ 140737488351232) => anew_any b n W h)
  have HT0 := Lib.hid (show freshD (C.take 0) = [] from rfl)
  have HTL := Lib.hid (show freshD (C.take C.length) = freshD C from by rw [List.take_length])
  have HTK := Lib.hid (show ∀ k, k ≤ C.length → (freshD (C.take k)).length = k from fun k hk => by simp [freshD]; omega)
  generalize hR : rightP ((tb, tn, c) :: (fb, fn, !c) :: freshD C) = R at *
  generalize hF : freshD C = F at *
  have HF := Lib.hid hF
  clear hE hs hf ht hR hF
  subst hW0
  generalize hnc : (!c) = nc at *
  have HNC := Lib.hid hnc
  clear hnc
  go_enter Tryz.func77, Tryz.ntmps77
  go_wp2_with (go_at_call 127; (with_reducible refine (HAH.out _).mono ?_); rintro e w1 ⟨rfl, hb⟩; have HB := Lib.hid (HB0.out.trans (hb.mono HB0.out.size)); have HR := Lib.hid (HR0.out.below hb); clear hb)
  have HV := Lib.hid (VAt.start w w1 (w.heap.size + 1 + 1) (.string tb) (.int .i64 tn) (.string fb) (.int .i64 fn) (.bool c) (.bool nc) 57 HB.out HR.out)
  generalize (w1.alloc (.cells #[.string tb, .int .i64 tn, .string fb, .int .i64 fn, .bool c, .bool nc, .slice none 0 0] 57)) = w2 at *
  generalize w1.heap.size = m at *
  clear HB HR HB0 HR0
  go_loopw [19] (fun i wx => ∃ k : Nat, k ≤ C.length ∧ i = .int .i64 k ∧ ∃ tv, Hid (VAt w wx m (w.heap.size + 1 + 1) tv (.string tb) (.int .i64 tn) (.string fb) (.int .i64 fn) (.bool c) (.bool nc) (freshD (C.take k)))) (fun i _ => C.length - (intOf i).toNat)
  case atStart => exact ⟨0, by omega, rfl, _, HT0.out ▸ HV.out⟩
  case round =>
    obtain ⟨k, hk, rfl, tv, HQ⟩ := hrel
    clear HV
    by_cases hlt : k < C.length
    · have dk : decide ((k : Int) < (C.length : Int)) = true := decide_eq_true (by omega)
      obtain ⟨g, o, rfl, hg, c0, c1⟩ := HE.out.below HQ.out.out.bel k hlt
      have HN := Lib.hid (HFN.out k hlt)
      have HSK := Lib.hid (HS.out C[k] (List.getElem_mem hlt))
      generalize C[k] = d at *
      obtain ⟨db, dn⟩ := d
      simp only at c0 c1 HN HSK
      have HL := Lib.hid (show (freshD (C.take k)).length + 1 ≤ 100000 from by rw [HTK.out k hk]; omega)
      generalize freshD (C.take k) = LL at *
      have HQ1 := Lib.hid (HQ.out.alloc (.cells #[.string db, .int .i64 dn] 54))
      have HC0 := Lib.hid (show KeepAt (wr.alloc (.cells #[.string db, .int .i64 dn] 54)) wr.heap.size 0 (.string db) ∧ KeepAt (wr.alloc (.cells #[.string db, .int .i64 dn] 54)) wr.heap.size 1 (.int .i64 dn) from ⟨⟨World.cell?_alloc_at _ _ _ _ rfl, World.frozen?_alloc_at _ _ _ _ rfl, by simp⟩, ⟨World.cell?_alloc_at _ _ _ _ rfl, World.frozen?_alloc_at _ _ _ _ rfl, by simp⟩⟩)
      obtain ⟨ta, tn', tc, htv⟩ := HQ.out.out.own.form
      subst htv
      go_wp2
      generalize (wr.alloc (.cells #[.string db, .int .i64 dn] 54)) = W at *
      generalize wr.heap.size = ne at *
      have HQ2 := Lib.hid HQ1.out.drew
      have e0 := HC0.out.1.drew.cell
      have e1 := HC0.out.2.drew.cell
      clear HQ HQ1 HC0 c0 c1 hg
      refine wp_region_any (by kernel_rfl) ?_
      try (change wpAny _ _ _ _ _ _ _ (World.drew _))
      generalize W.drew = Y at *
      have y6 := HQ2.out.p.k6.cell
      refine wpAny_take (i := 0) (v := ?_) rfl (by kernel_rfl) (by kernel_rfl) (by kernel_rfl) (fun _ _ _ h => h) (Or.inl ⟨by rfl, ?_⟩) ?_
      rotate_left
      · intro w; go_simp; with_reducible rfl
      refine wpAny_ready (rs := [1, 2]) (by kernel_rfl) (by simp) ?_
      refine AllReady.cons rfl (fun K hK => ?_) (AllReady.cons rfl (fun K hK => ?_) AllReady.nil)
      · go_simp
        refine hK _ _ ?_
        clear hK K
        refine wpAny_ready (rs := [2]) (by kernel_rfl) (by simp) ?_
        refine AllReady.cons rfl (fun K hK => ?_) AllReady.nil
        go_simp
        refine hK _ _ ?_
        clear hK K
        refine wpAny_ready (rs := [3]) (by kernel_rfl) (by simp) ?_
        refine AllReady.cons rfl (fun K hK => ?_) AllReady.nil
        go_simp
        go_at_call 128
        refine (HAN.out db dn _ HSK.out).mono ?_
        rintro e w3 ⟨rfl, hb⟩
        have HQ3 := Lib.hid (HQ2.out.below hb)
        have y6' := HQ3.out.p.k6.cell
        change K _ _
        refine hK _ _ ?_
        clear hK K hb
        refine wpAny_take (i := 4) (v := ?_) rfl (by kernel_rfl) (by kernel_rfl) (by kernel_rfl) (fun _ _ _ h => h) (Or.inl ⟨by rfl, ?_⟩) ?_
        rotate_left
        · intro w; go_simp; with_reducible rfl
        refine wpAny_ready (rs := [5]) (by kernel_rfl) (by simp) ?_
        refine AllReady.cons rfl (fun K hK => ?_) AllReady.nil
        go_simp
        refine hK _ _ ?_
        clear hK K
        have HQ4 := Lib.hid (HQ3.out.alloc (.cells #[.string db, .int .i64 dn, .bool false] 157))
        have HN4 := Lib.hid (EntsAt.new1 w3 w3.heap.size rfl db dn false 157)
        have HGR := Lib.hid (fun w1 v' => HQ4.out.grown (w1 := w1) (v' := v') (L' := LL ++ [(db, dn, false)]))
        refine wpAny_ready (rs := [6]) (by kernel_rfl) (by simp) ?_
        refine AllReady.cons rfl (fun K hK => ?_) AllReady.nil
        rw [if_pos (by kernel_rfl)]
        unfold Oper.wp
        refine wp_append_ents infoD Tryz.underlying55 _ (.tmp 24) (.tmp 28) rfl (m + 1) (.slice ta tn' tc) LL [(db, dn, false)] rfl HQ4.out.out.own (some ⟨w3.heap.size, 0, none⟩) 1 rfl HN4.out HL.out HQ4.out.out.bw ?_
        intro v' w4 hown hgr hov
        obtain ⟨⟨va, vn, vc, rfl⟩, hp4, hv4⟩ := HGR.out w4 v' hown hgr hov
        have HQ5 := Lib.hid hv4
        obtain ⟨z6, zf, zl⟩ := hp4.k6
        clear hown hgr hov hp4 hv4 HGR HN4 HQ4 HQ3 HQ2
        go_simp
        refine hK _ _ ?_
        clear hK K
        refine wpAny_ready (rs := [7]) (by kernel_rfl) (by simp) ?_
        refine AllReady.cons rfl (fun K hK => ?_) AllReady.nil
        go_simp
        refine hK _ _ ?_
        clear hK K
        refine wpAny_ready (rs := [8]) (by kernel_rfl) (by simp) ?_
        refine AllReady.cons rfl (fun K hK => ?_) AllReady.nil
        go_simp
        refine hK _ _ ?_
        clear hK K
        refine wpAny_done (by kernel_rfl) ?_ _
        clear y6 y6' e0 e1 z6 zf zl
        generalize w4.setCell ⟨m, 6, none⟩ (.slice va vn vc) = w5 at *
        go_wp2
        go_roundw
        case rel => exact ⟨k + 1, by omega, by go_num, _, HN.out ▸ HQ5.out⟩
        case measure => simp [intOf]; omega
      · go_simp
        refine hK _ _ ?_
        clear hK K
        refine wpAny_ready (rs := [1, 3]) (by kernel_rfl) (by simp) ?_
        refine AllReady.cons rfl (fun K hK => ?_) (AllReady.cons rfl (fun K hK => ?_) AllReady.nil)
        · go_simp
          refine hK _ _ ?_
          clear hK K
          refine wpAny_ready (rs := [3]) (by kernel_rfl) (by simp) ?_
          refine AllReady.cons rfl (fun K hK => ?_) AllReady.nil
          go_simp
          go_at_call 128
          refine (HAN.out db dn _ HSK.out).mono ?_
          rintro e w3 ⟨rfl, hb⟩
          have HQ3 := Lib.hid (HQ2.out.below hb)
          have y6' := HQ3.out.p.k6.cell
          change K _ _
          refine hK _ _ ?_
          clear hK K hb
          refine wpAny_take (i := 4) (v := ?_) rfl (by kernel_rfl) (by kernel_rfl) (by kernel_rfl) (fun _ _ _ h => h) (Or.inl ⟨by rfl, ?_⟩) ?_
          rotate_left
          · intro w; go_simp; with_reducible rfl
          refine wpAny_ready (rs := [5]) (by kernel_rfl) (by simp) ?_
          refine AllReady.cons rfl (fun K hK => ?_) AllReady.nil
          go_simp
          refine hK _ _ ?_
          clear hK K
          have HQ4 := Lib.hid (HQ3.out.alloc (.cells #[.string db, .int .i64 dn, .bool false] 157))
          have HN4 := Lib.hid (EntsAt.new1 w3 w3.heap.size rfl db dn false 157)
          have HGR := Lib.hid (fun w1 v' => HQ4.out.grown (w1 := w1) (v' := v') (L' := LL ++ [(db, dn, false)]))
          refine wpAny_ready (rs := [6]) (by kernel_rfl) (by simp) ?_
          refine AllReady.cons rfl (fun K hK => ?_) AllReady.nil
          rw [if_pos (by kernel_rfl)]
          unfold Oper.wp
          refine wp_append_ents infoD Tryz.underlying55 _ (.tmp 24) (.tmp 28) rfl (m + 1) (.slice ta tn' tc) LL [(db, dn, false)] rfl HQ4.out.out.own (some ⟨w3.heap.size, 0, none⟩) 1 rfl HN4.out HL.out HQ4.out.out.bw ?_
          intro v' w4 hown hgr hov
          obtain ⟨⟨va, vn, vc, rfl⟩, hp4, hv4⟩ := HGR.out w4 v' hown hgr hov
          have HQ5 := Lib.hid hv4
          obtain ⟨z6, zf, zl⟩ := hp4.k6
          clear hown hgr hov hp4 hv4 HGR HN4 HQ4 HQ3 HQ2
          go_simp
          refine hK _ _ ?_
          clear hK K
          refine wpAny_ready (rs := [7]) (by kernel_rfl) (by simp) ?_
          refine AllReady.cons rfl (fun K hK => ?_) AllReady.nil
          go_simp
          refine hK _ _ ?_
          clear hK K
          refine wpAny_ready (rs := [8]) (by kernel_rfl) (by simp) ?_
          refine AllReady.cons rfl (fun K hK => ?_) AllReady.nil
          go_simp
          refine hK _ _ ?_
          clear hK K
          refine wpAny_done (by kernel_rfl) ?_ _
          clear y6 y6' e0 e1 z6 zf zl
          generalize w4.setCell ⟨m, 6, none⟩ (.slice va vn vc) = w5 at *
          go_wp2
          go_roundw
          case rel => exact ⟨k + 1, by omega, by go_num, _, HN.out ▸ HQ5.out⟩
          case measure => simp [intOf]; omega
        · go_simp
          go_at_call 128
          refine (HAN.out db dn _ HSK.out).mono ?_
          rintro e w3 ⟨rfl, hb⟩
          have HQ3 := Lib.hid (HQ2.out.below hb)
          have y6' := HQ3.out.p.k6.cell
          change K _ _
          refine hK _ _ ?_
          clear hK K hb
          refine wpAny_take (i := 4) (v := ?_) rfl (by kernel_rfl) (by kernel_rfl) (by kernel_rfl) (fun _ _ _ h => h) (Or.inl ⟨by rfl, ?_⟩) ?_
          rotate_left
          · intro w; go_simp; with_reducible rfl
          refine wpAny_ready (rs := [1, 5]) (by kernel_rfl) (by simp) ?_
          refine AllReady.cons rfl (fun K hK => ?_) (AllReady.cons rfl (fun K hK => ?_) AllReady.nil)
          · go_simp
            refine hK _ _ ?_
            clear hK K
            refine wpAny_ready (rs := [5]) (by kernel_rfl) (by simp) ?_
            refine AllReady.cons rfl (fun K hK => ?_) AllReady.nil
            go_simp
            refine hK _ _ ?_
            clear hK K
            have HQ4 := Lib.hid (HQ3.out.alloc (.cells #[.string db, .int .i64 dn, .bool false] 157))
            have HN4 := Lib.hid (EntsAt.new1 w3 w3.heap.size rfl db dn false 157)
            have HGR := Lib.hid (fun w1 v' => HQ4.out.grown (w1 := w1) (v' := v') (L' := LL ++ [(db, dn, false)]))
            refine wpAny_ready (rs := [6]) (by kernel_rfl) (by simp) ?_
            refine AllReady.cons rfl (fun K hK => ?_) AllReady.nil
            rw [if_pos (by kernel_rfl)]
            unfold Oper.wp
            refine wp_append_ents infoD Tryz.underlying55 _ (.tmp 24) (.tmp 28) rfl (m + 1) (.slice ta tn' tc) LL [(db, dn, false)] rfl HQ4.out.out.own (some ⟨w3.heap.size, 0, none⟩) 1 rfl HN4.out HL.out HQ4.out.out.bw ?_
            intro v' w4 hown hgr hov
            obtain ⟨⟨va, vn, vc, rfl⟩, hp4, hv4⟩ := HGR.out w4 v' hown hgr hov
            have HQ5 := Lib.hid hv4
            obtain ⟨z6, zf, zl⟩ := hp4.k6
            clear hown hgr hov hp4 hv4 HGR HN4 HQ4 HQ3 HQ2
            go_simp
            refine hK _ _ ?_
            clear hK K
            refine wpAny_ready (rs := [7]) (by kernel_rfl) (by simp) ?_
            refine AllReady.cons rfl (fun K hK => ?_) AllReady.nil
            go_simp
            refine hK _ _ ?_
            clear hK K
            refine wpAny_ready (rs := [8]) (by kernel_rfl) (by simp) ?_
            refine AllReady.cons rfl (fun K hK => ?_) AllReady.nil
            go_simp
            refine hK _ _ ?_
            clear hK K
            refine wpAny_done (by kernel_rfl) ?_ _
            clear y6 y6' e0 e1 z6 zf zl
            generalize w4.setCell ⟨m, 6, none⟩ (.slice va vn vc) = w5 at *
            go_wp2
            go_roundw
            case rel => exact ⟨k + 1, by omega, by go_num, _, HN.out ▸ HQ5.out⟩
            case measure => simp [intOf]; omega
          · go_simp
            refine hK _ _ ?_
            clear hK K
            have y7 := (HQ3.out.alloc (.cells #[.string db, .int .i64 dn, .bool false] 157)).p.k6.cell
            refine wpAny_ready (rs := [1]) (by kernel_rfl) (by simp) ?_
            refine AllReady.cons rfl (fun K hK => ?_) AllReady.nil
            go_simp
            refine hK _ _ ?_
            clear hK K
            clear y7
            have HQ4 := Lib.hid (HQ3.out.alloc (.cells #[.string db, .int .i64 dn, .bool false] 157))
            have HN4 := Lib.hid (EntsAt.new1 w3 w3.heap.size rfl db dn false 157)
            have HGR := Lib.hid (fun w1 v' => HQ4.out.grown (w1 := w1) (v' := v') (L' := LL ++ [(db, dn, false)]))
            refine wpAny_ready (rs := [6]) (by kernel_rfl) (by simp) ?_
            refine AllReady.cons rfl (fun K hK => ?_) AllReady.nil
            rw [if_pos (by kernel_rfl)]
            unfold Oper.wp
            refine wp_append_ents infoD Tryz.underlying55 _ (.tmp 24) (.tmp 28) rfl (m + 1) (.slice ta tn' tc) LL [(db, dn, false)] rfl HQ4.out.out.own (some ⟨w3.heap.size, 0, none⟩) 1 rfl HN4.out HL.out HQ4.out.out.bw ?_
            intro v' w4 hown hgr hov
            obtain ⟨⟨va, vn, vc, rfl⟩, hp4, hv4⟩ := HGR.out w4 v' hown hgr hov
            have HQ5 := Lib.hid hv4
            obtain ⟨z6, zf, zl⟩ := hp4.k6
            clear hown hgr hov hp4 hv4 HGR HN4 HQ4 HQ3 HQ2
            go_simp
            refine hK _ _ ?_
            clear hK K
            refine wpAny_ready (rs := [7]) (by kernel_rfl) (by simp) ?_
            refine AllReady.cons rfl (fun K hK => ?_) AllReady.nil
            go_simp
            refine hK _ _ ?_
            clear hK K
            refine wpAny_ready (rs := [8]) (by kernel_rfl) (by simp) ?_
            refine AllReady.cons rfl (fun K hK => ?_) AllReady.nil
            go_simp
            refine hK _ _ ?_
            clear hK K
            refine wpAny_done (by kernel_rfl) ?_ _
            clear y6 y6' e0 e1 z6 zf zl
            generalize w4.setCell ⟨m, 6, none⟩ (.slice va vn vc) = w5 at *
            go_wp2
            go_roundw
            case rel => exact ⟨k + 1, by omega, by go_num, _, HN.out ▸ HQ5.out⟩
            case measure => simp [intOf]; omega
    · obtain rfl : k = C.length := by omega
      have dk : decide ((C.length : Int) < (C.length : Int)) = false := decide_eq_false (by omega)
      rw [HTL.out] at HQ
      obtain ⟨ea, ec, htv, hEA⟩ := HQ.out.out.own.ents
      have HEA := Lib.hid hEA
      subst htv
      obtain ⟨⟨p0, q0, pl⟩, ⟨p1, q1, -⟩, ⟨p2, q2, -⟩, ⟨p3, q3, -⟩, ⟨p4, q4, -⟩, ⟨p5, q5, -⟩, ⟨p6, q6, -⟩⟩ := HQ.out.p
      clear hEA
      have HRR := Lib.hid (HRI.out ea ec wr HEA.out)
      cases R
      · go_wp2_with (go_at_call 64; (with_reducible refine HRR.out.mono ?_); rintro e w6 ⟨rfl, hb⟩; have HQ6 := Lib.hid (HQ.out.below hb); clear hb p0 q0 pl p1 q1 p2 q2 p3 q3 p4 q4 p5 q5 p6 q6; obtain ⟨⟨r0, s0, rl⟩, ⟨r1, s1, -⟩, ⟨r2, s2, -⟩, ⟨r3, s3, -⟩, ⟨r4, s4, -⟩, ⟨r5, s5, -⟩, ⟨r6, s6, -⟩⟩ := HQ6.out.res)
        have S7 := stored7 (m := w.heap.size + 1 + 1) (.string ⟨#[]⟩) (.int .i64 0) (.string ⟨#[]⟩) (.int .i64 0) (.bool false) (.bool false) (.slice none 0 0) HQ6.out.res
        exact bodyPost_ret (v := .tuple #[.agg #[.string ⟨#[]⟩, .int .i64 0, .string ⟨#[]⟩, .int .i64 0, .bool false, .bool false, .slice none 0 0], .int .i64 11]) (by simp [results, Tryz.results77, go_sem, S7.k0.cell, S7.k1.cell, S7.k2.cell, S7.k3.cell, S7.k4.cell, S7.k5.cell, S7.k6.cell]) rfl ⟨rfl, set7_below (m := w.heap.size + 1 + 1) HQ6.out.out.bel (by omega) _ _ _ _ _ _ _⟩
      · go_wp2_with (go_at_call 64; (with_reducible refine HRR.out.mono ?_); rintro e w6 ⟨rfl, hb⟩; have HQ6 := Lib.hid (HQ.out.below hb); have HE6 := Lib.hid (HEA.out.below hb); clear hb p0 q0 pl p1 q1 p2 q2 p3 q3 p4 q4 p5 q5 p6 q6; obtain ⟨⟨p0, q0, pl⟩, ⟨p1, q1, -⟩, ⟨p2, q2, -⟩, ⟨p3, q3, -⟩, ⟨p4, q4, -⟩, ⟨p5, q5, -⟩, ⟨p6, q6, -⟩⟩ := HQ6.out.p; obtain ⟨⟨r0, s0, rl⟩, ⟨r1, s1, -⟩, ⟨r2, s2, -⟩, ⟨r3, s3, -⟩, ⟨r4, s4, -⟩, ⟨r5, s5, -⟩, ⟨r6, s6, -⟩⟩ := HQ6.out.res)
        have S7 := stored7 (m := w.heap.size + 1 + 1) (.string tb) (.int .i64 tn) (.string fb) (.int .i64 fn) (.bool c) (.bool nc) (.slice ea F.length ec) HQ6.out.res
        have HW := Lib.hid (own7 (B := m + 1) (m := w.heap.size + 1 + 1) HQ6.out.out.own (by have := HQ6.out.rm; omega) (.string tb) (.int .i64 tn) (.string fb) (.int .i64 fn) (.bool c) (.bool nc) (.slice ea F.length ec))
        exact bodyPost_ret (v := .tuple #[.agg #[.string tb, .int .i64 tn, .string fb, .int .i64 fn, .bool c, .bool nc, .slice ea F.length ec], .int .i64 0]) (by simp [results, Tryz.results77, go_sem, S7.k0.cell, S7.k1.cell, S7.k2.cell, S7.k3.cell, S7.k4.cell, S7.k5.cell, S7.k6.cell]) rfl ⟨⟨ea, ec, rfl, ents_of_own HW.out, fun q hq => by have h1 := HW.out.ge (g := q.block) (by rw [hq]; rfl); have h2 := HQ6.out.out.ge; exact ⟨by omega, h1.2⟩⟩, set7_below (m := w.heap.size + 1 + 1) HQ6.out.out.bel (by omega) _ _ _ _ _ _ _⟩
end Go.Proofs.YtgoaepjjegblnaaGreatDoor
namespace Go.Proofs.YtgoaepjjegblnaaGreatDoor
set_option maxRecDepth 20000
open Go.RowKit
def RowAt (W : World) (m : Nat) (L : List Value) : Prop := ∀ i v, L[i]? = some v → KeepAt W m i v
theorem RowAt.new (w : World) (m : Nat) (hm : m = w.heap.size) (L : List Value) (T : TypeId) : RowAt (w.alloc (.cells L.toArray T)) m L := by
  subst hm
  intro i v h
  exact ⟨(World.cell?_alloc_at _ _ _ _ rfl).trans (by simpa using h), World.frozen?_alloc_at _ _ _ _ rfl, by simp⟩
theorem RowAt.get {W : World} {m : Nat} {L : List Value} (h : RowAt W m L) (i : Nat) {v : Value} (e : L[i]? = some v) : KeepAt W m i v := h i v e
theorem RowAt.cell {W : World} {m : Nat} {L : List Value} (h : RowAt W m L) (i : Nat) {v : Value} (e : L[i]? = some v) : W.cell? ⟨m, i, none⟩ = some v := (h i v e).cell
theorem RowAt.block {W W' : World} {m : Nat} {L : List Value} (h : RowAt W m L) (hb : W'.heap[m]? = W.heap[m]?) (hs : W.heap.size ≤ W'.heap.size) : RowAt W' m L := fun i v e => (h i v e).block hb hs
theorem RowAt.below {W W' : World} {m : Nat} {L : List Value} (h : RowAt W m L) (hb : Below W.heap.size W W') : RowAt W' m L := fun i v e => (h i v e).below hb
theorem RowAt.drew {W : World} {m : Nat} {L : List Value} (h : RowAt W m L) : RowAt W.drew m L := fun i v e => (h i v e).drew
theorem RowAt.alloc {W : World} {m : Nat} {L : List Value} (h : RowAt W m L) (x : Obj) : RowAt (W.alloc x) m L := fun i v e => (h i v e).alloc x
theorem RowAt.other {W : World} {m g p : Nat} {L : List Value} (h : RowAt W m L) (v : Value) (hg : g ≠ m) : RowAt (W.setCell ⟨g, p, none⟩ v) m L := fun i u e => (h i u e).other v hg
theorem RowAt.put {W : World} {m : Nat} {L : List Value} (h : RowAt W m L) (p : Nat) (v : Value) (L' : List Value) (e : L' = L.set p v) : RowAt (W.setCell ⟨m, p, none⟩ v) m L' := by
  subst e
  intro i u e
  rw [List.getElem?_set] at e
  by_cases hp : p = i
  · subst hp
    by_cases hl : p < L.length
    · rw [if_pos rfl, if_pos hl] at e
      obtain rfl := Option.some.inj e
      exact (h p L[p] (List.getElem?_eq_getElem hl)).put _
    · rw [if_pos rfl, if_neg hl] at e
      cases e
  · rw [if_neg hp] at e
    exact (h i u e).set v hp
end Go.Proofs.YtgoaepjjegblnaaGreatDoor
