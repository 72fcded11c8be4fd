/-
The landed code's Via.
Datagrams as plain facts: what Put answers, what Get reads.
-/
import Derived.Test.YtadhiknmkiogjaaDoorMix10
import Derived.Test.YtadhiknmkiogjaaDoorPathCAnew
import Derived.Lib.SmallJoins
import Derived.Lib.ItoaNum
import Derived.Lib.QuietBelow
import Derived.Lib.IndexBytes
import Derived.IntWalk
import Derived.Test.YtadhiknmkiogjaaDoorMix13
import Derived.Test.YtadhiknmkiogjaaDoorFrmCDecX
namespace Go.Proofs.YtadhiknmkiogjaaDoor
open Go.RowKit Go.Sort
set_option maxRecDepth 20000
/-- calls that lie in a row from a on -/
def CallsAt (w : World) (a : Option Addr) (C : List (ByteArray × Int)) : Prop :=
  ∀ k (h : k < C.length), ∃ g o, a = some ⟨g, o, none⟩ ∧ g < w.heap.size ∧ w.cell? ⟨g, o + k * 2, none⟩ = some (.string C[k].1) ∧ w.cell? ⟨g, o + k * 2 + 1, none⟩ = some (.int .i64 C[k].2)
theorem CallsAt.below {w w' : World} {a : Option Addr} {C : List (ByteArray × Int)} (h : CallsAt w a C) (hb : Below w.heap.size w w') : CallsAt w' a C := fun k hk => by
  obtain ⟨g, o, ha, hg, h0, h1⟩ := h k hk
  exact ⟨g, o, ha, Nat.lt_of_lt_of_le hg hb.size, (hb.cell (p := ⟨g, _, none⟩) hg).trans h0, (hb.cell (p := ⟨g, _, none⟩) hg).trans h1⟩
/-- calls that have sent nothing -/
def freshD (C : List (ByteArray × Int)) : List Ent := C.map fun c => (c.1, c.2, false)
/-- a path's cells, whose last one holds a slice of the call's own; the answer's cells, still empty -/
structure VAt (w W : World) (m r : Nat) (tv t0 t1 t2 t3 t4 t5 : Value) (LL : List Ent) : Prop where
  out : OutAt w W (m + 1) m 6 79 tv LL
  p : P7 W m t0 t1 t2 t3 t4 t5 tv
  res : P7 W r (.string ⟨#[]⟩) (.int .i64 0) (.string ⟨#[]⟩) (.int .i64 0) (.bool false) (.bool false) (.slice none 0 0)
  rm : r < m
theorem VAt.below {w W W' : World} {m r : Nat} {tv t0 t1 t2 t3 t4 t5 : Value} {LL : List Ent} (h : VAt w W m r tv t0 t1 t2 t3 t4 t5 LL) (hb : Below W.heap.size W W') : VAt w W' m r tv t0 t1 t2 t3 t4 t5 LL :=
  ⟨h.out.below hb, h.p.below hb, h.res.below hb, h.rm⟩
theorem VAt.alloc {w W : World} {m r : Nat} {tv t0 t1 t2 t3 t4 t5 : Value} {LL : List Ent} (h : VAt w W m r tv t0 t1 t2 t3 t4 t5 LL) (o : Obj) : VAt w (W.alloc o) m r tv t0 t1 t2 t3 t4 t5 LL := h.below ((Below.refl _ W).alloc (Nat.le_refl _) _)
theorem VAt.drew {w W : World} {m r : Nat} {tv t0 t1 t2 t3 t4 t5 : Value} {LL : List Ent} (h : VAt w W m r tv t0 t1 t2 t3 t4 t5 LL) : VAt w W.drew m r tv t0 t1 t2 t3 t4 t5 LL := ⟨h.out.drew, h.p.drew, h.res.drew, h.rm⟩
theorem VAt.grown {w W w1 : World} {m r : Nat} {tv v' t0 t1 t2 t3 t4 t5 : Value} {LL L' : List Ent} (h : VAt w W m r tv t0 t1 t2 t3 t4 t5 LL) (h1 : OwnE 79 w1 (m + 1) v' L') (hg : W.grownBy w1 tv.ownBlock) (hv : v'.ownBlock = tv.ownBlock ∨ v'.ownBlock = some W.heap.size) :
    (∃ a n c, v' = .slice a n c) ∧ P7 w1 m t0 t1 t2 t3 t4 t5 tv ∧ VAt w (w1.setCell ⟨m, 6, none⟩ v') m r v' t0 t1 t2 t3 t4 t5 L' := by
  obtain ⟨hs, -, -, hz, ho, hk⟩ := h.out.grown h1 hg hv
  have hp := h.p.block (hk m (by omega)) hz
  exact ⟨hs, hp, ho, hp.put6 v', (h.res.block (hk r (by have := h.rm; omega)) hz).other v' (by have := h.rm; omega), h.rm⟩
theorem VAt.start (w w1 : World) (r : Nat) (t0 t1 t2 t3 t4 t5 : Value) (T : TypeId) (hb : Below w.heap.size w w1) (hr : P7 w1 r (.string ⟨#[]⟩) (.int .i64 0) (.string ⟨#[]⟩) (.int .i64 0) (.bool false) (.bool false) (.slice none 0 0)) :
    VAt w (w1.alloc (.cells #[t0, t1, t2, t3, t4, t5, .slice none 0 0] T)) w1.heap.size r (.slice none 0 0) t0 t1 t2 t3 t4 t5 [] := by
  have hp := P7.new w1 w1.heap.size rfl t0 t1 t2 t3 t4 t5 (.slice none 0 0) T
  exact ⟨⟨hp.k6.cell, hp.k6.free, OwnE.nil _ _ _, by simp [Value.ownBlock], hb.alloc hb.size _, by have := hb.size; omega, hb.size, by simp, by simp⟩, hp, hr.alloc _, hr.k0.lt⟩
theorem fresh_next (C : List (ByteArray × Int)) (k : Nat) (h : k < C.length) : freshD (C.take (k + 1)) = freshD (C.take k) ++ [(C[k].1, C[k].2, false)] := by
  unfold freshD
  rw [List.take_succ_eq_append_getElem h, List.map_append]
  rfl
set_option maxHeartbeats 4000000 in
theorem via_own (fb tb : ByteArray) (fn tn : Int) (c : Bool) (a : Option Addr) (cap : Nat) (C : List (ByteArray × Int)) (w : World) (hC : C.length ≤ 1000) (hE : CallsAt w a C)
    (hf : fb.size ≤ 140737488351232) (ht : tb.size ≤ 140737488351232) (hs : ∀ x ∈ C, x.1.size ≤ 140737488351232) :
    Calls Tryd.prog 20 #[.agg #[.string fb, .int .i64 fn], .agg #[.string tb, .int .i64 tn], .bool c, .slice a C.length cap] w fun e w' =>
      (if rightP ((tb, tn, c) :: (fb, fn, !c) :: freshD C) then ∃ da dc, e = .returned (.tuple #[.agg #[.string tb, .int .i64 tn, .string fb, .int .i64 fn, .bool c, .bool (!c), .slice da (freshD C).length dc], .int .i64 0]) ∧ EntsAt w' da dc (freshD C) ∧ ∀ q, da = some q → w.heap.size ≤ q.block ∧ q.block < w'.heap.size
        else e = .returned (.tuple #[.agg #[.string ⟨#[]⟩, .int .i64 0, .string ⟨#[]⟩, .int .i64 0, .bool false, .bool false, .slice none 0 0], .int .i64 11])) ∧ Below w.heap.size w w' := by
  obtain ⟨W0, hW0⟩ : ∃ W0, W0 = (((w.alloc (.cells #[.string fb, .int .i64 fn] 23)).alloc (.cells #[.string tb, .int .i64 tn] 23)).alloc (.cells #[.string ⟨#[]⟩, .int .i64 0, .string ⟨#[]⟩, .int .i64 0, .bool false, .bool false, .slice none 0 0] 58)) := ⟨_, rfl⟩
  have HB0 := Lib.hid (show Below w.heap.size w W0 from by rw [hW0]; exact (((Below.refl _ w).alloc (Nat.le_refl _) _).alloc (by simp) _).alloc (by simp; omega) _)
  have HR0 := Lib.hid (show P7 W0 (w.heap.size + 1 + 1) _ _ _ _ _ _ _ from by rw [hW0]; exact P7.new _ _ (by simp) _ _ _ _ _ _ _ _)
  have HE := Lib.hid hE
  have HS := Lib.hid hs
  have HAH := Lib.hid (fun W => ahead_any fb tb fn tn c W hf ht)
  have HRI := Lib.hid (fun da dc W (h : EntsAt W da dc (freshD C)) => pright_any tb fb tn fn c (!c) da dc (freshD C) W (by simp [freshD]; omega) h)
  have HFL := Lib.hid (show (freshD C).length = C.length from by simp [freshD])
  have HFN := Lib.hid (fresh_next C)
  have HAN := Lib.hid (fun b n W (h : b.size ≤ 140737488351232) => anew_any b n W h)
  have HT0 := Lib.hid (show freshD (C.take 0) = [] from rfl)
  have HTL := Lib.hid (show freshD (C.take C.length) = freshD C from by rw [List.take_length])
  have HTK := Lib.hid (show ∀ k, k ≤ C.length → (freshD (C.take k)).length = k from fun k hk => by simp [freshD]; omega)
  generalize hR : rightP ((tb, tn, c) :: (fb, fn, !c) :: freshD C) = R at *
  generalize hF : freshD C = F at *
  have HF := Lib.hid hF
  clear hE hs hf ht hR hF
  subst hW0
  generalize hnc : (!c) = nc at *
  have HNC := Lib.hid hnc
  clear hnc
  go_enter Tryd.func20, Tryd.ntmps20
  go_wp2_with (go_at_call 28; (with_reducible refine (HAH.out _).mono ?_); rintro e w1 ⟨rfl, hb⟩; have HB := Lib.hid (HB0.out.trans (hb.mono HB0.out.size)); have HR := Lib.hid (HR0.out.below hb); clear hb)
  have HV := Lib.hid (VAt.start w w1 (w.heap.size + 1 + 1) (.string tb) (.int .i64 tn) (.string fb) (.int .i64 fn) (.bool c) (.bool nc) 58 HB.out HR.out)
  generalize (w1.alloc (.cells #[.string tb, .int .i64 tn, .string fb, .int .i64 fn, .bool c, .bool nc, .slice none 0 0] 58)) = w2 at *
  generalize w1.heap.size = m at *
  clear HB HR HB0 HR0
  go_loopw [19] (fun i wx => ∃ k : Nat, k ≤ C.length ∧ i = .int .i64 k ∧ ∃ tv, Hid (VAt w wx m (w.heap.size + 1 + 1) tv (.string tb) (.int .i64 tn) (.string fb) (.int .i64 fn) (.bool c) (.bool nc) (freshD (C.take k)))) (fun i _ => C.length - (intOf i).toNat)
  case atStart => exact ⟨0, by omega, rfl, _, HT0.out ▸ HV.out⟩
  case round =>
    obtain ⟨k, hk, rfl, tv, HQ⟩ := hrel
    clear HV
    by_cases hlt : k < C.length
    · have dk : decide ((k : Int) < (C.length : Int)) = true := decide_eq_true (by omega)
      obtain ⟨g, o, rfl, hg, c0, c1⟩ := HE.out.below HQ.out.out.bel k hlt
      have HN := Lib.hid (HFN.out k hlt)
      have HSK := Lib.hid (HS.out C[k] (List.getElem_mem hlt))
      generalize C[k] = d at *
      obtain ⟨db, dn⟩ := d
      simp only at c0 c1 HN HSK
      have HL := Lib.hid (show (freshD (C.take k)).length + 1 ≤ 100000 from by rw [HTK.out k hk]; omega)
      generalize freshD (C.take k) = LL at *
      have HQ1 := Lib.hid (HQ.out.alloc (.cells #[.string db, .int .i64 dn] 23))
      have HC0 := Lib.hid (show KeepAt (wr.alloc (.cells #[.string db, .int .i64 dn] 23)) wr.heap.size 0 (.string db) ∧ KeepAt (wr.alloc (.cells #[.string db, .int .i64 dn] 23)) wr.heap.size 1 (.int .i64 dn) from ⟨⟨World.cell?_alloc_at _ _ _ _ rfl, World.frozen?_alloc_at _ _ _ _ rfl, by simp⟩, ⟨World.cell?_alloc_at _ _ _ _ rfl, World.frozen?_alloc_at _ _ _ _ rfl, by simp⟩⟩)
      obtain ⟨ta, tn', tc, htv⟩ := HQ.out.out.own.form
      subst htv
      go_wp2
      generalize (wr.alloc (.cells #[.string db, .int .i64 dn] 23)) = W at *
      generalize wr.heap.size = ne at *
      have HQ2 := Lib.hid HQ1.out.drew
      have e0 := HC0.out.1.drew.cell
      have e1 := HC0.out.2.drew.cell
      clear HQ HQ1 HC0 c0 c1 hg
      refine wp_region_any (by kernel_rfl) ?_
      try (change wpAny _ _ _ _ _ _ _ (World.drew _))
      generalize W.drew = Y at *
      have y6 := HQ2.out.p.k6.cell
      refine wpAny_take (i := 0) (v := ?_) rfl (by kernel_rfl) (by kernel_rfl) (by kernel_rfl) (fun _ _ _ h => h) (Or.inl ⟨by rfl, ?_⟩) ?_
      rotate_left
      · intro w; go_simp; with_reducible rfl
      refine wpAny_ready (rs := [1, 2]) (by kernel_rfl) (by simp) ?_
      refine AllReady.cons rfl (fun K hK => ?_) (AllReady.cons rfl (fun K hK => ?_) AllReady.nil)
      · go_simp
        refine hK _ _ ?_
        clear hK K
        refine wpAny_ready (rs := [2]) (by kernel_rfl) (by simp) ?_
        refine AllReady.cons rfl (fun K hK => ?_) AllReady.nil
        go_simp
        refine hK _ _ ?_
        clear hK K
        refine wpAny_ready (rs := [3]) (by kernel_rfl) (by simp) ?_
        refine AllReady.cons rfl (fun K hK => ?_) AllReady.nil
        go_simp
        go_at_call 29
        refine (HAN.out db dn _ HSK.out).mono ?_
        rintro e w3 ⟨rfl, hb⟩
        have HQ3 := Lib.hid (HQ2.out.below hb)
        have y6' := HQ3.out.p.k6.cell
        change K _ _
        refine hK _ _ ?_
        clear hK K hb
        refine wpAny_take (i := 4) (v := ?_) rfl (by kernel_rfl) (by kernel_rfl) (by kernel_rfl) (fun _ _ _ h => h) (Or.inl ⟨by rfl, ?_⟩) ?_
        rotate_left
        · intro w; go_simp; with_reducible rfl
        refine wpAny_ready (rs := [5]) (by kernel_rfl) (by simp) ?_
        refine AllReady.cons rfl (fun K hK => ?_) AllReady.nil
        go_simp
        refine hK _ _ ?_
        clear hK K
        have HQ4 := Lib.hid (HQ3.out.alloc (.cells #[.string db, .int .i64 dn, .bool false] 79))
        have HN4 := Lib.hid (EntsAt.new1 w3 w3.heap.size rfl db dn false 79)
        have HGR := Lib.hid (fun w1 v' => HQ4.out.grown (w1 := w1) (v' := v') (L' := LL ++ [(db, dn, false)]))
        refine wpAny_ready (rs := [6]) (by kernel_rfl) (by simp) ?_
        refine AllReady.cons rfl (fun K hK => ?_) AllReady.nil
        rw [if_pos (by kernel_rfl)]
        unfold Oper.wp
        refine wp_append_ents infoD Tryd.underlying56 _ (.tmp 24) (.tmp 28) rfl (m + 1) (.slice ta tn' tc) LL [(db, dn, false)] rfl HQ4.out.out.own (some ⟨w3.heap.size, 0, none⟩) 1 rfl HN4.out HL.out HQ4.out.out.bw ?_
        intro v' w4 hown hgr hov
        obtain ⟨⟨va, vn, vc, rfl⟩, hp4, hv4⟩ := HGR.out w4 v' hown hgr hov
        have HQ5 := Lib.hid hv4
        obtain ⟨z6, zf, zl⟩ := hp4.k6
        clear hown hgr hov hp4 hv4 HGR HN4 HQ4 HQ3 HQ2
        go_simp
        refine hK _ _ ?_
        clear hK K
        refine wpAny_ready (rs := [7]) (by kernel_rfl) (by simp) ?_
        refine AllReady.cons rfl (fun K hK => ?_) AllReady.nil
        go_simp
        refine hK _ _ ?_
        clear hK K
        refine wpAny_ready (rs := [8]) (by kernel_rfl) (by simp) ?_
        refine AllReady.cons rfl (fun K hK => ?_) AllReady.nil
        go_simp
        refine hK _ _ ?_
        clear hK K
        refine wpAny_done (by kernel_rfl) ?_ _
        clear y6 y6' e0 e1 z6 zf zl
        generalize w4.setCell ⟨m, 6, none⟩ (.slice va vn vc) = w5 at *
        go_wp2
        go_roundw
        case rel => exact ⟨k + 1, by omega, by go_num, _, HN.out ▸ HQ5.out⟩
        case measure => simp [intOf]; omega
      · go_simp
        refine hK _ _ ?_
        clear hK K
        refine wpAny_ready (rs := [1, 3]) (by kernel_rfl) (by simp) ?_
        refine AllReady.cons rfl (fun K hK => ?_) (AllReady.cons rfl (fun K hK => ?_) AllReady.nil)
        · go_simp
          refine hK _ _ ?_
          clear hK K
          refine wpAny_ready (rs := [3]) (by kernel_rfl) (by simp) ?_
          refine AllReady.cons rfl (fun K hK => ?_) AllReady.nil
          go_simp
          go_at_call 29
          refine (HAN.out db dn _ HSK.out).mono ?_
          rintro e w3 ⟨rfl, hb⟩
          have HQ3 := Lib.hid (HQ2.out.below hb)
          have y6' := HQ3.out.p.k6.cell
          change K _ _
          refine hK _ _ ?_
          clear hK K hb
          refine wpAny_take (i := 4) (v := ?_) rfl (by kernel_rfl) (by kernel_rfl) (by kernel_rfl) (fun _ _ _ h => h) (Or.inl ⟨by rfl, ?_⟩) ?_
          rotate_left
          · intro w; go_simp; with_reducible rfl
          refine wpAny_ready (rs := [5]) (by kernel_rfl) (by simp) ?_
          refine AllReady.cons rfl (fun K hK => ?_) AllReady.nil
          go_simp
          refine hK _ _ ?_
          clear hK K
          have HQ4 := Lib.hid (HQ3.out.alloc (.cells #[.string db, .int .i64 dn, .bool false] 79))
          have HN4 := Lib.hid (EntsAt.new1 w3 w3.heap.size rfl db dn false 79)
          have HGR := Lib.hid (fun w1 v' => HQ4.out.grown (w1 := w1) (v' := v') (L' := LL ++ [(db, dn, false)]))
          refine wpAny_ready (rs := [6]) (by kernel_rfl) (by simp) ?_
          refine AllReady.cons rfl (fun K hK => ?_) AllReady.nil
          rw [if_pos (by kernel_rfl)]
          unfold Oper.wp
          refine wp_append_ents infoD Tryd.underlying56 _ (.tmp 24) (.tmp 28) rfl (m + 1) (.slice ta tn' tc) LL [(db, dn, false)] rfl HQ4.out.out.own (some ⟨w3.heap.size, 0, none⟩) 1 rfl HN4.out HL.out HQ4.out.out.bw ?_
          intro v' w4 hown hgr hov
          obtain ⟨⟨va, vn, vc, rfl⟩, hp4, hv4⟩ := HGR.out w4 v' hown hgr hov
          have HQ5 := Lib.hid hv4
          obtain ⟨z6, zf, zl⟩ := hp4.k6
          clear hown hgr hov hp4 hv4 HGR HN4 HQ4 HQ3 HQ2
          go_simp
          refine hK _ _ ?_
          clear hK K
          refine wpAny_ready (rs := [7]) (by kernel_rfl) (by simp) ?_
          refine AllReady.cons rfl (fun K hK => ?_) AllReady.nil
          go_simp
          refine hK _ _ ?_
          clear hK K
          refine wpAny_ready (rs := [8]) (by kernel_rfl) (by simp) ?_
          refine AllReady.cons rfl (fun K hK => ?_) AllReady.nil
          go_simp
          refine hK _ _ ?_
          clear hK K
          refine wpAny_done (by kernel_rfl) ?_ _
          clear y6 y6' e0 e1 z6 zf zl
          generalize w4.setCell ⟨m, 6, none⟩ (.slice va vn vc) = w5 at *
          go_wp2
          go_roundw
          case rel => exact ⟨k + 1, by omega, by go_num, _, HN.out ▸ HQ5.out⟩
          case measure => simp [intOf]; omega
        · go_simp
          go_at_call 29
          refine (HAN.out db dn _ HSK.out).mono ?_
          rintro e w3 ⟨rfl, hb⟩
          have HQ3 := Lib.hid (HQ2.out.below hb)
          have y6' := HQ3.out.p.k6.cell
          change K _ _
          refine hK _ _ ?_
          clear hK K hb
          refine wpAny_take (i := 4) (v := ?_) rfl (by kernel_rfl) (by kernel_rfl) (by kernel_rfl) (fun _ _ _ h => h) (Or.inl ⟨by rfl, ?_⟩) ?_
          rotate_left
          · intro w; go_simp; with_reducible rfl
          refine wpAny_ready (rs := [1, 5]) (by kernel_rfl) (by simp) ?_
          refine AllReady.cons rfl (fun K hK => ?_) (AllReady.cons rfl (fun K hK => ?_) AllReady.nil)
          · go_simp
            refine hK _ _ ?_
            clear hK K
            refine wpAny_ready (rs := [5]) (by kernel_rfl) (by simp) ?_
            refine AllReady.cons rfl (fun K hK => ?_) AllReady.nil
            go_simp
            refine hK _ _ ?_
            clear hK K
            have HQ4 := Lib.hid (HQ3.out.alloc (.cells #[.string db, .int .i64 dn, .bool false] 79))
            have HN4 := Lib.hid (EntsAt.new1 w3 w3.heap.size rfl db dn false 79)
            have HGR := Lib.hid (fun w1 v' => HQ4.out.grown (w1 := w1) (v' := v') (L' := LL ++ [(db, dn, false)]))
            refine wpAny_ready (rs := [6]) (by kernel_rfl) (by simp) ?_
            refine AllReady.cons rfl (fun K hK => ?_) AllReady.nil
            rw [if_pos (by kernel_rfl)]
            unfold Oper.wp
            refine wp_append_ents infoD Tryd.underlying56 _ (.tmp 24) (.tmp 28) rfl (m + 1) (.slice ta tn' tc) LL [(db, dn, false)] rfl HQ4.out.out.own (some ⟨w3.heap.size, 0, none⟩) 1 rfl HN4.out HL.out HQ4.out.out.bw ?_
            intro v' w4 hown hgr hov
            obtain ⟨⟨va, vn, vc, rfl⟩, hp4, hv4⟩ := HGR.out w4 v' hown hgr hov
            have HQ5 := Lib.hid hv4
            obtain ⟨z6, zf, zl⟩ := hp4.k6
            clear hown hgr hov hp4 hv4 HGR HN4 HQ4 HQ3 HQ2
            go_simp
            refine hK _ _ ?_
            clear hK K
            refine wpAny_ready (rs := [7]) (by kernel_rfl) (by simp) ?_
            refine AllReady.cons rfl (fun K hK => ?_) AllReady.nil
            go_simp
            refine hK _ _ ?_
            clear hK K
            refine wpAny_ready (rs := [8]) (by kernel_rfl) (by simp) ?_
            refine AllReady.cons rfl (fun K hK => ?_) AllReady.nil
            go_simp
            refine hK _ _ ?_
            clear hK K
            refine wpAny_done (by kernel_rfl) ?_ _
            clear y6 y6' e0 e1 z6 zf zl
            generalize w4.setCell ⟨m, 6, none⟩ (.slice va vn vc) = w5 at *
            go_wp2
            go_roundw
            case rel => exact ⟨k + 1, by omega, by go_num, _, HN.out ▸ HQ5.out⟩
            case measure => simp [intOf]; omega
          · go_simp
            refine hK _ _ ?_
            clear hK K
            have y7 := (HQ3.out.alloc (.cells #[.string db, .int .i64 dn, .bool false] 79)).p.k6.cell
            refine wpAny_ready (rs := [1]) (by kernel_rfl) (by simp) ?_
            refine AllReady.cons rfl (fun K hK => ?_) AllReady.nil
            go_simp
            refine hK _ _ ?_
            clear hK K
            clear y7
            have HQ4 := Lib.hid (HQ3.out.alloc (.cells #[.string db, .int .i64 dn, .bool false] 79))
            have HN4 := Lib.hid (EntsAt.new1 w3 w3.heap.size rfl db dn false 79)
            have HGR := Lib.hid (fun w1 v' => HQ4.out.grown (w1 := w1) (v' := v') (L' := LL ++ [(db, dn, false)]))
            refine wpAny_ready (rs := [6]) (by kernel_rfl) (by simp) ?_
            refine AllReady.cons rfl (fun K hK => ?_) AllReady.nil
            rw [if_pos (by kernel_rfl)]
            unfold Oper.wp
            refine wp_append_ents infoD Tryd.underlying56 _ (.tmp 24) (.tmp 28) rfl (m + 1) (.slice ta tn' tc) LL [(db, dn, false)] rfl HQ4.out.out.own (some ⟨w3.heap.size, 0, none⟩) 1 rfl HN4.out HL.out HQ4.out.out.bw ?_
            intro v' w4 hown hgr hov
            obtain ⟨⟨va, vn, vc, rfl⟩, hp4, hv4⟩ := HGR.out w4 v' hown hgr hov
            have HQ5 := Lib.hid hv4
            obtain ⟨z6, zf, zl⟩ := hp4.k6
            clear hown hgr hov hp4 hv4 HGR HN4 HQ4 HQ3 HQ2
            go_simp
            refine hK _ _ ?_
            clear hK K
            refine wpAny_ready (rs := [7]) (by kernel_rfl) (by simp) ?_
            refine AllReady.cons rfl (fun K hK => ?_) AllReady.nil
            go_simp
            refine hK _ _ ?_
            clear hK K
            refine wpAny_ready (rs := [8]) (by kernel_rfl) (by simp) ?_
            refine AllReady.cons rfl (fun K hK => ?_) AllReady.nil
            go_simp
            refine hK _ _ ?_
            clear hK K
            refine wpAny_done (by kernel_rfl) ?_ _
            clear y6 y6' e0 e1 z6 zf zl
            generalize w4.setCell ⟨m, 6, none⟩ (.slice va vn vc) = w5 at *
            go_wp2
            go_roundw
            case rel => exact ⟨k + 1, by omega, by go_num, _, HN.out ▸ HQ5.out⟩
            case measure => simp [intOf]; omega
    · obtain rfl : k = C.length := by omega
      have dk : decide ((C.length : Int) < (C.length : Int)) = false := decide_eq_false (by omega)
      rw [HTL.out] at HQ
      obtain ⟨ea, ec, htv, hEA⟩ := HQ.out.out.own.ents
      have HEA := Lib.hid hEA
      subst htv
      obtain ⟨⟨p0, q0, pl⟩, ⟨p1, q1, -⟩, ⟨p2, q2, -⟩, ⟨p3, q3, -⟩, ⟨p4, q4, -⟩, ⟨p5, q5, -⟩, ⟨p6, q6, -⟩⟩ := HQ.out.p
      clear hEA
      have HRR := Lib.hid (HRI.out ea ec wr HEA.out)
      cases R
      · go_wp2_with (go_at_call 30; (with_reducible refine HRR.out.mono ?_); rintro e w6 ⟨rfl, hb⟩; have HQ6 := Lib.hid (HQ.out.below hb); clear hb p0 q0 pl p1 q1 p2 q2 p3 q3 p4 q4 p5 q5 p6 q6; obtain ⟨⟨r0, s0, rl⟩, ⟨r1, s1, -⟩, ⟨r2, s2, -⟩, ⟨r3, s3, -⟩, ⟨r4, s4, -⟩, ⟨r5, s5, -⟩, ⟨r6, s6, -⟩⟩ := HQ6.out.res)
        have S7 := stored7 (m := w.heap.size + 1 + 1) (.string ⟨#[]⟩) (.int .i64 0) (.string ⟨#[]⟩) (.int .i64 0) (.bool false) (.bool false) (.slice none 0 0) HQ6.out.res
        exact bodyPost_ret (v := .tuple #[.agg #[.string ⟨#[]⟩, .int .i64 0, .string ⟨#[]⟩, .int .i64 0, .bool false, .bool false, .slice none 0 0], .int .i64 11]) (by simp [results, Tryd.results20, go_sem, S7.k0.cell, S7.k1.cell, S7.k2.cell, S7.k3.cell, S7.k4.cell, S7.k5.cell, S7.k6.cell]) rfl ⟨rfl, set7_below (m := w.heap.size + 1 + 1) HQ6.out.out.bel (by omega) _ _ _ _ _ _ _⟩
      · go_wp2_with (go_at_call 30; (with_reducible refine HRR.out.mono ?_); rintro e w6 ⟨rfl, hb⟩; have HQ6 := Lib.hid (HQ.out.below hb); have HE6 := Lib.hid (HEA.out.below hb); clear hb p0 q0 pl p1 q1 p2 q2 p3 q3 p4 q4 p5 q5 p6 q6; obtain ⟨⟨p0, q0, pl⟩, ⟨p1, q1, -⟩, ⟨p2, q2, -⟩, ⟨p3, q3, -⟩, ⟨p4, q4, -⟩, ⟨p5, q5, -⟩, ⟨p6, q6, -⟩⟩ := HQ6.out.p; obtain ⟨⟨r0, s0, rl⟩, ⟨r1, s1, -⟩, ⟨r2, s2, -⟩, ⟨r3, s3, -⟩, ⟨r4, s4, -⟩, ⟨r5, s5, -⟩, ⟨r6, s6, -⟩⟩ := HQ6.out.res)
        have S7 := stored7 (m := w.heap.size + 1 + 1) (.string tb) (.int .i64 tn) (.string fb) (.int .i64 fn) (.bool c) (.bool nc) (.slice ea F.length ec) HQ6.out.res
        have HW := Lib.hid (own7 (B := m + 1) (m := w.heap.size + 1 + 1) HQ6.out.out.own (by have := HQ6.out.rm; omega) (.string tb) (.int .i64 tn) (.string fb) (.int .i64 fn) (.bool c) (.bool nc) (.slice ea F.length ec))
        exact bodyPost_ret (v := .tuple #[.agg #[.string tb, .int .i64 tn, .string fb, .int .i64 fn, .bool c, .bool nc, .slice ea F.length ec], .int .i64 0]) (by simp [results, Tryd.results20, go_sem, S7.k0.cell, S7.k1.cell, S7.k2.cell, S7.k3.cell, S7.k4.cell, S7.k5.cell, S7.k6.cell]) rfl ⟨⟨ea, ec, rfl, ents_of_own HW.out, fun q hq => by have h1 := HW.out.ge (g := q.block) (by rw [hq]; rfl); have h2 := HQ6.out.out.ge; exact ⟨by omega, h1.2⟩⟩, set7_below (m := w.heap.size + 1 + 1) HQ6.out.out.bel (by omega) _ _ _ _ _ _ _⟩
theorem via_any (fb tb : ByteArray) (fn tn : Int) (c : Bool) (a : Option Addr) (cap : Nat) (C : List (ByteArray × Int)) (w : World) (hC : C.length ≤ 1000) (hE : CallsAt w a C)
    (hf : fb.size ≤ 140737488351232) (ht : tb.size ≤ 140737488351232) (hs : ∀ x ∈ C, x.1.size ≤ 140737488351232) :
    Calls Tryd.prog 20 #[.agg #[.string fb, .int .i64 fn], .agg #[.string tb, .int .i64 tn], .bool c, .slice a C.length cap] w fun e w' =>
      (if rightP ((tb, tn, c) :: (fb, fn, !c) :: freshD C) then ∃ da dc, e = .returned (.tuple #[.agg #[.string tb, .int .i64 tn, .string fb, .int .i64 fn, .bool c, .bool (!c), .slice da (freshD C).length dc], .int .i64 0]) ∧ EntsAt w' da dc (freshD C)
        else e = .returned (.tuple #[.agg #[.string ⟨#[]⟩, .int .i64 0, .string ⟨#[]⟩, .int .i64 0, .bool false, .bool false, .slice none 0 0], .int .i64 11])) ∧ Below w.heap.size w w' :=
  (via_own fb tb fn tn c a cap C w hC hE hf ht hs).mono fun e w' ⟨h1, h2⟩ => ⟨by
    by_cases hR : rightP ((tb, tn, c) :: (fb, fn, !c) :: freshD C) = true
    · rw [if_pos hR] at h1 ⊢
      obtain ⟨da, dc, he, hE', -⟩ := h1
      exact ⟨da, dc, he, hE'⟩
    · rw [if_neg hR] at h1 ⊢
      exact h1, h2⟩
end Go.Proofs.YtadhiknmkiogjaaDoor
namespace Go.Proofs.YtadhiknmkiogjaaDoor
open Go.RowKit Go.Sort
set_option maxRecDepth 20000
/-- a datagram's path -/
def gramL (fb tb : ByteArray) (fn tn : Int) (C : List (ByteArray × Int)) : List Ent := (tb, tn, true) :: (fb, fn, false) :: freshD C
/-- what is wrong with it -/
def gramE (fb tb : ByteArray) (fn tn : Int) (C : List (ByteArray × Int)) (pid : Int) (n : Nat) : Nat := wrongF (gramL fb tb fn tn C) 12 0 0 false pid n
/-- its bytes -/
def gramS (fb tb : ByteArray) (fn tn : Int) (C : List (ByteArray × Int)) (pid : Int) (t : ByteArray) : ByteArray :=
  if gramE fb tb fn tn C pid t.size = 0 then ⟨(bytesF (gramL fb tb fn tn C) 12 0 0 false false pid t.data.toList).toArray⟩ else ⟨#[]⟩
/-- which error Get tells; 0: none -/
def getE22 (s : List UInt8) : Nat := if decE s false ≠ 0 then decE s false else if (ctlOf s false).1 = 12 then 0 else 2
/-- a datagram's contents -/
abbrev Gr := ByteArray × Int × ByteArray × Int × List (ByteArray × Int) × Int × ByteArray
def noGr : Gr := (⟨#[]⟩, 0, ⟨#[]⟩, 0, [], 0, ⟨#[]⟩)
def callOf (e : Ent) : ByteArray × Int := (e.1, e.2.1)
/-- what Get reads -/
def got22 (s : List UInt8) : Gr :=
  if getE22 s = 0 then
    match (getP 10 [] s).2, s.drop (headN s false) with
    | x :: y :: D, b :: r => (y.1, y.2.1, x.1, x.2.1, D.map callOf, (b.toNat : Int), ⟨r.toArray⟩)
    | _, _ => noGr
  else noGr
/-- a datagram as a value: where its digipeaters lie -/
def grV (g : Gr) (a : Option Addr) (c : Nat) : Value := .agg #[.string g.1, .int .i64 g.2.1, .string g.2.2.1, .int .i64 g.2.2.2.1, .slice a g.2.2.2.2.1.length c, .int .i64 g.2.2.2.2.2.1, .string g.2.2.2.2.2.2]
/-- what Get leaves -/
def GotTo (s : List UInt8) (w : World) (e : Ending) (w' : World) : Prop :=
  (∃ a c, e = .returned (.tuple #[grV (got22 s) a c, .int .i64 (getE22 s : Nat)]) ∧ CallsAt w' a (got22 s).2.2.2.2.1) ∧ Below w.heap.size w w'
theorem fresh_call (C : List (ByteArray × Int)) : (freshD C).map callOf = C := by
  unfold freshD
  rw [List.map_map]
  conv => rhs; rw [← List.map_id C]
  rfl
theorem pid12 : pidD (12 : Int) = true := by decide +kernel
theorem put12 : putB (12 : Int).toNat (0 : Int).toNat (0 : Int).toNat false false = [3] := by decide +kernel
theorem right12 : rightC 12 0 0 false = true := by decide +kernel
/-- what is put is read again -/
theorem got_put22 (fb tb : ByteArray) (fn tn : Int) (C : List (ByteArray × Int)) (pid : Int) (t : ByteArray) (h : gramE fb tb fn tn C pid t.size = 0) :
    getE22 (gramS fb tb fn tn C pid t).data.toList = 0 ∧ got22 (gramS fb tb fn tn C pid t).data.toList = (fb, fn, tb, tn, C, pid, t) ∧ (gramS fb tb fn tn C pid t).size ≤ 1000 := by
  obtain ⟨h1, -, h3, h4⟩ := right_frame h
  obtain ⟨P, rfl, hP, -⟩ := pid_facts h3
  have hr := read_right (gramL fb tb fn tn C) 12 0 0 false false (P : Int) t.data.toList h1 right12
  have hS : (gramS fb tb fn tn C (P : Int) t).data.toList = bytesF (gramL fb tb fn tn C) 12 0 0 false false (P : Int) t.data.toList := by
    unfold gramS
    rw [if_pos h]
  have hz : (gramS fb tb fn tn C (P : Int) t).size = (gramS fb tb fn tn C (P : Int) t).data.toList.length := by simp
  rw [hz, hS]
  have hb : bytesF (gramL fb tb fn tn C) 12 0 0 false false (P : Int) t.data.toList = bytesP (gramL fb tb fn tn C) (gramL fb tb fn tn C).length ++ ([3] ++ ([UInt8.ofNat P] ++ t.data.toList)) := by
    unfold bytesF pidB
    rw [if_pos pid12, put12]
    rfl
  have hlb := bytesP_len' (gramL fb tb fn tn C) (gramL fb tb fn tn C).length (Nat.le_refl _)
  have hl : (bytesF (gramL fb tb fn tn C) 12 0 0 false false (P : Int) t.data.toList).length = 7 * (gramL fb tb fn tn C).length + 2 + t.size := by
    rw [hb]
    simp only [List.length_append, hlb, List.length_singleton]
    simp
    omega
  have h10 := right_len h1
  have ht := (inf_facts h4).1
  obtain ⟨r1, r2, r3⟩ := hr
  rw [put12] at r2
  have hhead : headN (bytesF (gramL fb tb fn tn C) 12 0 0 false false (P : Int) t.data.toList) false = 7 * (gramL fb tb fn tn C).length + 1 := by
    unfold headN
    rw [r1, r2]
    rfl
  have hdrop : (bytesF (gramL fb tb fn tn C) 12 0 0 false false (P : Int) t.data.toList).drop (7 * (gramL fb tb fn tn C).length + 1) = UInt8.ofNat P :: t.data.toList := by
    rw [hb, ← List.append_assoc]
    have e : (bytesP (gramL fb tb fn tn C) (gramL fb tb fn tn C).length ++ [3]).length = 7 * (gramL fb tb fn tn C).length + 1 := by simp [hlb]
    rw [← e]
    exact List.drop_left
  have hd : decE (bytesF (gramL fb tb fn tn C) 12 0 0 false false (P : Int) t.data.toList) false = 0 := by
    unfold decE
    rw [r3, if_neg (fun q => q rfl), r1, r2]
    have e12 : (((12 : Int).toNat : Nat) : Int) = 12 := rfl
    rw [e12, if_pos pid12, if_neg (by rw [hl]; simp only [List.length_singleton]; omega), hl]
    have e2 : 7 * (gramL fb tb fn tn C).length + 2 + t.size - (7 * (gramL fb tb fn tn C).length + [(3 : UInt8)].length + 1) = t.size := by simp only [List.length_singleton]; omega
    rw [e2]
    exact h4
  have hg : getE22 (bytesF (gramL fb tb fn tn C) 12 0 0 false false (P : Int) t.data.toList) = 0 := by
    unfold getE22
    rw [hd, r2, if_neg (fun q => q rfl)]
    rfl
  refine ⟨hg, ?_, by rw [hl]; omega⟩
  unfold got22
  rw [if_pos hg, hhead, hdrop, r1]
  show (fb, fn, tb, tn, (freshD C).map callOf, ((UInt8.ofNat P).toNat : Int), (⟨t.data.toList.toArray⟩ : ByteArray)) = (fb, fn, tb, tn, C, (P : Int), t)
  rw [fresh_call]
  have e1 : ((UInt8.ofNat P).toNat : Int) = (P : Int) := by
    rw [UInt8.toNat_ofNat']
    omega
  rw [e1]
/-- what is read, of a datagram -/
theorem got_yes22 {s : List UInt8} {x y : Ent} {D : List Ent} {pid : Int} {info : ByteArray} (h : decE s false = 0) (hk : (ctlOf s false).1 = 12) (hp : (getP 10 [] s).2 = x :: y :: D) (hi : PidInf s false pid info.data.toList) :
    getE22 s = 0 ∧ got22 s = (y.1, y.2.1, x.1, x.2.1, D.map callOf, pid, info) := by
  have hg : getE22 s = 0 := by unfold getE22; rw [h, if_neg (fun q => q rfl), if_pos hk]
  refine ⟨hg, ?_⟩
  obtain ⟨-, h2⟩ := hi
  obtain ⟨b, hb, rfl⟩ := h2 (by rw [hk]; exact pid12)
  unfold got22
  rw [if_pos hg, hp, hb]
theorem got_no22 {s : List UInt8} (h : getE22 s ≠ 0) : got22 s = noGr := by
  unfold got22
  rw [if_neg h]
end Go.Proofs.YtadhiknmkiogjaaDoor
