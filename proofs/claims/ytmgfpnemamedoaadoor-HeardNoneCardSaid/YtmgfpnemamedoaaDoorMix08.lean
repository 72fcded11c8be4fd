/-
The landed code's Via.
By whom a frame was heard: the last digipeater that has sent it.
What Hear makes of a list, in each of the three ways; what it keeps.
What holds within Hear: the list, a station of the call's own, what was written.
-/
import Derived.Test.YtmgfpnemamedoaaDoorMix07
import Derived.Lib.SmallJoins
import Derived.Lib.ItoaNum
import Derived.Lib.QuietBelow
import Derived.Lib.IndexBytes
import Derived.IntWalk
import Derived.Test.YtmgfpnemamedoaaDoorMix06
namespace Go.Proofs.YtmgfpnemamedoaaDoor
open Go.RowKit Go.Sort
set_option maxRecDepth 20000
/-- calls that lie in a row from a on -/
def CallsAt (w : World) (a : Option Addr) (C : List (ByteArray × Int)) : Prop :=
  ∀ k (h : k < C.length), ∃ g o, a = some ⟨g, o, none⟩ ∧ g < w.heap.size ∧ w.cell? ⟨g, o + k * 2, none⟩ = some (.string C[k].1) ∧ w.cell? ⟨g, o + k * 2 + 1, none⟩ = some (.int .i64 C[k].2)
theorem CallsAt.below {w w' : World} {a : Option Addr} {C : List (ByteArray × Int)} (h : CallsAt w a C) (hb : Below w.heap.size w w') : CallsAt w' a C := fun k hk => by
  obtain ⟨g, o, ha, hg, h0, h1⟩ := h k hk
  exact ⟨g, o, ha, Nat.lt_of_lt_of_le hg hb.size, (hb.cell (p := ⟨g, _, none⟩) hg).trans h0, (hb.cell (p := ⟨g, _, none⟩) hg).trans h1⟩
/-- calls that have sent nothing -/
def freshD (C : List (ByteArray × Int)) : List Ent := C.map fun c => (c.1, c.2, false)
/-- a path's cells, whose last one holds a slice of the call's own; the answer's cells, still empty -/
structure VAt (w W : World) (m r : Nat) (tv t0 t1 t2 t3 t4 t5 : Value) (LL : List Ent) : Prop where
  out : OutAt w W (m + 1) m 6 55 tv LL
  p : P7 W m t0 t1 t2 t3 t4 t5 tv
  res : P7 W r (.string ⟨#[]⟩) (.int .i64 0) (.string ⟨#[]⟩) (.int .i64 0) (.bool false) (.bool false) (.slice none 0 0)
  rm : r < m
theorem VAt.below {w W W' : World} {m r : Nat} {tv t0 t1 t2 t3 t4 t5 : Value} {LL : List Ent} (h : VAt w W m r tv t0 t1 t2 t3 t4 t5 LL) (hb : Below W.heap.size W W') : VAt w W' m r tv t0 t1 t2 t3 t4 t5 LL :=
  ⟨h.out.below hb, h.p.below hb, h.res.below hb, h.rm⟩
theorem VAt.alloc {w W : World} {m r : Nat} {tv t0 t1 t2 t3 t4 t5 : Value} {LL : List Ent} (h : VAt w W m r tv t0 t1 t2 t3 t4 t5 LL) (o : Obj) : VAt w (W.alloc o) m r tv t0 t1 t2 t3 t4 t5 LL := h.below ((Below.refl _ W).alloc (Nat.le_refl _) _)
theorem VAt.drew {w W : World} {m r : Nat} {tv t0 t1 t2 t3 t4 t5 : Value} {LL : List Ent} (h : VAt w W m r tv t0 t1 t2 t3 t4 t5 LL) : VAt w W.drew m r tv t0 t1 t2 t3 t4 t5 LL := ⟨h.out.drew, h.p.drew, h.res.drew, h.rm⟩
theorem VAt.grown {w W w1 : World} {m r : Nat} {tv v' t0 t1 t2 t3 t4 t5 : Value} {LL L' : List Ent} (h : VAt w W m r tv t0 t1 t2 t3 t4 t5 LL) (h1 : OwnE 55 w1 (m + 1) v' L') (hg : W.grownBy w1 tv.ownBlock) (hv : v'.ownBlock = tv.ownBlock ∨ v'.ownBlock = some W.heap.size) :
    (∃ a n c, v' = .slice a n c) ∧ P7 w1 m t0 t1 t2 t3 t4 t5 tv ∧ VAt w (w1.setCell ⟨m, 6, none⟩ v') m r v' t0 t1 t2 t3 t4 t5 L' := by
  obtain ⟨hs, -, -, hz, ho, hk⟩ := h.out.grown h1 hg hv
  have hp := h.p.block (hk m (by omega)) hz
  exact ⟨hs, hp, ho, hp.put6 v', (h.res.block (hk r (by have := h.rm; omega)) hz).other v' (by have := h.rm; omega), h.rm⟩
theorem VAt.start (w w1 : World) (r : Nat) (t0 t1 t2 t3 t4 t5 : Value) (T : TypeId) (hb : Below w.heap.size w w1) (hr : P7 w1 r (.string ⟨#[]⟩) (.int .i64 0) (.string ⟨#[]⟩) (.int .i64 0) (.bool false) (.bool false) (.slice none 0 0)) :
    VAt w (w1.alloc (.cells #[t0, t1, t2, t3, t4, t5, .slice none 0 0] T)) w1.heap.size r (.slice none 0 0) t0 t1 t2 t3 t4 t5 [] := by
  have hp := P7.new w1 w1.heap.size rfl t0 t1 t2 t3 t4 t5 (.slice none 0 0) T
  exact ⟨⟨hp.k6.cell, hp.k6.free, OwnE.nil _ _ _, by simp [Value.ownBlock], hb.alloc hb.size _, by have := hb.size; omega, hb.size, by simp, by simp⟩, hp, hr.alloc _, hr.k0.lt⟩
theorem fresh_next (C : List (ByteArray × Int)) (k : Nat) (h : k < C.length) : freshD (C.take (k + 1)) = freshD (C.take k) ++ [(C[k].1, C[k].2, false)] := by
  unfold freshD
  rw [List.take_succ_eq_append_getElem h, List.map_append]
  rfl
set_option maxHeartbeats 4000000 in
theorem via_own (fb tb : ByteArray) (fn tn : Int) (c : Bool) (a : Option Addr) (cap : Nat) (C : List (ByteArray × Int)) (w : World) (hC : C.length ≤ 1000) (hE : CallsAt w a C)
    (hf : fb.size ≤ 140737488351232) (ht : tb.size ≤ 140737488351232) (hs : ∀ x ∈ C, x.1.size ≤ 140737488351232) :
    Calls Tryd.prog 7 #[.agg #[.string fb, .int .i64 fn], .agg #[.string tb, .int .i64 tn], .bool c, .slice a C.length cap] w fun e w' =>
      (if rightP ((tb, tn, c) :: (fb, fn, !c) :: freshD C) then ∃ da dc, e = .returned (.tuple #[.agg #[.string tb, .int .i64 tn, .string fb, .int .i64 fn, .bool c, .bool (!c), .slice da (freshD C).length dc], .int .i64 0]) ∧ EntsAt w' da dc (freshD C) ∧ ∀ q, da = some q → w.heap.size ≤ q.block ∧ q.block < w'.heap.size
        else e = .returned (.tuple #[.agg #[.string ⟨#[]⟩, .int .i64 0, .string ⟨#[]⟩, .int .i64 0, .bool false, .bool false, .slice none 0 0], .int .i64 11])) ∧ Below w.heap.size w w' := by
  obtain ⟨W0, hW0⟩ : ∃ W0, W0 = (((w.alloc (.cells #[.string fb, .int .i64 fn] 27)).alloc (.cells #[.string tb, .int .i64 tn] 27)).alloc (.cells #[.string ⟨#[]⟩, .int .i64 0, .string ⟨#[]⟩, .int .i64 0, .bool false, .bool false, .slice none 0 0] 30)) := ⟨_, rfl⟩
  have HB0 := Lib.hid (show Below w.heap.size w W0 from by rw [hW0]; exact (((Below.refl _ w).alloc (Nat.le_refl _) _).alloc (by simp) _).alloc (by simp; omega) _)
  have HR0 := Lib.hid (show P7 W0 (w.heap.size + 1 + 1) _ _ _ _ _ _ _ from by rw [hW0]; exact P7.new _ _ (by simp) _ _ _ _ _ _ _ _)
  have HE := Lib.hid hE
  have HS := Lib.hid hs
  have HAH := Lib.hid (fun W => ahead_any fb tb fn tn c W hf ht)
  have HRI := Lib.hid (fun da dc W (h : EntsAt W da dc (freshD C)) => pright_any tb fb tn fn c (!c) da dc (freshD C) W (by simp [freshD]; omega) h)
  have HFL := Lib.hid (show (freshD C).length = C.length from by simp [freshD])
  have HFN := Lib.hid (fresh_next C)
  have HAN := Lib.hid (fun b n W (h : b.size ≤ 140737488351232) => anew_any b n W h)
  have HT0 := Lib.hid (show freshD (C.take 0) = [] from rfl)
  have HTL := Lib.hid (show freshD (C.take C.length) = freshD C from by rw [List.take_length])
  have HTK := Lib.hid (show ∀ k, k ≤ C.length → (freshD (C.take k)).length = k from fun k hk => by simp [freshD]; omega)
  generalize hR : rightP ((tb, tn, c) :: (fb, fn, !c) :: freshD C) = R at *
  generalize hF : freshD C = F at *
  have HF := Lib.hid hF
  clear hE hs hf ht hR hF
  subst hW0
  generalize hnc : (!c) = nc at *
  have HNC := Lib.hid hnc
  clear hnc
  go_enter Tryd.func7, Tryd.ntmps7
  go_wp2_with (go_at_call 13; (with_reducible refine (HAH.out _).mono ?_); rintro e w1 ⟨rfl, hb⟩; have HB := Lib.hid (HB0.out.trans (hb.mono HB0.out.size)); have HR := Lib.hid (HR0.out.below hb); clear hb)
  have HV := Lib.hid (VAt.start w w1 (w.heap.size + 1 + 1) (.string tb) (.int .i64 tn) (.string fb) (.int .i64 fn) (.bool c) (.bool nc) 30 HB.out HR.out)
  generalize (w1.alloc (.cells #[.string tb, .int .i64 tn, .string fb, .int .i64 fn, .bool c, .bool nc, .slice none 0 0] 30)) = w2 at *
  generalize w1.heap.size = m at *
  clear HB HR HB0 HR0
  go_loopw [19] (fun i wx => ∃ k : Nat, k ≤ C.length ∧ i = .int .i64 k ∧ ∃ tv, Hid (VAt w wx m (w.heap.size + 1 + 1) tv (.string tb) (.int .i64 tn) (.string fb) (.int .i64 fn) (.bool c) (.bool nc) (freshD (C.take k)))) (fun i _ => C.length - (intOf i).toNat)
  case atStart => exact ⟨0, by omega, rfl, _, HT0.out ▸ HV.out⟩
  case round =>
    obtain ⟨k, hk, rfl, tv, HQ⟩ := hrel
    clear HV
    by_cases hlt : k < C.length
    · have dk : decide ((k : Int) < (C.length : Int)) = true := decide_eq_true (by omega)
      obtain ⟨g, o, rfl, hg, c0, c1⟩ := HE.out.below HQ.out.out.bel k hlt
      have HN := Lib.hid (HFN.out k hlt)
      have HSK := Lib.hid (HS.out C[k] (List.getElem_mem hlt))
      generalize C[k] = d at *
      obtain ⟨db, dn⟩ := d
      simp only at c0 c1 HN HSK
      have HL := Lib.hid (show (freshD (C.take k)).length + 1 ≤ 100000 from by rw [HTK.out k hk]; omega)
      generalize freshD (C.take k) = LL at *
      have HQ1 := Lib.hid (HQ.out.alloc (.cells #[.string db, .int .i64 dn] 27))
      have HC0 := Lib.hid (show KeepAt (wr.alloc (.cells #[.string db, .int .i64 dn] 27)) wr.heap.size 0 (.string db) ∧ KeepAt (wr.alloc (.cells #[.string db, .int .i64 dn] 27)) wr.heap.size 1 (.int .i64 dn) from ⟨⟨World.cell?_alloc_at _ _ _ _ rfl, World.frozen?_alloc_at _ _ _ _ rfl, by simp⟩, ⟨World.cell?_alloc_at _ _ _ _ rfl, World.frozen?_alloc_at _ _ _ _ rfl, by simp⟩⟩)
      obtain ⟨ta, tn', tc, htv⟩ := HQ.out.out.own.form
      subst htv
      go_wp2
      generalize (wr.alloc (.cells #[.string db, .int .i64 dn] 27)) = W at *
      generalize wr.heap.size = ne at *
      have HQ2 := Lib.hid HQ1.out.drew
      have e0 := HC0.out.1.drew.cell
      have e1 := HC0.out.2.drew.cell
      clear HQ HQ1 HC0 c0 c1 hg
      refine wp_region_any (by kernel_rfl) ?_
      try (change wpAny _ _ _ _ _ _ _ (World.drew _))
      generalize W.drew = Y at *
      have y6 := HQ2.out.p.k6.cell
      refine wpAny_take (i := 0) (v := ?_) rfl (by kernel_rfl) (by kernel_rfl) (by kernel_rfl) (fun _ _ _ h => h) (Or.inl ⟨by rfl, ?_⟩) ?_
      rotate_left
      · intro w; go_simp; with_reducible rfl
      refine wpAny_ready (rs := [1, 2]) (by kernel_rfl) (by simp) ?_
      refine AllReady.cons rfl (fun K hK => ?_) (AllReady.cons rfl (fun K hK => ?_) AllReady.nil)
      · go_simp
        refine hK _ _ ?_
        clear hK K
        refine wpAny_ready (rs := [2]) (by kernel_rfl) (by simp) ?_
        refine AllReady.cons rfl (fun K hK => ?_) AllReady.nil
        go_simp
        refine hK _ _ ?_
        clear hK K
        refine wpAny_ready (rs := [3]) (by kernel_rfl) (by simp) ?_
        refine AllReady.cons rfl (fun K hK => ?_) AllReady.nil
        go_simp
        go_at_call 14
        refine (HAN.out db dn _ HSK.out).mono ?_
        rintro e w3 ⟨rfl, hb⟩
        have HQ3 := Lib.hid (HQ2.out.below hb)
        have y6' := HQ3.out.p.k6.cell
        change K _ _
        refine hK _ _ ?_
        clear hK K hb
        refine wpAny_take (i := 4) (v := ?_) rfl (by kernel_rfl) (by kernel_rfl) (by kernel_rfl) (fun _ _ _ h => h) (Or.inl ⟨by rfl, ?_⟩) ?_
        rotate_left
        · intro w; go_simp; with_reducible rfl
        refine wpAny_ready (rs := [5]) (by kernel_rfl) (by simp) ?_
        refine AllReady.cons rfl (fun K hK => ?_) AllReady.nil
        go_simp
        refine hK _ _ ?_
        clear hK K
        have HQ4 := Lib.hid (HQ3.out.alloc (.cells #[.string db, .int .i64 dn, .bool false] 55))
        have HN4 := Lib.hid (EntsAt.new1 w3 w3.heap.size rfl db dn false 55)
        have HGR := Lib.hid (fun w1 v' => HQ4.out.grown (w1 := w1) (v' := v') (L' := LL ++ [(db, dn, false)]))
        refine wpAny_ready (rs := [6]) (by kernel_rfl) (by simp) ?_
        refine AllReady.cons rfl (fun K hK => ?_) AllReady.nil
        rw [if_pos (by kernel_rfl)]
        unfold Oper.wp
        refine wp_append_ents infoD Tryd.underlying28 _ (.tmp 24) (.tmp 28) rfl (m + 1) (.slice ta tn' tc) LL [(db, dn, false)] rfl HQ4.out.out.own (some ⟨w3.heap.size, 0, none⟩) 1 rfl HN4.out HL.out HQ4.out.out.bw ?_
        intro v' w4 hown hgr hov
        obtain ⟨⟨va, vn, vc, rfl⟩, hp4, hv4⟩ := HGR.out w4 v' hown hgr hov
        have HQ5 := Lib.hid hv4
        obtain ⟨z6, zf, zl⟩ := hp4.k6
        clear hown hgr hov hp4 hv4 HGR HN4 HQ4 HQ3 HQ2
        go_simp
        refine hK _ _ ?_
        clear hK K
        refine wpAny_ready (rs := [7]) (by kernel_rfl) (by simp) ?_
        refine AllReady.cons rfl (fun K hK => ?_) AllReady.nil
        go_simp
        refine hK _ _ ?_
        clear hK K
        refine wpAny_ready (rs := [8]) (by kernel_rfl) (by simp) ?_
        refine AllReady.cons rfl (fun K hK => ?_) AllReady.nil
        go_simp
        refine hK _ _ ?_
        clear hK K
        refine wpAny_done (by kernel_rfl) ?_ _
        clear y6 y6' e0 e1 z6 zf zl
        generalize w4.setCell ⟨m, 6, none⟩ (.slice va vn vc) = w5 at *
        go_wp2
        go_roundw
        case rel => exact ⟨k + 1, by omega, by go_num, _, HN.out ▸ HQ5.out⟩
        case measure => simp [intOf]; omega
      · go_simp
        refine hK _ _ ?_
        clear hK K
        refine wpAny_ready (rs := [1, 3]) (by kernel_rfl) (by simp) ?_
        refine AllReady.cons rfl (fun K hK => ?_) (AllReady.cons rfl (fun K hK => ?_) AllReady.nil)
        · go_simp
          refine hK _ _ ?_
          clear hK K
          refine wpAny_ready (rs := [3]) (by kernel_rfl) (by simp) ?_
          refine AllReady.cons rfl (fun K hK => ?_) AllReady.nil
          go_simp
          go_at_call 14
          refine (HAN.out db dn _ HSK.out).mono ?_
          rintro e w3 ⟨rfl, hb⟩
          have HQ3 := Lib.hid (HQ2.out.below hb)
          have y6' := HQ3.out.p.k6.cell
          change K _ _
          refine hK _ _ ?_
          clear hK K hb
          refine wpAny_take (i := 4) (v := ?_) rfl (by kernel_rfl) (by kernel_rfl) (by kernel_rfl) (fun _ _ _ h => h) (Or.inl ⟨by rfl, ?_⟩) ?_
          rotate_left
          · intro w; go_simp; with_reducible rfl
          refine wpAny_ready (rs := [5]) (by kernel_rfl) (by simp) ?_
          refine AllReady.cons rfl (fun K hK => ?_) AllReady.nil
          go_simp
          refine hK _ _ ?_
          clear hK K
          have HQ4 := Lib.hid (HQ3.out.alloc (.cells #[.string db, .int .i64 dn, .bool false] 55))
          have HN4 := Lib.hid (EntsAt.new1 w3 w3.heap.size rfl db dn false 55)
          have HGR := Lib.hid (fun w1 v' => HQ4.out.grown (w1 := w1) (v' := v') (L' := LL ++ [(db, dn, false)]))
          refine wpAny_ready (rs := [6]) (by kernel_rfl) (by simp) ?_
          refine AllReady.cons rfl (fun K hK => ?_) AllReady.nil
          rw [if_pos (by kernel_rfl)]
          unfold Oper.wp
          refine wp_append_ents infoD Tryd.underlying28 _ (.tmp 24) (.tmp 28) rfl (m + 1) (.slice ta tn' tc) LL [(db, dn, false)] rfl HQ4.out.out.own (some ⟨w3.heap.size, 0, none⟩) 1 rfl HN4.out HL.out HQ4.out.out.bw ?_
          intro v' w4 hown hgr hov
          obtain ⟨⟨va, vn, vc, rfl⟩, hp4, hv4⟩ := HGR.out w4 v' hown hgr hov
          have HQ5 := Lib.hid hv4
          obtain ⟨z6, zf, zl⟩ := hp4.k6
          clear hown hgr hov hp4 hv4 HGR HN4 HQ4 HQ3 HQ2
          go_simp
          refine hK _ _ ?_
          clear hK K
          refine wpAny_ready (rs := [7]) (by kernel_rfl) (by simp) ?_
          refine AllReady.cons rfl (fun K hK => ?_) AllReady.nil
          go_simp
          refine hK _ _ ?_
          clear hK K
          refine wpAny_ready (rs := [8]) (by kernel_rfl) (by simp) ?_
          refine AllReady.cons rfl (fun K hK => ?_) AllReady.nil
          go_simp
          refine hK _ _ ?_
          clear hK K
          refine wpAny_done (by kernel_rfl) ?_ _
          clear y6 y6' e0 e1 z6 zf zl
          generalize w4.setCell ⟨m, 6, none⟩ (.slice va vn vc) = w5 at *
          go_wp2
          go_roundw
          case rel => exact ⟨k + 1, by omega, by go_num, _, HN.out ▸ HQ5.out⟩
          case measure => simp [intOf]; omega
        · go_simp
          go_at_call 14
          refine (HAN.out db dn _ HSK.out).mono ?_
          rintro e w3 ⟨rfl, hb⟩
          have HQ3 := Lib.hid (HQ2.out.below hb)
          have y6' := HQ3.out.p.k6.cell
          change K _ _
          refine hK _ _ ?_
          clear hK K hb
          refine wpAny_take (i := 4) (v := ?_) rfl (by kernel_rfl) (by kernel_rfl) (by kernel_rfl) (fun _ _ _ h => h) (Or.inl ⟨by rfl, ?_⟩) ?_
          rotate_left
          · intro w; go_simp; with_reducible rfl
          refine wpAny_ready (rs := [1, 5]) (by kernel_rfl) (by simp) ?_
          refine AllReady.cons rfl (fun K hK => ?_) (AllReady.cons rfl (fun K hK => ?_) AllReady.nil)
          · go_simp
            refine hK _ _ ?_
            clear hK K
            refine wpAny_ready (rs := [5]) (by kernel_rfl) (by simp) ?_
            refine AllReady.cons rfl (fun K hK => ?_) AllReady.nil
            go_simp
            refine hK _ _ ?_
            clear hK K
            have HQ4 := Lib.hid (HQ3.out.alloc (.cells #[.string db, .int .i64 dn, .bool false] 55))
            have HN4 := Lib.hid (EntsAt.new1 w3 w3.heap.size rfl db dn false 55)
            have HGR := Lib.hid (fun w1 v' => HQ4.out.grown (w1 := w1) (v' := v') (L' := LL ++ [(db, dn, false)]))
            refine wpAny_ready (rs := [6]) (by kernel_rfl) (by simp) ?_
            refine AllReady.cons rfl (fun K hK => ?_) AllReady.nil
            rw [if_pos (by kernel_rfl)]
            unfold Oper.wp
            refine wp_append_ents infoD Tryd.underlying28 _ (.tmp 24) (.tmp 28) rfl (m + 1) (.slice ta tn' tc) LL [(db, dn, false)] rfl HQ4.out.out.own (some ⟨w3.heap.size, 0, none⟩) 1 rfl HN4.out HL.out HQ4.out.out.bw ?_
            intro v' w4 hown hgr hov
            obtain ⟨⟨va, vn, vc, rfl⟩, hp4, hv4⟩ := HGR.out w4 v' hown hgr hov
            have HQ5 := Lib.hid hv4
            obtain ⟨z6, zf, zl⟩ := hp4.k6
            clear hown hgr hov hp4 hv4 HGR HN4 HQ4 HQ3 HQ2
            go_simp
            refine hK _ _ ?_
            clear hK K
            refine wpAny_ready (rs := [7]) (by kernel_rfl) (by simp) ?_
            refine AllReady.cons rfl (fun K hK => ?_) AllReady.nil
            go_simp
            refine hK _ _ ?_
            clear hK K
            refine wpAny_ready (rs := [8]) (by kernel_rfl) (by simp) ?_
            refine AllReady.cons rfl (fun K hK => ?_) AllReady.nil
            go_simp
            refine hK _ _ ?_
            clear hK K
            refine wpAny_done (by kernel_rfl) ?_ _
            clear y6 y6' e0 e1 z6 zf zl
            generalize w4.setCell ⟨m, 6, none⟩ (.slice va vn vc) = w5 at *
            go_wp2
            go_roundw
            case rel => exact ⟨k + 1, by omega, by go_num, _, HN.out ▸ HQ5.out⟩
            case measure => simp [intOf]; omega
          · go_simp
            refine hK _ _ ?_
            clear hK K
            have y7 := (HQ3.out.alloc (.cells #[.string db, .int .i64 dn, .bool false] 55)).p.k6.cell
            refine wpAny_ready (rs := [1]) (by kernel_rfl) (by simp) ?_
            refine AllReady.cons rfl (fun K hK => ?_) AllReady.nil
            go_simp
            refine hK _ _ ?_
            clear hK K
            clear y7
            have HQ4 := Lib.hid (HQ3.out.alloc (.cells #[.string db, .int .i64 dn, .bool false] 55))
            have HN4 := Lib.hid (EntsAt.new1 w3 w3.heap.size rfl db dn false 55)
            have HGR := Lib.hid (fun w1 v' => HQ4.out.grown (w1 := w1) (v' := v') (L' := LL ++ [(db, dn, false)]))
            refine wpAny_ready (rs := [6]) (by kernel_rfl) (by simp) ?_
            refine AllReady.cons rfl (fun K hK => ?_) AllReady.nil
            rw [if_pos (by kernel_rfl)]
            unfold Oper.wp
            refine wp_append_ents infoD Tryd.underlying28 _ (.tmp 24) (.tmp 28) rfl (m + 1) (.slice ta tn' tc) LL [(db, dn, false)] rfl HQ4.out.out.own (some ⟨w3.heap.size, 0, none⟩) 1 rfl HN4.out HL.out HQ4.out.out.bw ?_
            intro v' w4 hown hgr hov
            obtain ⟨⟨va, vn, vc, rfl⟩, hp4, hv4⟩ := HGR.out w4 v' hown hgr hov
            have HQ5 := Lib.hid hv4
            obtain ⟨z6, zf, zl⟩ := hp4.k6
            clear hown hgr hov hp4 hv4 HGR HN4 HQ4 HQ3 HQ2
            go_simp
            refine hK _ _ ?_
            clear hK K
            refine wpAny_ready (rs := [7]) (by kernel_rfl) (by simp) ?_
            refine AllReady.cons rfl (fun K hK => ?_) AllReady.nil
            go_simp
            refine hK _ _ ?_
            clear hK K
            refine wpAny_ready (rs := [8]) (by kernel_rfl) (by simp) ?_
            refine AllReady.cons rfl (fun K hK => ?_) AllReady.nil
            go_simp
            refine hK _ _ ?_
            clear hK K
            refine wpAny_done (by kernel_rfl) ?_ _
            clear y6 y6' e0 e1 z6 zf zl
            generalize w4.setCell ⟨m, 6, none⟩ (.slice va vn vc) = w5 at *
            go_wp2
            go_roundw
            case rel => exact ⟨k + 1, by omega, by go_num, _, HN.out ▸ HQ5.out⟩
            case measure => simp [intOf]; omega
    · obtain rfl : k = C.length := by omega
      have dk : decide ((C.length : Int) < (C.length : Int)) = false := decide_eq_false (by omega)
      rw [HTL.out] at HQ
      obtain ⟨ea, ec, htv, hEA⟩ := HQ.out.out.own.ents
      have HEA := Lib.hid hEA
      subst htv
      obtain ⟨⟨p0, q0, pl⟩, ⟨p1, q1, -⟩, ⟨p2, q2, -⟩, ⟨p3, q3, -⟩, ⟨p4, q4, -⟩, ⟨p5, q5, -⟩, ⟨p6, q6, -⟩⟩ := HQ.out.p
      clear hEA
      have HRR := Lib.hid (HRI.out ea ec wr HEA.out)
      cases R
      · go_wp2_with (go_at_call 15; (with_reducible refine HRR.out.mono ?_); rintro e w6 ⟨rfl, hb⟩; have HQ6 := Lib.hid (HQ.out.below hb); clear hb p0 q0 pl p1 q1 p2 q2 p3 q3 p4 q4 p5 q5 p6 q6; obtain ⟨⟨r0, s0, rl⟩, ⟨r1, s1, -⟩, ⟨r2, s2, -⟩, ⟨r3, s3, -⟩, ⟨r4, s4, -⟩, ⟨r5, s5, -⟩, ⟨r6, s6, -⟩⟩ := HQ6.out.res)
        have S7 := stored7 (m := w.heap.size + 1 + 1) (.string ⟨#[]⟩) (.int .i64 0) (.string ⟨#[]⟩) (.int .i64 0) (.bool false) (.bool false) (.slice none 0 0) HQ6.out.res
        exact bodyPost_ret (v := .tuple #[.agg #[.string ⟨#[]⟩, .int .i64 0, .string ⟨#[]⟩, .int .i64 0, .bool false, .bool false, .slice none 0 0], .int .i64 11]) (by simp [results, Tryd.results7, go_sem, S7.k0.cell, S7.k1.cell, S7.k2.cell, S7.k3.cell, S7.k4.cell, S7.k5.cell, S7.k6.cell]) rfl ⟨rfl, set7_below (m := w.heap.size + 1 + 1) HQ6.out.out.bel (by omega) _ _ _ _ _ _ _⟩
      · go_wp2_with (go_at_call 15; (with_reducible refine HRR.out.mono ?_); rintro e w6 ⟨rfl, hb⟩; have HQ6 := Lib.hid (HQ.out.below hb); have HE6 := Lib.hid (HEA.out.below hb); clear hb p0 q0 pl p1 q1 p2 q2 p3 q3 p4 q4 p5 q5 p6 q6; obtain ⟨⟨p0, q0, pl⟩, ⟨p1, q1, -⟩, ⟨p2, q2, -⟩, ⟨p3, q3, -⟩, ⟨p4, q4, -⟩, ⟨p5, q5, -⟩, ⟨p6, q6, -⟩⟩ := HQ6.out.p; obtain ⟨⟨r0, s0, rl⟩, ⟨r1, s1, -⟩, ⟨r2, s2, -⟩, ⟨r3, s3, -⟩, ⟨r4, s4, -⟩, ⟨r5, s5, -⟩, ⟨r6, s6, -⟩⟩ := HQ6.out.res)
        have S7 := stored7 (m := w.heap.size + 1 + 1) (.string tb) (.int .i64 tn) (.string fb) (.int .i64 fn) (.bool c) (.bool nc) (.slice ea F.length ec) HQ6.out.res
        have HW := Lib.hid (own7 (B := m + 1) (m := w.heap.size + 1 + 1) HQ6.out.out.own (by have := HQ6.out.rm; omega) (.string tb) (.int .i64 tn) (.string fb) (.int .i64 fn) (.bool c) (.bool nc) (.slice ea F.length ec))
        exact bodyPost_ret (v := .tuple #[.agg #[.string tb, .int .i64 tn, .string fb, .int .i64 fn, .bool c, .bool nc, .slice ea F.length ec], .int .i64 0]) (by simp [results, Tryd.results7, go_sem, S7.k0.cell, S7.k1.cell, S7.k2.cell, S7.k3.cell, S7.k4.cell, S7.k5.cell, S7.k6.cell]) rfl ⟨⟨ea, ec, rfl, ents_of_own HW.out, fun q hq => by have h1 := HW.out.ge (g := q.block) (by rw [hq]; rfl); have h2 := HQ6.out.out.ge; exact ⟨by omega, h1.2⟩⟩, set7_below (m := w.heap.size + 1 + 1) HQ6.out.out.bel (by omega) _ _ _ _ _ _ _⟩
theorem via_any (fb tb : ByteArray) (fn tn : Int) (c : Bool) (a : Option Addr) (cap : Nat) (C : List (ByteArray × Int)) (w : World) (hC : C.length ≤ 1000) (hE : CallsAt w a C)
    (hf : fb.size ≤ 140737488351232) (ht : tb.size ≤ 140737488351232) (hs : ∀ x ∈ C, x.1.size ≤ 140737488351232) :
    Calls Tryd.prog 7 #[.agg #[.string fb, .int .i64 fn], .agg #[.string tb, .int .i64 tn], .bool c, .slice a C.length cap] w fun e w' =>
      (if rightP ((tb, tn, c) :: (fb, fn, !c) :: freshD C) then ∃ da dc, e = .returned (.tuple #[.agg #[.string tb, .int .i64 tn, .string fb, .int .i64 fn, .bool c, .bool (!c), .slice da (freshD C).length dc], .int .i64 0]) ∧ EntsAt w' da dc (freshD C)
        else e = .returned (.tuple #[.agg #[.string ⟨#[]⟩, .int .i64 0, .string ⟨#[]⟩, .int .i64 0, .bool false, .bool false, .slice none 0 0], .int .i64 11])) ∧ Below w.heap.size w w' :=
  (via_own fb tb fn tn c a cap C w hC hE hf ht hs).mono fun e w' ⟨h1, h2⟩ => ⟨by
    by_cases hR : rightP ((tb, tn, c) :: (fb, fn, !c) :: freshD C) = true
    · rw [if_pos hR] at h1 ⊢
      obtain ⟨da, dc, he, hE', -⟩ := h1
      exact ⟨da, dc, he, hE'⟩
    · rw [if_neg hR] at h1 ⊢
      exact h1, h2⟩
end Go.Proofs.YtmgfpnemamedoaaDoor
namespace Go.Proofs.YtmgfpnemamedoaaDoor
open Go.RowKit Go.Sort
set_option maxRecDepth 20000
/-- the last one that has it; the zero call, if none has -/
def lastV (D : List Ent) : ByteArray × Int := D.foldl (fun v d => if d.2.2 then (d.1, d.2.1) else v) (⟨#[]⟩, 0)
theorem last_next (D : List Ent) (k : Nat) (h : k < D.length) : lastV (D.take (k + 1)) = if D[k].2.2 then (D[k].1, D[k].2.1) else lastV (D.take k) := by
  unfold lastV
  rw [List.take_succ_eq_append_getElem h, List.foldl_append]
  rfl
/-- what holds in a round -/
structure LvAt (w : World) (v : ByteArray × Int) (W : World) : Prop where
  res : RowAt W (w.heap.size + 1) [.string ⟨#[]⟩, .int .i64 0]
  last : RowAt W (w.heap.size + 2) [.string v.1, .int .i64 v.2]
  bel : Below w.heap.size w W
section
variable {w W W' : World} {v : ByteArray × Int}
theorem LvAt.below (h : LvAt w v W) (hb : Below W.heap.size W W') : LvAt w v W' := ⟨h.res.below hb, h.last.below hb, h.bel.trans (hb.mono h.bel.size)⟩
theorem LvAt.alloc (h : LvAt w v W) (o : Obj) : LvAt w v (W.alloc o) := h.below ((Below.refl _ W).alloc (Nat.le_refl _) o)
theorem LvAt.put (h : LvAt w v W) (b : ByteArray) (n : Int) : LvAt w (b, n) ((W.setCell ⟨w.heap.size + 2, 0, none⟩ (.string b)).setCell ⟨w.heap.size + 2, 1, none⟩ (.int .i64 n)) :=
  ⟨(h.res.other _ (by omega)).other _ (by omega), (h.last.put 0 (.string b) [.string b, .int .i64 v.2] rfl).put 1 (.int .i64 n) _ rfl, Below.setCell (p := ⟨w.heap.size + 2, 1, none⟩) (Below.setCell (p := ⟨w.heap.size + 2, 0, none⟩) h.bel (by simp only; omega) _) (by simp only; omega) _⟩
end
set_option maxHeartbeats 1000000 in
theorem cvia23 (tb fb : ByteArray) (tn fn : Int) (tm fm : Bool) (a : Option Addr) (cap : Nat) (D : List Ent) (w : World) (hD : D.length ≤ 1000) (hE : EntsAt w a cap D) :
    Calls Tryd.prog 21 #[.agg #[.string tb, .int .i64 tn, .string fb, .int .i64 fn, .bool tm, .bool fm, .slice a D.length cap]] w fun e w' => e = .returned (.agg #[.string (lastV D).1, .int .i64 (lastV D).2]) ∧ Below w.heap.size w w' := by
  obtain ⟨W0, hW0⟩ : ∃ W0, W0 = ((w.alloc (.cells #[.string tb, .int .i64 tn, .string fb, .int .i64 fn, .bool tm, .bool fm, .slice a D.length cap] 30)).alloc (.cells #[.string ⟨#[]⟩, .int .i64 0] 27)).alloc (.cells #[.string ⟨#[]⟩, .int .i64 0] 27) := ⟨_, rfl⟩
  have HL0 := Lib.hid (show LvAt w (⟨#[]⟩, 0) W0 from by
    rw [hW0]
    exact ⟨(RowAt.new (w.alloc (.cells #[.string tb, .int .i64 tn, .string fb, .int .i64 fn, .bool tm, .bool fm, .slice a D.length cap] 30)) (w.heap.size + 1) (by simp) [.string ⟨#[]⟩, .int .i64 0] 27).alloc _, RowAt.new _ (w.heap.size + 2) (by simp) [.string ⟨#[]⟩, .int .i64 0] 27, (((Below.refl _ w).alloc (Nat.le_refl _) _).alloc (by simp) _).alloc (by simp; omega) _⟩)
  have HE := Lib.hid hE
  have HN := Lib.hid (last_next D)
  have HT0 := Lib.hid (show lastV (D.take 0) = (⟨#[]⟩, 0) from rfl)
  obtain ⟨⟨vb, vn⟩, hV⟩ : ∃ v, v = lastV D := ⟨_, rfl⟩
  have HTL := Lib.hid (show lastV (D.take D.length) = (vb, vn) by rw [List.take_length, hV])
  rw [← hV]
  clear hE hV
  go_enter Tryd.func21, Tryd.ntmps21
  go_wp2_with fail
  rw [← hW0]
  clear hW0
  go_loopw [9] (fun i wx => ∃ k : Nat, k ≤ D.length ∧ i = .int .i64 k ∧ Hid (LvAt w (lastV (D.take k)) wx)) (fun i _ => D.length - (intOf i).toNat)
  case atStart => exact ⟨0, by omega, rfl, HT0.out ▸ HL0⟩
  case round =>
    obtain ⟨k, hk, rfl, HQ⟩ := hrel
    clear HL0
    by_cases hlt : k < D.length
    · have dk : decide ((k : Int) < (D.length : Int)) = true := decide_eq_true (by omega)
      obtain ⟨g, o, rfl, hg, c0, c1, c2⟩ := (HE.out.below HQ.out.bel).at_ k hlt
      have hnx := HN.out k hlt
      generalize D[k] = d at *
      obtain ⟨db, dn, dm⟩ := d
      simp only at c0 c1 c2 hnx
      have HQ1 := Lib.hid (HQ.out.alloc (.cells #[.string db, .int .i64 dn, .bool dm] 55))
      have HQ2 := Lib.hid ((HQ.out.put db dn).alloc (.cells #[.string db, .int .i64 dn, .bool dm] 55))
      obtain ⟨x0, f0, l0⟩ := HQ.out.last.get 0 rfl
      obtain ⟨x1, f1, -⟩ := HQ.out.last.get 1 rfl
      clear HQ
      cases dm with
      | true =>
        simp only [if_true] at hnx
        have HX := Lib.hid hnx
        clear hnx
        go_wp2_with fail
        go_roundw
        case rel => exact ⟨k + 1, by omega, by go_num, HX.out ▸ HQ2⟩
        case measure =>
          simp [intOf]
          omega
      | false =>
        simp only [Bool.false_eq_true, if_false] at hnx
        have HX := Lib.hid hnx
        clear hnx
        go_wp2_with fail
        go_roundw
        case rel => exact ⟨k + 1, by omega, by go_num, HX.out ▸ HQ1⟩
        case measure =>
          simp [intOf]
          omega
    · obtain rfl : k = D.length := by omega
      have dk : decide ((D.length : Int) < (D.length : Int)) = false := decide_eq_false (by omega)
      rw [HTL.out] at HQ
      have y0 := HQ.out.last.cell 0 rfl
      have y1 := HQ.out.last.cell 1 rfl
      obtain ⟨z0, g0, l0⟩ := HQ.out.res.get 0 rfl
      obtain ⟨z1, g1, -⟩ := HQ.out.res.get 1 rfl
      have HB := Lib.hid (Below.setCell (p := ⟨w.heap.size + 1, 1, none⟩) (Below.setCell (p := ⟨w.heap.size + 1, 0, none⟩) HQ.out.bel (by simp only; omega) (.string vb)) (by simp only; omega) (.int .i64 vn))
      have S2 := (HQ.out.res.put 0 (.string vb) [.string vb, .int .i64 0] rfl).put 1 (.int .i64 vn) [.string vb, .int .i64 vn] rfl
      go_wp2_with fail
      exact bodyPost_ret (v := .agg #[.string vb, .int .i64 vn]) (by simp [results, Tryd.results21, go_sem, S2.cell 0 rfl, S2.cell 1 rfl]) rfl ⟨rfl, HB.out⟩
end Go.Proofs.YtmgfpnemamedoaaDoor
namespace Go.Proofs.YtmgfpnemamedoaaDoor
open Go.RowKit Go.Sort
set_option maxRecDepth 20000
theorem hear_found (L : List Hs) (c v : ByteArray × Int) (now : Int) (h8 : L.length ≤ 8) (i : Nat) (hi : i < L.length) (e : whereH L c = i) : hearP L c v now = ⟨c.1, c.2, v.1, v.2, IntKind.i64.wrap (1 + L[i].cnt), now⟩ :: L.eraseIdx i := by
  subst e
  unfold hearP oftenH
  rw [List.getElem?_eq_getElem hi, List.take_of_length_le (by rw [List.length_eraseIdx_of_lt hi]; omega)]
theorem hear_fresh (L : List Hs) (c v : ByteArray × Int) (now : Int) (e : whereH L c = L.length) : hearP L c v now = ⟨c.1, c.2, v.1, v.2, 1, now⟩ :: L.take 7 := by
  unfold hearP oftenH
  rw [e, List.getElem?_eq_none (Nat.le_refl _), List.eraseIdx_of_length_le (Nat.le_refl _)]
theorem hear_full (L : List Hs) (c v : ByteArray × Int) (now : Int) (e : whereH L c = L.length) (h8 : L.length = 8) : hearP L c v now = ⟨c.1, c.2, v.1, v.2, 1, now⟩ :: L.eraseIdx 7 := by
  rw [hear_fresh L c v now e]
  congr 1
  rw [List.eraseIdx_eq_take_drop_succ, List.drop_eq_nil_of_le (by omega), List.append_nil]
theorem hear_new (L : List Hs) (c v : ByteArray × Int) (now : Int) (e : whereH L c = L.length) (h8 : L.length < 8) : hearP L c v now = ⟨c.1, c.2, v.1, v.2, 1, now⟩ :: (L ++ [hs0]).eraseIdx L.length := by
  rw [hear_fresh L c v now e]
  congr 1
  rw [List.take_of_length_le (by omega), List.eraseIdx_append_of_length_le (Nat.le_refl _)]
  simp
theorem hear_small (L : List Hs) (c v : ByteArray × Int) (now : Int) (h : ∀ x ∈ L, x.cb.size ≤ 1000 ∧ x.vb.size ≤ 1000) (hc : c.1.size ≤ 1000) (hv : v.1.size ≤ 1000) : ∀ x ∈ hearP L c v now, x.cb.size ≤ 1000 ∧ x.vb.size ≤ 1000 := fun x hx => by
  rcases List.mem_cons.1 hx with rfl | hx
  · exact ⟨hc, hv⟩
  · exact h x (List.mem_of_mem_eraseIdx (List.mem_of_mem_take hx))
/-- who was heard, and by whom -/
theorem last_small : ∀ (D : List Ent) (n : Nat), (∀ e ∈ D, e.1.size ≤ n) → (lastV D).1.size ≤ n := by
  intro D n
  suffices h : ∀ (D : List Ent) (v : ByteArray × Int), v.1.size ≤ n → (∀ e ∈ D, e.1.size ≤ n) → (D.foldl (fun v d => if d.2.2 then (d.1, d.2.1) else v) v).1.size ≤ n from fun hd => h D (⟨#[]⟩, 0) (Nat.zero_le _) hd
  intro D
  induction D with
  | nil => exact fun v hv _ => hv
  | cons d D ih =>
    intro v hv hd
    rw [List.foldl_cons]
    apply ih
    · split
      · exact hd d List.mem_cons_self
      · exact hv
    · exact fun e he => hd e (List.mem_cons_of_mem _ he)
/-- copy, by its run -/
theorem wp_copy_eq {P : Program} {w : World} {o : Oper} {a : Act} {Q : Exit → Act → World → Prop} {K : Act → World → Prop} (d s : Operand) (t : TypeId) (ho : o.op = .call { callee := .builtin .copy, args := #[d, s], argTypes := #[t, t] })
    {vd vs v' : Value} {w' : World} (hd : a.eval d = vd) (hs : a.eval s = vs) (hr : (Builtin.copy_ #[t, t] o.type #[vd, vs]).run P w = .ok v' w') (h : K (a.put o.dst v') w') : Oper.wp P o a w K Q := by
  unfold Oper.wp execOp
  simp only [ho, resolve, invoke, builtin, Sem.run_bind, Sem.run_pure, Result.andThen_ok, List.map_toArray, List.map_cons, List.map_nil, hd, hs, hr]
  exact h
end Go.Proofs.YtmgfpnemamedoaaDoor
namespace Go.Proofs.YtmgfpnemamedoaaDoor
open Go.RowKit Go.Sort
set_option maxRecDepth 20000
theorem drew_setCells (g : Nat) : ∀ (vs : List Value) (o : Nat) (W : World), (W.drew).setCells g o vs = (W.setCells g o vs).drew
  | [], _, _ => rfl
  | v :: r, o, W => drew_setCells g r (o + 1) (W.setCell ⟨g, o, none⟩ v)
theorem turn_grown23 {F : Nat → Prop} {w W W' : World} {r : Option Nat} (h : Turn F w W) (hg : W.grownBy W' r) (hr : ∀ b, r = some b → F b ∨ w.heap.size ≤ b) : Turn F w W' :=
  ⟨hg.os.trans h.os, hg.tape.trans h.tape, hg.output.trans h.output, Nat.le_trans h.size hg.size, fun k hk hF => (hg.block k (Nat.lt_of_lt_of_le hk h.size) (fun e => (hr k e.symm).elim hF (fun q => by omega))).trans (h.block k hk hF)⟩
/-- what Hear may write -/
abbrev footH (p : Nat) (sv : Value) (k : Nat) : Prop := k = p ∨ sv.ownBlock = some k
structure HrAt (w : World) (p : Nat) (sv0 : Value) (b : Nat) (st : List Value) (sv : Value) (L : List Hs) (W : World) : Prop where
  row : RowAt W p [sv]
  own : OwnL encH 42 W (p + 1) sv L
  st : RowAt W b st
  turn : Turn (footH p sv0) w W
  hb : w.heap.size ≤ b
  bw : b < W.heap.size
  hs : ∀ k, sv.ownBlock = some k → (sv0.ownBlock = some k ∨ w.heap.size ≤ k) ∧ k ≠ b
  pl : p < w.heap.size
section
variable {w : World} {p : Nat} {sv0 : Value} {b : Nat} {st : List Value} {sv : Value} {L : List Hs} {W W' : World}
theorem HrAt.below (h : HrAt w p sv0 b st sv L W) (hb : Below W.heap.size W W') : HrAt w p sv0 b st sv L W' :=
  ⟨h.row.below hb, h.own.below hb, h.st.below hb, h.turn.then_ hb, h.hb, Nat.lt_of_lt_of_le h.bw hb.size, h.hs, h.pl⟩
theorem HrAt.drew (h : HrAt w p sv0 b st sv L W) : HrAt w p sv0 b st sv L W.drew := ⟨h.row.drew, h.own.drew, h.st.drew, h.turn.drew, h.hb, h.bw, h.hs, h.pl⟩
/-- the station's cells are written -/
theorem HrAt.put (h : HrAt w p sv0 b st sv L W) (i : Nat) (u : Value) (st' : List Value) (e : st' = st.set i u) : HrAt w p sv0 b st' sv L (W.setCell ⟨b, i, none⟩ u) :=
  ⟨h.row.other u (by have := h.hb; have := h.pl; omega), h.own.same fun g hg => Below.heap_setCell _ _ _ _ (h.hs g hg).2, h.st.put i u st' e, h.turn.set (p := ⟨b, i, none⟩) (Or.inr h.hb) u, h.hb, by simpa [World.setCell] using h.bw, h.hs, h.pl⟩
/-- one is appended: what holds ahead of the store, and behind it -/
theorem HrAt.grown (h : HrAt w p sv0 b st sv L W) {v' : Value} {L' : List Hs} (hown : OwnL encH 42 W' (p + 1) v' L') (hg : W.grownBy W' sv.ownBlock) (hwh : v'.ownBlock = sv.ownBlock ∨ ∃ k, v'.ownBlock = some k ∧ W.heap.size ≤ k) :
    RowAt W' p [sv] ∧ HrAt w p sv0 b st v' L' (W'.setCell ⟨p, 0, none⟩ v') := by
  have hpn : some p ≠ sv.ownBlock := fun e => by have := (h.own.ge e.symm).1; omega
  have hbn : some b ≠ sv.ownBlock := fun e => (h.hs b e.symm).2 rfl
  have hr := h.row.block (hg.block p h.row.lt hpn) hg.size
  have hwk : ∀ k, v'.ownBlock = some k → (sv0.ownBlock = some k ∨ w.heap.size ≤ k) ∧ k ≠ b := fun k hk => by
    rcases hwh with e | ⟨k', e, hk'⟩
    · exact h.hs k (e ▸ hk)
    · rw [e] at hk
      obtain rfl := Option.some.inj hk
      exact ⟨Or.inr (Nat.le_trans h.turn.size hk'), by have := h.bw; omega⟩
  exact ⟨hr, hr.put 0 v' _ rfl, hown.same fun g hg' => Below.heap_setCell _ _ _ _ (by have := (hown.ge hg').1; simp only; omega), (h.st.block (hg.block b h.bw hbn) hg.size).other v' (by have := h.hb; have := h.pl; omega),
    (turn_grown23 h.turn hg fun k hk => (h.hs k hk).1.elim (fun q => Or.inl (Or.inr q)) Or.inr).set (p := ⟨p, 0, none⟩) (Or.inl (Or.inl rfl)) v', h.hb, by have := hg.size; have := h.bw; simp [World.setCell]; omega, hwk, h.pl⟩
/-- the first ones go one place further -/
theorem HrAt.copied {g m c : Nat} (h : HrAt w p sv0 b st (.slice (some ⟨g, 0, none⟩) m c) L W) (vs : List Value) : RowAt (W.setCells g encH.n vs) p [.slice (some ⟨g, 0, none⟩) m c] ∧ RowAt (W.setCells g encH.n vs) b st := by
  have hs := (setCells_rest g vs encH.n W).2.2.2
  have hpn : p ≠ g := fun e => by have := (h.own.ge (g := g) rfl).1; omega
  exact ⟨h.row.block (setCells_block g vs encH.n W p hpn) (Nat.le_of_eq hs.symm), h.st.block (setCells_block g vs encH.n W b (h.hs g rfl).2.symm) (Nat.le_of_eq hs.symm)⟩
theorem HrAt.moved {g m c i : Nat} (h : HrAt w p sv0 b st (.slice (some ⟨g, 0, none⟩) m c) L W) (hi : i < L.length) (x : Hs) : HrAt w p sv0 b st (.slice (some ⟨g, 0, none⟩) m c) (x :: L.eraseIdx i) (((W.setCells g encH.n (flatE encH (L.take i))).drew).setCells g 0 (encH.enc x)) := by
  have hpn : p ≠ g := fun e => by have := (h.own.ge (g := g) rfl).1; omega
  have hbn := (h.hs g rfl).2.symm
  have hF : footH p sv0 g ∨ w.heap.size ≤ g := (h.hs g rfl).1.elim (fun q => Or.inl (Or.inr q)) Or.inr
  have ho := h.own.moved hi x
  have ht := (h.turn.setCells hF encH.n (flatE encH (L.take i))).setCells hF 0 (encH.enc x)
  have hp := (setCells_block g (encH.enc x) 0 (W.setCells g encH.n (flatE encH (L.take i))) p hpn).trans (setCells_block g _ encH.n W p hpn)
  have hq := (setCells_block g (encH.enc x) 0 (W.setCells g encH.n (flatE encH (L.take i))) b hbn).trans (setCells_block g _ encH.n W b hbn)
  have hs := ((setCells_rest g (encH.enc x) 0 (W.setCells g encH.n (flatE encH (L.take i)))).2.2.2).trans (setCells_rest g (flatE encH (L.take i)) encH.n W).2.2.2
  have e := drew_setCells g (encH.enc x) 0 (W.setCells g encH.n (flatE encH (L.take i)))
  have hfin : HrAt w p sv0 b st (.slice (some ⟨g, 0, none⟩) m c) (x :: L.eraseIdx i) ((W.setCells g encH.n (flatE encH (L.take i))).setCells g 0 (encH.enc x)) := by
    generalize (W.setCells g encH.n (flatE encH (L.take i))).setCells g 0 (encH.enc x) = Y at *
    exact ⟨h.row.block hp (Nat.le_of_eq hs.symm), ho, h.st.block hq (Nat.le_of_eq hs.symm), ht, h.hb, by have := h.bw; omega, h.hs, h.pl⟩
  exact Eq.mpr (congrArg (HrAt w p sv0 b st (.slice (some ⟨g, 0, none⟩) m c) (x :: L.eraseIdx i)) e) hfin.drew
end
theorem set6H (X : World) (g : Nat) (cb vb : ByteArray) (cn vn k t : Int) : (X.drew).setCells g 0 (encH.enc ⟨cb, cn, vb, vn, k, t⟩) = World.drew ((((((X.setCell ⟨g, 0, none⟩ (.string cb)).setCell ⟨g, 1, none⟩ (.int .i64 cn)).setCell ⟨g, 2, none⟩ (.string vb)).setCell ⟨g, 3, none⟩ (.int .i64 vn)).setCell ⟨g, 4, none⟩ (.int .i64 k)).setCell ⟨g, 5, none⟩ (.int .i64 t)) := by
  rw [drew_setCells]
  show World.drew (X.setCells g 0 [.string cb, .int .i64 cn, .string vb, .int .i64 vn, .int .i64 k, .int .i64 t]) = _
  simp only [World.setCells, Nat.zero_add, Nat.reduceAdd]
/-- what Hear answers, and leaves -/
def HearTo (w : World) (p : Nat) (sv : Value) (M : List Hs) (e : Ending) (w' : World) : Prop :=
  e = .returned (.bool true) ∧ ∃ sv', HdAt w' p sv' M ∧ Turn (footH p sv) w w' ∧ ∀ k, sv'.ownBlock = some k → sv.ownBlock = some k ∨ w.heap.size ≤ k
theorem HrAt.out {w : World} {p : Nat} {sv0 : Value} {b : Nat} {st : List Value} {sv : Value} {M N : List Hs} {W : World} (h : HrAt w p sv0 b st sv M W) (e : N = M) (hl : N.length ≤ 8) (hs : ∀ x ∈ N, x.cb.size ≤ 1000 ∧ x.vb.size ≤ 1000) : HearTo w p sv0 N (.returned (.bool true)) W :=
  ⟨rfl, sv, ⟨h.row, by rw [e]; exact h.own, hl, hs⟩, h.turn, fun k hk => (h.hs k hk).1⟩
/-- the first one's cells are there -/
theorem first_there {w : World} {B g m c : Nat} {L : List Hs} (h : OwnL encH 42 w B (.slice (some ⟨g, 0, none⟩) m c) L) (hL : 0 < L.length) (o : Nat) (vs : List Value) (j : Nat) (hj : j < 6) : (∃ u, (w.setCells g o vs).cell? ⟨g, j, none⟩ = some u) ∧ (w.setCells g o vs).frozen? ⟨g, j, none⟩ = false := by
  obtain ⟨-, -, hc, -, cur, hg, hs, -⟩ := h.block_
  obtain ⟨c1, k1, k2, -⟩ := heap_setCells g 42 vs o w cur hg
  have e6 : cur.size = c * 6 := hs
  constructor
  · have e : (w.setCells g o vs).cell? ⟨g, j, none⟩ = c1[j]? := by unfold World.cell?; simp [k1]
    rw [e, Array.getElem?_eq_getElem (by omega)]
    exact ⟨_, rfl⟩
  · unfold World.frozen?
    simp [k1]
end Go.Proofs.YtmgfpnemamedoaaDoor
