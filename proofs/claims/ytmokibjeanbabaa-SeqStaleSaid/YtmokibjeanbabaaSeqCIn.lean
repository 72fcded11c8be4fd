/-
The landed code's taker's window (written by tools/gen11/gen_cin.py).
-/
import Derived.Test.YtmokibjeanbabaaSeqCSet
import Derived.Test.YtmokibjeanbabaaSeqLaw
namespace Go.Proofs.Ytmokibjeanbabaa
open Go.RowKit
set_option maxRecDepth 20000
theorem zeroU (w : World) : (zeroValue 67).run Try.prog w = .ok (.agg #[]) w := by kernel_rfl
/-- the set lies so -/
abbrev OwnD (w : World) (b : Nat) (D : DataW Unit) : Prop := w.ownsMap Try.prog 3 unitElem b (Maps.size D) D
theorem OwnD.below {w w' : World} {b : Nat} {D : DataW Unit} (h : OwnD w b D) (hb : Below w.heap.size w w') : OwnD w' b D := own_same h (hb.block b h.lt)
theorem OwnD.drew {w : World} {b : Nat} {D : DataW Unit} (h : OwnD w b D) : OwnD w.drew b D := own_same h rfl
set_option maxHeartbeats 1000000 in
theorem cwaits_any (p b : Nat) (D : DataW Unit) (x0 x1 x2 : Value) (n : Int) (w : World) (h : RowAt w p [x0, x1, x2, .map (some b)]) (ho : OwnD w b D) (hn : 0 ≤ n ∧ n < 1000) : Calls Try.prog 33 #[.pointer (some ⟨p, 0, none⟩), .int .i64 n] w fun e w' =>
    e = .returned (.bool (Maps.has D (.int .i64 n))) ∧ Below w.heap.size w w' := by
  have c3 := h.cell 3 rfl
  have HO := Lib.hid ho
  have HK := Lib.hid (key_int n hn)
  have HB := Lib.hid ((Below.refl w.heap.size w).alloc (Nat.le_refl _) (.cells #[] 67))
  clear h ho hn
  generalize hq : Maps.has D (.int .i64 n) = q
  go_enter Try.func33, Try.ntmps33
  go_wp2_with (at_lookup; refine wpList_lookup_own_unit _ rfl _ _ 64 rfl 3 67 keyedI Try.underlying64 (zeroU _) b _ D rfl HO.out _ _ rfl HK.out ?_; rw [hq])
  exact bodyPost_ret (v := .bool q) (by simp [results, Try.results33, go_sem]) rfl ⟨rfl, HB.out⟩
/-- amid letting them go: the window at p, its set at b, the slice so far -/
structure IoAt (w : World) (p b : Nat) (m k x : Int) (D : DataW Unit) (tv : Value) (L : List Int) (W : World) : Prop where
  row : RowAt W p [.int .i64 m, .int .i64 k, .int .i64 x, .map (some b)]
  own : OwnD W b D
  lst : OwnL encI 3 W w.heap.size tv L
  turn : Turn (fun y => y = p ∨ y = b) w W
  lt : p < w.heap.size ∧ b < w.heap.size ∧ p ≠ b
theorem IoAt.below {w : World} {p b : Nat} {m k x : Int} {D : DataW Unit} {tv : Value} {L : List Int} {W W' : World} (h : IoAt w p b m k x D tv L W) (hb : Below W.heap.size W W') : IoAt w p b m k x D tv L W' :=
  ⟨h.row.below hb, h.own.below hb, h.lst.below hb, h.turn.then_ hb, h.lt⟩
theorem IoAt.drew {w : World} {p b : Nat} {m k x : Int} {D : DataW Unit} {tv : Value} {L : List Int} {W : World} (h : IoAt w p b m k x D tv L W) : IoAt w p b m k x D tv L W.drew :=
  ⟨h.row.drew, h.own.drew, h.lst.drew, h.turn.drew, h.lt⟩
theorem IoAt.appended {w : World} {p b : Nat} {m k x : Int} {D : DataW Unit} {tv v' : Value} {L L' : List Int} {W W' : World} (h : IoAt w p b m k x D tv L W) (o : Obj) (hg : (W.alloc o).grownBy W' tv.ownBlock) (hown : OwnL encI 3 W' w.heap.size v' L') : IoAt w p b m k x D v' L' W' := by
  have ha := h.below ((Below.refl _ W).alloc (Nat.le_refl _) o)
  have hsz : w.heap.size ≤ W.heap.size := h.turn.size
  have hge : ∀ g, tv.ownBlock = some g → w.heap.size ≤ g := fun g e => (h.lst.ge e).1
  have hlt := h.lt
  have hal : (W.alloc o).heap.size = W.heap.size + 1 := by simp
  refine ⟨ha.row.block (hg.block p (by omega) fun e => by have := hge p e.symm; omega) hg.size, own_same ha.own (hg.block b (by omega) fun e => by have := hge b e.symm; omega), hown, ?_, h.lt⟩
  have ht := ha.turn
  exact ⟨hg.os.trans ht.os, hg.tape.trans ht.tape, hg.output.trans ht.output, Nat.le_trans ht.size hg.size, fun y hy hF => (hg.block y (Nat.lt_of_lt_of_le hy ht.size) fun e => by have := hge y e.symm; omega).trans (ht.block y hy hF)⟩
theorem IoAt.del {w : World} {p b n : Nat} {m k x : Int} {D D' : DataW Unit} {tv : Value} {L : List Int} {W W' : World} (h : IoAt w p b m k x D tv L W) (ho : W'.ownsMap Try.prog 3 unitElem b n D') (hm : W.mapTurned W' b) : IoAt w p b m k x D' tv L W' := by
  have hlt := h.lt
  refine ⟨row_map h.row hm h.lt.2.2, own_tight ho, h.lst.grown hm.grown (fun g e => ?_), turn_map h.turn hm (Or.inl (Or.inr rfl)), h.lt⟩
  intro q
  cases q
  have := (h.lst.ge e).1
  omega
theorem IoAt.put {w : World} {p b : Nat} {m k x : Int} {D : DataW Unit} {tv : Value} {L : List Int} {W : World} (h : IoAt w p b m k x D tv L W) (y : Int) : IoAt w p b m k y D tv L (W.setCell ⟨p, 2, none⟩ (.int .i64 y)) := by
  have hlt := h.lt
  refine ⟨h.row.put 2 (.int .i64 y) _ rfl, h.own.setCell (a := ⟨p, 2, none⟩) (fun e => h.lt.2.2 e.symm) _, h.lst.same (fun g e => ?_), h.turn.set (p := ⟨p, 2, none⟩) (Or.inl (Or.inl rfl)) _, h.lt⟩
  have := (h.lst.ge e).1
  exact Below.heap_setCell _ _ _ _ (show g ≠ p by omega)
set_option maxHeartbeats 1000000 in
theorem cin_order (p b : Nat) (m k vr : Int) (C : List Bool) (D0 : DataW Unit) (w : World) (h : RowAt w p [.int .i64 m, .int .i64 k, .int .i64 (vr % m), .map (some b)]) (ho : OwnD w b D0) (hpb : p ≠ b) (hset : SetOk m ⟨vr, C⟩ D0) (hm : m = 8 ∨ m = 128) (hl : C.length = 128)
    (hh : ∀ i : Nat, 64 ≤ i ∨ m ≤ (i : Int) → C.getD i false = false) : Calls Try.prog 34 #[.pointer (some ⟨p, 0, none⟩)] w fun e w' =>
    ∃ v D', e = .returned v ∧ IoAt w p b m k ((vr + (runT C : Nat)) % m) D' v (outT m vr (runT C)) w' ∧ SetOk m ⟨vr + (runT C : Nat), atT C (runT C)⟩ D' := by
  obtain ⟨r, hr⟩ : ∃ r, runT C = r := ⟨_, rfl⟩
  have hr127 := runT_most hl (hh 127 (Or.inl (by omega)))
  have HLT := Lib.hid (runT_lt C)
  have HEND := Lib.hid (runT_end C)
  rw [hr] at hr127 HLT HEND ⊢
  clear hr
  have HH := Lib.hid (And.intro hm (And.intro hl hh))
  have HI0 := Lib.hid (show IoAt w p b m k (vr % m) D0 (.slice none 0 0) [] w from ⟨h, ho, OwnL.nil encI 3 w w.heap.size, Turn.refl _ _, (h.get 0 rfl).lt, ho.lt, hpb⟩)
  have HS0 := Lib.hid hset
  clear h ho hpb hset hm hl hh
  go_enter Try.func34, Try.ntmps34
  go_wp2_with fail
  go_loopw [3] (fun l wx => ∃ (t : Nat) (tv : Value), t ≤ r ∧ tv = l ∧ Hid (∃ D, IoAt w p b m k ((vr + t) % m) D tv (outT m vr t) wx ∧ SetOk m ⟨vr + (t : Nat), atT C t⟩ D)) (fun l _ => r - sliceLen l)
  case atStart => exact ⟨0, _, Nat.zero_le _, rfl, Lib.hid ⟨D0, by rw [show vr + ((0 : Nat) : Int) = vr by omega]; exact HI0.out, by rw [show vr + ((0 : Nat) : Int) = vr by omega, atT_zero]; exact HS0.out⟩⟩
  case round =>
    obtain ⟨t, tv, ht, rfl, HK⟩ := hrel
    obtain ⟨D, hI, hS⟩ := HK.out
    clear HK HI0 HS0
    have HI := Lib.hid hI
    have HLN := Lib.hid hI.lst.sliceLen
    have hhas := hS.has 0 (by rcases HH.out.1 with e | e <;> omega)
    simp only at hhas
    rw [show vr + (t : Int) + ((0 : Nat) : Int) = vr + t by omega, atT_head] at hhas
    have hq0 := rem_in m (vr + t) HH.out.1
    have HQ := Lib.hid hq0
    have HW := Lib.hid (fun W (hi : IoAt w p b m k ((vr + t) % m) D tv (outT m vr t) W) => cwaits_any p b D _ _ _ ((vr + t) % m) W hi.row hi.own hq0)
    rw [hhas] at HW
    obtain ⟨q, hq⟩ : ∃ q, (vr + (t : Int)) % m = q := ⟨_, rfl⟩
    rw [hq] at HI HQ HW hq0
    have HQQ := Lib.hid hq
    by_cases hlt : t < r
    · rw [HLT.out t hlt] at HW
      obtain ⟨q1, hq1⟩ : ∃ q1, (vr + ((t + 1 : Nat) : Int)) % m = q1 := ⟨_, rfl⟩
      have HQ1 := Lib.hid hq1
      have HST := Lib.hid (show stepD m q 1 = q1 from by
        rw [← hq, ← hq1]
        unfold stepD
        rw [show modR m = true by rcases HH.out.1 with e | e <;> subst e <;> rfl, inR_rem m _ HH.out.1, if_pos (by simp)]
        rcases HH.out.1 with e | e <;> subst e <;> omega)
      have HSN := Lib.hid (hS.next HH.out.1 (hI.own.tidy keyedI) HH.out.2.1 (by omega) HH.out.2.2 (HLT.out t hlt))
      rw [hq] at HSN
      have HNX := Lib.hid (outT_next m vr t)
      rw [hq] at HNX
      have HLO := Lib.hid (outT_len m vr t)
      have HS := Lib.hid (fun W => cstep_any m q 1 W)
      rw [HST.out] at HS
      have c2 := HI.out.row.cell 2 rfl
      have hlen : (outT m vr t).length ≤ 100000 := by rw [HLO.out]; omega
      clear hI hS hhas hq0 hq hq1
      generalize outT m vr t = Lt at *
      go_upto_region 4 with (first | (go_at_call 33; (with_reducible refine (HW.out _ HI.out).mono ?_); rintro e w2 ⟨rfl, hb⟩; have HI2 := Lib.hid (HI.out.below hb); clear hb c2; have c2 := HI2.out.row.cell 2 rfl; have HO2 := Lib.hid (HI2.out.lst.alloc (.cells #[.int .i64 q] 3)); have HM2 := Lib.hid (AtL.made encI 3 w2 w2.heap.size q [.int .i64 q] rfl rfl)) | (at_builtin; refine wpList_append_one encI 3 26 Try.underlying26 infoI rfl (by decide) _ rfl (.tmp 10) (.tmp 15) rfl w.heap.size tv Lt rfl HO2.out w2.heap.size 1 rfl q HM2.out hlen (by have := HI2.out.turn.size; simp; omega) ?_; intro v2 w3 hown hgr hwh; have HI3 := Lib.hid (HI2.out.appended _ hgr hown); clear hown hgr hwh))
      clear c2 HI2 HO2 HM2 HI HW
      have HL2 := Lib.hid (show (Lt ++ [q]).length = t + 1 from by rw [List.length_append, HLO.out]; rfl)
      rw [HLO.out] at HLN
      generalize Lt ++ [q] = L2 at *
      refine wp_region_upto 8 0 (fun W W' => Below W.heap.size W W') (fun W => IoAt w p b m k q D v2 L2 W)
        (factsOf [.is (.pointer (some ⟨p, 0, none⟩)), .is (.pointer (some ⟨p, 0, none⟩)), .is (.pointer (some ⟨p, 3, none⟩)), .is (.map (some b)), .is (.pointer (some ⟨p, 0, none⟩)), .is (.pointer (some ⟨p, 0, none⟩)), .is (.pointer (some ⟨p, 2, none⟩)), .is (.int .i64 q)])
        (by kernel_rfl) rfl (by kernel_rfl) (by kernel_rfl) (facts_stay _) (fun W W' hb h => h.below hb) (fun i => [u17, u18, u19, u20, u21, u22, u23, u24].getD i undef) (by kernel_rfl) HI3.out.drew ?F1 ?hF1 ?hstep1 ?hend1
      case hF1 =>
        intro u
        simp only [List.take, fillAct]
        go_simp
        rfl
      case hstep1 =>
        clear HI3
        refine FSteps.cons ?_ ?_
        · intro u W hS hd K hK
          clear hd
          simp only [upd, reduceIte, Nat.reduceEqDiff] at hK
          go_simp
          exact hK.out _ _ (Below.refl _ _) rfl
        refine FSteps.cons ?_ ?_
        · intro u W hS hd K hK
          have h0 : u 0 = _ := hd 0 rfl
          clear hd
          simp only [upd, h0, reduceIte, Nat.reduceEqDiff] at hK
          go_simp
          exact hK.out _ _ (Below.refl _ _) rfl
        refine FSteps.cons ?_ ?_
        · intro u W hS hd K hK
          have h1 : u 1 = _ := hd 1 rfl
          clear hd
          simp only [upd, h1, reduceIte, Nat.reduceEqDiff] at hK
          go_simp
          exact hK.out _ _ (Below.refl _ _) rfl
        refine FSteps.cons ?_ ?_
        · intro u W hS hd K hK
          have h2 : u 2 = _ := hd 2 rfl
          clear hd
          simp only [upd, h2, reduceIte, Nat.reduceEqDiff] at hK
          have c0 := hS.row.cell 3 rfl
          go_simp
          exact hK.out _ _ (Below.refl _ _) rfl
        refine FSteps.cons ?_ ?_
        · intro u W hS hd K hK
          clear hd
          simp only [upd, reduceIte, Nat.reduceEqDiff] at hK
          go_simp
          exact hK.out _ _ (Below.refl _ _) rfl
        refine FSteps.cons ?_ ?_
        · intro u W hS hd K hK
          have h4 : u 4 = _ := hd 4 rfl
          clear hd
          simp only [upd, h4, reduceIte, Nat.reduceEqDiff] at hK
          go_simp
          exact hK.out _ _ (Below.refl _ _) rfl
        refine FSteps.cons ?_ ?_
        · intro u W hS hd K hK
          have h5 : u 5 = _ := hd 5 rfl
          clear hd
          simp only [upd, h5, reduceIte, Nat.reduceEqDiff] at hK
          go_simp
          exact hK.out _ _ (Below.refl _ _) rfl
        refine FSteps.cons ?_ ?_
        · intro u W hS hd K hK
          have h6 : u 6 = _ := hd 6 rfl
          clear hd
          simp only [upd, h6, reduceIte, Nat.reduceEqDiff] at hK
          have c0 := hS.row.cell 2 rfl
          go_simp
          exact hK.out _ _ (Below.refl _ _) rfl
        exact trivial
      case hend1 =>
        intro u w6 hS hd
        have h3 : u 3 = _ := hd 3 rfl
        have h7 : u 7 = _ := hd 7 rfl
        clear hd HI3
        refine wpAny_ready (rs := [8]) (by kernel_rfl) (by simp) ?_
        refine AllReady.cons rfl (fun K hK => ?_) AllReady.nil
        rw [if_pos (by kernel_rfl)]
        obtain ⟨w7, hr, hown, hmt⟩ := hS.own.drop keyedI Try.underlying64 (key_int q HQ.out) 0
        simp only [h3, h7]
        refine wp_delete_run (.tmp 20) (.tmp 24) rfl rfl rfl hr ?_
        have HI7 := Lib.hid (hS.del hown hmt)
        clear hS hr hown hmt h3 h7
        refine hK _ _ ?_
        clear hK K
        refine wpAny_done (by kernel_rfl) ?_ _
        go_upto_region 5 with (fail)
        
        refine wp_region_upto 12 0 (fun W W' => Below W.heap.size W W') (fun W => IoAt w p b m k q (D.del (.int .i64 q)) v2 L2 W)
          (factsOf [.is (.pointer (some ⟨p, 0, none⟩)), .is (.pointer (some ⟨p, 0, none⟩)), .is (.pointer (some ⟨p, 0, none⟩)), .is (.pointer (some ⟨p, 0, none⟩)), .is (.int .i64 m), .is (.pointer (some ⟨p, 0, none⟩)), .is (.pointer (some ⟨p, 0, none⟩)), .is (.pointer (some ⟨p, 2, none⟩)), .is (.int .i64 q), .is (.int .i64 q1), .is (.pointer (some ⟨p, 0, none⟩)), .is (.pointer (some ⟨p, 2, none⟩))])
          (by kernel_rfl) rfl (by kernel_rfl) (by kernel_rfl) (facts_stay _) (fun W W' hb h => h.below hb) (fun i => [u25, u26, u27, u28, u29, u30, u31, u32, u33, u34, u35, u36].getD i undef) (by kernel_rfl) HI7.out.drew ?F2 ?hF2 ?hstep2 ?hend2
        case hF2 =>
          intro u
          simp only [List.take, fillAct]
          go_simp
          rfl
        case hstep2 =>
          clear HI7
          refine FSteps.cons ?_ ?_
          · intro u W hS hd K hK
            clear hd
            simp only [upd, reduceIte, Nat.reduceEqDiff] at hK
            go_simp
            exact hK.out _ _ (Below.refl _ _) rfl
          refine FSteps.cons ?_ ?_
          · intro u W hS hd K hK
            clear hd
            simp only [upd, reduceIte, Nat.reduceEqDiff] at hK
            go_simp
            exact hK.out _ _ (Below.refl _ _) rfl
          refine FSteps.cons ?_ ?_
          · intro u W hS hd K hK
            have h1 : u 1 = _ := hd 1 rfl
            clear hd
            simp only [upd, h1, reduceIte, Nat.reduceEqDiff] at hK
            go_simp
            exact hK.out _ _ (Below.refl _ _) rfl
          refine FSteps.cons ?_ ?_
          · intro u W hS hd K hK
            have h2 : u 2 = _ := hd 2 rfl
            clear hd
            simp only [upd, h2, reduceIte, Nat.reduceEqDiff] at hK
            go_simp
            exact hK.out _ _ (Below.refl _ _) rfl
          refine FSteps.cons ?_ ?_
          · intro u W hS hd K hK
            have h3 : u 3 = _ := hd 3 rfl
            clear hd
            simp only [upd, h3, reduceIte, Nat.reduceEqDiff] at hK
            have c0 := hS.row.cell 0 rfl
            go_simp
            exact hK.out _ _ (Below.refl _ _) rfl
          refine FSteps.cons ?_ ?_
          · intro u W hS hd K hK
            clear hd
            simp only [upd, reduceIte, Nat.reduceEqDiff] at hK
            go_simp
            exact hK.out _ _ (Below.refl _ _) rfl
          refine FSteps.cons ?_ ?_
          · intro u W hS hd K hK
            have h5 : u 5 = _ := hd 5 rfl
            clear hd
            simp only [upd, h5, reduceIte, Nat.reduceEqDiff] at hK
            go_simp
            exact hK.out _ _ (Below.refl _ _) rfl
          refine FSteps.cons ?_ ?_
          · intro u W hS hd K hK
            have h6 : u 6 = _ := hd 6 rfl
            clear hd
            simp only [upd, h6, reduceIte, Nat.reduceEqDiff] at hK
            go_simp
            exact hK.out _ _ (Below.refl _ _) rfl
          refine FSteps.cons ?_ ?_
          · intro u W hS hd K hK
            have h7 : u 7 = _ := hd 7 rfl
            clear hd
            simp only [upd, h7, reduceIte, Nat.reduceEqDiff] at hK
            have c0 := hS.row.cell 2 rfl
            go_simp
            exact hK.out _ _ (Below.refl _ _) rfl
          refine FSteps.cons ?_ ?_
          · intro u W hS hd K hK
            have h4 : u 4 = _ := hd 4 rfl
            have h8 : u 8 = _ := hd 8 rfl
            clear hd
            simp only [upd, h4, h8, reduceIte, Nat.reduceEqDiff] at hK
            go_simp
            go_at_call 12
            refine (HS.out _).mono ?_
            rintro e wc ⟨rfl, hb⟩
            exact hK.out _ _ hb rfl
          refine FSteps.cons ?_ ?_
          · intro u W hS hd K hK
            have h0 : u 0 = _ := hd 0 rfl
            clear hd
            simp only [upd, h0, reduceIte, Nat.reduceEqDiff] at hK
            go_simp
            exact hK.out _ _ (Below.refl _ _) rfl
          refine FSteps.cons ?_ ?_
          · intro u W hS hd K hK
            have h10 : u 10 = _ := hd 10 rfl
            clear hd
            simp only [upd, h10, reduceIte, Nat.reduceEqDiff] at hK
            go_simp
            exact hK.out _ _ (Below.refl _ _) rfl
          exact trivial
        case hend2 =>
          intro u w6 hS hd
          have h9 : u 9 = _ := hd 9 rfl
          have h11 : u 11 = _ := hd 11 rfl
          have HI8 := Lib.hid hS
          clear hd hS HI7
          rw [h9, h11]
          have k2 := HI8.out.row.cell 2 rfl
          have kf2 := (HI8.out.row.get 2 rfl).free
          refine wpAny_ready (rs := [12]) (by kernel_rfl) (by simp) ?_
          refine AllReady.cons rfl (fun K hK => ?_) AllReady.nil
          go_simp
          refine hK _ _ ?_
          clear hK K
          refine wpAny_done (by kernel_rfl) ?_ _
          clear k2 kf2
          have HI9 := Lib.hid (HI8.out.put q1)
          go_wp2_with fail
          go_roundw
          case rel => exact ⟨t + 1, v2, hlt, rfl, Lib.hid ⟨_, by rw [HQ1.out, HNX.out]; exact HI9.out, HSN.out⟩⟩
          case measure => rw [HI9.out.lst.sliceLen, HL2.out, HLN.out]; omega
    · have htr : t = r := by omega
      subst htr
      rw [HEND.out] at HW
      have HSE := Lib.hid hS
      have c2 := HI.out.row.cell 2 rfl
      clear hI hS hhas hq0 hlt hq
      go_wp2_with (go_at_call 33; (with_reducible refine (HW.out _ HI.out).mono ?_); rintro e w2 ⟨rfl, hb⟩; have HI2 := Lib.hid (HI.out.below hb); clear hb)
      exact bodyPost_ret (v := tv) (by simp [results, Try.results34, go_sem]) rfl ⟨tv, D, rfl, by rw [HQQ.out]; exact HI2.out, HSE.out⟩
/-- how the landed taker's window lies -/
def InL : InR := fun w p m k t F => ∃ b D, RowAt w p [.int .i64 m, .int .i64 k, .int .i64 (t.vr % m), .map (some b)] ∧ OwnD w b D ∧ p ≠ b ∧ F = (fun x => x = p ∨ x = b) ∧ SetOk m t D
set_option maxHeartbeats 1000000 in
theorem cnewin_yes_narrow (k : Int) (w : World) (hk : 1 ≤ k ∧ 2 * k ≤ 8) : Calls Try.prog 25 #[.int .i64 8, .int .i64 k] w fun e w' =>
    ∃ p F, e = .returned (.tuple #[.pointer (some ⟨p, 0, none⟩), .int .i64 0]) ∧ InL w' p 8 k ⟨0, List.replicate 128 false⟩ F ∧ (∀ b, F b → w.heap.size ≤ b) ∧ Below w.heap.size w w' := by
  have HC := Lib.hid (cright_none 8 w)
  rw [show modR 8 = true from rfl] at HC
  have d0 : decide (k < 1) = false := decide_eq_false (by omega)
  have d1 : decide (4 < k) = false := decide_eq_false (by omega)
  have hmm := @run_makeMap Try.prog
  have HO := Lib.hid (World.ownsMap_made (H := Unit) w Try.prog 3 unitElem)
  have HB := Lib.hid (((Below.refl w.heap.size w).alloc (Nat.le_refl _) (.map #[] 0)).alloc (by simp) (.cells #[.int .i64 8, .int .i64 k, .int .i64 0, .map (some w.heap.size)] 66))
  have HR := Lib.hid (RowAt.new (w.alloc (.map #[] 0)) (w.heap.size + 1) (by simp) [.int .i64 8, .int .i64 k, .int .i64 0, .map (some w.heap.size)] 66)
  clear hk
  go_enter Try.func25, Try.ntmps25
  go_wp2_with (go_at_call 11; (with_reducible refine HC.out.mono ?_); rintro e w ⟨rfl, rfl⟩)
  exact bodyPost_ret (v := .tuple #[.pointer (some ⟨w.heap.size + 1, 0, none⟩), .int .i64 0]) (by simp [results, Try.results25, go_sem]) rfl
    ⟨_, _, rfl, ⟨w.heap.size, .map [], HR.out, HO.out.alloc _, by omega, rfl, SetOk.start 8⟩, fun b hb => by rcases hb with e | e <;> omega, HB.out⟩
set_option maxHeartbeats 1000000 in
theorem cnewin_no_narrow (k : Int) (w : World) (hk : k < 1 ∨ 8 < 2 * k) : Calls Try.prog 25 #[.int .i64 8, .int .i64 k] w fun e w' => e = .returned (.tuple #[.pointer none, .int .i64 1]) ∧ w' = w := by
  have HC := Lib.hid (cright_none 8 w)
  rw [show modR 8 = true from rfl] at HC
  by_cases h1 : k < 1
  · have d0 : decide (k < 1) = true := decide_eq_true h1
    clear hk h1
    go_enter Try.func25, Try.ntmps25
    go_wp2_with (go_at_call 11; (with_reducible refine HC.out.mono ?_); rintro e w ⟨rfl, rfl⟩)
    exact bodyPost_ret (v := .tuple #[.pointer none, .int .i64 1]) (by simp [results, Try.results25, go_sem]) rfl ⟨rfl, rfl⟩
  · have d0 : decide (k < 1) = false := decide_eq_false h1
    have d1 : decide (4 < k) = true := decide_eq_true (by omega)
    clear hk h1
    go_enter Try.func25, Try.ntmps25
    go_wp2_with (go_at_call 11; (with_reducible refine HC.out.mono ?_); rintro e w ⟨rfl, rfl⟩)
    exact bodyPost_ret (v := .tuple #[.pointer none, .int .i64 1]) (by simp [results, Try.results25, go_sem]) rfl ⟨rfl, rfl⟩
set_option maxHeartbeats 1000000 in
theorem cnewin_yes_wide (k : Int) (w : World) (hk : 1 ≤ k ∧ 2 * k ≤ 128) : Calls Try.prog 25 #[.int .i64 128, .int .i64 k] w fun e w' =>
    ∃ p F, e = .returned (.tuple #[.pointer (some ⟨p, 0, none⟩), .int .i64 0]) ∧ InL w' p 128 k ⟨0, List.replicate 128 false⟩ F ∧ (∀ b, F b → w.heap.size ≤ b) ∧ Below w.heap.size w w' := by
  have HC := Lib.hid (cright_none 128 w)
  rw [show modR 128 = true from rfl] at HC
  have d0 : decide (k < 1) = false := decide_eq_false (by omega)
  have d1 : decide (64 < k) = false := decide_eq_false (by omega)
  have hmm := @run_makeMap Try.prog
  have HO := Lib.hid (World.ownsMap_made (H := Unit) w Try.prog 3 unitElem)
  have HB := Lib.hid (((Below.refl w.heap.size w).alloc (Nat.le_refl _) (.map #[] 0)).alloc (by simp) (.cells #[.int .i64 128, .int .i64 k, .int .i64 0, .map (some w.heap.size)] 66))
  have HR := Lib.hid (RowAt.new (w.alloc (.map #[] 0)) (w.heap.size + 1) (by simp) [.int .i64 128, .int .i64 k, .int .i64 0, .map (some w.heap.size)] 66)
  clear hk
  go_enter Try.func25, Try.ntmps25
  go_wp2_with (go_at_call 11; (with_reducible refine HC.out.mono ?_); rintro e w ⟨rfl, rfl⟩)
  exact bodyPost_ret (v := .tuple #[.pointer (some ⟨w.heap.size + 1, 0, none⟩), .int .i64 0]) (by simp [results, Try.results25, go_sem]) rfl
    ⟨_, _, rfl, ⟨w.heap.size, .map [], HR.out, HO.out.alloc _, by omega, rfl, SetOk.start 128⟩, fun b hb => by rcases hb with e | e <;> omega, HB.out⟩
set_option maxHeartbeats 1000000 in
theorem cnewin_no_wide (k : Int) (w : World) (hk : k < 1 ∨ 128 < 2 * k) : Calls Try.prog 25 #[.int .i64 128, .int .i64 k] w fun e w' => e = .returned (.tuple #[.pointer none, .int .i64 1]) ∧ w' = w := by
  have HC := Lib.hid (cright_none 128 w)
  rw [show modR 128 = true from rfl] at HC
  by_cases h1 : k < 1
  · have d0 : decide (k < 1) = true := decide_eq_true h1
    clear hk h1
    go_enter Try.func25, Try.ntmps25
    go_wp2_with (go_at_call 11; (with_reducible refine HC.out.mono ?_); rintro e w ⟨rfl, rfl⟩)
    exact bodyPost_ret (v := .tuple #[.pointer none, .int .i64 1]) (by simp [results, Try.results25, go_sem]) rfl ⟨rfl, rfl⟩
  · have d0 : decide (k < 1) = false := decide_eq_false h1
    have d1 : decide (64 < k) = true := decide_eq_true (by omega)
    clear hk h1
    go_enter Try.func25, Try.ntmps25
    go_wp2_with (go_at_call 11; (with_reducible refine HC.out.mono ?_); rintro e w ⟨rfl, rfl⟩)
    exact bodyPost_ret (v := .tuple #[.pointer none, .int .i64 1]) (by simp [results, Try.results25, go_sem]) rfl ⟨rfl, rfl⟩
set_option maxHeartbeats 1000000 in
theorem cnewin_none (m k : Int) (w : World) (hm : modR m = false) : Calls Try.prog 25 #[.int .i64 m, .int .i64 k] w fun e w' => e = .returned (.tuple #[.pointer none, .int .i64 1]) ∧ w' = w := by
  have HC := Lib.hid (cright_none m w)
  rw [hm] at HC
  clear hm
  go_enter Try.func25, Try.ntmps25
  go_wp2_with (go_at_call 11; (with_reducible refine HC.out.mono ?_); rintro e w ⟨rfl, rfl⟩)
  exact bodyPost_ret (v := .tuple #[.pointer none, .int .i64 1]) (by simp [results, Try.results25, go_sem]) rfl ⟨rfl, rfl⟩
theorem cnewin_yes (m k : Int) (w : World) (hm : m = 8 ∨ m = 128) (hk : 1 ≤ k ∧ 2 * k ≤ m) : Calls Try.prog 25 #[.int .i64 m, .int .i64 k] w fun e w' =>
    ∃ p F, e = .returned (.tuple #[.pointer (some ⟨p, 0, none⟩), .int .i64 0]) ∧ InL w' p m k ⟨0, List.replicate 128 false⟩ F ∧ (∀ b, F b → w.heap.size ≤ b) ∧ Below w.heap.size w w' := by
  rcases hm with e | e <;> subst e
  · exact cnewin_yes_narrow k w hk
  · exact cnewin_yes_wide k w hk
theorem cnewin_no (m k : Int) (w : World) (h : modR m = false ∨ k < 1 ∨ m < 2 * k) : Calls Try.prog 25 #[.int .i64 m, .int .i64 k] w fun e w' => e = .returned (.tuple #[.pointer none, .int .i64 1]) ∧ w' = w := by
  cases hm : modR m with
  | false => exact cnewin_none m k w hm
  | true =>
    have h2 : k < 1 ∨ m < 2 * k := by
      rcases h with h | h
      · rw [hm] at h; cases h
      · exact h
    rcases modR_yes hm with e | e <;> subst e
    · exact cnewin_no_narrow k w h2
    · exact cnewin_no_wide k w h2
set_option maxHeartbeats 1000000 in
theorem cvr_any (p : Nat) (m k : Int) (t : Ti) (F : Nat → Prop) (w : World) (h : InL w p m k t F) : Calls Try.prog 28 #[.pointer (some ⟨p, 0, none⟩)] w fun e w' => e = .returned (.int .i64 (t.vr % m)) ∧ w' = w := by
  obtain ⟨b, D, hR, -⟩ := h
  have c2 := hR.cell 2 rfl
  generalize t.vr % m = x at *
  clear hR
  go_enter Try.func28, Try.ntmps28
  go_wp2_with fail
  exact bodyPost_ret (v := .int .i64 x) (by simp [results, Try.results28, go_sem]) rfl ⟨rfl, rfl⟩
set_option maxHeartbeats 1000000 in
theorem cheld_any (p : Nat) (m k : Int) (t : Ti) (F : Nat → Prop) (w : World) (h : InL w p m k t F) : Calls Try.prog 29 #[.pointer (some ⟨p, 0, none⟩)] w fun e w' => e = .returned (.int .i64 (heldT t)) ∧ w' = w := by
  obtain ⟨b, D, hR, hO, -, -, hS⟩ := h
  have hE : ((Maps.size D : Nat) : Int) = heldT t := by rw [hS.size]; rfl
  have c3 := hR.cell 3 rfl
  have HO := Lib.hid hO
  rw [← hE]
  clear hR hO hS hE
  go_enter Try.func29, Try.ntmps29
  go_wp2_with (at_len; refine wpList_len_own _ rfl _ 64 rfl 3 67 Try.underlying64 _ b _ D rfl HO.out ?_)
  exact bodyPost_ret (v := .int .i64 (Maps.size D)) (by simp [results, Try.results29, go_sem]) rfl ⟨rfl, rfl⟩
theorem last_most {c : List Bool} {k : Int} (h : ∀ i : Nat, k ≤ i → c.getD i false = false) (hk : 0 ≤ k) : (lastT c : Int) ≤ k := by
  by_cases h0 : lastT c = 0
  · omega
  · have h1 := lastT_at c (by omega)
    by_cases h2 : k ≤ ((lastT c - 1 : Nat) : Int)
    · rw [h _ h2] at h1
      cases h1
    · omega
set_option maxHeartbeats 1000000 in
theorem cmissing_any (p : Nat) (m k : Int) (t : Ti) (F : Nat → Prop) (w : World) (h : InL w p m k t F) (hok : TiOk m k t) : Calls Try.prog 31 #[.pointer (some ⟨p, 0, none⟩)] w fun e w' =>
    ∃ v, e = .returned v ∧ OwnL encI 3 w' w.heap.size v (missT m t) ∧ Below w.heap.size w w' := by
  obtain ⟨b, D, hR, hO, hpb, rfl, hS⟩ := h
  have HB0 := Lib.hid (Below.refl w.heap.size w)
  have HMD := Lib.hid hok.md
  have HI0 := Lib.hid (show IoAt w p b m k (t.vr % m) D (.slice none 0 0) [] w from ⟨hR, hO, OwnL.nil encI 3 w w.heap.size, Turn.refl _ _, (hR.get 0 rfl).lt, hO.lt, hpb⟩)
  have HHAS := Lib.hid (fun (j : Nat) (h : (j : Int) < m) => hS.has j h)
  have hlm := last_most hok.high (by have := hok.kb; omega)
  have hl0 := lastT_le t.came
  rw [hok.len] at hl0
  have hlmm : (lastT t.came : Int) < m := by have := hok.kb; have := hok.md; rcases hok.md with e | e <;> omega
  have HSZ := Lib.hid (show ((Maps.size D : Nat) : Int) = ((t.came.drop 0).count true : Nat) from by rw [hS.size, List.drop_zero])
  have HLP := Lib.hid (fun j => left_pos t.came j)
  have HLX := Lib.hid (fun j (hj : j < lastT t.came) => left_next t.came j (by rw [hok.len]; omega))
  have HCB := Lib.hid (fun j => show (t.came.drop j).count true ≤ 128 from Nat.le_trans List.count_le_length (by rw [List.length_drop, hok.len]; omega))
  have HML := Lib.hid (miss_last m t)
  have HNX := Lib.hid (fun j => missN_next m t.vr t.came j)
  have HLN := Lib.hid (fun j => missN_len m t.vr t.came j)
  have H12 := Lib.hid (fun j : Nat => show stepD m ((t.vr + j) % m) 1 = (t.vr + ((j + 1 : Nat) : Int)) % m from by
    unfold stepD
    rw [show modR m = true by rcases hok.md with e | e <;> subst e <;> rfl, inR_rem m _ hok.md, if_pos (by simp)]
    rcases hok.md with e | e <;> subst e <;> omega)
  have HE0 := Lib.hid (show t.vr % m = (t.vr + ((0 : Nat) : Int)) % m from by rw [show t.vr + ((0 : Nat) : Int) = t.vr by omega])
  have c3 := hR.cell 3 rfl
  have c2 := hR.cell 2 rfl
  have HO := Lib.hid hO
  have HMOD := Lib.hid hlmm
  clear hR hO hpb hS hok hlm
  go_enter Try.func31, Try.ntmps31
  go_wp2_with (at_len; refine wpList_len_own _ rfl _ 64 rfl 3 67 Try.underlying64 _ b _ D rfl HO.out ?_)
  clear c2 c3 HO hlmm
  go_loopw [3, 4, 5] (fun l lf n wx => ∃ (j : Nat) (tv : Value) (x : Int), j ≤ lastT t.came ∧ tv = l ∧ lf = .int .i64 x ∧ n = .int .i64 ((t.vr + j) % m) ∧ Hid (x = ((t.came.drop j).count true : Nat) ∧ IoAt w p b m k (t.vr % m) D tv (missN m t.vr t.came j) wx ∧ Below w.heap.size w wx)) (fun l lf _ _ => (128 - sliceLen l) + (intOf lf).toNat)
  case atStart => exact ⟨0, _, _, Nat.zero_le _, rfl, rfl, by rw [HE0.out], Lib.hid ⟨HSZ.out, HI0.out, HB0.out⟩⟩
  case round =>
    obtain ⟨j, tv, x, hj, rfl, rfl, rfl, HK⟩ := hrel
    obtain ⟨hx, hI, hB⟩ := HK.out
    clear HK HI0 HSZ HB0
    have HB := Lib.hid hB
    clear hB
    have HI := Lib.hid hI
    have HX := Lib.hid hx
    have hxb : 0 ≤ x ∧ x ≤ 128 := by have := HCB.out j; omega
    clear hI hx
    by_cases hlt : j < lastT t.came
    · have hx0 : 0 < x := by have := (HLP.out j).2 hlt; have := HX.out; omega
      have dx : decide (0 < x) = true := decide_eq_true hx0
      have z1 : IntKind.i64.wrap (x - 1) = x - 1 := i64_small' _ (by omega) (by omega)
      have hq0 := rem_in m (t.vr + j) HMD.out
      have HQ := Lib.hid hq0
      have HW := Lib.hid (fun W (hi : IoAt w p b m k (t.vr % m) D tv (missN m t.vr t.came j) W) => cwaits_any p b D _ _ _ ((t.vr + j) % m) W hi.row hi.own hq0)
      rw [HHAS.out j (by have := HMOD.out; omega)] at HW
      have HS := Lib.hid (fun W => cstep_any m ((t.vr + j) % m) 1 W)
      rw [H12.out j] at HS
      have HXN := Lib.hid (HLX.out j hlt)
      have HMN := Lib.hid (HNX.out j)
      have HML1 := Lib.hid (HLN.out j)
      have HSL := Lib.hid HI.out.lst.sliceLen
      generalize (t.vr + (j : Int)) % m = q at *
      generalize hLm : missN m t.vr t.came j = Lm at *
      clear hq0 hLm
      cases hc : t.came.getD j false with
      | true =>
        rw [hc] at HW HXN HMN
        clear hc
        go_wp2_with (first | (go_at_call 33; (with_reducible refine (HW.out _ HI.out).mono ?_); rintro e w2 ⟨rfl, hb⟩; have HI2 := Lib.hid (HI.out.below hb); have HB2 := Lib.hid (HB.out.trans (hb.mono HB.out.size)); clear hb; have c0 := HI2.out.row.cell 0 rfl) | (go_at_call 12; (with_reducible refine (HS.out _).mono ?_); rintro e w3 ⟨rfl, hb⟩; have HI3 := Lib.hid (HI2.out.below hb); have HB3 := Lib.hid (HB2.out.trans (hb.mono HB2.out.size)); clear hb))
        go_roundw
        case rel => exact ⟨j + 1, tv, x - 1, hlt, rfl, rfl, rfl, Lib.hid ⟨by have := HX.out; have := HXN.out; simp only [if_true] at this; omega, by have := HMN.out; simp only [if_true, List.append_nil] at this; rw [this]; exact HI3.out, HB3.out⟩⟩
        case measure => simp only [intOf]; omega
      | false =>
        rw [hc] at HW HXN HMN
        have hlen : Lm.length ≤ 100000 := by have := HML1.out; omega
        clear hc
        go_wp2_with (first | (go_at_call 33; (with_reducible refine (HW.out _ HI.out).mono ?_); rintro e w2 ⟨rfl, hb⟩; have HI2 := Lib.hid (HI.out.below hb); have HB2 := Lib.hid (HB.out.trans (hb.mono HB.out.size)); clear hb; have HO2 := Lib.hid (HI2.out.lst.alloc (.cells #[.int .i64 q] 3)); have HM2 := Lib.hid (AtL.made encI 3 w2 w2.heap.size q [.int .i64 q] rfl rfl)) | (at_builtin; refine wpList_append_one encI 3 26 Try.underlying26 infoI rfl (by decide) _ rfl (.tmp 30) (.tmp 32) rfl w.heap.size tv Lm rfl HO2.out w2.heap.size 1 rfl q HM2.out hlen (by have := HI2.out.turn.size; simp; omega) ?_; intro v2 w3 hown hgr hwh; have HI3 := Lib.hid (HI2.out.appended _ hgr hown); have HB3 := Lib.hid (HO2.out.appended (HB2.out.alloc HB2.out.size _) (Nat.le_refl _) (by have := HB2.out.size; simp; omega) hgr); clear hown hgr hwh; have c0 := HI3.out.row.cell 0 rfl) | (go_at_call 12; (with_reducible refine (HS.out _).mono ?_); rintro e w4 ⟨rfl, hb⟩; have HI4 := Lib.hid (HI3.out.below hb); have HB4 := Lib.hid (HB3.out.trans (hb.mono HB3.out.size)); clear hb))
        have HSL2 := Lib.hid HI4.out.lst.sliceLen
        go_roundw
        case rel => exact ⟨j + 1, v2, x, hlt, rfl, rfl, rfl, Lib.hid ⟨by have := HX.out; have := HXN.out; simp only [Bool.false_eq_true, if_false] at this; omega, by have := HMN.out; simp only [Bool.false_eq_true, if_false] at this; rw [this]; exact HI4.out, HB4.out⟩⟩
        case measure =>
          have h1 := HSL.out
          have h2 := HSL2.out
          have h3 := HML1.out
          rw [List.length_append] at h2
          simp only [List.length_singleton] at h2
          simp only [intOf]
          show 128 - sliceLen v2 + x.toNat < 128 - sliceLen tv + x.toNat
          omega
    · have hje : j = lastT t.came := by omega
      have dx : decide (0 < x) = false := decide_eq_false (by
        have h1 := HX.out
        have h2 := HLP.out j
        omega)
      have HEND := Lib.hid (show IoAt w p b m k (t.vr % m) D tv (missT m t) wr from by rw [← HML.out, ← hje]; exact HI.out)
      clear hje hlt hxb
      go_wp2_with fail
      exact bodyPost_ret (v := tv) (by simp [results, Try.results31, go_sem]) rfl ⟨tv, rfl, HEND.out.lst, HB.out⟩
/-- what is asked of Take -/
def CTakeTo (p : Nat) (m k : Int) (w : World) (F : Nat → Prop) (r : Ti × List Int × Int) : Ending → World → Prop := fun e w' =>
  ∃ v F', e = .returned (.tuple #[v, .int .i64 r.2.2]) ∧ OwnL encI 3 w' w.heap.size v r.2.1 ∧ InL w' p m k r.1 F' ∧ Turn F w w' ∧ Grew F F' w
theorem InL.below {w w' : World} {p : Nat} {m k : Int} {t : Ti} {F : Nat → Prop} (h : InL w p m k t F) (hb : Below w.heap.size w w') : InL w' p m k t F := by
  obtain ⟨b, D, hR, hO, r⟩ := h
  exact ⟨b, D, hR.below hb, hO.below hb, r⟩
theorem CTakeTo.same {p : Nat} {m k : Int} {t : Ti} {F : Nat → Prop} {w w' : World} {x : Int} (h : InL w p m k t F) (hb : Below w.heap.size w w') : CTakeTo p m k w F (t, [], x) (.returned (.tuple #[.slice none 0 0, .int .i64 x])) w' :=
  ⟨_, F, rfl, OwnL.nil encI 3 _ _, h.below hb, Turn.of_below hb, Grew.refl _ _⟩
/-- numbers of a right one -/
theorem take_pre {m k : Int} {t : Ti} {ns : Int} (hok : TiOk m k t) (hin : inR m ns = true) (d : Nat) (hd : farN m (t.vr % m) ns = d) :
    modR m = true ∧ (d : Int) < m ∧ (t.vr + d) % m = ns ∧ farD m (t.vr % m) ns = (d : Int) ∧ 0 ≤ ns ∧ ns < 1000 := by
  have hm : modR m = true := by rcases hok.md with e | e <;> subst e <;> rfl
  have hA := inR_rem m t.vr hok.md
  have hn := inR_yes hin
  have hf := far_most m (t.vr % m) ns (inR_yes hA) hn
  rw [hd] at hf
  refine ⟨hm, hf.2, ?_, ?_, hn.1, ?_⟩
  · exact (acks_mod m t.vr ns _ hok.md hn (by omega) (by rw [hd]; exact Int.le_refl _)).2 hd.symm
  · unfold farD
    rw [hm, hA, hin, if_pos (by simp), hd]
  · rcases hok.md with e | e <;> omega
set_option maxHeartbeats 1000000 in
theorem ctake11_bad (p : Nat) (m k : Int) (t : Ti) (F : Nat → Prop) (ns : Int) (w : World) (h : InL w p m k t F) (_hok : TiOk m k t) (hin : inR m ns = false) : Calls Try.prog 26 #[.pointer (some ⟨p, 0, none⟩), .int .i64 ns] w (CTakeTo p m k w F (takeT m k t ns)) := by
  rw [show takeT m k t ns = (t, [], 1) from by unfold takeT; rw [hin]; rfl]
  have HC := Lib.hid (cright_one m ns w)
  rw [hin, Bool.and_false] at HC
  have HE := Lib.hid (CTakeTo.same (x := 1) h ((Below.refl w.heap.size w).alloc (Nat.le_refl _) (.cells #[.int .i64 ns] 3)))
  obtain ⟨b, D, hR, -⟩ := h
  have c0 := hR.cell 0 rfl
  clear hR hin
  go_enter Try.func26, Try.ntmps26
  go_wp2_with (go_at_call 11; (with_reducible refine HC.out.mono ?_); rintro e w1 ⟨rfl, rfl⟩)
  exact bodyPost_ret (v := .tuple #[.slice none 0 0, .int .i64 1]) (by simp [results, Try.results26, go_sem]) rfl HE.out
set_option maxHeartbeats 1000000 in
theorem ctake11_there (p : Nat) (m k : Int) (t : Ti) (F : Nat → Prop) (ns : Int) (w : World) (h : InL w p m k t F) (hok : TiOk m k t) (hin : inR m ns = true) (d : Nat) (hd : farN m (t.vr % m) ns = d) (hc : t.came.getD d false = true) : Calls Try.prog 26 #[.pointer (some ⟨p, 0, none⟩), .int .i64 ns] w (CTakeTo p m k w F (takeT m k t ns)) := by
  rw [show takeT m k t ns = (t, [], 8) from by unfold takeT; rw [hin, hd, Int.toNat_natCast, hc]; rfl]
  obtain ⟨hm, hdm, hmod, hfar, hn0, hn1⟩ := take_pre (k := k) hok hin d hd
  have HC := Lib.hid (cright_one m ns w)
  rw [hin, hm] at HC
  have hB1 := (Below.refl w.heap.size w).alloc (Nat.le_refl _) (.cells #[.int .i64 ns] 3)
  have HE := Lib.hid (fun w' hb => CTakeTo.same (w' := w') (x := 8) h hb)
  obtain ⟨b, D, hR, hO, hpb, hFe, hS⟩ := h
  have HR1 := Lib.hid (hR.alloc (.cells #[.int .i64 ns] 3))
  have HO1 := Lib.hid (hO.below hB1)
  have hW := cwaits_any p b D _ _ _ ns _ HR1.out HO1.out ⟨hn0, hn1⟩
  have hhas := hS.has d hdm
  rw [hmod, hc] at hhas
  rw [hhas] at hW
  have HW := Lib.hid hW
  have HB1 := Lib.hid hB1
  have c0 := hR.cell 0 rfl
  clear hR hO hS hok hin hd hc hW hhas hB1 hFe
  go_enter Try.func26, Try.ntmps26
  go_wp2_with (first | (go_at_call 11; (with_reducible refine HC.out.mono ?_); rintro e w1 ⟨rfl, rfl⟩) | (go_at_call 33; (with_reducible refine HW.out.mono ?_); rintro e w2 ⟨rfl, hb⟩; have HB2 := Lib.hid (HB1.out.trans (hb.mono HB1.out.size)); clear hb))
  exact bodyPost_ret (v := .tuple #[.slice none 0 0, .int .i64 8]) (by simp [results, Try.results26, go_sem]) rfl (HE.out _ HB2.out)
set_option maxHeartbeats 1000000 in
theorem ctake11_far (p : Nat) (m k : Int) (t : Ti) (F : Nat → Prop) (ns : Int) (w : World) (h : InL w p m k t F) (hok : TiOk m k t) (hin : inR m ns = true) (d : Nat) (hd : farN m (t.vr % m) ns = d) (hc : t.came.getD d false = false) (hk : k ≤ (d : Int)) : Calls Try.prog 26 #[.pointer (some ⟨p, 0, none⟩), .int .i64 ns] w (CTakeTo p m k w F (takeT m k t ns)) := by
  rw [show takeT m k t ns = (t, [], 7) from by unfold takeT; rw [hin, hd, Int.toNat_natCast, hc, if_neg (by simp), if_neg (by simp), if_pos hk]]
  obtain ⟨hm, hdm, hmod, hfar, hn0, hn1⟩ := take_pre (k := k) hok hin d hd
  have HC := Lib.hid (cright_one m ns w)
  rw [hin, hm] at HC
  have hB1 := (Below.refl w.heap.size w).alloc (Nat.le_refl _) (.cells #[.int .i64 ns] 3)
  have HE := Lib.hid (fun w' hb => CTakeTo.same (w' := w') (x := 7) h hb)
  obtain ⟨b, D, hR, hO, hpb, hFe, hS⟩ := h
  have HR1 := Lib.hid (hR.alloc (.cells #[.int .i64 ns] 3))
  have HO1 := Lib.hid (hO.below hB1)
  have hW := cwaits_any p b D _ _ _ ns _ HR1.out HO1.out ⟨hn0, hn1⟩
  have hhas := hS.has d hdm
  rw [hmod, hc] at hhas
  rw [hhas] at hW
  have HW := Lib.hid hW
  have HB1 := Lib.hid hB1
  have HF := Lib.hid (fun W => cfar_any m (t.vr % m) ns W)
  rw [hfar] at HF
  have DK := Lib.hid (show decide (k ≤ (d : Int)) = true from decide_eq_true hk)
  have c0 := hR.cell 0 rfl
  clear hR hO hS hok hin hd hc hW hhas hB1 hFe hk hfar hmod
  generalize t.vr % m = A at *
  go_enter Try.func26, Try.ntmps26
  go_upto_region 5 with (first | (go_at_call 11; (with_reducible refine HC.out.mono ?_); rintro e w1 ⟨rfl, rfl⟩) | (go_at_call 33; (with_reducible refine HW.out.mono ?_); rintro e w2 ⟨rfl, hb⟩; have HB2 := Lib.hid (HB1.out.trans (hb.mono HB1.out.size)); have HR2 := Lib.hid (HR1.out.below hb); have HO2 := Lib.hid (HO1.out.below hb); clear hb))
  clear c0 HC HW HR1 HO1 HB1
  refine wp_region_facts (fun W W' => Below W.heap.size W W') (fun W => RowAt W p [.int .i64 m, .int .i64 k, .int .i64 A, .map (some b)] ∧ OwnD W b D ∧ Below w.heap.size w W)
    (factsOf [.is (.pointer (some ⟨p, 0, none⟩)), .is (.pointer (some ⟨p, 0, none⟩)), .is (.pointer (some ⟨p, 0, none⟩)), .is (.int .i64 m), .is (.pointer (some ⟨p, 0, none⟩)), .is (.pointer (some ⟨p, 0, none⟩)), .is (.pointer (some ⟨p, 2, none⟩)), .is (.int .i64 A), .is (.int .i64 ns), .is (.int .i64 (d : Int)), .is (.pointer (some ⟨p, 0, none⟩)), .is (.pointer (some ⟨p, 0, none⟩)), .is (.pointer (some ⟨p, 1, none⟩)), .is (.int .i64 k), .is (.bool true), .is (.bool true)])
    (by kernel_rfl) (by kernel_rfl) (facts_stay _) (fun W W' hb h => ⟨h.1.below hb, h.2.1.below hb, h.2.2.trans (hb.mono h.2.2.size)⟩) (fun _ => undef) (by kernel_rfl) ⟨HR2.out.drew, HO2.out.drew, HB2.out.drew⟩ ?F3 ?hF3 ?hstep3 ?hend3
  case hF3 =>
    intro u
    simp only [fillAct]
    go_simp
    rfl
  case hstep3 =>
    clear HR2 HO2 HB2
    refine FSteps.cons ?_ ?_
    · intro u W hS hd K hK
      clear hd
      simp only [upd, reduceIte, Nat.reduceEqDiff] at hK
      go_simp
      exact hK.out _ _ (Below.refl _ _) rfl
    refine FSteps.cons ?_ ?_
    · intro u W hS hd K hK
      have h0 : u 0 = _ := hd 0 rfl
      clear hd
      simp only [upd, h0, reduceIte, Nat.reduceEqDiff] at hK
      go_simp
      exact hK.out _ _ (Below.refl _ _) rfl
    refine FSteps.cons ?_ ?_
    · intro u W hS hd K hK
      have h1 : u 1 = _ := hd 1 rfl
      clear hd
      simp only [upd, h1, reduceIte, Nat.reduceEqDiff] at hK
      go_simp
      exact hK.out _ _ (Below.refl _ _) rfl
    refine FSteps.cons ?_ ?_
    · intro u W hS hd K hK
      have h2 : u 2 = _ := hd 2 rfl
      clear hd
      simp only [upd, h2, reduceIte, Nat.reduceEqDiff] at hK
      have c0 := hS.1.cell 0 rfl
      go_simp
      exact hK.out _ _ (Below.refl _ _) rfl
    refine FSteps.cons ?_ ?_
    · intro u W hS hd K hK
      clear hd
      simp only [upd, reduceIte, Nat.reduceEqDiff] at hK
      go_simp
      exact hK.out _ _ (Below.refl _ _) rfl
    refine FSteps.cons ?_ ?_
    · intro u W hS hd K hK
      have h4 : u 4 = _ := hd 4 rfl
      clear hd
      simp only [upd, h4, reduceIte, Nat.reduceEqDiff] at hK
      go_simp
      exact hK.out _ _ (Below.refl _ _) rfl
    refine FSteps.cons ?_ ?_
    · intro u W hS hd K hK
      have h5 : u 5 = _ := hd 5 rfl
      clear hd
      simp only [upd, h5, reduceIte, Nat.reduceEqDiff] at hK
      go_simp
      exact hK.out _ _ (Below.refl _ _) rfl
    refine FSteps.cons ?_ ?_
    · intro u W hS hd K hK
      have h6 : u 6 = _ := hd 6 rfl
      clear hd
      simp only [upd, h6, reduceIte, Nat.reduceEqDiff] at hK
      have c0 := hS.1.cell 2 rfl
      go_simp
      exact hK.out _ _ (Below.refl _ _) rfl
    refine FSteps.cons ?_ ?_
    · intro u W hS hd K hK
      clear hd
      simp only [upd, reduceIte, Nat.reduceEqDiff] at hK
      go_simp
      exact hK.out _ _ (Below.refl _ _) rfl
    refine FSteps.cons ?_ ?_
    · intro u W hS hd K hK
      have h3 : u 3 = _ := hd 3 rfl
      have h7 : u 7 = _ := hd 7 rfl
      have h8 : u 8 = _ := hd 8 rfl
      clear hd
      simp only [upd, h3, h7, h8, reduceIte, Nat.reduceEqDiff] at hK
      go_simp
      go_at_call 10
      refine (HF.out _).mono ?_
      rintro e wc ⟨rfl, hb⟩
      exact hK.out _ _ hb rfl
    refine FSteps.cons ?_ ?_
    · intro u W hS hd K hK
      clear hd
      simp only [upd, reduceIte, Nat.reduceEqDiff] at hK
      go_simp
      exact hK.out _ _ (Below.refl _ _) rfl
    refine FSteps.cons ?_ ?_
    · intro u W hS hd K hK
      have h10 : u 10 = _ := hd 10 rfl
      clear hd
      simp only [upd, h10, reduceIte, Nat.reduceEqDiff] at hK
      go_simp
      exact hK.out _ _ (Below.refl _ _) rfl
    refine FSteps.cons ?_ ?_
    · intro u W hS hd K hK
      have h11 : u 11 = _ := hd 11 rfl
      clear hd
      simp only [upd, h11, reduceIte, Nat.reduceEqDiff] at hK
      go_simp
      exact hK.out _ _ (Below.refl _ _) rfl
    refine FSteps.cons ?_ ?_
    · intro u W hS hd K hK
      have h12 : u 12 = _ := hd 12 rfl
      clear hd
      simp only [upd, h12, reduceIte, Nat.reduceEqDiff] at hK
      have c0 := hS.1.cell 1 rfl
      go_simp
      exact hK.out _ _ (Below.refl _ _) rfl
    refine FSteps.cons ?_ ?_
    · intro u W hS hd K hK
      have h9 : u 9 = _ := hd 9 rfl
      have h13 : u 13 = _ := hd 13 rfl
      clear hd
      simp only [upd, h9, h13, reduceIte, Nat.reduceEqDiff] at hK
      have dk := DK.out
      go_simp
      exact hK.out _ _ (Below.refl _ _) rfl
    refine FSteps.cons ?_ ?_
    · intro u W hS hd K hK
      have h14 : u 14 = _ := hd 14 rfl
      clear hd
      simp only [upd, h14, reduceIte, Nat.reduceEqDiff] at hK
      go_simp
      exact hK.out _ _ (Below.refl _ _) rfl
    exact trivial
  case hend3 =>
    intro u w6 hS hd
    have h15 : u 15 = _ := hd 15 rfl
    have HR6 := Lib.hid hS.1
    have HO6 := Lib.hid hS.2.1
    have HB6 := Lib.hid hS.2.2
    clear hd hS HR2 HO2 HB2
    rw [h15]
    go_wp2_with fail
    exact bodyPost_ret (v := .tuple #[.slice none 0 0, .int .i64 7]) (by simp [results, Try.results26, go_sem]) rfl (HE.out _ HB6.out)
set_option maxHeartbeats 1000000 in
theorem ctake11_in (p : Nat) (m k : Int) (t : Ti) (F : Nat → Prop) (ns : Int) (w : World) (h : InL w p m k t F) (hok : TiOk m k t) (hin : inR m ns = true) (d : Nat) (hd : farN m (t.vr % m) ns = d) (hc : t.came.getD d false = false) (hk : (d : Int) < k) : Calls Try.prog 26 #[.pointer (some ⟨p, 0, none⟩), .int .i64 ns] w (CTakeTo p m k w F (takeT m k t ns)) := by
  rw [takeT_in m k t ns d hin hd hc hk]
  obtain ⟨hm, hdm, hmod, hfar, hn0, hn1⟩ := take_pre (k := k) hok hin d hd
  have HC := Lib.hid (cright_one m ns w)
  rw [hin, hm] at HC
  have hB1 := (Below.refl w.heap.size w).alloc (Nat.le_refl _) (.cells #[.int .i64 ns] 3)
  obtain ⟨b, D, hR, hO, hpb, hFe, hS⟩ := h
  have HR1 := Lib.hid (hR.alloc (.cells #[.int .i64 ns] 3))
  have HO1 := Lib.hid (hO.below hB1)
  have hW := cwaits_any p b D _ _ _ ns _ HR1.out HO1.out ⟨hn0, hn1⟩
  have hhas := hS.has d hdm
  rw [hmod, hc] at hhas
  rw [hhas] at hW
  have HW := Lib.hid hW
  have HB1 := Lib.hid hB1
  have HF := Lib.hid (fun W => cfar_any m (t.vr % m) ns W)
  rw [hfar] at HF
  have DK := Lib.hid (show decide (k ≤ (d : Int)) = false from decide_eq_false (by omega))
  have hSP := hS.put hok.md (hO.tidy keyedI) hok.len d hdm hc
  rw [hmod] at hSP
  have hroom : Maps.size D < maxLen := by
    rw [hS.size]
    have : t.came.count true ≤ 128 := Nat.le_trans List.count_le_length (by rw [hok.len]; omega)
    unfold maxLen
    omega
  have hCl : (t.came.set d true).length = 128 := by rw [List.length_set]; exact hok.len
  have hHH : ∀ i : Nat, 64 ≤ i ∨ m ≤ (i : Int) → (t.came.set d true).getD i false = false := fun i hi => by
    have hki : k ≤ (i : Int) := by have := hok.kb; rcases hok.md with e | e <;> omega
    rw [List.getD_eq_getElem?_getD, List.getElem?_set_ne (by omega), ← List.getD_eq_getElem?_getD]
    exact hok.high i hki
  have HIO := Lib.hid (fun W (hr : RowAt W p [.int .i64 m, .int .i64 k, .int .i64 (t.vr % m), .map (some b)]) ho => cin_order p b m k t.vr (t.came.set d true) _ W hr ho hpb hSP hok.md hCl hHH)
  have HKN := Lib.hid (key_int ns ⟨hn0, hn1⟩)
  have c0 := hR.cell 0 rfl
  clear hR hO hS hok hin hd hc hW hhas hB1 hk hfar hmod hSP hCl hHH
  generalize t.came.set d true = C at *
  generalize hA : t.vr % m = A at *
  clear hA
  unfold CTakeTo
  go_enter Try.func26, Try.ntmps26
  go_upto_region 5 with (first | (go_at_call 11; (with_reducible refine HC.out.mono ?_); rintro e w1 ⟨rfl, rfl⟩) | (go_at_call 33; (with_reducible refine HW.out.mono ?_); rintro e w2 ⟨rfl, hb⟩; have HB2 := Lib.hid (HB1.out.trans (hb.mono HB1.out.size)); have HR2 := Lib.hid (HR1.out.below hb); have HO2 := Lib.hid (HO1.out.below hb); clear hb))
  clear c0 HC HW HR1 HO1 HB1
  refine wp_region_facts (fun W W' => Below W.heap.size W W') (fun W => RowAt W p [.int .i64 m, .int .i64 k, .int .i64 A, .map (some b)] ∧ OwnD W b D ∧ Below w.heap.size w W)
    (factsOf [.is (.pointer (some ⟨p, 0, none⟩)), .is (.pointer (some ⟨p, 0, none⟩)), .is (.pointer (some ⟨p, 0, none⟩)), .is (.int .i64 m), .is (.pointer (some ⟨p, 0, none⟩)), .is (.pointer (some ⟨p, 0, none⟩)), .is (.pointer (some ⟨p, 2, none⟩)), .is (.int .i64 A), .is (.int .i64 ns), .is (.int .i64 (d : Int)), .is (.pointer (some ⟨p, 0, none⟩)), .is (.pointer (some ⟨p, 0, none⟩)), .is (.pointer (some ⟨p, 1, none⟩)), .is (.int .i64 k), .is (.bool false), .is (.bool false)])
    (by kernel_rfl) (by kernel_rfl) (facts_stay _) (fun W W' hb h => ⟨h.1.below hb, h.2.1.below hb, h.2.2.trans (hb.mono h.2.2.size)⟩) (fun _ => undef) (by kernel_rfl) ⟨HR2.out.drew, HO2.out.drew, HB2.out.drew⟩ ?F4 ?hF4 ?hstep4 ?hend4
  case hF4 =>
    intro u
    simp only [fillAct]
    go_simp
    rfl
  case hstep4 =>
    clear HR2 HO2 HB2
    refine FSteps.cons ?_ ?_
    · intro u W hS hd K hK
      clear hd
      simp only [upd, reduceIte, Nat.reduceEqDiff] at hK
      go_simp
      exact hK.out _ _ (Below.refl _ _) rfl
    refine FSteps.cons ?_ ?_
    · intro u W hS hd K hK
      have h0 : u 0 = _ := hd 0 rfl
      clear hd
      simp only [upd, h0, reduceIte, Nat.reduceEqDiff] at hK
      go_simp
      exact hK.out _ _ (Below.refl _ _) rfl
    refine FSteps.cons ?_ ?_
    · intro u W hS hd K hK
      have h1 : u 1 = _ := hd 1 rfl
      clear hd
      simp only [upd, h1, reduceIte, Nat.reduceEqDiff] at hK
      go_simp
      exact hK.out _ _ (Below.refl _ _) rfl
    refine FSteps.cons ?_ ?_
    · intro u W hS hd K hK
      have h2 : u 2 = _ := hd 2 rfl
      clear hd
      simp only [upd, h2, reduceIte, Nat.reduceEqDiff] at hK
      have c0 := hS.1.cell 0 rfl
      go_simp
      exact hK.out _ _ (Below.refl _ _) rfl
    refine FSteps.cons ?_ ?_
    · intro u W hS hd K hK
      clear hd
      simp only [upd, reduceIte, Nat.reduceEqDiff] at hK
      go_simp
      exact hK.out _ _ (Below.refl _ _) rfl
    refine FSteps.cons ?_ ?_
    · intro u W hS hd K hK
      have h4 : u 4 = _ := hd 4 rfl
      clear hd
      simp only [upd, h4, reduceIte, Nat.reduceEqDiff] at hK
      go_simp
      exact hK.out _ _ (Below.refl _ _) rfl
    refine FSteps.cons ?_ ?_
    · intro u W hS hd K hK
      have h5 : u 5 = _ := hd 5 rfl
      clear hd
      simp only [upd, h5, reduceIte, Nat.reduceEqDiff] at hK
      go_simp
      exact hK.out _ _ (Below.refl _ _) rfl
    refine FSteps.cons ?_ ?_
    · intro u W hS hd K hK
      have h6 : u 6 = _ := hd 6 rfl
      clear hd
      simp only [upd, h6, reduceIte, Nat.reduceEqDiff] at hK
      have c0 := hS.1.cell 2 rfl
      go_simp
      exact hK.out _ _ (Below.refl _ _) rfl
    refine FSteps.cons ?_ ?_
    · intro u W hS hd K hK
      clear hd
      simp only [upd, reduceIte, Nat.reduceEqDiff] at hK
      go_simp
      exact hK.out _ _ (Below.refl _ _) rfl
    refine FSteps.cons ?_ ?_
    · intro u W hS hd K hK
      have h3 : u 3 = _ := hd 3 rfl
      have h7 : u 7 = _ := hd 7 rfl
      have h8 : u 8 = _ := hd 8 rfl
      clear hd
      simp only [upd, h3, h7, h8, reduceIte, Nat.reduceEqDiff] at hK
      go_simp
      go_at_call 10
      refine (HF.out _).mono ?_
      rintro e wc ⟨rfl, hb⟩
      exact hK.out _ _ hb rfl
    refine FSteps.cons ?_ ?_
    · intro u W hS hd K hK
      clear hd
      simp only [upd, reduceIte, Nat.reduceEqDiff] at hK
      go_simp
      exact hK.out _ _ (Below.refl _ _) rfl
    refine FSteps.cons ?_ ?_
    · intro u W hS hd K hK
      have h10 : u 10 = _ := hd 10 rfl
      clear hd
      simp only [upd, h10, reduceIte, Nat.reduceEqDiff] at hK
      go_simp
      exact hK.out _ _ (Below.refl _ _) rfl
    refine FSteps.cons ?_ ?_
    · intro u W hS hd K hK
      have h11 : u 11 = _ := hd 11 rfl
      clear hd
      simp only [upd, h11, reduceIte, Nat.reduceEqDiff] at hK
      go_simp
      exact hK.out _ _ (Below.refl _ _) rfl
    refine FSteps.cons ?_ ?_
    · intro u W hS hd K hK
      have h12 : u 12 = _ := hd 12 rfl
      clear hd
      simp only [upd, h12, reduceIte, Nat.reduceEqDiff] at hK
      have c0 := hS.1.cell 1 rfl
      go_simp
      exact hK.out _ _ (Below.refl _ _) rfl
    refine FSteps.cons ?_ ?_
    · intro u W hS hd K hK
      have h9 : u 9 = _ := hd 9 rfl
      have h13 : u 13 = _ := hd 13 rfl
      clear hd
      simp only [upd, h9, h13, reduceIte, Nat.reduceEqDiff] at hK
      have dk := DK.out
      go_simp
      exact hK.out _ _ (Below.refl _ _) rfl
    refine FSteps.cons ?_ ?_
    · intro u W hS hd K hK
      have h14 : u 14 = _ := hd 14 rfl
      clear hd
      simp only [upd, h14, reduceIte, Nat.reduceEqDiff] at hK
      go_simp
      exact hK.out _ _ (Below.refl _ _) rfl
    exact trivial
  case hend4 =>
    intro u w6 hS hd
    have h15 : u 15 = _ := hd 15 rfl
    have HR6 := Lib.hid hS.1
    have HO6 := Lib.hid hS.2.1
    have HB6 := Lib.hid hS.2.2
    clear hd hS HR2 HO2 HB2
    rw [h15]
    have c3 := HR6.out.cell 3 rfl
    go_wp2_with (first | (at_mapUpdate; refine wpList_mapUpdate_in _ rfl _ _ _ 64 rfl 3 67 keyedI Try.underlying64 unitElem b _ D rfl HO6.out hroom _ _ _ rfl rfl HKN.out (.agg []) [] unitElem_mk ?_; intro w5 hown hmt; have HR7 := Lib.hid (row_map HR6.out hmt hpb); have HO7 := Lib.hid (own_tight hown); have HT7 := Lib.hid (turn_map (F := fun x => x = p ∨ x = b) (Turn.of_below HB6.out) hmt (Or.inl (Or.inr rfl))); clear hown hmt c3) | (go_at_call 34; (with_reducible refine (HIO.out _ HR7.out HO7.out).mono ?_); rintro e w8 ⟨v8, D8, rfl, hi8, hs8⟩; have HI8 := Lib.hid hi8; have HS8 := Lib.hid hs8; clear hi8 hs8))
    refine bodyPost_ret (v := .tuple #[v8, .int .i64 0]) (by simp [results, Try.results26, go_sem]) rfl ⟨v8, _, rfl, HI8.out.lst.base HT7.out.size, ⟨b, D8, HI8.out.row, HI8.out.own, hpb, rfl, HS8.out⟩, ?_, ?_⟩
    · rw [hFe]
      exact HT7.out.trans HI8.out.turn (Grew.refl _ _)
    · rw [hFe]
      exact Grew.refl _ _
theorem ctake11_any (p : Nat) (m k : Int) (t : Ti) (F : Nat → Prop) (ns : Int) (w : World) (h : InL w p m k t F) (hok : TiOk m k t) : Calls Try.prog 26 #[.pointer (some ⟨p, 0, none⟩), .int .i64 ns] w (CTakeTo p m k w F (takeT m k t ns)) := by
  cases hin : inR m ns with
  | false => exact ctake11_bad p m k t F ns w h hok hin
  | true =>
    have hf := far_most m (t.vr % m) ns (inR_yes (inR_rem m t.vr hok.md)) (inR_yes hin)
    obtain ⟨d, hd⟩ : ∃ d : Nat, farN m (t.vr % m) ns = d := ⟨(farN m (t.vr % m) ns).toNat, by omega⟩
    cases hc : t.came.getD d false with
    | true => exact ctake11_there p m k t F ns w h hok hin d hd hc
    | false =>
      by_cases hk : k ≤ (d : Int)
      · exact ctake11_far p m k t F ns w h hok hin d hd hc hk
      · exact ctake11_in p m k t F ns w h hok hin d hd hc (by omega)
theorem InL.stay {w w' : World} {p : Nat} {m k : Int} {t : Ti} {F : Nat → Prop} (h : InL w p m k t F) (hs : SameOn F w w') : InL w' p m k t F := by
  obtain ⟨b, D, hR, hO, hpb, rfl, hS⟩ := h
  exact ⟨b, D, hR.block (hs.2 p (Or.inl rfl)) hs.1, own_same hO (hs.2 b (Or.inr rfl)), hpb, rfl, hS⟩
/-- all that is asked of it -/
theorem inC : InC InL where
  mem := fun ⟨b, D, hR, hO, _, hF, _⟩ x hx => by
    rw [hF] at hx
    rcases hx with e | e
    · rw [e]; exact (hR.get 0 rfl).lt
    · rw [e]; exact hO.lt
  stay := fun h hs => h.stay hs
  new := fun m k w hm hk => cnewin_yes m k w hm hk
  take := fun p m k t F ns w h hok _ => ctake11_any p m k t F ns w h hok
  vr := fun p m k t F w h _ => (cvr_any p m k t F w h).mono fun e w' ⟨he, hw⟩ => ⟨he, hw ▸ Below.refl _ _⟩
  held := fun p m k t F w h _ => (cheld_any p m k t F w h).mono fun e w' ⟨he, hw⟩ => ⟨he, hw ▸ Below.refl _ _⟩
end Go.Proofs.Ytmokibjeanbabaa
