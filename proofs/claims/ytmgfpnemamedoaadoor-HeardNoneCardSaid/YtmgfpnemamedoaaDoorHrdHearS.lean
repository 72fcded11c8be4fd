/-
The landed list's Hear, of a frame that begins with a path: a station that was heard.
-/
import Derived.Test.YtmgfpnemamedoaaDoorHrdHearF
namespace Go.Proofs.YtmgfpnemamedoaaDoor
open Go.RowKit Go.Sort
set_option maxRecDepth 20000
set_option maxHeartbeats 2000000 in
theorem hear_found23 (s : ByteArray) (now : Int) (w : World) (p : Nat) (sv : Value) (L : List Hs) (tb fb : ByteArray) (tn fn : Int) (tm fm : Bool) (D : List Ent) (h : HdAt w p sv L) (hs : s.size ≤ 100000) (hg : getP 10 [] s.data.toList = (0, (tb, tn, tm) :: (fb, fn, fm) :: D)) (hD : D.length ≤ 1000) (hfs : fb.size ≤ 1000) (hvs : (lastV D).1.size ≤ 1000)
    (i : Nat) (hi : i < L.length) (hw : whereH L (fb, fn) = i) :
    Calls Tryd.prog 9 #[ptrH p, .string s, .int .i64 now] w (HearTo w p sv (hearP L (fb, fn) (lastV D) now)) := by
  have HGE := Lib.hid (show Calls Tryd.prog 20 #[.string s] w fun e w' => (∃ da dc r7, e = .returned (.tuple #[.agg #[.string tb, .int .i64 tn, .string fb, .int .i64 fn, .bool tm, .bool fm, .slice da D.length dc], .int .i64 r7, .int .i64 0]) ∧ EntsAt w' da dc D) ∧ Below w.heap.size w w' from (pget_any s w hs).mono fun e w' hq => by
    rw [hg] at hq
    obtain ⟨x', y', D', da, dc, e1, e2, e3⟩ := hq.2.1 rfl
    simp only [List.cons.injEq] at e1
    obtain ⟨rfl, rfl, rfl⟩ := e1
    exact ⟨⟨da, dc, _, e2, e3⟩, hq.2.2⟩)
  obtain ⟨⟨vb, vn⟩, hv⟩ : ∃ v, v = lastV D := ⟨_, rfl⟩
  have HVI := Lib.hid (fun da dc W hE => cvia23 tb fb tn fn tm fm da dc D W hD hE)
  rw [← hv] at HVI hvs ⊢
  have HIS := Lib.hid (fun W => cis23 (fb, fn) W)
  have HWH := Lib.hid (fun b sv' W (hr : RowAt W p [sv']) (ho : OwnL encH 42 W (p + 1) sv' L) hr' => cwhere23 b (fb, fn) p sv' L W ⟨hr, ho, h.len, h.small⟩ hr')
  have hfo : foundH L (fb, fn) = (i : Int) := by unfold foundH; rw [hw, if_pos hi]
  rw [hfo] at HWH
  obtain ⟨kc, hkc⟩ : ∃ kc, kc = L[i].cnt := ⟨_, rfl⟩
  obtain ⟨k2, hk2⟩ : ∃ k2, k2 = IntKind.i64.wrap (1 + kc) := ⟨_, rfl⟩
  have HFIN := Lib.hid (show hearP L (fb, fn) (vb, vn) now = ⟨fb, fn, vb, vn, k2, now⟩ :: L.eraseIdx i from by rw [hear_found L (fb, fn) (vb, vn) now h.len i hi hw, hk2, hkc])
  have H8 := Lib.hid h.len
  have HK2 := Lib.hid (show IntKind.i64.wrap (1 + kc) = k2 from hk2.symm)
  have HKC := Lib.hid (fun (W : World) (g c : Nat) (ho : OwnL encH 42 W (p + 1) (.slice (some ⟨g, 0, none⟩) L.length c) L) => show W.cell? ⟨g, i * 6 + 4, none⟩ = some (.int .i64 kc) from by
    obtain ⟨a', c', e, h'⟩ := ho.see
    cases e
    have := h'.get i hi 4 (u := .int .i64 kc) (by rw [hkc]; rfl)
    simpa only [show encH.n = 6 from rfl, Nat.zero_add] using this)
  clear hkc hk2
  have HI := Lib.hid hi
  have HSM := Lib.hid (hear_small L (fb, fn) (vb, vn) now h.small hfs hvs)
  have HH := Lib.hid h
  clear hv hg hD hs hfs hvs hw hfo h
  go_enter Tryd.func9, Tryd.ntmps9
  go_upto_region 4 with (go_at_call 20; (with_reducible refine HGE.out.mono ?_); rintro e w1 ⟨⟨da, dc, r7, rfl, hE⟩, hb⟩; have HB1 := Lib.hid (hb.alloc hb.size (.cells #[.string tb, .int .i64 tn, .string fb, .int .i64 fn, .bool tm, .bool fm, .slice da D.length dc] 30)); have HE1 := Lib.hid (hE.alloc (.cells #[.string tb, .int .i64 tn, .string fb, .int .i64 fn, .bool tm, .bool fm, .slice da D.length dc] 30)); have HP1 := Lib.hid (RowAt.new w1 w1.heap.size rfl [.string tb, .int .i64 tn, .string fb, .int .i64 fn, .bool tm, .bool fm, .slice da D.length dc] 30); clear hb hE)
  generalize (w1.alloc (.cells #[.string tb, .int .i64 tn, .string fb, .int .i64 fn, .bool tm, .bool fm, .slice da D.length dc] 30)) = W1 at *
  generalize w1.heap.size = q at *
  refine wp_region_held (S := fun W' => Below W1.heap.size W1 W') (by kernel_rfl) ?_
  change wpAnyH _ _ _ _ _ _ _ _ W1.drew
  have HB := Lib.hid ((Below.refl W1.heap.size W1).drew)
  have HDZ := Lib.hid (show W1.drew.heap.size = W1.heap.size from rfl)
  generalize W1.drew = wd at *
  refine wpAnyH_take (i := 0) (v := ?_) rfl (by kernel_rfl) (by kernel_rfl) (by kernel_rfl) (fun _ _ _ h => h) (Or.inl ⟨by rfl, ?_⟩) HB.out ?_
  rotate_left
  · intro w' hw'
    go_simp
    with_reducible rfl
  go_simp
  refine wpAnyH_take (i := 1) (v := ?_) rfl (by kernel_rfl) (by kernel_rfl) (by kernel_rfl) (fun _ _ _ h => h) (Or.inl ⟨by rfl, ?_⟩) HB.out ?_
  rotate_left
  · intro w' hw'
    have x2 := (HP1.out.below hw').cell 2 rfl; have x3 := (HP1.out.below hw').cell 3 rfl
    go_simp
    with_reducible rfl
  go_simp
  refine wpAnyH_take (i := 2) (v := ?_) rfl (by kernel_rfl) (by kernel_rfl) (by kernel_rfl) (fun _ _ _ h => h) (Or.inl ⟨by rfl, ?_⟩) HB.out ?_
  rotate_left
  · intro w' hw'
    have x0 := (HP1.out.below hw').cell 0 rfl; have x1 := (HP1.out.below hw').cell 1 rfl; have x2 := (HP1.out.below hw').cell 2 rfl; have x3 := (HP1.out.below hw').cell 3 rfl; have x4 := (HP1.out.below hw').cell 4 rfl; have x5 := (HP1.out.below hw').cell 5 rfl; have x6 := (HP1.out.below hw').cell 6 rfl
    go_simp
    with_reducible rfl
  go_simp
  refine wpAnyH_take (i := 4) (v := ?_) rfl (by kernel_rfl) (by kernel_rfl) (by kernel_rfl) (fun _ _ _ h => h) (Or.inl ⟨by rfl, ?_⟩) HB.out ?_
  rotate_left
  · intro w' hw'
    go_simp
    with_reducible rfl
  go_simp
  refine wpAnyH_ready (rs := [3, 6]) (by kernel_rfl) (by simp) ?_
  refine AllReadyH.cons rfl (fun K hK => ?_) (AllReadyH.cons rfl (fun K hK => ?_) AllReadyH.nil)
  focus
    go_simp
    go_at_call 21
    refine (HVI.out da dc _ (HE1.out.below HB.out)).mono ?_
    rintro e w3 ⟨rfl, hb3⟩
    have HB3 := Lib.hid (HB.out.trans (hb3.mono HB.out.size))
    clear hb3 HB
    have HB := Lib.hid HB3.out
    change K _ _
    refine hK.out _ _ HB.out (fun _ => ?_)
    clear hK K
    refine wpAnyH_take (i := 5) (v := ?_) rfl (by kernel_rfl) (by kernel_rfl) (by kernel_rfl) (fun _ _ _ h => h) (Or.inl ⟨by rfl, ?_⟩) HB.out ?_
    rotate_left
    · intro w' hw'
      go_simp
      with_reducible rfl
    go_simp
    refine wpAnyH_ready (rs := [6]) (by kernel_rfl) (by simp) ?_
    refine AllReadyH.cons rfl (fun K hK => ?_) AllReadyH.nil
    go_simp
    clear HB
    have HB := Lib.hid (show Below W1.heap.size W1 (w3.alloc (.cells #[.string ⟨#[]⟩, .int .i64 0, .string ⟨#[]⟩, .int .i64 0, .int .i64 0, .int .i64 0] 42)) from HB3.out.alloc HB3.out.size _)
    refine hK.out _ _ HB.out (fun _ => ?_)
    clear hK K
    refine wpAnyH_ready (rs := [7]) (by kernel_rfl) (by simp) ?_
    refine AllReadyH.cons rfl (fun K hK => ?_) AllReadyH.nil
    go_simp
    clear HB
    have HB := Lib.hid (show Below W1.heap.size W1 (w3.alloc (.cells #[.string fb, .int .i64 fn, .string vb, .int .i64 vn, .int .i64 1, .int .i64 now] 42)) from HB3.out.alloc HB3.out.size _)
    refine hK.out _ _ HB.out (fun _ => ?_)
    clear hK K
    refine wpAnyH_done (by kernel_rfl) ?_ _
    have HB5 := Lib.hid HB.out
    have HS5 := Lib.hid (RowAt.new w3 w3.heap.size rfl [.string fb, .int .i64 fn, .string vb, .int .i64 vn, .int .i64 1, .int .i64 now] 42)
    have HM5 := Lib.hid (show W1.heap.size ≤ w3.heap.size from HB3.out.size)
    clear HB HB3 HDZ
    generalize (w3.alloc (.cells #[.string fb, .int .i64 fn, .string vb, .int .i64 vn, .int .i64 1, .int .i64 now] 42)) = w5 at *
    generalize w3.heap.size = b at *
  rotate_left
  focus
    go_simp
    obtain ⟨w2, hw2⟩ : ∃ w2, w2 = wd.alloc (.cells #[.string ⟨#[]⟩, .int .i64 0, .string ⟨#[]⟩, .int .i64 0, .int .i64 0, .int .i64 0] 42) := ⟨_, rfl⟩
    have hb2 : Below W1.heap.size W1 w2 := by rw [hw2]; exact HB.out.alloc HB.out.size _
    have HR2 := Lib.hid (show RowAt w2 wd.heap.size [.string ⟨#[]⟩, .int .i64 0, .string ⟨#[]⟩, .int .i64 0, .int .i64 0, .int .i64 0] by rw [hw2]; exact RowAt.new wd wd.heap.size rfl [.string ⟨#[]⟩, .int .i64 0, .string ⟨#[]⟩, .int .i64 0, .int .i64 0, .int .i64 0] 42)
    rw [← hw2]
    clear hw2 HB
    have HB := Lib.hid hb2
    clear hb2
    refine hK.out _ _ HB.out (fun _ => ?_)
    clear hK K
    refine wpAnyH_ready (rs := [3]) (by kernel_rfl) (by simp) ?_
    refine AllReadyH.cons rfl (fun K hK => ?_) AllReadyH.nil
    go_simp
    go_at_call 21
    refine (HVI.out da dc _ (HE1.out.below HB.out)).mono ?_
    rintro e w3 ⟨rfl, hb3⟩
    have HB3 := Lib.hid (HB.out.trans (hb3.mono HB.out.size))
    have HR3 := Lib.hid (HR2.out.below hb3)
    clear hb3 HB HR2
    have HB := Lib.hid HB3.out
    change K _ _
    refine hK.out _ _ HB.out (fun _ => ?_)
    clear hK K
    refine wpAnyH_take (i := 5) (v := ?_) rfl (by kernel_rfl) (by kernel_rfl) (by kernel_rfl) (fun _ _ _ h => h) (Or.inl ⟨by rfl, ?_⟩) HB.out ?_
    rotate_left
    · intro w' hw'
      go_simp
      with_reducible rfl
    go_simp
    obtain ⟨x0, y0, -⟩ := HR3.out.get 0 rfl
    obtain ⟨x1, y1, -⟩ := HR3.out.get 1 rfl
    obtain ⟨x2, y2, -⟩ := HR3.out.get 2 rfl
    obtain ⟨x3, y3, -⟩ := HR3.out.get 3 rfl
    obtain ⟨x4, y4, -⟩ := HR3.out.get 4 rfl
    obtain ⟨x5, y5, -⟩ := HR3.out.get 5 rfl
    refine wpAnyH_ready (rs := [7]) (by kernel_rfl) (by simp) ?_
    refine AllReadyH.cons rfl (fun K hK => ?_) AllReadyH.nil
    go_simp
    clear x0 y0 x1 y1 x2 y2 x3 y3 x4 y4 x5 y5 HB
    have HB := Lib.hid (show Below W1.heap.size W1 ((((((w3.setCell ⟨wd.heap.size, 0, none⟩ (.string fb)).setCell ⟨wd.heap.size, 1, none⟩ (.int .i64 fn)).setCell ⟨wd.heap.size, 2, none⟩ (.string vb)).setCell ⟨wd.heap.size, 3, none⟩ (.int .i64 vn)).setCell ⟨wd.heap.size, 4, none⟩ (.int .i64 1)).setCell ⟨wd.heap.size, 5, none⟩ (.int .i64 now)) from set6_below HB3.out (Nat.le_of_eq HDZ.out.symm) _ _ _ _ _ _)
    have HS5 := Lib.hid (HR3.out.set6 (.string fb) (.int .i64 fn) (.string vb) (.int .i64 vn) (.int .i64 1) (.int .i64 now))
    refine hK.out _ _ HB.out (fun _ => ?_)
    clear hK K
    refine wpAnyH_done (by kernel_rfl) ?_ _
    have HB5 := Lib.hid HB.out
    have HM5 := Lib.hid (show W1.heap.size ≤ wd.heap.size from Nat.le_of_eq HDZ.out.symm)
    clear HB HB3 HR3
    generalize ((((((w3.setCell ⟨wd.heap.size, 0, none⟩ (.string fb)).setCell ⟨wd.heap.size, 1, none⟩ (.int .i64 fn)).setCell ⟨wd.heap.size, 2, none⟩ (.string vb)).setCell ⟨wd.heap.size, 3, none⟩ (.int .i64 vn)).setCell ⟨wd.heap.size, 4, none⟩ (.int .i64 1)).setCell ⟨wd.heap.size, 5, none⟩ (.int .i64 now)) = w5 at *
    clear HDZ
    generalize wd.heap.size = b at *
  rotate_left
  all_goals
    have HA5 := Lib.hid (show HrAt w p sv b [.string fb, .int .i64 fn, .string vb, .int .i64 vn, .int .i64 1, .int .i64 now] sv L w5 from ⟨(HH.out.row.below HB1.out).below HB5.out, (HH.out.own.below HB1.out).below HB5.out, HS5.out, Turn.of_below (HB1.out.trans (HB5.out.mono HB1.out.size)), Nat.le_trans HB1.out.size HM5.out, HS5.out.lt, fun k hk => ⟨Or.inl hk, by have := (HH.out.own.ge hk).2; have := HB1.out.size; have := HM5.out; omega⟩, HH.out.row.lt⟩)
    have e2 := (HP1.out.below HB5.out).cell 2 rfl
    have e3 := (HP1.out.below HB5.out).cell 3 rfl
    clear HB5 HS5 HM5 HB1 HE1 HP1
    obtain ⟨g, cap, hsv, hge, hgl, hAT⟩ := HA5.out.own.some_ (by omega)
    obtain ⟨n, hn⟩ : ∃ n, n = L.length := ⟨_, rfl⟩
    rw [← hn] at hsv HKC
    subst hsv
    have HCAP := Lib.hid (show i + 1 ≤ cap from by have := HA5.out.own.block_.2.2.1; omega)
    have hin : i < n := by omega
    have hn0 : 0 < n := by omega
    have d0 : decide ((0 : Int) ≤ (i : Int)) = true := decide_eq_true (by omega)
    clear hge hgl hAT hn
    go_upto_region 9 with (first
      | (go_at_call 23; (with_reducible refine (HIS.out _).mono ?_); rintro e w6 ⟨⟨bb, rfl, hge, hr⟩, hb⟩; have HA6 := Lib.hid (HA5.out.below hb); have HR6 := Lib.hid hr; clear hb hge hr e2 e3)
        | (go_at_call 22; (with_reducible refine (HWH.out bb _ _ HA6.out.row HA6.out.own HR6.out).mono ?_); rintro e w7 ⟨rfl, hb⟩; have HA7 := Lib.hid (HA6.out.below hb); have s0 := HA7.out.row.cell 0 rfl; clear hb))
    clear s0
    refine wp_region_held (S := fun W' => RowAt W' p [.slice (some ⟨g, 0, none⟩) n cap] ∧ W'.cell? ⟨g, i * 6 + 4, none⟩ = some (.int .i64 kc)) (by kernel_rfl) ?_
    change wpAnyH _ _ _ _ _ _ _ _ (World.drew _)
    have HA7d := Lib.hid HA7.out.drew
    have HB := Lib.hid (And.intro HA7d.out.row (HKC.out _ g cap HA7d.out.own))
    clear HA7
    generalize World.drew _ = W7 at *
    refine wpAnyH_take (i := 0) (v := ?_) rfl (by kernel_rfl) (by kernel_rfl) (by kernel_rfl) (fun _ _ _ h => h) (Or.inl ⟨by rfl, ?_⟩) HB.out ?_
    rotate_left
    · intro w' hw'
      go_simp
      with_reducible rfl
    go_simp
    refine wpAnyH_take (i := 2) (v := ?_) rfl (by kernel_rfl) (by kernel_rfl) (by kernel_rfl) (fun _ _ _ h => h) (Or.inl ⟨by rfl, ?_⟩) HB.out ?_
    rotate_left
    · intro w' hw'
      go_simp
      with_reducible rfl
    go_simp
    refine wpAnyH_take (i := 3) (v := ?_) rfl (by kernel_rfl) (by kernel_rfl) (by kernel_rfl) (fun _ _ _ h => h) (Or.inl ⟨by rfl, ?_⟩) HB.out ?_
    rotate_left
    · intro w' hw'
      go_simp
      with_reducible rfl
    go_simp
    refine wpAnyH_take (i := 4) (v := ?_) rfl (by kernel_rfl) (by kernel_rfl) (by kernel_rfl) (fun _ _ _ h => h) (Or.inl ⟨by rfl, ?_⟩) HB.out ?_
    rotate_left
    · intro w' hw'
      go_simp
      with_reducible rfl
    go_simp
    refine wpAnyH_take (i := 5) (v := ?_) rfl (by kernel_rfl) (by kernel_rfl) (by kernel_rfl) (fun _ _ _ h => h) (Or.inl ⟨by rfl, ?_⟩) HB.out ?_
    rotate_left
    · intro w' hw'
      have xx := hw'.1.cell 0 rfl
      go_simp
      with_reducible rfl
    go_simp
    refine wpAnyH_take (i := 6) (v := ?_) rfl (by kernel_rfl) (by kernel_rfl) (by kernel_rfl) (fun _ _ _ h => h) (Or.inl ⟨by rfl, ?_⟩) HB.out ?_
    rotate_left
    · intro w' hw'
      go_simp
      with_reducible rfl
    go_simp
    refine wpAnyH_take (i := 7) (v := ?_) rfl (by kernel_rfl) (by kernel_rfl) (by kernel_rfl) (fun _ _ _ h => h) (Or.inl ⟨by rfl, ?_⟩) HB.out ?_
    rotate_left
    · intro w' hw'
      go_simp
      with_reducible rfl
    go_simp
    refine wpAnyH_take (i := 8) (v := ?_) rfl (by kernel_rfl) (by kernel_rfl) (by kernel_rfl) (fun _ _ _ h => h) (Or.inl ⟨by rfl, ?_⟩) HB.out ?_
    rotate_left
    · intro w' hw'
      go_simp
      with_reducible rfl
    go_simp
    refine wpAnyH_take (i := 9) (v := ?_) rfl (by kernel_rfl) (by kernel_rfl) (by kernel_rfl) (fun _ _ _ h => h) (Or.inl ⟨by rfl, ?_⟩) HB.out ?_
    rotate_left
    · intro w' hw'
      have xx := hw'.2
      go_simp
      with_reducible rfl
    go_simp
    have xx := HA7d.out.st.cell 4 rfl
    refine wpAnyH_ready (rs := [1]) (by kernel_rfl) (by simp) ?_
    refine AllReadyH.cons rfl (fun K hK => ?_) AllReadyH.nil
    go_simp
    clear xx
    refine hK.out _ _ HB.out (fun _ => ?_)
    clear hK K
    refine wpAnyH_take (i := 10) (v := ?_) rfl (by kernel_rfl) (by kernel_rfl) (by kernel_rfl) (fun _ _ _ h => h) (Or.inl ⟨by rfl, ?_⟩) HB.out ?_
    rotate_left
    · intro w' hw'
      have hz := HK2.out
      go_simp
      with_reducible rfl
    go_simp
    refine wpAnyH_take (i := 11) (v := ?_) rfl (by kernel_rfl) (by kernel_rfl) (by kernel_rfl) (fun _ _ _ h => h) (Or.inl ⟨by rfl, ?_⟩) HB.out ?_
    rotate_left
    · intro w' hw'
      go_simp
      with_reducible rfl
    go_simp
    obtain ⟨xx, yy, -⟩ := HA7d.out.st.get 4 rfl
    refine wpAnyH_ready (rs := [12]) (by kernel_rfl) (by simp) ?_
    refine AllReadyH.cons rfl (fun K hK => ?_) AllReadyH.nil
    go_simp
    clear xx yy
    have HA7 := Lib.hid (HA7d.out.put 4 (.int .i64 k2) [.string fb, .int .i64 fn, .string vb, .int .i64 vn, .int .i64 k2, .int .i64 now] rfl)
    generalize W7.setCell ⟨b, 4, none⟩ (.int .i64 k2) = W8 at *
    clear HB HA7d
    have HB := Lib.hid (And.intro HA7.out.row (HKC.out _ g cap HA7.out.own))
    refine hK.out _ _ HB.out (fun _ => ?_)
    clear hK K
    refine wpAnyH_done (by kernel_rfl) ?_ _
    clear HB HKC
    go_upto_region 12 with fail
    have HA8 := Lib.hid HA7.out.drew
    clear HA7
    have hi := HI.out
    have HUP := Lib.hid (show ∀ W, (Instr.slice 43 (.slice (some ⟨g, 0, none⟩) n cap) (some (.int .i64 1)) (some (.int .i64 ((i : Int) + 1))) none).run Tryd.prog W = .ok (.slice (some (if cap = 1 then ⟨g, 0, none⟩ else ⟨g, encH.n, none⟩)) i (cap - 1)) W from fun W => run_up encH 42 43 Tryd.underlying43 rfl sizeH g n cap i HCAP.out W)
    have HLO := Lib.hid (show ∀ W, (Instr.slice 43 (.slice (some ⟨g, 0, none⟩) n cap) none (some (.int .i64 (i : Int))) none).run Tryd.prog W = .ok (.slice (some ⟨g, 0, none⟩) i cap) W from fun W => run_low encH 42 43 Tryd.underlying43 rfl sizeH g n cap i (by have := HCAP.out; omega) W)
    have HCP := Lib.hid (fun ty => run_copy_up encH 42 43 ty Tryd.underlying43 (by kernel_rfl) (W8).drew (p + 1) g n cap i L HA8.out.own hi)
    have HZ := Lib.hid (show IntKind.i64.wrap ((i : Int) + 1) = (i : Int) + 1 from i64_near _ (by omega) (by have := H8.out; omega))
    obtain ⟨ad, had⟩ : ∃ ad, ad = (if cap = 1 then (⟨g, 0, none⟩ : Addr) else ⟨g, encH.n, none⟩) := ⟨_, rfl⟩
    rw [← had] at HUP HCP
    clear had
    have HM9 := Lib.hid (HA8.out.moved hi ⟨fb, fn, vb, vn, k2, now⟩)
    have HC9 := Lib.hid (HA8.out.copied (flatE encH (L.take i)))
    refine wp_region_held (S := fun W' => RowAt W' p [.slice (some ⟨g, 0, none⟩) n cap]) (by kernel_rfl) ?_
    change wpAnyH _ _ _ _ _ _ _ _ (World.drew _)
    have HB := Lib.hid HA8.out.row
    generalize World.drew _ = W8 at *
    refine wpAnyH_take (i := 0) (v := ?_) rfl (by kernel_rfl) (by kernel_rfl) (by kernel_rfl) (fun _ _ _ h => h) (Or.inl ⟨by rfl, ?_⟩) HB.out ?_
    rotate_left
    · intro w' hw'
      go_simp
      with_reducible rfl
    go_simp
    refine wpAnyH_take (i := 1) (v := ?_) rfl (by kernel_rfl) (by kernel_rfl) (by kernel_rfl) (fun _ _ _ h => h) (Or.inl ⟨by rfl, ?_⟩) HB.out ?_
    rotate_left
    · intro w' hw'
      go_simp
      with_reducible rfl
    go_simp
    refine wpAnyH_take (i := 2) (v := ?_) rfl (by kernel_rfl) (by kernel_rfl) (by kernel_rfl) (fun _ _ _ h => h) (Or.inl ⟨by rfl, ?_⟩) HB.out ?_
    rotate_left
    · intro w' hw'
      go_simp
      with_reducible rfl
    go_simp
    refine wpAnyH_take (i := 3) (v := ?_) rfl (by kernel_rfl) (by kernel_rfl) (by kernel_rfl) (fun _ _ _ h => h) (Or.inl ⟨by rfl, ?_⟩) HB.out ?_
    rotate_left
    · intro w' hw'
      have xx := hw'.cell 0 rfl
      go_simp
      with_reducible rfl
    go_simp
    refine wpAnyH_take (i := 4) (v := ?_) rfl (by kernel_rfl) (by kernel_rfl) (by kernel_rfl) (fun _ _ _ h => h) (Or.inl ⟨by rfl, ?_⟩) HB.out ?_
    rotate_left
    · intro w' hw'
      go_simp
      with_reducible rfl
    go_simp
    refine wpAnyH_take (i := 5) (v := ?_) rfl (by kernel_rfl) (by kernel_rfl) (by kernel_rfl) (fun _ _ _ h => h) (Or.inl ⟨by rfl, ?_⟩) HB.out ?_
    rotate_left
    · intro w' hw'
      have hz := HZ.out
      go_simp
      with_reducible rfl
    go_simp
    refine wpAnyH_take (i := 6) (v := ?_) rfl (by kernel_rfl) (by kernel_rfl) (by kernel_rfl) (fun _ _ _ h => h) (Or.inl ⟨by rfl, ?_⟩) HB.out ?_
    rotate_left
    · intro w' hw'
      have hup := HUP.out w'
      go_simp
      with_reducible rfl
    go_simp
    refine wpAnyH_take (i := 7) (v := ?_) rfl (by kernel_rfl) (by kernel_rfl) (by kernel_rfl) (fun _ _ _ h => h) (Or.inl ⟨by rfl, ?_⟩) HB.out ?_
    rotate_left
    · intro w' hw'
      go_simp
      with_reducible rfl
    go_simp
    refine wpAnyH_take (i := 8) (v := ?_) rfl (by kernel_rfl) (by kernel_rfl) (by kernel_rfl) (fun _ _ _ h => h) (Or.inl ⟨by rfl, ?_⟩) HB.out ?_
    rotate_left
    · intro w' hw'
      go_simp
      with_reducible rfl
    go_simp
    refine wpAnyH_take (i := 9) (v := ?_) rfl (by kernel_rfl) (by kernel_rfl) (by kernel_rfl) (fun _ _ _ h => h) (Or.inl ⟨by rfl, ?_⟩) HB.out ?_
    rotate_left
    · intro w' hw'
      go_simp
      with_reducible rfl
    go_simp
    refine wpAnyH_take (i := 10) (v := ?_) rfl (by kernel_rfl) (by kernel_rfl) (by kernel_rfl) (fun _ _ _ h => h) (Or.inl ⟨by rfl, ?_⟩) HB.out ?_
    rotate_left
    · intro w' hw'
      have xx := hw'.cell 0 rfl
      go_simp
      with_reducible rfl
    go_simp
    refine wpAnyH_take (i := 11) (v := ?_) rfl (by kernel_rfl) (by kernel_rfl) (by kernel_rfl) (fun _ _ _ h => h) (Or.inl ⟨by rfl, ?_⟩) HB.out ?_
    rotate_left
    · intro w' hw'
      go_simp
      with_reducible rfl
    go_simp
    refine wpAnyH_take (i := 12) (v := ?_) rfl (by kernel_rfl) (by kernel_rfl) (by kernel_rfl) (fun _ _ _ h => h) (Or.inl ⟨by rfl, ?_⟩) HB.out ?_
    rotate_left
    · intro w' hw'
      have hlo := HLO.out w'
      go_simp
      with_reducible rfl
    go_simp
    refine wpAnyH_ready (rs := [13]) (by kernel_rfl) (by simp) ?_
    refine AllReadyH.cons rfl (fun K hK => ?_) AllReadyH.nil
    rw [if_pos (by kernel_rfl)]
    refine wp_copy_eq (.tmp 79) (.tmp 85) _ rfl rfl rfl (HCP.out _) ?_
    obtain ⟨X9, hX9⟩ : ∃ X9, X9 = W8.setCells g encH.n (flatE encH (L.take i)) := ⟨_, rfl⟩
    have HF9 := Lib.hid (fun j hj => first_there HA8.out.own (by omega) encH.n (flatE encH (L.take i)) j hj)
    rw [← hX9] at HM9 HC9 HF9 ⊢
    clear HB hX9 HCP HLO HUP
    have HB := Lib.hid HC9.out.1
    go_simp
    refine hK.out _ _ HB.out (fun _ => ?_)
    clear hK K
    refine wpAnyH_done (by kernel_rfl) ?_ _
    clear HB
    go_upto_region 13 with fail
    refine wp_region_held (S := fun W' => RowAt W' p [.slice (some ⟨g, 0, none⟩) n cap] ∧ RowAt W' b [.string fb, .int .i64 fn, .string vb, .int .i64 vn, .int .i64 k2, .int .i64 now]) (by kernel_rfl) ?_
    change wpAnyH _ _ _ _ _ _ _ _ (World.drew _)
    have HB := Lib.hid (And.intro HC9.out.1.drew HC9.out.2.drew)
    refine wpAnyH_take (i := 0) (v := ?_) rfl (by kernel_rfl) (by kernel_rfl) (by kernel_rfl) (fun _ _ _ h => h) (Or.inl ⟨by rfl, ?_⟩) HB.out ?_
    rotate_left
    · intro w' hw'
      go_simp
      with_reducible rfl
    go_simp
    refine wpAnyH_take (i := 1) (v := ?_) rfl (by kernel_rfl) (by kernel_rfl) (by kernel_rfl) (fun _ _ _ h => h) (Or.inl ⟨by rfl, ?_⟩) HB.out ?_
    rotate_left
    · intro w' hw'
      go_simp
      with_reducible rfl
    go_simp
    refine wpAnyH_take (i := 2) (v := ?_) rfl (by kernel_rfl) (by kernel_rfl) (by kernel_rfl) (fun _ _ _ h => h) (Or.inl ⟨by rfl, ?_⟩) HB.out ?_
    rotate_left
    · intro w' hw'
      go_simp
      with_reducible rfl
    go_simp
    refine wpAnyH_take (i := 3) (v := ?_) rfl (by kernel_rfl) (by kernel_rfl) (by kernel_rfl) (fun _ _ _ h => h) (Or.inl ⟨by rfl, ?_⟩) HB.out ?_
    rotate_left
    · intro w' hw'
      have xx := hw'.1.cell 0 rfl
      go_simp
      with_reducible rfl
    go_simp
    refine wpAnyH_take (i := 4) (v := ?_) rfl (by kernel_rfl) (by kernel_rfl) (by kernel_rfl) (fun _ _ _ h => h) (Or.inl ⟨by rfl, ?_⟩) HB.out ?_
    rotate_left
    · intro w' hw'
      have x0 := hw'.2.cell 0 rfl; have x1 := hw'.2.cell 1 rfl; have x2 := hw'.2.cell 2 rfl; have x3 := hw'.2.cell 3 rfl; have x4 := hw'.2.cell 4 rfl; have x5 := hw'.2.cell 5 rfl
      go_simp
      with_reducible rfl
    go_simp
    refine wpAnyH_take (i := 5) (v := ?_) rfl (by kernel_rfl) (by kernel_rfl) (by kernel_rfl) (fun _ _ _ h => h) (Or.inl ⟨by rfl, ?_⟩) HB.out ?_
    rotate_left
    · intro w' hw'
      go_simp
      with_reducible rfl
    go_simp
    obtain ⟨⟨u0, x0⟩, y0⟩ := HF9.out 0 (by omega)
    obtain ⟨⟨u1, x1⟩, y1⟩ := HF9.out 1 (by omega)
    obtain ⟨⟨u2, x2⟩, y2⟩ := HF9.out 2 (by omega)
    obtain ⟨⟨u3, x3⟩, y3⟩ := HF9.out 3 (by omega)
    obtain ⟨⟨u4, x4⟩, y4⟩ := HF9.out 4 (by omega)
    obtain ⟨⟨u5, x5⟩, y5⟩ := HF9.out 5 (by omega)
    refine wpAnyH_ready (rs := [6]) (by kernel_rfl) (by simp) ?_
    refine AllReadyH.cons rfl (fun K hK => ?_) AllReadyH.nil
    go_simp
    clear x0 x1 x2 x3 x4 x5 y0 y1 y2 y3 y4 y5 HB
    have hm9 := HM9.out
    rw [set6H] at hm9
    have HM := Lib.hid hm9
    clear HM9 HF9 hm9
    have HB := Lib.hid (And.intro HM.out.row HM.out.st)
    generalize World.drew ((((((X9.setCell ⟨g, 0, none⟩ (.string fb)).setCell ⟨g, 1, none⟩ (.int .i64 fn)).setCell ⟨g, 2, none⟩ (.string vb)).setCell ⟨g, 3, none⟩ (.int .i64 vn)).setCell ⟨g, 4, none⟩ (.int .i64 k2)).setCell ⟨g, 5, none⟩ (.int .i64 now)) = X10 at *
    refine hK.out _ _ HB.out (fun _ => ?_)
    clear hK K
    refine wpAnyH_done (by kernel_rfl) ?_ _
    go_wp2_with fail
    exact bodyPost_ret (v := .bool true) (by simp [results, Tryd.results9, go_sem]) rfl (HM.out.out HFIN.out (hear_len _ _ _ _) HSM.out)
end Go.Proofs.YtmgfpnemamedoaaDoor
