/-
The landed table: Take of a SABM, from whom there is no link to.
-/
import Derived.Test.YtgoaepjjegblnaaGreatDoorMix38
import Derived.Test.YtgoaepjjegblnaaGreatDoorMix39
import Derived.Test.YtgoaepjjegblnaaGreatDoorMix40
import Derived.Test.YtgoaepjjegblnaaGreatDoorMix41
namespace Go.Proofs.YtgoaepjjegblnaaGreatDoor
open Go.RowKit Go.Sort
set_option maxRecDepth 20000
theorem cmakes21 (k : Int) (hk : k = 6) (v : Value) (w : World) : Calls Tryz.prog 147 #[v, .int .i64 k] w fun e w' => e = .returned (.bool true) ∧ w' = w := by
  subst hk
  go_enter Tryz.func147, Tryz.ntmps147
  go_wp2_with fail
  exact bodyPost_ret (v := .bool true) (by simp [results, Tryz.results147, go_sem]) rfl ⟨rfl, rfl⟩
theorem run_state (s : Lk) (b : Bool) : (s.run b).state = s.state := by
  unfold Lk.run
  split
  · rfl
  · split <;> rfl
/-- a SABM's link -/
def sabmS (T : Tb) (f : Fi) : Lk × Ot := (newK ⟨f.fb, f.fn, f.tb, f.tn, []⟩ T.can).takeCall noO f
theorem sabm_facts (T : Tb) (f : Fi) (hk : f.kind = 6) : (sabmS T f).1.state = 3 ∧ (sabmS T f).2.frames = [⟨backW f, false, 10, 0, 0, f.pf, 0, ⟨#[]⟩⟩] ∧ (sabmS T f).2.fresh = true := by
  have e : sabmS T f = ({ newK ⟨f.fb, f.fn, f.tb, f.tn, []⟩ T.can with way := backW f } : Lk).rise (({ newK ⟨f.fb, f.fn, f.tb, f.tn, []⟩ T.can with way := backW f } : Lk).answer noO f 10) false := by
    unfold sabmS Lk.takeCall
    have h7 : ¬ f.kind = 7 := by rw [hk]; decide
    simp [h7, newK]
  rw [e]
  refine ⟨?_, rfl, rfl⟩
  exact run_state _ _
def TakeTo (w : World) (p : Nat) (tv : Value) (L : List En) (T : Tb) (f : Fi) (e : Ending) (w' : World) : Prop :=
  ∃ v u tv' fv ev G, e = .returned v ∧ u.id = T.given + 1 ∧ u.pb = f.fb ∧ u.pn = f.fn ∧ u.lk = (sabmS T f).1 ∧
    TbAt w' p tv' (L ++ [u]) { T with given := T.given + 1, ents := T.ents ++ [u.ep] } ∧ ActAt w' v (T.given + 1) f.fb f.fn fv ev true ∧ OuV w' (ouV fv ev true) (sabmS T f).2 G ∧ Turn (footT p tv L) w w' ∧ Grew (footT p tv L) (footT p tv' (L ++ [u])) w
set_option maxHeartbeats 8000000 in
theorem ctake21 (w : World) (p : Nat) (tv : Value) (L : List En) (T : Tb) (s : ByteArray) (f : Fi) (n : Int) (h : TbAt w p tv L T) (hl : L.length < 4) (hg : 0 ≤ T.given ∧ T.given ≤ 100000) (hx : T.can.ok = true) (hs : s.size ≤ 1000) (hC : CodesOk w) (hfor : forD (T.ob, T.on) s.data.toList = true)
    (hget : ∀ W, Below w.heap.size w W → Calls Tryz.prog 144 #[.string s] W fun e w' => (∃ da dc, e = .returned (.tuple #[.agg #[.string f.tb, .int .i64 f.tn, .string f.fb, .int .i64 f.fn, .bool f.tm, .bool f.fm, .slice da f.D.length dc], .int .i64 n, .int .i64 0])) ∧ Below W.heap.size W w')
    (hdec : ∀ W, Below w.heap.size w W → Calls Tryz.prog 56 #[.string s, .bool false] W fun e w' => (∃ da dc, e = .returned (.tuple #[.agg #[.string f.tb, .int .i64 f.tn, .string f.fb, .int .i64 f.fn, .bool f.tm, .bool f.fm, .slice da f.D.length dc, .int .i64 f.kind, .int .i64 f.nr, .int .i64 f.ns, .bool f.pf, .int .i64 f.pid, .string f.info], .int .i64 0]) ∧ EntsAt w' da dc f.D ∧ ∀ q, da = some q → W.heap.size ≤ q.block) ∧ Below W.heap.size W w')
    (hD : f.D = []) (hk : f.kind = 6) (hne : (f.fb, f.fn) ≠ (T.ob, T.on)) (hno : L.find? (isTo f.fb f.fn) = none) (hfp : rightP ((f.tb, f.tn, f.tm) :: (f.fb, f.fn, f.fm) :: f.D) = true)
    (hw : wrongF ((f.tb, f.tn, f.tm) :: (f.fb, f.fn, f.fm) :: f.D) f.kind f.nr f.ns false f.pid f.info.size = 0) :
    Calls Tryz.prog 88 #[ptr20 p, .string s] w (TakeTo w p tv L T f) := by
  have hsz := (right_small hfp).2
  have htb := hsz (f.tb, f.tn, f.tm) (by simp)
  have hfb := hsz (f.fb, f.fn, f.fm) (by simp)
  simp only at htb hfb
  have hbk : rightP ((f.fb, f.fn, true) :: (f.tb, f.tn, false) :: []) = true := by
    have := back_ok hfp
    unfold Wy.ok backW at this
    rw [hD] at this
    exact this
  have hcf := fun W hb => cfor18 T.ob T.on s W hs (hC.below hb)
  rw [hfor] at hcf
  have hto := fun W (hb : Below w.heap.size w W) => cto21 W p tv L T f.fb f.fn (h.below hb) (by omega)
  rw [hno] at hto
  unfold enP at hto
  have hfu := fun W (hb : Below w.heap.size w W) => cfull21 W p tv L T (h.below hb) (by omega)
  rw [decide_eq_false (by omega)] at hfu
  have HT0 := Lib.hid h
  have HFO := Lib.hid hcf
  have HGE := Lib.hid hget
  have HTO := Lib.hid hto
  have HFU := Lib.hid hfu
  have HDE := Lib.hid (fun W hb => cdecode21 s f W fun W' hb' => hdec W' (Below.trans hb (hb'.mono hb.size)))
  have HMK := Lib.hid (fun v W => cmakes21 f.kind hk v W)
  have HBK := Lib.hid (fun a c W hE => cback21 f.tb f.fb f.tn f.fn f.tm f.fm true a c W (by omega) (by omega) hE)
  rw [show (!true) = false from rfl] at HBK
  have HAD := Lib.hid (fun W da dc (hb : Below w.heap.size w W) (hE : EntsAt W da dc []) => show Calls Tryz.prog 94 #[ptr20 p, pthV20 f.fb f.fn f.tb f.tn true false da 0 dc] W (AddTo W p tv L T ⟨f.fb, f.fn, f.tb, f.tn, []⟩) from cadd21 W p tv L T f.fb f.tb f.fn f.tn da dc [] (h.below hb) (by omega) hg (by simp) hE hbk hx)
  have heq := fun W => run_eq_call18 f.fb T.ob f.fn T.on W false (decide_eq_false hne).symm
  have HLF := Lib.hid (show f.D.length = 0 by rw [hD]; rfl)
  have HED := Lib.hid (fun W da dc (hE : EntsAt W da dc f.D) => show EntsAt W da dc [] by rw [← hD]; exact hE)
  have HTK := Lib.hid (fun W q s' F' da dc (hL : LkL W q s' F') (hw' : s'.isWide = false) (hc' : s'.can.ok = true) (hE : EntsAt W da dc f.D) => ctakeCall6 W q s' F' f da dc hL hk (by rw [hD]; simp) hE (by rw [hw']; exact hw) hfp hc')
  have HSF := Lib.hid (sabm_facts T f hk)
  have HCX := Lib.hid hx
  have c0 := h.row.cell 0 rfl
  have c1 := h.row.cell 1 rfl
  clear hsz h hl hg hs hC hfor hget hdec hD hk hne hno hfp hw hbk hcf hto hfu hx
  have HSB := Lib.hid (And.intro htb hfb)
  clear htb hfb
  go_enter Tryz.func88, Tryz.ntmps88
  go_upto_region 4 with (first
    | (go_at_call 143; (with_reducible refine (HFO.out _ (Below.refl _ _)).mono ?_); rintro e w1 ⟨rfl, hb⟩; have HB1 := Lib.hid hb; clear hb c0 c1)
    | (go_at_call 144; (with_reducible refine (HGE.out _ HB1.out).mono ?_); rintro e w2 ⟨⟨ga, gc, rfl⟩, hb⟩; have HB2 := Lib.hid (HB1.out.trans (hb.mono HB1.out.size)); clear hb))
  obtain ⟨w3, hw3⟩ : ∃ w3, w3 = w2.alloc (.cells #[.string f.tb, .int .i64 f.tn, .string f.fb, .int .i64 f.fn, .bool f.tm, .bool f.fm, .slice ga f.D.length gc] 57) := ⟨_, rfl⟩
  have HB3 := Lib.hid (show Below w.heap.size w w3 by rw [hw3]; exact HB2.out.alloc HB2.out.size _)
  have hr3 : RowAt w3 w2.heap.size [.string f.tb, .int .i64 f.tn, .string f.fb, .int .i64 f.fn, .bool f.tm, .bool f.fm, .slice ga f.D.length gc] := by rw [hw3]; exact RowAt.new w2 w2.heap.size rfl [.string f.tb, .int .i64 f.tn, .string f.fb, .int .i64 f.fn, .bool f.tm, .bool f.fm, .slice ga f.D.length gc] 57
  rw [← hw3]
  clear hw3
  have x2 := hr3.cell 2 rfl
  have x3 := hr3.cell 3 rfl
  clear hr3
  go_upto_region 6 with (first
    | (go_at_call 145; (with_reducible refine (HTO.out _ HB3.out).mono ?_); rintro e w4 ⟨rfl, hb⟩; have HB4 := Lib.hid (HB3.out.trans (hb.mono HB3.out.size)); clear hb x2 x3)
    | (go_at_call 146; (with_reducible refine (HDE.out _ HB4.out).mono ?_); rintro e w5 ⟨⟨da, dc, rfl, hE⟩, hb⟩; have HB5 := Lib.hid (HB4.out.trans (hb.mono HB4.out.size)); have HE5 := Lib.hid hE; clear hb hE))
  obtain ⟨w6, hw6⟩ : ∃ w6, w6 = w5.alloc (.cells #[.string f.tb, .int .i64 f.tn, .string f.fb, .int .i64 f.fn, .bool f.tm, .bool f.fm, .slice da f.D.length dc, .int .i64 f.kind, .int .i64 f.nr, .int .i64 f.ns, .bool f.pf, .int .i64 f.pid, .string f.info] 74) := ⟨_, rfl⟩
  have hb6 : Below w5.heap.size w5 w6 := by rw [hw6]; exact (Below.refl _ w5).alloc (Nat.le_refl _) _
  have HB6 := Lib.hid (HB5.out.trans (hb6.mono HB5.out.size))
  have HE6 := Lib.hid (HE5.out.below hb6)
  have hr6 : RowAt w6 w5.heap.size (fiCells f da dc) := by rw [hw6]; exact RowAt.new w5 w5.heap.size rfl (fiCells f da dc) 74
  have HR6 := Lib.hid hr6
  have HSZ6 := Lib.hid (show w5.heap.size < w6.heap.size by rw [hw6]; simp)
  have HM6 := Lib.hid (HB5.out.size)
  rw [← hw6]
  clear hw6 hb6 HB5 HB4 HB3 HB2 HB1 HE5
  have t0 := (HT0.out.row.below HB6.out).cell 0 rfl
  have t1 := (HT0.out.row.below HB6.out).cell 1 rfl
  have x0 := hr6.cell 0 rfl
  have x1 := hr6.cell 1 rfl
  have x2 := hr6.cell 2 rfl
  have x3 := hr6.cell 3 rfl
  have x4 := hr6.cell 4 rfl
  have x5 := hr6.cell 5 rfl
  have x6 := hr6.cell 6 rfl
  have x7 := hr6.cell 7 rfl
  have x8 := hr6.cell 8 rfl
  have x9 := hr6.cell 9 rfl
  have x10 := hr6.cell 10 rfl
  have x11 := hr6.cell 11 rfl
  have x12 := hr6.cell 12 rfl
  clear hr6
  rw [HLF.out] at x6
  generalize w5.heap.size = mm at *
  go_big_quiet (fail)
  go_upto_region 13 with (first
    | (go_at_call 93; (with_reducible refine (HFU.out _ (below_drewX HB6.out _)).mono ?_); rintro e w7 ⟨rfl, rfl⟩)
    | (go_at_call 147; (with_reducible refine (HMK.out _ _).mono ?_); rintro e w7 ⟨rfl, rfl⟩)
    | (go_at_call 149; (with_reducible refine (HBK.out _ _ _ (HED.out _ _ _ (HE6.out.below (below_drewX (Below.refl _ _) _)))).mono ?_); rintro e w8 ⟨⟨ba, bc, rfl, hE⟩, hb⟩; have hb' := Below.trans (below_drewX (Below.refl w6.heap.size w6) _) hb; have HB8 := Lib.hid (HB6.out.trans (hb'.mono HB6.out.size)); have HE8 := Lib.hid hE; have HR8 := Lib.hid (HR6.out.below hb'); have HF8 := Lib.hid (HE6.out.below hb'); have HZ8 := Lib.hid (Nat.lt_of_lt_of_le HSZ6.out hb'.size); clear hb hb' hE x0 x1 x2 x3 x4 x5 x6 x7 x8 x9 x10 x11 x12)
    | (go_at_call 94; (with_reducible refine (HAD.out _ _ _ HB8.out HE8.out).mono ?_); rintro e w9 ⟨u, tv', rfl, hid, hpb, hpn, hlk, hun, ht9, hto, hgr⟩; have HID := Lib.hid hid; have HPB := Lib.hid hpb; have HPN := Lib.hid hpn; have HLK := Lib.hid hlk; have HUN := Lib.hid hun; have HT9 := Lib.hid ht9; have HTO9 := Lib.hid hto; have HGR := Lib.hid hgr; clear hid hpb hpn hlk hun ht9 hto hgr))
  have hu9 := HT9.out.each u (by simp)
  have hE9 : ∀ W, EntsAt W da dc f.D := fun W => ⟨HF8.out.le, HF8.out.max, fun k hk => absurd hk (by rw [HLF.out]; exact Nat.not_lt_zero k)⟩
  have hmm : ¬ footT p tv L mm := fun hk => by have := HT0.out.mem mm hk; have := HM6.out; omega
  have HR9 := Lib.hid (HR8.out.turn HTO9.out hmm)
  have HUF := Lib.hid (show ¬ u.F mm from fun hk => by have := HUN.out mm (Or.inr hk); have := HZ8.out; omega)
  have HUE := Lib.hid hu9
  have htk := HTK.out w9.drew u.q u.lk u.F da dc hu9.link.drew (by rw [HLK.out]; rfl) (by rw [HLK.out]; exact HCX.out) (hE9 _)
  rw [show u.lk.takeCall noO f = sabmS T f by rw [HLK.out]; rfl] at htk
  have HTK9 := Lib.hid htk
  clear hu9 hE9 hmm htk HTK t0 t1 HBK HAD HMK HFU HTO HFO HGE HDE heq HR6 HE6 HB6 HSZ6 HE8 HF8 HR8
  refine wp_region_held (S := fun W' => W'.cell? ⟨u.eb, 0, none⟩ = some (ptr20 u.q) ∧ RowAt W' mm (fiCells f da dc)) (by kernel_rfl) ?_
  change wpAnyH _ _ _ _ _ _ _ _ (World.drew _)
  have HB := Lib.hid (show w9.drew.cell? ⟨u.eb, 0, none⟩ = some (ptr20 u.q) ∧ RowAt w9.drew mm (fiCells f da dc) from ⟨HUE.out.row.drew.cell 0 rfl, HR9.out.drew⟩)
  refine wpAnyH_take (i := 0) (v := ?_) rfl (by kernel_rfl) (by kernel_rfl) (by kernel_rfl) (fun _ _ _ h => h) (Or.inl ⟨by rfl, ?_⟩) HB.out ?_
  rotate_left
  · intro w' hw'
    go_simp
    with_reducible rfl
  go_simp
  refine wpAnyH_take (i := 1) (v := ?_) rfl (by kernel_rfl) (by kernel_rfl) (by kernel_rfl) (fun _ _ _ h => h) (Or.inl ⟨by rfl, ?_⟩) HB.out ?_
  rotate_left
  · intro w' hw'
    go_simp
    with_reducible rfl
  go_simp
  refine wpAnyH_take (i := 2) (v := ?_) rfl (by kernel_rfl) (by kernel_rfl) (by kernel_rfl) (fun _ _ _ h => h) (Or.inl ⟨by rfl, ?_⟩) HB.out ?_
  rotate_left
  · intro w' hw'
    go_simp
    with_reducible rfl
  go_simp
  refine wpAnyH_take (i := 3) (v := ?_) rfl (by kernel_rfl) (by kernel_rfl) (by kernel_rfl) (fun _ _ _ h => h) (Or.inl ⟨by rfl, ?_⟩) HB.out ?_
  rotate_left
  · intro w' hw'
    go_simp
    with_reducible rfl
  go_simp
  refine wpAnyH_take (i := 4) (v := ?_) rfl (by kernel_rfl) (by kernel_rfl) (by kernel_rfl) (fun _ _ _ h => h) (Or.inl ⟨by rfl, ?_⟩) HB.out ?_
  rotate_left
  · intro w' hw'
    go_simp
    with_reducible rfl
  go_simp
  refine wpAnyH_take (i := 5) (v := ?_) rfl (by kernel_rfl) (by kernel_rfl) (by kernel_rfl) (fun _ _ _ h => h) (Or.inl ⟨by rfl, ?_⟩) HB.out ?_
  rotate_left
  · intro w' hw'
    have x0 := hw'.1
    go_simp
    with_reducible rfl
  go_simp
  refine wpAnyH_take (i := 6) (v := ?_) rfl (by kernel_rfl) (by kernel_rfl) (by kernel_rfl) (fun _ _ _ h => h) (Or.inl ⟨by rfl, ?_⟩) HB.out ?_
  rotate_left
  · intro w' hw'
    have x0 := hw'.2.cell 0 rfl; have x1 := hw'.2.cell 1 rfl; have x2 := hw'.2.cell 2 rfl; have x3 := hw'.2.cell 3 rfl; have x4 := hw'.2.cell 4 rfl; have x5 := hw'.2.cell 5 rfl; have x6 := hw'.2.cell 6 rfl; have x7 := hw'.2.cell 7 rfl; have x8 := hw'.2.cell 8 rfl; have x9 := hw'.2.cell 9 rfl; have x10 := hw'.2.cell 10 rfl; have x11 := hw'.2.cell 11 rfl; have x12 := hw'.2.cell 12 rfl
    go_simp
    with_reducible rfl
  go_simp
  refine wpAnyH_ready (rs := [7]) (by kernel_rfl) (by simp) ?_
  refine AllReadyH.cons rfl (fun K hK => ?_) AllReadyH.nil
  go_simp
  go_at_call 33
  refine HTK9.out.mono ?_
  rintro e w10 ⟨v0, F', G', rfl, hl10, ho10, ht10, hg10, -, -⟩
  obtain ⟨fv, ev, LF, rfl, hov, rfl⟩ := ho10
  obtain ⟨fa, fn, fc, rfl⟩ := OwnL.form' hov.frames
  obtain ⟨ea, en, ec, rfl⟩ := OwnL.form' hov.events
  have htu : Turn u.F w9 w10 := (Turn.refl u.F w9).drew.trans ht10 (Grew.refl _ _)
  obtain ⟨k1, k2, k3⟩ := TbAt.turned (A := L) (B := []) HT9.out hl10 htu hg10
  have hsame : (L ++ [{ u with lk := (sabmS T f).1, F := F' }]).map En.ep = T.ents ++ [En.ep { u with lk := (sabmS T f).1, F := F' }] := by rw [List.map_append, HT0.out.same]; rfl
  have hT10 : TbAt w10 p tv' (L ++ [{ u with lk := (sabmS T f).1, F := F' }]) { T with given := T.given + 1, ents := T.ents ++ [En.ep { u with lk := (sabmS T f).1, F := F' }] } := by
    rw [← hsame]
    exact k1
  have hfn : fn = LF.length := by
    obtain ⟨a', c', hv, -⟩ := hov.frames.see
    simp only [Value.slice.injEq] at hv
    exact hv.2.1
  have hfl : LF.length = 1 := by
    have h1 : (sabmS T f).2.frames.length = 1 := by rw [HSF.out.2.1]; rfl
    rw [← hov.same, List.length_map] at h1
    exact h1
  have hst : (sabmS T f).1.state ≠ 0 := by rw [HSF.out.1]; decide
  have HU10 := Lib.hid (hT10.each _ (by simp) : EnAt w10 { u with lk := (sabmS T f).1, F := F' })
  have HDI := Lib.hid (cdid21 w10 p { u with lk := (sabmS T f).1, F := F' } fa ea fn fc en ec (sabmS T f).2.fresh HU10.out hst (by omega) (by show u.pb.size ≤ _; rw [HPB.out]; have := HSB.out.2; omega))
  have HOV := Lib.hid (show OuV w10 (ouV (.slice fa fn fc) (.slice ea en ec) (sabmS T f).2.fresh) (sabmS T f).2 (footV (.slice fa fn fc) (.slice ea en ec) LF) from ⟨_, _, LF, rfl, hov, rfl⟩)
  have HT10 := Lib.hid hT10
  have HTU := Lib.hid (((Turn.of_below HB8.out).trans HTO9.out (Grew.refl _ _)).trans k2 ((Grew.refl (footT p tv L) w).trans HGR.out HB8.out.size))
  have HGU := Lib.hid (((Grew.refl (footT p tv L) w).trans HGR.out HB8.out.size).trans k3 (Nat.le_trans HB8.out.size HTO9.out.size))
  clear HB
  have HB := Lib.hid (show w10.cell? ⟨u.eb, 0, none⟩ = some (ptr20 u.q) ∧ RowAt w10 mm (fiCells f da dc) from ⟨HU10.out.row.cell 0 rfl, HR9.out.turn htu HUF.out⟩)
  clear hl10 hov ht10 hg10 htu k1 k2 k3 hsame hT10 hfn hfl hst
  change K _ _
  refine hK.out _ _ HB.out (fun _ => ?_)
  clear hK K
  refine wpAnyH_ready (rs := [8]) (by kernel_rfl) (by simp) ?_
  refine AllReadyH.cons rfl (fun K hK => ?_) AllReadyH.nil
  go_simp
  go_at_call 95
  refine HDI.out.mono ?_
  rintro e w11 ⟨v, rfl, hac, hb11⟩
  have HAC := Lib.hid hac
  have HB11 := Lib.hid hb11
  have HR10 := Lib.hid HB.out
  clear HB
  have HB := Lib.hid (show w11.cell? ⟨u.eb, 0, none⟩ = some (ptr20 u.q) ∧ RowAt w11 mm (fiCells f da dc) from ⟨(HU10.out.row.below hb11).cell 0 rfl, HR10.out.2.below hb11⟩)
  clear hac hb11
  change K _ _
  refine hK.out _ _ HB.out (fun _ => ?_)
  clear hK K
  refine wpAnyH_take (i := 9) (v := ?_) rfl (by kernel_rfl) (by kernel_rfl) (by kernel_rfl) (fun _ _ _ h => h) (Or.inl ⟨by rfl, ?_⟩) HB.out ?_
  rotate_left
  · intro w' hw'
    go_simp
    with_reducible rfl
  go_simp
  refine wpAnyH_done (by kernel_rfl) ?_ _
  go_wp2_with fail
  have hac : ActAt w11 v (T.given + 1) f.fb f.fn (.slice fa fn fc) (.slice ea en ec) true := by
    have h1 : ActAt w11 v u.id u.pb u.pn (.slice fa fn fc) (.slice ea en ec) (sabmS T f).2.fresh := HAC.out
    rw [HID.out, HPB.out, HPN.out, HSF.out.2.2] at h1
    exact h1
  have hov := HOV.out.below HB11.out
  rw [HSF.out.2.2] at hov
  exact bodyPost_ret (v := v) (by simp [results, Tryz.results88, go_sem]) rfl ⟨v, { u with lk := (sabmS T f).1, F := F' }, tv', .slice fa fn fc, .slice ea en ec, _, rfl, HID.out, HPB.out, HPN.out, rfl, HT10.out.below HB11.out, hac, hov, HTU.out.then_ HB11.out, HGU.out⟩
end Go.Proofs.YtgoaepjjegblnaaGreatDoor
