/-
The landed table: one more link.
The landed table: what a link did, told.
The landed code's look at a frame: its number, its information, what is wrong with it, whether it is right.
-/
import Derived.Test.YtgoaepjjegblnaaGreatDoorMix27
import Derived.Test.YtgoaepjjegblnaaGreatDoorMix31
import Derived.Test.YtgoaepjjegblnaaGreatDoorMix18
namespace Go.Proofs.YtgoaepjjegblnaaGreatDoor
open Go.RowKit
set_option maxRecDepth 20000
theorem TbAt.given_ {w : World} {p : Nat} {tv : Value} {L : List En} {T : Tb} (h : TbAt w p tv L T) (g : Int) : TbAt (w.setCell ⟨p, 9, none⟩ (.int .i64 g)) p tv L { T with given := g } ∧ Turn (fun k => k = p) w (w.setCell ⟨p, 9, none⟩ (.int .i64 g)) := by
  have hs : ∀ k, k ≠ p → (w.setCell ⟨p, 9, none⟩ (.int .i64 g)).heap[k]? = w.heap[k]? := fun k hk => Below.heap_setCell _ _ _ _ hk
  exact ⟨⟨h.row.put 9 _ _ rfl, h.ents.same fun b hb => hs b fun e => h.tp (e ▸ hb), h.same, fun e he => (h.each e he).stay ⟨by simp [World.setCell], fun k hk => hs k (h.ep e he k hk).1⟩, h.tp, h.ep, h.pw⟩, (Turn.refl (fun k => k = p) w).set (p := ⟨p, 9, none⟩) (Or.inl rfl) _⟩
/-- what an added link leaves -/
def AddTo (w : World) (p : Nat) (tv : Value) (L : List En) (T : Tb) (y : Wy) (e : Ending) (w' : World) : Prop :=
  ∃ u tv', e = .returned (ptr20 u.eb) ∧ u.id = T.given + 1 ∧ u.pb = y.tb ∧ u.pn = y.tn ∧ u.lk = newK y T.can ∧ (∀ k, footE u k → w.heap.size ≤ k) ∧
    TbAt w' p tv' (L ++ [u]) { T with given := T.given + 1, ents := T.ents ++ [u.ep] } ∧ Turn (footT p tv L) w w' ∧ Grew (footT p tv L) (footT p tv' (L ++ [u])) w
set_option maxHeartbeats 4000000 in
theorem cadd21 (w : World) (p : Nat) (tv : Value) (L : List En) (T : Tb) (tb fb : ByteArray) (tn fn : Int) (a : Option Addr) (cap : Nat) (D : List Ent) (h : TbAt w p tv L T) (hl : L.length ≤ 16) (hg : 0 ≤ T.given ∧ T.given ≤ 100000)
    (hD : D.length ≤ 1000) (hE : EntsAt w a cap D) (hn : rightP ((tb, tn, true) :: (fb, fn, false) :: D) = true) (hx : T.can.ok = true) :
    Calls Tryz.prog 94 #[ptr20 p, pthV20 tb tn fb fn true false a D.length cap] w (AddTo w p tv L T ⟨tb, tn, fb, fn, callsD D⟩) := by
  obtain ⟨w1, hw1⟩ : ∃ w1, w1 = w.alloc (.cells #[.string tb, .int .i64 tn, .string fb, .int .i64 fn, .bool true, .bool false, .slice a D.length cap] 57) := ⟨_, rfl⟩
  have hb1 : Below w.heap.size w w1 := by rw [hw1]; exact (Below.refl _ w).alloc (Nat.le_refl _) _
  have hs1 : w1.heap.size = w.heap.size + 1 := by rw [hw1]; simp
  have hr1 : RowAt w1 w.heap.size [.string tb, .int .i64 tn, .string fb, .int .i64 fn, .bool true, .bool false, .slice a D.length cap] := by rw [hw1]; exact RowAt.new w w.heap.size rfl [.string tb, .int .i64 tn, .string fb, .int .i64 fn, .bool true, .bool false, .slice a D.length cap] 57
  have HR1 := Lib.hid hr1
  have HT1 := Lib.hid (h.below hb1)
  have HT0 := Lib.hid h
  have HB1 := Lib.hid hb1
  have HS1 := Lib.hid hs1
  have HNW := Lib.hid (fun W (hb : Below w1.heap.size w1 W) => cnew20_yes tb fb tn fn true false a cap D T.can W hD ((hE.below hb1).below hb) (by rw [hn]; rfl) hx)
  obtain ⟨id, hid⟩ : ∃ id, id = T.given + 1 := ⟨_, rfl⟩
  have hz : wrap64 (T.given + 1) = id := by rw [hid]; exact IntWalk.wrap64_in _ (by omega)
  have HZ := Lib.hid hz
  have HID := Lib.hid hid
  have HL := Lib.hid hl
  clear h hl hg hD hE hn hx hb1 hs1 hr1 hid hz
  go_enter Tryz.func94, Tryz.ntmps94
  go_upto_region 1 with fail
  rw [← hw1]
  clear hw1
  refine wp_region_held (S := fun W' => Below w1.heap.size w1 W') (by kernel_rfl) ?_
  change wpAnyH _ _ _ _ _ _ _ _ w1.drew
  have HB := Lib.hid ((Below.refl w1.heap.size w1).drew)
  refine wpAnyH_take (i := 0) (v := ?_) rfl (by kernel_rfl) (by kernel_rfl) (by kernel_rfl) (fun _ _ _ h => h) (Or.inl ⟨by rfl, ?_⟩) HB.out ?_
  rotate_left
  · intro w' hw'
    have x0 := (HR1.out.below hw').cell 0 rfl; have x1 := (HR1.out.below hw').cell 1 rfl; have x2 := (HR1.out.below hw').cell 2 rfl; have x3 := (HR1.out.below hw').cell 3 rfl; have x4 := (HR1.out.below hw').cell 4 rfl; have x5 := (HR1.out.below hw').cell 5 rfl; have x6 := (HR1.out.below hw').cell 6 rfl
    go_simp
    with_reducible rfl
  go_simp
  refine wpAnyH_take (i := 1) (v := ?_) rfl (by kernel_rfl) (by kernel_rfl) (by kernel_rfl) (fun _ _ _ h => h) (Or.inl ⟨by rfl, ?_⟩) HB.out ?_
  rotate_left
  · intro w' hw'
    go_simp
    with_reducible rfl
  go_simp
  refine wpAnyH_take (i := 2) (v := ?_) rfl (by kernel_rfl) (by kernel_rfl) (by kernel_rfl) (fun _ _ _ h => h) (Or.inl ⟨by rfl, ?_⟩) HB.out ?_
  rotate_left
  · intro w' hw'
    go_simp
    with_reducible rfl
  go_simp
  refine wpAnyH_take (i := 3) (v := ?_) rfl (by kernel_rfl) (by kernel_rfl) (by kernel_rfl) (fun _ _ _ h => h) (Or.inl ⟨by rfl, ?_⟩) HB.out ?_
  rotate_left
  · intro w' hw'
    go_simp
    with_reducible rfl
  go_simp
  refine wpAnyH_take (i := 4) (v := ?_) rfl (by kernel_rfl) (by kernel_rfl) (by kernel_rfl) (fun _ _ _ h => h) (Or.inl ⟨by rfl, ?_⟩) HB.out ?_
  rotate_left
  · intro w' hw'
    have x0 := (HT1.out.below hw').row.cell 2 rfl; have x1 := (HT1.out.below hw').row.cell 3 rfl; have x2 := (HT1.out.below hw').row.cell 4 rfl; have x3 := (HT1.out.below hw').row.cell 5 rfl; have x4 := (HT1.out.below hw').row.cell 6 rfl; have x5 := (HT1.out.below hw').row.cell 7 rfl
    go_simp
    with_reducible rfl
  go_simp
  refine wpAnyH_ready (rs := [5]) (by kernel_rfl) (by simp) ?_
  refine AllReadyH.cons rfl (fun K hK => ?_) AllReadyH.nil
  go_simp
  go_at_call 22
  refine (HNW.out _ (Below.refl _ _).drew).mono ?_
  rintro e w3 ⟨q, rfl, F, hk, hF, hb3⟩
  have HK3 := Lib.hid hk
  have HF3 := Lib.hid (show ∀ k, F k → w1.heap.size ≤ k from hF)
  clear HB
  have HB := Lib.hid (show Below w1.heap.size w1 w3 from (Below.refl _ w1).drew.trans hb3)
  clear hk hF hb3
  change K _ _
  refine hK.out _ _ HB.out (fun _ => ?_)
  clear hK K
  refine wpAnyH_take (i := 6) (v := ?_) rfl (by kernel_rfl) (by kernel_rfl) (by kernel_rfl) (fun _ _ _ h => h) (Or.inl ⟨by rfl, ?_⟩) HB.out ?_
  rotate_left
  · intro w' hw'
    go_simp
    with_reducible rfl
  go_simp
  refine wpAnyH_take (i := 7) (v := ?_) rfl (by kernel_rfl) (by kernel_rfl) (by kernel_rfl) (fun _ _ _ h => h) (Or.inl ⟨by rfl, ?_⟩) HB.out ?_
  rotate_left
  · intro w' hw'
    go_simp
    with_reducible rfl
  go_simp
  refine wpAnyH_take (i := 8) (v := ?_) rfl (by kernel_rfl) (by kernel_rfl) (by kernel_rfl) (fun _ _ _ h => h) (Or.inl ⟨by rfl, ?_⟩) HB.out ?_
  rotate_left
  · intro w' hw'
    go_simp
    with_reducible rfl
  go_simp
  refine wpAnyH_take (i := 9) (v := ?_) rfl (by kernel_rfl) (by kernel_rfl) (by kernel_rfl) (fun _ _ _ h => h) (Or.inl ⟨by rfl, ?_⟩) HB.out ?_
  rotate_left
  · intro w' hw'
    go_simp
    with_reducible rfl
  go_simp
  refine wpAnyH_take (i := 10) (v := ?_) rfl (by kernel_rfl) (by kernel_rfl) (by kernel_rfl) (fun _ _ _ h => h) (Or.inl ⟨by rfl, ?_⟩) HB.out ?_
  rotate_left
  · intro w' hw'
    go_simp
    with_reducible rfl
  go_simp
  refine wpAnyH_done (by kernel_rfl) ?_ _
  have HB3 := Lib.hid HB.out
  have HT3 := Lib.hid (HT1.out.below HB.out)
  have HR3 := Lib.hid (HR1.out.below HB.out)
  obtain ⟨c9, f9, -⟩ := HT3.out.row.get 9 rfl
  clear HB
  go_upto_region 3 with fail
  rw [HZ.out]
  obtain ⟨k1, k2⟩ := HT3.out.given_ id
  have hpw := HT0.out.lt
  have hz1 := HS1.out
  have hFp : ¬ F p := fun e => by have := HF3.out p e; omega
  have hRp : ¬ w.heap.size = p := fun e => by omega
  have HT4 := Lib.hid k1
  have HT4t := Lib.hid k2
  have HK4 := Lib.hid (HK3.out.stay (⟨k2.size, fun k hk => k2.block k (HK3.out.mem k hk) fun e => hFp (e ▸ hk)⟩))
  have HR4 := Lib.hid (HR3.out.turn k2 hRp)
  clear c9 f9 k1 k2 hpw hz1 hFp hRp
  generalize (w3.setCell ⟨p, 9, none⟩ (.int .i64 id)) = w4 at *
  refine wp_region_held (S := fun W' => Below w4.heap.size w4 W') (by kernel_rfl) ?_
  change wpAnyH _ _ _ _ _ _ _ _ w4.drew
  have HB := Lib.hid ((Below.refl w4.heap.size w4).drew)
  have HDZ := Lib.hid (show w4.drew.heap.size = w4.heap.size from rfl)
  generalize w4.drew = wd at *
  refine wpAnyH_take (i := 0) (v := ?_) rfl (by kernel_rfl) (by kernel_rfl) (by kernel_rfl) (fun _ _ _ h => h) (Or.inl ⟨by rfl, ?_⟩) HB.out ?_
  rotate_left
  · intro w' hw'
    go_simp
    with_reducible rfl
  go_simp
  refine wpAnyH_take (i := 1) (v := ?_) rfl (by kernel_rfl) (by kernel_rfl) (by kernel_rfl) (fun _ _ _ h => h) (Or.inl ⟨by rfl, ?_⟩) HB.out ?_
  rotate_left
  · intro w' hw'
    go_simp
    with_reducible rfl
  go_simp
  refine wpAnyH_take (i := 2) (v := ?_) rfl (by kernel_rfl) (by kernel_rfl) (by kernel_rfl) (fun _ _ _ h => h) (Or.inl ⟨by rfl, ?_⟩) HB.out ?_
  rotate_left
  · intro w' hw'
    go_simp
    with_reducible rfl
  go_simp
  refine wpAnyH_take (i := 3) (v := ?_) rfl (by kernel_rfl) (by kernel_rfl) (by kernel_rfl) (fun _ _ _ h => h) (Or.inl ⟨by rfl, ?_⟩) HB.out ?_
  rotate_left
  · intro w' hw'
    go_simp
    with_reducible rfl
  go_simp
  refine wpAnyH_take (i := 5) (v := ?_) rfl (by kernel_rfl) (by kernel_rfl) (by kernel_rfl) (fun _ _ _ h => h) (Or.inl ⟨by rfl, ?_⟩) HB.out ?_
  rotate_left
  · intro w' hw'
    go_simp
    with_reducible rfl
  go_simp
  refine wpAnyH_take (i := 4) (v := ?_) rfl (by kernel_rfl) (by kernel_rfl) (by kernel_rfl) (fun _ _ _ h => h) (Or.inl ⟨by rfl, ?_⟩) HB.out ?_
  rotate_left
  · intro w' hw'
    have x0 := (HT4.out.below hw').row.cell 9 rfl
    go_simp
    with_reducible rfl
  go_simp
  refine wpAnyH_take (i := 6) (v := ?_) rfl (by kernel_rfl) (by kernel_rfl) (by kernel_rfl) (fun _ _ _ h => h) (Or.inl ⟨by rfl, ?_⟩) HB.out ?_
  rotate_left
  · intro w' hw'
    have x0 := (HR4.out.below hw').cell 0 rfl; have x1 := (HR4.out.below hw').cell 1 rfl
    go_simp
    with_reducible rfl
  go_simp
  refine wpAnyH_take (i := 7) (v := ?_) rfl (by kernel_rfl) (by kernel_rfl) (by kernel_rfl) (fun _ _ _ h => h) (Or.inl ⟨by rfl, ?_⟩) HB.out ?_
  rotate_left
  · intro w' hw'
    go_simp
    with_reducible rfl
  go_simp
  refine wpAnyH_ready (rs := [8]) (by kernel_rfl) (by simp) ?_
  refine AllReadyH.cons rfl (fun K hK => ?_) AllReadyH.nil
  go_simp
  obtain ⟨w5, hw5⟩ : ∃ w5, w5 = wd.alloc (.cells #[ptr20 q, .int .i64 id, .string tb, .int .i64 tn] 182) := ⟨_, rfl⟩
  have hb5 : Below w4.heap.size w4 w5 := by rw [hw5]; exact HB.out.alloc HB.out.size _
  have hr5 : RowAt w5 wd.heap.size [ptr20 q, .int .i64 id, .string tb, .int .i64 tn] := by rw [hw5]; exact RowAt.new wd wd.heap.size rfl [ptr20 q, .int .i64 id, .string tb, .int .i64 tn] 182
  rw [← hw5]
  clear hw5 HB
  have HB := Lib.hid hb5
  have HR5 := Lib.hid hr5
  clear hb5 hr5
  refine hK.out _ _ HB.out (fun _ => ?_)
  clear hK K
  refine wpAnyH_take (i := 9) (v := ?_) rfl (by kernel_rfl) (by kernel_rfl) (by kernel_rfl) (fun _ _ _ h => h) (Or.inl ⟨by rfl, ?_⟩) HB.out ?_
  rotate_left
  · intro w' hw'
    go_simp
    with_reducible rfl
  go_simp
  refine wpAnyH_done (by kernel_rfl) ?_ _
  have HB5 := Lib.hid HB.out
  have HT5 := Lib.hid (HT4.out.below HB.out)
  have HU := Lib.hid (show EnAt w5 ⟨wd.heap.size, q, id, tb, tn, newK ⟨tb, tn, fb, fn, callsD D⟩ T.can, F⟩ from ⟨HR5.out, HK4.out.below HB.out, fun e => by have := HK4.out.mem _ e; have := HDZ.out; simp only at *; omega⟩)
  have hpw := HT0.out.lt
  have hz1 := HS1.out
  have hz3 := HB3.out.size
  have hz4 := HT4t.out.size
  have hz5 := HDZ.out
  have HUN := Lib.hid (show ∀ k, footE ⟨wd.heap.size, q, id, tb, tn, newK ⟨tb, tn, fb, fn, callsD D⟩ T.can, F⟩ k → w.heap.size ≤ k from fun k hk => hk.elim (fun e => by simp only at e; omega) fun hf => by have := HF3.out k hf; omega)
  have HTU := Lib.hid (show Turn (footT p tv L) w w5 from (((Turn.of_below (HB1.out.trans (HB3.out.mono HB1.out.size))).trans (show Turn (footT p tv L) w3 w4 from ⟨HT4t.out.os, HT4t.out.tape, HT4t.out.output, HT4t.out.size, fun k hk hF => HT4t.out.block k hk fun e => hF (Or.inl e)⟩) (Grew.refl _ _)).then_ HB5.out))
  have HSZ := Lib.hid (show w.heap.size ≤ w5.heap.size from by have := HB5.out.size; omega)
  have c8 := HT5.out.row.cell 8 rfl
  have HM6 := Lib.hid (AtL.made encEn 179 w5 w5.heap.size ⟨wd.heap.size, q, id, tb, tn, newK ⟨tb, tn, fb, fn, callsD D⟩ T.can, F⟩ [ptr20 wd.heap.size] rfl rfl)
  have hb6 := (Below.refl w5.heap.size w5).alloc (Nat.le_refl _) (.cells #[ptr20 wd.heap.size] 179)
  have HT6 := Lib.hid (HT5.out.below hb6)
  have HU6 := Lib.hid (HU.out.stay (SameOn.of_below hb6 HU.out.mem))
  have HB6 := Lib.hid hb6
  clear hpw hz1 hz3 hz4 hz5 hb6
  go_wp2_with (at_builtin; refine wpList_append_one encEn 179 175 Tryz.underlying175 infoEn rfl (by decide) _ rfl (.tmp 37) (.tmp 39) rfl 0 tv L rfl HT6.out.ents w5.heap.size 1 rfl ⟨wd.heap.size, q, id, tb, tn, newK ⟨tb, tn, fb, fn, callsD D⟩ T.can, F⟩ HM6.out (Nat.le_trans HL.out (by omega)) (Nat.zero_le _) ?_; intro v7 w7 hown hgr hwh; obtain ⟨av, nv, cv, rfl⟩ := OwnL.form' hown; obtain ⟨hr7, ht7, hu7, hg7⟩ := TbAt.added HT0.out HT6.out HU6.out HUN.out (Nat.le_trans HSZ.out HB6.out.size) hown hgr hwh; obtain ⟨x8, y8, -⟩ := hr7.get 8 rfl; have HT7 := Lib.hid ht7; have HU7 := Lib.hid hu7; have HG7 := Lib.hid hg7; clear hown hgr hwh hr7 ht7 hu7 hg7)
  have HIDE := HID.out
  exact bodyPost_ret (v := ptr20 wd.heap.size) (by simp [results, Tryz.results94, go_sem]) rfl ⟨⟨wd.heap.size, q, id, tb, tn, newK ⟨tb, tn, fb, fn, callsD D⟩ T.can, F⟩, _, rfl, HIDE, rfl, rfl, rfl, HUN.out, HIDE ▸ HT7.out, (HTU.out.then_ HB6.out).trans HU7.out (Grew.refl _ _), HG7.out⟩
end Go.Proofs.YtgoaepjjegblnaaGreatDoor
namespace Go.Proofs.YtgoaepjjegblnaaGreatDoor
open Go.RowKit
set_option maxRecDepth 20000
/-- one act that is told, as it lies: by which link, to whom, what -/
def ActAt (w : World) (v : Value) (id : Int) (pb : ByteArray) (pn : Int) (fv ev : Value) (b : Bool) : Prop := ∃ g, v = .slice (some ⟨g, 0, none⟩) 1 1 ∧ RowAt w g [.int .i64 id, .string pb, .int .i64 pn, fv, ev, .bool b]
set_option maxHeartbeats 2000000 in
theorem cdid21 (w : World) (p : Nat) (u : En) (fa ea : Option Addr) (n fc m ec : Nat) (b : Bool) (hu : EnAt w u) (h0 : u.lk.state ≠ 0) (hn : n ≠ 0) (hs : u.pb.size ≤ 140737488351232) :
    Calls Tryz.prog 95 #[ptr20 p, ptr20 u.eb, ouV (.slice fa n fc) (.slice ea m ec) b] w fun e w' => ∃ v, e = .returned v ∧ ActAt w' v u.id u.pb u.pn (.slice fa n fc) (.slice ea m ec) b ∧ Below w.heap.size w w' := by
  obtain ⟨w1, hw1⟩ : ∃ w1, w1 = (w.alloc (.cells #[ptr20 u.eb] 179)).alloc (.cells #[(.slice fa n fc), (.slice ea m ec), .bool b] 50) := ⟨_, rfl⟩
  have hb1 : Below w.heap.size w w1 := by rw [hw1]; exact ((Below.refl _ w).alloc (Nat.le_refl _) _).alloc (by simp) _
  have hr1 : RowAt w1 w.heap.size [ptr20 u.eb] := by rw [hw1]; exact (RowAt.new w w.heap.size rfl [ptr20 u.eb] 179).alloc _
  have hr2 : RowAt w1 (w.heap.size + 1) [(.slice fa n fc), (.slice ea m ec), .bool b] := by rw [hw1]; exact RowAt.new _ _ (by simp) [(.slice fa n fc), (.slice ea m ec), .bool b] 50
  have hu1 := hu.stay (SameOn.of_below hb1 hu.mem)
  have HU := Lib.hid hu1
  have HR1 := Lib.hid hr1
  have HR2 := Lib.hid hr2
  have HB1 := Lib.hid hb1
  have HS := Lib.hid (cstate20 hu1.link)
  have HAP := Lib.hid (fun W => capart21 u.pb u.pn W hs)
  have d0 : (u.lk.state == 0) = false := by simpa using h0
  have dn : ((n : Int) == 0) = false := by
    rw [beq_eq_false_iff_ne]
    omega
  have c0 := hr1.cell 0 rfl
  have c1 := hu1.row.cell 0 rfl
  clear hu h0 hn hs hb1 hr1 hr2 hu1
  go_enter Tryz.func95, Tryz.ntmps95
  go_upto_region 1 with fail
  rw [← hw1]
  clear hw1
  have e0 := HR2.out.cell 0 rfl
  have e1 := HR2.out.cell 1 rfl
  have e2 := HR2.out.cell 2 rfl
  go_upto_region 5 with (go_at_call 29; (with_reducible refine HS.out.mono ?_); rintro e w1 ⟨rfl, rfl⟩)
  clear c0 c1 e0 e1 e2 d0 dn HS
  refine wp_region_held (S := fun W' => Below w1.heap.size w1 W') (by kernel_rfl) ?_
  change wpAnyH _ _ _ _ _ _ _ _ w1.drew
  have HB := Lib.hid ((Below.refl w1.heap.size w1).drew)
  refine wpAnyH_take (i := 0) (v := ?_) rfl (by kernel_rfl) (by kernel_rfl) (by kernel_rfl) (fun _ _ _ h => h) (Or.inl ⟨by rfl, ?_⟩) HB.out ?_
  rotate_left
  · intro w' hw'
    have x0 := (HR1.out.below hw').cell 0 rfl
    go_simp
    with_reducible rfl
  go_simp
  refine wpAnyH_take (i := 1) (v := ?_) rfl (by kernel_rfl) (by kernel_rfl) (by kernel_rfl) (fun _ _ _ h => h) (Or.inl ⟨by rfl, ?_⟩) HB.out ?_
  rotate_left
  · intro w' hw'
    go_simp
    with_reducible rfl
  go_simp
  refine wpAnyH_take (i := 2) (v := ?_) rfl (by kernel_rfl) (by kernel_rfl) (by kernel_rfl) (fun _ _ _ h => h) (Or.inl ⟨by rfl, ?_⟩) HB.out ?_
  rotate_left
  · intro w' hw'
    go_simp
    with_reducible rfl
  go_simp
  refine wpAnyH_take (i := 3) (v := ?_) rfl (by kernel_rfl) (by kernel_rfl) (by kernel_rfl) (fun _ _ _ h => h) (Or.inl ⟨by rfl, ?_⟩) HB.out ?_
  rotate_left
  · intro w' hw'
    have x0 := (HU.out.row.below hw').cell 1 rfl
    go_simp
    with_reducible rfl
  go_simp
  refine wpAnyH_take (i := 4) (v := ?_) rfl (by kernel_rfl) (by kernel_rfl) (by kernel_rfl) (fun _ _ _ h => h) (Or.inl ⟨by rfl, ?_⟩) HB.out ?_
  rotate_left
  · intro w' hw'
    have x0 := (HR1.out.below hw').cell 0 rfl
    go_simp
    with_reducible rfl
  go_simp
  refine wpAnyH_take (i := 5) (v := ?_) rfl (by kernel_rfl) (by kernel_rfl) (by kernel_rfl) (fun _ _ _ h => h) (Or.inl ⟨by rfl, ?_⟩) HB.out ?_
  rotate_left
  · intro w' hw'
    go_simp
    with_reducible rfl
  go_simp
  refine wpAnyH_take (i := 6) (v := ?_) rfl (by kernel_rfl) (by kernel_rfl) (by kernel_rfl) (fun _ _ _ h => h) (Or.inl ⟨by rfl, ?_⟩) HB.out ?_
  rotate_left
  · intro w' hw'
    go_simp
    with_reducible rfl
  go_simp
  refine wpAnyH_take (i := 7) (v := ?_) rfl (by kernel_rfl) (by kernel_rfl) (by kernel_rfl) (fun _ _ _ h => h) (Or.inl ⟨by rfl, ?_⟩) HB.out ?_
  rotate_left
  · intro w' hw'
    have x0 := (HU.out.row.below hw').cell 2 rfl; have x1 := (HU.out.row.below hw').cell 3 rfl
    go_simp
    with_reducible rfl
  go_simp
  refine wpAnyH_take (i := 9) (v := ?_) rfl (by kernel_rfl) (by kernel_rfl) (by kernel_rfl) (fun _ _ _ h => h) (Or.inl ⟨by rfl, ?_⟩) HB.out ?_
  rotate_left
  · intro w' hw'
    have x0 := (HR2.out.below hw').cell 0 rfl; have x1 := (HR2.out.below hw').cell 1 rfl; have x2 := (HR2.out.below hw').cell 2 rfl
    go_simp
    with_reducible rfl
  go_simp
  refine wpAnyH_ready (rs := [8]) (by kernel_rfl) (by simp) ?_
  refine AllReadyH.cons rfl (fun K hK => ?_) AllReadyH.nil
  go_simp
  go_at_call 91
  refine (HAP.out _).mono ?_
  rintro e w3 ⟨rfl, hb3⟩
  clear HB
  have HB := Lib.hid (show Below w1.heap.size w1 w3 from (Below.refl _ w1).drew.trans hb3)
  clear hb3
  change K _ _
  refine hK.out _ _ HB.out (fun _ => ?_)
  clear hK K
  refine wpAnyH_take (i := 10) (v := ?_) rfl (by kernel_rfl) (by kernel_rfl) (by kernel_rfl) (fun _ _ _ h => h) (Or.inl ⟨by rfl, ?_⟩) HB.out ?_
  rotate_left
  · intro w' hw'
    go_simp
    with_reducible rfl
  go_simp
  refine wpAnyH_ready (rs := [11]) (by kernel_rfl) (by simp) ?_
  refine AllReadyH.cons rfl (fun K hK => ?_) AllReadyH.nil
  go_simp
  have HA4 := Lib.hid (RowAt.new w3 w3.heap.size rfl [.int .i64 u.id, .string u.pb, .int .i64 u.pn, (.slice fa n fc), (.slice ea m ec), .bool b] 173)
  replace HB := Lib.hid (show Below w1.heap.size w1 (w3.alloc (.cells #[.int .i64 u.id, .string u.pb, .int .i64 u.pn, (.slice fa n fc), (.slice ea m ec), .bool b] 173)) from HB.out.alloc HB.out.size _)
  refine hK.out _ _ HB.out (fun _ => ?_)
  clear hK K
  refine wpAnyH_take (i := 12) (v := ?_) rfl (by kernel_rfl) (by kernel_rfl) (by kernel_rfl) (fun _ _ _ h => h) (Or.inl ⟨by rfl, ?_⟩) HB.out ?_
  rotate_left
  · intro w' hw'
    go_simp
    with_reducible rfl
  go_simp
  refine wpAnyH_done (by kernel_rfl) ?_ _
  go_wp2_with fail
  exact bodyPost_ret (v := .slice (some ⟨w3.heap.size, 0, none⟩) 1 1) (by simp [results, Tryz.results95, go_sem]) rfl ⟨_, rfl, ⟨_, rfl, HA4.out⟩, HB1.out.trans (HB.out.mono HB1.out.size)⟩
end Go.Proofs.YtgoaepjjegblnaaGreatDoor
namespace Go.Proofs.YtgoaepjjegblnaaGreatDoor
open Go.RowKit Go.Sort
set_option maxRecDepth 20000
set_option maxHeartbeats 1000000 in
theorem fright_any (tb fb : ByteArray) (tn fn : Int) (tm fm : Bool) (a : Option Addr) (cap : Nat) (D : List Ent) (k nr ns : Int) (pf : Bool) (pid : Int) (info : ByteArray) (wide : Bool) (w : World) (hD : D.length ≤ 1000) (hE : EntsAt w a cap D) :
    Calls Tryz.prog 78 #[.agg #[.string tb, .int .i64 tn, .string fb, .int .i64 fn, .bool tm, .bool fm, .slice a D.length cap, .int .i64 k, .int .i64 nr, .int .i64 ns, .bool pf, .int .i64 pid, .string info], .bool wide] w fun e w' => e = .returned (.bool (decide (wrongF ((tb, tn, tm) :: (fb, fn, fm) :: D) k nr ns wide pid info.size = 0))) ∧ Below w.heap.size w w' := by
  have HB0 := Lib.hid ((Below.refl _ w).alloc (Nat.le_refl _) (.cells #[.string tb, .int .i64 tn, .string fb, .int .i64 fn, .bool tm, .bool fm, .slice a D.length cap, .int .i64 k, .int .i64 nr, .int .i64 ns, .bool pf, .int .i64 pid, .string info] 74))
  have HFA := Lib.hid (fun W (h : Below w.heap.size w W) => fault_any tb fb tn fn tm fm a cap D k nr ns pf pid info wide W hD (hE.below h))
  generalize wrongF ((tb, tn, tm) :: (fb, fn, fm) :: D) k nr ns wide pid info.size = G at *
  have hz : ((G : Int) == 0) = decide (G = 0) := by rw [Bool.eq_iff_iff, beq_iff_eq, decide_eq_true_eq]; omega
  clear hE
  go_enter Tryz.func78, Tryz.ntmps78
  go_wp2_with (go_at_call 105; (with_reducible refine (HFA.out _ HB0.out).mono ?_); rintro e w1 ⟨rfl, hb⟩; have HB := Lib.hid (HB0.out.trans (hb.mono HB0.out.size)); clear hb)
  go_ret
  exact ⟨rfl, HB.out⟩
end Go.Proofs.YtgoaepjjegblnaaGreatDoor
