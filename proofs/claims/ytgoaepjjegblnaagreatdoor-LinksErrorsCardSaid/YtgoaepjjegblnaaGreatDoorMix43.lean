/-
The landed table: Connect.
-/
import Derived.Test.YtgoaepjjegblnaaGreatDoorMix39
import Derived.Test.YtgoaepjjegblnaaGreatDoorMix05
namespace Go.Proofs.YtgoaepjjegblnaaGreatDoor
open Go.RowKit Go.Sort
set_option maxRecDepth 20000
def okPeer (T : Tb) (pb : ByteArray) (pn : Int) : Bool := rightD pb pn && !decide ((pb, pn) = (T.ob, T.on))
def okWay (T : Tb) (pb : ByteArray) (pn : Int) (C : List (ByteArray × Int)) : Bool := rightP ((pb, pn, true) :: (T.ob, T.on, false) :: freshD C)
abbrev p7V (a : ByteArray) (b : Int) (c : ByteArray) (d : Int) (x y : Bool) (q : Option Addr) (n k : Nat) : List Value := [.string a, .int .i64 b, .string c, .int .i64 d, .bool x, .bool y, .slice q n k]
/-- what Via answers, either way -/
theorem cvia21 (fb tb : ByteArray) (fn tn : Int) (a : Option Addr) (cap : Nat) (C : List (ByteArray × Int)) (w : World) (hC : C.length ≤ 1000) (hE : CallsAt w a C)
    (hf : fb.size ≤ 140737488351232) (ht : tb.size ≤ 140737488351232) (hs : ∀ x ∈ C, x.1.size ≤ 140737488351232) :
    Calls Tryz.prog 77 #[.agg #[.string fb, .int .i64 fn], .agg #[.string tb, .int .i64 tn], .bool true, .slice a C.length cap] w fun e w' =>
      ∃ tb1 tn1 fb1 fn1 m1 m2 da dl dc E, e = .returned (.tuple #[.agg #[.string tb1, .int .i64 tn1, .string fb1, .int .i64 fn1, .bool m1, .bool m2, .slice da dl dc], .int .i64 E]) ∧ ((rightP ((tb, tn, true) :: (fb, fn, false) :: freshD C) = true → tb1 = tb ∧ tn1 = tn ∧ fb1 = fb ∧ fn1 = fn ∧ m1 = true ∧ m2 = false ∧ dl = (freshD C).length ∧ E = 0 ∧ EntsAt w' da dc (freshD C) ∧ ∀ q, da = some q → w.heap.size ≤ q.block ∧ q.block < w'.heap.size) ∧ (rightP ((tb, tn, true) :: (fb, fn, false) :: freshD C) = false → E = 11)) ∧ Below w.heap.size w w' := by
  refine (via_own fb tb fn tn true a cap C w hC hE hf ht hs).mono ?_
  rintro e w' ⟨h1, hb⟩
  simp only [Bool.not_true] at h1
  by_cases hr : rightP ((tb, tn, true) :: (fb, fn, false) :: freshD C) = true
  · rw [if_pos hr] at h1
    obtain ⟨da, dc, he, hE', hq⟩ := h1
    exact ⟨_, _, _, _, _, _, _, _, _, _, he, ⟨fun _ => ⟨rfl, rfl, rfl, rfl, rfl, rfl, rfl, rfl, hE', hq⟩, fun h => by rw [hr] at h; cases h⟩, hb⟩
  · rw [if_neg hr] at h1
    exact ⟨_, _, _, _, _, _, _, _, _, _, h1, ⟨fun h => absurd h hr, fun _ => rfl⟩, hb⟩
/-- what a new link tells at once, and what it is then -/
def connS (T : Tb) (pb : ByteArray) (pn : Int) (C : List (ByteArray × Int)) : Lk × Ot :=
  ((newK ⟨pb, pn, T.ob, T.on, C⟩ T.can).learn T.can.t1).await xB ⟨[], [], true⟩ (if T.can.wide then 1 else 2) (if T.can.wide then 13 else 6)
/-- what a Connect leaves that makes a link -/
def ConnTo (w : World) (p : Nat) (tv : Value) (L : List En) (T : Tb) (pb : ByteArray) (pn : Int) (C : List (ByteArray × Int)) (e : Ending) (w' : World) : Prop :=
  ∃ v u tv' fv ev G, e = .returned (.tuple #[.int .i64 (T.given + 1), v, .int .i64 0]) ∧ u.id = T.given + 1 ∧ u.pb = pb ∧ u.pn = pn ∧ u.lk = (connS T pb pn C).1 ∧
    TbAt w' p tv' (L ++ [u]) { T with given := T.given + 1, ents := T.ents ++ [u.ep] } ∧ ActAt w' v (T.given + 1) pb pn fv ev true ∧ OuV w' (ouV fv ev true) (connS T pb pn C).2 G ∧ Turn (footT p tv L) w w' ∧ Grew (footT p tv L) (footT p tv' (L ++ [u])) w
section
variable (w : World) (p : Nat) (tv : Value) (L : List En) (T : Tb) (pb : ByteArray) (pn : Int) (a : Option Addr) (cap : Nat) (C : List (ByteArray × Int))
variable (h : TbAt w p tv L T) (hl : L.length ≤ 4) (ho : T.ob.size ≤ 100000) (hp : pb.size ≤ 140737488351232) (hC : C.length ≤ 1000) (hE : CallsAt w a C) (hs : ∀ x ∈ C, x.1.size ≤ 140737488351232) (hx : T.can.ok = true) (hg : 0 ≤ T.given ∧ T.given ≤ 100000)
include h hl ho hp hC hE hs hx hg
set_option maxHeartbeats 8000000 in
theorem cconn_all (Q : Ending → World → Prop)
    (h12 : okPeer T pb pn = false → ∀ w', Below w.heap.size w w' → Q (.returned (.tuple #[.int .i64 0, actN, .int .i64 12])) w')
    (h11 : okPeer T pb pn = true → okWay T pb pn C = false → ∀ w', Below w.heap.size w w' → Q (.returned (.tuple #[.int .i64 0, actN, .int .i64 11])) w')
    (h8 : okPeer T pb pn = true → okWay T pb pn C = true → findT L pb pn ≠ 0 → ∀ w', Below w.heap.size w w' → Q (.returned (.tuple #[.int .i64 0, actN, .int .i64 8])) w')
    (h6 : okPeer T pb pn = true → okWay T pb pn C = true → findT L pb pn = 0 → ¬ L.length < 4 → ∀ w', Below w.heap.size w w' → Q (.returned (.tuple #[.int .i64 0, actN, .int .i64 6])) w')
    (hko : okPeer T pb pn = true → okWay T pb pn C = true → findT L pb pn = 0 → L.length < 4 → ∀ e w', ConnTo w p tv L T pb pn C e w' → Q e w') :
    Calls Tryz.prog 46 #[ptr20 p, clV pb pn, .slice a C.length cap] w Q := by
  have HAD := Lib.hid (fun W da dc (hw : okWay T pb pn C = true) (h' : TbAt W p tv L T) (hE : EntsAt W da dc (freshD C)) => cadd21 W p tv L T pb T.ob pn T.on da dc (freshD C) h' (by omega) hg (by simpa [freshD] using hC) hE hw hx)
  rw [calls_fresh] at HAD
  have HWO := Lib.hid (fun (hw : okWay T pb pn C = true) => show (⟨pb, pn, T.ob, T.on, C⟩ : Wy).ok from hw)
  have H12 := Lib.hid h12
  have H11 := Lib.hid h11
  have H8 := Lib.hid h8
  have H6 := Lib.hid h6
  have HKO0 := Lib.hid hko
  clear h12 h11 h8 h6 hko
  obtain ⟨w1, hw1⟩ : ∃ w1, w1 = w.alloc (.cells #[.string pb, .int .i64 pn] 54) := ⟨_, rfl⟩
  have hb1 : Below w.heap.size w w1 := by rw [hw1]; exact (Below.refl _ w).alloc (Nat.le_refl _) _
  have hr1 : RowAt w1 w.heap.size [.string pb, .int .i64 pn] := by rw [hw1]; exact RowAt.new w w.heap.size rfl [.string pb, .int .i64 pn] 54
  have HT0 := Lib.hid h
  have HT1 := Lib.hid (h.below hb1)
  have HR1 := Lib.hid hr1
  have HB1 := Lib.hid hb1
  have HV := Lib.hid (fun W (hb : Below w1.heap.size w1 W) => cvia21 T.ob pb T.on pn a cap C W hC ((hE.below hb1).below hb) (by omega) hp hs)
  have HCR := Lib.hid (fun W => cright_any pb pn W)
  have HFI := Lib.hid (fun W (hb : Below w1.heap.size w1 W) => cfind21 W p tv L T pb pn ((h.below hb1).below hb) (by omega))
  have HFU := Lib.hid (fun W (hb : Below w1.heap.size w1 W) => cfull21 W p tv L T ((h.below hb1).below hb) (by omega))
  have hcl : (freshD C).length ≤ 1000 := by simpa [freshD] using hC
  have HCL := Lib.hid hcl
  have HCX := Lib.hid hx
  have HLL := Lib.hid hl
  have HGI := Lib.hid hg
  have HPS := Lib.hid hp
  obtain ⟨r1, hr1'⟩ : ∃ r, r = rightD pb pn := ⟨_, rfl⟩
  rw [← hr1'] at HCR
  obtain ⟨q1, hq1⟩ : ∃ q, q = decide ((pb, pn) = (T.ob, T.on)) := ⟨_, rfl⟩
  have heq := fun W => run_eq_call18 pb T.ob pn T.on W q1 hq1
  have HOK := Lib.hid (show okPeer T pb pn = (r1 && !q1) by rw [hr1', hq1]; rfl)
  have HWY := Lib.hid (show okWay T pb pn C = rightP ((pb, pn, true) :: (T.ob, T.on, false) :: freshD C) from rfl)
  rw [← HWY.out] at HV
  generalize okWay T pb pn C = ow at *
  clear hcl hr1' hq1
  clear h hl ho hp hC hE hs hx hg hb1 hr1
  go_enter Tryz.func46, Tryz.ntmps46
  go_upto_region 3 with fail
  rw [← hw1]
  clear hw1
  refine wp_region_held (S := fun W' => Below w1.heap.size w1 W') (by kernel_rfl) ?_
  change wpAnyH _ _ _ _ _ _ _ _ w1.drew
  have HB := Lib.hid ((Below.refl w1.heap.size w1).drew)
  have HDZ := Lib.hid (show w1.drew.heap.size = w1.heap.size from rfl)
  generalize w1.drew = wd at *
  refine wpAnyH_take (i := 0) (v := ?_) rfl (by kernel_rfl) (by kernel_rfl) (by kernel_rfl) (fun _ _ _ h => h) (Or.inl ⟨by rfl, ?_⟩) HB.out ?_
  rotate_left
  · intro w' hw'
    go_simp
    with_reducible rfl
  go_simp
  refine wpAnyH_take (i := 1) (v := ?_) rfl (by kernel_rfl) (by kernel_rfl) (by kernel_rfl) (fun _ _ _ h => h) (Or.inl ⟨by rfl, ?_⟩) HB.out ?_
  rotate_left
  · intro w' hw'
    go_simp
    with_reducible rfl
  go_simp
  refine wpAnyH_take (i := 2) (v := ?_) rfl (by kernel_rfl) (by kernel_rfl) (by kernel_rfl) (fun _ _ _ h => h) (Or.inl ⟨by rfl, ?_⟩) HB.out ?_
  rotate_left
  · intro w' hw'
    go_simp
    with_reducible rfl
  go_simp
  refine wpAnyH_take (i := 3) (v := ?_) rfl (by kernel_rfl) (by kernel_rfl) (by kernel_rfl) (fun _ _ _ h => h) (Or.inl ⟨by rfl, ?_⟩) HB.out ?_
  rotate_left
  · intro w' hw'
    have x0 := (HT1.out.row.below hw').cell 0 rfl; have x1 := (HT1.out.row.below hw').cell 1 rfl
    go_simp
    with_reducible rfl
  go_simp
  refine wpAnyH_take (i := 4) (v := ?_) rfl (by kernel_rfl) (by kernel_rfl) (by kernel_rfl) (fun _ _ _ h => h) (Or.inl ⟨by rfl, ?_⟩) HB.out ?_
  rotate_left
  · intro w' hw'
    have x0 := (HR1.out.below hw').cell 0 rfl; have x1 := (HR1.out.below hw').cell 1 rfl
    go_simp
    with_reducible rfl
  go_simp
  refine wpAnyH_take (i := 5) (v := ?_) rfl (by kernel_rfl) (by kernel_rfl) (by kernel_rfl) (fun _ _ _ h => h) (Or.inl ⟨by rfl, ?_⟩) HB.out ?_
  rotate_left
  · intro w' hw'
    go_simp
    with_reducible rfl
  go_simp
  have hk' := HOK.out
  by_cases hk : okPeer T pb pn = true
  rotate_left
  focus
    have hk0 : okPeer T pb pn = false := by simpa using hk
    rw [hk0] at hk'
    have HQ := Lib.hid (H12.out hk0)
    clear hk hk0 HOK H12 H11 H8 H6 HKO0 HAD HWO
    cases r1
    rotate_left
    focus
      have hq : q1 = true := by simpa using hk'.symm
      subst hq
    all_goals
      clear hk'
      refine wpAnyH_ready (rs := [6, 10]) (by kernel_rfl) (by simp) ?_
      refine AllReadyH.cons rfl (fun K hK => ?_) (AllReadyH.cons rfl (fun K hK => ?_) AllReadyH.nil)
      focus
        go_simp
        go_at_call 77
        refine (HV.out _ HB.out).mono ?_
        rintro e w3 ⟨tb1, tn1, fb1, fn1, m1, m2, da, dl, dc, E, rfl, hv, hb3⟩
        have HVV := Lib.hid hv
        have HB3 := Lib.hid (HB.out.trans (hb3.mono HB.out.size))
        have HZ3 := Lib.hid hb3
        clear hv hb3 HB
        have HB := Lib.hid HB3.out
        change K _ _
        refine hK.out _ _ HB.out (fun _ => ?_)
        clear hK K
        refine wpAnyH_take (i := 7) (v := ?_) rfl (by kernel_rfl) (by kernel_rfl) (by kernel_rfl) (fun _ _ _ h => h) (Or.inl ⟨by rfl, ?_⟩) HB.out ?_
        rotate_left
        · intro w' hw'
          go_simp
          with_reducible rfl
        go_simp
        refine wpAnyH_take (i := 8) (v := ?_) rfl (by kernel_rfl) (by kernel_rfl) (by kernel_rfl) (fun _ _ _ h => h) (Or.inl ⟨by rfl, ?_⟩) HB.out ?_
        rotate_left
        · intro w' hw'
          go_simp
          with_reducible rfl
        go_simp
        refine wpAnyH_take (i := 9) (v := ?_) rfl (by kernel_rfl) (by kernel_rfl) (by kernel_rfl) (fun _ _ _ h => h) (Or.inl ⟨by rfl, ?_⟩) HB.out ?_
        rotate_left
        · intro w' hw'
          go_simp
          with_reducible rfl
        go_simp
        refine wpAnyH_ready (rs := [10]) (by kernel_rfl) (by simp) ?_
        refine AllReadyH.cons rfl (fun K hK => ?_) AllReadyH.nil
        go_simp
        clear HB
        have HB := Lib.hid (show Below w1.heap.size w1 (w3.alloc (.cells #[.string ⟨#[]⟩, .int .i64 0, .string ⟨#[]⟩, .int .i64 0, .bool false, .bool false, .slice none 0 0] 57)) from HB3.out.alloc HB3.out.size _)
        refine hK.out _ _ HB.out (fun _ => ?_)
        clear hK K
        refine wpAnyH_ready (rs := [11]) (by kernel_rfl) (by simp) ?_
        refine AllReadyH.cons rfl (fun K hK => ?_) AllReadyH.nil
        go_simp
        clear HB
        have HB := Lib.hid (show Below w1.heap.size w1 (w3.alloc (.cells #[.string tb1, .int .i64 tn1, .string fb1, .int .i64 fn1, .bool m1, .bool m2, .slice da dl dc] 57)) from HB3.out.alloc HB3.out.size _)
        refine hK.out _ _ HB.out (fun _ => ?_)
        clear hK K
        refine wpAnyH_take (i := 12) (v := ?_) rfl (by kernel_rfl) (by kernel_rfl) (by kernel_rfl) (fun _ _ _ h => h) (Or.inl ⟨by rfl, ?_⟩) HB.out ?_
        rotate_left
        · intro w' hw'
          go_simp
          with_reducible rfl
        go_simp
        refine wpAnyH_done (by kernel_rfl) ?_ _
        have HB5 := Lib.hid HB.out
        have HR5 := Lib.hid (RowAt.new w3 w3.heap.size rfl (p7V tb1 tn1 fb1 fn1 m1 m2 da dl dc) 57)
        have HM5 := Lib.hid (show w1.heap.size ≤ w3.heap.size from HB3.out.size)
        have HE5 := Lib.hid (show ow = true → tb1 = pb ∧ tn1 = pn ∧ fb1 = T.ob ∧ fn1 = T.on ∧ m1 = true ∧ m2 = false ∧ dl = (freshD C).length ∧ E = 0 ∧ EntsAt (w3.alloc (.cells #[.string tb1, .int .i64 tn1, .string fb1, .int .i64 fn1, .bool m1, .bool m2, .slice da dl dc] 57)) da dc (freshD C) from fun hr => by
          obtain ⟨q1, q2, q3, q4, q5, q6, q7, q8, q9, -⟩ := HVV.out.1 hr
          exact ⟨q1, q2, q3, q4, q5, q6, q7, q8, q9.alloc _⟩)
        have HE6 := Lib.hid (HVV.out.2)
        clear HB HVV HZ3 HB3
        generalize w3.alloc (.cells #[.string tb1, .int .i64 tn1, .string fb1, .int .i64 fn1, .bool m1, .bool m2, .slice da dl dc] 57) = w5 at *
        generalize w3.heap.size = mm at *
      rotate_left
      focus
        go_simp
        obtain ⟨w2, hw2⟩ : ∃ w2, w2 = wd.alloc (.cells #[.string ⟨#[]⟩, .int .i64 0, .string ⟨#[]⟩, .int .i64 0, .bool false, .bool false, .slice none 0 0] 57) := ⟨_, rfl⟩
        have hb2 : Below w1.heap.size w1 w2 := by rw [hw2]; exact HB.out.alloc HB.out.size _
        have HZ2 := Lib.hid (show w2.heap.size = w1.heap.size + 1 by rw [hw2, ← HDZ.out]; simp)
        have HR2 := Lib.hid (show RowAt w2 wd.heap.size (p7V ⟨#[]⟩ 0 ⟨#[]⟩ 0 false false none 0 0) by rw [hw2]; exact RowAt.new wd wd.heap.size rfl (p7V ⟨#[]⟩ 0 ⟨#[]⟩ 0 false false none 0 0) 57)
        rw [← hw2]
        clear hw2 HB
        have HB := Lib.hid hb2
        clear hb2
        refine hK.out _ _ HB.out (fun _ => ?_)
        clear hK K
        refine wpAnyH_ready (rs := [6]) (by kernel_rfl) (by simp) ?_
        refine AllReadyH.cons rfl (fun K hK => ?_) AllReadyH.nil
        go_simp
        go_at_call 77
        refine (HV.out _ HB.out).mono ?_
        rintro e w3 ⟨tb1, tn1, fb1, fn1, m1, m2, da, dl, dc, E, rfl, hv, hb3⟩
        have HVV := Lib.hid hv
        have HB3 := Lib.hid (HB.out.trans (hb3.mono HB.out.size))
        have HZ3 := Lib.hid hb3
        clear hv hb3 HB
        have HB := Lib.hid HB3.out
        change K _ _
        refine hK.out _ _ HB.out (fun _ => ?_)
        clear hK K
        refine wpAnyH_take (i := 7) (v := ?_) rfl (by kernel_rfl) (by kernel_rfl) (by kernel_rfl) (fun _ _ _ h => h) (Or.inl ⟨by rfl, ?_⟩) HB.out ?_
        rotate_left
        · intro w' hw'
          go_simp
          with_reducible rfl
        go_simp
        refine wpAnyH_take (i := 8) (v := ?_) rfl (by kernel_rfl) (by kernel_rfl) (by kernel_rfl) (fun _ _ _ h => h) (Or.inl ⟨by rfl, ?_⟩) HB.out ?_
        rotate_left
        · intro w' hw'
          go_simp
          with_reducible rfl
        go_simp
        refine wpAnyH_take (i := 9) (v := ?_) rfl (by kernel_rfl) (by kernel_rfl) (by kernel_rfl) (fun _ _ _ h => h) (Or.inl ⟨by rfl, ?_⟩) HB.out ?_
        rotate_left
        · intro w' hw'
          go_simp
          with_reducible rfl
        go_simp
        have HQ3 := Lib.hid (HR2.out.below HZ3.out)
        obtain ⟨x0, y0, -⟩ := HQ3.out.get 0 rfl
        obtain ⟨x1, y1, -⟩ := HQ3.out.get 1 rfl
        obtain ⟨x2, y2, -⟩ := HQ3.out.get 2 rfl
        obtain ⟨x3, y3, -⟩ := HQ3.out.get 3 rfl
        obtain ⟨x4, y4, -⟩ := HQ3.out.get 4 rfl
        obtain ⟨x5, y5, -⟩ := HQ3.out.get 5 rfl
        obtain ⟨x6, y6, -⟩ := HQ3.out.get 6 rfl
        refine wpAnyH_ready (rs := [11]) (by kernel_rfl) (by simp) ?_
        refine AllReadyH.cons rfl (fun K hK => ?_) AllReadyH.nil
        go_simp
        clear x0 y0 x1 y1 x2 y2 x3 y3 x4 y4 x5 y5 x6 y6
        have hW := Rw.set (Rw.set (Rw.set (Rw.set (Rw.set (Rw.set (Rw.set (Rw.start HQ3.out) 0 (.string tb1)) 1 (.int .i64 tn1)) 2 (.string fb1)) 3 (.int .i64 fn1)) 4 (.bool m1)) 5 (.bool m2)) 6 (.slice da dl dc)
        have HR5 := Lib.hid (show RowAt (((((((w3.setCell ⟨wd.heap.size, 0, none⟩ (.string tb1)).setCell ⟨wd.heap.size, 1, none⟩ (.int .i64 tn1)).setCell ⟨wd.heap.size, 2, none⟩ (.string fb1)).setCell ⟨wd.heap.size, 3, none⟩ (.int .i64 fn1)).setCell ⟨wd.heap.size, 4, none⟩ (.bool m1)).setCell ⟨wd.heap.size, 5, none⟩ (.bool m2)).setCell ⟨wd.heap.size, 6, none⟩ (.slice da dl dc)) wd.heap.size (p7V tb1 tn1 fb1 fn1 m1 m2 da dl dc) from hW.row)
        have HW := Lib.hid hW.turn
        clear HB hW
        have HB := Lib.hid (show Below w1.heap.size w1 (((((((w3.setCell ⟨wd.heap.size, 0, none⟩ (.string tb1)).setCell ⟨wd.heap.size, 1, none⟩ (.int .i64 tn1)).setCell ⟨wd.heap.size, 2, none⟩ (.string fb1)).setCell ⟨wd.heap.size, 3, none⟩ (.int .i64 fn1)).setCell ⟨wd.heap.size, 4, none⟩ (.bool m1)).setCell ⟨wd.heap.size, 5, none⟩ (.bool m2)).setCell ⟨wd.heap.size, 6, none⟩ (.slice da dl dc)) from HB3.out.trans (HW.out.below HB3.out.size fun k hk => by rw [hk, HDZ.out]; exact Nat.le_refl _))
        refine hK.out _ _ HB.out (fun _ => ?_)
        clear hK K
        refine wpAnyH_take (i := 12) (v := ?_) rfl (by kernel_rfl) (by kernel_rfl) (by kernel_rfl) (fun _ _ _ h => h) (Or.inl ⟨by rfl, ?_⟩) HB.out ?_
        rotate_left
        · intro w' hw'
          go_simp
          with_reducible rfl
        go_simp
        refine wpAnyH_done (by kernel_rfl) ?_ _
        have HB5 := Lib.hid HB.out
        have HM5 := Lib.hid (show w1.heap.size ≤ wd.heap.size from Nat.le_of_eq HDZ.out.symm)
        have HE5 := Lib.hid (show ow = true → tb1 = pb ∧ tn1 = pn ∧ fb1 = T.ob ∧ fn1 = T.on ∧ m1 = true ∧ m2 = false ∧ dl = (freshD C).length ∧ E = 0 ∧ EntsAt (((((((w3.setCell ⟨wd.heap.size, 0, none⟩ (.string tb1)).setCell ⟨wd.heap.size, 1, none⟩ (.int .i64 tn1)).setCell ⟨wd.heap.size, 2, none⟩ (.string fb1)).setCell ⟨wd.heap.size, 3, none⟩ (.int .i64 fn1)).setCell ⟨wd.heap.size, 4, none⟩ (.bool m1)).setCell ⟨wd.heap.size, 5, none⟩ (.bool m2)).setCell ⟨wd.heap.size, 6, none⟩ (.slice da dl dc)) da dc (freshD C) from fun hr => by
          obtain ⟨q1, q2, q3, q4, q5, q6, q7, q8, q9, q10⟩ := HVV.out.1 hr
          exact ⟨q1, q2, q3, q4, q5, q6, q7, q8, q9.same (fun q e => HW.out.block _ (q10 q e).2 fun e' => by have := (q10 q e).1; have := HZ2.out; have := HDZ.out; omega) HW.out.size⟩)
        have HE6 := Lib.hid (HVV.out.2)
        clear HB HVV HZ3 HB3 HR2 HQ3 HW HZ2
        generalize (((((((w3.setCell ⟨wd.heap.size, 0, none⟩ (.string tb1)).setCell ⟨wd.heap.size, 1, none⟩ (.int .i64 tn1)).setCell ⟨wd.heap.size, 2, none⟩ (.string fb1)).setCell ⟨wd.heap.size, 3, none⟩ (.int .i64 fn1)).setCell ⟨wd.heap.size, 4, none⟩ (.bool m1)).setCell ⟨wd.heap.size, 5, none⟩ (.bool m2)).setCell ⟨wd.heap.size, 6, none⟩ (.slice da dl dc)) = w5 at *
        clear HDZ
        generalize wd.heap.size = mm at *
      all_goals
        go_upto_region 4 with fail
        have z0 := fun d os => cell_regrown ((HR1.out.below HB5.out).cell 0 rfl) d os
        have z1 := fun d os => cell_regrown ((HR1.out.below HB5.out).cell 1 rfl) d os
        have t0 := fun d os => cell_regrown ((HT1.out.row.below HB5.out).cell 0 rfl) d os
        have t1 := fun d os => cell_regrown ((HT1.out.row.below HB5.out).cell 1 rfl) d os
        refine wp_region_quiet_below (by kernel_rfl) (by kernel_rfl) ?_
        repeat (go_big_quiet_step (first
          | (go_at_call 90; with_reducible exact Calls.regrown_of (HCR.out _))))
        refine wpQuiet_nil ?_
        intro _ hw'
        obtain ⟨pg, hw''⟩ := hw'
        subst hw''
        clear z0 z1 t0 t1
        have HG6 := Lib.hid (below_regrown w5 pg.d pg.os)
        have HB6 := Lib.hid (HB5.out.trans (HG6.out.mono HB5.out.size))
        have HR6 := Lib.hid (HR5.out.below HG6.out)
        have HX6 := Lib.hid (fun D (hE : EntsAt w5 da dc D) => hE.below HG6.out)
        clear HG6
        generalize grow (redrawn w5 pg.d) pg.os = w6 at *
        clear HR5
        go_wp2_with fail
        exact bodyPost_ret (v := .tuple #[.int .i64 0, actN, .int .i64 12]) (by simp [results, Tryz.results46, go_sem]) rfl (HQ.out _ (HB1.out.trans (HB6.out.mono HB1.out.size)))
  rw [hk] at hk'
  have HQ11 := Lib.hid (H11.out hk)
  have HQ8 := Lib.hid (H8.out hk)
  have HQ6 := Lib.hid (H6.out hk)
  have HQK := Lib.hid (HKO0.out hk)
  obtain ⟨hr1, hq1⟩ : r1 = true ∧ q1 = false := by simpa using hk'.symm
  clear hk hk' HOK H12 H11 H8 H6 HKO0
  subst hr1
  subst hq1
  refine wpAnyH_ready (rs := [6, 10]) (by kernel_rfl) (by simp) ?_
  refine AllReadyH.cons rfl (fun K hK => ?_) (AllReadyH.cons rfl (fun K hK => ?_) AllReadyH.nil)
  focus
    go_simp
    go_at_call 77
    refine (HV.out _ HB.out).mono ?_
    rintro e w3 ⟨tb1, tn1, fb1, fn1, m1, m2, da, dl, dc, E, rfl, hv, hb3⟩
    have HVV := Lib.hid hv
    have HB3 := Lib.hid (HB.out.trans (hb3.mono HB.out.size))
    have HZ3 := Lib.hid hb3
    clear hv hb3 HB
    have HB := Lib.hid HB3.out
    change K _ _
    refine hK.out _ _ HB.out (fun _ => ?_)
    clear hK K
    refine wpAnyH_take (i := 7) (v := ?_) rfl (by kernel_rfl) (by kernel_rfl) (by kernel_rfl) (fun _ _ _ h => h) (Or.inl ⟨by rfl, ?_⟩) HB.out ?_
    rotate_left
    · intro w' hw'
      go_simp
      with_reducible rfl
    go_simp
    refine wpAnyH_take (i := 8) (v := ?_) rfl (by kernel_rfl) (by kernel_rfl) (by kernel_rfl) (fun _ _ _ h => h) (Or.inl ⟨by rfl, ?_⟩) HB.out ?_
    rotate_left
    · intro w' hw'
      go_simp
      with_reducible rfl
    go_simp
    refine wpAnyH_take (i := 9) (v := ?_) rfl (by kernel_rfl) (by kernel_rfl) (by kernel_rfl) (fun _ _ _ h => h) (Or.inl ⟨by rfl, ?_⟩) HB.out ?_
    rotate_left
    · intro w' hw'
      go_simp
      with_reducible rfl
    go_simp
    refine wpAnyH_ready (rs := [10]) (by kernel_rfl) (by simp) ?_
    refine AllReadyH.cons rfl (fun K hK => ?_) AllReadyH.nil
    go_simp
    clear HB
    have HB := Lib.hid (show Below w1.heap.size w1 (w3.alloc (.cells #[.string ⟨#[]⟩, .int .i64 0, .string ⟨#[]⟩, .int .i64 0, .bool false, .bool false, .slice none 0 0] 57)) from HB3.out.alloc HB3.out.size _)
    refine hK.out _ _ HB.out (fun _ => ?_)
    clear hK K
    refine wpAnyH_ready (rs := [11]) (by kernel_rfl) (by simp) ?_
    refine AllReadyH.cons rfl (fun K hK => ?_) AllReadyH.nil
    go_simp
    clear HB
    have HB := Lib.hid (show Below w1.heap.size w1 (w3.alloc (.cells #[.string tb1, .int .i64 tn1, .string fb1, .int .i64 fn1, .bool m1, .bool m2, .slice da dl dc] 57)) from HB3.out.alloc HB3.out.size _)
    refine hK.out _ _ HB.out (fun _ => ?_)
    clear hK K
    refine wpAnyH_take (i := 12) (v := ?_) rfl (by kernel_rfl) (by kernel_rfl) (by kernel_rfl) (fun _ _ _ h => h) (Or.inl ⟨by rfl, ?_⟩) HB.out ?_
    rotate_left
    · intro w' hw'
      go_simp
      with_reducible rfl
    go_simp
    refine wpAnyH_done (by kernel_rfl) ?_ _
    have HB5 := Lib.hid HB.out
    have HR5 := Lib.hid (RowAt.new w3 w3.heap.size rfl (p7V tb1 tn1 fb1 fn1 m1 m2 da dl dc) 57)
    have HM5 := Lib.hid (show w1.heap.size ≤ w3.heap.size from HB3.out.size)
    have HE5 := Lib.hid (show ow = true → tb1 = pb ∧ tn1 = pn ∧ fb1 = T.ob ∧ fn1 = T.on ∧ m1 = true ∧ m2 = false ∧ dl = (freshD C).length ∧ E = 0 ∧ EntsAt (w3.alloc (.cells #[.string tb1, .int .i64 tn1, .string fb1, .int .i64 fn1, .bool m1, .bool m2, .slice da dl dc] 57)) da dc (freshD C) from fun hr => by
      obtain ⟨q1, q2, q3, q4, q5, q6, q7, q8, q9, -⟩ := HVV.out.1 hr
      exact ⟨q1, q2, q3, q4, q5, q6, q7, q8, q9.alloc _⟩)
    have HE6 := Lib.hid (HVV.out.2)
    clear HB HVV HZ3 HB3
    generalize w3.alloc (.cells #[.string tb1, .int .i64 tn1, .string fb1, .int .i64 fn1, .bool m1, .bool m2, .slice da dl dc] 57) = w5 at *
    generalize w3.heap.size = mm at *
  rotate_left
  focus
    go_simp
    obtain ⟨w2, hw2⟩ : ∃ w2, w2 = wd.alloc (.cells #[.string ⟨#[]⟩, .int .i64 0, .string ⟨#[]⟩, .int .i64 0, .bool false, .bool false, .slice none 0 0] 57) := ⟨_, rfl⟩
    have hb2 : Below w1.heap.size w1 w2 := by rw [hw2]; exact HB.out.alloc HB.out.size _
    have HZ2 := Lib.hid (show w2.heap.size = w1.heap.size + 1 by rw [hw2, ← HDZ.out]; simp)
    have HR2 := Lib.hid (show RowAt w2 wd.heap.size (p7V ⟨#[]⟩ 0 ⟨#[]⟩ 0 false false none 0 0) by rw [hw2]; exact RowAt.new wd wd.heap.size rfl (p7V ⟨#[]⟩ 0 ⟨#[]⟩ 0 false false none 0 0) 57)
    rw [← hw2]
    clear hw2 HB
    have HB := Lib.hid hb2
    clear hb2
    refine hK.out _ _ HB.out (fun _ => ?_)
    clear hK K
    refine wpAnyH_ready (rs := [6]) (by kernel_rfl) (by simp) ?_
    refine AllReadyH.cons rfl (fun K hK => ?_) AllReadyH.nil
    go_simp
    go_at_call 77
    refine (HV.out _ HB.out).mono ?_
    rintro e w3 ⟨tb1, tn1, fb1, fn1, m1, m2, da, dl, dc, E, rfl, hv, hb3⟩
    have HVV := Lib.hid hv
    have HB3 := Lib.hid (HB.out.trans (hb3.mono HB.out.size))
    have HZ3 := Lib.hid hb3
    clear hv hb3 HB
    have HB := Lib.hid HB3.out
    change K _ _
    refine hK.out _ _ HB.out (fun _ => ?_)
    clear hK K
    refine wpAnyH_take (i := 7) (v := ?_) rfl (by kernel_rfl) (by kernel_rfl) (by kernel_rfl) (fun _ _ _ h => h) (Or.inl ⟨by rfl, ?_⟩) HB.out ?_
    rotate_left
    · intro w' hw'
      go_simp
      with_reducible rfl
    go_simp
    refine wpAnyH_take (i := 8) (v := ?_) rfl (by kernel_rfl) (by kernel_rfl) (by kernel_rfl) (fun _ _ _ h => h) (Or.inl ⟨by rfl, ?_⟩) HB.out ?_
    rotate_left
    · intro w' hw'
      go_simp
      with_reducible rfl
    go_simp
    refine wpAnyH_take (i := 9) (v := ?_) rfl (by kernel_rfl) (by kernel_rfl) (by kernel_rfl) (fun _ _ _ h => h) (Or.inl ⟨by rfl, ?_⟩) HB.out ?_
    rotate_left
    · intro w' hw'
      go_simp
      with_reducible rfl
    go_simp
    have HQ3 := Lib.hid (HR2.out.below HZ3.out)
    obtain ⟨x0, y0, -⟩ := HQ3.out.get 0 rfl
    obtain ⟨x1, y1, -⟩ := HQ3.out.get 1 rfl
    obtain ⟨x2, y2, -⟩ := HQ3.out.get 2 rfl
    obtain ⟨x3, y3, -⟩ := HQ3.out.get 3 rfl
    obtain ⟨x4, y4, -⟩ := HQ3.out.get 4 rfl
    obtain ⟨x5, y5, -⟩ := HQ3.out.get 5 rfl
    obtain ⟨x6, y6, -⟩ := HQ3.out.get 6 rfl
    refine wpAnyH_ready (rs := [11]) (by kernel_rfl) (by simp) ?_
    refine AllReadyH.cons rfl (fun K hK => ?_) AllReadyH.nil
    go_simp
    clear x0 y0 x1 y1 x2 y2 x3 y3 x4 y4 x5 y5 x6 y6
    have hW := Rw.set (Rw.set (Rw.set (Rw.set (Rw.set (Rw.set (Rw.set (Rw.start HQ3.out) 0 (.string tb1)) 1 (.int .i64 tn1)) 2 (.string fb1)) 3 (.int .i64 fn1)) 4 (.bool m1)) 5 (.bool m2)) 6 (.slice da dl dc)
    have HR5 := Lib.hid (show RowAt (((((((w3.setCell ⟨wd.heap.size, 0, none⟩ (.string tb1)).setCell ⟨wd.heap.size, 1, none⟩ (.int .i64 tn1)).setCell ⟨wd.heap.size, 2, none⟩ (.string fb1)).setCell ⟨wd.heap.size, 3, none⟩ (.int .i64 fn1)).setCell ⟨wd.heap.size, 4, none⟩ (.bool m1)).setCell ⟨wd.heap.size, 5, none⟩ (.bool m2)).setCell ⟨wd.heap.size, 6, none⟩ (.slice da dl dc)) wd.heap.size (p7V tb1 tn1 fb1 fn1 m1 m2 da dl dc) from hW.row)
    have HW := Lib.hid hW.turn
    clear HB hW
    have HB := Lib.hid (show Below w1.heap.size w1 (((((((w3.setCell ⟨wd.heap.size, 0, none⟩ (.string tb1)).setCell ⟨wd.heap.size, 1, none⟩ (.int .i64 tn1)).setCell ⟨wd.heap.size, 2, none⟩ (.string fb1)).setCell ⟨wd.heap.size, 3, none⟩ (.int .i64 fn1)).setCell ⟨wd.heap.size, 4, none⟩ (.bool m1)).setCell ⟨wd.heap.size, 5, none⟩ (.bool m2)).setCell ⟨wd.heap.size, 6, none⟩ (.slice da dl dc)) from HB3.out.trans (HW.out.below HB3.out.size fun k hk => by rw [hk, HDZ.out]; exact Nat.le_refl _))
    refine hK.out _ _ HB.out (fun _ => ?_)
    clear hK K
    refine wpAnyH_take (i := 12) (v := ?_) rfl (by kernel_rfl) (by kernel_rfl) (by kernel_rfl) (fun _ _ _ h => h) (Or.inl ⟨by rfl, ?_⟩) HB.out ?_
    rotate_left
    · intro w' hw'
      go_simp
      with_reducible rfl
    go_simp
    refine wpAnyH_done (by kernel_rfl) ?_ _
    have HB5 := Lib.hid HB.out
    have HM5 := Lib.hid (show w1.heap.size ≤ wd.heap.size from Nat.le_of_eq HDZ.out.symm)
    have HE5 := Lib.hid (show ow = true → tb1 = pb ∧ tn1 = pn ∧ fb1 = T.ob ∧ fn1 = T.on ∧ m1 = true ∧ m2 = false ∧ dl = (freshD C).length ∧ E = 0 ∧ EntsAt (((((((w3.setCell ⟨wd.heap.size, 0, none⟩ (.string tb1)).setCell ⟨wd.heap.size, 1, none⟩ (.int .i64 tn1)).setCell ⟨wd.heap.size, 2, none⟩ (.string fb1)).setCell ⟨wd.heap.size, 3, none⟩ (.int .i64 fn1)).setCell ⟨wd.heap.size, 4, none⟩ (.bool m1)).setCell ⟨wd.heap.size, 5, none⟩ (.bool m2)).setCell ⟨wd.heap.size, 6, none⟩ (.slice da dl dc)) da dc (freshD C) from fun hr => by
      obtain ⟨q1, q2, q3, q4, q5, q6, q7, q8, q9, q10⟩ := HVV.out.1 hr
      exact ⟨q1, q2, q3, q4, q5, q6, q7, q8, q9.same (fun q e => HW.out.block _ (q10 q e).2 fun e' => by have := (q10 q e).1; have := HZ2.out; have := HDZ.out; omega) HW.out.size⟩)
    have HE6 := Lib.hid (HVV.out.2)
    clear HB HVV HZ3 HB3 HR2 HQ3 HW HZ2
    generalize (((((((w3.setCell ⟨wd.heap.size, 0, none⟩ (.string tb1)).setCell ⟨wd.heap.size, 1, none⟩ (.int .i64 tn1)).setCell ⟨wd.heap.size, 2, none⟩ (.string fb1)).setCell ⟨wd.heap.size, 3, none⟩ (.int .i64 fn1)).setCell ⟨wd.heap.size, 4, none⟩ (.bool m1)).setCell ⟨wd.heap.size, 5, none⟩ (.bool m2)).setCell ⟨wd.heap.size, 6, none⟩ (.slice da dl dc)) = w5 at *
    clear HDZ
    generalize wd.heap.size = mm at *
  all_goals
    go_upto_region 4 with fail
    have z0 := fun d os => cell_regrown ((HR1.out.below HB5.out).cell 0 rfl) d os
    have z1 := fun d os => cell_regrown ((HR1.out.below HB5.out).cell 1 rfl) d os
    have t0 := fun d os => cell_regrown ((HT1.out.row.below HB5.out).cell 0 rfl) d os
    have t1 := fun d os => cell_regrown ((HT1.out.row.below HB5.out).cell 1 rfl) d os
    refine wp_region_quiet_below (by kernel_rfl) (by kernel_rfl) ?_
    repeat (go_big_quiet_step (first
      | (go_at_call 90; with_reducible exact Calls.regrown_of (HCR.out _))))
    refine wpQuiet_nil ?_
    intro _ hw'
    obtain ⟨pg, hw''⟩ := hw'
    subst hw''
    clear z0 z1 t0 t1
    have HG6 := Lib.hid (below_regrown w5 pg.d pg.os)
    have HB6 := Lib.hid (HB5.out.trans (HG6.out.mono HB5.out.size))
    have HR6 := Lib.hid (HR5.out.below HG6.out)
    have HX6 := Lib.hid (fun D (hE : EntsAt w5 da dc D) => hE.below HG6.out)
    clear HG6
    generalize grow (redrawn w5 pg.d) pg.os = w6 at *
    clear HR5
    by_cases how : ow = true
    rotate_left
    focus
      have how' : ow = false := by simpa using how
      have hE11 := HE6.out how'
      subst hE11
      have HQ := Lib.hid (HQ11.out how')
      clear how how' HQ11 HQ8 HQ6 HQK HAD HWO
      go_wp2_with fail
      exact bodyPost_ret (v := .tuple #[.int .i64 0, actN, .int .i64 11]) (by simp [results, Tryz.results46, go_sem]) rfl (HQ.out _ (HB1.out.trans (HB6.out.mono HB1.out.size)))
    have HW0 := Lib.hid how
    clear how HQ11
    have HAD1 := Lib.hid (fun W da dc => HAD.out W da dc HW0.out)
    have HWO1 := Lib.hid (HWO.out HW0.out)
    clear HAD HWO
    obtain ⟨k1, k2, k3, k4, k5, k6, k7, k8, k9⟩ := HE5.out HW0.out
    subst k1
    subst k2
    subst k3
    subst k4
    subst k5
    subst k6
    subst k7
    subst k8
    have HE7 := Lib.hid (HX6.out _ k9)
    clear k9 HX6 HE5 HE6
    have z0 := (HR1.out.below HB6.out).cell 0 rfl
    have z1 := (HR1.out.below HB6.out).cell 1 rfl
    generalize findT L tb1 tn1 = fi at *
    by_cases hf : fi = 0
    rotate_left
    focus
      have df : (fi != 0) = true := by simpa using hf
      have HQ := Lib.hid (HQ8.out HW0.out hf)
      clear hf HQ8 HQ6 HQK HAD1 HWO1
      go_wp2_with
        (go_at_call 92; (with_reducible refine (HFI.out _ HB6.out).mono ?_); rintro e w7 ⟨rfl, hb⟩; have HB7 := Lib.hid (HB6.out.trans (hb.mono HB6.out.size)); have HB67 := Lib.hid hb; clear hb)
      exact bodyPost_ret (v := .tuple #[.int .i64 0, actN, .int .i64 8]) (by simp [results, Tryz.results46, go_sem]) rfl (HQ.out _ (HB1.out.trans (HB7.out.mono HB1.out.size)))
    have df : (fi != 0) = false := by simpa using hf
    by_cases h4 : L.length < 4
    rotate_left
    focus
      have d4 : decide (4 ≤ L.length) = true := decide_eq_true (Nat.le_of_not_lt h4)
      rw [d4] at HFU
      have HQ := Lib.hid (HQ6.out HW0.out hf h4)
      clear hf h4 d4 HQ8 HQ6 HQK HAD1 HWO1
      go_wp2_with (first
        | (go_at_call 92; (with_reducible refine (HFI.out _ HB6.out).mono ?_); rintro e w7 ⟨rfl, hb⟩; have HB7 := Lib.hid (HB6.out.trans (hb.mono HB6.out.size)); have HB67 := Lib.hid hb; clear hb)
        | (go_at_call 93; (with_reducible refine (HFU.out _ HB7.out).mono ?_); rintro e w7 ⟨rfl, rfl⟩))
      exact bodyPost_ret (v := .tuple #[.int .i64 0, actN, .int .i64 6]) (by simp [results, Tryz.results46, go_sem]) rfl (HQ.out _ (HB1.out.trans (HB7.out.mono HB1.out.size)))
    have d4 : decide (4 ≤ L.length) = false := decide_eq_false (Nat.not_le_of_lt h4)
    rw [d4] at HFU
    have HKO := Lib.hid (HQK.out HW0.out hf h4)
    clear hf h4 d4 HQ8 HQ6 HQK
    go_upto_region 12 with (first
      | (go_at_call 92; (with_reducible refine (HFI.out _ HB6.out).mono ?_); rintro e w7 ⟨rfl, hb⟩; have HB7 := Lib.hid (HB6.out.trans (hb.mono HB6.out.size)); have HB67 := Lib.hid hb; clear hb)
      | (go_at_call 93; (with_reducible refine (HFU.out _ HB7.out).mono ?_); rintro e w7 ⟨rfl, rfl⟩))
    have HP7 := Lib.hid (HR6.out.below HB67.out)
    have HE8 := Lib.hid (HE7.out.below HB67.out)
    have HT7 := Lib.hid (HT1.out.below HB7.out)
    clear HR6 HE7 HB6 HB67 z0 z1 df HFI HFU HCR heq HWY
    have x0 := HP7.out.cell 0 rfl
    have x1 := HP7.out.cell 1 rfl
    have x2 := HP7.out.cell 2 rfl
    have x3 := HP7.out.cell 3 rfl
    have x4 := HP7.out.cell 4 rfl
    have x5 := HP7.out.cell 5 rfl
    have x6 := HP7.out.cell 6 rfl
    have HT17 := Lib.hid (HB1.out.trans (HB7.out.mono HB1.out.size))
    go_upto_region 13 with (go_at_call 94; (with_reducible refine (HAD1.out _ _ _ HT7.out HE8.out).mono ?_); rintro e w8 ⟨u, tv', rfl, hid, hpb, hpn, hlk, hun, ht8, hto, hgr⟩; have HID := Lib.hid hid; have HPB := Lib.hid hpb; have HPN := Lib.hid hpn; have HLK := Lib.hid hlk; have HUN := Lib.hid hun; have HT8 := Lib.hid ht8; have HTO := Lib.hid hto; have HGR := Lib.hid hgr; clear hid hpb hpn hlk hun ht8 hto hgr x0 x1 x2 x3 x4 x5 x6)
    obtain ⟨y, hy⟩ : ∃ y : Wy, y = ⟨tb1, tn1, T.ob, T.on, C⟩ := ⟨_, rfl⟩
    have hu8 := HT8.out.each u (by simp)
    have c0 := hu8.row.cell 0 rfl
    have HCN := Lib.hid (cconn20 w8 u.q u.lk u.F hu8.link (by rw [HLK.out]; rfl) (by rw [HLK.out]; exact HWO1.out) (by rw [HLK.out]; exact HCX.out))
    have HSS := Lib.hid (show ((u.lk.learn u.lk.can.t1).await xB ⟨[], [], true⟩ (if u.lk.can.wide then 1 else 2) (if u.lk.can.wide then 13 else 6)) = connS T tb1 tn1 C by rw [HLK.out]; rfl)
    rw [HSS.out] at HCN
    clear hu8 hy
    go_upto_region 14 with (go_at_call 26; (with_reducible refine HCN.out.mono ?_); rintro e w9 ⟨v, F', G', rfl, hl9, ho9, ht9, hg9, hG9, hd9⟩; have HL9 := Lib.hid hl9; obtain ⟨fv, ev, LF, rfl, hov, rfl⟩ := ho9; obtain ⟨fa, fn, fc, rfl⟩ := OwnL.form' hov.frames; obtain ⟨ea, en, ec, rfl⟩ := OwnL.form' hov.events; have HO9 := Lib.hid hov; have HT9 := Lib.hid ht9; have HG9 := Lib.hid hg9; clear hl9 hov ht9 hg9 hG9 hd9 c0)
    clear HV HP7 HE8 HT7 HCN HAD1 HCX HWO1
    have h8 := HT8.out
    obtain ⟨k1, k2, k3⟩ := TbAt.turned (A := L) (B := []) h8 HL9.out HT9.out HG9.out
    have hsame : (L ++ [{ u with lk := (connS T tb1 tn1 C).1, F := F' }]).map En.ep = T.ents ++ [En.ep { u with lk := (connS T tb1 tn1 C).1, F := F' }] := by rw [List.map_append, HT0.out.same]; rfl
    have hT9 : TbAt w9 p tv' (L ++ [{ u with lk := (connS T tb1 tn1 C).1, F := F' }]) { T with given := T.given + 1, ents := T.ents ++ [En.ep { u with lk := (connS T tb1 tn1 C).1, F := F' }] } := by
      rw [← hsame]
      exact k1
    have hfn : fn = LF.length := by
      obtain ⟨a', c', hv, -⟩ := HO9.out.frames.see
      simp only [Value.slice.injEq] at hv
      exact hv.2.1
    have hfl : LF.length = 1 := by
      have h1 : (connS T tb1 tn1 C).2.frames.length = 1 := rfl
      rw [← HO9.out.same, List.length_map] at h1
      exact h1
    have hst : (connS T tb1 tn1 C).1.state ≠ 0 := by
      have h1 : (connS T tb1 tn1 C).1.state = if T.can.wide then 1 else 2 := rfl
      rw [h1]
      split <;> decide
    have hov : OuV w9 (ouV (.slice fa fn fc) (.slice ea en ec) true) (connS T tb1 tn1 C).2 (footV (.slice fa fn fc) (.slice ea en ec) LF) := ⟨_, _, LF, rfl, HO9.out, rfl⟩
    have htu : Turn (footT p tv L) w w9 := ((Turn.of_below HT17.out).trans HTO.out (Grew.refl _ _)).trans k2 ((Grew.refl _ w).trans HGR.out HT17.out.size)
    have hgu : Grew (footT p tv L) (footT p tv' (L ++ [{ u with lk := (connS T tb1 tn1 C).1, F := F' }])) w := ((Grew.refl _ w).trans HGR.out HT17.out.size).trans k3 (Nat.le_trans HT17.out.size HTO.out.size)
    obtain ⟨w10, hw10⟩ : ∃ w10, w10 = w9.alloc (.cells #[.slice fa fn fc, .slice ea en ec, .bool (connS T tb1 tn1 C).2.fresh] 50) := ⟨_, rfl⟩
    have hb10 : Below w9.heap.size w9 w10 := by rw [hw10]; exact (Below.refl _ w9).alloc (Nat.le_refl _) _
    have hr10 : RowAt w10 w9.heap.size [.slice fa fn fc, .slice ea en ec, .bool true] := by rw [hw10]; exact RowAt.new w9 w9.heap.size rfl [.slice fa fn fc, .slice ea en ec, .bool true] 50
    have HT10 := Lib.hid (hT9.below hb10)
    have HO10 := Lib.hid (hov.below hb10)
    have HTU := Lib.hid (htu.then_ hb10)
    have HGU := Lib.hid hgu
    have HR10 := Lib.hid hr10
    have HU10 := Lib.hid ((hT9.below hb10).each _ (by simp) : EnAt w10 { u with lk := (connS T tb1 tn1 C).1, F := F' })
    have HDI := Lib.hid (fun W (hb : Below w10.heap.size w10 W) => cdid21 W p { u with lk := (connS T tb1 tn1 C).1, F := F' } fa ea fn fc en ec true (HU10.out.stay (SameOn.of_below hb HU10.out.mem)) hst (by omega) (by show u.pb.size ≤ _; rw [HPB.out]; exact HPS.out))
    rw [← hw10]
    clear hw10 hb10 hr10 h8 k1 k2 k3 hsame hT9 hfn hfl hst hov htu hgu HT8 HL9 HO9 HT9 HG9
    refine wp_region_held (S := fun W' => Below w10.heap.size w10 W') (by kernel_rfl) ?_
    change wpAnyH _ _ _ _ _ _ _ _ w10.drew
    have HB := Lib.hid ((Below.refl w10.heap.size w10).drew)
    refine wpAnyH_take (i := 0) (v := ?_) rfl (by kernel_rfl) (by kernel_rfl) (by kernel_rfl) (fun _ _ _ h => h) (Or.inl ⟨by rfl, ?_⟩) HB.out ?_
    rotate_left
    · intro w' hw'
      go_simp
      with_reducible rfl
    go_simp
    refine wpAnyH_take (i := 1) (v := ?_) rfl (by kernel_rfl) (by kernel_rfl) (by kernel_rfl) (fun _ _ _ h => h) (Or.inl ⟨by rfl, ?_⟩) HB.out ?_
    rotate_left
    · intro w' hw'
      go_simp
      with_reducible rfl
    go_simp
    refine wpAnyH_take (i := 2) (v := ?_) rfl (by kernel_rfl) (by kernel_rfl) (by kernel_rfl) (fun _ _ _ h => h) (Or.inl ⟨by rfl, ?_⟩) HB.out ?_
    rotate_left
    · intro w' hw'
      go_simp
      with_reducible rfl
    go_simp
    refine wpAnyH_take (i := 3) (v := ?_) rfl (by kernel_rfl) (by kernel_rfl) (by kernel_rfl) (fun _ _ _ h => h) (Or.inl ⟨by rfl, ?_⟩) HB.out ?_
    rotate_left
    · intro w' hw'
      have x0 := (HU10.out.row.below hw').cell 1 rfl
      go_simp
      with_reducible rfl
    go_simp
    refine wpAnyH_take (i := 4) (v := ?_) rfl (by kernel_rfl) (by kernel_rfl) (by kernel_rfl) (fun _ _ _ h => h) (Or.inl ⟨by rfl, ?_⟩) HB.out ?_
    rotate_left
    · intro w' hw'
      go_simp
      with_reducible rfl
    go_simp
    refine wpAnyH_take (i := 5) (v := ?_) rfl (by kernel_rfl) (by kernel_rfl) (by kernel_rfl) (fun _ _ _ h => h) (Or.inl ⟨by rfl, ?_⟩) HB.out ?_
    rotate_left
    · intro w' hw'
      go_simp
      with_reducible rfl
    go_simp
    refine wpAnyH_take (i := 6) (v := ?_) rfl (by kernel_rfl) (by kernel_rfl) (by kernel_rfl) (fun _ _ _ h => h) (Or.inl ⟨by rfl, ?_⟩) HB.out ?_
    rotate_left
    · intro w' hw'
      have x0 := (HR10.out.below hw').cell 0 rfl; have x1 := (HR10.out.below hw').cell 1 rfl; have x2 := (HR10.out.below hw').cell 2 rfl
      go_simp
      with_reducible rfl
    go_simp
    refine wpAnyH_ready (rs := [7]) (by kernel_rfl) (by simp) ?_
    refine AllReadyH.cons rfl (fun K hK => ?_) AllReadyH.nil
    go_simp
    go_at_call 95
    refine (HDI.out _ (Below.refl _ _).drew).mono ?_
    rintro e w11 ⟨v, rfl, hac, hb11⟩
    have HAC := Lib.hid hac
    clear HB
    have HB := Lib.hid (show Below w10.heap.size w10 w11 from (Below.refl _ w10).drew.trans hb11)
    clear hac hb11
    change K _ _
    refine hK.out _ _ HB.out (fun _ => ?_)
    clear hK K
    refine wpAnyH_take (i := 8) (v := ?_) rfl (by kernel_rfl) (by kernel_rfl) (by kernel_rfl) (fun _ _ _ h => h) (Or.inl ⟨by rfl, ?_⟩) HB.out ?_
    rotate_left
    · intro w' hw'
      go_simp
      with_reducible rfl
    go_simp
    refine wpAnyH_take (i := 9) (v := ?_) rfl (by kernel_rfl) (by kernel_rfl) (by kernel_rfl) (fun _ _ _ h => h) (Or.inl ⟨by rfl, ?_⟩) HB.out ?_
    rotate_left
    · intro w' hw'
      go_simp
      with_reducible rfl
    go_simp
    refine wpAnyH_take (i := 10) (v := ?_) rfl (by kernel_rfl) (by kernel_rfl) (by kernel_rfl) (fun _ _ _ h => h) (Or.inl ⟨by rfl, ?_⟩) HB.out ?_
    rotate_left
    · intro w' hw'
      go_simp
      with_reducible rfl
    go_simp
    refine wpAnyH_done (by kernel_rfl) ?_ _
    have HB11 := Lib.hid HB.out
    clear HB
    go_wp2_with fail
    have hac : ActAt w11 v (T.given + 1) tb1 tn1 (.slice fa fn fc) (.slice ea en ec) true := by
      have h1 : ActAt w11 v u.id u.pb u.pn (.slice fa fn fc) (.slice ea en ec) true := HAC.out
      rw [HID.out, HPB.out, HPN.out] at h1
      exact h1
    exact bodyPost_ret (v := .tuple #[.int .i64 u.id, v, .int .i64 0]) (by simp [results, Tryz.results46, go_sem]) rfl (HKO.out _ _ ⟨v, { u with lk := (connS T tb1 tn1 C).1, F := F' }, tv', .slice fa fn fc, .slice ea en ec, _, by rw [HID.out], HID.out, HPB.out, HPN.out, rfl, HT10.out.below HB11.out, hac, HO10.out.below HB11.out, HTU.out.then_ HB11.out, HGU.out⟩)
theorem cconn21_call (hk : okPeer T pb pn = false) : Calls Tryz.prog 46 #[ptr20 p, clV pb pn, .slice a C.length cap] w fun e w' => e = .returned (.tuple #[.int .i64 0, actN, .int .i64 12]) ∧ Below w.heap.size w w' :=
  cconn_all w p tv L T pb pn a cap C h hl ho hp hC hE hs hx hg _ (fun _ _ hb => ⟨rfl, hb⟩) (fun q => absurd (hk.symm.trans q) (by decide)) (fun q => absurd (hk.symm.trans q) (by decide)) (fun q => absurd (hk.symm.trans q) (by decide)) (fun q => absurd (hk.symm.trans q) (by decide))
theorem cconn21_path (hk : okPeer T pb pn = true) (hw : okWay T pb pn C = false) : Calls Tryz.prog 46 #[ptr20 p, clV pb pn, .slice a C.length cap] w fun e w' => e = .returned (.tuple #[.int .i64 0, actN, .int .i64 11]) ∧ Below w.heap.size w w' :=
  cconn_all w p tv L T pb pn a cap C h hl ho hp hC hE hs hx hg _ (fun q => absurd (hk.symm.trans q) (by decide)) (fun _ _ _ hb => ⟨rfl, hb⟩) (fun _ q => absurd (hw.symm.trans q) (by decide)) (fun _ q => absurd (hw.symm.trans q) (by decide)) (fun _ q => absurd (hw.symm.trans q) (by decide))
theorem cconn21_there (hk : okPeer T pb pn = true) (hw : okWay T pb pn C = true) (hf : findT L pb pn ≠ 0) : Calls Tryz.prog 46 #[ptr20 p, clV pb pn, .slice a C.length cap] w fun e w' => e = .returned (.tuple #[.int .i64 0, actN, .int .i64 8]) ∧ Below w.heap.size w w' :=
  cconn_all w p tv L T pb pn a cap C h hl ho hp hC hE hs hx hg _ (fun q => absurd (hk.symm.trans q) (by decide)) (fun _ q => absurd (hw.symm.trans q) (by decide)) (fun _ _ _ _ hb => ⟨rfl, hb⟩) (fun _ _ q => absurd q hf) (fun _ _ q => absurd q hf)
theorem cconn21_full (hk : okPeer T pb pn = true) (hw : okWay T pb pn C = true) (hf : findT L pb pn = 0) (h4 : L.length = 4) : Calls Tryz.prog 46 #[ptr20 p, clV pb pn, .slice a C.length cap] w fun e w' => e = .returned (.tuple #[.int .i64 0, actN, .int .i64 6]) ∧ Below w.heap.size w w' :=
  cconn_all w p tv L T pb pn a cap C h hl ho hp hC hE hs hx hg _ (fun q => absurd (hk.symm.trans q) (by decide)) (fun _ q => absurd (hw.symm.trans q) (by decide)) (fun _ _ q => absurd hf q) (fun _ _ _ _ _ hb => ⟨rfl, hb⟩) (fun _ _ _ q => absurd q (by omega))
theorem cconn21_ok (hk : okPeer T pb pn = true) (hw : okWay T pb pn C = true) (hf : findT L pb pn = 0) (h4 : L.length < 4) : Calls Tryz.prog 46 #[ptr20 p, clV pb pn, .slice a C.length cap] w (ConnTo w p tv L T pb pn C) :=
  cconn_all w p tv L T pb pn a cap C h hl ho hp hC hE hs hx hg _ (fun q => absurd (hk.symm.trans q) (by decide)) (fun _ q => absurd (hw.symm.trans q) (by decide)) (fun _ _ q => absurd hf q) (fun _ _ _ q => absurd h4 q) (fun _ _ _ _ _ _ q => q)
end
end Go.Proofs.YtgoaepjjegblnaaGreatDoor
