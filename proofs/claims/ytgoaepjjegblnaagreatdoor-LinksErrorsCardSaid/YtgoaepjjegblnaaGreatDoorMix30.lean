/-
The landed link: rise.
-/
import Derived.Test.YtgoaepjjegblnaaGreatDoorMix29
namespace Go.Proofs.YtgoaepjjegblnaaGreatDoor
open Go.RowKit
set_option maxRecDepth 20000
theorem clearn_row (w : World) (p : Nat) (v : Value) (L : List Value) (t : Int) (h : RowAt w p (v :: L)) : Calls Tryz.prog 70 #[ptr20 p, .int .i64 t] w fun e w' => e = .returned (.tuple #[]) ∧ w' = (w.alloc (.cells #[.int .i64 (Sm.new t).srt, .int .i64 (Sm.new t).t1] 241)).setCell ⟨p, 0, none⟩ (ptr20 w.heap.size) := by
  have HN := Lib.hid (fun W => cnew_any t W)
  have hb := (Below.refl w.heap.size w).alloc (Nat.le_refl _) (.cells #[.int .i64 (Sm.new t).srt, .int .i64 (Sm.new t).t1] 241)
  obtain ⟨c0, f0, -⟩ := (h.below hb).get 0 rfl
  clear hb h
  go_enter Tryz.func70, Tryz.ntmps70
  go_wp2_with (go_at_call 119; (with_reducible refine (HN.out _).mono ?_); rintro e w1 ⟨rfl, rfl⟩)
  exact bodyPost_end (v := .tuple #[]) (by simp [results, Tryz.results70, go_sem]) rfl ⟨rfl, rfl⟩
def upX (x : Px) (an bo ou op nn ke sk ga : Value) : Px := ⟨an, bo, ou, op, nn, ke, sk, ga, x.wa, x.wc⟩
/-- a link that is up from now on -/
def upS (s : Lk) (h : Xq) : Lk := { s with state := 3, wasUp := false, holds := h, up := some newU, busy := false, polling := false, rejected := false, ans := some (Sm.new h.t1) }
def upP (P : Nat → Nat → Prop) (m : Nat) (FB FO : Nat → Prop) (m0 : Nat) (FI : Nat → Prop) (m1 m2 g : Nat) : Nat → Nat → Prop
  | 0 => fun k => k = m
  | 1 => FB
  | 2 => FO
  | 3 => fun k => k = m0
  | 4 => FI
  | 5 => fun k => k = m1
  | 6 => fun k => k = m2
  | 7 => fun k => k = g
  | i + 8 => P (i + 8)
theorem so_zero (p : Xq) (hp : p.ok = true) : SoOk (modX p) p.k ⟨0, 0⟩ := by
  have hx := rightX_facts hp
  have hk : p.k ≤ 7 ∨ p.wide = true := by
    unfold Xq.ok rightX at hp
    simp only [Bool.and_eq_true] at hp
    have h2 := (inD_yes hp.2.1).2
    cases hw : p.wide
    · rw [hw] at h2
      refine Or.inl (Int.le_trans h2 ?_)
      cases p.srej <;> decide
    · exact Or.inr rfl
  have hm : p.k < modX p := by
    unfold modX
    rcases hk with hk | hk
    · cases p.wide
      · simp only [Bool.false_eq_true, if_false]; omega
      · simp only [if_true]; omega
    · rw [hk]
      simp only [if_true]
      omega
  refine ⟨?_, ⟨by omega, hm⟩, ⟨by decide, by decide⟩, ?_, by decide⟩
  · unfold modX; cases p.wide <;> simp
  · show (0 : Int) - 0 ≤ p.k
    omega
theorem ti_zero (p : Xq) : TiOk (modX p) (aheadX p) ⟨0, List.replicate 128 false⟩ := by
  refine ⟨?_, ?_, ⟨by simp, by simp⟩, by simp, fun i _ => by rw [fresh_get], by rw [fresh_get]⟩
  · unfold modX; cases p.wide <;> simp
  · unfold modX aheadX; cases p.wide <;> simp
theorem rise_done {w w' : World} {p : Nat} {x : Px} {s : Lk} {P : Nat → Nat → Prop} (h : LkAt w p x s P) (y : Xq) (hy : y.ok = true) {m b ou m0 i m1 m2 g : Nat} {FB FO FI : Nat → Prop} {n1 n2 n3 n4 n5 : Nat}
    (hr : RowAt w' p (lkRow (upX x (ptr20 m) (ptr20 b) (ptr20 ou) (.map (some m0)) (ptr20 i) (.map (some m1)) (.map (some m2)) (ptr20 g)) (upS s y))) (ht : Turn (fun k => k = p) w w')
    (h0 : RowAt w' m (smV (Sm.new y.t1))) (h1 : boL w' b y.n1 noB FB) (h2 : OutL w' ou (modX y) y.k ⟨0, 0⟩ FO) (h3 : MapAt eltP w' m0 (fun _ => none)) (h4 : InL w' i (modX y) (aheadX y) ⟨0, List.replicate 128 false⟩ FI) (h5 : MapAt eltP w' m1 (fun _ => none)) (h6 : MapAt eltU w' m2 (fun _ => none)) (h7 : RowAt w' g (csV zeroG))
    (k0 : w.heap.size ≤ m ∧ m < n1) (k1 : ∀ k, FB k → n1 ≤ k ∧ k < n2) (k2 : ∀ k, FO k → n2 ≤ k ∧ k < n3) (k3 : n3 ≤ m0 ∧ m0 < n4) (k4 : ∀ k, FI k → n4 ≤ k ∧ k < n5) (k5 : n5 ≤ m1 ∧ m1 < m2 ∧ m2 < g) (k6 : n1 ≤ n2 ∧ n2 ≤ n3 ∧ n4 ≤ n5) :
    LkAt w' p (upX x (ptr20 m) (ptr20 b) (ptr20 ou) (.map (some m0)) (ptr20 i) (.map (some m1)) (.map (some m2)) (ptr20 g)) (upS s y) (upP P m FB FO m0 FI m1 m2 g) ∧ Turn (footK p P) w w' ∧ Grew (footK p P) (footK p (upP P m FB FO m0 FI m1 m2 g)) w := by
  have hG : ∀ j, Grew (P j) (upP P m FB FO m0 FI m1 m2 g j) w := fun j k hk => by
    match j, hk with
    | 0, hk => exact Or.inr (by have hk : k = m := hk; omega)
    | 1, hk => exact Or.inr (by have := k1 k hk; omega)
    | 2, hk => exact Or.inr (by have := k2 k hk; omega)
    | 3, hk => exact Or.inr (by have hk : k = m0 := hk; omega)
    | 4, hk => exact Or.inr (by have := k4 k hk; omega)
    | 5, hk => exact Or.inr (by have hk : k = m1 := hk; omega)
    | 6, hk => exact Or.inr (by have hk : k = m2 := hk; omega)
    | 7, hk => exact Or.inr (by have hk : k = g := hk; omega)
    | j + 8, hk => exact Or.inl hk
  have keep : ∀ j, Cp x s j w (P j) → Cp x s j w' (P j) := fun j hc => hc.stay ⟨ht.size, fun k hk => ht.block k ((h.comp j).mem k hk) fun e => h.off j (e ▸ hk)⟩
  refine ⟨h.move hr (fun j => ?_) hG (fun a c k hk ha hc => ?_), ⟨ht.os, ht.tape, ht.output, ht.size, fun k hk hF => ht.block k hk fun e => hF (Or.inl e)⟩, foot_grew hG⟩
  · match j with
    | 0 => exact ⟨m, rfl, ⟨h0, rfl⟩, Sm.new_ok _⟩
    | 1 => exact ⟨b, rfl, h1, noB_ok⟩
    | 2 => exact ⟨ou, rfl, h2, so_zero y hy⟩
    | 3 => exact ⟨m0, rfl, h3, rfl⟩
    | 4 => exact ⟨i, rfl, h4, ti_zero y⟩
    | 5 => exact ⟨m1, rfl, h5, rfl⟩
    | 6 => exact ⟨m2, rfl, h6, rfl⟩
    | 7 => exact ⟨g, rfl, ⟨h7, rfl⟩, GOk.zero⟩
    | 8 => exact keep 8 (h.comp 8)
    | j + 9 => exact keep (j + 9) (h.comp (j + 9))
  · have loc : ∀ j, upP P m FB FO m0 FI m1 m2 g j k → (j = 0 ∧ k < n1) ∨ (j = 1 ∧ n1 ≤ k ∧ k < n2) ∨ (j = 2 ∧ n2 ≤ k ∧ k < n3) ∨ (j = 3 ∧ n3 ≤ k ∧ k < n4) ∨ (j = 4 ∧ n4 ≤ k ∧ k < n5) ∨ (j = 5 ∧ k = m1) ∨ (j = 6 ∧ k = m2) ∨ (j = 7 ∧ k = g) := fun j hj => by
      match j, hj with
      | 0, hj => have hj : k = m := hj; omega
      | 1, hj => have := k1 k hj; omega
      | 2, hj => have := k2 k hj; omega
      | 3, hj => have hj : k = m0 := hj; omega
      | 4, hj => have := k4 k hj; omega
      | 5, hj => have hj : k = m1 := hj; omega
      | 6, hj => have hj : k = m2 := hj; omega
      | 7, hj => have hj : k = g := hj; omega
      | j + 8, hj => have := (h.comp (j + 8)).mem k hj; omega
    have ea := loc a ha
    have ec := loc c hc
    omega
theorem turn_one {p : Nat} {a b c : World} (h : Turn (fun k => k = p) a b) (k : Turn (fun k => k = p) b c) : Turn (fun k => k = p) a c := h.trans k (Grew.refl _ _)
theorem cells20 {W' : World} {p : Nat} {x : Px} {s s0 : Lk} {y : Xq} (h : RowAt W' p (lkRow x s0)) (hh : s0.holds = y) (hd : s0.held = s.held) : W'.cell? ⟨p, 35, none⟩ = some (.bool y.wide) ∧ W'.cell? ⟨p, 36, none⟩ = some (.bool y.srej) ∧ W'.cell? ⟨p, 37, none⟩ = some (.int .i64 y.n1) ∧ W'.cell? ⟨p, 38, none⟩ = some (.int .i64 y.k) ∧ W'.cell? ⟨p, 39, none⟩ = some (.int .i64 y.t1) ∧ W'.cell? ⟨p, 40, none⟩ = some (.int .i64 y.n2) ∧ W'.cell? ⟨p, 15, none⟩ = some (.bool s.held) := by
  subst hh
  rw [← hd]
  exact ⟨h.cell 35 rfl, h.cell 36 rfl, h.cell 37 rfl, h.cell 38 rfl, h.cell 39 rfl, h.cell 40 rfl, h.cell 15 rfl⟩
set_option maxHeartbeats 4000000 in
theorem crise20 (w : World) (p q : Nat) (s : Lk) (o : Ot) (H : Nat → Prop) (wide : Bool) (h : LO w p q s o H) (hc : (fitX s.agreed s.can wide).ok = true) (hm : o.events.length ≤ 1000) :
    Calls Tryz.prog 134 #[ptr20 p, ptr20 q, .bool wide] w (LOTo w p q H (s.rise o wide).1 (s.rise o wide).2 (.tuple #[])) := by
  obtain ⟨F, G, ⟨x, P, hL, hF⟩, hO, ha, hH⟩ := h
  have HL := Lib.hid hL
  have HLO := Lib.hid (fun (w' : World) (s' : Lk) (F' : Nat → Prop) (h' : LkL w' p s' F') (ht : Turn F w w') (hg : Grew F F' w) => LO.link (o := o) hO ha hH h' ht hg)
  have HF := Lib.hid hF
  obtain ⟨y, hy⟩ : ∃ y, y = fitX s.agreed s.can wide := ⟨_, rfl⟩
  rw [← hy] at hc
  obtain ⟨kind, hkind⟩ : ∃ kind : Int, kind = if s.state = 3 ∨ s.wasUp = true then 5 else 1 := ⟨_, rfl⟩
  have HRES := Lib.hid (show s.rise o wide = ((((upS s y).stop).keepTime), { (o.say ⟨kind, 0, ⟨#[]⟩⟩) with fresh := true }) by rw [hy, hkind]; rfl)
  rw [HRES.out]
  have HYOK := Lib.hid hc
  obtain ⟨c41, f41, -⟩ := hL.row.get 41 rfl
  obtain ⟨c43, f43, -⟩ := hL.row.get 43 rfl
  have hrow := Rw.set (Rw.set (Rw.start hL.row) 41 (.int .i64 3)) 43 (.bool false)
  have HROW1 := Lib.hid hrow
  have HY := Lib.hid hy
  have HM := Lib.hid hm
  clear hL hO ha hH hF hrow hm hy hc
  by_cases h3 : s.state = 3
  · have d3 : (s.state == 3) = true := by simpa using h3
    rw [if_pos (Or.inl h3)] at hkind
    clear h3
    subst hkind
    go_enter Tryz.func134, Tryz.ntmps134
    go_upto_region 4 with fail
    have hr1 : RowAt ((w.setCell ⟨p, 41, none⟩ (.int .i64 3)).setCell ⟨p, 43, none⟩ (.bool false)) p (lkRow x { s with state := 3, wasUp := false }) := HROW1.out.row
    have HT1 := Lib.hid HROW1.out.turn
    have HR1 := Lib.hid hr1
    clear c41 f41 c43 f43 hr1 HROW1
    generalize ((w.setCell ⟨p, 41, none⟩ (.int .i64 3)).setCell ⟨p, 43, none⟩ (.bool false)) = w1 at *
    have HFIT := Lib.hid (cfit20 w1 p x { s with state := 3, wasUp := false } wide HR1.out)
    go_upto_region 5 with (go_at_call 177; (with_reducible refine HFIT.out.mono ?_); rintro e w2 ⟨rfl, hb⟩; have hr2 := HR1.out.below hb; have HR2 := Lib.hid hr2; have HT2 := Lib.hid (HT1.out.then_ hb); obtain ⟨h0, g0, -⟩ := hr2.get 35 rfl; obtain ⟨h1, g1, -⟩ := hr2.get 36 rfl; obtain ⟨h2, g2, -⟩ := hr2.get 37 rfl; obtain ⟨h3, g3, -⟩ := hr2.get 38 rfl; obtain ⟨h4, g4, -⟩ := hr2.get 39 rfl; obtain ⟨h5, g5, -⟩ := hr2.get 40 rfl; clear hb hr2)
    rw [show fitX ({ s with state := 3, wasUp := false } : Lk).agreed ({ s with state := 3, wasUp := false } : Lk).can wide = y from HY.out.symm]
    have HW3 := Lib.hid ((((((Rw.set (Rw.set (Rw.set (Rw.set (Rw.set (Rw.set (Rw.start HR2.out) 35 (.bool y.wide)) 36 (.bool y.srej)) 37 (.int .i64 y.n1)) 38 (.int .i64 y.k)) 39 (.int .i64 y.t1)) 40 (.int .i64 y.n2)))))))
    have hr3 : RowAt ((((((w2.setCell ⟨p, 35, none⟩ (.bool y.wide)).setCell ⟨p, 36, none⟩ (.bool y.srej)).setCell ⟨p, 37, none⟩ (.int .i64 y.n1)).setCell ⟨p, 38, none⟩ (.int .i64 y.k)).setCell ⟨p, 39, none⟩ (.int .i64 y.t1)).setCell ⟨p, 40, none⟩ (.int .i64 y.n2)) p (lkRow x { s with state := 3, wasUp := false, holds := y }) := HW3.out.row
    have HT3 := Lib.hid (turn_one HT2.out HW3.out.turn)
    have HR3 := Lib.hid hr3
    clear h0 h1 h2 h3 h4 h5 g0 g1 g2 g3 g4 g5 hr3 HW3 HR2 HFIT HR1 HT1 HT2
    generalize ((((((w2.setCell ⟨p, 35, none⟩ (.bool y.wide)).setCell ⟨p, 36, none⟩ (.bool y.srej)).setCell ⟨p, 37, none⟩ (.int .i64 y.n1)).setCell ⟨p, 38, none⟩ (.int .i64 y.k)).setCell ⟨p, 39, none⟩ (.int .i64 y.t1)).setCell ⟨p, 40, none⟩ (.int .i64 y.n2)) = w3 at *
    -- learn
    refine wp_region_held (S := fun W' => W'.cell? ⟨p, 39, none⟩ = some (.int .i64 y.t1)) (by kernel_rfl) ?_
    change wpAnyH _ _ _ _ _ _ _ _ (World.drew _)
    have HB := Lib.hid (show w3.drew.cell? ⟨p, 39, none⟩ = some (.int .i64 y.t1) from HR3.out.drew.cell 39 rfl)
    refine wpAnyH_take (i := 0) (v := ?_) rfl (by kernel_rfl) (by kernel_rfl) (by kernel_rfl) (fun _ _ _ h => h) (Or.inl ⟨by rfl, ?_⟩) HB.out ?_
    rotate_left
    · intro w' hw'
      go_simp
      with_reducible rfl
    go_simp
    refine wpAnyH_take (i := 1) (v := ?_) rfl (by kernel_rfl) (by kernel_rfl) (by kernel_rfl) (fun _ _ _ h => h) (Or.inl ⟨by rfl, ?_⟩) HB.out ?_
    rotate_left
    · intro w' hw'
      go_simp
      with_reducible rfl
    go_simp
    refine wpAnyH_take (i := 2) (v := ?_) rfl (by kernel_rfl) (by kernel_rfl) (by kernel_rfl) (fun _ _ _ h => h) (Or.inl ⟨by rfl, ?_⟩) HB.out ?_
    rotate_left
    · intro w' hw'
      go_simp
      with_reducible rfl
    go_simp
    refine wpAnyH_take (i := 3) (v := ?_) rfl (by kernel_rfl) (by kernel_rfl) (by kernel_rfl) (fun _ _ _ h => h) (Or.inl ⟨by rfl, ?_⟩) HB.out ?_
    rotate_left
    · intro w' hw'
      go_simp
      with_reducible rfl
    go_simp
    refine wpAnyH_take (i := 4) (v := ?_) rfl (by kernel_rfl) (by kernel_rfl) (by kernel_rfl) (fun _ _ _ h => h) (Or.inl ⟨by rfl, ?_⟩) HB.out ?_
    rotate_left
    · intro w' hw'
      go_simp
      with_reducible rfl
    go_simp
    refine wpAnyH_take (i := 5) (v := ?_) rfl (by kernel_rfl) (by kernel_rfl) (by kernel_rfl) (fun _ _ _ h => h) (Or.inl ⟨by rfl, ?_⟩) HB.out ?_
    rotate_left
    · intro w' hw'
      go_simp
      with_reducible rfl
    go_simp
    refine wpAnyH_take (i := 6) (v := ?_) rfl (by kernel_rfl) (by kernel_rfl) (by kernel_rfl) (fun _ _ _ h => h) (Or.inl ⟨by rfl, ?_⟩) HB.out ?_
    rotate_left
    · intro w' hw'
      go_simp
      with_reducible rfl
    go_simp
    refine wpAnyH_take (i := 7) (v := ?_) rfl (by kernel_rfl) (by kernel_rfl) (by kernel_rfl) (fun _ _ _ h => h) (Or.inl ⟨by rfl, ?_⟩) HB.out ?_
    rotate_left
    · intro w' hw'
      go_simp
      with_reducible rfl
    go_simp
    refine wpAnyH_ready (rs := [8]) (by kernel_rfl) (by simp) ?_
    refine AllReadyH.cons rfl (fun K hK => ?_) AllReadyH.nil
    go_simp
    go_at_call 70
    refine (clearn_row w3.drew p x.an _ y.t1 HR3.out.drew).mono ?_
    rintro e w4 ⟨rfl, hw4⟩
    have hbs : Below w3.heap.size w3 (w3.drew.alloc (.cells #[.int .i64 (Sm.new y.t1).srt, .int .i64 (Sm.new y.t1).t1] 241)) := (Below.refl _ w3).drew.alloc (Nat.le_refl _) _
    have hpw : p < w3.heap.size := RowAt.lt (v := x.an) HR3.out
    have hr4 : RowAt w4 p (lkRow { x with an := ptr20 w3.heap.size } { s with state := 3, wasUp := false, holds := y }) := by rw [hw4]; exact (HR3.out.below hbs).put 0 (ptr20 w3.heap.size) _ rfl
    have hm4 : RowAt w4 w3.heap.size (smV (Sm.new y.t1)) := by rw [hw4]; exact (cnew_row y.t1 w3.drew).other _ (by show p ≠ w3.drew.heap.size; exact Nat.ne_of_lt hpw)
    have hs4 : w4.heap.size = w3.heap.size + 1 := by rw [hw4]; simp [World.setCell]
    have HT4 := Lib.hid (show Turn (fun k => k = p) w w4 by rw [hw4]; exact (HT3.out.then_ hbs).set (p := ⟨p, 0, none⟩) (Or.inl rfl) _)
    have HR4 := Lib.hid hr4
    have HM4 := Lib.hid hm4
    have HS4 := Lib.hid hs4
    have HWZ := Lib.hid (show w.heap.size ≤ w3.heap.size from HT3.out.size)
    have HPW := Lib.hid hpw
    replace HB := Lib.hid (hr4.cell 39 rfl)
    clear hw4 hbs hr4 hm4 hs4 hpw
    change K _ _
    refine hK.out _ _ HB.out (fun _ => ?_)
    clear hK K
    refine wpAnyH_done (by kernel_rfl) ?_ _
    -- newSender
    have e0 := HR4.out.cell 35 rfl
    have e1 := HR4.out.cell 36 rfl
    have e2 := HR4.out.cell 37 rfl
    have e3 := HR4.out.cell 38 rfl
    have e4 := HR4.out.cell 39 rfl
    have e5 := HR4.out.cell 40 rfl
    go_upto_region 7 with (go_at_call 178; (with_reducible refine (csender20 y _ HYOK.out).mono ?_); rintro e w5 ⟨b, ou, m0, rfl, FB, FO, n1, n2, q1, q2, q3, q4, q5, q6, q7, q8, q9⟩; have hr5 := HR4.out.below q9; have HR5 := Lib.hid hr5; have HT5 := Lib.hid (HT4.out.then_ q9); have HM5 := Lib.hid (HM4.out.below q9); have HSN := Lib.hid (And.intro q1 (And.intro q2 q3)); have HSB := Lib.hid (And.intro q4 (And.intro q5 (And.intro q6 (And.intro q7 q8)))); have HS5 := Lib.hid q9.size; obtain ⟨x0, y0, -⟩ := hr5.get 5 rfl; obtain ⟨x1, y1, -⟩ := hr5.get 6 rfl; obtain ⟨x2, y2, -⟩ := hr5.get 7 rfl; obtain ⟨x3, y3, -⟩ := hr5.get 8 rfl; obtain ⟨x4, y4, -⟩ := hr5.get 9 rfl; clear q1 q2 q3 q4 q5 q6 q7 q8 q9 e0 e1 e2 e3 e4 e5 hr5)
    have HW6 := Lib.hid (Rw.set (Rw.set (Rw.set (Rw.set (Rw.set (Rw.start HR5.out) 5 (ptr20 b)) 6 (ptr20 ou)) 7 (.map (some m0))) 8 (.bool false)) 9 (.bool false))
    have hr6 : RowAt (((((w5.setCell ⟨p, 5, none⟩ (ptr20 b)).setCell ⟨p, 6, none⟩ (ptr20 ou)).setCell ⟨p, 7, none⟩ (.map (some m0))).setCell ⟨p, 8, none⟩ (.bool false)).setCell ⟨p, 9, none⟩ (.bool false)) p (lkRow { x with an := ptr20 w3.heap.size, bo := ptr20 b, ou := ptr20 ou, op := .map (some m0) } { s with state := 3, wasUp := false, holds := y, busy := false, polling := false }) := HW6.out.row
    have HT6 := Lib.hid (turn_one HT5.out HW6.out.turn)
    have HR6 := Lib.hid hr6
    have hp5 : p < w3.heap.size := HPW.out
    have hbm := bo_mem HSN.out.1
    have hom := out_mem HSN.out.2.1
    have hmm := HSN.out.2.2.lt
    have so6 : ∀ k, k ≠ p → k < w5.heap.size → ((((((w5.setCell ⟨p, 5, none⟩ (ptr20 b)).setCell ⟨p, 6, none⟩ (ptr20 ou)).setCell ⟨p, 7, none⟩ (.map (some m0))).setCell ⟨p, 8, none⟩ (.bool false)).setCell ⟨p, 9, none⟩ (.bool false))).heap[k]? = w5.heap[k]? := fun k hk hl => HW6.out.turn.block k hl hk
    have hz6 : w5.heap.size ≤ ((((((w5.setCell ⟨p, 5, none⟩ (ptr20 b)).setCell ⟨p, 6, none⟩ (ptr20 ou)).setCell ⟨p, 7, none⟩ (.map (some m0))).setCell ⟨p, 8, none⟩ (.bool false)).setCell ⟨p, 9, none⟩ (.bool false))).heap.size := HW6.out.turn.size
    have HM6 := Lib.hid (show RowAt (((((w5.setCell ⟨p, 5, none⟩ (ptr20 b)).setCell ⟨p, 6, none⟩ (ptr20 ou)).setCell ⟨p, 7, none⟩ (.map (some m0))).setCell ⟨p, 8, none⟩ (.bool false)).setCell ⟨p, 9, none⟩ (.bool false)) w3.heap.size (smV (Sm.new y.t1)) from HM5.out.block (so6 _ (by omega) (RowAt.lt (v := .int .i64 (Sm.new y.t1).srt) HM5.out)) hz6)
    have HB6 := Lib.hid (show boL (((((w5.setCell ⟨p, 5, none⟩ (ptr20 b)).setCell ⟨p, 6, none⟩ (ptr20 ou)).setCell ⟨p, 7, none⟩ (.map (some m0))).setCell ⟨p, 8, none⟩ (.bool false)).setCell ⟨p, 9, none⟩ (.bool false)) b y.n1 noB FB from bo_stay HSN.out.1 ⟨hz6, fun k hk => so6 k (by have := HSB.out.1 k hk; have := HS4.out; omega) (hbm k hk)⟩)
    have HO6 := Lib.hid (show OutL (((((w5.setCell ⟨p, 5, none⟩ (ptr20 b)).setCell ⟨p, 6, none⟩ (ptr20 ou)).setCell ⟨p, 7, none⟩ (.map (some m0))).setCell ⟨p, 8, none⟩ (.bool false)).setCell ⟨p, 9, none⟩ (.bool false)) ou (modX y) y.k ⟨0, 0⟩ FO from out_stay HSN.out.2.1 ⟨hz6, fun k hk => so6 k (by have := HSB.out.2.1 k hk; have := HSB.out.2.2.2.1; have := HS4.out; omega) (hom k hk)⟩)
    have HP6 := Lib.hid (show MapAt eltP (((((w5.setCell ⟨p, 5, none⟩ (ptr20 b)).setCell ⟨p, 6, none⟩ (ptr20 ou)).setCell ⟨p, 7, none⟩ (.map (some m0))).setCell ⟨p, 8, none⟩ (.bool false)).setCell ⟨p, 9, none⟩ (.bool false)) m0 (fun _ => none) from HSN.out.2.2.same (so6 _ (by have := HSB.out.2.2.1; have := HSB.out.2.2.2; have := HS4.out; omega) hmm))
    have HBD := Lib.hid (show (∀ k, FB k → w3.heap.size + 1 ≤ k ∧ k < n1) ∧ (∀ k, FO k → n1 ≤ k ∧ k < n2) ∧ n2 ≤ m0 ∧ w3.heap.size + 1 ≤ n1 ∧ n1 ≤ n2 ∧ m0 < w5.heap.size ∧ w5.heap.size ≤ ((((((w5.setCell ⟨p, 5, none⟩ (ptr20 b)).setCell ⟨p, 6, none⟩ (ptr20 ou)).setCell ⟨p, 7, none⟩ (.map (some m0))).setCell ⟨p, 8, none⟩ (.bool false)).setCell ⟨p, 9, none⟩ (.bool false))).heap.size from ⟨fun k hk => by have := HSB.out.1 k hk; have := HS4.out; omega, HSB.out.2.1, HSB.out.2.2.1, by have := HSB.out.2.2.2.1; have := HS4.out; omega, HSB.out.2.2.2.2, hmm, hz6⟩)
    clear x0 x1 x2 x3 x4 y0 y1 y2 y3 y4 hr6 hbm hom hmm so6 hz6 HW6 HR5 HT5 HM5 HSN HSB HR4 HT4 HM4 HR3 HT3
    generalize (((((w5.setCell ⟨p, 5, none⟩ (ptr20 b)).setCell ⟨p, 6, none⟩ (ptr20 ou)).setCell ⟨p, 7, none⟩ (.map (some m0))).setCell ⟨p, 8, none⟩ (.bool false)).setCell ⟨p, 9, none⟩ (.bool false)) = w6 at *
    -- newTaker
    refine wp_region_held (S := fun W' => (W'.cell? ⟨p, 35, none⟩ = some (.bool y.wide) ∧ W'.cell? ⟨p, 36, none⟩ = some (.bool y.srej) ∧ W'.cell? ⟨p, 37, none⟩ = some (.int .i64 y.n1) ∧ W'.cell? ⟨p, 38, none⟩ = some (.int .i64 y.k) ∧ W'.cell? ⟨p, 39, none⟩ = some (.int .i64 y.t1) ∧ W'.cell? ⟨p, 40, none⟩ = some (.int .i64 y.n2) ∧ W'.cell? ⟨p, 15, none⟩ = some (.bool s.held))) (by kernel_rfl) ?_
    change wpAnyH _ _ _ _ _ _ _ _ (World.drew _)
    have HB := Lib.hid (cells20 HR6.out.drew rfl rfl)
    refine wpAnyH_take (i := 0) (v := ?_) rfl (by kernel_rfl) (by kernel_rfl) (by kernel_rfl) (fun _ _ _ h => h) (Or.inl ⟨by rfl, ?_⟩) HB.out ?_
    rotate_left
    · intro w' hw'
      go_simp
      with_reducible rfl
    go_simp
    refine wpAnyH_take (i := 1) (v := ?_) rfl (by kernel_rfl) (by kernel_rfl) (by kernel_rfl) (fun _ _ _ h => h) (Or.inl ⟨by rfl, ?_⟩) HB.out ?_
    rotate_left
    · intro w' hw'
      go_simp
      with_reducible rfl
    go_simp
    refine wpAnyH_take (i := 2) (v := ?_) rfl (by kernel_rfl) (by kernel_rfl) (by kernel_rfl) (fun _ _ _ h => h) (Or.inl ⟨by rfl, ?_⟩) HB.out ?_
    rotate_left
    · intro w' hw'
      go_simp
      with_reducible rfl
    go_simp
    refine wpAnyH_take (i := 3) (v := ?_) rfl (by kernel_rfl) (by kernel_rfl) (by kernel_rfl) (fun _ _ _ h => h) (Or.inl ⟨by rfl, ?_⟩) HB.out ?_
    rotate_left
    · intro w' hw'
      go_simp
      with_reducible rfl
    go_simp
    refine wpAnyH_take (i := 5) (v := ?_) rfl (by kernel_rfl) (by kernel_rfl) (by kernel_rfl) (fun _ _ _ h => h) (Or.inl ⟨by rfl, ?_⟩) HB.out ?_
    rotate_left
    · intro w' hw'
      go_simp
      with_reducible rfl
    go_simp
    refine wpAnyH_take (i := 6) (v := ?_) rfl (by kernel_rfl) (by kernel_rfl) (by kernel_rfl) (fun _ _ _ h => h) (Or.inl ⟨by rfl, ?_⟩) HB.out ?_
    rotate_left
    · intro w' hw'
      go_simp
      with_reducible rfl
    go_simp
    refine wpAnyH_take (i := 7) (v := ?_) rfl (by kernel_rfl) (by kernel_rfl) (by kernel_rfl) (fun _ _ _ h => h) (Or.inl ⟨by rfl, ?_⟩) HB.out ?_
    rotate_left
    · intro w' hw'
      go_simp
      with_reducible rfl
    go_simp
    refine wpAnyH_take (i := 8) (v := ?_) rfl (by kernel_rfl) (by kernel_rfl) (by kernel_rfl) (fun _ _ _ h => h) (Or.inl ⟨by rfl, ?_⟩) HB.out ?_
    rotate_left
    · intro w' hw'
      go_simp
      with_reducible rfl
    go_simp
    refine wpAnyH_take (i := 4) (v := ?_) rfl (by kernel_rfl) (by kernel_rfl) (by kernel_rfl) (fun _ _ _ h => h) (Or.inl ⟨by rfl, ?_⟩) HB.out ?_
    rotate_left
    · intro w' hw'
      obtain ⟨x0, x1, x2, x3, x4, x5, -⟩ := hw'
      go_simp
      with_reducible rfl
    go_simp
    refine wpAnyH_take (i := 9) (v := ?_) rfl (by kernel_rfl) (by kernel_rfl) (by kernel_rfl) (fun _ _ _ h => h) (Or.inl ⟨by rfl, ?_⟩) HB.out ?_
    rotate_left
    · intro w' hw'
      obtain ⟨-, -, -, -, -, -, x6⟩ := hw'
      go_simp
      with_reducible rfl
    go_simp
    refine wpAnyH_ready (rs := [10]) (by kernel_rfl) (by simp) ?_
    refine AllReadyH.cons rfl (fun K hK => ?_) AllReadyH.nil
    go_simp
    go_at_call 179
    refine (ctaker20 y s.held w6.drew).mono ?_
    rintro e w7 ⟨i, m1, m2, g, rfl, FI, n3, q1, q2, q3, q4, q5, q6, q7, q8, q9, q10⟩
    have hb7 : Below w6.heap.size w6 w7 := (Below.refl _ w6).drew.trans q10
    have HR7 := Lib.hid (HR6.out.below hb7)
    have HT7 := Lib.hid (HT6.out.then_ hb7)
    have HM7 := Lib.hid (HM6.out.below hb7)
    have HB7 := Lib.hid (bo_stay HB6.out (SameOn.of_below hb7 (bo_mem HB6.out)))
    have HO7 := Lib.hid (out_stay HO6.out (SameOn.of_below hb7 (out_mem HO6.out)))
    have HP7 := Lib.hid (HP6.out.below hb7)
    have HTK := Lib.hid (And.intro q1 (And.intro q2 (And.intro q3 q4)))
    have HTB := Lib.hid (show (∀ k, FI k → w6.heap.size ≤ k ∧ k < n3) ∧ w6.heap.size ≤ n3 ∧ n3 ≤ m1 ∧ m1 < m2 ∧ m2 < g from ⟨q5, q6, q7, q8, q9⟩)
    have HS7 := Lib.hid hb7.size
    replace HB := Lib.hid (cells20 HR7.out rfl rfl)
    clear q1 q2 q3 q4 q5 q6 q7 q8 q9 q10 hb7 HR6 HT6 HM6 HB6 HO6 HP6
    change K _ _
    refine hK.out _ _ HB.out (fun _ => ?_)
    clear hK K
    refine wpAnyH_take (i := 11) (v := ?_) rfl (by kernel_rfl) (by kernel_rfl) (by kernel_rfl) (fun _ _ _ h => h) (Or.inl ⟨by rfl, ?_⟩) HB.out ?_
    rotate_left
    · intro w' hw'
      go_simp
      with_reducible rfl
    go_simp
    refine wpAnyH_take (i := 12) (v := ?_) rfl (by kernel_rfl) (by kernel_rfl) (by kernel_rfl) (fun _ _ _ h => h) (Or.inl ⟨by rfl, ?_⟩) HB.out ?_
    rotate_left
    · intro w' hw'
      go_simp
      with_reducible rfl
    go_simp
    obtain ⟨x0, y0, -⟩ := HR7.out.get 10 rfl
    obtain ⟨x1, y1, -⟩ := HR7.out.get 11 rfl
    obtain ⟨x2, y2, -⟩ := HR7.out.get 12 rfl
    obtain ⟨x3, y3, -⟩ := HR7.out.get 13 rfl
    obtain ⟨x4, y4, -⟩ := HR7.out.get 14 rfl
    obtain ⟨x5, y5, -⟩ := HR7.out.get 15 rfl
    refine wpAnyH_ready (rs := [13]) (by kernel_rfl) (by simp) ?_
    refine AllReadyH.cons rfl (fun K hK => ?_) AllReadyH.nil
    go_simp
    have HW8 := Lib.hid (Rw.set (Rw.set (Rw.set (Rw.set (Rw.set (Rw.set (Rw.start HR7.out) 10 (ptr20 i)) 11 (.map (some m1))) 12 (.map (some m2))) 13 (.bool false)) 14 (ptr20 g)) 15 (.bool s.held))
    have hr8 : RowAt ((((((w7.setCell ⟨p, 10, none⟩ (ptr20 i)).setCell ⟨p, 11, none⟩ (.map (some m1))).setCell ⟨p, 12, none⟩ (.map (some m2))).setCell ⟨p, 13, none⟩ (.bool false)).setCell ⟨p, 14, none⟩ (ptr20 g)).setCell ⟨p, 15, none⟩ (.bool s.held)) p (lkRow (upX x (ptr20 w3.heap.size) (ptr20 b) (ptr20 ou) (.map (some m0)) (ptr20 i) (.map (some m1)) (.map (some m2)) (ptr20 g)) (upS s y)) := HW8.out.row
    have HT8 := Lib.hid (turn_one HT7.out HW8.out.turn)
    have so8 : ∀ k, k ≠ p → k < w7.heap.size → (((((((w7.setCell ⟨p, 10, none⟩ (ptr20 i)).setCell ⟨p, 11, none⟩ (.map (some m1))).setCell ⟨p, 12, none⟩ (.map (some m2))).setCell ⟨p, 13, none⟩ (.bool false)).setCell ⟨p, 14, none⟩ (ptr20 g)).setCell ⟨p, 15, none⟩ (.bool s.held))).heap[k]? = w7.heap[k]? := fun k hk hl => HW8.out.turn.block k hl hk
    have hz8 : w7.heap.size ≤ (((((((w7.setCell ⟨p, 10, none⟩ (ptr20 i)).setCell ⟨p, 11, none⟩ (.map (some m1))).setCell ⟨p, 12, none⟩ (.map (some m2))).setCell ⟨p, 13, none⟩ (.bool false)).setCell ⟨p, 14, none⟩ (ptr20 g)).setCell ⟨p, 15, none⟩ (.bool s.held))).heap.size := HW8.out.turn.size
    have hp3 : p < w3.heap.size := HPW.out
    have hbd := HBD.out
    have htb := HTB.out
    have hbm := bo_mem HB7.out
    have hom := out_mem HO7.out
    have him := in_mem HTK.out.1
    have hl1 := HTK.out.2.1.lt
    have hl2 := HTK.out.2.2.1.lt
    have hl3 : g < w7.heap.size := RowAt.lt (v := .int .i64 zeroG.left) HTK.out.2.2.2
    have hm3 : w3.heap.size < w7.heap.size := RowAt.lt (v := .int .i64 (Sm.new y.t1).srt) HM7.out
    have hP7 := HP7.out.lt
    obtain ⟨k1, k2, k3⟩ := rise_done HL.out y HYOK.out (n1 := w3.heap.size + 1) (n2 := n1) (n3 := n2) (n4 := w6.heap.size) (n5 := n3) hr8 HT8.out (HM7.out.block (so8 _ (by omega) hm3) hz8) (bo_stay HB7.out ⟨hz8, fun k hk => so8 k (by have := hbd.1 k hk; omega) (hbm k hk)⟩) (out_stay HO7.out ⟨hz8, fun k hk => so8 k (by have := hbd.2.1 k hk; omega) (hom k hk)⟩) (HP7.out.same (so8 _ (by omega) hP7)) (in_stay HTK.out.1 ⟨hz8, fun k hk => so8 k (by have := htb.1 k hk; omega) (him k hk)⟩) (HTK.out.2.1.same (so8 _ (by omega) hl1)) (HTK.out.2.2.1.same (so8 _ (by omega) hl2)) (HTK.out.2.2.2.block (so8 _ (by omega) hl3) hz8)
      ⟨HWZ.out, by omega⟩ (fun k hk => hbd.1 k hk) (fun k hk => hbd.2.1 k hk) ⟨hbd.2.2.1, by omega⟩ (fun k hk => htb.1 k hk) ⟨htb.2.2.1, htb.2.2.2.1, htb.2.2.2.2⟩ ⟨hbd.2.2.2.1, hbd.2.2.2.2.1, htb.2.1⟩
    obtain ⟨H8, l1, l2, l3⟩ := HLO.out _ _ _ ⟨_, _, k1, rfl⟩ (HF.out ▸ k2) (HF.out ▸ k3)
    have HL8 := Lib.hid l1
    have HTL := Lib.hid l2
    have HGL := Lib.hid l3
    replace HB := Lib.hid (show ((((((((w7.setCell ⟨p, 10, none⟩ (ptr20 i)).setCell ⟨p, 11, none⟩ (.map (some m1))).setCell ⟨p, 12, none⟩ (.map (some m2))).setCell ⟨p, 13, none⟩ (.bool false)).setCell ⟨p, 14, none⟩ (ptr20 g)).setCell ⟨p, 15, none⟩ (.bool s.held))).cell? ⟨p, 35, none⟩ = some (.bool y.wide) ∧ (((((((w7.setCell ⟨p, 10, none⟩ (ptr20 i)).setCell ⟨p, 11, none⟩ (.map (some m1))).setCell ⟨p, 12, none⟩ (.map (some m2))).setCell ⟨p, 13, none⟩ (.bool false)).setCell ⟨p, 14, none⟩ (ptr20 g)).setCell ⟨p, 15, none⟩ (.bool s.held))).cell? ⟨p, 36, none⟩ = some (.bool y.srej) ∧ (((((((w7.setCell ⟨p, 10, none⟩ (ptr20 i)).setCell ⟨p, 11, none⟩ (.map (some m1))).setCell ⟨p, 12, none⟩ (.map (some m2))).setCell ⟨p, 13, none⟩ (.bool false)).setCell ⟨p, 14, none⟩ (ptr20 g)).setCell ⟨p, 15, none⟩ (.bool s.held))).cell? ⟨p, 37, none⟩ = some (.int .i64 y.n1) ∧ (((((((w7.setCell ⟨p, 10, none⟩ (ptr20 i)).setCell ⟨p, 11, none⟩ (.map (some m1))).setCell ⟨p, 12, none⟩ (.map (some m2))).setCell ⟨p, 13, none⟩ (.bool false)).setCell ⟨p, 14, none⟩ (ptr20 g)).setCell ⟨p, 15, none⟩ (.bool s.held))).cell? ⟨p, 38, none⟩ = some (.int .i64 y.k) ∧ (((((((w7.setCell ⟨p, 10, none⟩ (ptr20 i)).setCell ⟨p, 11, none⟩ (.map (some m1))).setCell ⟨p, 12, none⟩ (.map (some m2))).setCell ⟨p, 13, none⟩ (.bool false)).setCell ⟨p, 14, none⟩ (ptr20 g)).setCell ⟨p, 15, none⟩ (.bool s.held))).cell? ⟨p, 39, none⟩ = some (.int .i64 y.t1) ∧ (((((((w7.setCell ⟨p, 10, none⟩ (ptr20 i)).setCell ⟨p, 11, none⟩ (.map (some m1))).setCell ⟨p, 12, none⟩ (.map (some m2))).setCell ⟨p, 13, none⟩ (.bool false)).setCell ⟨p, 14, none⟩ (ptr20 g)).setCell ⟨p, 15, none⟩ (.bool s.held))).cell? ⟨p, 40, none⟩ = some (.int .i64 y.n2) ∧ (((((((w7.setCell ⟨p, 10, none⟩ (ptr20 i)).setCell ⟨p, 11, none⟩ (.map (some m1))).setCell ⟨p, 12, none⟩ (.map (some m2))).setCell ⟨p, 13, none⟩ (.bool false)).setCell ⟨p, 14, none⟩ (ptr20 g)).setCell ⟨p, 15, none⟩ (.bool s.held))).cell? ⟨p, 15, none⟩ = some (.bool s.held)) from cells20 hr8 rfl rfl)
    clear x0 x1 x2 x3 x4 x5 y0 y1 y2 y3 y4 y5 hr8 so8 hz8 hp3 hbd htb hbm hom him hl1 hl2 hl3 hm3 hP7 k1 k2 k3 l1 l2 l3 HW8 HR7 HT7 HM7 HB7 HO7 HP7 HTK HTB HBD HT8
    generalize ((((((w7.setCell ⟨p, 10, none⟩ (ptr20 i)).setCell ⟨p, 11, none⟩ (.map (some m1))).setCell ⟨p, 12, none⟩ (.map (some m2))).setCell ⟨p, 13, none⟩ (.bool false)).setCell ⟨p, 14, none⟩ (ptr20 g)).setCell ⟨p, 15, none⟩ (.bool s.held)) = w8 at *
    refine hK.out _ _ HB.out (fun _ => ?_)
    clear hK K
    refine wpAnyH_done (by kernel_rfl) ?_ _
    have HST := Lib.hid (HL8.out.step _ _ fun F hL => cstop20 w8 p (upS s y) F hL)
    have HKT := Lib.hid (fun (W : World) (H1 : Nat → Prop) (h1 : LO W p q (upS s y).stop o H1) => h1.step _ _ fun F hL => ckeep20 W p (upS s y).stop F hL)
    clear HB HL HLO HF HWZ HPW HS4 HS5
    go_upto_region 10 with (first
      | (go_at_call 180; (with_reducible refine HST.out.mono ?_); rintro e w9 ⟨rfl, H9, k1, k2, k3⟩; have HL9 := Lib.hid k1; have HT9 := Lib.hid (HTL.out.trans k2 HGL.out); have HG9 := Lib.hid (HGL.out.trans k3 HTL.out.size); clear k1 k2 k3)
      | (go_at_call 75; (with_reducible refine (HKT.out _ _ HL9.out).mono ?_); rintro e w10 ⟨rfl, H10, k1, k2, k3⟩; have HL10 := Lib.hid k1; have HT10 := Lib.hid (HT9.out.trans k2 HG9.out); have HG10 := Lib.hid (HG9.out.trans k3 HT9.out.size); clear k1 k2 k3))
    obtain ⟨fv, ev, L, G10, F10, hO, hGe, hL10, ha, hH10⟩ := HL10.out.open_
    obtain ⟨x2, y2, -⟩ := hO.row.get 2 rfl
    obtain ⟨k1, k2⟩ := hO.fresh_ true
    have HOF := Lib.hid k1
    have HTF := Lib.hid k2
    obtain ⟨H11, l1, l2, l3⟩ := LO.out hL10 ha (RowAt.lt hO.row) hH10 ⟨_, _, _, k1, rfl⟩ (hGe ▸ k2) (hGe ▸ Grew.refl _ _)
    have HL11 := Lib.hid l1
    have HT11 := Lib.hid (HT10.out.trans l2 HG10.out)
    have HG11 := Lib.hid (HG10.out.trans l3 HT10.out.size)
    clear hO hGe hL10 ha hH10 k1 k2 l1 l2 l3
    go_upto_region 11 with fail
    clear x2 y2 HOF HTF
    generalize (w10.setCell ⟨q, 2, none⟩ (.bool true)) = w11 at *
    obtain ⟨fv, ev, L, G11, F11, hO, hGe, hL11, ha, hH11⟩ := HL11.out.open_
    have HO := Lib.hid hO
    have q1 := hO.row.cell 1 rfl
    have HM3 := Lib.hid (AtL.made encEv 122 w11 w11.heap.size ⟨5, 0, ⟨#[]⟩⟩ [.int .i64 5, .int .i64 0, .string ⟨#[]⟩] rfl rfl)
    have HEND := Lib.hid (fun (w' : World) (G' : Nat → Prop) (t1 : OtL w' q (Ot.say { o with fresh := true } ⟨5, 0, ⟨#[]⟩⟩) G') (t2 : Turn (footO q fv ev L) w11 w') (t3 : Grew (footO q fv ev L) G' w11) => LO.out hL11 ha (RowAt.lt hO.row) hH11 t1 (hGe ▸ t2) (hGe ▸ t3))
    clear hO hGe hL11 ha hH11
    go_wp2_with (at_builtin; refine wpList_append_one encEv 122 48 Tryz.underlying48 infoEv rfl (by decide) _ rfl (.tmp 73) (.tmp 76) rfl 0 ev o.events rfl (HO.out.events.alloc _) w11.heap.size 1 rfl ⟨5, 0, ⟨#[]⟩⟩ HM3.out (Nat.le_trans HM.out (by omega)) (Nat.zero_le _) ?_; intro v3 w12 hown hgr hwh; obtain ⟨av, nv, cv, rfl⟩ := OwnL.form' hown; obtain ⟨hr3, ho3, ht3, hg3⟩ := OtAt.say HO.out ((Below.refl _ w11).alloc (Nat.le_refl _) _) hown hgr hwh; obtain ⟨x1, y1, -⟩ := hr3.get 1 rfl; have HE3 := Lib.hid (HEND.out _ _ ⟨_, _, _, ho3, rfl⟩ ht3 hg3); clear hown hgr hwh hr3 ho3 ht3 hg3)
    obtain ⟨H13, k1, k2, k3⟩ := HE3.out
    exact bodyPost_end (v := .tuple #[]) (by simp [results, Tryz.results134, go_sem]) rfl ⟨rfl, _, k1, HT11.out.trans k2 HG11.out, HG11.out.trans k3 HT11.out.size⟩
  · have d3 : (s.state == 3) = false := by simpa using h3
    obtain ⟨wu, hwu⟩ : ∃ wu, wu = s.wasUp := ⟨_, rfl⟩
    rw [← hwu] at hkind c43
    clear hwu
    cases wu
    · rw [if_neg (by simp [h3])] at hkind
      clear h3
      subst hkind
      go_enter Tryz.func134, Tryz.ntmps134
      go_upto_region 4 with fail
      have hr1 : RowAt ((w.setCell ⟨p, 41, none⟩ (.int .i64 3)).setCell ⟨p, 43, none⟩ (.bool false)) p (lkRow x { s with state := 3, wasUp := false }) := HROW1.out.row
      have HT1 := Lib.hid HROW1.out.turn
      have HR1 := Lib.hid hr1
      clear c41 f41 c43 f43 hr1 HROW1
      generalize ((w.setCell ⟨p, 41, none⟩ (.int .i64 3)).setCell ⟨p, 43, none⟩ (.bool false)) = w1 at *
      have HFIT := Lib.hid (cfit20 w1 p x { s with state := 3, wasUp := false } wide HR1.out)
      go_upto_region 5 with (go_at_call 177; (with_reducible refine HFIT.out.mono ?_); rintro e w2 ⟨rfl, hb⟩; have hr2 := HR1.out.below hb; have HR2 := Lib.hid hr2; have HT2 := Lib.hid (HT1.out.then_ hb); obtain ⟨h0, g0, -⟩ := hr2.get 35 rfl; obtain ⟨h1, g1, -⟩ := hr2.get 36 rfl; obtain ⟨h2, g2, -⟩ := hr2.get 37 rfl; obtain ⟨h3, g3, -⟩ := hr2.get 38 rfl; obtain ⟨h4, g4, -⟩ := hr2.get 39 rfl; obtain ⟨h5, g5, -⟩ := hr2.get 40 rfl; clear hb hr2)
      rw [show fitX ({ s with state := 3, wasUp := false } : Lk).agreed ({ s with state := 3, wasUp := false } : Lk).can wide = y from HY.out.symm]
      have HW3 := Lib.hid ((((((Rw.set (Rw.set (Rw.set (Rw.set (Rw.set (Rw.set (Rw.start HR2.out) 35 (.bool y.wide)) 36 (.bool y.srej)) 37 (.int .i64 y.n1)) 38 (.int .i64 y.k)) 39 (.int .i64 y.t1)) 40 (.int .i64 y.n2)))))))
      have hr3 : RowAt ((((((w2.setCell ⟨p, 35, none⟩ (.bool y.wide)).setCell ⟨p, 36, none⟩ (.bool y.srej)).setCell ⟨p, 37, none⟩ (.int .i64 y.n1)).setCell ⟨p, 38, none⟩ (.int .i64 y.k)).setCell ⟨p, 39, none⟩ (.int .i64 y.t1)).setCell ⟨p, 40, none⟩ (.int .i64 y.n2)) p (lkRow x { s with state := 3, wasUp := false, holds := y }) := HW3.out.row
      have HT3 := Lib.hid (turn_one HT2.out HW3.out.turn)
      have HR3 := Lib.hid hr3
      clear h0 h1 h2 h3 h4 h5 g0 g1 g2 g3 g4 g5 hr3 HW3 HR2 HFIT HR1 HT1 HT2
      generalize ((((((w2.setCell ⟨p, 35, none⟩ (.bool y.wide)).setCell ⟨p, 36, none⟩ (.bool y.srej)).setCell ⟨p, 37, none⟩ (.int .i64 y.n1)).setCell ⟨p, 38, none⟩ (.int .i64 y.k)).setCell ⟨p, 39, none⟩ (.int .i64 y.t1)).setCell ⟨p, 40, none⟩ (.int .i64 y.n2)) = w3 at *
      -- learn
      refine wp_region_held (S := fun W' => W'.cell? ⟨p, 39, none⟩ = some (.int .i64 y.t1)) (by kernel_rfl) ?_
      change wpAnyH _ _ _ _ _ _ _ _ (World.drew _)
      have HB := Lib.hid (show w3.drew.cell? ⟨p, 39, none⟩ = some (.int .i64 y.t1) from HR3.out.drew.cell 39 rfl)
      refine wpAnyH_take (i := 0) (v := ?_) rfl (by kernel_rfl) (by kernel_rfl) (by kernel_rfl) (fun _ _ _ h => h) (Or.inl ⟨by rfl, ?_⟩) HB.out ?_
      rotate_left
      · intro w' hw'
        go_simp
        with_reducible rfl
      go_simp
      refine wpAnyH_take (i := 1) (v := ?_) rfl (by kernel_rfl) (by kernel_rfl) (by kernel_rfl) (fun _ _ _ h => h) (Or.inl ⟨by rfl, ?_⟩) HB.out ?_
      rotate_left
      · intro w' hw'
        go_simp
        with_reducible rfl
      go_simp
      refine wpAnyH_take (i := 2) (v := ?_) rfl (by kernel_rfl) (by kernel_rfl) (by kernel_rfl) (fun _ _ _ h => h) (Or.inl ⟨by rfl, ?_⟩) HB.out ?_
      rotate_left
      · intro w' hw'
        go_simp
        with_reducible rfl
      go_simp
      refine wpAnyH_take (i := 3) (v := ?_) rfl (by kernel_rfl) (by kernel_rfl) (by kernel_rfl) (fun _ _ _ h => h) (Or.inl ⟨by rfl, ?_⟩) HB.out ?_
      rotate_left
      · intro w' hw'
        go_simp
        with_reducible rfl
      go_simp
      refine wpAnyH_take (i := 4) (v := ?_) rfl (by kernel_rfl) (by kernel_rfl) (by kernel_rfl) (fun _ _ _ h => h) (Or.inl ⟨by rfl, ?_⟩) HB.out ?_
      rotate_left
      · intro w' hw'
        go_simp
        with_reducible rfl
      go_simp
      refine wpAnyH_take (i := 5) (v := ?_) rfl (by kernel_rfl) (by kernel_rfl) (by kernel_rfl) (fun _ _ _ h => h) (Or.inl ⟨by rfl, ?_⟩) HB.out ?_
      rotate_left
      · intro w' hw'
        go_simp
        with_reducible rfl
      go_simp
      refine wpAnyH_take (i := 6) (v := ?_) rfl (by kernel_rfl) (by kernel_rfl) (by kernel_rfl) (fun _ _ _ h => h) (Or.inl ⟨by rfl, ?_⟩) HB.out ?_
      rotate_left
      · intro w' hw'
        go_simp
        with_reducible rfl
      go_simp
      refine wpAnyH_take (i := 7) (v := ?_) rfl (by kernel_rfl) (by kernel_rfl) (by kernel_rfl) (fun _ _ _ h => h) (Or.inl ⟨by rfl, ?_⟩) HB.out ?_
      rotate_left
      · intro w' hw'
        go_simp
        with_reducible rfl
      go_simp
      refine wpAnyH_ready (rs := [8]) (by kernel_rfl) (by simp) ?_
      refine AllReadyH.cons rfl (fun K hK => ?_) AllReadyH.nil
      go_simp
      go_at_call 70
      refine (clearn_row w3.drew p x.an _ y.t1 HR3.out.drew).mono ?_
      rintro e w4 ⟨rfl, hw4⟩
      have hbs : Below w3.heap.size w3 (w3.drew.alloc (.cells #[.int .i64 (Sm.new y.t1).srt, .int .i64 (Sm.new y.t1).t1] 241)) := (Below.refl _ w3).drew.alloc (Nat.le_refl _) _
      have hpw : p < w3.heap.size := RowAt.lt (v := x.an) HR3.out
      have hr4 : RowAt w4 p (lkRow { x with an := ptr20 w3.heap.size } { s with state := 3, wasUp := false, holds := y }) := by rw [hw4]; exact (HR3.out.below hbs).put 0 (ptr20 w3.heap.size) _ rfl
      have hm4 : RowAt w4 w3.heap.size (smV (Sm.new y.t1)) := by rw [hw4]; exact (cnew_row y.t1 w3.drew).other _ (by show p ≠ w3.drew.heap.size; exact Nat.ne_of_lt hpw)
      have hs4 : w4.heap.size = w3.heap.size + 1 := by rw [hw4]; simp [World.setCell]
      have HT4 := Lib.hid (show Turn (fun k => k = p) w w4 by rw [hw4]; exact (HT3.out.then_ hbs).set (p := ⟨p, 0, none⟩) (Or.inl rfl) _)
      have HR4 := Lib.hid hr4
      have HM4 := Lib.hid hm4
      have HS4 := Lib.hid hs4
      have HWZ := Lib.hid (show w.heap.size ≤ w3.heap.size from HT3.out.size)
      have HPW := Lib.hid hpw
      replace HB := Lib.hid (hr4.cell 39 rfl)
      clear hw4 hbs hr4 hm4 hs4 hpw
      change K _ _
      refine hK.out _ _ HB.out (fun _ => ?_)
      clear hK K
      refine wpAnyH_done (by kernel_rfl) ?_ _
      -- newSender
      have e0 := HR4.out.cell 35 rfl
      have e1 := HR4.out.cell 36 rfl
      have e2 := HR4.out.cell 37 rfl
      have e3 := HR4.out.cell 38 rfl
      have e4 := HR4.out.cell 39 rfl
      have e5 := HR4.out.cell 40 rfl
      go_upto_region 7 with (go_at_call 178; (with_reducible refine (csender20 y _ HYOK.out).mono ?_); rintro e w5 ⟨b, ou, m0, rfl, FB, FO, n1, n2, q1, q2, q3, q4, q5, q6, q7, q8, q9⟩; have hr5 := HR4.out.below q9; have HR5 := Lib.hid hr5; have HT5 := Lib.hid (HT4.out.then_ q9); have HM5 := Lib.hid (HM4.out.below q9); have HSN := Lib.hid (And.intro q1 (And.intro q2 q3)); have HSB := Lib.hid (And.intro q4 (And.intro q5 (And.intro q6 (And.intro q7 q8)))); have HS5 := Lib.hid q9.size; obtain ⟨x0, y0, -⟩ := hr5.get 5 rfl; obtain ⟨x1, y1, -⟩ := hr5.get 6 rfl; obtain ⟨x2, y2, -⟩ := hr5.get 7 rfl; obtain ⟨x3, y3, -⟩ := hr5.get 8 rfl; obtain ⟨x4, y4, -⟩ := hr5.get 9 rfl; clear q1 q2 q3 q4 q5 q6 q7 q8 q9 e0 e1 e2 e3 e4 e5 hr5)
      have HW6 := Lib.hid (Rw.set (Rw.set (Rw.set (Rw.set (Rw.set (Rw.start HR5.out) 5 (ptr20 b)) 6 (ptr20 ou)) 7 (.map (some m0))) 8 (.bool false)) 9 (.bool false))
      have hr6 : RowAt (((((w5.setCell ⟨p, 5, none⟩ (ptr20 b)).setCell ⟨p, 6, none⟩ (ptr20 ou)).setCell ⟨p, 7, none⟩ (.map (some m0))).setCell ⟨p, 8, none⟩ (.bool false)).setCell ⟨p, 9, none⟩ (.bool false)) p (lkRow { x with an := ptr20 w3.heap.size, bo := ptr20 b, ou := ptr20 ou, op := .map (some m0) } { s with state := 3, wasUp := false, holds := y, busy := false, polling := false }) := HW6.out.row
      have HT6 := Lib.hid (turn_one HT5.out HW6.out.turn)
      have HR6 := Lib.hid hr6
      have hp5 : p < w3.heap.size := HPW.out
      have hbm := bo_mem HSN.out.1
      have hom := out_mem HSN.out.2.1
      have hmm := HSN.out.2.2.lt
      have so6 : ∀ k, k ≠ p → k < w5.heap.size → ((((((w5.setCell ⟨p, 5, none⟩ (ptr20 b)).setCell ⟨p, 6, none⟩ (ptr20 ou)).setCell ⟨p, 7, none⟩ (.map (some m0))).setCell ⟨p, 8, none⟩ (.bool false)).setCell ⟨p, 9, none⟩ (.bool false))).heap[k]? = w5.heap[k]? := fun k hk hl => HW6.out.turn.block k hl hk
      have hz6 : w5.heap.size ≤ ((((((w5.setCell ⟨p, 5, none⟩ (ptr20 b)).setCell ⟨p, 6, none⟩ (ptr20 ou)).setCell ⟨p, 7, none⟩ (.map (some m0))).setCell ⟨p, 8, none⟩ (.bool false)).setCell ⟨p, 9, none⟩ (.bool false))).heap.size := HW6.out.turn.size
      have HM6 := Lib.hid (show RowAt (((((w5.setCell ⟨p, 5, none⟩ (ptr20 b)).setCell ⟨p, 6, none⟩ (ptr20 ou)).setCell ⟨p, 7, none⟩ (.map (some m0))).setCell ⟨p, 8, none⟩ (.bool false)).setCell ⟨p, 9, none⟩ (.bool false)) w3.heap.size (smV (Sm.new y.t1)) from HM5.out.block (so6 _ (by omega) (RowAt.lt (v := .int .i64 (Sm.new y.t1).srt) HM5.out)) hz6)
      have HB6 := Lib.hid (show boL (((((w5.setCell ⟨p, 5, none⟩ (ptr20 b)).setCell ⟨p, 6, none⟩ (ptr20 ou)).setCell ⟨p, 7, none⟩ (.map (some m0))).setCell ⟨p, 8, none⟩ (.bool false)).setCell ⟨p, 9, none⟩ (.bool false)) b y.n1 noB FB from bo_stay HSN.out.1 ⟨hz6, fun k hk => so6 k (by have := HSB.out.1 k hk; have := HS4.out; omega) (hbm k hk)⟩)
      have HO6 := Lib.hid (show OutL (((((w5.setCell ⟨p, 5, none⟩ (ptr20 b)).setCell ⟨p, 6, none⟩ (ptr20 ou)).setCell ⟨p, 7, none⟩ (.map (some m0))).setCell ⟨p, 8, none⟩ (.bool false)).setCell ⟨p, 9, none⟩ (.bool false)) ou (modX y) y.k ⟨0, 0⟩ FO from out_stay HSN.out.2.1 ⟨hz6, fun k hk => so6 k (by have := HSB.out.2.1 k hk; have := HSB.out.2.2.2.1; have := HS4.out; omega) (hom k hk)⟩)
      have HP6 := Lib.hid (show MapAt eltP (((((w5.setCell ⟨p, 5, none⟩ (ptr20 b)).setCell ⟨p, 6, none⟩ (ptr20 ou)).setCell ⟨p, 7, none⟩ (.map (some m0))).setCell ⟨p, 8, none⟩ (.bool false)).setCell ⟨p, 9, none⟩ (.bool false)) m0 (fun _ => none) from HSN.out.2.2.same (so6 _ (by have := HSB.out.2.2.1; have := HSB.out.2.2.2; have := HS4.out; omega) hmm))
      have HBD := Lib.hid (show (∀ k, FB k → w3.heap.size + 1 ≤ k ∧ k < n1) ∧ (∀ k, FO k → n1 ≤ k ∧ k < n2) ∧ n2 ≤ m0 ∧ w3.heap.size + 1 ≤ n1 ∧ n1 ≤ n2 ∧ m0 < w5.heap.size ∧ w5.heap.size ≤ ((((((w5.setCell ⟨p, 5, none⟩ (ptr20 b)).setCell ⟨p, 6, none⟩ (ptr20 ou)).setCell ⟨p, 7, none⟩ (.map (some m0))).setCell ⟨p, 8, none⟩ (.bool false)).setCell ⟨p, 9, none⟩ (.bool false))).heap.size from ⟨fun k hk => by have := HSB.out.1 k hk; have := HS4.out; omega, HSB.out.2.1, HSB.out.2.2.1, by have := HSB.out.2.2.2.1; have := HS4.out; omega, HSB.out.2.2.2.2, hmm, hz6⟩)
      clear x0 x1 x2 x3 x4 y0 y1 y2 y3 y4 hr6 hbm hom hmm so6 hz6 HW6 HR5 HT5 HM5 HSN HSB HR4 HT4 HM4 HR3 HT3
      generalize (((((w5.setCell ⟨p, 5, none⟩ (ptr20 b)).setCell ⟨p, 6, none⟩ (ptr20 ou)).setCell ⟨p, 7, none⟩ (.map (some m0))).setCell ⟨p, 8, none⟩ (.bool false)).setCell ⟨p, 9, none⟩ (.bool false)) = w6 at *
      -- newTaker
      refine wp_region_held (S := fun W' => (W'.cell? ⟨p, 35, none⟩ = some (.bool y.wide) ∧ W'.cell? ⟨p, 36, none⟩ = some (.bool y.srej) ∧ W'.cell? ⟨p, 37, none⟩ = some (.int .i64 y.n1) ∧ W'.cell? ⟨p, 38, none⟩ = some (.int .i64 y.k) ∧ W'.cell? ⟨p, 39, none⟩ = some (.int .i64 y.t1) ∧ W'.cell? ⟨p, 40, none⟩ = some (.int .i64 y.n2) ∧ W'.cell? ⟨p, 15, none⟩ = some (.bool s.held))) (by kernel_rfl) ?_
      change wpAnyH _ _ _ _ _ _ _ _ (World.drew _)
      have HB := Lib.hid (cells20 HR6.out.drew rfl rfl)
      refine wpAnyH_take (i := 0) (v := ?_) rfl (by kernel_rfl) (by kernel_rfl) (by kernel_rfl) (fun _ _ _ h => h) (Or.inl ⟨by rfl, ?_⟩) HB.out ?_
      rotate_left
      · intro w' hw'
        go_simp
        with_reducible rfl
      go_simp
      refine wpAnyH_take (i := 1) (v := ?_) rfl (by kernel_rfl) (by kernel_rfl) (by kernel_rfl) (fun _ _ _ h => h) (Or.inl ⟨by rfl, ?_⟩) HB.out ?_
      rotate_left
      · intro w' hw'
        go_simp
        with_reducible rfl
      go_simp
      refine wpAnyH_take (i := 2) (v := ?_) rfl (by kernel_rfl) (by kernel_rfl) (by kernel_rfl) (fun _ _ _ h => h) (Or.inl ⟨by rfl, ?_⟩) HB.out ?_
      rotate_left
      · intro w' hw'
        go_simp
        with_reducible rfl
      go_simp
      refine wpAnyH_take (i := 3) (v := ?_) rfl (by kernel_rfl) (by kernel_rfl) (by kernel_rfl) (fun _ _ _ h => h) (Or.inl ⟨by rfl, ?_⟩) HB.out ?_
      rotate_left
      · intro w' hw'
        go_simp
        with_reducible rfl
      go_simp
      refine wpAnyH_take (i := 5) (v := ?_) rfl (by kernel_rfl) (by kernel_rfl) (by kernel_rfl) (fun _ _ _ h => h) (Or.inl ⟨by rfl, ?_⟩) HB.out ?_
      rotate_left
      · intro w' hw'
        go_simp
        with_reducible rfl
      go_simp
      refine wpAnyH_take (i := 6) (v := ?_) rfl (by kernel_rfl) (by kernel_rfl) (by kernel_rfl) (fun _ _ _ h => h) (Or.inl ⟨by rfl, ?_⟩) HB.out ?_
      rotate_left
      · intro w' hw'
        go_simp
        with_reducible rfl
      go_simp
      refine wpAnyH_take (i := 7) (v := ?_) rfl (by kernel_rfl) (by kernel_rfl) (by kernel_rfl) (fun _ _ _ h => h) (Or.inl ⟨by rfl, ?_⟩) HB.out ?_
      rotate_left
      · intro w' hw'
        go_simp
        with_reducible rfl
      go_simp
      refine wpAnyH_take (i := 8) (v := ?_) rfl (by kernel_rfl) (by kernel_rfl) (by kernel_rfl) (fun _ _ _ h => h) (Or.inl ⟨by rfl, ?_⟩) HB.out ?_
      rotate_left
      · intro w' hw'
        go_simp
        with_reducible rfl
      go_simp
      refine wpAnyH_take (i := 4) (v := ?_) rfl (by kernel_rfl) (by kernel_rfl) (by kernel_rfl) (fun _ _ _ h => h) (Or.inl ⟨by rfl, ?_⟩) HB.out ?_
      rotate_left
      · intro w' hw'
        obtain ⟨x0, x1, x2, x3, x4, x5, -⟩ := hw'
        go_simp
        with_reducible rfl
      go_simp
      refine wpAnyH_take (i := 9) (v := ?_) rfl (by kernel_rfl) (by kernel_rfl) (by kernel_rfl) (fun _ _ _ h => h) (Or.inl ⟨by rfl, ?_⟩) HB.out ?_
      rotate_left
      · intro w' hw'
        obtain ⟨-, -, -, -, -, -, x6⟩ := hw'
        go_simp
        with_reducible rfl
      go_simp
      refine wpAnyH_ready (rs := [10]) (by kernel_rfl) (by simp) ?_
      refine AllReadyH.cons rfl (fun K hK => ?_) AllReadyH.nil
      go_simp
      go_at_call 179
      refine (ctaker20 y s.held w6.drew).mono ?_
      rintro e w7 ⟨i, m1, m2, g, rfl, FI, n3, q1, q2, q3, q4, q5, q6, q7, q8, q9, q10⟩
      have hb7 : Below w6.heap.size w6 w7 := (Below.refl _ w6).drew.trans q10
      have HR7 := Lib.hid (HR6.out.below hb7)
      have HT7 := Lib.hid (HT6.out.then_ hb7)
      have HM7 := Lib.hid (HM6.out.below hb7)
      have HB7 := Lib.hid (bo_stay HB6.out (SameOn.of_below hb7 (bo_mem HB6.out)))
      have HO7 := Lib.hid (out_stay HO6.out (SameOn.of_below hb7 (out_mem HO6.out)))
      have HP7 := Lib.hid (HP6.out.below hb7)
      have HTK := Lib.hid (And.intro q1 (And.intro q2 (And.intro q3 q4)))
      have HTB := Lib.hid (show (∀ k, FI k → w6.heap.size ≤ k ∧ k < n3) ∧ w6.heap.size ≤ n3 ∧ n3 ≤ m1 ∧ m1 < m2 ∧ m2 < g from ⟨q5, q6, q7, q8, q9⟩)
      have HS7 := Lib.hid hb7.size
      replace HB := Lib.hid (cells20 HR7.out rfl rfl)
      clear q1 q2 q3 q4 q5 q6 q7 q8 q9 q10 hb7 HR6 HT6 HM6 HB6 HO6 HP6
      change K _ _
      refine hK.out _ _ HB.out (fun _ => ?_)
      clear hK K
      refine wpAnyH_take (i := 11) (v := ?_) rfl (by kernel_rfl) (by kernel_rfl) (by kernel_rfl) (fun _ _ _ h => h) (Or.inl ⟨by rfl, ?_⟩) HB.out ?_
      rotate_left
      · intro w' hw'
        go_simp
        with_reducible rfl
      go_simp
      refine wpAnyH_take (i := 12) (v := ?_) rfl (by kernel_rfl) (by kernel_rfl) (by kernel_rfl) (fun _ _ _ h => h) (Or.inl ⟨by rfl, ?_⟩) HB.out ?_
      rotate_left
      · intro w' hw'
        go_simp
        with_reducible rfl
      go_simp
      obtain ⟨x0, y0, -⟩ := HR7.out.get 10 rfl
      obtain ⟨x1, y1, -⟩ := HR7.out.get 11 rfl
      obtain ⟨x2, y2, -⟩ := HR7.out.get 12 rfl
      obtain ⟨x3, y3, -⟩ := HR7.out.get 13 rfl
      obtain ⟨x4, y4, -⟩ := HR7.out.get 14 rfl
      obtain ⟨x5, y5, -⟩ := HR7.out.get 15 rfl
      refine wpAnyH_ready (rs := [13]) (by kernel_rfl) (by simp) ?_
      refine AllReadyH.cons rfl (fun K hK => ?_) AllReadyH.nil
      go_simp
      have HW8 := Lib.hid (Rw.set (Rw.set (Rw.set (Rw.set (Rw.set (Rw.set (Rw.start HR7.out) 10 (ptr20 i)) 11 (.map (some m1))) 12 (.map (some m2))) 13 (.bool false)) 14 (ptr20 g)) 15 (.bool s.held))
      have hr8 : RowAt ((((((w7.setCell ⟨p, 10, none⟩ (ptr20 i)).setCell ⟨p, 11, none⟩ (.map (some m1))).setCell ⟨p, 12, none⟩ (.map (some m2))).setCell ⟨p, 13, none⟩ (.bool false)).setCell ⟨p, 14, none⟩ (ptr20 g)).setCell ⟨p, 15, none⟩ (.bool s.held)) p (lkRow (upX x (ptr20 w3.heap.size) (ptr20 b) (ptr20 ou) (.map (some m0)) (ptr20 i) (.map (some m1)) (.map (some m2)) (ptr20 g)) (upS s y)) := HW8.out.row
      have HT8 := Lib.hid (turn_one HT7.out HW8.out.turn)
      have so8 : ∀ k, k ≠ p → k < w7.heap.size → (((((((w7.setCell ⟨p, 10, none⟩ (ptr20 i)).setCell ⟨p, 11, none⟩ (.map (some m1))).setCell ⟨p, 12, none⟩ (.map (some m2))).setCell ⟨p, 13, none⟩ (.bool false)).setCell ⟨p, 14, none⟩ (ptr20 g)).setCell ⟨p, 15, none⟩ (.bool s.held))).heap[k]? = w7.heap[k]? := fun k hk hl => HW8.out.turn.block k hl hk
      have hz8 : w7.heap.size ≤ (((((((w7.setCell ⟨p, 10, none⟩ (ptr20 i)).setCell ⟨p, 11, none⟩ (.map (some m1))).setCell ⟨p, 12, none⟩ (.map (some m2))).setCell ⟨p, 13, none⟩ (.bool false)).setCell ⟨p, 14, none⟩ (ptr20 g)).setCell ⟨p, 15, none⟩ (.bool s.held))).heap.size := HW8.out.turn.size
      have hp3 : p < w3.heap.size := HPW.out
      have hbd := HBD.out
      have htb := HTB.out
      have hbm := bo_mem HB7.out
      have hom := out_mem HO7.out
      have him := in_mem HTK.out.1
      have hl1 := HTK.out.2.1.lt
      have hl2 := HTK.out.2.2.1.lt
      have hl3 : g < w7.heap.size := RowAt.lt (v := .int .i64 zeroG.left) HTK.out.2.2.2
      have hm3 : w3.heap.size < w7.heap.size := RowAt.lt (v := .int .i64 (Sm.new y.t1).srt) HM7.out
      have hP7 := HP7.out.lt
      obtain ⟨k1, k2, k3⟩ := rise_done HL.out y HYOK.out (n1 := w3.heap.size + 1) (n2 := n1) (n3 := n2) (n4 := w6.heap.size) (n5 := n3) hr8 HT8.out (HM7.out.block (so8 _ (by omega) hm3) hz8) (bo_stay HB7.out ⟨hz8, fun k hk => so8 k (by have := hbd.1 k hk; omega) (hbm k hk)⟩) (out_stay HO7.out ⟨hz8, fun k hk => so8 k (by have := hbd.2.1 k hk; omega) (hom k hk)⟩) (HP7.out.same (so8 _ (by omega) hP7)) (in_stay HTK.out.1 ⟨hz8, fun k hk => so8 k (by have := htb.1 k hk; omega) (him k hk)⟩) (HTK.out.2.1.same (so8 _ (by omega) hl1)) (HTK.out.2.2.1.same (so8 _ (by omega) hl2)) (HTK.out.2.2.2.block (so8 _ (by omega) hl3) hz8)
        ⟨HWZ.out, by omega⟩ (fun k hk => hbd.1 k hk) (fun k hk => hbd.2.1 k hk) ⟨hbd.2.2.1, by omega⟩ (fun k hk => htb.1 k hk) ⟨htb.2.2.1, htb.2.2.2.1, htb.2.2.2.2⟩ ⟨hbd.2.2.2.1, hbd.2.2.2.2.1, htb.2.1⟩
      obtain ⟨H8, l1, l2, l3⟩ := HLO.out _ _ _ ⟨_, _, k1, rfl⟩ (HF.out ▸ k2) (HF.out ▸ k3)
      have HL8 := Lib.hid l1
      have HTL := Lib.hid l2
      have HGL := Lib.hid l3
      replace HB := Lib.hid (show ((((((((w7.setCell ⟨p, 10, none⟩ (ptr20 i)).setCell ⟨p, 11, none⟩ (.map (some m1))).setCell ⟨p, 12, none⟩ (.map (some m2))).setCell ⟨p, 13, none⟩ (.bool false)).setCell ⟨p, 14, none⟩ (ptr20 g)).setCell ⟨p, 15, none⟩ (.bool s.held))).cell? ⟨p, 35, none⟩ = some (.bool y.wide) ∧ (((((((w7.setCell ⟨p, 10, none⟩ (ptr20 i)).setCell ⟨p, 11, none⟩ (.map (some m1))).setCell ⟨p, 12, none⟩ (.map (some m2))).setCell ⟨p, 13, none⟩ (.bool false)).setCell ⟨p, 14, none⟩ (ptr20 g)).setCell ⟨p, 15, none⟩ (.bool s.held))).cell? ⟨p, 36, none⟩ = some (.bool y.srej) ∧ (((((((w7.setCell ⟨p, 10, none⟩ (ptr20 i)).setCell ⟨p, 11, none⟩ (.map (some m1))).setCell ⟨p, 12, none⟩ (.map (some m2))).setCell ⟨p, 13, none⟩ (.bool false)).setCell ⟨p, 14, none⟩ (ptr20 g)).setCell ⟨p, 15, none⟩ (.bool s.held))).cell? ⟨p, 37, none⟩ = some (.int .i64 y.n1) ∧ (((((((w7.setCell ⟨p, 10, none⟩ (ptr20 i)).setCell ⟨p, 11, none⟩ (.map (some m1))).setCell ⟨p, 12, none⟩ (.map (some m2))).setCell ⟨p, 13, none⟩ (.bool false)).setCell ⟨p, 14, none⟩ (ptr20 g)).setCell ⟨p, 15, none⟩ (.bool s.held))).cell? ⟨p, 38, none⟩ = some (.int .i64 y.k) ∧ (((((((w7.setCell ⟨p, 10, none⟩ (ptr20 i)).setCell ⟨p, 11, none⟩ (.map (some m1))).setCell ⟨p, 12, none⟩ (.map (some m2))).setCell ⟨p, 13, none⟩ (.bool false)).setCell ⟨p, 14, none⟩ (ptr20 g)).setCell ⟨p, 15, none⟩ (.bool s.held))).cell? ⟨p, 39, none⟩ = some (.int .i64 y.t1) ∧ (((((((w7.setCell ⟨p, 10, none⟩ (ptr20 i)).setCell ⟨p, 11, none⟩ (.map (some m1))).setCell ⟨p, 12, none⟩ (.map (some m2))).setCell ⟨p, 13, none⟩ (.bool false)).setCell ⟨p, 14, none⟩ (ptr20 g)).setCell ⟨p, 15, none⟩ (.bool s.held))).cell? ⟨p, 40, none⟩ = some (.int .i64 y.n2) ∧ (((((((w7.setCell ⟨p, 10, none⟩ (ptr20 i)).setCell ⟨p, 11, none⟩ (.map (some m1))).setCell ⟨p, 12, none⟩ (.map (some m2))).setCell ⟨p, 13, none⟩ (.bool false)).setCell ⟨p, 14, none⟩ (ptr20 g)).setCell ⟨p, 15, none⟩ (.bool s.held))).cell? ⟨p, 15, none⟩ = some (.bool s.held)) from cells20 hr8 rfl rfl)
      clear x0 x1 x2 x3 x4 x5 y0 y1 y2 y3 y4 y5 hr8 so8 hz8 hp3 hbd htb hbm hom him hl1 hl2 hl3 hm3 hP7 k1 k2 k3 l1 l2 l3 HW8 HR7 HT7 HM7 HB7 HO7 HP7 HTK HTB HBD HT8
      generalize ((((((w7.setCell ⟨p, 10, none⟩ (ptr20 i)).setCell ⟨p, 11, none⟩ (.map (some m1))).setCell ⟨p, 12, none⟩ (.map (some m2))).setCell ⟨p, 13, none⟩ (.bool false)).setCell ⟨p, 14, none⟩ (ptr20 g)).setCell ⟨p, 15, none⟩ (.bool s.held)) = w8 at *
      refine hK.out _ _ HB.out (fun _ => ?_)
      clear hK K
      refine wpAnyH_done (by kernel_rfl) ?_ _
      have HST := Lib.hid (HL8.out.step _ _ fun F hL => cstop20 w8 p (upS s y) F hL)
      have HKT := Lib.hid (fun (W : World) (H1 : Nat → Prop) (h1 : LO W p q (upS s y).stop o H1) => h1.step _ _ fun F hL => ckeep20 W p (upS s y).stop F hL)
      clear HB HL HLO HF HWZ HPW HS4 HS5
      go_upto_region 10 with (first
        | (go_at_call 180; (with_reducible refine HST.out.mono ?_); rintro e w9 ⟨rfl, H9, k1, k2, k3⟩; have HL9 := Lib.hid k1; have HT9 := Lib.hid (HTL.out.trans k2 HGL.out); have HG9 := Lib.hid (HGL.out.trans k3 HTL.out.size); clear k1 k2 k3)
        | (go_at_call 75; (with_reducible refine (HKT.out _ _ HL9.out).mono ?_); rintro e w10 ⟨rfl, H10, k1, k2, k3⟩; have HL10 := Lib.hid k1; have HT10 := Lib.hid (HT9.out.trans k2 HG9.out); have HG10 := Lib.hid (HG9.out.trans k3 HT9.out.size); clear k1 k2 k3))
      obtain ⟨fv, ev, L, G10, F10, hO, hGe, hL10, ha, hH10⟩ := HL10.out.open_
      obtain ⟨x2, y2, -⟩ := hO.row.get 2 rfl
      obtain ⟨k1, k2⟩ := hO.fresh_ true
      have HOF := Lib.hid k1
      have HTF := Lib.hid k2
      obtain ⟨H11, l1, l2, l3⟩ := LO.out hL10 ha (RowAt.lt hO.row) hH10 ⟨_, _, _, k1, rfl⟩ (hGe ▸ k2) (hGe ▸ Grew.refl _ _)
      have HL11 := Lib.hid l1
      have HT11 := Lib.hid (HT10.out.trans l2 HG10.out)
      have HG11 := Lib.hid (HG10.out.trans l3 HT10.out.size)
      clear hO hGe hL10 ha hH10 k1 k2 l1 l2 l3
      go_upto_region 11 with fail
      clear x2 y2 HOF HTF
      generalize (w10.setCell ⟨q, 2, none⟩ (.bool true)) = w11 at *
      obtain ⟨fv, ev, L, G11, F11, hO, hGe, hL11, ha, hH11⟩ := HL11.out.open_
      have HO := Lib.hid hO
      have q1 := hO.row.cell 1 rfl
      have HM3 := Lib.hid (AtL.made encEv 122 w11 w11.heap.size ⟨1, 0, ⟨#[]⟩⟩ [.int .i64 1, .int .i64 0, .string ⟨#[]⟩] rfl rfl)
      have HEND := Lib.hid (fun (w' : World) (G' : Nat → Prop) (t1 : OtL w' q (Ot.say { o with fresh := true } ⟨1, 0, ⟨#[]⟩⟩) G') (t2 : Turn (footO q fv ev L) w11 w') (t3 : Grew (footO q fv ev L) G' w11) => LO.out hL11 ha (RowAt.lt hO.row) hH11 t1 (hGe ▸ t2) (hGe ▸ t3))
      clear hO hGe hL11 ha hH11
      go_wp2_with (at_builtin; refine wpList_append_one encEv 122 48 Tryz.underlying48 infoEv rfl (by decide) _ rfl (.tmp 73) (.tmp 76) rfl 0 ev o.events rfl (HO.out.events.alloc _) w11.heap.size 1 rfl ⟨1, 0, ⟨#[]⟩⟩ HM3.out (Nat.le_trans HM.out (by omega)) (Nat.zero_le _) ?_; intro v3 w12 hown hgr hwh; obtain ⟨av, nv, cv, rfl⟩ := OwnL.form' hown; obtain ⟨hr3, ho3, ht3, hg3⟩ := OtAt.say HO.out ((Below.refl _ w11).alloc (Nat.le_refl _) _) hown hgr hwh; obtain ⟨x1, y1, -⟩ := hr3.get 1 rfl; have HE3 := Lib.hid (HEND.out _ _ ⟨_, _, _, ho3, rfl⟩ ht3 hg3); clear hown hgr hwh hr3 ho3 ht3 hg3)
      obtain ⟨H13, k1, k2, k3⟩ := HE3.out
      exact bodyPost_end (v := .tuple #[]) (by simp [results, Tryz.results134, go_sem]) rfl ⟨rfl, _, k1, HT11.out.trans k2 HG11.out, HG11.out.trans k3 HT11.out.size⟩
    · rw [if_pos (Or.inr rfl)] at hkind
      clear h3
      subst hkind
      go_enter Tryz.func134, Tryz.ntmps134
      go_upto_region 4 with fail
      have hr1 : RowAt ((w.setCell ⟨p, 41, none⟩ (.int .i64 3)).setCell ⟨p, 43, none⟩ (.bool false)) p (lkRow x { s with state := 3, wasUp := false }) := HROW1.out.row
      have HT1 := Lib.hid HROW1.out.turn
      have HR1 := Lib.hid hr1
      clear c41 f41 c43 f43 hr1 HROW1
      generalize ((w.setCell ⟨p, 41, none⟩ (.int .i64 3)).setCell ⟨p, 43, none⟩ (.bool false)) = w1 at *
      have HFIT := Lib.hid (cfit20 w1 p x { s with state := 3, wasUp := false } wide HR1.out)
      go_upto_region 5 with (go_at_call 177; (with_reducible refine HFIT.out.mono ?_); rintro e w2 ⟨rfl, hb⟩; have hr2 := HR1.out.below hb; have HR2 := Lib.hid hr2; have HT2 := Lib.hid (HT1.out.then_ hb); obtain ⟨h0, g0, -⟩ := hr2.get 35 rfl; obtain ⟨h1, g1, -⟩ := hr2.get 36 rfl; obtain ⟨h2, g2, -⟩ := hr2.get 37 rfl; obtain ⟨h3, g3, -⟩ := hr2.get 38 rfl; obtain ⟨h4, g4, -⟩ := hr2.get 39 rfl; obtain ⟨h5, g5, -⟩ := hr2.get 40 rfl; clear hb hr2)
      rw [show fitX ({ s with state := 3, wasUp := false } : Lk).agreed ({ s with state := 3, wasUp := false } : Lk).can wide = y from HY.out.symm]
      have HW3 := Lib.hid ((((((Rw.set (Rw.set (Rw.set (Rw.set (Rw.set (Rw.set (Rw.start HR2.out) 35 (.bool y.wide)) 36 (.bool y.srej)) 37 (.int .i64 y.n1)) 38 (.int .i64 y.k)) 39 (.int .i64 y.t1)) 40 (.int .i64 y.n2)))))))
      have hr3 : RowAt ((((((w2.setCell ⟨p, 35, none⟩ (.bool y.wide)).setCell ⟨p, 36, none⟩ (.bool y.srej)).setCell ⟨p, 37, none⟩ (.int .i64 y.n1)).setCell ⟨p, 38, none⟩ (.int .i64 y.k)).setCell ⟨p, 39, none⟩ (.int .i64 y.t1)).setCell ⟨p, 40, none⟩ (.int .i64 y.n2)) p (lkRow x { s with state := 3, wasUp := false, holds := y }) := HW3.out.row
      have HT3 := Lib.hid (turn_one HT2.out HW3.out.turn)
      have HR3 := Lib.hid hr3
      clear h0 h1 h2 h3 h4 h5 g0 g1 g2 g3 g4 g5 hr3 HW3 HR2 HFIT HR1 HT1 HT2
      generalize ((((((w2.setCell ⟨p, 35, none⟩ (.bool y.wide)).setCell ⟨p, 36, none⟩ (.bool y.srej)).setCell ⟨p, 37, none⟩ (.int .i64 y.n1)).setCell ⟨p, 38, none⟩ (.int .i64 y.k)).setCell ⟨p, 39, none⟩ (.int .i64 y.t1)).setCell ⟨p, 40, none⟩ (.int .i64 y.n2)) = w3 at *
      -- learn
      refine wp_region_held (S := fun W' => W'.cell? ⟨p, 39, none⟩ = some (.int .i64 y.t1)) (by kernel_rfl) ?_
      change wpAnyH _ _ _ _ _ _ _ _ (World.drew _)
      have HB := Lib.hid (show w3.drew.cell? ⟨p, 39, none⟩ = some (.int .i64 y.t1) from HR3.out.drew.cell 39 rfl)
      refine wpAnyH_take (i := 0) (v := ?_) rfl (by kernel_rfl) (by kernel_rfl) (by kernel_rfl) (fun _ _ _ h => h) (Or.inl ⟨by rfl, ?_⟩) HB.out ?_
      rotate_left
      · intro w' hw'
        go_simp
        with_reducible rfl
      go_simp
      refine wpAnyH_take (i := 1) (v := ?_) rfl (by kernel_rfl) (by kernel_rfl) (by kernel_rfl) (fun _ _ _ h => h) (Or.inl ⟨by rfl, ?_⟩) HB.out ?_
      rotate_left
      · intro w' hw'
        go_simp
        with_reducible rfl
      go_simp
      refine wpAnyH_take (i := 2) (v := ?_) rfl (by kernel_rfl) (by kernel_rfl) (by kernel_rfl) (fun _ _ _ h => h) (Or.inl ⟨by rfl, ?_⟩) HB.out ?_
      rotate_left
      · intro w' hw'
        go_simp
        with_reducible rfl
      go_simp
      refine wpAnyH_take (i := 3) (v := ?_) rfl (by kernel_rfl) (by kernel_rfl) (by kernel_rfl) (fun _ _ _ h => h) (Or.inl ⟨by rfl, ?_⟩) HB.out ?_
      rotate_left
      · intro w' hw'
        go_simp
        with_reducible rfl
      go_simp
      refine wpAnyH_take (i := 4) (v := ?_) rfl (by kernel_rfl) (by kernel_rfl) (by kernel_rfl) (fun _ _ _ h => h) (Or.inl ⟨by rfl, ?_⟩) HB.out ?_
      rotate_left
      · intro w' hw'
        go_simp
        with_reducible rfl
      go_simp
      refine wpAnyH_take (i := 5) (v := ?_) rfl (by kernel_rfl) (by kernel_rfl) (by kernel_rfl) (fun _ _ _ h => h) (Or.inl ⟨by rfl, ?_⟩) HB.out ?_
      rotate_left
      · intro w' hw'
        go_simp
        with_reducible rfl
      go_simp
      refine wpAnyH_take (i := 6) (v := ?_) rfl (by kernel_rfl) (by kernel_rfl) (by kernel_rfl) (fun _ _ _ h => h) (Or.inl ⟨by rfl, ?_⟩) HB.out ?_
      rotate_left
      · intro w' hw'
        go_simp
        with_reducible rfl
      go_simp
      refine wpAnyH_take (i := 7) (v := ?_) rfl (by kernel_rfl) (by kernel_rfl) (by kernel_rfl) (fun _ _ _ h => h) (Or.inl ⟨by rfl, ?_⟩) HB.out ?_
      rotate_left
      · intro w' hw'
        go_simp
        with_reducible rfl
      go_simp
      refine wpAnyH_ready (rs := [8]) (by kernel_rfl) (by simp) ?_
      refine AllReadyH.cons rfl (fun K hK => ?_) AllReadyH.nil
      go_simp
      go_at_call 70
      refine (clearn_row w3.drew p x.an _ y.t1 HR3.out.drew).mono ?_
      rintro e w4 ⟨rfl, hw4⟩
      have hbs : Below w3.heap.size w3 (w3.drew.alloc (.cells #[.int .i64 (Sm.new y.t1).srt, .int .i64 (Sm.new y.t1).t1] 241)) := (Below.refl _ w3).drew.alloc (Nat.le_refl _) _
      have hpw : p < w3.heap.size := RowAt.lt (v := x.an) HR3.out
      have hr4 : RowAt w4 p (lkRow { x with an := ptr20 w3.heap.size } { s with state := 3, wasUp := false, holds := y }) := by rw [hw4]; exact (HR3.out.below hbs).put 0 (ptr20 w3.heap.size) _ rfl
      have hm4 : RowAt w4 w3.heap.size (smV (Sm.new y.t1)) := by rw [hw4]; exact (cnew_row y.t1 w3.drew).other _ (by show p ≠ w3.drew.heap.size; exact Nat.ne_of_lt hpw)
      have hs4 : w4.heap.size = w3.heap.size + 1 := by rw [hw4]; simp [World.setCell]
      have HT4 := Lib.hid (show Turn (fun k => k = p) w w4 by rw [hw4]; exact (HT3.out.then_ hbs).set (p := ⟨p, 0, none⟩) (Or.inl rfl) _)
      have HR4 := Lib.hid hr4
      have HM4 := Lib.hid hm4
      have HS4 := Lib.hid hs4
      have HWZ := Lib.hid (show w.heap.size ≤ w3.heap.size from HT3.out.size)
      have HPW := Lib.hid hpw
      replace HB := Lib.hid (hr4.cell 39 rfl)
      clear hw4 hbs hr4 hm4 hs4 hpw
      change K _ _
      refine hK.out _ _ HB.out (fun _ => ?_)
      clear hK K
      refine wpAnyH_done (by kernel_rfl) ?_ _
      -- newSender
      have e0 := HR4.out.cell 35 rfl
      have e1 := HR4.out.cell 36 rfl
      have e2 := HR4.out.cell 37 rfl
      have e3 := HR4.out.cell 38 rfl
      have e4 := HR4.out.cell 39 rfl
      have e5 := HR4.out.cell 40 rfl
      go_upto_region 7 with (go_at_call 178; (with_reducible refine (csender20 y _ HYOK.out).mono ?_); rintro e w5 ⟨b, ou, m0, rfl, FB, FO, n1, n2, q1, q2, q3, q4, q5, q6, q7, q8, q9⟩; have hr5 := HR4.out.below q9; have HR5 := Lib.hid hr5; have HT5 := Lib.hid (HT4.out.then_ q9); have HM5 := Lib.hid (HM4.out.below q9); have HSN := Lib.hid (And.intro q1 (And.intro q2 q3)); have HSB := Lib.hid (And.intro q4 (And.intro q5 (And.intro q6 (And.intro q7 q8)))); have HS5 := Lib.hid q9.size; obtain ⟨x0, y0, -⟩ := hr5.get 5 rfl; obtain ⟨x1, y1, -⟩ := hr5.get 6 rfl; obtain ⟨x2, y2, -⟩ := hr5.get 7 rfl; obtain ⟨x3, y3, -⟩ := hr5.get 8 rfl; obtain ⟨x4, y4, -⟩ := hr5.get 9 rfl; clear q1 q2 q3 q4 q5 q6 q7 q8 q9 e0 e1 e2 e3 e4 e5 hr5)
      have HW6 := Lib.hid (Rw.set (Rw.set (Rw.set (Rw.set (Rw.set (Rw.start HR5.out) 5 (ptr20 b)) 6 (ptr20 ou)) 7 (.map (some m0))) 8 (.bool false)) 9 (.bool false))
      have hr6 : RowAt (((((w5.setCell ⟨p, 5, none⟩ (ptr20 b)).setCell ⟨p, 6, none⟩ (ptr20 ou)).setCell ⟨p, 7, none⟩ (.map (some m0))).setCell ⟨p, 8, none⟩ (.bool false)).setCell ⟨p, 9, none⟩ (.bool false)) p (lkRow { x with an := ptr20 w3.heap.size, bo := ptr20 b, ou := ptr20 ou, op := .map (some m0) } { s with state := 3, wasUp := false, holds := y, busy := false, polling := false }) := HW6.out.row
      have HT6 := Lib.hid (turn_one HT5.out HW6.out.turn)
      have HR6 := Lib.hid hr6
      have hp5 : p < w3.heap.size := HPW.out
      have hbm := bo_mem HSN.out.1
      have hom := out_mem HSN.out.2.1
      have hmm := HSN.out.2.2.lt
      have so6 : ∀ k, k ≠ p → k < w5.heap.size → ((((((w5.setCell ⟨p, 5, none⟩ (ptr20 b)).setCell ⟨p, 6, none⟩ (ptr20 ou)).setCell ⟨p, 7, none⟩ (.map (some m0))).setCell ⟨p, 8, none⟩ (.bool false)).setCell ⟨p, 9, none⟩ (.bool false))).heap[k]? = w5.heap[k]? := fun k hk hl => HW6.out.turn.block k hl hk
      have hz6 : w5.heap.size ≤ ((((((w5.setCell ⟨p, 5, none⟩ (ptr20 b)).setCell ⟨p, 6, none⟩ (ptr20 ou)).setCell ⟨p, 7, none⟩ (.map (some m0))).setCell ⟨p, 8, none⟩ (.bool false)).setCell ⟨p, 9, none⟩ (.bool false))).heap.size := HW6.out.turn.size
      have HM6 := Lib.hid (show RowAt (((((w5.setCell ⟨p, 5, none⟩ (ptr20 b)).setCell ⟨p, 6, none⟩ (ptr20 ou)).setCell ⟨p, 7, none⟩ (.map (some m0))).setCell ⟨p, 8, none⟩ (.bool false)).setCell ⟨p, 9, none⟩ (.bool false)) w3.heap.size (smV (Sm.new y.t1)) from HM5.out.block (so6 _ (by omega) (RowAt.lt (v := .int .i64 (Sm.new y.t1).srt) HM5.out)) hz6)
      have HB6 := Lib.hid (show boL (((((w5.setCell ⟨p, 5, none⟩ (ptr20 b)).setCell ⟨p, 6, none⟩ (ptr20 ou)).setCell ⟨p, 7, none⟩ (.map (some m0))).setCell ⟨p, 8, none⟩ (.bool false)).setCell ⟨p, 9, none⟩ (.bool false)) b y.n1 noB FB from bo_stay HSN.out.1 ⟨hz6, fun k hk => so6 k (by have := HSB.out.1 k hk; have := HS4.out; omega) (hbm k hk)⟩)
      have HO6 := Lib.hid (show OutL (((((w5.setCell ⟨p, 5, none⟩ (ptr20 b)).setCell ⟨p, 6, none⟩ (ptr20 ou)).setCell ⟨p, 7, none⟩ (.map (some m0))).setCell ⟨p, 8, none⟩ (.bool false)).setCell ⟨p, 9, none⟩ (.bool false)) ou (modX y) y.k ⟨0, 0⟩ FO from out_stay HSN.out.2.1 ⟨hz6, fun k hk => so6 k (by have := HSB.out.2.1 k hk; have := HSB.out.2.2.2.1; have := HS4.out; omega) (hom k hk)⟩)
      have HP6 := Lib.hid (show MapAt eltP (((((w5.setCell ⟨p, 5, none⟩ (ptr20 b)).setCell ⟨p, 6, none⟩ (ptr20 ou)).setCell ⟨p, 7, none⟩ (.map (some m0))).setCell ⟨p, 8, none⟩ (.bool false)).setCell ⟨p, 9, none⟩ (.bool false)) m0 (fun _ => none) from HSN.out.2.2.same (so6 _ (by have := HSB.out.2.2.1; have := HSB.out.2.2.2; have := HS4.out; omega) hmm))
      have HBD := Lib.hid (show (∀ k, FB k → w3.heap.size + 1 ≤ k ∧ k < n1) ∧ (∀ k, FO k → n1 ≤ k ∧ k < n2) ∧ n2 ≤ m0 ∧ w3.heap.size + 1 ≤ n1 ∧ n1 ≤ n2 ∧ m0 < w5.heap.size ∧ w5.heap.size ≤ ((((((w5.setCell ⟨p, 5, none⟩ (ptr20 b)).setCell ⟨p, 6, none⟩ (ptr20 ou)).setCell ⟨p, 7, none⟩ (.map (some m0))).setCell ⟨p, 8, none⟩ (.bool false)).setCell ⟨p, 9, none⟩ (.bool false))).heap.size from ⟨fun k hk => by have := HSB.out.1 k hk; have := HS4.out; omega, HSB.out.2.1, HSB.out.2.2.1, by have := HSB.out.2.2.2.1; have := HS4.out; omega, HSB.out.2.2.2.2, hmm, hz6⟩)
      clear x0 x1 x2 x3 x4 y0 y1 y2 y3 y4 hr6 hbm hom hmm so6 hz6 HW6 HR5 HT5 HM5 HSN HSB HR4 HT4 HM4 HR3 HT3
      generalize (((((w5.setCell ⟨p, 5, none⟩ (ptr20 b)).setCell ⟨p, 6, none⟩ (ptr20 ou)).setCell ⟨p, 7, none⟩ (.map (some m0))).setCell ⟨p, 8, none⟩ (.bool false)).setCell ⟨p, 9, none⟩ (.bool false)) = w6 at *
      -- newTaker
      refine wp_region_held (S := fun W' => (W'.cell? ⟨p, 35, none⟩ = some (.bool y.wide) ∧ W'.cell? ⟨p, 36, none⟩ = some (.bool y.srej) ∧ W'.cell? ⟨p, 37, none⟩ = some (.int .i64 y.n1) ∧ W'.cell? ⟨p, 38, none⟩ = some (.int .i64 y.k) ∧ W'.cell? ⟨p, 39, none⟩ = some (.int .i64 y.t1) ∧ W'.cell? ⟨p, 40, none⟩ = some (.int .i64 y.n2) ∧ W'.cell? ⟨p, 15, none⟩ = some (.bool s.held))) (by kernel_rfl) ?_
      change wpAnyH _ _ _ _ _ _ _ _ (World.drew _)
      have HB := Lib.hid (cells20 HR6.out.drew rfl rfl)
      refine wpAnyH_take (i := 0) (v := ?_) rfl (by kernel_rfl) (by kernel_rfl) (by kernel_rfl) (fun _ _ _ h => h) (Or.inl ⟨by rfl, ?_⟩) HB.out ?_
      rotate_left
      · intro w' hw'
        go_simp
        with_reducible rfl
      go_simp
      refine wpAnyH_take (i := 1) (v := ?_) rfl (by kernel_rfl) (by kernel_rfl) (by kernel_rfl) (fun _ _ _ h => h) (Or.inl ⟨by rfl, ?_⟩) HB.out ?_
      rotate_left
      · intro w' hw'
        go_simp
        with_reducible rfl
      go_simp
      refine wpAnyH_take (i := 2) (v := ?_) rfl (by kernel_rfl) (by kernel_rfl) (by kernel_rfl) (fun _ _ _ h => h) (Or.inl ⟨by rfl, ?_⟩) HB.out ?_
      rotate_left
      · intro w' hw'
        go_simp
        with_reducible rfl
      go_simp
      refine wpAnyH_take (i := 3) (v := ?_) rfl (by kernel_rfl) (by kernel_rfl) (by kernel_rfl) (fun _ _ _ h => h) (Or.inl ⟨by rfl, ?_⟩) HB.out ?_
      rotate_left
      · intro w' hw'
        go_simp
        with_reducible rfl
      go_simp
      refine wpAnyH_take (i := 5) (v := ?_) rfl (by kernel_rfl) (by kernel_rfl) (by kernel_rfl) (fun _ _ _ h => h) (Or.inl ⟨by rfl, ?_⟩) HB.out ?_
      rotate_left
      · intro w' hw'
        go_simp
        with_reducible rfl
      go_simp
      refine wpAnyH_take (i := 6) (v := ?_) rfl (by kernel_rfl) (by kernel_rfl) (by kernel_rfl) (fun _ _ _ h => h) (Or.inl ⟨by rfl, ?_⟩) HB.out ?_
      rotate_left
      · intro w' hw'
        go_simp
        with_reducible rfl
      go_simp
      refine wpAnyH_take (i := 7) (v := ?_) rfl (by kernel_rfl) (by kernel_rfl) (by kernel_rfl) (fun _ _ _ h => h) (Or.inl ⟨by rfl, ?_⟩) HB.out ?_
      rotate_left
      · intro w' hw'
        go_simp
        with_reducible rfl
      go_simp
      refine wpAnyH_take (i := 8) (v := ?_) rfl (by kernel_rfl) (by kernel_rfl) (by kernel_rfl) (fun _ _ _ h => h) (Or.inl ⟨by rfl, ?_⟩) HB.out ?_
      rotate_left
      · intro w' hw'
        go_simp
        with_reducible rfl
      go_simp
      refine wpAnyH_take (i := 4) (v := ?_) rfl (by kernel_rfl) (by kernel_rfl) (by kernel_rfl) (fun _ _ _ h => h) (Or.inl ⟨by rfl, ?_⟩) HB.out ?_
      rotate_left
      · intro w' hw'
        obtain ⟨x0, x1, x2, x3, x4, x5, -⟩ := hw'
        go_simp
        with_reducible rfl
      go_simp
      refine wpAnyH_take (i := 9) (v := ?_) rfl (by kernel_rfl) (by kernel_rfl) (by kernel_rfl) (fun _ _ _ h => h) (Or.inl ⟨by rfl, ?_⟩) HB.out ?_
      rotate_left
      · intro w' hw'
        obtain ⟨-, -, -, -, -, -, x6⟩ := hw'
        go_simp
        with_reducible rfl
      go_simp
      refine wpAnyH_ready (rs := [10]) (by kernel_rfl) (by simp) ?_
      refine AllReadyH.cons rfl (fun K hK => ?_) AllReadyH.nil
      go_simp
      go_at_call 179
      refine (ctaker20 y s.held w6.drew).mono ?_
      rintro e w7 ⟨i, m1, m2, g, rfl, FI, n3, q1, q2, q3, q4, q5, q6, q7, q8, q9, q10⟩
      have hb7 : Below w6.heap.size w6 w7 := (Below.refl _ w6).drew.trans q10
      have HR7 := Lib.hid (HR6.out.below hb7)
      have HT7 := Lib.hid (HT6.out.then_ hb7)
      have HM7 := Lib.hid (HM6.out.below hb7)
      have HB7 := Lib.hid (bo_stay HB6.out (SameOn.of_below hb7 (bo_mem HB6.out)))
      have HO7 := Lib.hid (out_stay HO6.out (SameOn.of_below hb7 (out_mem HO6.out)))
      have HP7 := Lib.hid (HP6.out.below hb7)
      have HTK := Lib.hid (And.intro q1 (And.intro q2 (And.intro q3 q4)))
      have HTB := Lib.hid (show (∀ k, FI k → w6.heap.size ≤ k ∧ k < n3) ∧ w6.heap.size ≤ n3 ∧ n3 ≤ m1 ∧ m1 < m2 ∧ m2 < g from ⟨q5, q6, q7, q8, q9⟩)
      have HS7 := Lib.hid hb7.size
      replace HB := Lib.hid (cells20 HR7.out rfl rfl)
      clear q1 q2 q3 q4 q5 q6 q7 q8 q9 q10 hb7 HR6 HT6 HM6 HB6 HO6 HP6
      change K _ _
      refine hK.out _ _ HB.out (fun _ => ?_)
      clear hK K
      refine wpAnyH_take (i := 11) (v := ?_) rfl (by kernel_rfl) (by kernel_rfl) (by kernel_rfl) (fun _ _ _ h => h) (Or.inl ⟨by rfl, ?_⟩) HB.out ?_
      rotate_left
      · intro w' hw'
        go_simp
        with_reducible rfl
      go_simp
      refine wpAnyH_take (i := 12) (v := ?_) rfl (by kernel_rfl) (by kernel_rfl) (by kernel_rfl) (fun _ _ _ h => h) (Or.inl ⟨by rfl, ?_⟩) HB.out ?_
      rotate_left
      · intro w' hw'
        go_simp
        with_reducible rfl
      go_simp
      obtain ⟨x0, y0, -⟩ := HR7.out.get 10 rfl
      obtain ⟨x1, y1, -⟩ := HR7.out.get 11 rfl
      obtain ⟨x2, y2, -⟩ := HR7.out.get 12 rfl
      obtain ⟨x3, y3, -⟩ := HR7.out.get 13 rfl
      obtain ⟨x4, y4, -⟩ := HR7.out.get 14 rfl
      obtain ⟨x5, y5, -⟩ := HR7.out.get 15 rfl
      refine wpAnyH_ready (rs := [13]) (by kernel_rfl) (by simp) ?_
      refine AllReadyH.cons rfl (fun K hK => ?_) AllReadyH.nil
      go_simp
      have HW8 := Lib.hid (Rw.set (Rw.set (Rw.set (Rw.set (Rw.set (Rw.set (Rw.start HR7.out) 10 (ptr20 i)) 11 (.map (some m1))) 12 (.map (some m2))) 13 (.bool false)) 14 (ptr20 g)) 15 (.bool s.held))
      have hr8 : RowAt ((((((w7.setCell ⟨p, 10, none⟩ (ptr20 i)).setCell ⟨p, 11, none⟩ (.map (some m1))).setCell ⟨p, 12, none⟩ (.map (some m2))).setCell ⟨p, 13, none⟩ (.bool false)).setCell ⟨p, 14, none⟩ (ptr20 g)).setCell ⟨p, 15, none⟩ (.bool s.held)) p (lkRow (upX x (ptr20 w3.heap.size) (ptr20 b) (ptr20 ou) (.map (some m0)) (ptr20 i) (.map (some m1)) (.map (some m2)) (ptr20 g)) (upS s y)) := HW8.out.row
      have HT8 := Lib.hid (turn_one HT7.out HW8.out.turn)
      have so8 : ∀ k, k ≠ p → k < w7.heap.size → (((((((w7.setCell ⟨p, 10, none⟩ (ptr20 i)).setCell ⟨p, 11, none⟩ (.map (some m1))).setCell ⟨p, 12, none⟩ (.map (some m2))).setCell ⟨p, 13, none⟩ (.bool false)).setCell ⟨p, 14, none⟩ (ptr20 g)).setCell ⟨p, 15, none⟩ (.bool s.held))).heap[k]? = w7.heap[k]? := fun k hk hl => HW8.out.turn.block k hl hk
      have hz8 : w7.heap.size ≤ (((((((w7.setCell ⟨p, 10, none⟩ (ptr20 i)).setCell ⟨p, 11, none⟩ (.map (some m1))).setCell ⟨p, 12, none⟩ (.map (some m2))).setCell ⟨p, 13, none⟩ (.bool false)).setCell ⟨p, 14, none⟩ (ptr20 g)).setCell ⟨p, 15, none⟩ (.bool s.held))).heap.size := HW8.out.turn.size
      have hp3 : p < w3.heap.size := HPW.out
      have hbd := HBD.out
      have htb := HTB.out
      have hbm := bo_mem HB7.out
      have hom := out_mem HO7.out
      have him := in_mem HTK.out.1
      have hl1 := HTK.out.2.1.lt
      have hl2 := HTK.out.2.2.1.lt
      have hl3 : g < w7.heap.size := RowAt.lt (v := .int .i64 zeroG.left) HTK.out.2.2.2
      have hm3 : w3.heap.size < w7.heap.size := RowAt.lt (v := .int .i64 (Sm.new y.t1).srt) HM7.out
      have hP7 := HP7.out.lt
      obtain ⟨k1, k2, k3⟩ := rise_done HL.out y HYOK.out (n1 := w3.heap.size + 1) (n2 := n1) (n3 := n2) (n4 := w6.heap.size) (n5 := n3) hr8 HT8.out (HM7.out.block (so8 _ (by omega) hm3) hz8) (bo_stay HB7.out ⟨hz8, fun k hk => so8 k (by have := hbd.1 k hk; omega) (hbm k hk)⟩) (out_stay HO7.out ⟨hz8, fun k hk => so8 k (by have := hbd.2.1 k hk; omega) (hom k hk)⟩) (HP7.out.same (so8 _ (by omega) hP7)) (in_stay HTK.out.1 ⟨hz8, fun k hk => so8 k (by have := htb.1 k hk; omega) (him k hk)⟩) (HTK.out.2.1.same (so8 _ (by omega) hl1)) (HTK.out.2.2.1.same (so8 _ (by omega) hl2)) (HTK.out.2.2.2.block (so8 _ (by omega) hl3) hz8)
        ⟨HWZ.out, by omega⟩ (fun k hk => hbd.1 k hk) (fun k hk => hbd.2.1 k hk) ⟨hbd.2.2.1, by omega⟩ (fun k hk => htb.1 k hk) ⟨htb.2.2.1, htb.2.2.2.1, htb.2.2.2.2⟩ ⟨hbd.2.2.2.1, hbd.2.2.2.2.1, htb.2.1⟩
      obtain ⟨H8, l1, l2, l3⟩ := HLO.out _ _ _ ⟨_, _, k1, rfl⟩ (HF.out ▸ k2) (HF.out ▸ k3)
      have HL8 := Lib.hid l1
      have HTL := Lib.hid l2
      have HGL := Lib.hid l3
      replace HB := Lib.hid (show ((((((((w7.setCell ⟨p, 10, none⟩ (ptr20 i)).setCell ⟨p, 11, none⟩ (.map (some m1))).setCell ⟨p, 12, none⟩ (.map (some m2))).setCell ⟨p, 13, none⟩ (.bool false)).setCell ⟨p, 14, none⟩ (ptr20 g)).setCell ⟨p, 15, none⟩ (.bool s.held))).cell? ⟨p, 35, none⟩ = some (.bool y.wide) ∧ (((((((w7.setCell ⟨p, 10, none⟩ (ptr20 i)).setCell ⟨p, 11, none⟩ (.map (some m1))).setCell ⟨p, 12, none⟩ (.map (some m2))).setCell ⟨p, 13, none⟩ (.bool false)).setCell ⟨p, 14, none⟩ (ptr20 g)).setCell ⟨p, 15, none⟩ (.bool s.held))).cell? ⟨p, 36, none⟩ = some (.bool y.srej) ∧ (((((((w7.setCell ⟨p, 10, none⟩ (ptr20 i)).setCell ⟨p, 11, none⟩ (.map (some m1))).setCell ⟨p, 12, none⟩ (.map (some m2))).setCell ⟨p, 13, none⟩ (.bool false)).setCell ⟨p, 14, none⟩ (ptr20 g)).setCell ⟨p, 15, none⟩ (.bool s.held))).cell? ⟨p, 37, none⟩ = some (.int .i64 y.n1) ∧ (((((((w7.setCell ⟨p, 10, none⟩ (ptr20 i)).setCell ⟨p, 11, none⟩ (.map (some m1))).setCell ⟨p, 12, none⟩ (.map (some m2))).setCell ⟨p, 13, none⟩ (.bool false)).setCell ⟨p, 14, none⟩ (ptr20 g)).setCell ⟨p, 15, none⟩ (.bool s.held))).cell? ⟨p, 38, none⟩ = some (.int .i64 y.k) ∧ (((((((w7.setCell ⟨p, 10, none⟩ (ptr20 i)).setCell ⟨p, 11, none⟩ (.map (some m1))).setCell ⟨p, 12, none⟩ (.map (some m2))).setCell ⟨p, 13, none⟩ (.bool false)).setCell ⟨p, 14, none⟩ (ptr20 g)).setCell ⟨p, 15, none⟩ (.bool s.held))).cell? ⟨p, 39, none⟩ = some (.int .i64 y.t1) ∧ (((((((w7.setCell ⟨p, 10, none⟩ (ptr20 i)).setCell ⟨p, 11, none⟩ (.map (some m1))).setCell ⟨p, 12, none⟩ (.map (some m2))).setCell ⟨p, 13, none⟩ (.bool false)).setCell ⟨p, 14, none⟩ (ptr20 g)).setCell ⟨p, 15, none⟩ (.bool s.held))).cell? ⟨p, 40, none⟩ = some (.int .i64 y.n2) ∧ (((((((w7.setCell ⟨p, 10, none⟩ (ptr20 i)).setCell ⟨p, 11, none⟩ (.map (some m1))).setCell ⟨p, 12, none⟩ (.map (some m2))).setCell ⟨p, 13, none⟩ (.bool false)).setCell ⟨p, 14, none⟩ (ptr20 g)).setCell ⟨p, 15, none⟩ (.bool s.held))).cell? ⟨p, 15, none⟩ = some (.bool s.held)) from cells20 hr8 rfl rfl)
      clear x0 x1 x2 x3 x4 x5 y0 y1 y2 y3 y4 y5 hr8 so8 hz8 hp3 hbd htb hbm hom him hl1 hl2 hl3 hm3 hP7 k1 k2 k3 l1 l2 l3 HW8 HR7 HT7 HM7 HB7 HO7 HP7 HTK HTB HBD HT8
      generalize ((((((w7.setCell ⟨p, 10, none⟩ (ptr20 i)).setCell ⟨p, 11, none⟩ (.map (some m1))).setCell ⟨p, 12, none⟩ (.map (some m2))).setCell ⟨p, 13, none⟩ (.bool false)).setCell ⟨p, 14, none⟩ (ptr20 g)).setCell ⟨p, 15, none⟩ (.bool s.held)) = w8 at *
      refine hK.out _ _ HB.out (fun _ => ?_)
      clear hK K
      refine wpAnyH_done (by kernel_rfl) ?_ _
      have HST := Lib.hid (HL8.out.step _ _ fun F hL => cstop20 w8 p (upS s y) F hL)
      have HKT := Lib.hid (fun (W : World) (H1 : Nat → Prop) (h1 : LO W p q (upS s y).stop o H1) => h1.step _ _ fun F hL => ckeep20 W p (upS s y).stop F hL)
      clear HB HL HLO HF HWZ HPW HS4 HS5
      go_upto_region 10 with (first
        | (go_at_call 180; (with_reducible refine HST.out.mono ?_); rintro e w9 ⟨rfl, H9, k1, k2, k3⟩; have HL9 := Lib.hid k1; have HT9 := Lib.hid (HTL.out.trans k2 HGL.out); have HG9 := Lib.hid (HGL.out.trans k3 HTL.out.size); clear k1 k2 k3)
        | (go_at_call 75; (with_reducible refine (HKT.out _ _ HL9.out).mono ?_); rintro e w10 ⟨rfl, H10, k1, k2, k3⟩; have HL10 := Lib.hid k1; have HT10 := Lib.hid (HT9.out.trans k2 HG9.out); have HG10 := Lib.hid (HG9.out.trans k3 HT9.out.size); clear k1 k2 k3))
      obtain ⟨fv, ev, L, G10, F10, hO, hGe, hL10, ha, hH10⟩ := HL10.out.open_
      obtain ⟨x2, y2, -⟩ := hO.row.get 2 rfl
      obtain ⟨k1, k2⟩ := hO.fresh_ true
      have HOF := Lib.hid k1
      have HTF := Lib.hid k2
      obtain ⟨H11, l1, l2, l3⟩ := LO.out hL10 ha (RowAt.lt hO.row) hH10 ⟨_, _, _, k1, rfl⟩ (hGe ▸ k2) (hGe ▸ Grew.refl _ _)
      have HL11 := Lib.hid l1
      have HT11 := Lib.hid (HT10.out.trans l2 HG10.out)
      have HG11 := Lib.hid (HG10.out.trans l3 HT10.out.size)
      clear hO hGe hL10 ha hH10 k1 k2 l1 l2 l3
      go_upto_region 11 with fail
      clear x2 y2 HOF HTF
      generalize (w10.setCell ⟨q, 2, none⟩ (.bool true)) = w11 at *
      obtain ⟨fv, ev, L, G11, F11, hO, hGe, hL11, ha, hH11⟩ := HL11.out.open_
      have HO := Lib.hid hO
      have q1 := hO.row.cell 1 rfl
      have HM3 := Lib.hid (AtL.made encEv 122 w11 w11.heap.size ⟨5, 0, ⟨#[]⟩⟩ [.int .i64 5, .int .i64 0, .string ⟨#[]⟩] rfl rfl)
      have HEND := Lib.hid (fun (w' : World) (G' : Nat → Prop) (t1 : OtL w' q (Ot.say { o with fresh := true } ⟨5, 0, ⟨#[]⟩⟩) G') (t2 : Turn (footO q fv ev L) w11 w') (t3 : Grew (footO q fv ev L) G' w11) => LO.out hL11 ha (RowAt.lt hO.row) hH11 t1 (hGe ▸ t2) (hGe ▸ t3))
      clear hO hGe hL11 ha hH11
      go_wp2_with (at_builtin; refine wpList_append_one encEv 122 48 Tryz.underlying48 infoEv rfl (by decide) _ rfl (.tmp 73) (.tmp 76) rfl 0 ev o.events rfl (HO.out.events.alloc _) w11.heap.size 1 rfl ⟨5, 0, ⟨#[]⟩⟩ HM3.out (Nat.le_trans HM.out (by omega)) (Nat.zero_le _) ?_; intro v3 w12 hown hgr hwh; obtain ⟨av, nv, cv, rfl⟩ := OwnL.form' hown; obtain ⟨hr3, ho3, ht3, hg3⟩ := OtAt.say HO.out ((Below.refl _ w11).alloc (Nat.le_refl _) _) hown hgr hwh; obtain ⟨x1, y1, -⟩ := hr3.get 1 rfl; have HE3 := Lib.hid (HEND.out _ _ ⟨_, _, _, ho3, rfl⟩ ht3 hg3); clear hown hgr hwh hr3 ho3 ht3 hg3)
      obtain ⟨H13, k1, k2, k3⟩ := HE3.out
      exact bodyPost_end (v := .tuple #[]) (by simp [results, Tryz.results134, go_sem]) rfl ⟨rfl, _, k1, HT11.out.trans k2 HG11.out, HG11.out.trans k3 HT11.out.size⟩
end Go.Proofs.YtgoaepjjegblnaaGreatDoor
