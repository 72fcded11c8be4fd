/-
The landed box: Next, where there is a piece.
-/
import Derived.Test.YtchjljmcgjlkiaaBufCNext
namespace Go.Proofs.Ytchjljmcgjlkiaa
open Go.RowKit
set_option maxRecDepth 20000
set_option maxHeartbeats 2000000 in
theorem cnext19_last (w : World) (q : Nat) (n1 : Int) (b : Bx) (F : Nat → Prop) (h : BoL w q n1 b F) (hb : BOk b) (p : Pc) (M : List (List Pc)) (h0 : b.M = [p] :: M) : Calls Try.prog 12 #[ptrB q] w (NextTo19 w q n1 b F) := by
  have hnx : nextB b = (⟨b.cnt, M⟩, p, true) := by unfold nextB nextM; rw [h0]; rfl
  have h8 := hb.many
  rw [h0] at h8
  have HL := Lib.hid (fun (w' : World) (hb : Below w.heap.size w w') => clen19 w' q n1 b F (boL_below h hb))
  rw [h0, List.length_cons] at HL
  obtain ⟨v, Z, hA, hM, rfl⟩ := h
  rw [h0] at hM
  obtain ⟨⟨g, c1, ps⟩, R, rfl, hm, hR⟩ := List.map_eq_cons_iff.1 hM
  simp only at hm
  subst hm
  obtain ⟨gv, c, rfl, -, hgv, hAt⟩ := hA.own.some_ (by simp)
  obtain ⟨k, hk⟩ : ∃ k, k = (⟨g, c1, [p]⟩ :: R : List Ms).length := ⟨_, rfl⟩
  rw [← hk] at hA ⊢
  have hkl : k = M.length + 1 := by rw [hk, List.length_cons, ← hR, List.length_map]
  have HA := Lib.hid hA
  have HD := Lib.hid (fun (W : World) (hb : Below w.heap.size w W) => cdelM19 gv k c ⟨g, c1, [p]⟩ R 0 W (hA.below hb).own (by simp at h8; omega))
  have HF := Lib.hid (fun (W wA : World) (hb : Below w.heap.size w W) ho ht => next19_last (W := W) (wA := wA) hA hb ho ht)
  have HE : Hid (∀ (W wA : World) (x y : Value), Below w.heap.size w W → OwnM19 wA 0 (.slice (some ⟨gv, 0, none⟩) R.length c) R → Turn (fun b => b = gv) W wA → NextTo19 w q n1 b (footB q (.slice (some ⟨gv, 0, none⟩) k c) (⟨g, c1, [p]⟩ :: R)) (.returned (.tuple #[.agg #[.int .i64 p.pid, .string p.info], .bool true])) (((wA.setCell ⟨q, 1, none⟩ (.slice (some ⟨gv, 0, none⟩) R.length c)).setCell ⟨w.heap.size, 0, none⟩ x).setCell ⟨w.heap.size, 1, none⟩ y)) := by
    refine Lib.hid fun W wA x y hb ho ht => ?_
    obtain ⟨-, k2, k3, k4⟩ := HF.out W wA hb ho ht
    refine next19_end hnx k2 hR k3 k4 ?_ x y
    rintro (e | e | ⟨m, hm, e⟩)
    · have := hA.row.lt; omega
    · have e2 : gv = w.heap.size := by simpa [Value.ownBlock] using e
      omega
    · have := ((hA.each m (List.mem_cons_of_mem _ hm)).ge (g := m.g) rfl).2
      omega
  have HB0 := Lib.hid ((Below.refl w.heap.size w).alloc (Nat.le_refl _) (.cells #[.int .i64 0, .string ⟨#[]⟩] 36))
  have e0 := ms_at hAt 0 (by simp)
  obtain ⟨a0, cc, hv0, hP⟩ := (hA.each _ List.mem_cons_self).see
  cases hv0
  obtain ⟨p0, p1⟩ := pc_at hP 0 (by simp)
  obtain ⟨pid, info⟩ := p
  simp only [Nat.zero_mul, Nat.zero_add, List.getElem_cons_zero, List.length_singleton] at e0 p0 p1
  have hgl := ((hA.each _ List.mem_cons_self).ge (g := g) rfl).2
  have c1r := hA.row.cell 1 rfl
  have hql := hA.row.lt
  have hd : ((((M.length + 1 : Nat)) : Int) == 0) = false := by rw [beq_eq_false_iff_ne]; omega
  have c1a := HB0.out.cell (p := ⟨q, 1, none⟩) hql
  rw [c1r] at c1a
  have e0a := HB0.out.cell (p := ⟨gv, 0, none⟩) hgv
  rw [e0] at e0a
  have p0a := HB0.out.cell (p := ⟨g, 0, none⟩) hgl
  rw [p0] at p0a
  have p1a := HB0.out.cell (p := ⟨g, 1, none⟩) hgl
  rw [p1] at p1a
  have hk0 : 0 < k := by omega
  have HB1 := Lib.hid (HB0.out.alloc HB0.out.size (.cells #[.int .i64 pid, .string info] 36))
  have HR2 := Lib.hid ((RowAt.new w w.heap.size rfl [.int .i64 0, .string ⟨#[]⟩] 36).alloc (.cells #[.int .i64 pid, .string info] 36))
  have HR5 := Lib.hid (RowAt.new (w.alloc (.cells #[.int .i64 0, .string ⟨#[]⟩] 36)) (w.heap.size + 1) (by simp) [.int .i64 pid, .string info] 36)
  have hq2 : q ≠ w.heap.size := by omega
  have hq5 : q ≠ w.heap.size + 1 := by omega
  have HGV := Lib.hid hgv
  generalize NextTo19 w q n1 b (footB q (.slice (some ⟨gv, 0, none⟩) k c) (⟨g, c1, [⟨pid, info⟩]⟩ :: R)) = Q at *
  generalize M.length + 1 = ml at *
  generalize R.length = rl at *
  clear hA hM h8 hk hkl hR hnx hb h0 hAt hP c1r e0 p0 p1 hgv hgl
  go_enter Try.func12, Try.ntmps12
  go_wp2_with (first
    | (go_at_call 16; (with_reducible refine (HL.out _ HB0.out).mono ?_); rintro e w1 ⟨rfl, rfl⟩)
    | (go_at_call 26; (with_reducible refine (HD.out _ HB1.out).mono ?_); rintro e wA ⟨rfl, ho, ht⟩; have k1 := (HF.out _ wA HB1.out ho ht).1; have x1 := k1.cell; have y1 := k1.free; have HQ := Lib.hid (fun x y => HE.out _ wA x y HB1.out ho ht); have hr2 := (HR2.out.turn ht (by have := HGV.out; omega)).other (p := 1) (.slice (some ⟨gv, 0, none⟩) rl c) hq2; have hr5 := (HR5.out.turn ht (by have := HGV.out; omega)).other (p := 1) (.slice (some ⟨gv, 0, none⟩) rl c) hq5; have HZ := Lib.hid ((hr2.put 0 (.int .i64 pid) _ rfl).put 1 (.string info) _ rfl); have z0 := hr2.cell 0 rfl; have z1 := hr2.cell 1 rfl; have zf0 := (hr2.get 0 rfl).free; have zf1 := (hr2.get 1 rfl).free; have u0 := hr5.cell 0 rfl; have u1 := hr5.cell 1 rfl; clear k1 ho ht hr2 hr5))
  refine bodyPost_ret (v := .tuple #[.agg #[.int .i64 pid, .string info], .bool true]) ?_ rfl (HQ.out _ _)
  have v0 := HZ.out.cell 0 rfl
  have v1 := HZ.out.cell 1 rfl
  simp [results, Try.results12, go_sem, v0, v1]
set_option maxHeartbeats 2000000 in
theorem cnext19_more (w : World) (q : Nat) (n1 : Int) (b : Bx) (F : Nat → Prop) (h : BoL w q n1 b F) (hb : BOk b) (p p2 : Pc) (P : List Pc) (M : List (List Pc)) (h0 : b.M = (p :: p2 :: P) :: M) : Calls Try.prog 12 #[ptrB q] w (NextTo19 w q n1 b F) := by
  have hnx : nextB b = (⟨b.cnt, (p2 :: P) :: M⟩, p, true) := by unfold nextB nextM; rw [h0]; rfl
  have h8 := hb.many
  have h45 := hb.few (p :: p2 :: P) (by rw [h0]; exact List.mem_cons_self)
  rw [h0] at h8
  have HL := Lib.hid (fun (w' : World) (hb : Below w.heap.size w w') => clen19 w' q n1 b F (boL_below h hb))
  rw [h0, List.length_cons] at HL
  obtain ⟨v, Z, hA, hM, rfl⟩ := h
  rw [h0] at hM
  obtain ⟨⟨g, c1, ps⟩, R, rfl, hm, hR⟩ := List.map_eq_cons_iff.1 hM
  simp only at hm
  subst hm
  obtain ⟨gv, c, rfl, -, hgv, hAt⟩ := hA.own.some_ (by simp)
  obtain ⟨rest, hrest⟩ : ∃ rest, rest = p2 :: P := ⟨_, rfl⟩
  obtain ⟨n, hn⟩ : ∃ n, n = (p :: p2 :: P).length := ⟨_, rfl⟩
  have hnl : n = rest.length + 1 := by rw [hn, hrest]; rfl
  have hn2 : 1 < n := by rw [hn]; simp
  have hn45 : n ≤ 45 := by rw [hn]; exact h45
  rw [← hrest] at hA hAt hnx ⊢
  obtain ⟨k, hk⟩ : ∃ k, k = (⟨g, c1, p :: rest⟩ :: R : List Ms).length := ⟨_, rfl⟩
  rw [← hk] at hA ⊢
  have hkl : k = M.length + 1 := by rw [hk, List.length_cons, ← hR, List.length_map]
  have hov := hA.each _ List.mem_cons_self
  have hvf : Ms.v ⟨g, c1, p :: rest⟩ = .slice (some ⟨g, 0, none⟩) n c1 := by rw [hnl]; rfl
  have HD := Lib.hid (fun (W : World) (hb : Below w.heap.size w W) => cdelP19 g n c1 p rest 0 W (by rw [← hvf]; exact (hA.below hb).each _ List.mem_cons_self) (by omega))
  have HF := Lib.hid (fun (W wA : World) (hb : Below w.heap.size w W) ho ht => next19_more (W := W) (wA := wA) hA hb ho ht)
  rw [hvf] at HF
  have HE : Hid (∀ (W wA : World) (x y : Value), Below w.heap.size w W → OwnP19 wA 0 (.slice (some ⟨g, 0, none⟩) rest.length c1) rest → Turn (fun b => b = g) W wA → NextTo19 w q n1 b (footB q (.slice (some ⟨gv, 0, none⟩) k c) (⟨g, c1, p :: rest⟩ :: R)) (.returned (.tuple #[.agg #[.int .i64 p.pid, .string p.info], .bool true])) (((wA.setCell ⟨gv, 0, none⟩ (.slice (some ⟨g, 0, none⟩) rest.length c1)).setCell ⟨w.heap.size, 0, none⟩ x).setCell ⟨w.heap.size, 1, none⟩ y)) := by
    refine Lib.hid fun W wA x y hb ho ht => ?_
    obtain ⟨-, k2, k3, k4⟩ := HF.out W wA hb ho ht
    refine next19_end hnx k2 (by rw [List.map_cons, hR]) k3 k4 ?_ x y
    rintro (e | e | ⟨m, hm, e⟩)
    · have := hA.row.lt; omega
    · have e2 : gv = w.heap.size := by simpa [Value.ownBlock] using e
      omega
    · rcases List.mem_cons.1 hm with rfl | hm
      · have := (hov.ge (g := g) rfl).2
        have e2 : g = w.heap.size := e
        omega
      · have := ((hA.each m (List.mem_cons_of_mem _ hm)).ge (g := m.g) rfl).2
        omega
  have HB0 := Lib.hid ((Below.refl w.heap.size w).alloc (Nat.le_refl _) (.cells #[.int .i64 0, .string ⟨#[]⟩] 36))
  have e0 := ms_at hAt 0 (by simp)
  obtain ⟨a0, cc, hv0, hP⟩ := hov.see
  cases hv0
  obtain ⟨p0, p1⟩ := pc_at hP 0 (by simp)
  obtain ⟨pid, info⟩ := p
  simp only [Nat.zero_mul, Nat.zero_add, List.getElem_cons_zero, List.length_cons] at e0 p0 p1
  rw [← hnl] at e0
  have hgl := (hov.ge (g := g) rfl).2
  have c1r := hA.row.cell 1 rfl
  have hql := hA.row.lt
  have hd : ((((M.length + 1 : Nat)) : Int) == 0) = false := by rw [beq_eq_false_iff_ne]; omega
  have hd2 : decide ((1 : Int) < (n : Int)) = true := by simp; omega
  have c1a := HB0.out.cell (p := ⟨q, 1, none⟩) hql
  rw [c1r] at c1a
  have e0a := HB0.out.cell (p := ⟨gv, 0, none⟩) hgv
  rw [e0] at e0a
  have p0a := HB0.out.cell (p := ⟨g, 0, none⟩) hgl
  rw [p0] at p0a
  have p1a := HB0.out.cell (p := ⟨g, 1, none⟩) hgl
  rw [p1] at p1a
  have hk0 : 0 < k := by omega
  have hn0 : 0 < n := by omega
  have HB1 := Lib.hid ((HB0.out.alloc HB0.out.size (.cells #[.int .i64 pid, .string info] 36)).drew)
  have HR2 := Lib.hid (((RowAt.new w w.heap.size rfl [.int .i64 0, .string ⟨#[]⟩] 36).alloc (.cells #[.int .i64 pid, .string info] 36)).drew)
  have HR5 := Lib.hid ((RowAt.new (w.alloc (.cells #[.int .i64 0, .string ⟨#[]⟩] 36)) (w.heap.size + 1) (by simp) [.int .i64 pid, .string info] 36).drew)
  have hvne2 : gv ≠ w.heap.size := by omega
  have hvne5 : gv ≠ w.heap.size + 1 := by omega
  have HGL := Lib.hid hgl
  have HC1 := Lib.hid (HB1.out.cell (p := ⟨q, 1, none⟩) hql |>.trans c1r)
  generalize NextTo19 w q n1 b (footB q (.slice (some ⟨gv, 0, none⟩) k c) (⟨g, c1, ⟨pid, info⟩ :: rest⟩ :: R)) = Q at *
  generalize M.length + 1 = ml at *
  generalize rest.length = rl at *
  clear hA hM h8 h45 hk hkl hR hnx hb h0 hAt hP c1r e0 p0 p1 hov hvf hrest hn hnl hn2 hn45
  go_enter Try.func12, Try.ntmps12
  go_upto_region 6 with (go_at_call 16; (with_reducible refine (HL.out _ HB0.out).mono ?_); rintro e w1 ⟨rfl, rfl⟩)
  generalize hW : ((w.alloc (.cells #[.int .i64 0, .string ⟨#[]⟩] 36)).alloc (.cells #[.int .i64 pid, .string info] 36)).drew = W at HB1 HR2 HR5 HC1
  refine wp_region_held (S := fun W' => W'.cell? ⟨q, 1, none⟩ = some (.slice (some ⟨gv, 0, none⟩) k c)) (by kernel_rfl) ?_
  change wpAnyH _ _ _ _ _ _ _ _ (World.drew _)
  rw [hW]
  have HB := Lib.hid HC1.out
  refine wpAnyH_take (i := 0) (v := ?_) rfl (by kernel_rfl) (by kernel_rfl) (by kernel_rfl) (fun _ _ _ h => h) (Or.inl ⟨by rfl, ?_⟩) HB.out ?_
  rotate_left
  · intro w' hw'
    go_simp
    with_reducible rfl
  go_simp
  refine wpAnyH_take (i := 1) (v := ?_) rfl (by kernel_rfl) (by kernel_rfl) (by kernel_rfl) (fun _ _ _ h => h) (Or.inl ⟨by rfl, ?_⟩) HB.out ?_
  rotate_left
  · intro w' hw'
    go_simp
    with_reducible rfl
  go_simp
  refine wpAnyH_take (i := 2) (v := ?_) rfl (by kernel_rfl) (by kernel_rfl) (by kernel_rfl) (fun _ _ _ h => h) (Or.inl ⟨by rfl, ?_⟩) HB.out ?_
  rotate_left
  · intro w' hw'
    go_simp
    with_reducible rfl
  go_simp
  refine wpAnyH_take (i := 3) (v := ?_) rfl (by kernel_rfl) (by kernel_rfl) (by kernel_rfl) (fun _ _ _ h => h) (Or.inl ⟨by rfl, ?_⟩) HB.out ?_
  rotate_left
  · intro w' hw'
    go_simp
    with_reducible rfl
  go_simp
  refine wpAnyH_take (i := 4) (v := ?_) rfl (by kernel_rfl) (by kernel_rfl) (by kernel_rfl) (fun _ _ _ h => h) (Or.inl ⟨by rfl, ?_⟩) HB.out ?_
  rotate_left
  · intro w' hw'
    go_simp
    with_reducible rfl
  go_simp
  refine wpAnyH_ready (rs := [5]) (by kernel_rfl) (by simp) ?_
  refine AllReadyH.cons rfl (fun K hK => ?_) AllReadyH.nil
  go_simp
  go_at_call 25
  refine (HD.out _ HB1.out).mono ?_
  rintro e wA ⟨rfl, ho, ht⟩
  obtain ⟨k1, k2, -⟩ := HF.out _ wA HB1.out ho ht
  have HQ := Lib.hid (fun x y => HE.out _ wA x y HB1.out ho ht)
  have hr2 := (HR2.out.turn ht (by have := HGL.out; omega)).other (p := 0) (.slice (some ⟨g, 0, none⟩) rl c1) hvne2
  have hr5 := (HR5.out.turn ht (by have := HGL.out; omega)).other (p := 0) (.slice (some ⟨g, 0, none⟩) rl c1) hvne5
  have hqg := k2.eq_ _ List.mem_cons_self
  have hcq : wA.cell? ⟨q, 1, none⟩ = some (.slice (some ⟨gv, 0, none⟩) k c) := (ht.cell (p := ⟨q, 1, none⟩) (by have := HB1.out.size; show q < W.heap.size; omega) (fun e => hqg e.symm)).trans HC1.out
  have x1 := k1.cell
  have y1 := k1.free
  have HZ := Lib.hid ((hr2.put 0 (.int .i64 pid) _ rfl).put 1 (.string info) _ rfl)
  have HU := Lib.hid (And.intro hr2 hr5)
  have HCQ := Lib.hid hcq
  have HCQ2 := Lib.hid (k2.row.cell 1 rfl)
  clear k1 k2 ho ht hr2 hr5 hcq hqg HB
  go_simp
  refine hK.out _ _ HCQ.out (fun _ => ?_)
  clear hK K
  have HB := HCQ
  refine wpAnyH_take (i := 6) (v := ?_) rfl (by kernel_rfl) (by kernel_rfl) (by kernel_rfl) (fun _ _ _ h => h) (Or.inl ⟨by rfl, ?_⟩) HB.out ?_
  rotate_left
  · intro w' hw'
    go_simp
    with_reducible rfl
  go_simp
  refine wpAnyH_ready (rs := [7]) (by kernel_rfl) (by simp) ?_
  refine AllReadyH.cons rfl (fun K hK => ?_) AllReadyH.nil
  go_simp
  clear x1 y1
  refine hK.out _ _ HCQ2.out (fun _ => ?_)
  clear hK K
  refine wpAnyH_done (by kernel_rfl) ?_ _
  have z0 := HU.out.1.cell 0 rfl
  have z1 := HU.out.1.cell 1 rfl
  have zf0 := (HU.out.1.get 0 rfl).free
  have zf1 := (HU.out.1.get 1 rfl).free
  have u0 := HU.out.2.cell 0 rfl
  have u1 := HU.out.2.cell 1 rfl
  go_wp2_with fail
  refine bodyPost_ret (v := .tuple #[.agg #[.int .i64 pid, .string info], .bool true]) ?_ rfl (HQ.out _ _)
  have v0 := HZ.out.cell 0 rfl
  have v1 := HZ.out.cell 1 rfl
  simp [results, Try.results12, go_sem, v0, v1]
end Go.Proofs.Ytchjljmcgjlkiaa
