/-
The landed queue: Put.
-/
import Derived.Test.YtliamhphpnifaaaTxqCGo
import Derived.Test.YtliamhphpnifaaaTxqCNum
namespace Go.Proofs.Ytliamhphpnifaaa
open Go.RowKit
set_option maxRecDepth 20000
theorem ofC_put (c k : Int) (f : ByteArray) (S : List Ent) (i : Int) (hi : 0 ≤ i ∧ i ≤ 2) : ofC i (sortE (S ++ [⟨c, k, f⟩])) = ofC i S ++ if i = c then [⟨c, k, f⟩] else [] := by
  rw [ofC_sort i hi, ofC_append]
  congr 1
  by_cases h : i = c
  · rw [if_pos h]
    unfold ofC
    rw [List.filter_cons, List.filter_nil, decide_eq_true (show (⟨c, k, f⟩ : Ent).cls = i from h.symm)]
    rfl
  · rw [if_neg h]
    unfold ofC
    rw [List.filter_cons, List.filter_nil, decide_eq_false (show ¬ (⟨c, k, f⟩ : Ent).cls = i from fun e => h e.symm)]
    rfl
/-- behind the append: the queue with one more of a class, ahead of its store -/
theorem put_done {w W W' : World} {q : Nat} {u : Nat → Value} {S : List Ent} {c : Nat} {k : Int} {f : ByteArray} {v' : Value} (h : QuAt W q u (clsE S)) (hok : SOk S) (h8 : ∀ c : Int, (ofC c S).length ≤ 8) (hb : Below w.heap.size w W) (hc : c < 3) (hf : f.size ≤ 333) (hz : putErr c f.size S = 0)
    (ho : OwnW W' 0 v' (clsE S c ++ [⟨c, k, f⟩])) (hg : W.grownBy W' (u c).ownBlock) (hv : v'.ownBlock = (u c).ownBlock ∨ v'.ownBlock = some W.heap.size) :
    KeepAt W' q c (u c) ∧ QuL (W'.setCell ⟨q, c, none⟩ v') q (sortE (putE c k f S)) (footQ q (updU u c v')) ∧ Turn (footQ q u) w (W'.setCell ⟨q, c, none⟩ v') ∧ Grew (footQ q u) (footQ q (updU u c v')) w := by
  have hnq : (u c).ownBlock ≠ some q := h.nq c hc
  have hrow : RowAt W' q [u 0, u 1, u 2] := h.row.block (hg.block q h.row.lt fun e => hnq e.symm) hg.size
  have hpe : putE c k f S = S ++ [⟨c, k, f⟩] := by unfold putE; rw [if_pos hz]
  have hv2 : ∀ b, v'.ownBlock = some b → (u c).ownBlock = some b ∨ b = W.heap.size := fun b e => by
    rcases hv with hv | hv
    · exact Or.inl (hv ▸ e)
    · rw [hv] at e
      exact Or.inr (Option.some.inj e).symm
  have hvq : v'.ownBlock ≠ some q := fun e => by
    rcases hv2 q e with e | e
    · exact hnq e
    · have := h.row.lt; omega
  have hlen : S.length < 16 ∧ (ofC (c : Int) S).length < 8 := by
    unfold putErr at hz
    rw [if_neg (by omega), if_neg (by omega)] at hz
    split at hz
    · omega
    · omega
  have same : ∀ {x : Value} {N : List Ent}, OwnW W' 0 x N → x.ownBlock ≠ some q → OwnW (W'.setCell ⟨q, c, none⟩ v') 0 x N := fun h1 h2 => h1.same fun g e => Below.heap_setCell _ _ _ _ (show g ≠ q from fun k => h2 (k ▸ e))
  have hcl : ∀ i, i < 3 → clsE (sortE (putE c k f S)) i = if i = c then clsE S c ++ [⟨c, k, f⟩] else clsE S i := fun i hi => by
    rw [hpe]
    unfold clsE
    rw [ofC_put c k f S i (by omega)]
    by_cases e : i = c
    · subst e
      rw [if_pos rfl, if_pos rfl]
    · rw [if_neg (by omega), if_neg e, List.append_nil]
  refine ⟨hrow.get c (row3 u c hc), ⟨updU u c v', ⟨hrow.put c v' _ (updU_row u c v' hc), fun i hi => ?_, fun i hi => ?_, fun i j hi hj hij b e1 e2 => ?_⟩, ⟨?_, ?_, ?_, ?_⟩, fun i => ?_, rfl⟩, ?_, ?_⟩
  · show OwnW _ 0 (updU u c v' i) (clsE (sortE (putE c k f S)) i)
    rw [hcl i hi]
    unfold updU
    by_cases e : i = c
    · rw [if_pos e, if_pos e]
      exact same ho hvq
    · rw [if_neg e, if_neg e]
      exact same ((h.own i hi).grown hg fun b e1 e2 => h.ap i c hi hc e b e1 e2) (h.nq i hi)
  · unfold updU
    split
    · exact hvq
    · exact h.nq i hi
  · unfold updU at e1 e2
    have off : ∀ x, x < 3 → x ≠ c → ∀ b, v'.ownBlock = some b → (u x).ownBlock ≠ some b := fun x hx hxc b e e3 => by
      rcases hv2 b e with e | e
      · exact h.ap x c hx hc hxc b e3 e
      · have := ((h.own x hx).ge e3).2; omega
    by_cases hic : i = c
    · rw [if_pos hic] at e1
      rw [if_neg (by omega)] at e2
      exact off j hj (by omega) b e1 e2
    · rw [if_neg hic] at e1
      by_cases hjc : j = c
      · rw [if_pos hjc] at e2
        exact off i hi hic b e2 e1
      · rw [if_neg hjc] at e2
        exact h.ap i j hi hj hij b e1 e2
  · exact sort_ok _
  · exact sort_by _
  · rw [(sort_perm _ (put_ok hok.ok)).length_eq, hpe, List.length_append, List.length_singleton]
    omega
  · intro e he
    have he' := (sort_perm _ (put_ok (c := (c : Int)) (k := k) (f := f) hok.ok)).mem_iff.1 he
    rw [hpe, List.mem_append, List.mem_singleton] at he'
    rcases he' with he' | rfl
    · exact hok.size e he'
    · exact hf
  · by_cases hi : 0 ≤ i ∧ i ≤ 2
    · rw [hpe, ofC_put c k f S i hi, List.length_append]
      by_cases e : i = c
      · rw [if_pos e, List.length_singleton, e]
        omega
      · rw [if_neg e]
        exact h8 i
    · have : ofC i (sortE (putE c k f S)) = [] := by
        unfold ofC
        rw [List.filter_eq_nil_iff]
        intro e he
        have := sort_ok _ e he
        simp
        omega
      rw [this]
      exact Nat.zero_le _
  · have hsz := hb.size
    have ht : Turn (footQ q u) w W' := ⟨hg.os.trans hb.os, hg.tape.trans hb.tape, hg.output.trans hb.output, Nat.le_trans hsz hg.size, fun b hb' hF => (hg.block b (by omega) fun e => hF (Or.inr ⟨c, hc, e.symm⟩)).trans (hb.block b hb')⟩
    exact ht.set (p := ⟨q, c, none⟩) (Or.inl (Or.inl rfl)) v'
  · have hsz := hb.size
    rintro b (e | ⟨i, hi, e⟩)
    · exact Or.inl (Or.inl e)
    · unfold updU at e
      split at e
      · rcases hv2 b e with e | e
        · exact Or.inl (Or.inr ⟨c, hc, e⟩)
        · exact Or.inr (by omega)
      · exact Or.inl (Or.inr ⟨i, hi, e⟩)
set_option maxHeartbeats 1000000 in
theorem cput16_nil (c k : Int) (f : ByteArray) (w : World) : Calls Try.prog 9 #[.pointer none, .int .i64 c, .int .i64 k, .string f] w fun e w' => e = .returned (.int .i64 1) ∧ Below w.heap.size w w' := by
  have HD := Lib.hid (fun W => ccls16 c W)
  go_enter Try.func9, Try.ntmps9
  go_wp2_with (go_at_call 23; (with_reducible refine (HD.out _).mono ?_); rintro e w ⟨rfl, rfl⟩)
  exact bodyPost_ret (v := .int .i64 1) (by simp [results, Try.results9, go_sem]) rfl ⟨rfl, Below.refl _ _⟩
/-- what it answers -/
def PutTo (w : World) (q : Nat) (S : List Ent) (F : Nat → Prop) (c k : Int) (f : ByteArray) : Ending → World → Prop := fun e w' => ∃ F', e = .returned (.int .i64 (putErr c f.size S)) ∧ QuL w' q (sortE (putE c k f S)) F' ∧ Turn F w w' ∧ Grew F F' w
theorem put_same {w w' : World} {q : Nat} {S : List Ent} {F : Nat → Prop} {c k : Int} {f : ByteArray} (h : QuL w q S F) (hb : Below w.heap.size w w') (x : Int) (hx : putErr c f.size S = x) (h0 : x ≠ 0) : PutTo w q S F c k f (.returned (.int .i64 x)) w' := by
  have e : sortE (putE c k f S) = S := by
    unfold putE
    rw [if_neg (by omega)]
    exact sort_fix S (quL_ok h).ok (quL_ok h).by_
  exact ⟨F, by rw [hx], by rw [e]; exact quL_below h hb, Turn.of_below hb, Grew.refl _ _⟩
set_option maxHeartbeats 1000000 in
theorem cput16_cls (c k : Int) (f : ByteArray) (q : Nat) (S : List Ent) (F : Nat → Prop) (w : World) (h : QuL w q S F) (hc : ¬ (0 ≤ c ∧ c ≤ 2)) : Calls Try.prog 9 #[ptrQ q, .int .i64 c, .int .i64 k, .string f] w (PutTo w q S F c k f) := by
  have HD := Lib.hid (fun W => ccls16 c W)
  have hv : (decide (0 ≤ c) && decide (c ≤ 2)) = false := by
    simp
    omega
  rw [hv] at HD
  have HE := Lib.hid (put_same (k := k) (f := f) h (Below.refl _ _) 1 (show putErr c f.size S = 1 by unfold putErr; rw [if_pos (by omega)]) (by decide))
  clear hv hc h
  go_enter Try.func9, Try.ntmps9
  go_wp2_with (go_at_call 23; (with_reducible refine (HD.out _).mono ?_); rintro e w ⟨rfl, rfl⟩)
  exact bodyPost_ret (v := .int .i64 1) (by simp [results, Try.results9, go_sem]) rfl HE.out
set_option maxHeartbeats 1000000 in
theorem cput16_long (c k : Int) (f : ByteArray) (q : Nat) (S : List Ent) (F : Nat → Prop) (w : World) (h : QuL w q S F) (hc : 0 ≤ c ∧ c ≤ 2) (hf : 333 < f.size) (hf2 : f.size ≤ 1000) : Calls Try.prog 9 #[ptrQ q, .int .i64 c, .int .i64 k, .string f] w (PutTo w q S F c k f) := by
  have HD := Lib.hid (fun W => ccls16 c W)
  have hv : (decide (0 ≤ c) && decide (c ≤ 2)) = true := by
    simp
    omega
  rw [hv] at HD
  have HE := Lib.hid (put_same (k := k) (f := f) h (Below.refl _ _) 5 (show putErr c f.size S = 5 by unfold putErr; rw [if_neg (by omega), if_pos hf]) (by decide))
  clear hv hc h
  go_enter Try.func9, Try.ntmps9
  go_wp2_with (go_at_call 23; (with_reducible refine (HD.out _).mono ?_); rintro e w ⟨rfl, rfl⟩)
  exact bodyPost_ret (v := .int .i64 5) (by simp [results, Try.results9, go_sem]) rfl HE.out
set_option maxHeartbeats 1000000 in
theorem cput16_full (c k : Int) (f : ByteArray) (q : Nat) (S : List Ent) (F : Nat → Prop) (w : World) (h : QuL w q S F) (hc : 0 ≤ c ∧ c ≤ 2) (hf : f.size ≤ 333) (hz : roomE c S = 0) : Calls Try.prog 9 #[ptrQ q, .int .i64 c, .int .i64 k, .string f] w (PutTo w q S F c k f) := by
  have HD := Lib.hid (fun W => ccls16 c W)
  have hv : (decide (0 ≤ c) && decide (c ≤ 2)) = true := by
    simp
    omega
  rw [hv] at HD
  have HR := Lib.hid (croom16 c q S F w h)
  rw [hz] at HR
  have hpe : putErr c f.size S = 6 := by
    unfold roomE at hz
    rw [if_pos hc] at hz
    unfold putErr
    rw [if_neg (by omega), if_neg (by omega), if_pos (by omega)]
  have HE := Lib.hid (fun (w' : World) (hb : Below w.heap.size w w') => put_same (k := k) (f := f) h hb 6 hpe (by decide))
  clear hv hc h hz hpe
  go_enter Try.func9, Try.ntmps9
  go_wp2_with (first
    | (go_at_call 23; (with_reducible refine (HD.out _).mono ?_); rintro e w ⟨rfl, rfl⟩)
    | (go_at_call 22; (with_reducible refine HR.out.mono ?_); rintro e w2 ⟨rfl, hb⟩))
  exact bodyPost_ret (v := .int .i64 6) (by simp [results, Try.results9, go_sem]) rfl (HE.out _ hb)
set_option maxHeartbeats 2000000 in
theorem cput16_ok (c : Nat) (hc : c < 3) (k : Int) (f : ByteArray) (q : Nat) (S : List Ent) (F : Nat → Prop) (w : World) (h : QuL w q S F) (hf : f.size ≤ 333) (hr : roomE c S ≠ 0) : Calls Try.prog 9 #[ptrQ q, .int .i64 c, .int .i64 k, .string f] w (PutTo w q S F c k f) := by
  have HD := Lib.hid (fun W => ccls16 c W)
  have hv : (decide (0 ≤ (c : Int)) && decide ((c : Int) ≤ 2)) = true := by
    simp
    omega
  rw [hv] at HD
  have HR := Lib.hid (croom16 c q S F w h)
  have hok := quL_ok h
  obtain ⟨u, h1, -, h8, rfl⟩ := h
  have hpe : putErr c f.size S = 0 := by
    have h9 := h8 c
    have h10 := hok.many
    unfold roomE at hr
    rw [if_pos (by omega)] at hr
    unfold putErr
    rw [if_neg (by omega), if_neg (by omega), if_neg (by omega)]
  have hr0 : (roomE c S == 0) = false := beq_eq_false_iff_ne.2 hr
  have HPE := Lib.hid hpe
  have HA := Lib.hid (fun W (hb : Below w.heap.size w W) => run_append_one encW 57 51 51 Try.underlying51 infoW16 rfl (by decide) (W.alloc (.cells #[.int .i64 k, .string f] 57)) 0 (u c) (clsE S c) (((h1.below hb).own c hc).alloc _) W.heap.size 1 ⟨c, k, f⟩ (AtL.made encW 57 W W.heap.size ⟨c, k, f⟩ _ rfl rfl) (Nat.le_trans (h8 c) (by omega)) (Nat.zero_le _))
  have HPD := Lib.hid (fun (W W' : World) (v' : Value) (hQ : QuAt W q u (clsE S)) (hb : Below w.heap.size w W) ho hg hv => put_done (k := k) (W := W) (W' := W') (v' := v') hQ hok h8 hb hc hf hpe ho hg hv)
  have hcx := fun (W : World) (hb : Below w.heap.size w W) => (h1.below hb).cell c hc
  have HCX := Lib.hid hcx
  have HQB := Lib.hid (fun (W : World) (hb : Below w.heap.size w W) => h1.below hb)
  have hql := h1.row.lt
  clear hv hr h1 hok h8 hpe hcx
  generalize roomE c S = r at *
  have hc3 : (c : Int) < 3 := by omega
  unfold PutTo
  rw [HPE.out]
  go_enter Try.func9, Try.ntmps9
  go_upto_region 7 with (first
    | (go_at_call 23; (with_reducible refine (HD.out _).mono ?_); rintro e w ⟨rfl, rfl⟩)
    | (go_at_call 22; (with_reducible refine HR.out.mono ?_); rintro e w2 ⟨rfl, hb⟩; have HB2 := Lib.hid hb; clear hb))
  have hbd := HB2.out.drew
  have hba := hbd.alloc hbd.size (.cells #[.int .i64 k, .string f] 57)
  obtain ⟨v', wA, hrun, hown, hgr, hwh⟩ := HA.out w2.drew hbd
  obtain ⟨hka, hfin⟩ := HPD.out _ wA v' (HQB.out _ hba) hba hown hgr hwh
  obtain ⟨av, nv, cv, rfl⟩ := OwnL.form' hown
  have HKA := Lib.hid hka
  have HFIN := Lib.hid hfin
  have HRUN := Lib.hid hrun
  have HC1 := Lib.hid (HCX.out _ hbd)
  have HC2 := Lib.hid (HCX.out _ hba)
  clear hka hfin hrun hown hgr hwh hbd hba
  refine wp_region_held (S := fun _ => True) (by kernel_rfl) ?_
  change wpAnyH _ _ _ _ _ _ _ _ w2.drew
  have HB := Lib.hid trivial
  refine wpAnyH_take (i := 0) (v := ?_) rfl (by kernel_rfl) (by kernel_rfl) (by kernel_rfl) (fun _ _ _ h => h) (Or.inl ⟨by rfl, ?_⟩) HB.out ?_
  rotate_left
  · intro w' hw'
    go_simp
    with_reducible rfl
  go_simp
  refine wpAnyH_take (i := 1) (v := ?_) rfl (by kernel_rfl) (by kernel_rfl) (by kernel_rfl) (fun _ _ _ h => h) (Or.inl ⟨by rfl, ?_⟩) HB.out ?_
  rotate_left
  · intro w' hw'
    go_simp
    with_reducible rfl
  go_simp
  refine wpAnyH_take (i := 2) (v := ?_) rfl (by kernel_rfl) (by kernel_rfl) (by kernel_rfl) (fun _ _ _ h => h) (Or.inl ⟨by rfl, ?_⟩) HB.out ?_
  rotate_left
  · intro w' hw'
    go_simp
    with_reducible rfl
  go_simp
  refine wpAnyH_take (i := 3) (v := ?_) rfl (by kernel_rfl) (by kernel_rfl) (by kernel_rfl) (fun _ _ _ h => h) (Or.inl ⟨by rfl, ?_⟩) HB.out ?_
  rotate_left
  · intro w' hw'
    go_simp
    with_reducible rfl
  go_simp
  refine wpAnyH_take (i := 4) (v := ?_) rfl (by kernel_rfl) (by kernel_rfl) (by kernel_rfl) (fun _ _ _ h => h) (Or.inl ⟨by rfl, ?_⟩) HB.out ?_
  rotate_left
  · intro w' hw'
    go_simp
    with_reducible rfl
  go_simp
  refine wpAnyH_take (i := 5) (v := ?_) rfl (by kernel_rfl) (by kernel_rfl) (by kernel_rfl) (fun _ _ _ h => h) (Or.inl ⟨by rfl, ?_⟩) HB.out ?_
  rotate_left
  · intro w' hw'
    go_simp
    with_reducible rfl
  go_simp
  refine wpAnyH_take (i := 6) (v := ?_) rfl (by kernel_rfl) (by kernel_rfl) (by kernel_rfl) (fun _ _ _ h => h) (Or.inl ⟨by rfl, ?_⟩) HB.out ?_
  rotate_left
  · intro w' hw'
    go_simp
    with_reducible rfl
  go_simp
  refine wpAnyH_take (i := 8) (v := ?_) rfl (by kernel_rfl) (by kernel_rfl) (by kernel_rfl) (fun _ _ _ h => h) (Or.inl ⟨by rfl, ?_⟩) HB.out ?_
  rotate_left
  · intro w' hw'
    go_simp
    with_reducible rfl
  go_simp
  refine wpAnyH_take (i := 9) (v := ?_) rfl (by kernel_rfl) (by kernel_rfl) (by kernel_rfl) (fun _ _ _ h => h) (Or.inl ⟨by rfl, ?_⟩) HB.out ?_
  rotate_left
  · intro w' hw'
    go_simp
    with_reducible rfl
  go_simp
  refine wpAnyH_take (i := 10) (v := ?_) rfl (by kernel_rfl) (by kernel_rfl) (by kernel_rfl) (fun _ _ _ h => h) (Or.inl ⟨by rfl, ?_⟩) HB.out ?_
  rotate_left
  · intro w' hw'
    go_simp
    with_reducible rfl
  go_simp
  refine wpAnyH_take (i := 13) (v := ?_) rfl (by kernel_rfl) (by kernel_rfl) (by kernel_rfl) (fun _ _ _ h => h) (Or.inl ⟨by rfl, ?_⟩) HB.out ?_
  rotate_left
  · intro w' hw'
    go_simp
    with_reducible rfl
  go_simp
  refine wpAnyH_take (i := 14) (v := ?_) rfl (by kernel_rfl) (by kernel_rfl) (by kernel_rfl) (fun _ _ _ h => h) (Or.inl ⟨by rfl, ?_⟩) HB.out ?_
  rotate_left
  · intro w' hw'
    go_simp
    with_reducible rfl
  go_simp
  refine wpAnyH_ready (rs := [7, 11]) (by kernel_rfl) (by simp) ?_
  refine AllReadyH.cons rfl (fun K hK => ?_) (AllReadyH.cons rfl (fun K hK => ?_) AllReadyH.nil)
  · have xx := HC1.out
    go_simp
    clear xx
    refine hK.out _ _ HB.out (fun _ => ?_)
    clear hK K
    refine wpAnyH_ready (rs := [11]) (by kernel_rfl) (by simp) ?_
    refine AllReadyH.cons rfl (fun K hK => ?_) AllReadyH.nil
    go_simp
    refine hK.out _ _ HB.out (fun _ => ?_)
    clear hK K
    refine wpAnyH_ready (rs := [12]) (by kernel_rfl) (by simp) ?_
    refine AllReadyH.cons rfl (fun K hK => ?_) AllReadyH.nil
    rw [if_pos (by kernel_rfl)]
    refine wp_append_run (.tmp 33) (.tmp 37) rfl rfl rfl HRUN.out ?_
    go_simp
    refine hK.out _ _ HB.out (fun _ => ?_)
    clear hK K
    refine wpAnyH_take (i := 15) (v := ?_) rfl (by kernel_rfl) (by kernel_rfl) (by kernel_rfl) (fun _ _ _ h => h) (Or.inl ⟨by rfl, ?_⟩) HB.out ?_
    rotate_left
    · intro w' hw'
      go_simp
      with_reducible rfl
    go_simp
    have xx := HKA.out.cell
    have xy := HKA.out.free
    refine wpAnyH_ready (rs := [16]) (by kernel_rfl) (by simp) ?_
    refine AllReadyH.cons rfl (fun K hK => ?_) AllReadyH.nil
    go_simp
    clear xx xy
    refine hK.out _ _ HB.out (fun _ => ?_)
    clear hK K
    refine wpAnyH_done (by kernel_rfl) ?_ _
    go_wp2_with fail
    exact bodyPost_ret (v := .int .i64 0) (by simp [results, Try.results9, go_sem]) rfl ⟨_, rfl, HFIN.out⟩
  · go_simp
    refine hK.out _ _ HB.out (fun _ => ?_)
    clear hK K
    have xx : (w2.alloc (.cells #[.int .i64 k, .string f] 57)).drew.cell? ⟨q, c, none⟩ = some (u c) := HC2.out
    refine wpAnyH_ready (rs := [7]) (by kernel_rfl) (by simp) ?_
    refine AllReadyH.cons rfl (fun K hK => ?_) AllReadyH.nil
    go_simp
    clear xx
    refine hK.out _ _ HB.out (fun _ => ?_)
    clear hK K
    refine wpAnyH_ready (rs := [12]) (by kernel_rfl) (by simp) ?_
    refine AllReadyH.cons rfl (fun K hK => ?_) AllReadyH.nil
    rw [if_pos (by kernel_rfl)]
    refine wp_append_run (.tmp 33) (.tmp 37) rfl rfl rfl HRUN.out ?_
    go_simp
    refine hK.out _ _ HB.out (fun _ => ?_)
    clear hK K
    refine wpAnyH_take (i := 15) (v := ?_) rfl (by kernel_rfl) (by kernel_rfl) (by kernel_rfl) (fun _ _ _ h => h) (Or.inl ⟨by rfl, ?_⟩) HB.out ?_
    rotate_left
    · intro w' hw'
      go_simp
      with_reducible rfl
    go_simp
    have xx := HKA.out.cell
    have xy := HKA.out.free
    refine wpAnyH_ready (rs := [16]) (by kernel_rfl) (by simp) ?_
    refine AllReadyH.cons rfl (fun K hK => ?_) AllReadyH.nil
    go_simp
    clear xx xy
    refine hK.out _ _ HB.out (fun _ => ?_)
    clear hK K
    refine wpAnyH_done (by kernel_rfl) ?_ _
    go_wp2_with fail
    exact bodyPost_ret (v := .int .i64 0) (by simp [results, Try.results9, go_sem]) rfl ⟨_, rfl, HFIN.out⟩
end Go.Proofs.Ytliamhphpnifaaa
