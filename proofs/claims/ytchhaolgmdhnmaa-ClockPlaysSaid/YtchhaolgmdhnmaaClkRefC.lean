/-
The document's Tick and Only.
-/
import Derived.Test.YtchhaolgmdhnmaaClkRefB
namespace Go.Proofs.Ytchhaolgmdhnmaa
open Go.RowKit
set_option maxRecDepth 20000
abbrev OwnB13 (B : Nat) (w : World) (v : Value) (L : List Tm) : Prop := OwnL encT 45 w B v L
/-- amid parting the list: two slices of the call's own -/
structure RtAt (w : World) (p : Nat) (now : Int) (tv : Value) (L D R : List Tm) (dv rv : Value) (W : World) : Prop where
  row : RowAt W p [.int .i64 now, tv]
  own : OwnD W tv L
  dOwn : OwnB13 w.heap.size W dv D
  rOwn : OwnB13 w.heap.size W rv R
  apart : ∀ b, dv.ownBlock = some b → rv.ownBlock ≠ some b
  turn : Turn (fun b => b = p) w W
  pl : p < w.heap.size
  tl : ∀ b, tv.ownBlock = some b → b < w.heap.size
section
variable {w : World} {p : Nat} {now : Int} {tv : Value} {L D R : List Tm} {dv rv : Value} {W : World}
theorem RtAt.below {W' : World} (h : RtAt w p now tv L D R dv rv W) (hb : Below W.heap.size W W') : RtAt w p now tv L D R dv rv W' :=
  ⟨h.row.below hb, h.own.below hb, h.dOwn.below hb, h.rOwn.below hb, h.apart, h.turn.then_ hb, h.pl, h.tl⟩
theorem RtAt.due {W' : World} {dv' : Value} {D' : List Tm} (h : RtAt w p now tv L D R dv rv W) (o : Obj) (hg : (W.alloc o).grownBy W' dv.ownBlock) (hown : OwnB13 w.heap.size W' dv' D') (hv : dv'.ownBlock = dv.ownBlock ∨ dv'.ownBlock = some (W.alloc o).heap.size) : RtAt w p now tv L D' R dv' rv W' := by
  have ha := h.below ((Below.refl _ W).alloc (Nat.le_refl _) o)
  have hge : ∀ g, dv.ownBlock = some g → w.heap.size ≤ g := fun g e => (h.dOwn.ge e).1
  have hpl := h.pl
  have hsz := ha.turn.size
  refine ⟨ha.row.block (hg.block p (by omega) fun e => by have := hge p e.symm; omega) hg.size, ha.own.grown hg (fun g e q => by have := hge g q; have := h.tl g e; omega), hown, ha.rOwn.grown hg (fun g e q => h.apart g q e), fun b e q => ?_, ?_, h.pl, h.tl⟩
  · rcases hv with k | k
    · exact h.apart b (k ▸ e) q
    · rw [k] at e
      cases e
      have := (ha.rOwn.ge q).2
      omega
  · have ht := ha.turn
    exact ⟨hg.os.trans ht.os, hg.tape.trans ht.tape, hg.output.trans ht.output, Nat.le_trans ht.size hg.size, fun y hy hF => (hg.block y (Nat.lt_of_lt_of_le hy ht.size) fun e => by have := hge y e.symm; omega).trans (ht.block y hy hF)⟩
theorem RtAt.rest {W' : World} {rv' : Value} {R' : List Tm} (h : RtAt w p now tv L D R dv rv W) (o : Obj) (hg : (W.alloc o).grownBy W' rv.ownBlock) (hown : OwnB13 w.heap.size W' rv' R') (hv : rv'.ownBlock = rv.ownBlock ∨ rv'.ownBlock = some (W.alloc o).heap.size) : RtAt w p now tv L D R' dv rv' W' := by
  have ha := h.below ((Below.refl _ W).alloc (Nat.le_refl _) o)
  have hge : ∀ g, rv.ownBlock = some g → w.heap.size ≤ g := fun g e => (h.rOwn.ge e).1
  have hpl := h.pl
  have hsz := ha.turn.size
  refine ⟨ha.row.block (hg.block p (by omega) fun e => by have := hge p e.symm; omega) hg.size, ha.own.grown hg (fun g e q => by have := hge g q; have := h.tl g e; omega), ha.dOwn.grown hg (fun g e q => h.apart g e q), hown, fun b e q => ?_, ?_, h.pl, h.tl⟩
  · rcases hv with k | k
    · exact h.apart b e (k ▸ q)
    · rw [k] at q
      cases q
      have := (ha.dOwn.ge e).2
      omega
  · have ht := ha.turn
    exact ⟨hg.os.trans ht.os, hg.tape.trans ht.tape, hg.output.trans ht.output, Nat.le_trans ht.size hg.size, fun y hy hF => (hg.block y (Nat.lt_of_lt_of_le hy ht.size) fun e => by have := hge y e.symm; omega).trans (ht.block y hy hF)⟩
theorem RtAt.done (h : RtAt w p now tv L D R dv rv W) : OwnB13 w.heap.size (W.setCell ⟨p, 1, none⟩ rv) dv D ∧ RkL (W.setCell ⟨p, 1, none⟩ rv) p now R (fun k => k = p ∨ rv.ownBlock = some k) ∧
    Turn (fun k => k = p ∨ tv.ownBlock = some k) w (W.setCell ⟨p, 1, none⟩ rv) ∧ Grew (fun k => k = p ∨ tv.ownBlock = some k) (fun k => k = p ∨ rv.ownBlock = some k) w := by
  have hpl := h.pl
  have hd : ∀ b, dv.ownBlock = some b → w.heap.size ≤ b := fun b e => (h.dOwn.ge e).1
  have hr : ∀ b, rv.ownBlock = some b → w.heap.size ≤ b := fun b e => (h.rOwn.ge e).1
  have hne : rv.ownBlock ≠ some p := fun e => by have := hr p e; omega
  refine ⟨h.dOwn.same (fun b e => Below.heap_setCell _ _ _ _ (show b ≠ p from fun q => by have := hd b e; omega)), ⟨_, h.row.put 1 rv _ rfl, (h.rOwn.base (Nat.zero_le _)).same (fun b e => Below.heap_setCell _ _ _ _ (show b ≠ p from fun q => hne (q ▸ e))), hne, rfl⟩, ?_, fun k hk => ?_⟩
  · have ht := h.turn
    have h2 : Turn (fun k => k = p ∨ tv.ownBlock = some k) w W := ⟨ht.os, ht.tape, ht.output, ht.size, fun k hk hF => ht.block k hk (fun e => hF (Or.inl e))⟩
    exact h2.set (p := ⟨p, 1, none⟩) (Or.inl (Or.inl rfl)) _
  · rcases hk with rfl | e
    · exact Or.inl (Or.inl rfl)
    · exact Or.inr (hr k e)
end
theorem part_yes (q : Tm → Bool) (L : List Tm) (i : Nat) (hi : i < L.length) (h : q L[i] = true) : (L.take (i + 1)).filter q = (L.take i).filter q ++ [L[i]] ∧ (L.take (i + 1)).filter (fun t => !q t) = (L.take i).filter (fun t => !q t) := by
  rw [List.take_succ_eq_append_getElem hi, List.filter_append, List.filter_append, List.filter_cons, List.filter_cons, h]
  simp
theorem part_no (q : Tm → Bool) (L : List Tm) (i : Nat) (hi : i < L.length) (h : q L[i] = false) : (L.take (i + 1)).filter q = (L.take i).filter q ∧ (L.take (i + 1)).filter (fun t => !q t) = (L.take i).filter (fun t => !q t) ++ [L[i]] := by
  rw [List.take_succ_eq_append_getElem hi, List.filter_append, List.filter_append, List.filter_cons, List.filter_cons, h]
  simp
theorem part_len (q : Tm → Bool) (L : List Tm) (i : Nat) (hi : i ≤ 1000) : ((L.take i).filter q).length ≤ 1000 := by
  refine Nat.le_trans (List.length_filter_le _ _) ?_
  rw [List.length_take]
  omega
set_option maxHeartbeats 2000000 in
theorem rtick_any (p : Nat) (now : Int) (L : List Tm) (F : Nat → Prop) (w : World) (h : RkL w p now L F) (hl : L.length ≤ 1000) (hnow : 0 ≤ now ∧ now ≤ 10000) : Calls Try.prog 14 #[.pointer (some ⟨p, 0, none⟩)] w fun e w' =>
    ∃ v F', e = .returned v ∧ OwnB13 w.heap.size w' v (L.filter (nowT (now + 1))) ∧ RkL w' p (now + 1) (L.filter fun t => !nowT (now + 1) t) F' ∧ Turn F w w' ∧ Grew F F' w := by
  obtain ⟨tv, hr, ho, hpv, rfl⟩ := h
  obtain ⟨ad, c, rfl⟩ : ∃ a c, tv = .slice a L.length c := by
    obtain ⟨a, c, hv, -⟩ := ho.see
    exact ⟨a, c, hv⟩
  have hpl := hr.lt
  have htl : ∀ b, (Value.slice ad L.length c).ownBlock = some b → b < w.heap.size := fun b e => (ho.ge e).2
  have z1 : IntKind.i64.wrap (now + 1) = now + 1 := i64_near _ (by omega) (by omega)
  rw [IntWalk.i64_left] at z1
  obtain ⟨now1, hn1⟩ : ∃ now1, now + 1 = now1 := ⟨_, rfl⟩
  rw [hn1]
  have z2 : wrap64 (now + 1) = now1 := z1.trans hn1
  clear z1 hn1 hnow
  have c0 := hr.cell 0 rfl
  have f0 := (hr.get 0 rfl).free
  obtain ⟨w1, hw1⟩ : ∃ w1, w1 = w.setCell ⟨p, 0, none⟩ (.int .i64 now1) := ⟨_, rfl⟩
  have hsz1 : w1.heap.size = w.heap.size := by rw [hw1]; simp [World.setCell]
  have hown1 : OwnD w1 (.slice ad L.length c) L := by
    rw [hw1]
    exact ho.same (fun b e => Below.heap_setCell _ _ _ _ (show b ≠ p from fun q => hpv (q ▸ e)))
  have hrow1 : RowAt w1 p [.int .i64 now1, .slice ad L.length c] := by
    rw [hw1]
    exact hr.put 0 _ _ rfl
  have htn1 : Turn (fun b => b = p) w w1 := by
    rw [hw1]
    exact (Turn.refl (fun b => b = p) w).set (p := ⟨p, 0, none⟩) (Or.inl rfl) _
  have HK0 := Lib.hid (show RtAt w p now1 (.slice ad L.length c) L [] [] (.slice (some ⟨w1.heap.size, 0, none⟩) 0 0) (.slice (some ⟨w1.heap.size + 1, 0, none⟩) 0 0) ((w1.alloc (.cells #[] 45)).alloc (.cells #[] 45)) from by
    have o1 := OwnL.lit encT 45 w1 w.heap.size [] [] rfl (by omega) (by simp) 0 rfl
    have o2 := OwnL.lit encT 45 (w1.alloc (.cells #[] 45)) w.heap.size [] [] rfl (by simp; omega) (by simp) 0 rfl
    have hb := below_alloc2 w1 (.cells #[] 45) (.cells #[] 45)
    refine ⟨hrow1.below hb, hown1.below hb, o1.alloc _, ?_, fun b e q => ?_, htn1.then_ hb, hpl, htl⟩
    · have e : (w1.alloc (.cells #[] 45)).heap.size = w1.heap.size + 1 := by simp
      rw [e] at o2
      exact o2
    · simp only [Value.ownBlock, Option.some.injEq] at e q
      omega)
  have hw1' := Lib.hid hw1
  obtain ⟨n, hn⟩ : ∃ n, L.length = n := ⟨_, rfl⟩
  have HN := Lib.hid hn
  rw [hn] at HK0 hl
  have HD := Lib.hid (fun D R dv rv W (h : RtAt w p now1 (.slice ad L.length c) L D R dv rv W) => h.done)
  rw [hn] at HD
  have hgoal : (fun b => b = p ∨ (Value.slice ad L.length c).ownBlock = some b) = (fun b => b = p ∨ (Value.slice ad n c).ownBlock = some b) := by rw [hn]
  rw [hgoal]
  clear hgoal hr ho hpv htl hown1 hrow1 htn1 hn hsz1
  obtain ⟨q, hq⟩ : ∃ q, nowT now1 = q := ⟨_, rfl⟩
  have HQ := Lib.hid hq
  rw [hq]
  clear hq
  go_enter Try.func14, Try.ntmps14
  go_upto_region 2 with (fail)
  rw [z2]
  try rw [← hw1]
  clear hw1 c0 f0 z2
  go_wp2_with fail
  generalize (w1.alloc (.cells #[] 45)).alloc (.cells #[] 45) = w2 at *
  go_loopw [3, 4, 5] (fun d r v wx => ∃ (i : Nat) (dv rv : Value), i ≤ n ∧ v = .int .i64 i ∧ dv = d ∧ rv = r ∧ Hid (RtAt w p now1 (.slice ad n c) L ((L.take i).filter q) ((L.take i).filter fun t => !q t) dv rv wx)) (fun _ _ v _ => n - (intOf v).toNat)
  case atStart => exact ⟨0, _, _, Nat.zero_le _, rfl, rfl, rfl, HK0⟩
  case round =>
    obtain ⟨i, dv, rv, hi, rfl, rfl, rfl, HK⟩ := hrel
    clear HK0
    have c0 := HK.out.row.cell 0 rfl
    have c1 := HK.out.row.cell 1 rfl
    by_cases hlt : i < n
    · have dlt : decide ((i : Int) < (n : Int)) = true := decide_eq_true (by omega)
      have hL : i < L.length := by rw [HN.out]; exact hlt
      obtain ⟨g, c', hv, -, hg, -⟩ := HK.out.own.some_ (by omega)
      simp only [Value.slice.injEq] at hv
      obtain ⟨rfl, -, rfl⟩ := hv
      obtain ⟨x0, x1, x2⟩ := OwnL.get3 HK.out.own i hL
      have HY := Lib.hid (fun h => part_yes q L i hL h)
      have HZ := Lib.hid (fun h => part_no q L i hL h)
      have hld := part_len q L i (by omega)
      have hlr := part_len (fun t => !q t) L i (by omega)
      have hqi : q L[i] = decide (L[i].l = now1) := by rw [← HQ.out]; rfl
      generalize L[i] = y at *
      obtain ⟨yk, yn, yl⟩ := y
      simp only at hqi x0 x1 x2
      have hwz := HK.out.turn.size
      generalize (L.take i).filter q = D at *
      generalize ((L.take i).filter fun t => !q t) = R at *
      cases hb : q ⟨yk, yn, yl⟩ with
      | true =>
        have hE := Lib.hid (HY.out hb)
        have d0 : (yl == now1) = true := by
          rw [hb] at hqi
          simpa using hqi
        clear HY HZ hb hqi
        have HK2 := Lib.hid (fun m => HK.out.below (belowN (Below.refl wr.heap.size wr) m))
        clear HK
        go_upto_region 6 with (fail)
        go_quiet (fail)
        go_wp2_with (at_builtin; refine wpList_append_one encT 45 27 Try.underlying27 infoD rfl (by decide) _ rfl (.tmp 37) (.tmp 45) rfl w.heap.size dv D rfl ((HK2.out _).dOwn.alloc _) wr.heap.size 1 rfl ⟨yk, yn, yl⟩ (AtL.made encT 45 (wr.drewN _) wr.heap.size ⟨yk, yn, yl⟩ _ rfl rfl) (by omega) (by simp; omega) ?_; intro v2 w3 hown hgr hwh; have HK3 := Lib.hid ((HK2.out _).due _ hgr hown hwh); clear hown hgr hwh)
        go_roundw
        case rel => exact ⟨i + 1, v2, rv, by omega, by go_num, rfl, rfl, by rw [hE.out.1, hE.out.2]; exact HK3⟩
        case measure => simp [intOf]; omega
      | false =>
        have hE := Lib.hid (HZ.out hb)
        have d0 : (yl == now1) = false := by
          rw [hb] at hqi
          simpa using hqi
        clear HY HZ hb hqi
        have HK2 := Lib.hid (fun m => HK.out.below (belowN (Below.refl wr.heap.size wr) m))
        clear HK
        go_upto_region 6 with (fail)
        go_quiet (fail)
        go_wp2_with (at_builtin; refine wpList_append_one encT 45 27 Try.underlying27 infoD rfl (by decide) _ rfl (.tmp 47) (.tmp 55) rfl w.heap.size rv R rfl ((HK2.out _).rOwn.alloc _) wr.heap.size 1 rfl ⟨yk, yn, yl⟩ (AtL.made encT 45 (wr.drewN _) wr.heap.size ⟨yk, yn, yl⟩ _ rfl rfl) (by omega) (by simp; omega) ?_; intro v2 w3 hown hgr hwh; have HK3 := Lib.hid ((HK2.out _).rest _ hgr hown hwh); clear hown hgr hwh)
        go_roundw
        case rel => exact ⟨i + 1, dv, v2, by omega, by go_num, rfl, rfl, by rw [hE.out.1, hE.out.2]; exact HK3⟩
        case measure => simp [intOf]; omega
    · have dlt : decide ((i : Int) < (n : Int)) = false := decide_eq_false (by omega)
      have e : L.take i = L := List.take_of_length_le (by rw [HN.out]; omega)
      rw [e] at HK
      have f1 := (HK.out.row.get 1 rfl).free
      obtain ⟨ra, rn, rc, hrv⟩ := OwnL.form' HK.out.rOwn
      subst hrv
      have HE := Lib.hid (HD.out _ _ _ _ _ HK.out)
      clear e HK
      go_wp2_with fail
      exact bodyPost_ret (v := dv) (by simp [results, Try.results14, go_sem]) rfl ⟨dv, _, rfl, HE.out⟩
theorem cnt_sub (q : Tm → Bool) (L : List Tm) : ((cntT q L : Nat) : Int) = (L.length : Int) - ((L.filter fun t => !q t).length : Nat) := by
  unfold cntT
  induction L with
  | nil => rfl
  | cons t L ih =>
    rw [List.filter_cons, List.filter_cons]
    cases q t <;> simp <;> omega
set_option maxHeartbeats 2000000 in
theorem ronly_any (num : Int) (p : Nat) (now : Int) (L : List Tm) (F : Nat → Prop) (w : World) (h : RkL w p now L F) (hl : L.length ≤ 1000) : Calls Try.prog 16 #[.pointer (some ⟨p, 0, none⟩), .int .i64 num] w fun e w' =>
    ∃ F', e = .returned (.int .i64 (cntT (numT num) L : Nat)) ∧ RkL w' p now (onlyT num L) F' ∧ Turn F w w' ∧ Grew F F' w := by
  obtain ⟨tv, hr, ho, hpv, rfl⟩ := h
  obtain ⟨ad, c, rfl⟩ : ∃ a c, tv = .slice a L.length c := by
    obtain ⟨a, c, hv, -⟩ := ho.see
    exact ⟨a, c, hv⟩
  have hpl := hr.lt
  have htl : ∀ b, (Value.slice ad L.length c).ownBlock = some b → b < w.heap.size := fun b e => (ho.ge e).2
  have HK0 := Lib.hid (show RtAt w p now (.slice ad L.length c) L [] [] (.slice none 0 0) (.slice (some ⟨w.heap.size, 0, none⟩) 0 0) (w.alloc (.cells #[] 45)) from
    ⟨hr.alloc _, ho.alloc _, OwnL.nil _ _ _ _, OwnL.lit encT 45 w w.heap.size [] [] rfl (by omega) (by simp) 0 rfl, (fun b e => by cases e), (Turn.refl _ _).alloc _, hpl, htl⟩)
  obtain ⟨n, hn⟩ : ∃ n, L.length = n := ⟨_, rfl⟩
  have HN := Lib.hid hn
  have hcs := cnt_sub (numT num) L
  rw [hn] at HK0 hl hcs
  have hrl : (L.filter fun t => !numT num t).length ≤ n := by rw [← hn]; exact List.length_filter_le _ _
  have HD := Lib.hid (fun R rv W (h : RtAt w p now (.slice ad L.length c) L [] R (.slice none 0 0) rv W) => h.done)
  rw [hn] at HD
  have hgoal : (fun b => b = p ∨ (Value.slice ad L.length c).ownBlock = some b) = (fun b => b = p ∨ (Value.slice ad n c).ownBlock = some b) := by rw [hn]
  rw [hgoal]
  have hoz : onlyT num L = L.filter fun t => !numT num t := rfl
  rw [hoz]
  obtain ⟨m, hm⟩ : ∃ m, (L.filter fun t => !numT num t).length = m := ⟨_, rfl⟩
  rw [hm] at hcs hrl
  have HCS := Lib.hid hcs
  have HM := Lib.hid hm
  clear hgoal hr ho hpv htl hn hoz hm hcs
  obtain ⟨q, hq⟩ : ∃ q, numT num = q := ⟨_, rfl⟩
  have HQ := Lib.hid hq
  rw [hq] at HM HCS ⊢
  clear hq
  go_enter Try.func16, Try.ntmps16
  go_wp2_with fail
  obtain ⟨w2, hw2⟩ : ∃ w2, w.alloc (.cells #[] 45) = w2 := ⟨_, rfl⟩
  rw [hw2] at HK0 ⊢
  clear hw2
  go_loopw [5, 6] (fun r v wx => ∃ (i : Nat) (rv : Value), i ≤ n ∧ v = .int .i64 i ∧ rv = r ∧ Hid (RtAt w p now (.slice ad n c) L [] ((L.take i).filter fun t => !q t) (.slice none 0 0) rv wx)) (fun _ v _ => n - (intOf v).toNat)
  case atStart => exact ⟨0, _, Nat.zero_le _, rfl, rfl, HK0⟩
  case round =>
    obtain ⟨i, rv, hi, rfl, rfl, HK⟩ := hrel
    clear HK0
    have c1 := HK.out.row.cell 1 rfl
    by_cases hlt : i < n
    · have dlt : decide ((i : Int) < (n : Int)) = true := decide_eq_true (by omega)
      have hL : i < L.length := by rw [HN.out]; exact hlt
      obtain ⟨g, c', hv, -, hg, -⟩ := HK.out.own.some_ (by omega)
      simp only [Value.slice.injEq] at hv
      obtain ⟨rfl, -, rfl⟩ := hv
      obtain ⟨x0, x1, x2⟩ := OwnL.get3 HK.out.own i hL
      have HY := Lib.hid (fun h => (part_yes q L i hL h).2)
      have HZ := Lib.hid (fun h => (part_no q L i hL h).2)
      have hlr := part_len (fun t => !q t) L i (by omega)
      have hqi : q L[i] = decide (L[i].n = num) := by rw [← HQ.out]; rfl
      generalize L[i] = y at *
      obtain ⟨yk, yn, yl⟩ := y
      simp only at hqi x0 x1 x2
      have hwz := HK.out.turn.size
      generalize ((L.take i).filter fun t => !q t) = R at *
      cases hb : q ⟨yk, yn, yl⟩ with
      | true =>
        have hE := Lib.hid (HY.out hb)
        have d0 : (yn != num) = false := by
          rw [hb] at hqi
          simpa using hqi
        clear HY HZ hb hqi
        go_wp2_with fail
        go_roundw
        case rel => exact ⟨i + 1, rv, by omega, by go_num, rfl, by rw [hE.out]; exact HK⟩
        case measure => simp [intOf]; omega
      | false =>
        have hE := Lib.hid (HZ.out hb)
        have d0 : (yn != num) = true := by
          rw [hb] at hqi
          simpa using hqi
        clear HY HZ hb hqi
        go_wp2_with (at_builtin; refine wpList_append_one encT 45 27 Try.underlying27 infoD rfl (by decide) _ rfl (.tmp 28) (.tmp 36) rfl w.heap.size rv R rfl (HK.out.rOwn.alloc _) wr.heap.size 1 rfl ⟨yk, yn, yl⟩ (AtL.made encT 45 wr wr.heap.size ⟨yk, yn, yl⟩ _ rfl rfl) (by omega) (by simp; omega) ?_; intro v2 w3 hown hgr hwh; have HK3 := Lib.hid (HK.out.rest _ hgr hown hwh); clear hown hgr hwh)
        go_roundw
        case rel => exact ⟨i + 1, v2, by omega, by go_num, rfl, by rw [hE.out]; exact HK3⟩
        case measure => simp [intOf]; omega
    · have dlt : decide ((i : Int) < (n : Int)) = false := decide_eq_false (by omega)
      have e : L.take i = L := List.take_of_length_le (by rw [HN.out]; omega)
      rw [e] at HK
      have f1 := (HK.out.row.get 1 rfl).free
      obtain ⟨ra, rc, hrv⟩ : ∃ a c, rv = .slice a (L.filter fun t => !q t).length c := by
        obtain ⟨a, c, hv, -⟩ := HK.out.rOwn.see
        exact ⟨a, c, hv⟩
      subst hrv
      rw [HM.out] at HK ⊢
      have HE := Lib.hid (HD.out _ _ _ HK.out)
      clear e HK
      go_wp2_with fail
      exact bodyPost_ret (v := .int .i64 ((n : Int) - (m : Int))) (by simp [results, Try.results16, go_sem]) rfl ⟨_, by rw [HCS.out], HE.out.2⟩
end Go.Proofs.Ytchhaolgmdhnmaa
