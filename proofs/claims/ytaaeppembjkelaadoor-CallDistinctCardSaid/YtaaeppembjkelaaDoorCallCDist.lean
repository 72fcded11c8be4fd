/-
The landed code's Distinct of calls: a set of calls that the call makes.
-/
import Derived.Test.YtaaeppembjkelaaDoorCallCParse
import Derived.Test.YtaaeppembjkelaaDoorCallOpens
import Derived.Maps.OwnSet
import Derived.MapViews
import Derived.DeepKeys4
namespace Go.Proofs.YtaaeppembjkelaaDoor
open Go.RowKit Go.Sort Go.Maps Go.WideMaps
set_option maxRecDepth 100000
theorem rowCall : (23 : TypeId) < Tryd.prog.types.size := of_decide_eq_true (by kernel_rfl)
theorem deepCall : Tryd.prog.keyTypeAt (Tryd.prog.types.size + 1) 23 = true := by kernel_rfl
theorem wideCall : (match Tryd.prog.underlying 23 with | some (.array _ _) | some (.struct _) => true | _ => false) = true := by kernel_rfl
theorem keyedCall : Keyed Tryd.prog 23 := Keyed.of_law (deep_law_laid Tryd.laidOut (m := 3) (by omega) rowCall (by kernel_rfl) wideCall)
theorem formedCall (b : ByteArray) (n : Int) : (Value.agg #[.string b, .int .i64 n]).formed Tryd.prog 23 = true := by
  simp [Value.formed, Tryd.underlying23, Tryd.cellsCall]
/-- what a call reads as, as a key -/
def keyD (c : ByteArray × Int) : Lit := (DataW.agg (H := Unit) [.lit (.string c.1.data.toList), .lit (.int .i64 c.2)]).asKey
theorem key_call (c : ByteArray × Int) (h : rightD c.1 c.2 = true) : keyOf Tryd.prog 23 (.agg #[.string c.1, .int .i64 c.2]) = some (keyD c) := by
  obtain ⟨_, h2, h3, h4, _⟩ := right_facts _ _ h
  have hs : c.1.size ≤ maxLen := by unfold maxLen; omega
  have hw : (Lit.int .i64 c.2).wf = true := WalkArith.wf_i64 (by omega)
  have t := Joins.shut_agg2 (H := Unit) (enc := fun _ => ()) (w := World.memory (World.settled Tryd.prog default)) (base := 0) (spare := fun _ => true) (held := true) Tryd.underlying23 (by kernel_rfl) Tryd.cellsCall (v0 := .string c.1) (v1 := .int .i64 c.2) (y0 := (.lit (.string c.1.data.toList), [])) (y1 := (.lit (.int .i64 c.2), []))
    ⟨1, by simp [DataW.trod, Tryd.underlying9, hs]⟩ ⟨1, by simp [DataW.trod, Tryd.underlying3, hw]⟩
  exact (keyOf_asKey deepCall wideCall (formedCall _ _) t).1
theorem key_inj (c d : ByteArray × Int) (hc : rightD c.1 c.2 = true) (hd : rightD d.1 d.2 = true) (h : keyD c = keyD d) : c = d := by
  have k := keyedCall.inj (key_call c hc) (h ▸ key_call d hd)
  simp only [Value.agg.injEq, Array.mk.injEq, List.cons.injEq, Value.string.injEq, Value.int.injEq, and_true, true_and] at k
  exact Prod.ext k.1 k.2
theorem key_lit (c : ByteArray × Int) (h : rightD c.1 c.2 = true) : WideAt.IsKeyLit (keyD c) := keyedCall.key (key_call c h)
theorem any_eq_in {α : Type} {p q : α → Bool} : ∀ {l : List α}, (∀ x ∈ l, p x = q x) → l.any p = l.any q
  | [], _ => rfl
  | x :: l, h => by rw [List.any_cons, List.any_cons, h x List.mem_cons_self, any_eq_in fun y hy => h y (List.mem_cons_of_mem _ hy)]
/-- the set of the first k -/
def seenD (C : List (ByteArray × Int)) (k : Nat) : DataW Unit := setOf (.agg []) ((C.take k).map keyD)
theorem seen_next (C : List (ByteArray × Int)) (k : Nat) (h : k < C.length) : seenD C (k + 1) = (seenD C k).put (keyD C[k]) (.agg []) := by
  unfold seenD
  rw [List.take_succ_eq_append_getElem h, List.map_append, List.map_singleton, setOf_snoc]
theorem key_lits (C : List (ByteArray × Int)) (h : ∀ c ∈ C, rightD c.1 c.2 = true) : ∀ x ∈ C.map keyD, WideAt.IsKeyLit x := fun x hx => by
  obtain ⟨c, hc, rfl⟩ := List.mem_map.1 hx
  exact key_lit c (h c hc)
theorem seen_has (C : List (ByteArray × Int)) (c : ByteArray × Int) (k : Nat) (h : ∀ d ∈ C.take k, rightD d.1 d.2 = true) (hc : rightD c.1 c.2 = true) : Maps.has (seenD C k) (keyD c) = !apartD C c k := by
  unfold seenD apartD
  rw [has_setOf _ _ _ (key_lits _ h), List.any_map, List.not_all_eq_any_not]
  apply any_eq_in
  intro d hd
  show (keyD d).sameKey (keyD c) = !decide (c ≠ d)
  by_cases e : c = d
  · subst e
    rw [WideAt.sameKey_self (key_lit c hc)]
    simp
  · have hne : keyD d ≠ keyD c := fun q => e (key_inj d c (h d hd) hc q).symm
    rw [Maps.sameKey_ne hne]
    simp [e]
theorem seen_size (C : List (ByteArray × Int)) (k : Nat) (hk : k ≤ C.length) (h : ∀ d ∈ C.take k, rightD d.1 d.2 = true) : Maps.size (seenD C k) ≤ k ∧ (Maps.size (seenD C k) = k ↔ wantD C k = true) := by
  induction k with
  | zero => exact ⟨Nat.le_refl _, by simp [wantD, seenD, setOf, size_eq]⟩
  | succ k ih =>
    have hlt : k < C.length := by omega
    have hsub : ∀ d ∈ C.take k, rightD d.1 d.2 = true := fun d hd => h d (by rw [List.take_succ_eq_append_getElem hlt]; exact List.mem_append_left _ hd)
    have hc : rightD C[k].1 C[k].2 = true := h C[k] (by rw [List.take_succ_eq_append_getElem hlt]; exact List.mem_append_right _ (List.mem_singleton.2 rfl))
    obtain ⟨i1, i2⟩ := ih (by omega) hsub
    have ht : Tidy (seenD C k) := tidy_setOf _ _ (key_lits _ hsub)
    rw [seen_next C k hlt, size_put ht, seen_has C C[k] k hsub hc, wantD_next C k hlt, hc]
    cases ha : apartD C C[k] k
    · simp
      omega
    · simp
      constructor
      · omega
      · rw [← i2]
theorem cdist_empty (a : Option Addr) (cap : Nat) (w : World) :
    Calls Tryd.prog 20 #[.slice a 0 cap] w fun e w' => e = .returned (.bool true) ∧ Below w.heap.size w w' := by
  have hmm := @run_makeMap Tryd.prog
  go_enter Tryd.func20, Tryd.ntmps20
  go_wp2
  refine wp_loop_rounds 1 ?_
  rw [rounds_succ]
  go_wp2_with (first
    | (at_len; refine wpList_len_own _ rfl _ 60 rfl 23 61 Tryd.underlying60 (unitElem (H := Unit)) w.heap.size 0 (.map []) rfl (World.ownsMap_made _ _ _ _) ?_)
    | go_in)
  go_ret
  exact ⟨rfl, (Below.refl _ _).alloc (Nat.le_refl _) _⟩
/-- what lies in memory behind k rounds -/
def SeenAt (w W : World) (lb off : Nat) (C : List (ByteArray × Int)) (k : Nat) : Prop := W.ownsMap Tryd.prog 23 (unitElem (H := Unit)) w.heap.size k (seenD C k) ∧ SAt W lb off C ∧ Below w.heap.size w W ∧ (∀ d ∈ C.take k, rightD d.1 d.2 = true) ∧ w.heap.size < W.heap.size
theorem SeenAt.below {w W W' : World} {lb off : Nat} {C : List (ByteArray × Int)} {k : Nat} (h : SeenAt w W lb off C k) (hlb : lb < w.heap.size) (hb : Below W.heap.size W W') : SeenAt w W' lb off C k := by
  obtain ⟨⟨es, cl, h1, h2⟩, hs, hw, ha, hz⟩ := h
  exact ⟨⟨es, cl, (hb.block _ hz).trans h1, h2⟩, hs.below (Nat.lt_of_lt_of_le hlb hw.size) hb, hw.trans (hb.mono hw.size), ha, Nat.lt_of_lt_of_le hz hb.size⟩
theorem SeenAt.next {w W W' : World} {lb off : Nat} {C : List (ByteArray × Int)} {k : Nat} (h : SeenAt w W lb off C k) (hlb : lb < w.heap.size) (hk : k < C.length) (hr : rightD C[k].1 C[k].2 = true)
    (ho : W'.ownsMap Tryd.prog 23 (unitElem (H := Unit)) w.heap.size (k + 1) ((seenD C k).put (keyD C[k]) (.agg []))) (hg : W.grownBy W' (some w.heap.size)) : SeenAt w W' lb off C (k + 1) := by
  obtain ⟨_, hs, hw, ha, hz⟩ := h
  have hl2 : lb < W.heap.size := Nat.lt_of_lt_of_le hlb hw.size
  have q : ∀ i, W'.cell? ⟨lb, i, none⟩ = W.cell? ⟨lb, i, none⟩ := fun i => by
    unfold World.cell?
    rw [hg.block lb hl2 (fun e => by have := Option.some.inj e; omega)]
  refine ⟨by rw [seen_next C k hk]; exact ho, fun j hj => ⟨(q _).trans (hs j hj).1, (q _).trans (hs j hj).2⟩, hw.grown hg hw.size (fun j hj => by cases hj; exact Nat.le_refl _), fun d hd => ?_, Nat.lt_of_lt_of_le hz hg.size⟩
  rw [List.take_succ_eq_append_getElem hk] at hd
  rcases List.mem_append.1 hd with hd | hd
  · exact ha d hd
  · rw [List.mem_singleton.1 hd]; exact hr
theorem want_false (C : List (ByteArray × Int)) (j : Nat) (h : wantD C j = false) : ∀ m, wantD C (j + m) = false
  | 0 => h
  | m + 1 => by
    show (wantD C (j + m) && _) = false
    rw [want_false C j h m]
    rfl
set_option maxHeartbeats 2000000 in
theorem cdist_some' (C : List (ByteArray × Int)) (lb off cap : Nat) (w : World) (h60 : C.length ≤ 60) (h100 : ∀ c ∈ C, c.1.size ≤ 100) (hlb : lb < w.heap.size) (hS : SAt w lb off C) :
    Calls Tryd.prog 20 #[.slice (some ⟨lb, off, none⟩) C.length cap] w fun e w' => e = .returned (.bool (wantD C C.length)) ∧ Below w.heap.size w w' := by
  have hmm := @run_makeMap Tryd.prog
  have HR := Lib.hid (fun (c : ByteArray × Int) (hc : c ∈ C) W => cright_ok c.1 c.2 W (by have := h100 c hc; omega))
  have H0 := Lib.hid (show SeenAt w (w.alloc (.map #[] 0)) lb off C 0 from ⟨World.ownsMap_made _ _ _ _, hS.below hlb ((Below.refl _ _).alloc (Nat.le_refl _) _), (Below.refl _ _).alloc (Nat.le_refl _) _, (by simp : ∀ d ∈ C.take 0, rightD d.1 d.2 = true), by simp⟩)
  have HLB := Lib.hid hlb
  obtain ⟨R, hR⟩ : ∃ R, R = wantD C C.length := ⟨_, rfl⟩
  rw [← hR]
  have HRR := Lib.hid hR
  clear hS h100 hlb hR
  go_enter Tryd.func20, Tryd.ntmps20
  go_wp2
  go_loopw [9] (fun i wx => ∃ k : Nat, k ≤ C.length ∧ i = .int .i64 k ∧ Hid (SeenAt w wx lb off C k)) (fun i _ => C.length - (intOf i).toNat)
  case atStart => exact ⟨0, Nat.zero_le _, rfl, H0.out⟩
  case round =>
    obtain ⟨k, hk, rfl, HK⟩ := hrel
    clear H0
    by_cases hlt : k < C.length
    · have dk : decide ((k : Int) < (C.length : Int)) = true := decide_eq_true (by omega)
      obtain ⟨hc0, hc1⟩ := HK.out.2.1 k hlt
      have hmem : C[k] ∈ C := List.getElem_mem hlt
      have HRc := Lib.hid (fun W => HR.out C[k] hmem W)
      have hwant := wantD_next C k hlt
      have HM := Lib.hid (HK.out.below HLB.out ((Below.refl _ wr).alloc (Nat.le_refl _) (.cells #[.string C[k].1, .int .i64 C[k].2] 23)))
      cases hr : rightD C[k].1 C[k].2
      · rw [hr] at HRc hwant
        have hf : R = false := by
          rw [HRR.out, show C.length = (k + 1) + (C.length - (k + 1)) by omega]
          exact want_false C (k + 1) (by rw [hwant]; simp) _
        subst hf
        clear hwant hr hmem HR HRR HK
        generalize C[k] = c at *
        obtain ⟨cb, cn⟩ := c
        simp only at hc0 hc1 HRc HM
        go_wp2_with (first
          | (go_at_call 9; (with_reducible refine (HRc.out _).mono ?_); rintro e w1 ⟨rfl, hb⟩; replace HM := Lib.hid (HM.out.below HLB.out hb); clear hb))
        go_ret
        exact ⟨rfl, HM.out.2.2.1⟩
      · rw [hr] at HRc
        have hkey := key_call C[k] hr
        have HNX := Lib.hid (fun (W W' : World) (h : SeenAt w W lb off C k) => h.next (W' := W') HLB.out hlt hr)
        clear hwant hr hmem HK
        generalize C[k] = c at *
        obtain ⟨cb, cn⟩ := c
        simp only at hc0 hc1 HRc HM hkey
        go_wp2_with (first
          | (go_at_call 9; (with_reducible refine (HRc.out _).mono ?_); rintro e w1 ⟨rfl, hb⟩; replace HM := Lib.hid (HM.out.below HLB.out hb); have x0 := (hb.cell (p := ⟨wr.heap.size, 0, none⟩) (by simp)).trans (World.cell?_alloc_at _ _ _ _ rfl); have x1 := (hb.cell (p := ⟨wr.heap.size, 1, none⟩) (by simp)).trans (World.cell?_alloc_at _ _ _ _ rfl); clear hb)
          | (at_mapUpdate; refine wpList_mapUpdate_own _ rfl _ _ _ 60 rfl 23 61 keyedCall Tryd.underlying60 (unitElem (H := Unit)) w.heap.size k _ rfl HM.out.1 (by unfold maxLen; omega) _ _ _ rfl rfl hkey _ [] unitElem_mk ?_; intro w2 hown2 hgrow2; have HN := Lib.hid (HNX.out _ _ HM.out hown2 hgrow2); clear hown2 hgrow2))
        go_roundw
        case rel => exact ⟨k + 1, by omega, by go_num, HN.out⟩
        case measure => simp [intOf]; omega
    · obtain rfl : k = C.length := by omega
      have dk : decide ((C.length : Int) < (C.length : Int)) = false := decide_eq_false (by omega)
      have hall := HK.out.2.2.2.1
      obtain ⟨k1, k2⟩ := seen_size C C.length (Nat.le_refl _) hall
      have hown := HK.out.1
      have HW := Lib.hid HK.out.2.2.1
      have he : (((Maps.size (seenD C C.length) : Nat) : Int) == ((C.length : Nat) : Int)) = R := by
        rw [HRR.out]
        by_cases q : Maps.size (seenD C C.length) = C.length
        · rw [q, k2.1 q]; exact beq_self_eq_true _
        · have e2 : wantD C C.length = false := by
            cases hx : wantD C C.length
            · rfl
            · exact absurd (k2.2 hx) q
          rw [e2, beq_eq_false_iff_ne]
          omega
      clear hall k1 k2 HK HR HRR
      generalize seenD C C.length = D at *
      go_wp2_with (first
        | (at_len; refine wpList_len_own _ rfl _ 60 rfl 23 61 Tryd.underlying60 _ w.heap.size C.length _ rfl hown ?_)
        | go_in)
      go_ret
      exact ⟨rfl, HW.out⟩
theorem cdist_ok : CDistinctOk := fun C a lb off cap w h60 h100 ha hS => by
  by_cases h0 : C.length = 0
  · have e : C = [] := List.length_eq_zero_iff.1 h0
    subst e
    exact cdist_empty a cap w
  · obtain ⟨rfl, hlb⟩ := ha (by omega)
    exact cdist_some' C lb off cap w h60 h100 hlb hS
end Go.Proofs.YtaaeppembjkelaaDoor
