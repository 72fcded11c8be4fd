/-
The landed code's Distinct of calls: a set of calls that the call makes.
The landed digipeater's New; all that it has to answer.
-/
import Derived.Test.YtikabflmgckdnaaDoorMix37
import Derived.Maps.OwnSet
import Derived.MapViews
import Derived.DeepKeys4
namespace Go.Proofs.YtikabflmgckdnaaDoor
open Go.RowKit Go.Sort Go.Maps Go.WideMaps
set_option maxRecDepth 100000
theorem rowCall : (23 : TypeId) < Tryd.prog.types.size := of_decide_eq_true (by kernel_rfl)
theorem deepCall : Tryd.prog.keyTypeAt (Tryd.prog.types.size + 1) 23 = true := by kernel_rfl
theorem wideCall : (match Tryd.prog.underlying 23 with | some (.array _ _) | some (.struct _) => true | _ => false) = true := by kernel_rfl
theorem keyedCall : Keyed Tryd.prog 23 := Keyed.of_law (deep_law_laid (show laidOutB Tryd.prog = true from by kernel_rfl) (m := 3) (by omega) rowCall (by kernel_rfl) wideCall)
theorem formedCall (b : ByteArray) (n : Int) : (Value.agg #[.string b, .int .i64 n]).formed Tryd.prog 23 = true := by
  simp [Value.formed, Tryd.underlying23, (show Tryd.prog.cellsOf 23 = 2 from by kernel_rfl)]
/-- what a call reads as, as a key -/
def keyD (c : ByteArray × Int) : Lit := (DataW.agg (H := Unit) [.lit (.string c.1.data.toList), .lit (.int .i64 c.2)]).asKey
theorem key_call (c : ByteArray × Int) (h : rightD c.1 c.2 = true) : keyOf Tryd.prog 23 (.agg #[.string c.1, .int .i64 c.2]) = some (keyD c) := by
  obtain ⟨_, h2, h3, h4, _⟩ := right_facts _ _ h
  have hs : c.1.size ≤ maxLen := by unfold maxLen; omega
  have hw : (Lit.int .i64 c.2).wf = true := WalkArith.wf_i64 (by omega)
  have t := Joins.shut_agg2 (H := Unit) (enc := fun _ => ()) (w := World.memory (World.settled Tryd.prog default)) (base := 0) (spare := fun _ => true) (held := true) Tryd.underlying23 (by kernel_rfl) (show Tryd.prog.cellsOf 23 = 2 from by kernel_rfl) (v0 := .string c.1) (v1 := .int .i64 c.2) (y0 := (.lit (.string c.1.data.toList), [])) (y1 := (.lit (.int .i64 c.2), []))
    ⟨1, by simp [DataW.trod, Tryd.underlying9, hs]⟩ ⟨1, by simp [DataW.trod, Tryd.underlying3, hw]⟩
  exact (keyOf_asKey deepCall wideCall (formedCall _ _) t).1
theorem key_inj (c d : ByteArray × Int) (hc : rightD c.1 c.2 = true) (hd : rightD d.1 d.2 = true) (h : keyD c = keyD d) : c = d := by
  have k := keyedCall.inj (key_call c hc) (h ▸ key_call d hd)
  simp only [Value.agg.injEq, Array.mk.injEq, List.cons.injEq, Value.string.injEq, Value.int.injEq, and_true, true_and] at k
  exact Prod.ext k.1 k.2
theorem key_lit (c : ByteArray × Int) (h : rightD c.1 c.2 = true) : WideAt.IsKeyLit (keyD c) := keyedCall.key (key_call c h)
theorem any_eq_in {α : Type} {p q : α → Bool} : ∀ {l : List α}, (∀ x ∈ l, p x = q x) → l.any p = l.any q
  | [], _ => rfl
  | x :: l, h => by rw [List.any_cons, List.any_cons, h x List.mem_cons_self, any_eq_in fun y hy => h y (List.mem_cons_of_mem _ hy)]
/-- the set of the first k -/
def seenD (C : List (ByteArray × Int)) (k : Nat) : DataW Unit := setOf (.agg []) ((C.take k).map keyD)
theorem seen_next (C : List (ByteArray × Int)) (k : Nat) (h : k < C.length) : seenD C (k + 1) = (seenD C k).put (keyD C[k]) (.agg []) := by
  unfold seenD
  rw [List.take_succ_eq_append_getElem h, List.map_append, List.map_singleton, setOf_snoc]
theorem key_lits (C : List (ByteArray × Int)) (h : ∀ c ∈ C, rightD c.1 c.2 = true) : ∀ x ∈ C.map keyD, WideAt.IsKeyLit x := fun x hx => by
  obtain ⟨c, hc, rfl⟩ := List.mem_map.1 hx
  exact key_lit c (h c hc)
theorem seen_has (C : List (ByteArray × Int)) (c : ByteArray × Int) (k : Nat) (h : ∀ d ∈ C.take k, rightD d.1 d.2 = true) (hc : rightD c.1 c.2 = true) : Maps.has (seenD C k) (keyD c) = !apartD C c k := by
  unfold seenD apartD
  rw [has_setOf _ _ _ (key_lits _ h), List.any_map, List.not_all_eq_any_not]
  apply any_eq_in
  intro d hd
  show (keyD d).sameKey (keyD c) = !decide (c ≠ d)
  by_cases e : c = d
  · subst e
    rw [WideAt.sameKey_self (key_lit c hc)]
    simp
  · have hne : keyD d ≠ keyD c := fun q => e (key_inj d c (h d hd) hc q).symm
    rw [Maps.sameKey_ne hne]
    simp [e]
theorem seen_size (C : List (ByteArray × Int)) (k : Nat) (hk : k ≤ C.length) (h : ∀ d ∈ C.take k, rightD d.1 d.2 = true) : Maps.size (seenD C k) ≤ k ∧ (Maps.size (seenD C k) = k ↔ wantD C k = true) := by
  induction k with
  | zero => exact ⟨Nat.le_refl _, by simp [wantD, seenD, setOf, size_eq]⟩
  | succ k ih =>
    have hlt : k < C.length := by omega
    have hsub : ∀ d ∈ C.take k, rightD d.1 d.2 = true := fun d hd => h d (by rw [List.take_succ_eq_append_getElem hlt]; exact List.mem_append_left _ hd)
    have hc : rightD C[k].1 C[k].2 = true := h C[k] (by rw [List.take_succ_eq_append_getElem hlt]; exact List.mem_append_right _ (List.mem_singleton.2 rfl))
    obtain ⟨i1, i2⟩ := ih (by omega) hsub
    have ht : Tidy (seenD C k) := tidy_setOf _ _ (key_lits _ hsub)
    rw [seen_next C k hlt, size_put ht, seen_has C C[k] k hsub hc, wantD_next C k hlt, hc]
    cases ha : apartD C C[k] k
    · simp
      omega
    · simp
      constructor
      · omega
      · rw [← i2]
theorem cdist_empty (a : Option Addr) (cap : Nat) (w : World) :
    Calls Tryd.prog 22 #[.slice a 0 cap] w fun e w' => e = .returned (.bool true) ∧ Below w.heap.size w w' := by
  have hmm := @run_makeMap Tryd.prog
  go_enter Tryd.func22, Tryd.ntmps22
  go_wp2
  refine wp_loop_rounds 1 ?_
  rw [rounds_succ]
  go_wp2_with (first
    | (at_len; refine wpList_len_own _ rfl _ 98 rfl 23 99 Tryd.underlying98 (unitElem (H := Unit)) w.heap.size 0 (.map []) rfl (World.ownsMap_made _ _ _ _) ?_)
    | go_in)
  go_ret
  exact ⟨rfl, (Below.refl _ _).alloc (Nat.le_refl _) _⟩
/-- what lies in memory behind k rounds -/
def SeenAt (w W : World) (lb off : Nat) (C : List (ByteArray × Int)) (k : Nat) : Prop := W.ownsMap Tryd.prog 23 (unitElem (H := Unit)) w.heap.size k (seenD C k) ∧ SAt W lb off C ∧ Below w.heap.size w W ∧ (∀ d ∈ C.take k, rightD d.1 d.2 = true) ∧ w.heap.size < W.heap.size
theorem SeenAt.below {w W W' : World} {lb off : Nat} {C : List (ByteArray × Int)} {k : Nat} (h : SeenAt w W lb off C k) (hlb : lb < w.heap.size) (hb : Below W.heap.size W W') : SeenAt w W' lb off C k := by
  obtain ⟨⟨es, cl, h1, h2⟩, hs, hw, ha, hz⟩ := h
  exact ⟨⟨es, cl, (hb.block _ hz).trans h1, h2⟩, hs.below (Nat.lt_of_lt_of_le hlb hw.size) hb, hw.trans (hb.mono hw.size), ha, Nat.lt_of_lt_of_le hz hb.size⟩
theorem SeenAt.next {w W W' : World} {lb off : Nat} {C : List (ByteArray × Int)} {k : Nat} (h : SeenAt w W lb off C k) (hlb : lb < w.heap.size) (hk : k < C.length) (hr : rightD C[k].1 C[k].2 = true)
    (ho : W'.ownsMap Tryd.prog 23 (unitElem (H := Unit)) w.heap.size (k + 1) ((seenD C k).put (keyD C[k]) (.agg []))) (hg : W.grownBy W' (some w.heap.size)) : SeenAt w W' lb off C (k + 1) := by
  obtain ⟨_, hs, hw, ha, hz⟩ := h
  have hl2 : lb < W.heap.size := Nat.lt_of_lt_of_le hlb hw.size
  have q : ∀ i, W'.cell? ⟨lb, i, none⟩ = W.cell? ⟨lb, i, none⟩ := fun i => by
    unfold World.cell?
    rw [hg.block lb hl2 (fun e => by have := Option.some.inj e; omega)]
  refine ⟨by rw [seen_next C k hk]; exact ho, fun j hj => ⟨(q _).trans (hs j hj).1, (q _).trans (hs j hj).2⟩, hw.grown hg hw.size (fun j hj => by cases hj; exact Nat.le_refl _), fun d hd => ?_, Nat.lt_of_lt_of_le hz hg.size⟩
  rw [List.take_succ_eq_append_getElem hk] at hd
  rcases List.mem_append.1 hd with hd | hd
  · exact ha d hd
  · rw [List.mem_singleton.1 hd]; exact hr
theorem want_false (C : List (ByteArray × Int)) (j : Nat) (h : wantD C j = false) : ∀ m, wantD C (j + m) = false
  | 0 => h
  | m + 1 => by
    show (wantD C (j + m) && _) = false
    rw [want_false C j h m]
    rfl
set_option maxHeartbeats 2000000 in
theorem cdist_some' (C : List (ByteArray × Int)) (lb off cap : Nat) (w : World) (h60 : C.length ≤ 60) (hlb : lb < w.heap.size) (hS : SAt w lb off C) :
    Calls Tryd.prog 22 #[.slice (some ⟨lb, off, none⟩) C.length cap] w fun e w' => e = .returned (.bool (wantD C C.length)) ∧ Below w.heap.size w w' := by
  have hmm := @run_makeMap Tryd.prog
  have HR := Lib.hid (fun (c : ByteArray × Int) (_ : c ∈ C) W => cright_any c.1 c.2 W)
  have H0 := Lib.hid (show SeenAt w (w.alloc (.map #[] 0)) lb off C 0 from ⟨World.ownsMap_made _ _ _ _, hS.below hlb ((Below.refl _ _).alloc (Nat.le_refl _) _), (Below.refl _ _).alloc (Nat.le_refl _) _, (by simp : ∀ d ∈ C.take 0, rightD d.1 d.2 = true), by simp⟩)
  have HLB := Lib.hid hlb
  obtain ⟨R, hR⟩ : ∃ R, R = wantD C C.length := ⟨_, rfl⟩
  rw [← hR]
  have HRR := Lib.hid hR
  clear hS hlb hR
  go_enter Tryd.func22, Tryd.ntmps22
  go_wp2
  go_loopw [9] (fun i wx => ∃ k : Nat, k ≤ C.length ∧ i = .int .i64 k ∧ Hid (SeenAt w wx lb off C k)) (fun i _ => C.length - (intOf i).toNat)
  case atStart => exact ⟨0, Nat.zero_le _, rfl, H0.out⟩
  case round =>
    obtain ⟨k, hk, rfl, HK⟩ := hrel
    clear H0
    by_cases hlt : k < C.length
    · have dk : decide ((k : Int) < (C.length : Int)) = true := decide_eq_true (by omega)
      obtain ⟨hc0, hc1⟩ := HK.out.2.1 k hlt
      have hmem : C[k] ∈ C := List.getElem_mem hlt
      have HRc := Lib.hid (fun W => HR.out C[k] hmem W)
      have hwant := wantD_next C k hlt
      have HM := Lib.hid (HK.out.below HLB.out ((Below.refl _ wr).alloc (Nat.le_refl _) (.cells #[.string C[k].1, .int .i64 C[k].2] 23)))
      cases hr : rightD C[k].1 C[k].2
      · rw [hr] at HRc hwant
        have hf : R = false := by
          rw [HRR.out, show C.length = (k + 1) + (C.length - (k + 1)) by omega]
          exact want_false C (k + 1) (by rw [hwant]; simp) _
        subst hf
        clear hwant hr hmem HR HRR HK
        generalize C[k] = c at *
        obtain ⟨cb, cn⟩ := c
        simp only at hc0 hc1 HRc HM
        go_wp2_with (first
          | (go_at_call 42; (with_reducible refine (HRc.out _).mono ?_); rintro e w1 ⟨rfl, hb⟩; replace HM := Lib.hid (HM.out.below HLB.out hb); clear hb))
        go_ret
        exact ⟨rfl, HM.out.2.2.1⟩
      · rw [hr] at HRc
        have hkey := key_call C[k] hr
        have HNX := Lib.hid (fun (W W' : World) (h : SeenAt w W lb off C k) => h.next (W' := W') HLB.out hlt hr)
        clear hwant hr hmem HK
        generalize C[k] = c at *
        obtain ⟨cb, cn⟩ := c
        simp only at hc0 hc1 HRc HM hkey
        go_wp2_with (first
          | (go_at_call 42; (with_reducible refine (HRc.out _).mono ?_); rintro e w1 ⟨rfl, hb⟩; replace HM := Lib.hid (HM.out.below HLB.out hb); have x0 := (hb.cell (p := ⟨wr.heap.size, 0, none⟩) (by simp)).trans (World.cell?_alloc_at _ _ _ _ rfl); have x1 := (hb.cell (p := ⟨wr.heap.size, 1, none⟩) (by simp)).trans (World.cell?_alloc_at _ _ _ _ rfl); clear hb)
          | (at_mapUpdate; refine wpList_mapUpdate_own _ rfl _ _ _ 98 rfl 23 99 keyedCall Tryd.underlying98 (unitElem (H := Unit)) w.heap.size k _ rfl HM.out.1 (by unfold maxLen; omega) _ _ _ rfl rfl hkey _ [] unitElem_mk ?_; intro w2 hown2 hgrow2; have HN := Lib.hid (HNX.out _ _ HM.out hown2 hgrow2); clear hown2 hgrow2))
        go_roundw
        case rel => exact ⟨k + 1, by omega, by go_num, HN.out⟩
        case measure => simp [intOf]; omega
    · obtain rfl : k = C.length := by omega
      have dk : decide ((C.length : Int) < (C.length : Int)) = false := decide_eq_false (by omega)
      have hall := HK.out.2.2.2.1
      obtain ⟨k1, k2⟩ := seen_size C C.length (Nat.le_refl _) hall
      have hown := HK.out.1
      have HW := Lib.hid HK.out.2.2.1
      have he : (((Maps.size (seenD C C.length) : Nat) : Int) == ((C.length : Nat) : Int)) = R := by
        rw [HRR.out]
        by_cases q : Maps.size (seenD C C.length) = C.length
        · rw [q, k2.1 q]; exact beq_self_eq_true _
        · have e2 : wantD C C.length = false := by
            cases hx : wantD C C.length
            · rfl
            · exact absurd (k2.2 hx) q
          rw [e2, beq_eq_false_iff_ne]
          omega
      clear hall k1 k2 HK HR HRR
      generalize seenD C C.length = D at *
      go_wp2_with (first
        | (at_len; refine wpList_len_own _ rfl _ 98 rfl 23 99 Tryd.underlying98 _ w.heap.size C.length _ rfl hown ?_)
        | go_in)
      go_ret
      exact ⟨rfl, HW.out⟩
/-- Distinct of any calls -/
theorem cdist_any (C : List (ByteArray × Int)) (a : Option Addr) (lb off cap : Nat) (w : World) (h60 : C.length ≤ 60) (ha : 0 < C.length → a = some ⟨lb, off, none⟩ ∧ lb < w.heap.size) (hS : SAt w lb off C) :
    Calls Tryd.prog 22 #[.slice a C.length cap] w fun e w' => e = .returned (.bool (wantD C C.length)) ∧ Below w.heap.size w w' := by
  by_cases h0 : C.length = 0
  · have e : C = [] := List.length_eq_zero_iff.1 h0
    subst e
    exact cdist_empty a cap w
  · obtain ⟨rfl, hlb⟩ := ha (by omega)
    exact cdist_some' C lb off cap w h60 hlb hS
end Go.Proofs.YtikabflmgckdnaaDoor
namespace Go.Proofs.YtikabflmgckdnaaDoor
open Go.RowKit Go.Sort
set_option maxRecDepth 20000
theorem apart_mine (C : List Cl) (c : Cl) (k : Nat) : apartD C c k = !mineB (C.take k) c := by
  unfold apartD mineB
  rw [List.not_any_eq_all_not]
  congr 1
  funext d
  by_cases h : c = d
  · rw [decide_eq_false (fun q => q h), show decide (d = c) = true from decide_eq_true h.symm]
    rfl
  · rw [decide_eq_true h, show decide (d = c) = false from decide_eq_false (fun q => h q.symm)]
    rfl
theorem ok_want (C : List Cl) : ∀ k, k ≤ C.length → okC [] C = (wantD C k && okC (C.take k) (C.drop k))
  | 0, _ => by
    show _ = (true && okC [] C)
    rw [Bool.true_and]
  | k + 1, h => by
    rw [ok_want C k (by omega), wantD_next C k h, okC_at C k h, apart_mine]
    cases wantD C k <;> cases rightD C[k].1 C[k].2 <;> cases mineB (C.take k) C[k] <;> rfl
theorem want_ok (C : List Cl) : wantD C C.length = okC [] C := by
  rw [ok_want C C.length (Nat.le_refl _), List.drop_length]
  show _ = (_ && true)
  rw [Bool.and_true]
theorem ok_right (C : List Cl) (h : okC [] C = true) (k : Nat) (hk : k < C.length) : rightD C[k].1 C[k].2 = true := by
  have e := ok_want C (k + 1) hk
  rw [h, wantD_next C k hk] at e
  cases hr : rightD C[k].1 C[k].2 with
  | true => rfl
  | false =>
    rw [hr, Bool.false_and, Bool.and_false, Bool.false_and] at e
    cases e
set_option maxHeartbeats 2000000 in
theorem cnew18 (w : World) (b : ByteArray) (n : Int) (a : Option Addr) (m c : Nat) (A : List Cl) (hn : A.length = m) (hm : m ≤ 40) (hA : CallsAt w a A) (h0 : a = none → c = 0) : Calls Tryd.prog 8 #[.agg #[.string b, .int .i64 n], .slice a m c] w fun e w' =>
    ((madeD ((b, n) :: A) = 0 ∧ ∃ d F, e = .returned (.tuple #[ptrD d, .int .i64 0]) ∧ DiL w' d ((b, n) :: A) (0, 0, 0) F ∧ (∀ b, F b → w.heap.size ≤ b)) ∨ (madeD ((b, n) :: A) ≠ 0 ∧ e = .returned (.tuple #[.pointer none, .int .i64 (madeD ((b, n) :: A) : Nat)]))) ∧ Below w.heap.size w w' := by
  have hb0 := (Below.refl w.heap.size w).alloc (Nat.le_refl _) (.cells #[.string b, .int .i64 n] 23)
  have hra := RowAt.new w w.heap.size rfl [.string b, .int .i64 n] 23
  have hap := calls_own18 (w.alloc (.cells #[.string b, .int .i64 n] 23)) 24 (b, n) a m c A hn (hA.below hb0) h0 (by omega)
  obtain ⟨W1, hW1⟩ : ∃ W, W = w.alloc (.cells #[.string b, .int .i64 n] 23) := ⟨_, rfl⟩
  rw [← hW1] at hb0 hra hap
  have hw1 : w.heap.size + 1 = W1.heap.size := by rw [hW1]; simp
  obtain ⟨g, c', W2, hr, hown, hg1, hg2, hca, hb1⟩ := hap
  have HDI := Lib.hid (fun W (hb : Below W2.heap.size W2 W) => cdist_any ((b, n) :: A) (some ⟨g, 0, none⟩) g 0 c' W (by simp; omega) (fun _ => ⟨rfl, Nat.lt_of_lt_of_le hg2 hb.size⟩) (fun k hk => by
    obtain ⟨g', o', ha, -, q0, q1⟩ := (hca.below hb) k hk
    simp only [Option.some.injEq, Addr.mk.injEq, and_true] at ha
    obtain ⟨rfl, rfl⟩ := ha
    exact ⟨q0, q1⟩))
  have hcl : ((b, n) :: A).length = m + 1 := by simp [hn]
  rw [want_ok, hcl] at HDI
  have HB2 := Lib.hid (hb0.trans (hb1.mono hb0.size))
  have x0 := hra.cell 0 rfl
  have x1 := hra.cell 1 rfl
  have HW1 := Lib.hid hW1
  have hs1 := hb0.size
  have hz1 : w.heap.size ≤ W1.heap.size := hb0.size
  have HOW := Lib.hid hown
  have HG := Lib.hid (And.intro hg1 hg2)
  have HWS := Lib.hid (And.intro hz1 hw1)
  have hrt := fun (h : okC [] ((b, n) :: A) = true) k hk => ok_right ((b, n) :: A) h k hk
  have hmd : madeD ((b, n) :: A) = if okC [] ((b, n) :: A) = false then 12 else if 5 < m + 1 then 6 else 0 := by unfold madeD; rw [hcl]
  have HCL := Lib.hid hcl
  clear hown hca hcl hA hra hb0 hb1 hg1 hg2 h0 hn hs1 hz1 hw1 hW1
  generalize (b, n) :: A = C at *
  cases hok : okC [] C with
  | false =>
    rw [hok] at HDI hmd
    rw [if_pos rfl] at hmd
    rw [hmd]
    clear hok hmd hrt hm
    go_enter Tryd.func8, Tryd.ntmps8
    go_upto_region 1 with (fail)
    rw [← HW1.out]
    go_wp2_with (first
      | (at_builtin; refine Lib.wpList_append_run _ rfl _ _ _ _ rfl _ _ rfl rfl _ _ hr ?_; clear hr x0 x1)
      | (go_at_call 22; (with_reducible refine (HDI.out _ (Below.refl _ _)).mono ?_); rintro e w3 ⟨rfl, hb⟩; have HB3 := Lib.hid (HB2.out.trans (hb.mono HB2.out.size)); have HO3 := Lib.hid (HOW.out.below hb); clear hb))
    exact bodyPost_ret (v := .tuple #[.pointer none, .int .i64 12]) (by simp [results, Tryd.results8, go_sem]) rfl ⟨Or.inr ⟨by decide, rfl⟩, HB3.out⟩
  | true =>
    rw [hok] at HDI hmd
    rw [if_neg (by decide)] at hmd
    by_cases h4 : 4 < m
    · have d4 : decide ((4 : Int) < (m : Int)) = true := decide_eq_true (by omega)
      rw [if_pos (by omega)] at hmd
      rw [hmd]
      clear hok hmd hrt hm h4
      go_enter Tryd.func8, Tryd.ntmps8
      go_upto_region 1 with (fail)
      rw [← HW1.out]
      go_wp2_with (first
        | (at_builtin; refine Lib.wpList_append_run _ rfl _ _ _ _ rfl _ _ rfl rfl _ _ hr ?_; clear hr x0 x1)
        | (go_at_call 22; (with_reducible refine (HDI.out _ (Below.refl _ _)).mono ?_); rintro e w3 ⟨rfl, hb⟩; have HB3 := Lib.hid (HB2.out.trans (hb.mono HB2.out.size)); have HO3 := Lib.hid (HOW.out.below hb); clear hb))
      exact bodyPost_ret (v := .tuple #[.pointer none, .int .i64 6]) (by simp [results, Tryd.results8, go_sem]) rfl ⟨Or.inr ⟨by decide, rfl⟩, HB3.out⟩
    · have d4 : decide ((4 : Int) < (m : Int)) = false := decide_eq_false (by omega)
      rw [if_neg (by omega)] at hmd
      rw [hmd]
      have HRT := Lib.hid (hrt hok)
      clear hok hmd hrt hm
      go_enter Tryd.func8, Tryd.ntmps8
      go_upto_region 1 with (fail)
      rw [← HW1.out]
      go_wp2_with (first
        | (at_builtin; refine Lib.wpList_append_run _ rfl _ _ _ _ rfl _ _ rfl rfl _ _ hr ?_; clear hr x0 x1)
        | (go_at_call 22; (with_reducible refine (HDI.out _ (Below.refl _ _)).mono ?_); rintro e w3 ⟨rfl, hb⟩; have HB3 := Lib.hid (HB2.out.trans (hb.mono HB2.out.size)); have HO3 := Lib.hid (HOW.out.below hb); clear hb))
      go_loopw [23] (fun iv wx => ∃ i : Nat, i ≤ m + 1 ∧ iv = .int .i64 i ∧ Hid (OwnL encCl 23 wx W1.heap.size (.slice (some ⟨g, 0, none⟩) (m + 1) c') C ∧ Below w.heap.size w wx)) (fun iv _ => m + 1 - (intOf iv).toNat)
      case atStart => exact ⟨0, Nat.zero_le _, rfl, Lib.hid ⟨HO3.out, HB3.out⟩⟩
      case round =>
        obtain ⟨i, hi, rfl, HJ⟩ := hrel
        clear HO3 HB3
        have HZI := Lib.hid (show wrap64 ((i : Int) + 1) = (i : Int) + 1 from IntWalk.wrap64_in _ (by omega))
        by_cases hlt : i < m + 1
        · have dk : decide (i < m + 1) = true := decide_eq_true hlt
          have dk2 : decide ((i : Int) < (m : Int) + 1) = true := decide_eq_true (by omega)
          have dk3 : decide ((i : Int) < ((m + 1 : Nat) : Int)) = true := decide_eq_true (by omega)
          have hL : i < C.length := by rw [HCL.out]; exact hlt
          obtain ⟨gx, cx, hv, -, hgl, hAT⟩ := HJ.out.1.some_ (by omega)
          simp only [Value.slice.injEq, Option.some.injEq, Addr.mk.injEq, and_true] at hv
          obtain ⟨rfl, -, rfl⟩ := hv
          have c0 : wr.cell? ⟨g, i * 2, none⟩ = some (.string C[i].1) := by
            have := hAT.get i hL 0 (u := .string C[i].1) rfl
            simpa [encCl] using this
          have c1 : wr.cell? ⟨g, i * 2 + 1, none⟩ = some (.int .i64 C[i].2) := by
            have := hAT.get i hL 1 (u := .int .i64 C[i].2) rfl
            simpa [encCl] using this
          have hri := HRT.out i hL
          have hsz := (right_facts _ _ hri).2.1
          have HJA := Lib.hid (HJ.out.1.alloc (.cells #[.string C[i].1, .int .i64 C[i].2] 23))
          have HBA := Lib.hid (HJ.out.2.alloc HJ.out.2.size (.cells #[.string C[i].1, .int .i64 C[i].2] 23))
          have HCN := Lib.hid (fun W => clone_any C[i].1 W (by omega))
          have HST := Lib.hid (fun W (h : OwnL encCl 23 W W1.heap.size (.slice (some ⟨g, 0, none⟩) (m + 1) c') C) => show OwnL encCl 23 (W.setCell ⟨g, i * 2, none⟩ (.string C[i].1)) W1.heap.size (.slice (some ⟨g, 0, none⟩) (m + 1) c') C from by
            have := h.setOne i C[i] hL 0 (by decide) (.string C[i].1) rfl (fun _ _ => rfl) (i * 2) rfl
            rwa [List.set_getElem_self] at this)
          generalize C[i] = x at *
          obtain ⟨xb, xn⟩ := x
          simp only at c0 c1 HJA HBA HCN HST
          have HB0 := Lib.hid ((Below.refl wr.heap.size wr).alloc (Nat.le_refl _) (.cells #[.string xb, .int .i64 xn] 23))
          have HC0 := Lib.hid (And.intro c0 hgl)
          clear hAT hri hsz HJ hgl
          have y0 := (RowAt.new wr wr.heap.size rfl [.string xb, .int .i64 xn] 23).cell 0 rfl
          go_wp2_with (go_at_call 23; (with_reducible refine (HCN.out _).mono ?_); rintro e w5 ⟨rfl, hb⟩; have HJ5 := Lib.hid (HJA.out.below hb); have HB5 := Lib.hid (HBA.out.trans (hb.mono HBA.out.size)); have c9 := ((HB0.out.trans (hb.mono HB0.out.size)).cell (p := ⟨g, i * 2, none⟩) HC0.out.2).trans HC0.out.1; clear hb c0 c1 y0; obtain ⟨-, f0⟩ := HJ5.out.cells' (i * 2) (by have := HCL.out; show i * 2 < C.length * 2; omega))
          have HJ6 := Lib.hid (HST.out _ HJ5.out)
          have HB6 := Lib.hid (HB5.out.setCell (p := ⟨g, i * 2, none⟩) (by have := HG.out.1; have := HWS.out.1; show w.heap.size ≤ g; omega) (.string xb))
          go_roundw
          case rel => exact ⟨i + 1, by omega, (by (try rw [HZI.out]); rfl), Lib.hid ⟨HJ6.out, HB6.out⟩⟩
          case measure =>
            try rw [HZI.out]
            simp [intOf]
            omega
        · have dk : decide (i < m + 1) = false := decide_eq_false hlt
          have dk2 : decide ((i : Int) < (m : Int) + 1) = false := decide_eq_false (by omega)
          have dk3 : decide ((i : Int) < ((m + 1 : Nat) : Int)) = false := decide_eq_false (by omega)
          obtain ⟨gx, cx, hv, hgB, hgl, hAT⟩ := HJ.out.1.some_ (by have := HCL.out; omega)
          simp only [Value.slice.injEq, Option.some.injEq, Addr.mk.injEq, and_true] at hv
          obtain ⟨rfl, -, rfl⟩ := hv
          have HRD := Lib.hid (RowAt.new wr wr.heap.size rfl (diV g c' C (0, 0, 0)) 67)
          have HFI := Lib.hid (show DiAt (wr.alloc (.cells (diV g c' C (0, 0, 0)).toArray 67)) wr.heap.size g c' C (0, 0, 0) (fun x => x = wr.heap.size ∨ x = g) from ⟨HRD.out, (hAT.alloc _).calls, by omega, by simp; omega, by have := HCL.out; omega, Or.inl rfl, Or.inr rfl, fun x hx => by
            rcases hx with rfl | rfl
            · simp
            · simp; omega⟩)
          have HBE := Lib.hid (HJ.out.2.alloc HJ.out.2.size (.cells (diV g c' C (0, 0, 0)).toArray 67))
          have HFF := Lib.hid (show ∀ x, (x = wr.heap.size ∨ x = g) → w.heap.size ≤ x from fun x hx => by
            have := HJ.out.2.size
            have := HWS.out.1
            rcases hx with rfl | rfl <;> omega)
          have hcl := HCL.out
          simp only [diV, hcl, Int.ofNat_zero, List.toArray] at HFI HBE
          clear hcl HRD hAT
          go_wp2_with fail
          exact bodyPost_ret (v := .tuple #[ptrD wr.heap.size, .int .i64 0]) (by simp [results, Tryd.results8, go_sem]) rfl ⟨Or.inl ⟨by first | trivial | rfl, wr.heap.size, _, rfl, ⟨g, c', HFI.out⟩, HFF.out⟩, HBE.out⟩
end Go.Proofs.YtikabflmgckdnaaDoor
