/-
What holds in the loops of HeardLast.
-/
import Derived.Test.YtmgfpnemamedoaaDoorMix15
import Derived.Test.YtmgfpnemamedoaaDoorHrdSeen
import Derived.Test.YtmgfpnemamedoaaDoorPathMem
import Derived.Test.YtmgfpnemamedoaaDoorMix07
namespace Go.Proofs.YtmgfpnemamedoaaDoor
open Go.RowKit Go.Sort
set_option maxRecDepth 20000
abbrev rightL (C : List (ByteArray × Int)) : List (ByteArray × Int) := C.filter fun c => rightD c.1 c.2
theorem right_next (C : List (ByteArray × Int)) (k : Nat) (h : k < C.length) : rightL (C.take (k + 1)) = if rightD C[k].1 C[k].2 = true then rightL (C.take k) ++ [C[k]] else rightL (C.take k) := by
  unfold rightL
  rw [List.take_succ_eq_append_getElem h, List.filter_append]
  cases hq : rightD C[k].1 C[k].2
  · rw [List.filter_cons_of_neg (by rw [hq]; decide)]
    simp
  · rw [List.filter_cons_of_pos (by rw [hq])]
    simp
theorem right_le (C : List (ByteArray × Int)) (k : Nat) : (rightL (C.take k)).length ≤ k := by
  have := List.length_filter_le (fun c : ByteArray × Int => rightD c.1 c.2) (C.take k)
  rw [List.length_take] at this
  exact Nat.le_trans this (Nat.min_le_left _ _)
/-- the list and the calls that it heard, in order -/
structure H1 (w0 : World) (p : Nat) (R : List (ByteArray × Int)) (tv : Value) (W : World) : Prop where
  hd : ∃ L, HdO w0 p L W ∧ L.map Hs.call = (nubL R.reverse).take 8
  own : OwnL encCl 27 W w0.heap.size tv R
  np : tv.ownBlock ≠ some p
section
variable {w0 W W' : World} {p : Nat} {R : List (ByteArray × Int)} {tv : Value}
theorem H1.bel (h : H1 w0 p R tv W) : Below w0.heap.size w0 W := by
  obtain ⟨L, h1, -⟩ := h.hd
  exact h1.bel
theorem H1.below (h : H1 w0 p R tv W) (hb : Below W.heap.size W W') : H1 w0 p R tv W' := by
  obtain ⟨L, h1, h2⟩ := h.hd
  exact ⟨⟨L, h1.below hb, h2⟩, h.own.below hb, h.np⟩
theorem H1.alloc (h : H1 w0 p R tv W) (o : Obj) : H1 w0 p R tv (W.alloc o) := h.below ((Below.refl _ W).alloc (Nat.le_refl _) o)
theorem own_apart23 {w : World} {B B' : Nat} {v u : Value} {L : List Hs} {M : List (ByteArray × Int)} (h : OwnL encH 42 w B v L) (k : OwnL encCl 27 w B' u M) (g : Nat) (hg : u.ownBlock = some g) : v.ownBlock ≠ some g := k.apart h (by decide +kernel) hg
/-- one more was heard (and not yet noted in order) -/
structure H2 (w0 : World) (p : Nat) (c : ByteArray × Int) (R : List (ByteArray × Int)) (tv : Value) (L : List Hs) (W : World) : Prop where
  hd : HdO w0 p L W
  eq : L.map Hs.call = (nubL (c :: R.reverse)).take 8
  own : OwnL encCl 27 W w0.heap.size tv R
  np : tv.ownBlock ≠ some p
theorem H2.below {c : ByteArray × Int} {L : List Hs} (h : H2 w0 p c R tv L W) (hb : Below W.heap.size W W') : H2 w0 p c R tv L W' := ⟨h.hd.below hb, h.eq, h.own.below hb, h.np⟩
/-- Hear of what is in order; a block k of the caller's stays -/
theorem H1.hear (h : H1 w0 p R tv W) {k : Nat} {X : List Value} (hk : RowAt W k X) (hX : 0 < X.length) (hpk : p ≠ k) (hnk : ∀ sv L, HdAt W p sv L → sv.ownBlock ≠ some k) (tb fb : ByteArray) (tn fn now : Int) (ht : rightD tb tn = true) (hf : rightD fb fn = true) :
    Calls Tryd.prog 9 #[ptrH p, .string (uaS tb fb tn fn), .int .i64 now] W fun e w' => e = .returned (.bool true) ∧ (∃ L, H2 w0 p (fb, fn) R tv L w' ∧ ∃ x M, L = x :: M ∧ x.call = (fb, fn)) ∧ RowAt w' k X := by
  obtain ⟨L, ho, hL⟩ := h.hd
  obtain ⟨sv, h1, h2⟩ := ho.at_
  refine (hear23 tb fb tn fn now W p sv L h1 ht hf).mono fun e w' hq => ?_
  obtain ⟨he, ho'⟩ := ho.hear h1 h2 hq
  obtain ⟨-, sv', -, hT, -⟩ := hq
  have hnf : ∀ g, tv.ownBlock = some g → ¬ footH p sv g := fun g hg hF => by
    rcases hF with rfl | hF
    · exact h.np hg
    · exact own_apart23 h1.own h.own g hg hF
  have hkw : k < W.heap.size := by
    cases X with
    | nil => cases hX
    | cons x X => exact hk.lt
  exact ⟨he, ⟨_, ⟨ho', hear_last L R.reverse (fb, fn) (⟨#[]⟩, 0) now hL, h.own.turn hT hnf, h.np⟩, _, _, rfl, rfl⟩, hk.turn hT fun hF => hF.elim (fun q => hpk q.symm) (hnk sv L h1)⟩
/-- it is noted -/
theorem H2.note {c : ByteArray × Int} {L : List Hs} (h : H2 w0 p c R tv L W) {v' : Value} (hown : OwnL encCl 27 W' w0.heap.size v' (R ++ [c])) (hg : W.grownBy W' tv.ownBlock) (hwh : v'.ownBlock = tv.ownBlock ∨ v'.ownBlock = some W.heap.size) : H1 w0 p (R ++ [c]) v' W' := by
  obtain ⟨⟨sv, h1, h2⟩, h3, h4⟩ := h.hd
  have hns : ∀ g, sv.ownBlock = some g → tv.ownBlock ≠ some g := fun g hg' e => own_apart23 h1.own h.own g e hg'
  refine ⟨⟨L, ⟨⟨sv, ⟨h1.row.block (hg.block p h1.lt fun e => h.np e.symm) hg.size, h1.own.grown hg hns, h1.len, h1.small⟩, h2⟩, h.own.appended h3 (Nat.le_refl _) h3.size hg, h4⟩, by rw [List.reverse_append]; exact h.eq⟩, hown, fun e => ?_⟩
  rcases hwh with q | q
  · exact h.np (q ▸ e)
  · rw [q] at e
    have := Option.some.inj e
    have := h1.lt
    omega
/-- All of it -/
theorem H2.all {c : ByteArray × Int} {x : Hs} {M : List Hs} (h : H2 w0 p c R tv (x :: M) W) (hx : x.call = c) :
    Calls Tryd.prog 10 #[ptrH p] W fun e w' => (∃ g n cap, e = .returned (.slice (some ⟨g, 0, none⟩) (n + 1) cap) ∧ w'.cell? ⟨g, 0, none⟩ = some (.string c.1) ∧ w'.cell? ⟨g, 1, none⟩ = some (.int .i64 c.2)) ∧ Below W.heap.size W w' := by
  obtain ⟨⟨sv, h1, h2⟩, h3, h4⟩ := h.hd
  refine (call23 W p sv _ h1).mono fun e w' hq => ?_
  obtain ⟨⟨v, he, ho⟩, hb⟩ := hq
  obtain ⟨g, cap, rfl, -, -, hat⟩ := ho.some_ (by simp)
  subst hx
  exact ⟨⟨g, M.length, cap, he, by show w'.cell? _ = some (.string x.cb); have := hat.get 0 (by simp) 0 (u := .string x.cb) rfl; simpa using this, by show w'.cell? _ = some (.int .i64 x.cn); have := hat.get 0 (by simp) 1 (u := .int .i64 x.cn) rfl; simpa using this⟩, hb⟩
/-- what holds in the second loop: j of them, from the last one on -/
structure H3 (w0 : World) (p m : Nat) (R : List (ByteArray × Int)) (tv : Value) (j : Nat) (A : List (ByteArray × Int)) (W : World) : Prop where
  h : H1 w0 p R tv W
  seen : SeAt W m A
  see : A = seeL [] (R.reverse.take j)
  ge : w0.heap.size ≤ m
  mp : m ≠ p
theorem H3.below {m j : Nat} {A : List (ByteArray × Int)} (h : H3 w0 p m R tv j A W) (hb : Below W.heap.size W W') : H3 w0 p m R tv j A W' := ⟨h.h.below hb, h.seen.below hb, h.see, h.ge, h.mp⟩
theorem see_cons (x : ByteArray × Int) (r A : List (ByteArray × Int)) : seeL A (x :: r) = if inL x A then seeL A r else seeL (A ++ [x]) r := rfl
theorem see_app : ∀ (r s A : List (ByteArray × Int)), seeL A (r ++ s) = seeL (seeL A r) s
  | [], _, _ => rfl
  | y :: r, s, A => by
    rw [List.cons_append, see_cons, see_cons]
    by_cases h : inL y A = true
    · rw [if_pos h, if_pos h]
      exact see_app r s A
    · rw [if_neg h, if_neg h]
      exact see_app r s (A ++ [y])
theorem see_len : ∀ (r A : List (ByteArray × Int)), (seeL A r).length ≤ A.length + r.length
  | [], _ => Nat.le_refl _
  | y :: r, A => by
    rw [see_cons, List.length_cons]
    split
    · have := see_len r A
      omega
    · have := see_len r (A ++ [y])
      rw [List.length_append, List.length_singleton] at this
      omega
/-- the j-th from behind -/
theorem rev_at (R : List (ByteArray × Int)) (j i : Nat) (h : i + 1 + j = R.length) : ∃ hi : i < R.length, R.reverse.take (j + 1) = R.reverse.take j ++ [R[i]] ∧ R.reverse.drop j = R[i] :: R.reverse.drop (j + 1) := by
  have hj : j < R.reverse.length := by rw [List.length_reverse]; omega
  have e : R.reverse[j] = R[i]'(by omega) := by
    rw [List.getElem_reverse]
    congr 1
    omega
  exact ⟨by omega, by rw [List.take_succ_eq_append_getElem hj, e], by rw [List.drop_eq_getElem_cons hj, e]⟩
theorem H3.few {m j : Nat} {A : List (ByteArray × Int)} (h : H3 w0 p m R tv j A W) : A.length ≤ j := by
  have := see_len (R.reverse.take j) []
  rw [← h.see, List.length_take, List.length_nil] at this
  omega
/-- is it among the last eight? -/
theorem H3.there {m j i : Nat} {A : List (ByteArray × Int)} (h : H3 w0 p m R tv j A W) (hl : i < R.length) (hi : i + 1 + j = R.length) (hn : inL (R[i]'hl) A = false) : inL (R[i]'hl) ((nubL R.reverse).take 8) = decide (A.length < 8) := by
  obtain ⟨_, -, h2⟩ := rev_at R j i hi
  refine see_next A _ (R.reverse.drop (j + 1)) _ ?_ hn
  rw [← h2, h.see, ← see_app, List.take_append_drop, see_all]
theorem H3.old {m j i : Nat} {A : List (ByteArray × Int)} (h : H3 w0 p m R tv j A W) (hl : i < R.length) (hi : i + 1 + j = R.length) (hn : inL (R[i]'hl) A = true) : H3 w0 p m R tv (j + 1) A W := by
  obtain ⟨_, h1, -⟩ := rev_at R j i hi
  exact ⟨h.h, h.seen, by rw [h1, see_app, ← h.see, see_cons, if_pos hn]; rfl, h.ge, h.mp⟩
theorem own_no_map {α : Type} {E : Enc α} {T : TypeId} {w : World} {B m : Nat} {v : Value} {L : List α} {es : Array MapEntry} {cl : Nat} (h : OwnL E T w B v L) (hm : w.heap[m]? = some (.map es cl)) : v.ownBlock ≠ some m := fun e => by
  rcases h.2 with ⟨rfl, -⟩ | ⟨g, c, cur, rfl, -, hg, -⟩
  · cases e
  · obtain rfl := Option.some.inj e
    rw [hm] at hg
    cases hg
theorem H3.new {m j i : Nat} {A : List (ByteArray × Int)} (h : H3 w0 p m R tv j A W) (hl : i < R.length) (hi : i + 1 + j = R.length) (hn : inL (R[i]'hl) A = false) (hs : SeAt W' m (A ++ [R[i]'hl])) (ht : W.mapTurned W' m) : H3 w0 p m R tv (j + 1) (A ++ [R[i]'hl]) W' := by
  obtain ⟨_, h1, -⟩ := rev_at R j i hi
  have hg := ht.grown
  obtain ⟨es, cl, -, -, hm, -⟩ := ht
  obtain ⟨⟨L, ⟨⟨sv, k1, k2⟩, k3, k4⟩, k5⟩, h3, h4⟩ := h.h
  have hmp : some p ≠ some m := fun e => h.mp (Option.some.inj e).symm
  have hsv := own_no_map k1.own hm
  have htv := own_no_map h3 hm
  refine ⟨⟨⟨L, ⟨⟨sv, ⟨k1.row.block (hg.block p k1.lt hmp) hg.size, k1.own.grown hg (fun g hg' e => hsv (e ▸ hg')), k1.len, k1.small⟩, k2⟩, k3.grown hg k3.size (fun k hk => by have := Option.some.inj hk; have := h.ge; omega), k4⟩, k5⟩, h3.grown hg (fun g hg' e => htv (e ▸ hg')), h4⟩, hs, ?_, h.ge, h.mp⟩
  rw [h1, see_app, ← h.see, see_cons, if_neg (by rw [hn]; decide)]
  rfl
/-- it is noted as seen -/
theorem H3.mark {m j i : Nat} {A : List (ByteArray × Int)} (h : H3 w0 p m R tv j A W) (hl : i < R.length) (hi : i + 1 + j = R.length) (hn : inL (R[i]'hl) A = false) (hr : rightD (R[i]'hl).1 (R[i]'hl).2 = true) (hA : A.length ≤ 1000) :
    ∃ W', (Instr.mapUpdate 45 (.map (some m)) (.agg #[.string (R[i]'hl).1, .int .i64 (R[i]'hl).2]) (.bool true)).run Tryd.prog W = .ok () W' ∧ H3 w0 p m R tv (j + 1) (A ++ [R[i]'hl]) W' := by
  obtain ⟨W', r1, r2, r3⟩ := h.seen.put _ hr hn hA
  exact ⟨W', r1, h.new hl hi hn r2 r3⟩
theorem H1.find (h : H1 w0 p R tv W) (cb : ByteArray) (cn : Int) :
    Calls Tryd.prog 11 #[ptrH p, .agg #[.string cb, .int .i64 cn]] W fun e w' => (∃ xb xn yb yn xc xt, e = .returned (.tuple #[.agg #[.string xb, .int .i64 xn, .string yb, .int .i64 yn, .int .i64 xc, .int .i64 xt], .bool (inL (cb, cn) ((nubL R.reverse).take 8))])) ∧ Below W.heap.size W w' := by
  obtain ⟨L, ⟨⟨sv, k1, k2⟩, k3, k4⟩, k5⟩ := h.hd
  refine (cfind23 W p sv L cb cn k1).mono fun e w' hq => ?_
  obtain ⟨he, hb⟩ := hq
  rw [found_in, k5, Bool.not_not] at he
  exact ⟨⟨_, _, _, _, _, _, he⟩, hb⟩
theorem H1.len (h : H1 w0 p R tv W) : Calls Tryd.prog 10 #[ptrH p] W fun e w' => (∃ a cap, e = .returned (.slice a (min 8 (nubL R.reverse).length) cap)) ∧ Below W.heap.size W w' := by
  obtain ⟨L, ⟨⟨sv, k1, k2⟩, k3, k4⟩, k5⟩ := h.hd
  have hl : L.length = min 8 (nubL R.reverse).length := by
    have := congrArg List.length k5
    rwa [List.length_map, List.length_take] at this
  refine (call23 W p sv L k1).mono fun e w' hq => ?_
  obtain ⟨⟨v, he, ho⟩, hb⟩ := hq
  obtain ⟨a, cap, rfl, -⟩ := ho.see
  rw [hl] at he
  exact ⟨⟨a, cap, he⟩, hb⟩
end
end Go.Proofs.YtmgfpnemamedoaaDoor
