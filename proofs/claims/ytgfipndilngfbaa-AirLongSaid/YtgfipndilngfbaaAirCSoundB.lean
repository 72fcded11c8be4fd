/-
The landed air's sound: what its walk holds.
-/
import Derived.Test.YtgfipndilngfbaaAirCSound
namespace Go.Proofs.Ytgfipndilngfbaa
open Go.RowKit
set_option maxRecDepth 20000
theorem infoG15 : (Try.prog.info? 37).map (fun i => (i.zero, i.size, i.bytes)) = some (some (.agg #[.int .i64 0, .int .i64 0, .string ⟨#[]⟩, .bool false]), 4, 40) := by kernel_rfl
theorem enters_sound : ∀ args W, (callFunc 39 args).run Try.prog W = .ok (.enter 39 args) W := enters_of Try.func39 (by kernel_rfl) rfl
section
variable {w : World} {a n : Nat} {H : Nat → Nat → Bool} {S : Ai} {p m hh : Nat} {Fp : Nat → Prop} {M : Nat → Option Nat} {G : Nat → Nat → Prop} {T : Nat → List Int}
set_option maxHeartbeats 1000000 in
theorem csound1 (h : AirB w a n H S p m hh Fp M) (c0 c1 i j : Nat) (hi : 1 ≤ i ∧ i ≤ n) (hj : 1 ≤ j ∧ j ≤ n) (h0 : RowAt w c0 [ptrV a]) (h1 : RowAt w c1 [.int .i64 i]) :
    Calls Try.prog 39 #[.int .i64 j, ptrV c0, ptrV c1] w fun e w' => e = .returned (.bool (!clearN H n S i j)) ∧ Below w.heap.size w w' := by
  have HC := Lib.hid (cclear15 h i j hi hj)
  have x0 := h0.cell 0 rfl
  have x1 := h1.cell 0 rfl
  generalize clearN H n S i j = d at *
  clear h h0 h1
  go_enter Try.func39, Try.ntmps39
  go_wp2_with (go_at_call 40; (with_reducible refine HC.out.mono ?_); rintro e w1 ⟨rfl, hb⟩; have HB := Lib.hid hb; clear hb)
  exact bodyPost_ret (v := .bool (!d)) (by simp [results, Try.results39, go_sem]) rfl ⟨rfl, HB.out⟩
end
/-- ahead of letting takers go -/
structure SoT (w : World) (a n : Nat) (H : Nat → Nat → Bool) (S : Ai) (p m hh : Nat) (Fp : Nat → Prop) (M : Nat → Option Nat) (Gi : Nat → Prop) (b : Nat) (B : Bu) (i : Nat) (fa : Option Addr) (fc : Nat) (tv : Value) (L0 : List Int) (c0 c1 : Nat) (W : World) : Prop where
  row : RowAt W b [.int .i64 B.lead, .int .i64 B.tail, .slice fa B.frames.length fc, .int .i64 B.went, tv]
  txt : AtL encS W fa B.frames
  own : OwnN15 W 0 tv L0
  turn : Turn Gi w W
  base : AirB W a n H S p m hh Fp M
  r0 : RowAt W c0 [ptrV a]
  r1 : RowAt W c1 [.int .i64 i]
  ge : w.heap.size ≤ c0 ∧ w.heap.size ≤ c1
  tb : tv.ownBlock ≠ some b
  tf : ∀ q, fa = some q → q.block < w.heap.size ∧ q.block ≠ b ∧ tv.ownBlock ≠ some q.block
  tg : ∀ k, tv.ownBlock = some k → Gi k ∨ w.heap.size ≤ k
  tc : tv.ownBlock ≠ some c0 ∧ tv.ownBlock ≠ some c1
  gb : Gi b
  gf : ∀ q, fa = some q → Gi q.block
  off : ∀ k, Gi k → k ≠ a ∧ k ≠ m ∧ k ≠ hh ∧ ¬ Fp k
  lt : a < w.heap.size ∧ m < w.heap.size ∧ b < w.heap.size ∧ ∀ k, Fp k → k < w.heap.size
  fcs : B.frames.length ≤ fc
/-- behind it -/
structure SoU (w : World) (Gi : Nat → Prop) (a : Nat) (b : Nat) (B : Bu) (i : Nat) (fa : Option Addr) (fc : Nat) (tv : Value) (L : List Int) (c0 c1 : Nat) (G' : Nat → Prop) (W : World) : Prop where
  bu : BuL W b B L G'
  turn : Turn Gi w W
  grew : Grew Gi G' w
  row : RowAt W b [.int .i64 B.lead, .int .i64 B.tail, .slice fa B.frames.length fc, .int .i64 B.went, tv]
  txt : AtL encS W fa B.frames
  own : OwnN15 W 0 tv L
  r0 : RowAt W c0 [ptrV a]
  r1 : RowAt W c1 [.int .i64 i]
section
variable {w W W5 : World} {a n : Nat} {H : Nat → Nat → Bool} {S : Ai} {p m hh : Nat} {Fp : Nat → Prop} {M : Nat → Option Nat} {Gi : Nat → Prop} {b : Nat} {B : Bu} {i : Nat} {fa : Option Addr} {fc : Nat} {tv v' : Value} {L0 L' : List Int} {c0 c1 : Nat}
theorem SoT.start {G : Nat → Nat → Prop} {T : Nat → List Int} (h : AirAt w a n H S p m hh Fp M G T) (hb : Below w.heap.size w W) (hr : RowAt w b [.int .i64 B.lead, .int .i64 B.tail, .slice fa B.frames.length fc, .int .i64 B.went, tv])
    (hc : B.frames.length ≤ fc) (hA : AtL encS w fa B.frames) (h3 : ∀ q, fa = some q → q.block < w.heap.size ∧ q.block ≠ b ∧ tv.ownBlock ≠ some q.block) (ho : OwnN15 w 0 tv (T i)) (htb : tv.ownBlock ≠ some b) (hG : G i = fun k => k = b ∨ (∃ q, fa = some q ∧ q.block = k) ∨ tv.ownBlock = some k)
    (hc0 : w.heap.size ≤ c0 ∧ w.heap.size ≤ c1) (r0 : RowAt W c0 [ptrV a]) (r1 : RowAt W c1 [.int .i64 i]) : SoT w a n H S p m hh Fp M (G i) b B i fa fc tv (T i) c0 c1 W :=
  ⟨hr.below hb, hA.below hb, OwnL.below ho hb, Turn.of_below hb, h.base.below hb, r0, r1, hc0, htb, h3, fun k e => Or.inl (by rw [hG]; exact Or.inr (Or.inr e)), ⟨fun e => by have := (OwnL.ge ho e).2; omega, fun e => by have := (OwnL.ge ho e).2; omega⟩,
    by rw [hG]; exact Or.inl rfl, fun q hq => by rw [hG]; exact Or.inr (Or.inl ⟨q, hq, rfl⟩), h.ga i, ⟨h.row.lt, h.on.lt, hr.lt, h.plane.mem⟩, hc⟩
theorem SoT.take (h : SoT w a n H S p m hh Fp M Gi b B i fa fc tv L0 c0 c1 W) (ho : OwnN15 W 0 v' L') (hv : ∀ k, v'.ownBlock = some k → w.heap.size ≤ k ∧ k ≠ c0 ∧ k ≠ c1) :
    (W.cell? ⟨b, 4, none⟩ = some tv ∧ W.frozen? ⟨b, 4, none⟩ = false) ∧ SoT w a n H S p m hh Fp M Gi b B i fa fc v' L' c0 c1 (W.setCell ⟨b, 4, none⟩ v') := by
  have hlt := h.lt
  have hg := h.ge
  have hn : v'.ownBlock ≠ some b := fun e => by have := (hv b e).1; omega
  have ht : Turn (fun k => k = b) W (W.setCell ⟨b, 4, none⟩ v') := (Turn.refl (fun k => k = b) W).set (p := ⟨b, 4, none⟩) (Or.inl rfl) v'
  have hob := h.off b h.gb
  refine ⟨⟨h.row.cell 4 rfl, (h.row.get 4 rfl).free⟩, h.row.put 4 v' _ rfl, h.txt.set v' fun q hq => (h.tf q hq).2.1, OwnL.same ho fun k e => Below.heap_setCell _ _ _ _ (show k ≠ b from fun q => hn (by rw [e, q])), h.turn.set (p := ⟨b, 4, none⟩) (Or.inl h.gb) v',
    h.base.turn ht (fun e => hob.1 e.symm) (fun e => hob.2.1 e.symm) (fun k hk e => hob.2.2.2 (e ▸ hk)), h.r0.other _ (by omega), h.r1.other _ (by omega), h.ge, hn,
    fun q hq => ⟨(h.tf q hq).1, (h.tf q hq).2.1, fun e => by have := (hv _ e).1; have := (h.tf q hq).1; omega⟩, fun k e => Or.inr (hv k e).1, ⟨fun e => (hv _ e).2.1 rfl, fun e => (hv _ e).2.2 rfl⟩, h.gb, h.gf, h.off, h.lt, h.fcs⟩
theorem SoT.below (h : SoT w a n H S p m hh Fp M Gi b B i fa fc tv L0 c0 c1 W) (hb : Below W.heap.size W W5) : SoT w a n H S p m hh Fp M Gi b B i fa fc tv L0 c0 c1 W5 :=
  ⟨h.row.below hb, h.txt.below hb, OwnL.below h.own hb, h.turn.then_ hb, h.base.below hb, h.r0.below hb, h.r1.below hb, h.ge, h.tb, h.tf, h.tg, h.tc, h.gb, h.gf, h.off, h.lt, h.fcs⟩
theorem SoT.says (h : SoT w a n H S p m hh Fp M Gi b B i fa fc tv L0 c0 c1 W) (hi : 1 ≤ i ∧ i ≤ n) (hL : ∀ x ∈ L0, ∃ j : Nat, (1 ≤ j ∧ j ≤ n) ∧ x = j) :
    SaysI 39 #[ptrV c0, ptrV c1] (fun x => !clearN H n S i x.toNat) L0 (fun k => tv.ownBlock = some k) W := by
  refine ⟨enters_sound, fun x hx W' ht => ?_⟩
  obtain ⟨j, hj, rfl⟩ := hL x hx
  have hlt := h.lt
  have hoff : ∀ k, k < w.heap.size → (∀ (_ : Gi k), False) → ¬ tv.ownBlock = some k := fun k hk hg e => (h.tg k e).elim hg (fun hge => by omega)
  have hb := h.base.turn ht (hoff a hlt.1 fun e => (h.off a e).1 rfl) (hoff m hlt.2.1 fun e => (h.off m e).2.1 rfl) (fun k hk => hoff k (hlt.2.2.2 k hk) fun e => (h.off k e).2.2.2 hk)
  have := csound1 hb c0 c1 i j hi hj (h.r0.turn ht h.tc.1) (h.r1.turn ht h.tc.2)
  exact this
theorem SoT.del (h : SoT w a n H S p m hh Fp M Gi b B i fa fc tv L0 c0 c1 W) (ho : OwnN15 W5 0 v' L') (hob : v'.ownBlock = tv.ownBlock) (ht : Turn (fun k => tv.ownBlock = some k) W W5) :
    (W5.cell? ⟨b, 4, none⟩ = some tv ∧ W5.frozen? ⟨b, 4, none⟩ = false) ∧ ∃ G', SoU w Gi a b B i fa fc v' L' c0 c1 G' (W5.setCell ⟨b, 4, none⟩ v') := by
  have hr := h.row.turn ht h.tb
  have hg := h.ge
  have hlt := h.lt
  refine ⟨⟨hr.cell 4 rfl, (hr.get 4 rfl).free⟩, fun k => k = b ∨ (∃ q, fa = some q ∧ q.block = k) ∨ v'.ownBlock = some k, ?_⟩
  have hr6 := hr.put 4 v' _ rfl
  have ht5 : AtL encS W5 fa B.frames := h.txt.turn ht fun q hq => (h.tf q hq).2.2
  have ht6 : AtL encS (W5.setCell ⟨b, 4, none⟩ v') fa B.frames := ht5.set v' fun q hq => (h.tf q hq).2.1
  have ho6 : OwnN15 (W5.setCell ⟨b, 4, none⟩ v') 0 v' L' := OwnL.same ho fun k e => Below.heap_setCell _ _ _ _ (show k ≠ b from fun q => h.tb (by rw [← hob, e, q]))
  have hsz : (W5.setCell ⟨b, 4, none⟩ v').heap.size = W5.heap.size := by simp [World.setCell]
  have hws : w.heap.size ≤ W5.heap.size := Nat.le_trans h.turn.size ht.size
  refine ⟨⟨fa, fc, v', hr6, h.fcs, ht6, fun q hq => ⟨by rw [hsz]; exact Nat.lt_of_lt_of_le (h.tf q hq).1 hws, (h.tf q hq).2.1, by rw [hob]; exact (h.tf q hq).2.2⟩, ho6, by rw [hob]; exact h.tb, rfl⟩, ?_, ?_, hr6, ht6, ho6,
    (h.r0.turn ht h.tc.1).other _ (by omega), (h.r1.turn ht h.tc.2).other _ (by omega)⟩
  · exact (Turn.trans h.turn ht fun k hk => h.tg k hk).set (p := ⟨b, 4, none⟩) (Or.inl h.gb) v'
  · rintro k (rfl | ⟨q, hq, rfl⟩ | e)
    · exact Or.inl h.gb
    · exact Or.inl (h.gf q hq)
    · exact h.tg k (by rw [← hob]; exact e)
end
/-- the air behind it -/
theorem SoU.air {w W : World} {a n : Nat} {H : Nat → Nat → Bool} {S : Ai} {p m hh : Nat} {Fp : Nat → Prop} {M : Nat → Option Nat} {G : Nat → Nat → Prop} {T : Nat → List Int} {b : Nat} {B : Bu} {i : Nat} {fa : Option Addr} {fc : Nat} {tv : Value} {L : List Int} {c0 c1 : Nat} {G' : Nat → Prop}
    (h : AirAt w a n H S p m hh Fp M G T) (hM : M i = some b) (hS : S i = some B) (hok : BuOk B) (k : SoU w (G i) a b B i fa fc tv L c0 c1 G' W) : AirAt W a n H S p m hh Fp M (fun k => if k = i then G' else G k) (fun k => if k = i then L else T k) := by
  have := h.turn i b hM k.turn B L G' k.bu hok k.grew
  have e : (fun k => if k = i then some B else S k) = S := by
    funext k
    by_cases e : k = i
    · rw [if_pos e, e, hS]
    · rw [if_neg e]
  rw [e] at this
  exact this
/-- in the loop over the takers -/
structure LoAt (a n : Nat) (H : Nat → Nat → Bool) (S : Ai) (p m hh : Nat) (Fp : Nat → Prop) (M : Nat → Option Nat) (G : Nat → Nat → Prop) (T : Nat → List Int) (b : Nat) (B : Bu) (i : Nat) (fa : Option Addr) (fc : Nat) (tv : Value) (L : List Int) (c0 c1 : Nat) (W : World) : Prop where
  air : AirAt W a n H S p m hh Fp M G T
  row : RowAt W b [.int .i64 B.lead, .int .i64 B.tail, .slice fa B.frames.length fc, .int .i64 B.went, tv]
  txt : AtL encS W fa B.frames
  own : OwnN15 W 0 tv L
  r0 : RowAt W c0 [ptrV a]
  r1 : RowAt W c1 [.int .i64 i]
theorem LoAt.below {a n : Nat} {H : Nat → Nat → Bool} {S : Ai} {p m hh : Nat} {Fp : Nat → Prop} {M : Nat → Option Nat} {G : Nat → Nat → Prop} {T : Nat → List Int} {b : Nat} {B : Bu} {i : Nat} {fa : Option Addr} {fc : Nat} {tv : Value} {L : List Int} {c0 c1 : Nat} {W W' : World}
    (h : LoAt a n H S p m hh Fp M G T b B i fa fc tv L c0 c1 W) (hb : Below W.heap.size W W') : LoAt a n H S p m hh Fp M G T b B i fa fc tv L c0 c1 W' :=
  ⟨h.air.below hb, h.row.below hb, h.txt.below hb, OwnL.below h.own hb, h.r0.below hb, h.r1.below hb⟩
/-- what comes to some takers -/
def gotsL (i : Nat) (f : ByteArray) (L : List Int) : List Gt := L.map fun x => ⟨i, x.toNat, f⟩
theorem gots_next (i : Nat) (f : ByteArray) (L : List Int) (k : Nat) (hk : k < L.length) : gotsL i f (L.take (k + 1)) = gotsL i f (L.take k) ++ [⟨i, (L[k]).toNat, f⟩] := by
  unfold gotsL
  rw [List.take_succ_eq_append_getElem hk, List.map_append]
  rfl
theorem gots_takers (i : Nat) (f : ByteArray) (n : Nat) (c : Nat → Bool) : gotsL i f (takersL n c) = (((List.range n).map (· + 1)).filter c).map fun j => ⟨i, j, f⟩ := by
  unfold gotsL takersL
  rw [List.map_map]
  apply List.map_congr_left
  intro j _
  simp
theorem takers_in (n : Nat) (c : Nat → Bool) : ∀ x ∈ takersL n c, ∃ j : Nat, (1 ≤ j ∧ j ≤ n) ∧ x = j := by
  intro x hx
  unfold takersL at hx
  obtain ⟨j, hj, rfl⟩ := List.mem_map.1 hx
  obtain ⟨k, hk, rfl⟩ := List.mem_map.1 (List.mem_filter.1 hj).1
  rw [List.mem_range] at hk
  exact ⟨k + 1, by omega, rfl⟩
theorem keep_takers (n : Nat) (c d : Nat → Bool) : keepI (fun x => !d x.toNat) (takersL n c) = takersL n fun j => c j && d j := by
  unfold keepI takersL
  rw [List.filter_map, List.filter_filter]
  congr 1
  apply List.filter_congr
  intro j _
  simp [Function.comp, Bool.and_comm]
theorem clear_first (H : Nat → Nat → Bool) (n : Nat) (S : Ai) (i : Nat) (B : Bu) (hi : 1 ≤ i ∧ i ≤ n) (hs : (S i).isSome = true) (hw : B.went = 0) : (takersL n fun j => H j i && clearN H n S i j) = takersL n (clearB H n S i B) := by
  congr 1
  funext j
  unfold clearB
  rw [clear_plain H n S i hi hs j, decide_eq_true hw, Bool.true_or, Bool.true_and]
  cases H j i <;> simp
theorem clear_next (H : Nat → Nat → Bool) (n : Nat) (S : Ai) (i : Nat) (B : Bu) (hi : 1 ≤ i ∧ i ≤ n) (hs : (S i).isSome = true) (hw : 0 < B.went) : (takersL n fun j => B.clear j && clearN H n S i j) = takersL n (clearB H n S i B) := by
  congr 1
  funext j
  unfold clearB
  rw [clear_plain H n S i hi hs j, decide_eq_false (by omega), Bool.false_or]
end Go.Proofs.Ytgfipndilngfbaa
