/-
The document's digipeater: For; the law's made, great.
Any number of cells in a row, in a block of their own, as a list of what they hold.
What a call wrote: some blocks, and new ones. For a thing that keeps its state in blocks of its own.
Slices of anything that takes so many cells: of the call's own, and as one may read them; one more behind them.
A slice of the call's own, one of its elements written in place; an append that has room; what an append leaves as it was.
-/
import Derived.Test.YtikabflmgckdnaaDoorMix29
import Derived.Test.YtikabflmgckdnaaDoorMix00
import Derived.Maps.AppendAt
import Derived.ArgAppend
namespace Go.Proofs.YtikabflmgckdnaaDoor
open Go.RowKit Go.Sort
set_option maxRecDepth 20000
set_option maxHeartbeats 2000000 in
theorem rfor18 (cb : ByteArray) (cn : Int) (s : ByteArray) (w : World) (hs : s.size ≤ 100000) : Calls Tryd.prog 14 #[.agg #[.string cb, .int .i64 cn], .string s] w fun e w' => e = .returned (.bool (forD (cb, cn) s.data.toList)) ∧ Below w.heap.size w w' := by
  have HDE := Lib.hid (fun W => rdecs18 s W hs)
  have HB0 := Lib.hid ((Below.refl w.heap.size w).alloc (Nat.le_refl _) (.cells #[.string cb, .int .i64 cn] 23))
  have HC0 := Lib.hid (show (w.alloc (.cells #[.string cb, .int .i64 cn] 23)).cell? ⟨w.heap.size, 0, none⟩ = some (.string cb) ∧ (w.alloc (.cells #[.string cb, .int .i64 cn] 23)).cell? ⟨w.heap.size, 1, none⟩ = some (.int .i64 cn) from ⟨World.cell?_alloc_at _ _ _ _ rfl, World.cell?_alloc_at _ _ _ _ rfl⟩)
  have HLT := Lib.hid (show w.heap.size < (w.alloc (.cells #[.string cb, .int .i64 cn] 23)).heap.size from by simp)
  cases hd : decB s.data.toList with
  | false =>
    have e : forD (cb, cn) s.data.toList = false := by unfold forD; rw [hd]; rfl
    rw [e]
    rw [hd] at HDE
    clear hd e
    go_enter Tryd.func14, Tryd.ntmps14
    go_wp2_with (go_at_call 17; (with_reducible refine (HDE.out _).mono ?_); rintro e w1 ⟨rfl, hb⟩; have HB1 := Lib.hid (HB0.out.trans (hb.mono HB0.out.size)); clear hb)
    exact bodyPost_ret (v := .bool false) (by simp [results, Tryd.results14, go_sem]) rfl ⟨rfl, HB1.out⟩
  | true =>
    have HG := Lib.hid (fun W => rget18 s hd W)
    obtain ⟨hr, hby⟩ := read_path s.data.toList (decB_get hd)
    obtain ⟨hr1, hr2, hr3, -⟩ := right_path _ hr
    rw [hd] at HDE
    have HNX := Lib.hid (fun ga gc W hE => rnext_any ga gc (pathL s.data.toList) W (by omega) hr2 hE)
    obtain ⟨x, hx⟩ : ∃ x, (pathL s.data.toList)[0]? = some x := ⟨_, List.getElem?_eq_getElem (by omega)⟩
    obtain ⟨r, hrr⟩ : ∃ r, forD (cb, cn) s.data.toList = r := ⟨_, rfl⟩
    have hfo : r = (decide ((x.1, x.2.1) = (cb, cn)) && decide ((pathL s.data.toList)[2 + fstD ((pathL s.data.toList).drop 2)]? = none)) := by
      rw [← hrr]
      unfold forD
      rw [hd, hx, Bool.true_and]
    have hnn : decide (nxtD (pathL s.data.toList) < 0) = decide ((pathL s.data.toList)[2 + fstD ((pathL s.data.toList).drop 2)]? = none) := by
      cases hq : (pathL s.data.toList)[2 + fstD ((pathL s.data.toList).drop 2)]? with
      | none => rw [nxt_no _ hq hr2]; rfl
      | some y => rw [nxt_yes _ y hq, decide_eq_false (by omega), decide_eq_false (by simp)]
    rw [← hnn] at hfo
    rw [hrr]
    have HX := Lib.hid hx
    have hxl : 0 < (pathL s.data.toList).length := by omega
    clear hd hr hby hr1 hnn hrr hx hr2 hr3
    generalize nxtD (pathL s.data.toList) = N at *
    generalize pathL s.data.toList = L at *
    obtain ⟨xb, xn, xm⟩ := x
    simp only at hfo
    have heq := fun W => run_eq_call18 xb cb xn cn W _ rfl
    generalize decide ((xb, xn) = (cb, cn)) = q at *
    go_enter Tryd.func14, Tryd.ntmps14
    go_upto_region 4 with (first
      | (go_at_call 17; (with_reducible refine (HDE.out _).mono ?_); rintro e w1 ⟨rfl, hb⟩; have HB1 := Lib.hid hb; clear hb)
      | (go_at_call 18; (with_reducible refine (HG.out _).mono ?_); rintro e w2 ⟨⟨ga, gc, rfl, hE⟩, hb⟩; have hb2 := HB1.out.trans (hb.mono HB1.out.size); have HB2 := Lib.hid (hb2.alloc hb2.size (.cells #[.slice ga L.length gc] 46)); have HE := Lib.hid (hE.alloc (.cells #[.slice ga L.length gc] 46)); clear hb hb2 hE))
    obtain ⟨ge, oe, rfl, hge, d0, d1, d2⟩ := HE.out.at_ 0 hxl
    have hxe : L[0] = (xb, xn, xm) := by
      have := HX.out
      rw [List.getElem?_eq_getElem hxl] at this
      exact Option.some.inj this
    rw [hxe] at d0 d1
    simp only [Nat.zero_mul, Nat.add_zero] at d0 d1
    have k0 : (w2.alloc (.cells #[.slice (some ⟨ge, oe, none⟩) L.length gc] 46)).cell? ⟨w2.heap.size, 0, none⟩ = some (.slice (some ⟨ge, oe, none⟩) L.length gc) := World.cell?_alloc_at _ _ _ _ rfl
    have k1 := (HB2.out.cell (p := ⟨w.heap.size, 0, none⟩) HLT.out).trans HC0.out.1
    have k2 := (HB2.out.cell (p := ⟨w.heap.size, 1, none⟩) HLT.out).trans HC0.out.2
    have z0 := fun d os => cell_regrown d0 d os
    have z1 := fun d os => cell_regrown d1 d os
    have z2 := fun d os => cell_regrown k0 d os
    have z3 := fun d os => cell_regrown k1 d os
    have z4 := fun d os => cell_regrown k2 d os
    have HNY := Lib.hid (fun d os => HNX.out (some ⟨ge, oe, none⟩) gc (grow (redrawn (w2.alloc (.cells #[.slice (some ⟨ge, oe, none⟩) L.length gc] 46)) d) os) (HE.out.below (below_regrown _ d os)))
    clear d0 d1 d2 k0 k1 k2 hxe
    cases q with
    | true =>
      rw [Bool.true_and] at hfo
      refine wp_region_quiet_below (by kernel_rfl) (by kernel_rfl) ?_
      repeat (quiet_step (first
        | (go_at_call 19; with_reducible exact Calls.regrown_of (HNY.out _ _))))
      refine wpQuiet_nil ?_
      intro _ hw'
      obtain ⟨pg, hw''⟩ := hw'
      subst hw''
      have HBE := Lib.hid (HB0.out.trans ((HB2.out.trans ((below_regrown (w2.alloc (.cells #[.slice (some ⟨ge, oe, none⟩) L.length gc] 46)) pg.d pg.os).mono HB2.out.size)).mono HB0.out.size))
      generalize grow (redrawn (w2.alloc (.cells #[.slice (some ⟨ge, oe, none⟩) L.length gc] 46)) pg.d) pg.os = w9 at *
      go_wp2_with fail
      exact bodyPost_ret (v := .bool r) (by simp [results, Tryd.results14, go_sem, hfo]) rfl ⟨rfl, HBE.out⟩
    | false =>
      rw [Bool.false_and] at hfo
      refine wp_region_quiet_below (by kernel_rfl) (by kernel_rfl) ?_
      repeat (quiet_step (first
        | (go_at_call 19; with_reducible exact Calls.regrown_of (HNY.out _ _))))
      refine wpQuiet_nil ?_
      intro _ hw'
      obtain ⟨pg, hw''⟩ := hw'
      subst hw''
      have HBE := Lib.hid (HB0.out.trans ((HB2.out.trans ((below_regrown (w2.alloc (.cells #[.slice (some ⟨ge, oe, none⟩) L.length gc] 46)) pg.d pg.os).mono HB2.out.size)).mono HB0.out.size))
      generalize grow (redrawn (w2.alloc (.cells #[.slice (some ⟨ge, oe, none⟩) L.length gc] 46)) pg.d) pg.os = w9 at *
      go_wp2_with fail
      exact bodyPost_ret (v := .bool r) (by simp [results, Tryd.results14, go_sem, hfo]) rfl ⟨rfl, HBE.out⟩
end Go.Proofs.YtikabflmgckdnaaDoor
namespace Go.Proofs.YtikabflmgckdnaaDoor
open Go.RowKit
def RowAt (W : World) (m : Nat) (L : List Value) : Prop := ∀ i v, L[i]? = some v → KeepAt W m i v
theorem RowAt.new (w : World) (m : Nat) (hm : m = w.heap.size) (L : List Value) (T : TypeId) : RowAt (w.alloc (.cells L.toArray T)) m L := by
  subst hm
  intro i v h
  exact ⟨(World.cell?_alloc_at _ _ _ _ rfl).trans (by simpa using h), World.frozen?_alloc_at _ _ _ _ rfl, by simp⟩
theorem RowAt.get {W : World} {m : Nat} {L : List Value} (h : RowAt W m L) (i : Nat) {v : Value} (e : L[i]? = some v) : KeepAt W m i v := h i v e
theorem RowAt.cell {W : World} {m : Nat} {L : List Value} (h : RowAt W m L) (i : Nat) {v : Value} (e : L[i]? = some v) : W.cell? ⟨m, i, none⟩ = some v := (h i v e).cell
theorem RowAt.block {W W' : World} {m : Nat} {L : List Value} (h : RowAt W m L) (hb : W'.heap[m]? = W.heap[m]?) (hs : W.heap.size ≤ W'.heap.size) : RowAt W' m L := fun i v e => (h i v e).block hb hs
theorem RowAt.below {W W' : World} {m : Nat} {L : List Value} (h : RowAt W m L) (hb : Below W.heap.size W W') : RowAt W' m L := fun i v e => (h i v e).below hb
theorem RowAt.drew {W : World} {m : Nat} {L : List Value} (h : RowAt W m L) : RowAt W.drew m L := fun i v e => (h i v e).drew
theorem RowAt.alloc {W : World} {m : Nat} {L : List Value} (h : RowAt W m L) (x : Obj) : RowAt (W.alloc x) m L := fun i v e => (h i v e).alloc x
theorem RowAt.other {W : World} {m g p : Nat} {L : List Value} (h : RowAt W m L) (v : Value) (hg : g ≠ m) : RowAt (W.setCell ⟨g, p, none⟩ v) m L := fun i u e => (h i u e).other v hg
theorem RowAt.put {W : World} {m : Nat} {L : List Value} (h : RowAt W m L) (p : Nat) (v : Value) (L' : List Value) (e : L' = L.set p v) : RowAt (W.setCell ⟨m, p, none⟩ v) m L' := by
  subst e
  intro i u e
  rw [List.getElem?_set] at e
  by_cases hp : p = i
  · subst hp
    by_cases hl : p < L.length
    · rw [if_pos rfl, if_pos hl] at e
      obtain rfl := Option.some.inj e
      exact (h p L[p] (List.getElem?_eq_getElem hl)).put _
    · rw [if_pos rfl, if_neg hl] at e
      cases e
  · rw [if_neg hp] at e
    exact (h i u e).set v hp
end Go.Proofs.YtikabflmgckdnaaDoor
namespace Go.Proofs.YtikabflmgckdnaaDoor
open Go.RowKit
/-- of the blocks that were there those of F alone were written -/
structure Turn (F : Nat → Prop) (w w' : World) : Prop where
  os : w'.os = w.os
  tape : w'.tape = w.tape
  output : w'.output = w.output
  size : w.heap.size ≤ w'.heap.size
  block : ∀ k, k < w.heap.size → ¬ F k → w'.heap[k]? = w.heap[k]?
/-- the blocks of a state behind a call: those of before, or new ones -/
def Grew (F F' : Nat → Prop) (w : World) : Prop := ∀ k, F' k → F k ∨ w.heap.size ≤ k
theorem Turn.refl (F : Nat → Prop) (w : World) : Turn F w w := ⟨rfl, rfl, rfl, Nat.le_refl _, fun _ _ _ => rfl⟩
theorem Turn.of_below {F : Nat → Prop} {w w' : World} (h : Below w.heap.size w w') : Turn F w w' := ⟨h.os, h.tape, h.output, h.size, fun k hk _ => h.block k hk⟩
theorem Turn.trans {F F' : Nat → Prop} {a b c : World} (h : Turn F a b) (k : Turn F' b c) (hg : Grew F F' a) : Turn F a c :=
  ⟨k.os.trans h.os, k.tape.trans h.tape, k.output.trans h.output, Nat.le_trans h.size k.size, fun i hi hF => (k.block i (Nat.lt_of_lt_of_le hi h.size) (fun hf => (hg i hf).elim hF (fun hge => by omega))).trans (h.block i hi hF)⟩
theorem Grew.refl (F : Nat → Prop) (w : World) : Grew F F w := fun _ h => Or.inl h
theorem Grew.trans {F F' F'' : Nat → Prop} {a b : World} (h : Grew F F' a) (k : Grew F' F'' b) (hs : a.heap.size ≤ b.heap.size) : Grew F F'' a := fun i hi => (k i hi).elim (h i) (fun hge => Or.inr (Nat.le_trans hs hge))
theorem Grew.other {F F' : Nat → Prop} {w : World} {k : Nat} (h : Grew F F' w) (hk : ¬ F k) (hw : k < w.heap.size) : ¬ F' k := fun hf => (h k hf).elim hk (fun hge => by omega)
theorem Grew.ge {F F' : Nat → Prop} {w : World} {B : Nat} (h : Grew F F' w) (hF : ∀ k, F k → B ≤ k) (hw : B ≤ w.heap.size) : ∀ k, F' k → B ≤ k := fun k hk => (h k hk).elim (hF k) (fun hge => Nat.le_trans hw hge)
/-- as 'below' -/
theorem Turn.below {F : Nat → Prop} {w w' : World} {B : Nat} (h : Turn F w w') (hB : B ≤ w.heap.size) (hF : ∀ k, F k → B ≤ k) : Below B w w' :=
  ⟨h.os, h.tape, h.output, h.size, fun k hk => h.block k (Nat.lt_of_lt_of_le hk hB) (fun hf => by have := hF k hf; omega)⟩
theorem Turn.cell {F : Nat → Prop} {w w' : World} {p : Addr} (h : Turn F w w') (hp : p.block < w.heap.size) (hF : ¬ F p.block) : w'.cell? p = w.cell? p := World.cell?_of_block (a := p) (h.block p.block hp hF)
theorem Turn.set {F : Nat → Prop} {a W : World} (h : Turn F a W) {p : Addr} (hp : F p.block ∨ a.heap.size ≤ p.block) (v : Value) : Turn F a (W.setCell p v) :=
  ⟨h.os, h.tape, h.output, by simpa [World.setCell] using h.size, fun k hk hF => (Below.heap_setCell _ _ _ _ (fun e => hp.elim (fun hf => hF (by rw [e]; exact hf)) (fun hge => by omega))).trans (h.block k hk hF)⟩
theorem Turn.then_ {F : Nat → Prop} {a W W' : World} (h : Turn F a W) (hb : Below W.heap.size W W') : Turn F a W' :=
  ⟨hb.os.trans h.os, hb.tape.trans h.tape, hb.output.trans h.output, Nat.le_trans h.size hb.size, fun k hk hF => (hb.block k (Nat.lt_of_lt_of_le hk h.size)).trans (h.block k hk hF)⟩
theorem Turn.alloc {F : Nat → Prop} {a W : World} (h : Turn F a W) (o : Obj) : Turn F a (W.alloc o) := h.then_ ((Below.refl _ W).alloc (Nat.le_refl _) o)
theorem Turn.drew {F : Nat → Prop} {a W : World} (h : Turn F a W) : Turn F a W.drew := ⟨h.os, h.tape, h.output, h.size, h.block⟩
theorem RowAt.turn {F : Nat → Prop} {w w' : World} {m : Nat} {L : List Value} (h : RowAt w m L) (ht : Turn F w w') (hF : ¬ F m) : RowAt w' m L := fun i v e => (h i v e).block (ht.block m (h i v e).lt hF) ht.size
theorem RowAt.lt {w : World} {m : Nat} {v : Value} {L : List Value} (h : RowAt w m (v :: L)) : m < w.heap.size := (h 0 v rfl).lt
/-- what is told of blocks stays, if they do -/
def SameOn (F : Nat → Prop) (w w' : World) : Prop := w.heap.size ≤ w'.heap.size ∧ ∀ k, F k → w'.heap[k]? = w.heap[k]?
theorem SameOn.of_below {F : Nat → Prop} {w w' : World} (h : Below w.heap.size w w') (hF : ∀ k, F k → k < w.heap.size) : SameOn F w w' := ⟨h.size, fun k hk => h.block k (hF k hk)⟩
theorem SameOn.of_set {F : Nat → Prop} {w : World} {p : Addr} (hF : ¬ F p.block) (v : Value) : SameOn F w (w.setCell p v) :=
  ⟨by simp [World.setCell], fun k hk => Below.heap_setCell _ _ _ _ (fun e => hF (e ▸ hk))⟩
theorem SameOn.trans {F : Nat → Prop} {a b c : World} (h : SameOn F a b) (k : SameOn F b c) : SameOn F a c := ⟨Nat.le_trans h.1 k.1, fun i hi => (k.2 i hi).trans (h.2 i hi)⟩
end Go.Proofs.YtikabflmgckdnaaDoor
namespace Go.Proofs.YtikabflmgckdnaaDoor
open Go.RowKit
/-- how a thing lies: so many cells -/
structure Enc (α : Type) where
  n : Nat
  pos : 0 < n
  enc : α → List Value
  len : ∀ a, (enc a).length = n
  one : ∀ a, ∀ u ∈ enc a, u.oneCell' = true
variable {α : Type}
def flatE (E : Enc α) (L : List α) : List Value := L.flatMap E.enc
theorem flatE_length (E : Enc α) : ∀ L : List α, (flatE E L).length = L.length * E.n
  | [] => by simp [flatE]
  | a :: L => by
    have ih := flatE_length E L
    unfold flatE at ih ⊢
    rw [List.flatMap_cons, List.length_append, E.len, ih, List.length_cons, Nat.add_mul]
    omega
theorem flatE_append (E : Enc α) (L M : List α) : flatE E (L ++ M) = flatE E L ++ flatE E M := by simp [flatE]
theorem flatE_single (E : Enc α) (a : α) : flatE E [a] = E.enc a := by simp [flatE]
theorem flatE_at (E : Enc α) : ∀ (L : List α) (k : Nat) (hk : k < L.length) (j : Nat), j < E.n → (flatE E L)[k * E.n + j]? = (E.enc L[k])[j]?
  | a :: L, 0, _, j, hj => by
    unfold flatE
    rw [List.flatMap_cons, List.getElem?_append_left (by rw [E.len]; omega)]
    simp
  | a :: L, k + 1, hk, j, hj => by
    have ih := flatE_at E L k (by simpa using hk) j hj
    unfold flatE at ih ⊢
    rw [List.flatMap_cons, List.getElem?_append_right (by rw [E.len, Nat.add_mul]; omega), E.len]
    rw [show (k + 1) * E.n + j - E.n = k * E.n + j by rw [Nat.add_mul]; omega]
    simpa using ih
/-- a slice of the call's own -/
def OwnL (E : Enc α) (T : TypeId) (w : World) (B : Nat) (v : Value) (L : List α) : Prop := w.ownsRow B T E.n v L.length (flatE E L)
theorem OwnL.nil (E : Enc α) (T : TypeId) (w : World) (B : Nat) : OwnL E T w B (.slice none 0 0) [] := ⟨by simp [flatE], Or.inl ⟨rfl, rfl⟩⟩
theorem OwnL.ge {E : Enc α} {T : TypeId} {w : World} {B g : Nat} {v : Value} {L : List α} (h : OwnL E T w B v L) (hv : v.ownBlock = some g) : B ≤ g ∧ g < w.heap.size := World.ownsRow.lt h g hv
theorem OwnL.base {E : Enc α} {T : TypeId} {w : World} {B B' : Nat} {v : Value} {L : List α} (h : OwnL E T w B v L) (hB : B' ≤ B) : OwnL E T w B' v L := by
  refine ⟨h.1, ?_⟩
  rcases h.2 with h0 | ⟨g, cap, cur, hv, hbg, rest⟩
  · exact Or.inl h0
  · exact Or.inr ⟨g, cap, cur, hv, Nat.le_trans hB hbg, rest⟩
theorem OwnL.same {E : Enc α} {T : TypeId} {w w' : World} {B : Nat} {v : Value} {L : List α} (h : OwnL E T w B v L) (hb : ∀ g, v.ownBlock = some g → w'.heap[g]? = w.heap[g]?) : OwnL E T w' B v L := by
  refine ⟨h.1, ?_⟩
  rcases h.2 with h0 | ⟨g, cap, cur, hv, hbg, hg, rest⟩
  · exact Or.inl h0
  · exact Or.inr ⟨g, cap, cur, hv, hbg, by rw [hb g (by rw [hv]; rfl)]; exact hg, rest⟩
theorem OwnL.below {E : Enc α} {T : TypeId} {w w' : World} {B : Nat} {v : Value} {L : List α} (h : OwnL E T w B v L) (hb : Below w.heap.size w w') : OwnL E T w' B v L := h.same fun g hv => hb.block g (h.ge hv).2
theorem OwnL.turn {E : Enc α} {T : TypeId} {F : Nat → Prop} {w w' : World} {B : Nat} {v : Value} {L : List α} (h : OwnL E T w B v L) (hb : Turn F w w') (hF : ∀ g, v.ownBlock = some g → ¬ F g) : OwnL E T w' B v L := h.same fun g hv => hb.block g (h.ge hv).2 (hF g hv)
theorem OwnL.alloc {E : Enc α} {T : TypeId} {w : World} {B : Nat} {v : Value} {L : List α} (h : OwnL E T w B v L) (o : Obj) : OwnL E T (w.alloc o) B v L := World.ownsRow.alloc h o
theorem OwnL.drew {E : Enc α} {T : TypeId} {w : World} {B : Nat} {v : Value} {L : List α} (h : OwnL E T w B v L) : OwnL E T w.drew B v L := h
theorem OwnL.grown {E : Enc α} {T : TypeId} {w w' : World} {B : Nat} {v : Value} {L : List α} {row : Option Nat} (h : OwnL E T w B v L) (hg : w.grownBy w' row) (hr : ∀ g, v.ownBlock = some g → row ≠ some g) : OwnL E T w' B v L :=
  World.ownsRow.kept h hg (by
    cases hv : v.ownBlock with
    | none => exact Or.inl rfl
    | some g => exact Or.inr (fun e => hr g hv e.symm))
/-- as one may read it -/
def AtL (E : Enc α) (w : World) (a : Option Addr) (L : List α) : Prop :=
  ∀ k (hk : k < L.length), ∃ g o, a = some ⟨g, o, none⟩ ∧ g < w.heap.size ∧ ∀ j u, (E.enc L[k])[j]? = some u → w.cell? ⟨g, o + k * E.n + j, none⟩ = some u
def SeeL (E : Enc α) (w : World) (v : Value) (L : List α) : Prop := ∃ a cap, v = .slice a L.length cap ∧ AtL E w a L
theorem AtL.nil (E : Enc α) (w : World) (a : Option Addr) : AtL E w a ([] : List α) := fun k hk => by simp at hk
theorem AtL.same {E : Enc α} {w w' : World} {a : Option Addr} {L : List α} (h : AtL E w a L) (hb : ∀ p, a = some p → w'.heap[p.block]? = w.heap[p.block]?) (hs : w.heap.size ≤ w'.heap.size) : AtL E w' a L := by
  intro k hk
  obtain ⟨g, o, ha, hg, hc⟩ := h k hk
  refine ⟨g, o, ha, Nat.lt_of_lt_of_le hg hs, fun j u hj => ?_⟩
  exact (World.cell?_of_block (a := ⟨g, o + k * E.n + j, none⟩) (hb ⟨g, o, none⟩ ha)).trans (hc j u hj)
theorem AtL.below {E : Enc α} {w w' : World} {a : Option Addr} {L : List α} (h : AtL E w a L) (hb : Below w.heap.size w w') : AtL E w' a L := by
  intro k hk
  obtain ⟨g, o, ha, hg, hc⟩ := h k hk
  refine ⟨g, o, ha, Nat.lt_of_lt_of_le hg hb.size, fun j u hj => ?_⟩
  exact (World.cell?_of_block (a := ⟨g, o + k * E.n + j, none⟩) (hb.block g hg)).trans (hc j u hj)
theorem AtL.turn {E : Enc α} {F : Nat → Prop} {w w' : World} {a : Option Addr} {L : List α} (h : AtL E w a L) (hb : Turn F w w') (hF : ∀ p, a = some p → ¬ F p.block) : AtL E w' a L := by
  intro k hk
  obtain ⟨g, o, ha, hg, hc⟩ := h k hk
  refine ⟨g, o, ha, Nat.lt_of_lt_of_le hg hb.size, fun j u hj => ?_⟩
  exact (World.cell?_of_block (a := ⟨g, o + k * E.n + j, none⟩) (hb.block g hg (hF ⟨g, o, none⟩ ha))).trans (hc j u hj)
theorem AtL.set {E : Enc α} {w : World} {a : Option Addr} {L : List α} (h : AtL E w a L) {p : Addr} (v : Value) (hp : ∀ q, a = some q → q.block ≠ p.block) : AtL E (w.setCell p v) a L :=
  h.same (fun q hq => Below.heap_setCell _ _ _ _ (hp q hq)) (by simp [World.setCell])
theorem AtL.alloc {E : Enc α} {w : World} {a : Option Addr} {L : List α} (h : AtL E w a L) (o : Obj) : AtL E (w.alloc o) a L := h.below ((Below.refl _ w).alloc (Nat.le_refl _) o)
theorem AtL.drew {E : Enc α} {w : World} {a : Option Addr} {L : List α} (h : AtL E w a L) : AtL E w.drew a L := h
theorem AtL.some_ {E : Enc α} {w : World} {a : Option Addr} {L : List α} (h : AtL E w a L) (h0 : 0 < L.length) : ∃ g o, a = some ⟨g, o, none⟩ ∧ g < w.heap.size := by
  obtain ⟨g, o, ha, hg, _⟩ := h 0 h0
  exact ⟨g, o, ha, hg⟩
/-- a cell of one of them -/
theorem AtL.get {E : Enc α} {w : World} {g o : Nat} {L : List α} (h : AtL E w (some ⟨g, o, none⟩) L) (k : Nat) (hk : k < L.length) (j : Nat) {u : Value} (e : (E.enc L[k])[j]? = some u) : w.cell? ⟨g, o + k * E.n + j, none⟩ = some u := by
  obtain ⟨g', o', ha, _, hc⟩ := h k hk
  simp only [Option.some.injEq, Addr.mk.injEq, and_true] at ha
  obtain ⟨rfl, rfl⟩ := ha
  exact hc j u e
theorem SeeL.below {E : Enc α} {w w' : World} {v : Value} {L : List α} (h : SeeL E w v L) (hb : Below w.heap.size w w') : SeeL E w' v L := by
  obtain ⟨a, cap, hv, hA⟩ := h
  exact ⟨a, cap, hv, hA.below hb⟩
theorem OwnL.see {E : Enc α} {T : TypeId} {w : World} {B : Nat} {v : Value} {L : List α} (h : OwnL E T w B v L) : SeeL E w v L := by
  rcases h.2 with ⟨hv, h0⟩ | ⟨g, cap, cur, hv, hb, hg, hc, hm, rest⟩
  · obtain rfl : L = [] := List.length_eq_zero_iff.1 h0
    exact ⟨none, 0, hv, AtL.nil E w none⟩
  · refine ⟨some ⟨g, 0, none⟩, cap, hv, fun k hk => ⟨g, 0, rfl, (h.ge (by rw [hv]; rfl)).2, fun j u hj => ?_⟩⟩
    have hjn : j < E.n := by
      have := (List.getElem?_eq_some_iff.1 hj).1
      rwa [E.len] at this
    have hl := World.ownsRow.cells h (g := g) (by rw [hv]; rfl) (k * E.n + j) u (by rw [flatE_at E L k hk j hjn]; exact hj)
    have e : (⟨g, 0, none⟩ : Addr).add (k * E.n + j) = ⟨g, k * E.n + j, none⟩ := by unfold Addr.add; split <;> simp_all
    rw [e] at hl
    rw [Nat.zero_add]
    exact hl
/-- where an own slice's cells lie, if it has some -/
theorem OwnL.some_ {E : Enc α} {T : TypeId} {w : World} {B : Nat} {v : Value} {L : List α} (h : OwnL E T w B v L) (h0 : 0 < L.length) : ∃ g c, v = .slice (some ⟨g, 0, none⟩) L.length c ∧ B ≤ g ∧ g < w.heap.size ∧ AtL E w (some ⟨g, 0, none⟩) L := by
  rcases h.2 with ⟨_, h1⟩ | ⟨g, c, cur, hv, hb, _⟩
  · omega
  · subst hv
    obtain ⟨a, cap, hv, hA⟩ := h.see
    simp only [Value.slice.injEq] at hv
    obtain ⟨rfl, -, rfl⟩ := hv
    exact ⟨g, c, rfl, hb, (World.ownsRow.lt h g rfl).2, hA⟩
/-- things just laid, as a slice of the call's own -/
theorem OwnL.lit (E : Enc α) (T : TypeId) (w : World) (B : Nat) (L : List α) (V : List Value) (hV : V = flatE E L) (hB : B ≤ w.heap.size) (hl : L.length ≤ 100000) (n : Nat) (hn : n = L.length) :
    OwnL E T (w.alloc (.cells V.toArray T)) B (.slice (some ⟨w.heap.size, 0, none⟩) n n) L := by
  subst hV hn
  have := World.ownsRow_lit (base := B) (e := T) (size := E.n) w (flatE E L).toArray L.length hB (by unfold maxLen; omega) (by
    rw [List.size_toArray, flatE_length])
  exact this
/-- slices of unlike things lie apart -/
theorem OwnL.apart {β : Type} {E : Enc α} {E' : Enc β} {T T' : TypeId} {w : World} {B B' g : Nat} {v u : Value} {L : List α} {M : List β} (h : OwnL E T w B v L) (k : OwnL E' T' w B' u M) (hT : T ≠ T') (hv : v.ownBlock = some g) : u.ownBlock ≠ some g := by
  intro ht
  rcases h.2 with ⟨rfl, _⟩ | ⟨g1, cap, cur, rfl, _, hg, _⟩
  · cases hv
  · rcases k.2 with ⟨rfl, _⟩ | ⟨g2, cap2, cur2, rfl, _, hg2, _⟩
    · cases ht
    · simp only [Value.ownBlock, Option.some.injEq] at hv ht
      subst hv
      subst ht
      rw [hg] at hg2
      simp only [Option.some.injEq, Obj.cells.injEq] at hg2
      exact hT hg2.2.1
/-- one that has just been laid -/
theorem AtL.made (E : Enc α) (T : TypeId) (w : World) (m : Nat) (u : α) (V : List Value) (hV : V = E.enc u) (hm : m = w.heap.size) : AtL E (w.alloc (.cells V.toArray T)) (some ⟨m, 0, none⟩) [u] := by
  subst hV hm
  intro k hk
  obtain rfl : k = 0 := by simpa using hk
  refine ⟨w.heap.size, 0, rfl, by simp, fun j v hj => (World.cell?_alloc_at _ _ _ _ (by simp)).trans ?_⟩
  simpa using hj
/-- one more behind a slice of the call's own -/
theorem wpList_append_one (E : Enc α) (T S : TypeId) (hS : Tryd.prog.underlying S = some (.slice T)) {z : Value} {bytes : Nat} (hi : (Tryd.prog.info? T).map (fun i => (i.zero, i.size, i.bytes)) = some (some z, E.n, bytes)) (hz : z.cells.size = E.n) (hby : bytes ≤ 4096)
    (w : World) {ops : Array Oper} {rest : List Oper} {o : Oper} {a : Act} {Q : Exit → Act → World → Prop} (hgd : o.guard = none) (s x : Operand) (ho : o.op = .call { callee := .builtin .append, args := #[s, x], argTypes := #[S, S] })
    (B : Nat) (v : Value) (L : List α) (hs : a.eval s = v) (hown : OwnL E T w B v L) (m c : Nat) (hx : a.eval x = .slice (some ⟨m, 0, none⟩) 1 c) (u : α) (hm : AtL E w (some ⟨m, 0, none⟩) [u]) (hlen : L.length ≤ 100000) (hB : B ≤ w.heap.size)
    (h : ∀ v' w', OwnL E T w' B v' (L ++ [u]) → w.grownBy w' v.ownBlock → (v'.ownBlock = v.ownBlock ∨ v'.ownBlock = some w.heap.size) → wpList Tryd.prog ops Q rest (a.put o.dst v') w') : wpList Tryd.prog ops Q (o :: rest) a w := by
  refine wpList_plain hgd fun K hK => ?_
  obtain ⟨i0, hi0, hz0, hz1, hz2⟩ := info_parts hi
  obtain ⟨v', w', hr, h2, h3, h4, h5⟩ := run_append_own_at (P := Tryd.prog) w B S o.type T i0 z E.n bytes hS hi0 hz0 hz1 hz2 hz E.pos v L.length (flatE E L) hown ⟨m, 0, none⟩ 1 c (E.enc u) (by rw [E.len, Nat.one_mul]) (fun j y hj => by
    have := hm.get 0 (by simp) j hj
    have e : (⟨m, 0, none⟩ : Addr).add j = ⟨m, j, none⟩ := by unfold Addr.add; split <;> simp_all
    rw [e]
    simpa using this) (E.one u) (by unfold maxLen; omega) (Nat.le_trans (Nat.mul_le_mul_left _ hby) (by omega)) hB
  unfold Oper.wp execOp
  simp only [ho, resolve, invoke, builtin, Sem.run_bind, Sem.run_pure, Result.andThen_ok, List.map_toArray, List.map_cons, List.map_nil, hs, hx, hr]
  exact hK _ _ (h v' w' (by unfold OwnL; rw [List.length_append, flatE_append, flatE_single]; exact h2) h3 h5)
/-- an append that runs so -/
theorem wp_append_run {P : Program} {t : TypeId} {w : World} {o : Oper} {a : Act} {Q : Exit → Act → World → Prop} {K : Act → World → Prop} (s x : Operand) (ho : o.op = .call { callee := .builtin .append, args := #[s, x], argTypes := #[t, t] })
    {vs vx v' : Value} {w' : World} (hs : a.eval s = vs) (hx : a.eval x = vx) (hr : (Builtin.append_ #[t, t] o.type #[vs, vx]).run P w = .ok v' w') (h : K (a.put o.dst v') w') : Oper.wp P o a w K Q := by
  unfold Oper.wp execOp
  simp only [ho, resolve, invoke, builtin, Sem.run_bind, Sem.run_pure, Result.andThen_ok, List.map_toArray, List.map_cons, List.map_nil, hs, hx, hr]
  exact h
theorem AtL.grown {E : Enc α} {w w' : World} {g o : Nat} {L : List α} {row : Option Nat} (h : AtL E w (some ⟨g, o, none⟩) L) (hg : w.grownBy w' row) (hr : row ≠ some g) (hl : g < w.heap.size) : AtL E w' (some ⟨g, o, none⟩) L :=
  h.same (fun p hp => by cases hp; exact hg.block g hl (fun e => hr e.symm)) hg.size
/-- one more thing behind an own slice -/
theorem run_append_one (E : Enc α) (T S : TypeId) (ty : TypeId) (hS : Tryd.prog.underlying S = some (.slice T)) {z : Value} {bytes : Nat} (hi : (Tryd.prog.info? T).map (fun i => (i.zero, i.size, i.bytes)) = some (some z, E.n, bytes)) (hz : z.cells.size = E.n) (hby : bytes ≤ 4096)
    (w : World) (B : Nat) (v : Value) (L : List α) (hown : OwnL E T w B v L) (m c : Nat) (u : α) (hm : AtL E w (some ⟨m, 0, none⟩) [u]) (hlen : L.length ≤ 100000) (hB : B ≤ w.heap.size) :
    ∃ v' w', (Builtin.append_ #[S, S] ty #[v, .slice (some ⟨m, 0, none⟩) 1 c]).run Tryd.prog w = .ok v' w' ∧ OwnL E T w' B v' (L ++ [u]) ∧ w.grownBy w' v.ownBlock ∧ (v'.ownBlock = v.ownBlock ∨ v'.ownBlock = some w.heap.size) := by
  obtain ⟨i0, hi0, hz0, hz1, hz2⟩ := info_parts hi
  obtain ⟨v', w', hr, h2, h3, h4, h5⟩ := run_append_own_at (P := Tryd.prog) w B S ty T i0 z E.n bytes hS hi0 hz0 hz1 hz2 hz E.pos v L.length (flatE E L) hown ⟨m, 0, none⟩ 1 c (E.enc u) (by rw [E.len, Nat.one_mul]) (fun j y hj => by
    have := hm.get 0 (by simp) j hj
    have e : (⟨m, 0, none⟩ : Addr).add j = ⟨m, j, none⟩ := by unfold Addr.add; split <;> simp_all
    rw [e]
    simpa using this) (E.one u) (by unfold maxLen; omega) (Nat.le_trans (Nat.mul_le_mul_left _ hby) (by omega)) hB
  exact ⟨v', w', hr, by unfold OwnL; rw [List.length_append, flatE_append, flatE_single]; exact h2, h3, h5⟩
/-- behind it -/
theorem OwnL.appended {E : Enc α} {T : TypeId} {w0 wr w1 : World} {b0 B : Nat} {v : Value} {L : List α} (h : OwnL E T wr B v L) (hb : Below b0 w0 wr) (hbB : b0 ≤ B) (hbw : b0 ≤ wr.heap.size) (hg : wr.grownBy w1 v.ownBlock) : Below b0 w0 w1 :=
  hb.grown hg hbw (fun _ hk => Nat.le_trans hbB (h.ge hk).1)
/-- texts -/
def encS : Enc ByteArray := ⟨1, by omega, fun b => [.string b], fun _ => rfl, fun _ u hu => by rw [List.mem_singleton.1 hu]; rfl⟩
/-- numbers -/
def encI : Enc Int := ⟨1, by omega, fun b => [.int .i64 b], fun _ => rfl, fun _ u hu => by rw [List.mem_singleton.1 hu]; rfl⟩
end Go.Proofs.YtikabflmgckdnaaDoor
namespace Go.Proofs.YtikabflmgckdnaaDoor
open Go.RowKit
set_option maxRecDepth 20000
/-- a block behind some stores in a row -/
theorem heap_setCells (g : Nat) (T : TypeId) : ∀ (vs : List Value) (o : Nat) (w : World) (cur : Array Value), w.heap[g]? = some (.cells cur T (0, 0)) →
    ∃ cur', (w.setCells g o vs).heap[g]? = some (.cells cur' T (0, 0)) ∧ cur'.size = cur.size ∧ ∀ x, x < cur.size → cur'[x]? = if o ≤ x ∧ x < o + vs.length then vs[x - o]? else cur[x]?
  | [], o, w, cur, h => ⟨cur, h, rfl, fun x _ => by rw [if_neg (by simp)]⟩
  | v :: r, o, w, cur, h => by
    have h1 := heap_setCell_same w g o cur T v h
    obtain ⟨cur', h2, h3, h4⟩ := heap_setCells g T r (o + 1) _ _ h1
    refine ⟨cur', h2, by rw [h3]; simp, fun x hx => ?_⟩
    rw [h4 x (by simpa using hx)]
    simp only [List.length_cons]
    by_cases ha : o + 1 ≤ x ∧ x < o + 1 + r.length
    · rw [if_pos ha, if_pos (by omega)]
      obtain ⟨y, hy⟩ : ∃ y, x - o = y + 1 := ⟨x - o - 1, by omega⟩
      rw [hy, List.getElem?_cons_succ]
      congr 1
      omega
    · rw [if_neg ha]
      by_cases hb : x = o
      · subst hb
        rw [if_pos (by omega), Nat.sub_self]
        simp [hx]
      · rw [if_neg (by omega), Array.getElem?_setIfInBounds_ne (fun e => hb e.symm)]
variable {α : Type}
/-- a list of cells is that of things, if each one is -/
theorem flatE_ext (E : Enc α) (L : List α) (xs : List Value) (hl : xs.length = L.length * E.n) (h : ∀ k (hk : k < L.length) j, j < E.n → xs[k * E.n + j]? = (E.enc L[k])[j]?) : xs = flatE E L := by
  apply List.ext_getElem?
  intro x
  have hn := E.pos
  by_cases hx : x < L.length * E.n
  · have hk : x / E.n < L.length := Nat.div_lt_of_lt_mul (by rw [Nat.mul_comm]; exact hx)
    have hj : x % E.n < E.n := Nat.mod_lt _ hn
    have e : x = x / E.n * E.n + x % E.n := by rw [Nat.mul_comm]; exact (Nat.div_add_mod x E.n).symm
    have h1 := h _ hk _ hj
    have h2 := flatE_at E L _ hk _ hj
    rw [← e] at h1 h2
    rw [h1, h2]
  · rw [List.getElem?_eq_none (by omega), List.getElem?_eq_none (by rw [flatE_length]; omega)]
/-- one of them written anew -/
theorem OwnL.setIn {E : Enc α} {T : TypeId} {w w' : World} {B g n c : Nat} {L : List α} (h : OwnL E T w B (.slice (some ⟨g, 0, none⟩) n c) L) (k : Nat) (a : α) (hk : k < L.length)
    (hw : ∀ cur, w.heap[g]? = some (.cells cur T (0, 0)) → L.length * E.n ≤ cur.size → ∃ cur', w'.heap[g]? = some (.cells cur' T (0, 0)) ∧ cur'.size = cur.size ∧ (∀ j, j < E.n → cur'[k * E.n + j]? = (E.enc a)[j]?) ∧ ∀ x, x < cur.size → x < k * E.n ∨ k * E.n + E.n ≤ x → cur'[x]? = cur[x]?) :
    OwnL E T w' B (.slice (some ⟨g, 0, none⟩) n c) (L.set k a) := by
  have hn : n = L.length := by
    rcases h.2 with ⟨h0, _⟩ | ⟨_, _, _, hv, _⟩
    · cases h0
    · simp only [Value.slice.injEq] at hv
      exact hv.2.1
  subst hn
  have hlen := h.1
  rcases h.2 with ⟨h0, _⟩ | ⟨g', cap, cur, hv, hb, hg, hc, hm, hs, ht⟩
  · cases h0
  · simp only [Value.slice.injEq, Option.some.injEq, Addr.mk.injEq, and_true] at hv
    obtain ⟨rfl, -, rfl⟩ := hv
    have hle : L.length * E.n ≤ cur.size := by rw [hs]; exact Nat.mul_le_mul_right _ hc
    obtain ⟨cur', h1, h2, h3, h4⟩ := hw cur hg hle
    refine ⟨by rw [flatE_length], ?_⟩
    refine Or.inr ⟨g, c, cur', by rw [List.length_set], hb, h1, by rw [List.length_set]; exact hc, hm, by rw [h2, hs], ?_⟩
    refine flatE_ext E _ _ ?_ fun i hi j hj => ?_
    · have hq : cur'.toList.length = cur.size := by simpa using h2
      rw [List.length_take, List.length_set, hq]
      omega
    · rw [List.length_set] at hi
      have hx : i * E.n + j < L.length * E.n := by
        have : (i + 1) * E.n ≤ L.length * E.n := Nat.mul_le_mul_right _ hi
        rw [Nat.add_mul, Nat.one_mul] at this
        omega
      rw [List.length_set, List.getElem?_take_of_lt hx, Array.getElem?_toList]
      by_cases hik : i = k
      · subst hik
        rw [h3 j hj, List.getElem_set_self]
      · have hout : i * E.n + j < k * E.n ∨ k * E.n + E.n ≤ i * E.n + j := by
          rcases Nat.lt_or_gt_of_ne hik with q | q
          · have : (i + 1) * E.n ≤ k * E.n := Nat.mul_le_mul_right _ q
            rw [Nat.add_mul, Nat.one_mul] at this
            omega
          · have : (k + 1) * E.n ≤ i * E.n := Nat.mul_le_mul_right _ q
            rw [Nat.add_mul, Nat.one_mul] at this
            omega
        rw [h4 _ (by omega) hout, List.getElem_set_ne (fun e => hik e.symm)]
        have h5 := flatE_at E L i hi j hj
        rw [← ht, List.getElem?_take_of_lt hx, Array.getElem?_toList] at h5
        exact h5
theorem OwnL.setAll {E : Enc α} {T : TypeId} {w : World} {B g n c : Nat} {L : List α} (h : OwnL E T w B (.slice (some ⟨g, 0, none⟩) n c) L) (k : Nat) (a : α) (hk : k < L.length) (o : Nat) (ho : o = k * E.n) : OwnL E T (w.setCells g o (E.enc a)) B (.slice (some ⟨g, 0, none⟩) n c) (L.set k a) := by
  subst ho
  refine h.setIn k a hk fun cur hg hle => ?_
  obtain ⟨cur', h1, h2, h3⟩ := heap_setCells g T (E.enc a) (k * E.n) w cur hg
  have hkn : (k + 1) * E.n ≤ L.length * E.n := Nat.mul_le_mul_right _ hk
  rw [Nat.add_mul, Nat.one_mul] at hkn
  refine ⟨cur', h1, h2, fun j hj => ?_, fun x hx hout => ?_⟩
  · rw [h3 _ (by omega), if_pos (by rw [E.len]; omega)]
    congr 1
    omega
  · rw [h3 x hx, if_neg (by rw [E.len]; omega)]
theorem OwnL.setOne {E : Enc α} {T : TypeId} {w : World} {B g n c : Nat} {L : List α} (h : OwnL E T w B (.slice (some ⟨g, 0, none⟩) n c) L) (k : Nat) (a : α) (hk : k < L.length) (j : Nat) (hj : j < E.n) (u : Value) (hu : (E.enc a)[j]? = some u) (hsame : ∀ i, i ≠ j → (E.enc a)[i]? = (E.enc L[k])[i]?) (o : Nat) (ho : o = k * E.n + j) :
    OwnL E T (w.setCell ⟨g, o, none⟩ u) B (.slice (some ⟨g, 0, none⟩) n c) (L.set k a) := by
  subst ho
  have hat := fun (i : Nat) (hi : i < E.n) => flatE_at E L k hk i hi
  have hall := h.2
  have hlen := h.1
  refine h.setIn k a hk fun cur hg hle => ?_
  have hkn : (k + 1) * E.n ≤ L.length * E.n := Nat.mul_le_mul_right _ hk
  rw [Nat.add_mul, Nat.one_mul] at hkn
  refine ⟨_, heap_setCell_same w g (k * E.n + j) cur T u hg, by simp, fun i hi => ?_, fun x hx hout => ?_⟩
  · by_cases hij : i = j
    · subst hij
      rw [hu]
      simp only [Array.getElem?_setIfInBounds_self]
      rw [if_pos (by omega)]
    · rw [Array.getElem?_setIfInBounds_ne (by omega), hsame i hij, ← hat i hi]
      rcases hall with ⟨h0, _⟩ | ⟨g', cap, cur', hv, _, hg', _, _, _, ht⟩
      · cases h0
      · simp only [Value.slice.injEq, Option.some.injEq, Addr.mk.injEq, and_true] at hv
        obtain ⟨rfl, hn, rfl⟩ := hv
        rw [hg] at hg'
        simp only [Option.some.injEq, Obj.cells.injEq, and_true] at hg'
        subst hg'
        rw [← ht, List.getElem?_take_of_lt (by omega), Array.getElem?_toList]
  · rw [Array.getElem?_setIfInBounds_ne (by omega)]
/-- the first of them, as a slice of the same array -/
theorem OwnL.cut {E : Enc α} {T : TypeId} {w : World} {B g n c : Nat} {L : List α} (h : OwnL E T w B (.slice (some ⟨g, 0, none⟩) n c) L) (m : Nat) (hm : m ≤ L.length) : OwnL E T w B (.slice (some ⟨g, 0, none⟩) m c) (L.take m) := by
  rcases h.2 with ⟨h0, _⟩ | ⟨g', cap, cur, hv, hb, hg, hc, hmx, hs, ht⟩
  · cases h0
  · simp only [Value.slice.injEq, Option.some.injEq, Addr.mk.injEq, and_true] at hv
    obtain ⟨rfl, hn, rfl⟩ := hv
    have hl : (L.take m).length = m := by rw [List.length_take]; omega
    refine ⟨by rw [flatE_length], Or.inr ⟨g, c, cur, by rw [hl], hb, hg, by omega, hmx, hs, ?_⟩⟩
    rw [hl]
    refine flatE_ext E _ _ ?_ fun i hi j hj => ?_
    · have hq : cur.toList.length = c * E.n := by simpa using hs
      rw [List.length_take, hq, hl]
      have : m * E.n ≤ c * E.n := Nat.mul_le_mul_right _ (by omega)
      omega
    · have hi' : i < m := by omega
      have hx : (i + 1) * E.n ≤ m * E.n := Nat.mul_le_mul_right _ hi'
      rw [Nat.add_mul, Nat.one_mul] at hx
      have hx2 : m * E.n ≤ L.length * E.n := Nat.mul_le_mul_right _ hm
      have h5 := flatE_at E L i (by omega) j hj
      rw [← ht, List.getElem?_take_of_lt (by omega), Array.getElem?_toList] at h5
      rw [List.getElem?_take_of_lt (by omega), Array.getElem?_toList, h5, List.getElem_take]
/-- its cells are there, and may be written -/
theorem OwnL.cells' {E : Enc α} {T : TypeId} {w : World} {B g n c : Nat} {L : List α} (h : OwnL E T w B (.slice (some ⟨g, 0, none⟩) n c) L) (j : Nat) (hj : j < L.length * E.n) : (w.cell? ⟨g, j, none⟩).isSome = true ∧ w.frozen? ⟨g, j, none⟩ = false := by
  have hn : n = L.length := by
    rcases h.2 with ⟨h0, _⟩ | ⟨_, _, _, hv, _⟩
    · cases h0
    · simp only [Value.slice.injEq] at hv
      exact hv.2.1
  subst hn
  have h1 := World.ownsRow.cellAt h j hj
  have h2 := World.ownsRow.frozenAt h j
  refine ⟨?_, h2⟩
  rw [h1, List.getElem?_eq_getElem (by rw [flatE_length]; exact hj)]
  rfl
/-- an append that has room writes in place -/
theorem run_append_in (E : Enc α) (T S ty : TypeId) (hS : Tryd.prog.underlying S = some (.slice T)) {z : Value} {bytes : Nat} (hi : (Tryd.prog.info? T).map (fun i => (i.zero, i.size, i.bytes)) = some (some z, E.n, bytes))
    (w : World) (B g n c : Nat) (L : List α) (hown : OwnL E T w B (.slice (some ⟨g, 0, none⟩) n c) L) (k : Nat) (hk : k < L.length) (m cc : Nat) (u : α) (hm : AtL E w (some ⟨m, 0, none⟩) [u]) :
    (Builtin.append_ #[S, S] ty #[.slice (some ⟨g, 0, none⟩) k c, .slice (some ⟨m, 0, none⟩) 1 cc]).run Tryd.prog w = .ok (.slice (some ⟨g, 0, none⟩) (k + 1) c) (w.setCells g (k * E.n) (E.enc u)) := by
  obtain ⟨i0, hi0, hz0, hz1, hz2⟩ := info_parts hi
  have hcap : L.length ≤ c := by
    rcases hown.2 with ⟨h0, _⟩ | ⟨g', cap, cur, hv, hb, hg, hc, hmx, hs, ht⟩
    · cases h0
    · simp only [Value.slice.injEq] at hv
      obtain ⟨-, -, rfl⟩ := hv
      exact hc
  have hkn : (k + 1) * E.n ≤ L.length * E.n := Nat.mul_le_mul_right _ hk
  rw [Nat.add_mul, Nat.one_mul] at hkn
  have hr := run_append_room_cells (P := Tryd.prog) w S ty T i0 hS hi0 g 0 k c ⟨m, 0, none⟩ 1 cc (E.enc u) (by rw [E.len, hz1, Nat.one_mul]) (fun j y hj => by
    have := hm.get 0 (by simp) j hj
    have e : (⟨m, 0, none⟩ : Addr).add j = ⟨m, j, none⟩ := by unfold Addr.add; split <;> simp_all
    rw [e]
    simpa using this) (E.one u) (by omega)
    (fun j hj => by rw [E.len] at hj; rw [hz1, Nat.zero_add]; exact (hown.cells' _ (by omega)).1)
    (fun j hj => by rw [E.len] at hj; rw [hz1, Nat.zero_add]; exact (hown.cells' _ (by omega)).2)
  rw [hr, hz1, Nat.zero_add]
theorem wpList_append_in (E : Enc α) (T S : TypeId) (hS : Tryd.prog.underlying S = some (.slice T)) {z : Value} {bytes : Nat} (hi : (Tryd.prog.info? T).map (fun i => (i.zero, i.size, i.bytes)) = some (some z, E.n, bytes))
    (w : World) {ops : Array Oper} {rest : List Oper} {o : Oper} {a : Act} {Q : Exit → Act → World → Prop} (hgd : o.guard = none) (s x : Operand) (ho : o.op = .call { callee := .builtin .append, args := #[s, x], argTypes := #[S, S] })
    (B g n c : Nat) (L : List α) (hown : OwnL E T w B (.slice (some ⟨g, 0, none⟩) n c) L) (k : Nat) (hk : k < L.length) (hs : a.eval s = .slice (some ⟨g, 0, none⟩) k c) (m cc : Nat) (hx : a.eval x = .slice (some ⟨m, 0, none⟩) 1 cc) (u : α) (hm : AtL E w (some ⟨m, 0, none⟩) [u])
    (h : wpList Tryd.prog ops Q rest (a.put o.dst (.slice (some ⟨g, 0, none⟩) (k + 1) c)) (w.setCells g (k * E.n) (E.enc u))) : wpList Tryd.prog ops Q (o :: rest) a w := by
  refine wpList_plain hgd fun K hK => ?_
  have hr := run_append_in E T S o.type hS hi w B g n c L hown k hk m cc u hm
  unfold Oper.wp execOp
  simp only [ho, resolve, invoke, builtin, Sem.run_bind, Sem.run_pure, Result.andThen_ok, List.map_toArray, List.map_cons, List.map_nil, hs, hx, hr]
  exact hK _ _ h
theorem setCells_block (g : Nat) : ∀ (vs : List Value) (o : Nat) (w : World) (k : Nat), k ≠ g → (w.setCells g o vs).heap[k]? = w.heap[k]?
  | [], _, _, _, _ => rfl
  | v :: r, o, w, k, h => by
    rw [World.setCells, setCells_block g r (o + 1) _ k h]
    exact Below.heap_setCell _ _ _ _ h
theorem setCells_rest (g : Nat) : ∀ (vs : List Value) (o : Nat) (w : World), (w.setCells g o vs).os = w.os ∧ (w.setCells g o vs).tape = w.tape ∧ (w.setCells g o vs).output = w.output ∧ (w.setCells g o vs).heap.size = w.heap.size
  | [], _, _ => ⟨rfl, rfl, rfl, rfl⟩
  | v :: r, o, w => by
    obtain ⟨h1, h2, h3, h4⟩ := setCells_rest g r (o + 1) (w.setCell ⟨g, o, none⟩ v)
    exact ⟨h1, h2, h3, h4.trans (by simp [World.setCell])⟩
theorem Turn.setCells {F : Nat → Prop} {a W : World} (h : Turn F a W) {g : Nat} (hg : F g ∨ a.heap.size ≤ g) (o : Nat) (vs : List Value) : Turn F a (W.setCells g o vs) := by
  obtain ⟨h1, h2, h3, h4⟩ := setCells_rest g vs o W
  exact ⟨h1.trans h.os, h2.trans h.tape, h3.trans h.output, by rw [h4]; exact h.size, fun k hk hF => (setCells_block g vs o W k (fun e => hg.elim (fun q => hF (e ▸ q)) (fun q => by omega))).trans (h.block k hk hF)⟩
theorem belowN {B : Nat} {a w : World} (h : Below B a w) (n : Nat) : Below B a (w.drewN n) := ⟨h.os, h.tape, h.output, h.size, h.block⟩
/-- an append of some things behind an own slice -/
theorem run_append_more (E : Enc α) (T S : TypeId) (ty : TypeId) (hS : Tryd.prog.underlying S = some (.slice T)) {z : Value} {bytes : Nat} (hi : (Tryd.prog.info? T).map (fun i => (i.zero, i.size, i.bytes)) = some (some z, E.n, bytes)) (hz : z.cells.size = E.n) (hby : bytes ≤ 4096)
    (w : World) (B : Nat) (v : Value) (L : List α) (hown : OwnL E T w B v L) (ad : Addr) (c : Nat) (U : List α) (hm : ∀ j u, (flatE E U)[j]? = some u → w.cell? (ad.add j) = some u) (hlen : L.length + U.length ≤ 100000) (hB : B ≤ w.heap.size) :
    ∃ v' w', (Builtin.append_ #[S, S] ty #[v, .slice (some ad) U.length c]).run Tryd.prog w = .ok v' w' ∧ OwnL E T w' B v' (L ++ U) ∧ w.grownBy w' v.ownBlock ∧ (v'.ownBlock = v.ownBlock ∨ v'.ownBlock = some w.heap.size) := by
  obtain ⟨i0, hi0, hz0, hz1, hz2⟩ := info_parts hi
  obtain ⟨v', w', hr, h2, h3, h4, h5⟩ := run_append_own_at (P := Tryd.prog) w B S ty T i0 z E.n bytes hS hi0 hz0 hz1 hz2 hz E.pos v L.length (flatE E L) hown ad U.length c (flatE E U) (flatE_length E U) hm (fun u hu => by
    obtain ⟨a, _, ha⟩ := List.mem_flatMap.1 hu
    exact E.one a u ha) (by unfold maxLen; omega) (Nat.le_trans (Nat.mul_le_mul_left _ hby) (by omega)) hB
  exact ⟨v', w', hr, by unfold OwnL; rw [List.length_append, flatE_append]; exact h2, h3, h5⟩
theorem flatE_prefix (E : Enc α) {X M : List α} (h : X <+: M) (y : Nat) (hy : y < X.length * E.n) : (flatE E X)[y]? = (flatE E M)[y]? := by
  obtain ⟨Y, rfl⟩ := h
  rw [flatE_append, List.getElem?_append_left (by rw [flatE_length]; exact hy)]
/-- an append of some things behind an own slice; whatever holds the first of all these in whatever slice of the same array, holds them still -/
theorem run_append_full (E : Enc α) (T S ty : TypeId) (hS : Tryd.prog.underlying S = some (.slice T)) {z : Value} {bytes : Nat} (hi : (Tryd.prog.info? T).map (fun i => (i.zero, i.size, i.bytes)) = some (some z, E.n, bytes)) (hz : z.cells.size = E.n) (hby : bytes ≤ 4096)
    (w : World) (B : Nat) (v : Value) (L : List α) (hown : OwnL E T w B v L) (ad : Addr) (c : Nat) (U : List α) (hm : ∀ j u, (flatE E U)[j]? = some u → w.cell? (ad.add j) = some u) (hlen : L.length + U.length ≤ 100000) (hB : B ≤ w.heap.size) :
    ∃ v' w', (Builtin.append_ #[S, S] ty #[v, .slice (some ad) U.length c]).run Tryd.prog w = .ok v' w' ∧ OwnL E T w' B v' (L ++ U) ∧ w.grownBy w' v.ownBlock ∧ (v'.ownBlock = v.ownBlock ∨ v'.ownBlock = some w.heap.size) ∧
      ∀ X B' x, X <+: L ++ U → OwnL E T w B' x X → OwnL E T w' B' x X := by
  obtain ⟨v', w', hr, h2, h3, h4⟩ := run_append_more E T S ty hS hi hz hby w B v L hown ad c U hm hlen hB
  refine ⟨v', w', hr, h2, h3, h4, fun X B' x hX h => ?_⟩
  obtain ⟨i0, hi0, hz0, hz1, hz2⟩ := info_parts hi
  have hone : ∀ u ∈ flatE E U, u.oneCell' = true := fun u hu => by
    obtain ⟨a, _, ha⟩ := List.mem_flatMap.1 hu
    exact E.one a u ha
  have hlen1 : (flatE E U).length = U.length * E.n := flatE_length E U
  rcases hown.2 with ⟨hv1, _⟩ | ⟨g, cap, cur, hv1, hb1, hgc, hc1, hmx1, hs1, ht1⟩
  · subst hv1
    exact h.grown h3 (fun b e q => by cases q)
  · subst hv1
    by_cases hle : L.length + U.length ≤ cap
    · have hmul : (L.length + U.length) * E.n ≤ cap * E.n := Nat.mul_le_mul_right _ hle
      rw [Nat.add_mul] at hmul
      have hin : ∀ j, j < (flatE E U).length → (w.cell? ⟨g, 0 + L.length * E.n + j, none⟩).isSome = true := fun j hj => by
        have : w.cell? ⟨g, 0 + L.length * E.n + j, none⟩ = cur[0 + L.length * E.n + j]? := by
          unfold World.cell?
          simp [hgc]
        rw [this, Array.getElem?_eq_getElem (by omega)]
        rfl
      have hfr : ∀ j, j < (flatE E U).length → w.frozen? ⟨g, 0 + L.length * E.n + j, none⟩ = false := fun j hj => World.ownsRow.frozenAt hown _
      have hr2 := run_append_room_cells (P := Tryd.prog) w S ty T i0 hS hi0 g 0 L.length cap ad U.length c (flatE E U) (by rw [hlen1, hz1]) hm hone hle (by rw [hz1]; exact hin) (by rw [hz1]; exact hfr)
      rw [hr2] at hr
      simp only [Result.ok.injEq] at hr
      obtain ⟨-, rfl⟩ := hr
      rw [hz1, Nat.zero_add]
      by_cases hxg : x.ownBlock = some g
      · rcases h.2 with ⟨hv2, _⟩ | ⟨g2, cap2, cur2, hv2, hb2, hgc2, hc2, hmx2, hs2, ht2⟩
        · rw [hv2] at hxg
          cases hxg
        · subst hv2
          simp only [Value.ownBlock, Option.some.injEq] at hxg
          subst hxg
          rw [hgc] at hgc2
          simp only [Option.some.injEq, Obj.cells.injEq, and_true] at hgc2
          subst hgc2
          obtain ⟨cur', k1, k2, k3⟩ := heap_setCells g2 T (flatE E U) (L.length * E.n) w cur hgc
          refine ⟨h.1, Or.inr ⟨g2, cap2, cur', rfl, hb2, k1, hc2, hmx2, by rw [k2]; exact hs2, ?_⟩⟩
          rw [← ht2]
          apply List.ext_getElem?
          intro y
          by_cases hy : y < X.length * E.n
          · have hy2 : y < cur.size := by
              rw [hs2]
              exact Nat.lt_of_lt_of_le hy (Nat.mul_le_mul_right _ hc2)
            rw [List.getElem?_take_of_lt hy, List.getElem?_take_of_lt hy, Array.getElem?_toList, Array.getElem?_toList, k3 y hy2]
            split
            · rename_i hyr
              have q : (flatE E X)[y]? = (flatE E U)[y - L.length * E.n]? := by
                rw [flatE_prefix E hX y hy, flatE_append, List.getElem?_append_right (by rw [flatE_length]; exact hyr.1), flatE_length]
              rw [← q, ← ht2, List.getElem?_take_of_lt hy, Array.getElem?_toList]
            · rfl
          · rw [List.getElem?_eq_none (by rw [List.length_take]; omega), List.getElem?_eq_none (by rw [List.length_take]; omega)]
      · exact h.same (fun b e => setCells_block g _ _ w b (fun q => hxg (q ▸ e)))
    · obtain ⟨v2, w2, hr2, -, hg2⟩ := run_append_arg_grows (P := Tryd.prog) w S ty T i0 z E.n bytes hS hi0 hz0 hz1 hz2 hz E.pos ⟨g, 0, none⟩ L.length cap (flatE E L) (flatE_length E L)
        (World.ownsRow.cells hown (g := g) rfl) ad U.length c (flatE E U) hlen1 hm (by omega) (by unfold maxLen; omega) (Nat.le_trans (Nat.mul_le_mul_left _ hby) (by omega))
      rw [hr2] at hr
      simp only [Result.ok.injEq] at hr
      obtain ⟨-, rfl⟩ := hr
      exact h.grown hg2 (fun b e q => by cases q)
/-- cells of a part of an own slice -/
theorem OwnL.part {E : Enc α} {T : TypeId} {w : World} {B g n c : Nat} {L : List α} (h : OwnL E T w B (.slice (some ⟨g, 0, none⟩) n c) L) (A M Z : List α) (hL : L = A ++ M ++ Z) (o : Nat) (ho : o = A.length * E.n) : ∀ j u, (flatE E M)[j]? = some u → w.cell? ((⟨g, o, none⟩ : Addr).add j) = some u := by
  intro j u hj
  have hjl := (List.getElem?_eq_some_iff.1 hj).1
  have e1 : (⟨g, o, none⟩ : Addr).add j = ⟨g, o + j, none⟩ := by unfold Addr.add; split <;> simp_all
  have e2 : (⟨g, 0, none⟩ : Addr).add (o + j) = ⟨g, o + j, none⟩ := by unfold Addr.add; split <;> simp_all
  have e : (⟨g, o, none⟩ : Addr).add j = (⟨g, 0, none⟩ : Addr).add (o + j) := e1.trans e2.symm
  rw [e]
  refine World.ownsRow.cells h (g := g) rfl (o + j) u ?_
  rw [hL, flatE_append, flatE_append, List.append_assoc, List.getElem?_append_right (by rw [flatE_length]; omega), flatE_length, ho, Nat.add_sub_cancel_left, List.getElem?_append_left hjl]
  exact hj
/-- an own slice without room holds nothing -/
theorem OwnL.none_of {E : Enc α} {T T' : TypeId} {β : Type} {E' : Enc β} {w : World} {B B' g : Nat} {X : List α} {x : Value} {Y : List β} (h : OwnL E' T' w B (.slice (some ⟨g, 0, none⟩) 0 0) Y) (k : OwnL E T w B' x X) (hx : x.ownBlock = some g) : X = [] := by
  rcases h.2 with ⟨h0, _⟩ | ⟨g1, cap1, cur1, hv1, -, hg1, -, -, hs1, -⟩
  · cases h0
  · simp only [Value.slice.injEq, Option.some.injEq, Addr.mk.injEq, and_true] at hv1
    obtain ⟨rfl, -, rfl⟩ := hv1
    rcases k.2 with ⟨rfl, _⟩ | ⟨g2, cap2, cur2, rfl, -, hg2, hc2, -, hs2, -⟩
    · cases hx
    · simp only [Value.ownBlock, Option.some.injEq] at hx
      subst hx
      rw [hg1] at hg2
      simp only [Option.some.injEq, Obj.cells.injEq] at hg2
      obtain ⟨rfl, -, -⟩ := hg2
      rw [hs1, Nat.zero_mul] at hs2
      have hz : cap2 = 0 := by
        rcases Nat.mul_eq_zero.1 hs2.symm with q | q
        · exact q
        · have := E.pos
          omega
      exact List.length_eq_zero_iff.1 (by omega)
end Go.Proofs.YtikabflmgckdnaaDoor
