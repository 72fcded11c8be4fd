/-
Calls as they lie in a slice: own and aliases behind it.
The landed code's Decode: the answer's cells, the frame that is made.
-/
import Derived.Test.YtikabflmgckdnaaDoorMix32
import Derived.Deep.AppendSrc
import Derived.Lib.AppendZeros
import Derived.Test.YtikabflmgckdnaaDoorFrmCBegin
namespace Go.Proofs.YtikabflmgckdnaaDoor
open Go.RowKit Go.Sort Go.Deep
set_option maxRecDepth 20000
def encCl : Enc Cl := ⟨2, by omega, fun c => [.string c.1, .int .i64 c.2], fun _ => rfl, fun _ u hu => by
  rcases List.mem_cons.1 hu with rfl | hu
  · rfl
  · rw [List.mem_singleton.1 hu]
    rfl⟩
theorem infoCl : (Tryd.prog.info? 23).map (fun i => (i.zero, i.size, i.bytes)) = some (some (.agg #[.string ⟨#[]⟩, .int .i64 0]), 2, 24) := by kernel_rfl
theorem AtL.calls {w : World} {a : Option Addr} {C : List Cl} (h : AtL encCl w a C) : CallsAt w a C := fun k hk => by
  obtain ⟨g, o, ha, hg, hc⟩ := h k hk
  refine ⟨g, o, ha, hg, hc 0 _ rfl, hc 1 _ rfl⟩
theorem CallsAt.same {w w' : World} {a : Option Addr} {C : List Cl} (h : CallsAt w a C) (hb : ∀ p, a = some p → w'.heap[p.block]? = w.heap[p.block]?) (hs : w.heap.size ≤ w'.heap.size) : CallsAt w' a C := fun k hk => by
  obtain ⟨g, o, ha, hg, h0, h1⟩ := h k hk
  refine ⟨g, o, ha, Nat.lt_of_lt_of_le hg hs, (World.cell?_of_block (a := ⟨g, o + k * 2, none⟩) (hb ⟨g, o, none⟩ ha)).trans h0, (World.cell?_of_block (a := ⟨g, o + k * 2 + 1, none⟩) (hb ⟨g, o, none⟩ ha)).trans h1⟩
theorem EntsAt.same {w w' : World} {a : Option Addr} {cap : Nat} {L : List Ent} (h : EntsAt w a cap L) (hb : ∀ p, a = some p → w'.heap[p.block]? = w.heap[p.block]?) (hs : w.heap.size ≤ w'.heap.size) : EntsAt w' a cap L := by
  refine ⟨h.le, h.max, fun k hk => ?_⟩
  obtain ⟨g, o, ha, hg, h0, h1, h2⟩ := h.at_ k hk
  have hq := hb ⟨g, o, none⟩ ha
  exact ⟨g, o, ha, Nat.lt_of_lt_of_le hg hs, (World.cell?_of_block (a := ⟨g, o + k * 3, none⟩) hq).trans h0, (World.cell?_of_block (a := ⟨g, o + k * 3 + 1, none⟩) hq).trans h1, (World.cell?_of_block (a := ⟨g, o + k * 3 + 2, none⟩) hq).trans h2⟩
theorem flat_calls {w : World} {g o : Nat} {C : List Cl} (h : CallsAt w (some ⟨g, o, none⟩) C) (j : Nat) (u : Value) (hj : (flatE encCl C)[j]? = some u) : w.cell? ((⟨g, o, none⟩ : Addr).add j) = some u := by
  have hjl : j < C.length * 2 := by
    have := (List.getElem?_eq_some_iff.1 hj).1
    rwa [flatE_length] at this
  have hk : j / 2 < C.length := by omega
  obtain ⟨g', o', ha, -, h0, h1⟩ := h (j / 2) hk
  simp only [Option.some.injEq, Addr.mk.injEq, and_true] at ha
  obtain ⟨rfl, rfl⟩ := ha
  have e : (⟨g, o, none⟩ : Addr).add j = ⟨g, o + j, none⟩ := by unfold Addr.add; split <;> simp_all
  rw [e]
  have hf := flatE_at encCl C (j / 2) hk (j % 2) (by show j % 2 < 2; omega)
  rw [show j / 2 * encCl.n + j % 2 = j from by show j / 2 * 2 + j % 2 = j; omega] at hf
  rw [hf] at hj
  by_cases hm : j % 2 = 0
  · rw [hm] at hj
    have : u = .string C[j / 2].1 := by
      have := hj
      simpa [encCl] using this.symm
    rw [this, ← h0]
    congr 2
    omega
  · have hm1 : j % 2 = 1 := by omega
    rw [hm1] at hj
    have : u = .int .i64 C[j / 2].2 := by
      have := hj
      simpa [encCl] using this.symm
    rw [this, ← h1]
    congr 2
    omega
theorem append_calls18 (w : World) (ty : TypeId) (v : Value) (B : Nat) (C A : List Cl) (a : Option Addr) (m c : Nat) (h : OwnL encCl 23 w B v C) (hm : A.length = m) (hA : CallsAt w a A) (h0 : a = none → c = 0) (hl : C.length + m ≤ 100000) (hB : B ≤ w.heap.size) :
    ∃ v' w', (Builtin.append_ #[24, 24] ty #[v, .slice a m c]).run Tryd.prog w = .ok v' w' ∧ OwnL encCl 23 w' B v' (C ++ A) ∧ w.grownBy w' v.ownBlock ∧ (v'.ownBlock = v.ownBlock ∨ v'.ownBlock = some w.heap.size) := by
  cases a with
  | none =>
    have hA0 : A = [] := by
      cases A with
      | nil => rfl
      | cons x r =>
        obtain ⟨g, o, ha, -⟩ := hA 0 (by simp)
        cases ha
    subst hA0
    obtain rfl : m = 0 := hm.symm
    obtain rfl := h0 rfl
    refine ⟨v, w, ?_, by rw [List.append_nil]; exact h, grown_refl _ _, Or.inl rfl⟩
    rcases h.2 with ⟨rfl, h0⟩ | ⟨g, c, cur, rfl, hb, hg, hc, -⟩
    · kernel_rfl
    · obtain ⟨i0, hi0, -⟩ := info_parts infoCl
      have := run_append_room_src (P := Tryd.prog) w 24 24 ty 23 i0 Tryd.underlying24 hi0 g 0 C.length c (.slice none 0 0) 0 [] (Src.ofNil w Tryd.underlying24 0) (by omega) (fun j hj => absurd hj (Nat.not_lt_zero _)) (fun j hj => absurd hj (Nat.not_lt_zero _))
      exact this
  | some ad =>
    subst hm
    have had : ∀ j u, (flatE encCl A)[j]? = some u → w.cell? (ad.add j) = some u := by
      intro j u hj
      have h1 : 0 < A.length := by
        have := (List.getElem?_eq_some_iff.1 hj).1
        rw [flatE_length] at this
        have e2 : encCl.n = 2 := rfl
        rw [e2] at this
        omega
      obtain ⟨g, o, ha, -⟩ := hA 0 h1
      simp only [Option.some.injEq] at ha
      subst ha
      exact flat_calls hA j u hj
    exact run_append_more encCl 23 24 ty Tryd.underlying24 infoCl rfl (by decide) w B v C h ad c A had hl hB
/-- own, and the aliases behind it -/
theorem calls_own18 (W : World) (ty : TypeId) (x : Cl) (a : Option Addr) (m c : Nat) (A : List Cl) (hm : A.length = m) (hA : CallsAt W a A) (h0 : a = none → c = 0) (hl : m ≤ 1000) :
    ∃ g c' W', (Builtin.append_ #[24, 24] ty #[.slice (some ⟨W.heap.size, 0, none⟩) 1 1, .slice a m c]).run Tryd.prog (W.alloc (.cells #[.string x.1, .int .i64 x.2] 23)) = .ok (.slice (some ⟨g, 0, none⟩) (m + 1) c') W' ∧
      OwnL encCl 23 W' W.heap.size (.slice (some ⟨g, 0, none⟩) (m + 1) c') (x :: A) ∧ W.heap.size ≤ g ∧ g < W'.heap.size ∧ CallsAt W' (some ⟨g, 0, none⟩) (x :: A) ∧ Below W.heap.size W W' := by
  have hown := OwnL.lit encCl 23 W W.heap.size [x] [.string x.1, .int .i64 x.2] rfl (Nat.le_refl _) (by simp) 1 rfl
  have hb0 := (Below.refl W.heap.size W).alloc (Nat.le_refl _) (.cells #[.string x.1, .int .i64 x.2] 23)
  obtain ⟨v', w', hr, h2, h3, -⟩ := append_calls18 (W.alloc (.cells #[.string x.1, .int .i64 x.2] 23)) ty _ W.heap.size [x] A a m c hown hm (hA.below hb0) h0 (by simp; omega) hb0.size
  have hb := hown.appended hb0 (Nat.le_refl _) hb0.size h3
  obtain ⟨g, c', rfl, hg1, hg2, hat⟩ := h2.some_ (by simp)
  have e : ([x] ++ A).length = m + 1 := by simp [hm]
  rw [e] at hr h2
  exact ⟨g, c', w', hr, h2, hg1, hg2, hat.calls, hb⟩
end Go.Proofs.YtikabflmgckdnaaDoor
namespace Go.Proofs.YtikabflmgckdnaaDoor
open Go.RowKit Go.Sort
set_option maxRecDepth 20000
/-- the answer's cells, and the frame that is made -/
structure DcAt (w W : World) (m : Nat) (sv v0 v1 v2 v3 v4 v5 v6 v7 v8 v9 v10 v11 v12 : Value) (D : List Ent) : Prop where
  res : F13 W w.heap.size (.string ⟨#[]⟩) (.int .i64 0) (.string ⟨#[]⟩) (.int .i64 0) (.bool false) (.bool false) (.slice none 0 0) (.int .i64 0) (.int .i64 0) (.int .i64 0) (.bool false) (.int .i64 0) (.string ⟨#[]⟩)
  box : F13 W m v0 v1 v2 v3 v4 v5 v6 v7 v8 v9 v10 v11 v12
  own : OwnE 92 W (w.heap.size + 1) sv D
  bel : Below w.heap.size w W
  rm : w.heap.size < m
  lt : ∀ g, sv.ownBlock = some g → g < m
theorem DcAt.below {w W W' : World} {m : Nat} {sv v0 v1 v2 v3 v4 v5 v6 v7 v8 v9 v10 v11 v12 : Value} {D : List Ent} (h : DcAt w W m sv v0 v1 v2 v3 v4 v5 v6 v7 v8 v9 v10 v11 v12 D) (hb : Below W.heap.size W W') : DcAt w W' m sv v0 v1 v2 v3 v4 v5 v6 v7 v8 v9 v10 v11 v12 D :=
  ⟨h.res.below hb, h.box.below hb, h.own.below hb, h.bel.trans (hb.mono h.bel.size), h.rm, h.lt⟩
theorem DcAt.pid {w W : World} {m : Nat} {sv v0 v1 v2 v3 v4 v5 v6 v7 v8 v9 v10 v11 v12 : Value} {D : List Ent} (h : DcAt w W m sv v0 v1 v2 v3 v4 v5 v6 v7 v8 v9 v10 v11 v12 D) (u : Value) : DcAt w (W.setCell ⟨m, 11, none⟩ u) m sv v0 v1 v2 v3 v4 v5 v6 v7 v8 v9 v10 u v12 D := by
  have hm := h.rm
  exact ⟨h.res.other _ (by omega), h.box.pid u, h.own.grown (grown_set (grown_refl W (some m)) (o := 11) u) (fun g hv e => by have := h.lt g hv; have := Option.some.inj e; omega), h.bel.setCell (p := ⟨m, 11, none⟩) (by show w.heap.size ≤ m; omega) _, hm, h.lt⟩
theorem DcAt.info {w W : World} {m : Nat} {sv v0 v1 v2 v3 v4 v5 v6 v7 v8 v9 v10 v11 v12 : Value} {D : List Ent} (h : DcAt w W m sv v0 v1 v2 v3 v4 v5 v6 v7 v8 v9 v10 v11 v12 D) (u : Value) : DcAt w (W.setCell ⟨m, 12, none⟩ u) m sv v0 v1 v2 v3 v4 v5 v6 v7 v8 v9 v10 v11 u D := by
  have hm := h.rm
  exact ⟨h.res.other _ (by omega), h.box.info u, h.own.grown (grown_set (grown_refl W (some m)) (o := 12) u) (fun g hv e => by have := h.lt g hv; have := Option.some.inj e; omega), h.bel.setCell (p := ⟨m, 12, none⟩) (by show w.heap.size ≤ m; omega) _, hm, h.lt⟩
theorem DcAt.drew {w W : World} {m : Nat} {sv v0 v1 v2 v3 v4 v5 v6 v7 v8 v9 v10 v11 v12 : Value} {D : List Ent} (h : DcAt w W m sv v0 v1 v2 v3 v4 v5 v6 v7 v8 v9 v10 v11 v12 D) : DcAt w W.drew m sv v0 v1 v2 v3 v4 v5 v6 v7 v8 v9 v10 v11 v12 D := h.below ((Below.refl _ W).drew)
theorem slice_at (s : ByteArray) (A : Nat) (h : A ≤ s.size) : ∃ T : ByteArray, T.data.toList = s.data.toList.drop A ∧ ∀ W, (Instr.slice 9 (.string s) (some (.int .i64 (A : Int))) none none).run Tryd.prog W = .ok (.string T) W := by
  refine ⟨s.extract A s.size, ?_, fun W => ?_⟩
  · rw [Lib.extract_to_end]
  · have k := run_slice_string_l (P := Tryd.prog) (w := W) 9 s Tryd.underlying9 .i64 (A : Int) (by omega) (by omega)
    rw [show ((A : Int)).toNat = A from by omega] at k
    exact k
end Go.Proofs.YtikabflmgckdnaaDoor
