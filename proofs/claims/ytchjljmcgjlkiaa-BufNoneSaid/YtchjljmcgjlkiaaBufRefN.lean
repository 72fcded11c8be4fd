/-
The document's box: Next.
-/
import Derived.Test.YtchjljmcgjlkiaaBufRefP
import Derived.Test.YtchjljmcgjlkiaaQueue
namespace Go.Proofs.Ytchjljmcgjlkiaa
open Go.RowKit
set_option maxRecDepth 20000
/-- what it answers -/
def RnTo (w : World) (p : Nat) (n1 : Int) (F : Nat → Prop) (x : Pc) (ok : Bool) (c : Int) (D : List (Int × Pc)) : Ending → World → Prop := fun e w' => e = .returned (.tuple #[pcV x, .bool ok]) ∧ ∃ F', RbL w' p n1 c D F' ∧ Turn F w w' ∧ Grew F F' w
set_option maxHeartbeats 2000000 in
theorem rnext19_none (n1 c : Int) (p : Nat) (F : Nat → Prop) (w : World) (h : RbL w p n1 c [] F) :
    Calls Try.prog 13 #[.pointer (some ⟨p, 0, none⟩)] w (RnTo w p n1 F zeroP false c []) := by
  have HQ := Lib.hid h
  obtain ⟨v, hr, ho, -, -⟩ := h
  obtain ⟨ad, cc, rfl, -⟩ := ho.see
  have HR := Lib.hid (hr.alloc (.cells #[.int .i64 0, .string ⟨#[]⟩] 39))
  have c2 := HR.out.cell 2 rfl
  have HB := Lib.hid ((Below.refl w.heap.size w).alloc (Nat.le_refl _) (.cells #[.int .i64 0, .string ⟨#[]⟩] 39))
  have HN := Lib.hid (RowAt.new w w.heap.size rfl [.int .i64 0, .string ⟨#[]⟩] 39)
  have x0 := HN.out.cell 0 rfl
  have x1 := HN.out.cell 1 rfl
  have y0 := (HN.out.get 0 rfl).free
  have y1 := (HN.out.get 1 rfl).free
  clear hr ho
  unfold RnTo
  go_enter Try.func13, Try.ntmps13
  go_wp2_with fail
  exact bodyPost_ret (v := .tuple #[.agg #[.int .i64 0, .string ⟨#[]⟩], .bool false]) (by simp [results, Try.results13, go_sem]) rfl ⟨rfl, F, HQ.out.below HB.out, Turn.of_below HB.out, Grew.refl F w⟩
/-- an append that runs so, as the next operation -/
theorem wpList_append_run19 {P : Program} {t : TypeId} (w : World) {ops : Array Oper} {rest : List Oper} {o : Oper} {a : Act} {Q : Exit → Act → World → Prop} (hgd : o.guard = none) (s x : Operand) (ho : o.op = .call { callee := .builtin .append, args := #[s, x], argTypes := #[t, t] })
    {vs vx v' : Value} {w' : World} (hs : a.eval s = vs) (hx : a.eval x = vx) (hr : (Builtin.append_ #[t, t] o.type #[vs, vx]).run P w = .ok v' w') (h : wpList P ops Q rest (a.put o.dst v') w') : wpList P ops Q (o :: rest) a w :=
  wpList_plain hgd fun _ hK => wp_append_run s x ho hs hx hr (hK _ _ h)
theorem elemT19 : Try.prog.elem 43 = 63 := by kernel_rfl
theorem sizeT19 (w : World) : (sizeOf 63).run Try.prog w = .ok 3 w := by kernel_rfl
/-- the rest of a list, as an append reads it -/
theorem rest19 {w : World} {v : Value} {x : Int × Pc} {r : List (Int × Pc)} (h : OwnT19 w v (x :: r)) : ∃ (ad : Addr) (c : Nat), (∀ W : World, (Instr.slice 43 v (some (.int .i64 1)) none none).run Try.prog W = .ok (.slice (some ad) r.length c) W) ∧ ∀ j u, (flatE encT19 r)[j]? = some u → w.cell? (ad.add j) = some u := by
  obtain ⟨v', h1, h2, h3⟩ := h.queue.rest 43 Try.underlying43 elemT19 sizeT19
  obtain ⟨g, c0, hv, -⟩ := h.some_ (by simp)
  obtain ⟨a, c, hv2, hA⟩ := h2.see
  rw [hv, hv2] at h3
  cases a with
  | none => cases h3
  | some ad =>
    refine ⟨ad, c, fun W => by rw [h1 W, hv2], fun j u hj => ?_⟩
    cases r with
    | nil => simp [flatE] at hj
    | cons y r' =>
      obtain ⟨g', o', e, -⟩ := hA.some_ (by simp)
      cases e
      exact hA.newsQ j u hj
set_option maxHeartbeats 2000000 in
theorem rnext19_some (n1 c : Int) (p : Nat) (F : Nat → Prop) (w : World) (t : Int) (x0 : Int) (x1 : ByteArray) (r : List (Int × Pc)) (h : RbL w p n1 c ((t, ⟨x0, x1⟩) :: r) F) (hl : r.length ≤ 1000) :
    Calls Try.prog 13 #[.pointer (some ⟨p, 0, none⟩)] w (RnTo w p n1 F ⟨x0, x1⟩ true c r) := by
  obtain ⟨v, hr, ho, hn, hF⟩ := h
  obtain ⟨g, cc, rfl, -, hgw, hA⟩ := ho.some_ (by simp)
  have hpw := hr.lt
  have HG := Lib.hid (show g ≠ p from fun e => hn (by rw [e]; rfl))
  have HF := Lib.hid hF
  have hb2 := below_alloc2 w (.cells #[.int .i64 0, .string ⟨#[]⟩] 39) (.cells #[.int .i64 x0, .string x1] 39)
  have HB1 := Lib.hid ((Below.refl w.heap.size w).alloc (Nat.le_refl _) (.cells #[.int .i64 0, .string ⟨#[]⟩] 39))
  have HN0 := Lib.hid ((RowAt.new w w.heap.size rfl [.int .i64 0, .string ⟨#[]⟩] 39).alloc (.cells #[.int .i64 x0, .string x1] 39))
  have HN1 := Lib.hid (RowAt.new (w.alloc (.cells #[.int .i64 0, .string ⟨#[]⟩] 39)) (w.heap.size + 1) (by simp) [.int .i64 x0, .string x1] 39)
  have c2 := (hr.below HB1.out).cell 2 rfl
  obtain ⟨-, e1, e2⟩ := (hA.below HB1.out).part19 0 (by simp)
  simp only [List.getElem_cons_zero, Nat.zero_mul, Nat.zero_add] at e1 e2
  have HR2 := Lib.hid (hr.below hb2)
  have HO2 := Lib.hid (OwnL.below ho hb2)
  have HB2 := Lib.hid hb2
  have HPW := Lib.hid hpw
  obtain ⟨m, hm⟩ : ∃ m, m = ((t, (⟨x0, x1⟩ : Pc)) :: r).length := ⟨_, rfl⟩
  rw [← hm] at c2 HR2 HO2
  have hm0 : (((m : Nat) : Int) == 0) = false := by rw [beq_eq_false_iff_ne, hm]; simp; omega
  have hm1 : 0 < m := by rw [hm]; simp
  clear hr ho hn hF hA hb2 hpw hm
  unfold RnTo
  go_enter Try.func13, Try.ntmps13
  go_upto_region 4 with fail
  have HSZ := Lib.hid (show ((w.alloc (.cells #[.int .i64 0, .string ⟨#[]⟩] 39)).alloc (.cells #[.int .i64 x0, .string x1] 39)).heap.size = w.heap.size + 1 + 1 from by simp)
  clear c2 e1 e2
  generalize (w.alloc (.cells #[.int .i64 0, .string ⟨#[]⟩] 39)).alloc (.cells #[.int .i64 x0, .string x1] 39) = W2 at *
  obtain ⟨ad, c', hrest, hnews⟩ := rest19 HO2.out
  have HB3 := Lib.hid (HB2.out.alloc HB2.out.size (.cells #[] 63))
  have HO0 := Lib.hid (OwnL.lit encT19 63 W2 W2.heap.size [] [] rfl (Nat.le_refl _) (by simp) 0 rfl)
  have hnews3 : ∀ j u, (flatE encT19 r)[j]? = some u → (W2.alloc (.cells #[] 63)).cell? (ad.add j) = some u := fun j u hj => by
    have h1 := hnews j u hj
    have h2 : (ad.add j).block < W2.heap.size := World.block_lt_of_cell? W2 (ad.add j) (by rw [h1])
    rw [← h1]
    exact World.cell?_of_block (a := ad.add j) (((Below.refl W2.heap.size W2).alloc (Nat.le_refl _) (.cells #[] 63)).block _ h2)
  obtain ⟨v', W4, hrun, hown, hgr, hwh⟩ := run_append_more encT19 63 43 43 Try.underlying43 infoT19 rfl (by decide) _ W2.heap.size _ [] HO0.out ad c' r hnews3 (by rw [List.length_nil]; omega) (by simp)
  rw [List.nil_append] at hown
  have hb4 := HO0.out.appended ((Below.refl W2.heap.size W2).alloc (Nat.le_refl _) (.cells #[] 63)) (Nat.le_refl _) (by simp) hgr
  have HB4 := Lib.hid hb4
  have HO4 := Lib.hid hown
  have c2 := (HR2.out.alloc (.cells #[] 63)).cell 2 rfl
  have y2 := (HR2.out.below HB4.out).cell 2 rfl
  have z2 := ((HR2.out.below HB4.out).get 2 rfl).free
  obtain ⟨a4, n4, c4, rfl⟩ := OwnL.form' hown
  have hpn : ∀ k, (Value.slice a4 n4 c4).ownBlock = some k → W2.heap.size ≤ k := fun k e => (HO4.out.ge e).1
  have HR4 := Lib.hid ((HR2.out.below HB4.out).put 2 (.slice a4 n4 c4) _ rfl)
  have HN04 := Lib.hid ((HN0.out.below HB4.out).other (g := p) (p := 2) (.slice a4 n4 c4) (by have := HPW.out; omega))
  have HN14 := Lib.hid ((HN1.out.below HB4.out).other (g := p) (p := 2) (.slice a4 n4 c4) (by have := HPW.out; omega))
  have HO5 := Lib.hid (show OwnT19 (W4.setCell ⟨p, 2, none⟩ (.slice a4 n4 c4)) (.slice a4 n4 c4) r from (HO4.out.base (Nat.zero_le _)).same fun k e => Below.heap_setCell _ _ _ _ (show k ≠ p from fun q => by have := hpn k e; have := HPW.out; have := HSZ.out; omega))
  have HT5 := Lib.hid (show Turn F w (W4.setCell ⟨p, 2, none⟩ (.slice a4 n4 c4)) from (Turn.of_below (HB2.out.trans (HB4.out.mono HB2.out.size))).set (p := ⟨p, 2, none⟩) (Or.inl (by rw [HF.out]; exact Or.inl rfl)) _)
  have HPN := Lib.hid hpn
  clear hown hgr hwh hb4 hnews hnews3 HO0 hpn
  go_upto_region 5 with (at_builtin; refine wpList_append_run19 _ rfl (.tmp 20) (.tmp 25) rfl rfl rfl hrun ?_)
  clear c2 y2 z2 hrun hrest
  have u0 := HN14.out.cell 0 rfl
  have u1 := HN14.out.cell 1 rfl
  have r0 := HN04.out.cell 0 rfl
  have r1 := HN04.out.cell 1 rfl
  have q0 := (HN04.out.get 0 rfl).free
  have q1 := (HN04.out.get 1 rfl).free
  generalize W4.setCell ⟨p, 2, none⟩ (.slice a4 n4 c4) = W5 at *
  have HRES := Lib.hid (show ∀ X, X = (W5.setCell ⟨w.heap.size, 0, none⟩ (.int .i64 x0)).setCell ⟨w.heap.size, 1, none⟩ (.string x1) → RbL X p n1 c r (fun k => k = p ∨ (Value.slice a4 n4 c4).ownBlock = some k) ∧ Turn F w X from fun X e => by
    subst e
    have hne : (Value.slice a4 n4 c4).ownBlock ≠ some p := fun e => by have := HPN.out p e; have := HPW.out; have := HSZ.out; omega
    refine ⟨⟨_, (HR4.out.other _ (by have := HPW.out; omega)).other _ (by have := HPW.out; omega), HO5.out.same fun k e => ?_, hne, rfl⟩, (HT5.out.set (p := ⟨w.heap.size, 0, none⟩) (Or.inr (Nat.le_refl _)) _).set (p := ⟨w.heap.size, 1, none⟩) (Or.inr (Nat.le_refl _)) _⟩
    have hk : k ≠ w.heap.size := by have := HPN.out k e; have := HSZ.out; omega
    exact (Below.heap_setCell _ _ _ _ hk).trans (Below.heap_setCell _ _ _ _ hk))
  have HL1 := Lib.hid (stored2 (.int .i64 x0) (.string x1) r0 r1)
  go_wp2_with fail
  exact bodyPost_ret (v := .tuple #[.agg #[.int .i64 x0, .string x1], .bool true]) (by simp [results, Try.results13, go_sem, HL1.out.1, HL1.out.2]) rfl ⟨rfl, _, (HRES.out _ rfl).1, (HRES.out _ rfl).2, fun k hk => by
    rcases hk with rfl | e
    · exact Or.inl (by rw [HF.out]; exact Or.inl rfl)
    · exact Or.inr (by have := HPN.out k e; have := HSZ.out; omega)⟩
end Go.Proofs.Ytchjljmcgjlkiaa
