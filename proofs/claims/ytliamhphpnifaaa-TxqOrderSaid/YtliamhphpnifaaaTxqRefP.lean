/-
The document's queue: Put, Drop.
-/
import Derived.Test.YtliamhphpnifaaaTxqRef
import Derived.Deep.AppendSrc
namespace Go.Proofs.Ytliamhphpnifaaa
open Go.RowKit
set_option maxRecDepth 20000
/-- things that lie in a row, as an append reads them -/
theorem AtL.flat {α : Type} {E : Enc α} {w : World} {g o : Nat} {M : List α} (h : AtL E w (some ⟨g, o, none⟩) M) : ∀ j u, (flatE E M)[j]? = some u → w.cell? ((⟨g, o, none⟩ : Addr).add j) = some u := by
  intro j u hj
  have hjl := (List.getElem?_eq_some_iff.1 hj).1
  rw [flatE_length] at hjl
  have hp := E.pos
  have hk : j / E.n < M.length := Nat.div_lt_of_lt_mul (by rw [Nat.mul_comm]; exact hjl)
  have hr : j % E.n < E.n := Nat.mod_lt _ hp
  have e0 : j / E.n * E.n + j % E.n = j := Nat.div_add_mod' j E.n
  have e1 : (⟨g, o, none⟩ : Addr).add j = ⟨g, o + j, none⟩ := by unfold Addr.add; split <;> simp_all
  have h2 := flatE_at E M (j / E.n) hk (j % E.n) hr
  rw [e0, hj] at h2
  have h3 := h.get (j / E.n) hk (j % E.n) h2.symm
  rw [e1]
  rwa [Nat.add_assoc, e0] at h3
/-- an append that runs so, as the next operation -/
theorem wpList_append_run16 {P : Program} {t : TypeId} (w : World) {ops : Array Oper} {rest : List Oper} {o : Oper} {a : Act} {Q : Exit → Act → World → Prop} (hgd : o.guard = none) (s x : Operand) (ho : o.op = .call { callee := .builtin .append, args := #[s, x], argTypes := #[t, t] })
    {vs vx v' : Value} {w' : World} (hs : a.eval s = vs) (hx : a.eval x = vx) (hr : (Builtin.append_ #[t, t] o.type #[vs, vx]).run P w = .ok v' w') (h : wpList P ops Q rest (a.put o.dst v') w') : wpList P ops Q (o :: rest) a w :=
  wpList_plain hgd fun _ hK => wp_append_run s x ho hs hx hr (hK _ _ h)
theorem Turn.mono {F F' : Nat → Prop} {w w' : World} (h : Turn F w w') (hF : ∀ k, F k → F' k) : Turn F' w w' := ⟨h.os, h.tape, h.output, h.size, fun k hk hn => h.block k hk fun q => hn (hF k q)⟩
/-- an append of entries that lie somewhere -/
theorem append_ents16 (w : World) (ty : TypeId) (v : Value) (B : Nat) (L M : List Ent) (ad : Option Addr) (c : Nat) (h : OwnL encE 43 w B v L) (hM : AtL encE w ad M) (hc : M.length ≤ c) (hl : L.length + M.length ≤ 100000) (hB : B ≤ w.heap.size) (had : ∀ q, ad = some q → ∃ g o, q = ⟨g, o, none⟩) :
    ∃ v' w', (Builtin.append_ #[28, 28] ty #[v, .slice ad M.length c]).run Try.prog w = .ok v' w' ∧ OwnL encE 43 w' B v' (L ++ M) ∧ w.grownBy w' v.ownBlock := by
  cases ad with
  | none =>
    have hm : M = [] := by
      cases M with
      | nil => rfl
      | cons x r =>
        obtain ⟨g, o, e, -⟩ := hM 0 (by simp)
        cases e
    subst hm
    rw [List.append_nil]
    rcases h.2 with ⟨rfl, h0⟩ | ⟨g, c', cur, rfl, hb, hg, hc', -⟩
    · refine ⟨.slice none 0 0, w, ?_, h, grown_refl _ _⟩
      obtain ⟨i0, hi0, hz0, hz1, hz2⟩ := info_parts infoE16
      simp [Builtin.append_, run_underlying Try.underlying28, sizeOf, typeInfo, hi0, Builtin.lenOf, Builtin.firstCells]
    · refine ⟨_, w, ?_, h, grown_refl _ _⟩
      obtain ⟨i0, hi0, -⟩ := info_parts infoE16
      exact run_append_room_src (P := Try.prog) w 28 28 ty 43 i0 Try.underlying28 hi0 g 0 L.length c' (.slice none 0 c) 0 [] (Src.ofNil w Try.underlying28 c) (by omega) (fun j hj => absurd hj (Nat.not_lt_zero _)) (fun j hj => absurd hj (Nat.not_lt_zero _))
  | some q =>
    obtain ⟨g, o, rfl⟩ := had q rfl
    obtain ⟨v', w', h1, h2, h3, -⟩ := run_append_more encE 43 28 ty Try.underlying28 infoE16 rfl (by decide) w B v L h ⟨g, o, none⟩ c M hM.flat hl hB
    exact ⟨v', w', h1, h2, h3⟩
/-- the list is another one -/
theorem RqL.store {w W : World} {p : Nat} {ad : Option Addr} {n c : Nat} {M : List Ent} {B : Nat} {ad' : Option Addr} {n' c' : Nat} (hr : RowAt W p [.slice ad n c]) (hB : w.heap.size ≤ B) (hp : p < w.heap.size) (ht : Below w.heap.size w W) (ho : OwnL encE 43 W B (.slice ad' n' c') M) :
    RqL (W.setCell ⟨p, 0, none⟩ (.slice ad' n' c')) p M (fun k => k = p ∨ ∃ q, ad' = some q ∧ q.block = k) ∧ Turn (fun k => k = p) w (W.setCell ⟨p, 0, none⟩ (.slice ad' n' c')) := by
  have hn : n' = M.length ∧ M.length ≤ c' ∧ (∀ q, ad' = some q → ∃ g, q = ⟨g, 0, none⟩) := by
    rcases ho.2 with ⟨h0, h1⟩ | ⟨g', cap', cur, hv, hb, hg, hc, hmx, hs, htt⟩
    · simp only [Value.slice.injEq] at h0
      obtain ⟨rfl, rfl, rfl⟩ := h0
      exact ⟨h1.symm, by omega, fun q e => by cases e⟩
    · simp only [Value.slice.injEq] at hv
      obtain ⟨rfl, rfl, rfl⟩ := hv
      exact ⟨rfl, hc, fun q e => ⟨g', (Option.some.inj e).symm⟩⟩
  obtain ⟨rfl, hc, had⟩ := hn
  have hblk : ∀ q, ad' = some q → B ≤ q.block ∧ q.block < W.heap.size := fun q e => by
    obtain ⟨g, rfl⟩ := had q e
    exact ho.ge (g := g) (by rw [e]; rfl)
  obtain ⟨a0, c0, hv, hA⟩ := ho.see
  simp only [Value.slice.injEq] at hv
  obtain ⟨rfl, -, rfl⟩ := hv
  refine ⟨⟨ad', c', hr.put 0 _ _ rfl, hc, hA.set _ fun q e => ?_, fun q e => ⟨?_, ?_, ?_⟩, rfl⟩, (Turn.of_below (F := fun k => k = p) ht).set (p := ⟨p, 0, none⟩) (Or.inl rfl) _⟩
  · have := (hblk q e).1
    show q.block ≠ p
    omega
  · have := (hblk q e).2
    simpa [World.setCell] using this
  · have := (hblk q e).1
    omega
  · obtain ⟨g, hg⟩ := had q e
    exact ⟨g, 0, hg⟩
def RqTo (w : World) (p : Nat) (F : Nat → Prop) (x : Int) (M : List Ent) : Ending → World → Prop := fun e w' => ∃ F', e = .returned (.int .i64 x) ∧ RqL w' p M F' ∧ Turn F w w' ∧ Grew F F' w
theorem RqTo.same {w w' : World} {p : Nat} {F : Nat → Prop} {x : Int} {M : List Ent} (h : RqL w p M F) (hb : Below w.heap.size w w') : RqTo w p F x M (.returned (.int .i64 x)) w' := ⟨F, rfl, h.below hb, Turn.of_below hb, Grew.refl F w⟩
set_option maxHeartbeats 2000000 in
theorem rput_any (c k : Int) (f : ByteArray) (p : Nat) (L : List Ent) (F : Nat → Prop) (w : World) (h : RqL w p L F) (hl : L.length ≤ 1000) (_hf : f.size ≤ 1000) :
    Calls Try.prog 10 #[.pointer (some ⟨p, 0, none⟩), .int .i64 c, .int .i64 k, .string f] w (RqTo w p F (putErr c f.size L) (putE c k f L)) := by
  have HQ := Lib.hid h
  have HOF := Lib.hid (rof_any c p L F w h hl)
  obtain ⟨ad, cc, hr, hcc, hA, h3, rfl⟩ := h
  have c0 := hr.cell 0 rfl
  by_cases h1 : c < 0
  · have d1 : decide (c < 0) = true := decide_eq_true h1
    have e1 : putErr c f.size L = 1 := if_pos (Or.inl h1)
    have e2 : putE c k f L = L := by unfold putE; rw [e1]; rfl
    rw [e1, e2]
    clear hr hA h3 c0 e1 e2 h1
    go_enter Try.func10, Try.ntmps10
    go_wp2_with fail
    exact bodyPost_ret (v := .int .i64 1) (by simp [results, Try.results10, go_sem]) rfl (RqTo.same HQ.out (Below.refl _ _))
  have d1 : decide (c < 0) = false := decide_eq_false h1
  by_cases h2 : 2 < c
  · have d2 : decide (2 < c) = true := decide_eq_true h2
    have e1 : putErr c f.size L = 1 := if_pos (Or.inr h2)
    have e2 : putE c k f L = L := by unfold putE; rw [e1]; rfl
    rw [e1, e2]
    clear hr hA h3 c0 e1 e2 h2
    go_enter Try.func10, Try.ntmps10
    go_wp2_with fail
    exact bodyPost_ret (v := .int .i64 1) (by simp [results, Try.results10, go_sem]) rfl (RqTo.same HQ.out (Below.refl _ _))
  have d2 : decide (2 < c) = false := decide_eq_false h2
  have e0 : putErr c f.size L = if 333 < f.size then 5 else if 16 ≤ L.length ∨ 8 ≤ (ofC c L).length then 6 else 0 := if_neg (by omega)
  by_cases h4 : 333 < f.size
  · have d4 : decide ((333 : Int) < (f.size : Int)) = true := decide_eq_true (by omega)
    have e1 : putErr c f.size L = 5 := e0.trans (if_pos h4)
    have e2 : putE c k f L = L := by unfold putE; rw [e1]; rfl
    rw [e1, e2]
    clear hr hA h3 c0 e1 e2 e0 h1 h2 h4
    go_enter Try.func10, Try.ntmps10
    go_wp2_with fail
    exact bodyPost_ret (v := .int .i64 5) (by simp [results, Try.results10, go_sem]) rfl (RqTo.same HQ.out (Below.refl _ _))
  have d4 : decide ((333 : Int) < (f.size : Int)) = false := decide_eq_false (by omega)
  rw [if_neg h4] at e0
  by_cases h5 : 16 ≤ L.length
  · have d5 : decide (16 ≤ L.length) = true := decide_eq_true h5
    have d5' : decide ((16 : Int) ≤ (L.length : Int)) = true := decide_eq_true (by omega)
    have e1 : putErr c f.size L = 6 := e0.trans (if_pos (Or.inl h5))
    have e2 : putE c k f L = L := by unfold putE; rw [e1]; rfl
    rw [e1, e2]
    generalize hN : L.length = N at *
    clear hr hA h3 e1 e2 e0 h1 h2 h4 h5 hN
    go_enter Try.func10, Try.ntmps10
    go_wp2_with fail
    exact bodyPost_ret (v := .int .i64 6) (by simp [results, Try.results10, go_sem]) rfl (RqTo.same HQ.out (Below.refl _ _))
  have d5 : decide (16 ≤ L.length) = false := decide_eq_false h5
  have d5' : decide ((16 : Int) ≤ (L.length : Int)) = false := decide_eq_false (by omega)
  by_cases h6 : 8 ≤ (ofC c L).length
  · have e1 : putErr c f.size L = 6 := e0.trans (if_pos (Or.inr h6))
    have e2 : putE c k f L = L := by unfold putE; rw [e1]; rfl
    rw [e1, e2]
    have HOF2 : Hid (Calls Try.prog 21 #[.pointer (some ⟨p, 0, none⟩), .int .i64 c] w fun e w' => e = .returned (.int .i64 ((ofC c L).length : Nat)) ∧ w' = w) := HOF
    have d6 : decide (8 ≤ (ofC c L).length) = true := decide_eq_true h6
    have d6' : decide ((8 : Int) ≤ ((ofC c L).length : Int)) = true := decide_eq_true (by omega)
    generalize (ofC c L).length = m at *
    generalize hN : L.length = N at *
    clear hr hA h3 e1 e2 e0 h1 h2 h4 h5 h6 HOF hN
    go_enter Try.func10, Try.ntmps10
    go_wp2_with (go_at_call 21; (with_reducible refine HOF2.out.mono ?_); rintro e w1 ⟨rfl, rfl⟩)
    exact bodyPost_ret (v := .int .i64 6) (by simp [results, Try.results10, go_sem]) rfl (RqTo.same HQ.out (Below.refl _ _))
  · have e1 : putErr c f.size L = 0 := e0.trans (if_neg (by omega))
    have e2 : putE c k f L = L ++ [⟨c, k, f⟩] := by unfold putE; rw [e1]; rfl
    rw [e1, e2]
    have HOF2 : Hid (Calls Try.prog 21 #[.pointer (some ⟨p, 0, none⟩), .int .i64 c] w fun e w' => e = .returned (.int .i64 ((ofC c L).length : Nat)) ∧ w' = w) := HOF
    have d6 : decide (8 ≤ (ofC c L).length) = false := decide_eq_false h6
    have d6' : decide ((8 : Int) ≤ ((ofC c L).length : Int)) = false := decide_eq_false (by omega)
    have HB0 := Lib.hid ((Below.refl w.heap.size w).alloc (Nat.le_refl _) (.cells #[] 43))
    have HO0 := Lib.hid (OwnL.lit encE 43 w w.heap.size [] [] rfl (Nat.le_refl _) (by simp) 0 rfl)
    obtain ⟨v1, w1, hrun1, ho1, hg1⟩ := append_ents16 (w.alloc (.cells #[] 43)) 28 _ w.heap.size [] L ad cc HO0.out (hA.alloc _) hcc (by simp; omega) (by simp) (fun q e => (h3 q e).2.2)
    rw [List.nil_append] at ho1
    have hb1 := HO0.out.appended HB0.out (Nat.le_refl _) (by simp) hg1
    have HE1 := Lib.hid (And.intro ho1 hb1)
    have c0a := (hr.alloc (.cells #[] 43)).cell 0 rfl
    have HR := Lib.hid hr
    have HLN := Lib.hid (show L.length ≤ 1000 from hl)
    have HH3 := Lib.hid h3
    have hpl := hr.lt
    have HPL := Lib.hid hpl
    generalize (ofC c L).length = m at *
    obtain ⟨N, hN⟩ : ∃ N, N = L.length := ⟨_, rfl⟩
    rw [← hN] at c0 c0a d5 d5' hrun1
    clear hr hA h3 e1 e2 e0 h1 h2 h4 h5 h6 HOF hN ho1 hg1 hb1 HO0 HB0 hpl
    go_enter Try.func10, Try.ntmps10
    go_wp2_with (first
      | (go_at_call 21; (with_reducible refine HOF2.out.mono ?_); rintro e w5 ⟨rfl, rfl⟩)
      | (at_builtin; refine wpList_append_one encE 43 28 Try.underlying28 infoE16 rfl (by decide) _ rfl (.tmp 36) (.tmp 41) rfl _ _ L rfl (OwnL.alloc HE1.out.1 _) w1.heap.size 1 rfl ⟨c, k, f⟩ (AtL.made encE 43 w1 w1.heap.size ⟨c, k, f⟩ _ rfl rfl) (by have := HLN.out; omega) (by have := HE1.out.2.size; simp; omega) ?_
         intro v2 w3 hown hgr hwh
         obtain ⟨ad2, n2, c2, rfl⟩ := OwnL.form' hown
         have HB3 := Lib.hid (OwnL.appended (OwnL.alloc HE1.out.1 (.cells #[.int .i64 c, .int .i64 k, .string f] 43)) (HE1.out.2.alloc HE1.out.2.size _) (Nat.le_refl _) (by have := HE1.out.2.size; simp; omega) hgr)
         have HR3 := Lib.hid (HR.out.below HB3.out)
         have y0 := HR3.out.cell 0 rfl
         have f0 := (HR3.out.get 0 rfl).free
         have HE := Lib.hid (RqL.store HR3.out (Nat.le_refl _) HPL.out HB3.out hown)
         have HG := Lib.hid (show ∀ q, ad2 = some q → _ from fun q e => (by
           rcases hown.2 with ⟨h0, _⟩ | ⟨g', cap', cur, hv, hb, _⟩
           · simp only [Value.slice.injEq] at h0
             rw [h0.1] at e
             cases e
           · simp only [Value.slice.injEq] at hv
             rw [hv.1] at e
             cases e
             exact hb : _ ≤ q.block))
         clear hown hgr hwh)
      | (at_builtin; refine wpList_append_run16 _ rfl (.tmp 31) (.tmp 35) rfl rfl rfl hrun1 ?_))
    exact bodyPost_ret (v := .int .i64 0) (by simp [results, Try.results10, go_sem]) rfl ⟨_, rfl, HE.out.1, HE.out.2.mono fun q hq => Or.inl hq, fun q hq => by
      rcases hq with e | ⟨a, e, e2⟩
      · exact Or.inl (Or.inl e)
      · exact Or.inr (e2 ▸ HG.out a e)⟩
end Go.Proofs.Ytliamhphpnifaaa
