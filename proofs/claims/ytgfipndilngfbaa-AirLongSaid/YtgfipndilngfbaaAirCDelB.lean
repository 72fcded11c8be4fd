/-
The library's DeleteFunc of ints.
-/
import Derived.Test.YtgfipndilngfbaaAirCDel
namespace Go.Proofs.Ytgfipndilngfbaa
open Go.RowKit
set_option maxRecDepth 20000
abbrev keepI (q : Int → Bool) (L : List Int) : List Int := L.filter fun x => !q x
/-- cells behind a slice's own are written -/
theorem OwnL.beyond {α : Type} {E : Enc α} {T : TypeId} {W : World} {B g m c : Nat} {X : List α} (h : OwnL E T W B (.slice (some ⟨g, 0, none⟩) m c) X) (o : Nat) (ho : X.length * E.n ≤ o) (vs : List Value) : OwnL E T (W.setCells g o vs) B (.slice (some ⟨g, 0, none⟩) m c) X := by
  rcases h.2 with ⟨h0, _⟩ | ⟨g', cap, cur, hv, hb, hg, hc, hmx, hs, ht⟩
  · cases h0
  · simp only [Value.slice.injEq, Option.some.injEq, Addr.mk.injEq, and_true] at hv
    obtain ⟨rfl, hn, rfl⟩ := hv
    obtain ⟨cur', k1, k2, k3⟩ := heap_setCells g T vs o W cur hg
    refine ⟨h.1, Or.inr ⟨g, c, cur', by rw [hn], hb, k1, hc, hmx, by rw [k2]; exact hs, ?_⟩⟩
    rw [← ht]
    apply List.ext_getElem?
    intro y
    by_cases hy : y < X.length * E.n
    · have hy2 : y < cur.size := by
        rw [hs]
        exact Nat.lt_of_lt_of_le hy (Nat.mul_le_mul_right _ hc)
      rw [List.getElem?_take_of_lt hy, List.getElem?_take_of_lt hy, Array.getElem?_toList, Array.getElem?_toList, k3 y hy2, if_neg (by omega)]
    · rw [List.getElem?_eq_none (by rw [List.length_take]; omega), List.getElem?_eq_none (by rw [List.length_take]; omega)]
theorem keep_yes (q : Int → Bool) (L : List Int) (j : Nat) (hj : j < L.length) (h : q L[j] = true) : keepI q (L.take (j + 1)) = keepI q (L.take j) := by
  unfold keepI
  rw [List.take_succ_eq_append_getElem hj, List.filter_append, List.filter_cons, h]
  simp
theorem keep_no (q : Int → Bool) (L : List Int) (j : Nat) (hj : j < L.length) (h : q L[j] = false) : keepI q (L.take (j + 1)) = keepI q (L.take j) ++ [L[j]] := by
  unfold keepI
  rw [List.take_succ_eq_append_getElem hj, List.filter_append, List.filter_cons, h]
  simp
theorem keep_le (q : Int → Bool) (L : List Int) (j : Nat) : (keepI q (L.take j)).length ≤ j := by
  refine Nat.le_trans (List.length_filter_le _ _) ?_
  rw [List.length_take]
  omega
/-- amid letting them go -/
structure DelAt (w : World) (g c : Nat) (L : List Int) (q : Int → Bool) (j : Nat) (W : World) : Prop where
  own : ∃ M, OwnN15 W 0 (.slice (some ⟨g, 0, none⟩) L.length c) M ∧ M.length = L.length ∧ M.take (keepI q (L.take j)).length = keepI q (L.take j) ∧ M.drop j = L.drop j
  turn : Turn (fun b => b = g) w W
section
variable {w : World} {g c : Nat} {L : List Int} {q : Int → Bool} {j : Nat} {W : World}
theorem DelAt.below {W' : World} (h : DelAt w g c L q j W) (hb : Below W.heap.size W W') : DelAt w g c L q j W' := by
  obtain ⟨M, h1, h2⟩ := h.own
  exact ⟨⟨M, OwnL.below h1 hb, h2⟩, h.turn.then_ hb⟩
theorem DelAt.get (h : DelAt w g c L q j W) (hj : j < L.length) : W.cell? ⟨g, j, none⟩ = some (.int .i64 L[j]) := by
  obtain ⟨M, h1, h2, -, h4⟩ := h.own
  have e : M[j]'(by omega) = L[j] := by
    have : (M.drop j)[0]? = (L.drop j)[0]? := by rw [h4]
    simpa [List.getElem?_drop, List.getElem?_eq_getElem, hj, h2] using this
  obtain ⟨a, cap, hv, hA⟩ := OwnL.see h1
  simp only [Value.slice.injEq] at hv
  obtain ⟨rfl, -, -⟩ := hv
  have := int_at hA j (by omega)
  rw [e, Nat.zero_add] at this
  exact this
theorem DelAt.gone (h : DelAt w g c L q j W) (hj : j < L.length) (hq : q L[j] = true) : DelAt w g c L q (j + 1) W := by
  obtain ⟨M, h1, h2, h3, h4⟩ := h.own
  refine ⟨⟨M, h1, h2, by rw [keep_yes q L j hj hq]; exact h3, ?_⟩, h.turn⟩
  rw [← List.drop_drop, ← List.drop_drop, h4]
theorem DelAt.kept (h : DelAt w g c L q j W) (hj : j < L.length) (hq : q L[j] = false) : DelAt w g c L q (j + 1) (W.setCell ⟨g, (keepI q (L.take j)).length, none⟩ (.int .i64 L[j])) := by
  obtain ⟨M, h1, h2, h3, h4⟩ := h.own
  have hk := keep_le q L j
  have ho : OwnN15 (W.setCell ⟨g, (keepI q (L.take j)).length, none⟩ (.int .i64 L[j])) 0 (.slice (some ⟨g, 0, none⟩) L.length c) (M.set (keepI q (L.take j)).length L[j]) :=
    OwnL.setOne (E := encI) h1 (keepI q (L.take j)).length L[j] (by omega) 0 (by decide) (.int .i64 L[j]) rfl (fun i hi => by
      match i, hi with
      | 0, hi => exact absurd rfl hi
      | i + 1, _ => rfl) _ (by simp [encI])
  refine ⟨⟨_, ho, by rw [List.length_set]; exact h2, ?_, ?_⟩, h.turn.set (p := ⟨g, (keepI q (L.take j)).length, none⟩) (Or.inl rfl) _⟩
  · rw [keep_no q L j hj hq, List.length_append, List.length_singleton, List.take_succ_eq_append_getElem (by rw [List.length_set]; omega), List.getElem_set_self, List.take_set_of_le (Nat.le_refl _), h3]
  · rw [List.drop_set_of_lt (by omega), ← List.drop_drop, ← List.drop_drop, h4]
theorem DelAt.room (h : DelAt w g c L q j W) (i : Nat) (hi : i < L.length) : (W.cell? ⟨g, i, none⟩).isSome = true ∧ W.frozen? ⟨g, i, none⟩ = false := by
  obtain ⟨M, h1, h2, -⟩ := h.own
  exact OwnL.cells' h1 i (by rw [h2]; simpa [encI] using hi)
end
/-- a clear that runs so, as the next operation -/
theorem wpList_clear_run {P : Program} {t : TypeId} (w : World) {ops : Array Oper} {rest : List Oper} {o : Oper} {a : Act} {Q : Exit → Act → World → Prop} (hgd : o.guard = none) (x : Operand) (ho : o.op = .call { callee := .builtin .clear, args := #[x], argTypes := #[t] })
    {vx v' : Value} {w' : World} (hx : a.eval x = vx) (hr : (Builtin.clear_ #[t] o.type #[vx]).run P w = .ok v' w') (h : wpList P ops Q rest (a.put o.dst v') w') : wpList P ops Q (o :: rest) a w := by
  refine wpList_plain hgd fun K hK => ?_
  unfold Oper.wp execOp
  simp only [ho, resolve, invoke, builtin, Sem.run_bind, Sem.run_pure, Result.andThen_ok, List.map_toArray, List.map_cons, List.map_nil, hx, hr]
  exact hK _ _ h
theorem zeroI15 (w : World) : (zeroValue 3).run Try.prog w = .ok (.int .i64 0) w := by kernel_rfl
theorem elemI15 : Try.prog.elem 62 = 3 := by kernel_rfl
theorem sizeI15 (w : World) : (sizeOf 3).run Try.prog w = .ok 1 w := by kernel_rfl
theorem run_from15 (g n c m : Nat) (hm : m < n) (hc : n ≤ c) (W : World) : (Instr.slice 62 (.slice (some ⟨g, 0, none⟩) n c) (some (.int .i64 (m : Int))) none none).run Try.prog W = .ok (.slice (some ⟨g, m, none⟩) (n - m) (c - m)) W := by
  have e1 : (⟨g, 0, none⟩ : Addr).add m = ⟨g, m, none⟩ := by unfold Addr.add; split <;> simp_all
  have ne : c ≠ m := by omega
  rw [run_slice_l W 62 (some ⟨g, 0, none⟩) n c (by rw [elemI15]; exact Try.underlying62) .i64 (m : Int) (by omega) (by omega), elemI15, sizeI15]
  simp [Result.andThen, sliced, ne, e1]
set_option maxHeartbeats 2000000 in
theorem cdel_some15 (k : Nat) (cap : Array Value) (q : Int → Bool) (g c : Nat) (L : List Int) (w : World) (ho : OwnN15 w 0 (.slice (some ⟨g, 0, none⟩) L.length c) L) (hl : L.length ≤ 16) (hs : SaysI k cap q L (fun b => b = g) w) :
    Calls Try.prog 38 #[.slice (some ⟨g, 0, none⟩) L.length c, .func (.func k) #[] cap] w fun e w' => ∃ m, e = .returned (.slice (some ⟨g, 0, none⟩) m c) ∧ OwnN15 w' 0 (.slice (some ⟨g, 0, none⟩) m c) (keepI q L) ∧ Turn (fun b => b = g) w w' := by
  obtain ⟨ad, cap', hv, hA⟩ := OwnL.see ho
  simp only [Value.slice.injEq] at hv
  obtain ⟨rfl, -, rfl⟩ := hv
  have HI := Lib.hid (cindexI15 k cap q (some ⟨g, 0, none⟩) L.length c L _ w rfl hA hl hs)
  have hcap := own_capLe ho
  have hent := hs.1
  have HS := Lib.hid hs.2
  have HO := Lib.hid ho
  cases hf : L.findIdx? q with
  | none =>
    have e1 : firstI q L = -1 := by unfold firstI; rw [hf]
    rw [e1] at HI
    have e2 : keepI q L = L := by
      unfold keepI
      rw [List.filter_eq_self]
      intro x hx
      rw [List.findIdx?_eq_none_iff] at hf
      rw [hf x hx]
      rfl
    rw [e2]
    generalize L.length = n at *
    clear hf e1 e2 hA hs ho
    go_enter Try.func38, Try.ntmps38
    go_wp2_with (go_at_call 46; (with_reducible refine HI.out.mono ?_); rintro e w1 ⟨rfl, hb⟩; have HB := Lib.hid hb; clear hb)
    exact bodyPost_ret (v := .slice (some ⟨g, 0, none⟩) n c) (by simp [results, Try.results38, go_sem]) rfl ⟨n, rfl, OwnL.below HO.out HB.out, Turn.of_below HB.out⟩
  | some i0 =>
    rw [List.findIdx?_eq_some_iff_getElem] at hf
    obtain ⟨hi0, hq0, hb0⟩ := hf
    have e1 : firstI q L = i0 := first_some q L i0 hi0 hq0 fun j hj => by
      have := hb0 j hj
      simpa using this
    rw [e1] at HI
    have e2 : keepI q (L.take i0) = L.take i0 := by
      unfold keepI
      rw [List.filter_eq_self]
      intro x hx
      obtain ⟨j, hj, rfl⟩ := List.mem_iff_getElem.1 hx
      rw [List.length_take] at hj
      rw [List.getElem_take]
      have := hb0 j (by omega)
      simpa using this
    have HE3 := Lib.hid (show keepI q (L.take (i0 + 1)) = L.take i0 from (keep_yes q L i0 hi0 hq0).trans e2)
    have HST := Lib.hid (fun (W : World) (hb : Below w.heap.size w W) => show DelAt w g c L q (i0 + 1) W from ⟨⟨L, OwnL.below ho hb, rfl, by rw [HE3.out, List.length_take, Nat.min_eq_left (by omega)], rfl⟩, Turn.of_below hb⟩)
    have HLE := Lib.hid (show ((keepI q (L.take (i0 + 1))).length : Int) = i0 from by rw [HE3.out, List.length_take]; omega)
    obtain ⟨n, hn⟩ : ∃ n, L.length = n := ⟨_, rfl⟩
    have HN := Lib.hid hn
    rw [hn] at HI hl hcap hi0 ⊢
    have ne : ((i0 : Int) == -1) = false := by rw [beq_eq_false_iff_ne]; omega
    clear hq0 hb0 e1 e2 hA hs ho HE3 hn
    go_enter Try.func38, Try.ntmps38
    go_wp2_with (go_at_call 46; (with_reducible refine HI.out.mono ?_); rintro e w1 ⟨rfl, hb⟩; have HB := Lib.hid hb; clear hb)
    have HD0 := Lib.hid (HST.out _ HB.out)
    clear HST HI
    go_loopw [5, 6, 7] (fun iv jv _ wx => ∃ j : Nat, j ≤ n ∧ jv = .int .i64 (j : Int) ∧ iv = .int .i64 ((keepI q (L.take j)).length : Int) ∧ Hid ((keepI q (L.take j)).length < j ∧ DelAt w g c L q j wx)) (fun _ jv _ _ => n - (intOf jv).toNat)
    case atStart => exact ⟨i0 + 1, by omega, rfl, by rw [HLE.out], Lib.hid ⟨by have := HLE.out; omega, HD0.out⟩⟩
    case round =>
      obtain ⟨j, hj, rfl, rfl, HK⟩ := hrel
      clear HD0 HLE HB HO ne
      have hkl := keep_le q L j
      have HLT := Lib.hid HK.out.1
      have HD := Lib.hid HK.out.2
      clear HK
      by_cases hlt : j < n
      · have hL : j < L.length := by rw [HN.out]; exact hlt
        have x0 := HD.out.get hL
        obtain ⟨y0, yf⟩ := HD.out.room (keepI q (L.take j)).length (by omega)
        have HC := Lib.hid (fun W h => HS.out L[j] (List.getElem_mem hL) W h)
        have HG := Lib.hid (fun hq => keep_yes q L j hL hq)
        have HG2 := Lib.hid (fun hq (W : World) (h : DelAt w g c L q j W) => h.gone hL hq)
        have HK := Lib.hid (fun hq => keep_no q L j hL hq)
        have HK2 := Lib.hid (fun hq (W : World) (h : DelAt w g c L q j W) => h.kept hL hq)
        have hkn : (keepI q (L.take j)).length < n := by omega
        have HZ := Lib.hid (show wrap64 ((j : Int) + 1) = (j : Int) + 1 from IntWalk.wrap64_in _ (by omega))
        generalize L[j] = x at *
        cases hq : q x with
        | true =>
          rw [hq] at HC
          have HG3 := Lib.hid (show (keepI q (L.take (j + 1))).length = (keepI q (L.take j)).length from by rw [HG.out hq])
          have HG4 := Lib.hid (fun W h => HG2.out hq W h)
          clear hq HG HG2 HK HK2
          generalize (keepI q (L.take j)).length = m at *
          go_wp2_with (go_at_fn k; (with_reducible refine (HC.out _ HD.out.turn).mono ?_); rintro e w2 ⟨rfl, hb⟩; have HD2 := Lib.hid (HG4.out _ (HD.out.below hb)); clear hb)
          go_roundw
          case rel => exact ⟨j + 1, by omega, by (try rw [HZ.out]); rfl, by rw [HG3.out], Lib.hid ⟨by rw [HG3.out]; have := HLT.out; omega, HD2.out⟩⟩
          case measure =>
            try rw [HZ.out]
            simp [intOf]
            omega
        | false =>
          rw [hq] at HC
          have HG3 := Lib.hid (show (keepI q (L.take (j + 1))).length = (keepI q (L.take j)).length + 1 from by rw [HK.out hq, List.length_append]; rfl)
          have HG4 := Lib.hid (fun W h => HK2.out hq W h)
          have HRM := Lib.hid (fun W (h : DelAt w g c L q j W) => h.room (keepI q (L.take j)).length (by omega))
          clear hq HG HG2 HK HK2 y0 yf
          obtain ⟨m, hm⟩ : ∃ m, m = (keepI q (L.take j)).length := ⟨_, rfl⟩
          rw [← hm] at HG3 HG4 HLT HRM hkl hkn ⊢
          have HM := Lib.hid hm
          have HZ2 := Lib.hid (show wrap64 ((m : Int) + 1) = (m : Int) + 1 from IntWalk.wrap64_in _ (by omega))
          clear hm
          go_wp2_with (go_at_fn k; (with_reducible refine (HC.out _ HD.out.turn).mono ?_); rintro e w2 ⟨rfl, hb⟩; have HD1 := Lib.hid (HD.out.below hb); obtain ⟨y0, yf⟩ := HRM.out _ HD1.out; obtain ⟨yv, y0⟩ := Option.isSome_iff_exists.1 y0; have HD2 := Lib.hid (HG4.out _ HD1.out); clear hb)
          go_roundw
          case rel => exact ⟨j + 1, by omega, by (try rw [HZ.out]); rfl, by rw [HG3.out]; (try rw [HZ2.out]); rfl, Lib.hid ⟨by rw [HG3.out]; have := HLT.out; omega, HD2.out⟩⟩
          case measure =>
            try rw [HZ.out]
            simp [intOf]
            omega
      · obtain rfl : j = n := by omega
        have e : L.take j = L := List.take_of_length_le (by have := HN.out; omega)
        obtain ⟨M, hM, hMl, hMt, -⟩ := HD.out.own
        have hlt' := HLT.out
        rw [e] at hMt hlt' ⊢
        have hfrom := fun W => run_from15 g j c (keepI q L).length (by omega) (by omega) W
        have hcut := OwnL.cut hM (keepI q L).length (by have := HN.out; omega)
        rw [hMt] at hcut
        have hroom := fun i hi => HD.out.room i hi
        have hclr := Lib.run_clear_slice (P := Try.prog) wr 62 3 0 (.int .i64 0) Try.underlying62 zeroI15 rfl rfl g (keepI q L).length (j - (keepI q L).length) (c - (keepI q L).length) (by omega) (fun i hi => (hroom _ (by have := HN.out; omega)).1) (fun i hi => (hroom _ (by have := HN.out; omega)).2)
        have HE := Lib.hid (And.intro (OwnL.beyond hcut (keepI q L).length (by simp [encI]) (List.replicate (j - (keepI q L).length) (.int .i64 0))) (HD.out.turn.setCells (g := g) (Or.inl rfl) (keepI q L).length (List.replicate (j - (keepI q L).length) (.int .i64 0))))
        clear hM hMl hMt hcut hroom e HD HLT
        obtain ⟨m, hm⟩ : ∃ m, m = (keepI q L).length := ⟨_, rfl⟩
        rw [← hm] at hfrom hclr HE hlt' ⊢
        generalize wr.setCells g m (List.replicate (j - m) (.int .i64 0)) = w4 at *
        clear hm hkl
        go_wp2_with (at_builtin; refine wpList_clear_run _ rfl (.tmp 38) rfl rfl hclr ?_)
        exact bodyPost_ret (v := .slice (some ⟨g, 0, none⟩) m c) (by simp [results, Try.results38, go_sem]) rfl ⟨m, rfl, HE.out⟩
theorem cdel15 (k : Nat) (cap : Array Value) (q : Int → Bool) (v : Value) (L : List Int) (w : World) (ho : OwnN15 w 0 v L) (hl : L.length ≤ 16) (hs : SaysI k cap q L (fun b => v.ownBlock = some b) w) :
    Calls Try.prog 38 #[v, .func (.func k) #[] cap] w fun e w' => ∃ v', e = .returned v' ∧ OwnN15 w' 0 v' (keepI q L) ∧ v'.ownBlock = v.ownBlock ∧ Turn (fun b => v.ownBlock = some b) w w' := by
  rcases ho.2 with ⟨rfl, h0⟩ | ⟨g, c, cur, rfl, -⟩
  · obtain rfl : L = [] := List.length_eq_zero_iff.1 h0
    have HI := Lib.hid (cindexI15 k cap q none 0 0 [] _ w rfl (AtL.nil _ _ _) (by omega) hs)
    rw [show firstI q [] = -1 from rfl] at HI
    clear ho hl hs h0
    go_enter Try.func38, Try.ntmps38
    go_wp2_with (go_at_call 46; (with_reducible refine HI.out.mono ?_); rintro e w1 ⟨rfl, hb⟩; have HB := Lib.hid hb; clear hb)
    exact bodyPost_ret (v := .slice none 0 0) (by simp [results, Try.results38, go_sem]) rfl ⟨_, rfl, OwnL.nil _ _ _ _, rfl, Turn.of_below HB.out⟩
  · have e : (fun b => (Value.slice (some ⟨g, 0, none⟩) L.length c).ownBlock = some b) = (fun b => b = g) := by
      funext b
      simp only [Value.ownBlock, Option.some.injEq, eq_iff_iff]
      exact ⟨fun h => h.symm, fun h => h.symm⟩
    rw [e] at hs ⊢
    refine (cdel_some15 k cap q g c L w ho hl hs).mono fun e w' ⟨m, he, h1, h2⟩ => ⟨_, he, h1, rfl, h2⟩
end Go.Proofs.Ytgfipndilngfbaa
