/-
The document's queue: Take (written by tools/gen16/gen_rtake.py).
-/
import Derived.Test.YtliamhphpnifaaaTxqRefT
namespace Go.Proofs.Ytliamhphpnifaaa
open Go.RowKit
set_option maxRecDepth 20000
theorem elemE16 : Try.prog.elem 28 = 43 := by kernel_rfl
theorem sizeE16 (w : World) : (sizeOf 43).run Try.prog w = .ok 3 w := by kernel_rfl
/-- where the rest of a list lies -/
def restE (ad : Option Addr) (k c : Nat) : Option Addr := if c = k then ad else ad.map fun a => a.add (k * 3)
theorem run_rest16 (ad : Option Addr) (n c k : Nat) (hk : k ≤ n) (W : World) : (Instr.slice 28 (.slice ad n c) (some (.int .i64 (k : Int))) none none).run Try.prog W = .ok (.slice (restE ad k c) (n - k) (c - k)) W := by
  rw [run_slice_l W 28 ad n c (by rw [elemE16]; exact Try.underlying28) .i64 (k : Int) (by omega) (by omega), elemE16, sizeE16]
  simp [Result.andThen, sliced, restE]
theorem restE_at {w : World} {ad : Option Addr} {k c : Nat} {S : List Ent} (h : AtL encE w ad S) (hc : S.length ≤ c) : AtL encE w (restE ad k c) (S.drop k) := by
  intro j hj
  rw [List.length_drop] at hj
  obtain ⟨g, o, rfl, hg, hcell⟩ := h (k + j) (by omega)
  have e1 : (⟨g, o, none⟩ : Addr).add (k * 3) = ⟨g, o + k * 3, none⟩ := by unfold Addr.add; split <;> simp_all
  refine ⟨g, o + k * 3, by unfold restE; rw [if_neg (by omega), Option.map_some, e1], hg, fun x u hx => ?_⟩
  rw [List.getElem_drop] at hx
  have := hcell x u hx
  rw [show o + k * 3 + j * encE.n + x = o + (k + j) * encE.n + x by rw [Nat.add_mul]; simp only [encE]; omega]
  exact this
theorem restE_form {ad : Option Addr} {k c : Nat} (had : ∀ q, ad = some q → ∃ g, q = ⟨g, 0, none⟩) : ∀ q, restE ad k c = some q → ∃ o, q = ⟨q.block, o, none⟩ ∧ ∃ a, ad = some a ∧ a.block = q.block := by
  intro q e
  cases ad with
  | none => unfold restE at e; split at e <;> cases e
  | some a =>
    obtain ⟨g, rfl⟩ := had a rfl
    have e1 : (⟨g, 0, none⟩ : Addr).add (k * 3) = ⟨g, 0 + k * 3, none⟩ := by unfold Addr.add; split <;> simp_all
    unfold restE at e
    split at e
    · cases e
      exact ⟨0, rfl, _, rfl, rfl⟩
    · rw [Option.map_some, e1] at e
      cases e
      exact ⟨0 + k * 3, rfl, _, rfl, rfl⟩
abbrev frs (L : List Ent) : List ByteArray := L.map Ent.fr
theorem frs_next (L : List Ent) (k : Nat) (hk : k < L.length) : frs (L.take (k + 1)) = frs (L.take k) ++ [L[k].fr] := by
  unfold frs
  rw [List.take_succ_eq_append_getElem hk, List.map_append]
  rfl
theorem sumF_le : ∀ (L : List Ent), (∀ e ∈ L, e.fr.size ≤ 1000) → 0 ≤ sumF L ∧ sumF L ≤ 1000 * (L.length : Int)
  | [], _ => by simp [sumF]
  | e :: r, h => by
    have ih := sumF_le r fun x hx => h x (List.mem_cons_of_mem _ hx)
    have := h e List.mem_cons_self
    have e2 : sumF (e :: r) = (e.fr.size : Int) + sumF r := by unfold sumF; rw [List.map_cons, List.sum_cons]
    rw [e2, List.length_cons]
    omega
/-- what Take answers -/
def RtTo (w : World) (p : Nat) (F : Nat → Prop) (S : List Ent) (q : Nat) : Ending → World → Prop := fun e w' => ∃ F' v, e = .returned v ∧ OwnL encS 9 w' w.heap.size v (frs (S.take q)) ∧ RqL w' p (S.drop q) F' ∧ Turn F w w' ∧ Grew F F' w
/-- at its end -/
theorem rt_end {w w1 W : World} {p : Nat} {F : Nat → Prop} {L S : List Ent} {ad : Option Addr} {c k : Nat} {tv : Value} (hq : RqL w p L F) (hb1 : Below w.heap.size w w1) (hS : OwnL encE 43 w1 w.heap.size (.slice ad S.length c) S) (hb : Below w1.heap.size w1 W) (ho : OwnL encS 9 W w1.heap.size tv (frs (S.take k))) (hk : k ≤ S.length) :
    (∃ x, W.cell? ⟨p, 0, none⟩ = some x ∧ W.frozen? ⟨p, 0, none⟩ = false) ∧ RtTo w p F S k (.returned tv) (W.setCell ⟨p, 0, none⟩ (.slice (restE ad k c) (S.length - k) (c - k))) := by
  have hbw : Below w.heap.size w W := hb1.trans (hb.mono hb1.size)
  have hqW := hq.below hbw
  have hpF : F p := by
    obtain ⟨_, _, _, _, _, _, hF⟩ := hq
    rw [hF]
    exact Or.inl rfl
  have hpw := hq.mem p hpF
  obtain ⟨a0, c0, hr, -, -, -, -⟩ := hqW
  have hown := own_from hS
  have had : ∀ q, ad = some q → ∃ g, q = ⟨g, 0, none⟩ := fun q e => by
    rcases hS.2 with ⟨h0, _⟩ | ⟨g', cap', cur, hv, _⟩
    · simp only [Value.slice.injEq] at h0
      rw [h0.1] at e
      cases e
    · simp only [Value.slice.injEq] at hv
      rw [hv.1] at e
      exact ⟨g', (Option.some.inj e).symm⟩
  have hcap : S.length ≤ c := by
    rcases hS.2 with ⟨h0, h1⟩ | ⟨g', cap', cur, hv, hb', hg', hc', _⟩
    · simp only [Value.slice.injEq] at h0
      omega
    · simp only [Value.slice.injEq] at hv
      omega
  obtain ⟨a1, c1, hv, hA⟩ := hS.see
  simp only [Value.slice.injEq, true_and] at hv
  obtain ⟨rfl, rfl⟩ := hv
  have hblk : ∀ q, ad = some q → w.heap.size ≤ q.block ∧ q.block < w1.heap.size := fun q e => by
    obtain ⟨g, rfl⟩ := had q e
    exact hS.ge (g := g) (by rw [e]; rfl)
  have hsz : (W.setCell ⟨p, 0, none⟩ (.slice (restE ad k c) (S.length - k) (c - k))).heap.size = W.heap.size := by simp [World.setCell]
  refine ⟨⟨_, hr.cell 0 rfl, (hr.get 0 rfl).free⟩, fun x => x = p ∨ ∃ q, restE ad k c = some q ∧ q.block = x, tv, rfl, ?_, ⟨restE ad k c, c - k, ?_, by rw [List.length_drop]; omega, ?_, fun q e => ?_, rfl⟩, ?_, fun x hx => ?_⟩
  · exact (OwnL.base ho hb1.size).same fun g e => Below.heap_setCell _ _ _ _ (show g ≠ p from fun q => by have := (ho.ge e).1; have := hb1.size; omega)
  · rw [List.length_drop]
    exact hr.put 0 _ _ rfl
  · refine (restE_at (hA.below hb) hcap).set _ fun q e => ?_
    obtain ⟨o, -, a, ha, hab⟩ := restE_form had q e
    have := (hblk a ha).1
    show q.block ≠ p
    omega
  · obtain ⟨o, e1, a, ha, hab⟩ := restE_form had q e
    have h1 := hblk a ha
    have h2 := hb.size
    refine ⟨by rw [hsz]; omega, by omega, q.block, o, e1⟩
  · exact (Turn.of_below hbw).set (p := ⟨p, 0, none⟩) (Or.inl hpF) _
  · rcases hx with rfl | ⟨q, e, rfl⟩
    · exact Or.inl hpF
    · obtain ⟨o, -, a, ha, hab⟩ := restE_form had q e
      have := (hblk a ha).1
      exact Or.inr (by omega)
set_option maxHeartbeats 2000000 in
theorem rtake_any (most bytes : Int) (p : Nat) (L : List Ent) (F : Nat → Prop) (w : World) (h : RqL w p L F) (hl : L.length ≤ 1000) (hsz : ∀ e ∈ sortE L, e.fr.size ≤ 1000) (hsl : (sortE L).length ≤ 1000) :
    Calls Try.prog 13 #[.pointer (some ⟨p, 0, none⟩), .int .i64 most, .int .i64 bytes] w (RtTo w p F (sortE L) (takeN most bytes 0 0 (sortE L))) := by
  have HQ := Lib.hid h
  have HS := Lib.hid (rsorted_any p L F w h hl)
  obtain ⟨S, hS⟩ : ∃ S, S = sortE L := ⟨_, rfl⟩
  rw [← hS] at HS hsz hsl ⊢
  have HZ := Lib.hid hsz
  obtain ⟨N, hN⟩ : ∃ N, N = S.length := ⟨_, rfl⟩
  have HN := Lib.hid hN
  have HSUM := Lib.hid (fun k => sumF_le (S.take k) fun e he => hsz e (List.mem_of_mem_take he))
  have HTF := Lib.hid (fun k hk => take_from most bytes S k hk)
  rw [← hN] at hsl
  clear h hsz hS hN
  go_enter Try.func13, Try.ntmps13
  go_wp2_with (go_at_call 16; (with_reducible refine HS.out.mono ?_); rintro e w1 ⟨v1, rfl, hown1, hb1⟩; obtain ⟨ad, c, rfl, hA1⟩ := hown1.see; have HO1 := Lib.hid hown1; have HB1 := Lib.hid hb1; have HA1 := Lib.hid hA1; clear hown1 hb1 hA1)
  rw [← HN.out]
  have HP0 := Lib.hid (And.intro (OwnL.lit encS 9 w1 w1.heap.size [] [] rfl (Nat.le_refl _) (by simp) 0 rfl) ((Below.refl w1.heap.size w1).alloc (Nat.le_refl _) (.cells #[] 9)))
  go_loopw [8, 9, 10] (fun ov nv kv wx => ∃ (k : Nat) (tv : Value), k ≤ N ∧ kv = .int .i64 k ∧ nv = .int .i64 (sumF (S.take k)) ∧ tv = ov ∧ Hid (takeN most bytes 0 0 S = k + takeN most bytes k (sumF (S.take k)) (S.drop k) ∧ OwnL encS 9 wx w1.heap.size tv (frs (S.take k)) ∧ Below w1.heap.size w1 wx)) (fun _ _ kv _ => N - (intOf kv).toNat)
  case atStart => exact ⟨0, _, Nat.zero_le _, rfl, rfl, rfl, Lib.hid ⟨by simp [sumF], HP0.out⟩⟩
  case round =>
    obtain ⟨k, tv, hk, rfl, rfl, rfl, HK⟩ := hrel
    clear HP0
    have hrest := fun W => run_rest16 ad N c k hk W
    have htf := HTF.out k (by have := HN.out; omega)
    by_cases hlt : k < N
    · have hL : k < S.length := by rw [← HN.out]; exact hlt
      rw [dif_pos hL] at htf
      obtain ⟨g, o, rfl, -⟩ := HA1.out.some_ (by omega)
      have e2 := ((HA1.out.below HK.out.2.2).ent k hL).2.2
      have hsb := HSUM.out k
      rw [List.length_take] at hsb
      have hfz := HZ.out S[k] (List.getElem_mem hL)
      have hsw : wrap64 (sumF (S.take k) + (S[k].fr.size : Int)) = sumF (S.take k) + (S[k].fr.size : Int) := IntWalk.wrap64_in _ (by omega)
      unfold goesE at htf
      by_cases hb : (k : Int) < most
      · have db : decide ((k : Int) < most) = true := decide_eq_true hb
        by_cases hc : k = 0
        · have dc : ((k : Int) == 0) = true := by rw [beq_iff_eq]; omega
          have hz0 : takeN most bytes k (sumF (S.take k)) (S.drop k) = takeN most bytes (k + 1) (sumF (S.take (k + 1))) (S.drop (k + 1)) + 1 := by rw [htf, db, decide_eq_true hc]; rfl
          have HZ2 := Lib.hid (show wrap64 ((k : Int) + 1) = (k : Int) + 1 from IntWalk.wrap64_in _ (by omega))
          have HSK := Lib.hid (sumF_take S k hL)
          have HFN := Lib.hid (frs_next S k hL)
          have HHZ := Lib.hid hz0
          have HLE := Lib.hid (show (frs (S.take k)).length ≤ 10000 from by rw [List.length_map, List.length_take]; omega)
          generalize sumF (S.take k) = s0 at *
          generalize S[k].fr = f at *
          clear hz0 htf
          try clear hc
          try clear hd
          try clear ds
          go_wp2_with (at_builtin; refine wpList_append_one encS 9 37 Try.underlying37 infoS16 rfl (by decide) _ rfl (.tmp 47) (.tmp 53) rfl w1.heap.size _ _ rfl (OwnL.alloc HK.out.2.1 _) wr.heap.size 1 rfl f (AtL.made encS 9 wr wr.heap.size f _ rfl rfl) (by have := HLE.out; omega) (by have := HK.out.2.2.size; simp; omega) ?_; intro v2 w3 hown hgr hwh)
          have HE := Lib.hid (And.intro hown (OwnL.appended (OwnL.alloc HK.out.2.1 (.cells #[.string f] 9)) (HK.out.2.2.alloc HK.out.2.2.size _) (Nat.le_refl _) (by have := HK.out.2.2.size; simp; omega) hgr))
          clear hown hgr hwh
          go_roundw
          case rel => exact ⟨k + 1, _, by omega, by (try rw [HZ2.out]); rfl, by rw [HSK.out], rfl, Lib.hid ⟨by rw [HK.out.1, HHZ.out]; omega, by rw [HFN.out]; exact HE.out.1, HE.out.2⟩⟩
          case measure =>
            try rw [HZ2.out]
            simp [intOf]
            omega
        · have dc : ((k : Int) == 0) = false := by rw [beq_eq_false_iff_ne]; omega
          by_cases hd : sumF (S.take k) + (S[k].fr.size : Int) ≤ bytes
          · have dd : decide (sumF (S.take k) + (S[k].fr.size : Int) ≤ bytes) = true := decide_eq_true hd
            have hz0 : takeN most bytes k (sumF (S.take k)) (S.drop k) = takeN most bytes (k + 1) (sumF (S.take (k + 1))) (S.drop (k + 1)) + 1 := by rw [htf, db, dd, decide_eq_false hc]; rfl
            have HZ2 := Lib.hid (show wrap64 ((k : Int) + 1) = (k : Int) + 1 from IntWalk.wrap64_in _ (by omega))
            have HSK := Lib.hid (sumF_take S k hL)
            have HFN := Lib.hid (frs_next S k hL)
            have HHZ := Lib.hid hz0
            have HLE := Lib.hid (show (frs (S.take k)).length ≤ 10000 from by rw [List.length_map, List.length_take]; omega)
            generalize sumF (S.take k) = s0 at *
            generalize S[k].fr = f at *
            clear hz0 htf
            try clear hc
            try clear hd
            try clear ds
            go_wp2_with (at_builtin; refine wpList_append_one encS 9 37 Try.underlying37 infoS16 rfl (by decide) _ rfl (.tmp 47) (.tmp 53) rfl w1.heap.size _ _ rfl (OwnL.alloc HK.out.2.1 _) wr.heap.size 1 rfl f (AtL.made encS 9 wr wr.heap.size f _ rfl rfl) (by have := HLE.out; omega) (by have := HK.out.2.2.size; simp; omega) ?_; intro v2 w3 hown hgr hwh)
            have HE := Lib.hid (And.intro hown (OwnL.appended (OwnL.alloc HK.out.2.1 (.cells #[.string f] 9)) (HK.out.2.2.alloc HK.out.2.2.size _) (Nat.le_refl _) (by have := HK.out.2.2.size; simp; omega) hgr))
            clear hown hgr hwh
            go_roundw
            case rel => exact ⟨k + 1, _, by omega, by (try rw [HZ2.out]); rfl, by rw [HSK.out], rfl, Lib.hid ⟨by rw [HK.out.1, HHZ.out]; omega, by rw [HFN.out]; exact HE.out.1, HE.out.2⟩⟩
            case measure =>
              try rw [HZ2.out]
              simp [intOf]
              omega
          · have dd : decide (sumF (S.take k) + (S[k].fr.size : Int) ≤ bytes) = false := decide_eq_false hd
            have hz0 : takeN most bytes k (sumF (S.take k)) (S.drop k) = 0 := by rw [htf, db, dd, decide_eq_false hc]; rfl
            have HE := Lib.hid (rt_end HQ.out HB1.out HO1.out HK.out.2.2 HK.out.2.1 (by have := HN.out; omega))
            rw [hz0, Nat.add_zero] at HK
            have HEQ := Lib.hid HK.out.1
            obtain ⟨⟨x, y0, yf⟩, he⟩ := HE.out
            rw [← HN.out] at he
            have HE2 := Lib.hid he
            clear he HE hz0 htf
            try clear hc
            try clear hd
            go_wp2_with fail
            refine bodyPost_ret (v := tv) (by simp [results, Try.results13, go_sem]) rfl ?_
            rw [HEQ.out]
            exact HE2.out
      · have db : decide ((k : Int) < most) = false := decide_eq_false hb
        have hz0 : takeN most bytes k (sumF (S.take k)) (S.drop k) = 0 := by rw [htf, db]; rfl
        have HE := Lib.hid (rt_end HQ.out HB1.out HO1.out HK.out.2.2 HK.out.2.1 (by have := HN.out; omega))
        rw [hz0, Nat.add_zero] at HK
        have HEQ := Lib.hid HK.out.1
        obtain ⟨⟨x, y0, yf⟩, he⟩ := HE.out
        rw [← HN.out] at he
        have HE2 := Lib.hid he
        clear he HE hz0 htf
        try clear hc
        try clear hd
        go_wp2_with fail
        refine bodyPost_ret (v := tv) (by simp [results, Try.results13, go_sem]) rfl ?_
        rw [HEQ.out]
        exact HE2.out
    · have hz0 : takeN most bytes k (sumF (S.take k)) (S.drop k) = 0 := by rw [htf, dif_neg (by have := HN.out; omega)]
      have HE := Lib.hid (rt_end HQ.out HB1.out HO1.out HK.out.2.2 HK.out.2.1 (by have := HN.out; omega))
      rw [hz0, Nat.add_zero] at HK
      have HEQ := Lib.hid HK.out.1
      obtain ⟨⟨x, y0, yf⟩, he⟩ := HE.out
      rw [← HN.out] at he
      have HE2 := Lib.hid he
      clear he HE hz0 htf
      try clear hc
      try clear hd
      go_wp2_with fail
      refine bodyPost_ret (v := tv) (by simp [results, Try.results13, go_sem]) rfl ?_
      rw [HEQ.out]
      exact HE2.out
end Go.Proofs.Ytliamhphpnifaaa
