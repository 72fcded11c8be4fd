/-
The landed clock's drop.
-/
import Derived.Test.YtchhaolgmdhnmaaClkCode
namespace Go.Proofs.Ytchhaolgmdhnmaa
open Go.RowKit
set_option maxRecDepth 20000
/-- a function that says which timers go, called by the number k with what it holds -/
def Says (k : Nat) (cap : Array Value) (q : Tm → Bool) (F : Nat → Prop) (w : World) : Prop :=
  (∀ args W, (callFunc k args).run Try.prog W = .ok (.enter k args) W) ∧
  ∀ (t : Tm) (W : World), Turn F w W → Calls Try.prog k (#[.agg #[.int .i64 t.k, .int .i64 t.n, .int .i64 t.l]] ++ cap) W fun e W' => e = .returned (.bool (q t)) ∧ Below W.heap.size W W'
set_option maxHeartbeats 1000000 in
theorem cdrop_nil (g : Value) (w : World) : Calls Try.prog 20 #[.pointer none, g] w fun e w' => e = .returned (.slice none 0 0) ∧ w' = w := by
  go_enter Try.func20, Try.ntmps20
  go_wp2_with fail
  exact bodyPost_ret (v := .slice none 0 0) (by simp [results, Try.results20, go_sem]) rfl ⟨rfl, rfl⟩
set_option maxHeartbeats 1000000 in
theorem cdrop_empty (p : Nat) (g : Value) (w : World) (h : RowAt w p [.slice none 0 0]) : Calls Try.prog 20 #[.pointer (some ⟨p, 0, none⟩), g] w fun e w' =>
    e = .returned (.slice none 0 0) ∧ RowAt w' p [.slice none 0 0] ∧ Turn (fun b => b = p) w w' := by
  have c0 := h.cell 0 rfl
  have f0 := (h.get 0 rfl).free
  have HP := Lib.hid (And.intro (h.put 0 (.slice none 0 0) _ rfl) ((Turn.refl (fun b => b = p) w).set (p := ⟨p, 0, none⟩) (Or.inl rfl) (.slice none 0 0)))
  clear h
  go_enter Try.func20, Try.ntmps20
  go_wp2_with fail
  refine wp_loop_rounds 1 ?_
  rw [rounds_succ]
  go_wp2_with fail
  exact bodyPost_ret (v := .slice none 0 0) (by simp [results, Try.results20, go_sem]) rfl ⟨rfl, HP.out⟩
set_option maxHeartbeats 2000000 in
theorem cdrop_some (k : Nat) (cap : Array Value) (q : Tm → Bool) (p g c : Nat) (L : List Tm) (w : World) (hr : RowAt w p [.slice (some ⟨g, 0, none⟩) L.length c]) (ho : OwnT w (.slice (some ⟨g, 0, none⟩) L.length c) L) (hpg : p ≠ g) (hl : L.length ≤ 32)
    (hs : Says k cap q (fun b => b = p ∨ b = g) w) : Calls Try.prog 20 #[.pointer (some ⟨p, 0, none⟩), .func (.func k) #[] cap] w fun e w' =>
    ∃ tv, e = .returned tv ∧ OwnN w' w.heap.size tv (goN q L) ∧ RowAt w' p [.slice (some ⟨g, 0, none⟩) (keepL q L).length c] ∧ OwnT w' (.slice (some ⟨g, 0, none⟩) (keepL q L).length c) (keepL q L) ∧ Turn (fun b => b = p ∨ b = g) w w' := by
  obtain ⟨n, hn⟩ : ∃ n, L.length = n := ⟨_, rfl⟩
  have hgs : g < w.heap.size := (ho.ge (g := g) rfl).2
  have HD0 := Lib.hid (show DrAt w p g c L q 0 (.slice none 0 0) w from ⟨hr, ⟨L, ho, rfl, by simp, rfl⟩, OwnL.nil _ _ _ _, Turn.refl _ _, hr.lt, hgs, hpg⟩)
  have hent := hs.1
  have HG := Lib.hid hs.2
  have HN := Lib.hid hn
  have c0 := hr.cell 0 rfl
  have hcap : n ≤ c := by
    rcases ho.2 with ⟨h0, _⟩ | ⟨g', cap', cur, hv, hb, hg, hc, hmx, hss, ht⟩
    · cases h0
    · simp only [Value.slice.injEq] at hv
      obtain ⟨-, -, rfl⟩ := hv
      omega
  rw [hn] at hl c0
  clear hr ho hs
  go_enter Try.func20, Try.ntmps20
  go_wp2_with fail
  go_loopw [5, 6, 21] (fun l m v wx => ∃ (i j : Nat) (tv : Value), i ≤ n ∧ v = .int .i64 i ∧ m = .slice (some ⟨g, 0, none⟩) j c ∧ tv = l ∧ Hid (j = (keepL q (L.take i)).length ∧ DrAt w p g c L q i tv wx)) (fun _ _ v _ => n - (intOf v).toNat)
  case atStart => exact ⟨0, 0, _, Nat.zero_le _, rfl, rfl, rfl, Lib.hid ⟨rfl, HD0.out⟩⟩
  case round =>
    obtain ⟨i, j, tv, hi, rfl, rfl, rfl, HK⟩ := hrel
    clear HD0
    have HJ := Lib.hid HK.out.1
    have HD := Lib.hid HK.out.2
    clear HK
    by_cases hlt : i < n
    · have hL : i < L.length := by omega
      obtain ⟨x0, x1, x2⟩ := HD.out.get hL
      have HC := Lib.hid (fun W h => HG.out L[i] W h)
      have HY := Lib.hid (fun h => goN_yes q L i hL h)
      have HZ := Lib.hid (fun h => goN_no q L i hL h)
      have HGO := Lib.hid (fun h (W W' : World) (tv' : Value) (hd : DrAt w p g c L q i tv W) (hg : W.grownBy W' tv.ownBlock) ho => hd.gone hL h hg (tv' := tv') ho)
      have hjl := keep_len q L i (by omega)
      rw [← HJ.out] at hjl
      have HKE := Lib.hid (fun h (W : World) (hd : DrAt w p g c L q i tv W) => hd.kept hL h)
      have hgl := (show (goN q (L.take i)).length ≤ 1000 from by
        rw [List.length_map]
        refine Nat.le_trans (List.length_filter_le _ _) ?_
        rw [List.length_take]
        omega)
      generalize L[i] = t at *
      obtain ⟨t0, t1, t2⟩ := t
      have HB1 := Lib.hid ((Below.refl wr.heap.size wr).alloc (Nat.le_refl _) (.cells #[.int .i64 t0, .int .i64 t1, .int .i64 t2] 54))
      have b0 : (wr.alloc (.cells #[.int .i64 t0, .int .i64 t1, .int .i64 t2] 54)).cell? ⟨wr.heap.size, 0, none⟩ = some (.int .i64 t0) := World.cell?_alloc_at _ _ _ _ rfl
      have b1 : (wr.alloc (.cells #[.int .i64 t0, .int .i64 t1, .int .i64 t2] 54)).cell? ⟨wr.heap.size, 1, none⟩ = some (.int .i64 t1) := World.cell?_alloc_at _ _ _ _ rfl
      have b2 : (wr.alloc (.cells #[.int .i64 t0, .int .i64 t1, .int .i64 t2] 54)).cell? ⟨wr.heap.size, 2, none⟩ = some (.int .i64 t2) := World.cell?_alloc_at _ _ _ _ rfl
      have HBX := Lib.hid (And.intro b0 (And.intro b1 b2))
      have HSZ := Lib.hid (show wr.heap.size < (wr.alloc (.cells #[.int .i64 t0, .int .i64 t1, .int .i64 t2] 54)).heap.size from by simp)
      have HW0 := Lib.hid HD.out.turn.size
      clear b0 b1 b2
      cases hq : q ⟨t0, t1, t2⟩ with
      | true =>
        rw [hq] at HC
        have HG1 := Lib.hid (HGO.out hq)
        have HYY := Lib.hid (HY.out hq)
        clear HY HZ HGO HKE hq
        go_wp2_with (first
          | (go_at_fn k; (with_reducible refine (HC.out _ (HD.out.below HB1.out).turn).mono ?_); rintro e w2 ⟨rfl, hb⟩; have HD2 := Lib.hid ((HD.out.below HB1.out).below hb); have c0 := (hb.cell (p := ⟨wr.heap.size, 0, none⟩) HSZ.out).trans HBX.out.1; have c1 := (hb.cell (p := ⟨wr.heap.size, 1, none⟩) HSZ.out).trans HBX.out.2.1; clear hb)
          | (at_builtin; refine wpList_append_one encN 31 40 Try.underlying40 infoN rfl (by decide) _ rfl (.tmp 28) (.tmp 31) rfl w.heap.size tv (goN q (L.take i)) rfl (HD2.out.told.alloc _) w2.heap.size 1 rfl ⟨t0, t1⟩ (AtL.made encN 31 w2 w2.heap.size ⟨t0, t1⟩ _ rfl rfl) (by omega) (by have := HD2.out.turn.size; simp; omega) ?_; intro v2 w3 hown hgr hwh))
        have HD3 := Lib.hid (HG1.out _ _ _ (HD2.out.below ((Below.refl _ _).alloc (Nat.le_refl _) _)) hgr hown)
        clear hown hgr hwh
        go_roundw
        case rel => exact ⟨i + 1, j, v2, by omega, rfl, rfl, rfl, Lib.hid ⟨by rw [(HYY.out).2]; exact HJ.out, HD3.out⟩⟩
        case measure => simp [intOf]; omega
      | false =>
        rw [hq] at HC
        have HG1 := Lib.hid (HKE.out hq)
        have HYY := Lib.hid (HZ.out hq)
        clear HY HZ HGO HKE hq
        go_wp2_with (first
          | (go_at_fn k; (with_reducible refine (HC.out _ (HD.out.below HB1.out).turn).mono ?_); rintro e w2 ⟨rfl, hb⟩; have HD2 := Lib.hid ((HD.out.below HB1.out).below hb); have c0 := (hb.cell (p := ⟨wr.heap.size, 0, none⟩) HSZ.out).trans HBX.out.1; have c1 := (hb.cell (p := ⟨wr.heap.size, 1, none⟩) HSZ.out).trans HBX.out.2.1; have c2 := (hb.cell (p := ⟨wr.heap.size, 2, none⟩) HSZ.out).trans HBX.out.2.2; clear hb)
          | (at_builtin; obtain ⟨M, hM, hMl, -⟩ := HD2.out.own; refine wpList_append_in encT 54 50 Try.underlying50 infoT _ rfl (.tmp 33) (.tmp 35) rfl 0 g _ c M (hM.alloc _) j (by omega) rfl w2.heap.size 1 rfl ⟨t0, t1, t2⟩ (AtL.made encT 54 w2 w2.heap.size ⟨t0, t1, t2⟩ _ rfl rfl) ?_; have HD3 := Lib.hid (HG1.out _ (HD2.out.below ((Below.refl _ _).alloc (Nat.le_refl _) (.cells #[.int .i64 t0, .int .i64 t1, .int .i64 t2] 54)))); rw [← HJ.out] at HD3))
        go_roundw
        case rel => exact ⟨i + 1, j + 1, tv, by omega, rfl, rfl, rfl, Lib.hid ⟨by rw [(HYY.out).2, List.length_append, HJ.out]; rfl, HD3.out⟩⟩
        case measure => simp [intOf]; omega
    · have hin : i = n := by omega
      subst hin
      have e : L.take i = L := List.take_of_length_le (by omega)
      have HD2 := Lib.hid HD.out
      have HJ2 := Lib.hid HJ.out
      rw [e] at HJ2
      have hd := HD.out
      have k0 := hd.row.cell 0 rfl
      have kf := (hd.row.get 0 rfl).free
      obtain ⟨M, h1, h2, h3, -⟩ := hd.own
      have HEND := Lib.hid (show OwnN (wr.setCell ⟨p, 0, none⟩ (.slice (some ⟨g, 0, none⟩) j c)) w.heap.size tv (goN q L) ∧ RowAt (wr.setCell ⟨p, 0, none⟩ (.slice (some ⟨g, 0, none⟩) j c)) p [.slice (some ⟨g, 0, none⟩) (keepL q L).length c] ∧
          OwnT (wr.setCell ⟨p, 0, none⟩ (.slice (some ⟨g, 0, none⟩) j c)) (.slice (some ⟨g, 0, none⟩) (keepL q L).length c) (keepL q L) ∧ Turn (fun b => b = p ∨ b = g) w (wr.setCell ⟨p, 0, none⟩ (.slice (some ⟨g, 0, none⟩) j c)) from by
        have hjl := keep_len q L i (by omega)
        rw [e] at hjl h3
        have hcut := h1.cut (keepL q L).length (by omega)
        rw [h3] at hcut
        have htold := hd.told
        rw [e] at htold
        have hlt := hd.lt
        rw [HJ2.out]
        refine ⟨htold.same fun b e => Below.heap_setCell _ _ _ _ (show b ≠ p from fun q => ?_), hd.row.put 0 _ _ rfl, hcut.same fun b e => Below.heap_setCell _ _ _ _ (show b ≠ p from fun q => ?_), hd.turn.set (p := ⟨p, 0, none⟩) (Or.inl (Or.inl rfl)) _⟩
        · have := (hd.told.ge e).1
          omega
        · simp only [Value.ownBlock, Option.some.injEq] at e
          omega)
      clear hd h1 h2 h3 e
      go_wp2_with fail
      exact bodyPost_ret (v := tv) (by simp [results, Try.results20, go_sem]) rfl ⟨tv, rfl, HEND.out⟩
/-- of any clock -/
theorem cdrop_any (k : Nat) (cap : Array Value) (q : Tm → Bool) (p : Nat) (L : List Tm) (F : Nat → Prop) (w : World) (h : CkL w p L F) (hl : L.length ≤ 32) (hs : Says k cap q F w) : Calls Try.prog 20 #[.pointer (some ⟨p, 0, none⟩), .func (.func k) #[] cap] w fun e w' =>
    ∃ tv, e = .returned tv ∧ OwnN w' w.heap.size tv (goN q L) ∧ CkL w' p (keepL q L) F ∧ Turn F w w' := by
  obtain ⟨v, hr, ho, hn, rfl⟩ := h
  rcases ho.2 with ⟨rfl, h0⟩ | ⟨g, c, cur, rfl, -⟩
  · obtain rfl : L = [] := List.length_eq_zero_iff.1 h0
    refine (cdrop_empty p _ w hr).mono fun e w' ⟨he, h1, h2⟩ => ⟨_, he, OwnL.nil _ _ _ _, ⟨_, h1, OwnL.nil _ _ _ _, hn, rfl⟩, ?_⟩
    exact ⟨h2.os, h2.tape, h2.output, h2.size, fun b hb hF => h2.block b hb (fun e => hF (Or.inl e))⟩
  · have hpg : p ≠ g := fun e => hn (by rw [e]; rfl)
    have hF : (fun b => b = p ∨ (Value.slice (some ⟨g, 0, none⟩) L.length c).ownBlock = some b) = (fun b => b = p ∨ b = g) := by
      funext b
      simp only [Value.ownBlock, Option.some.injEq, eq_iff_iff]
      constructor <;> (rintro (e | e); exact Or.inl e; exact Or.inr e.symm)
    rw [hF] at hs ⊢
    refine (cdrop_some k cap q p g c L w hr ho hpg hl hs).mono fun e w' ⟨tv, he, h1, h2, h3, h4⟩ => ⟨tv, he, h1, ⟨_, h2, h3, (fun e => hpg (Option.some.inj e).symm), ?_⟩, h4⟩
    funext b
    simp only [Value.ownBlock, Option.some.injEq, eq_iff_iff]
    constructor <;> (rintro (e | e); exact Or.inl e; exact Or.inr e.symm)
end Go.Proofs.Ytchhaolgmdhnmaa
