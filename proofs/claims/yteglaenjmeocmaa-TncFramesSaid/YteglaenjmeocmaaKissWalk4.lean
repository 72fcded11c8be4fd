/-
Walk of the code's walk: a byte is held; a bad frame; behind FESC.
-/
import Derived.Test.YteglaenjmeocmaaKissWalk3
namespace Go.Proofs.Yteglaenjmeocmaa
open Go.RowKit
theorem reset_after {w0 w : World} {b : Nat} {x most bad m : Int} {v0 v tv : Value} {held : List UInt8} {F : List Fr} (hb0 : b < w0.heap.size) (hD : DC w b x most bad v held) (hW : Wrote w0 w b v0 v) (hF : OwnF 25 w w0.heap.size tv F) :
    DC ((((w.setCell ⟨b, 3, none⟩ (.int .i64 m)).setCell ⟨b, 0, none⟩ (.int .i64 0)).setCell ⟨b, 2, none⟩ (emptied v))) b 0 most m (emptied v) [] ∧
    Wrote w0 (((w.setCell ⟨b, 3, none⟩ (.int .i64 m)).setCell ⟨b, 0, none⟩ (.int .i64 0)).setCell ⟨b, 2, none⟩ (emptied v)) b v0 (emptied v) ∧
    OwnF 25 (((w.setCell ⟨b, 3, none⟩ (.int .i64 m)).setCell ⟨b, 0, none⟩ (.int .i64 0)).setCell ⟨b, 2, none⟩ (emptied v)) w0.heap.size tv F :=
  ⟨((hD.bad m).at_ 0).emptied, (((hW.set _).set _).set _).as (emptied_own v), ((hF.set hb0 _).set hb0 _).set hb0 _⟩
set_option maxHeartbeats 1000000 in
set_option maxRecDepth 100000 in
theorem pass5 (w0 : World) (b most : Nat) (v0 : Value) (tgt : St × List Fr) (hb0 : b < w0.heap.size) (hk : tgt.1.2.1 ≤ 1000000) : Pass w0 b most v0 tgt 5 := by
  refine ⟨_, by rfl, ?_⟩
  intro n a w hnb ⟨x, v, tv, bad, held, r, c, F, ⟨hsz, hdf, h0, h1, h5, h6⟩, ⟨hD, hW, hF, hheld⟩, hL⟩ hn
  obtain ⟨tmps, defers⟩ := a
  simp only at hsz hdf h0 h1 h5 h6 hn
  obtain ⟨u, hu⟩ := arr89 tmps _ _ _ _ hsz h0 h1 h5 rfl
  generalize tmps.getD 6 undef = cv at hu
  subst hdf
  unfold pmu at hn
  simp only [h1, strLen] at hn
  subst hu
  clear hsz h0 h1 h5
  have hbad : bad + 1 ≤ 1000000 := by
    simp only [Leads] at hL
    rw [hL] at hk
    exact Nat.le_trans (fedD_mono most (0, bad + 1, []) r.data.toList) hk
  have HA := Lib.hid (reset_after (m := (bad : Int) + 1) hb0 hD hW hF)
  have HR := Lib.hid (creset_any b x most (bad + 1) v held _ (hD.bad ((bad : Int) + 1)))
  have HL := Lib.hid hL
  obtain ⟨⟨⟨d0, d1, d2, d3⟩, z1, z2, z3⟩, _⟩ := hD
  clear hL hF hW
  go_wp2_with (go_at_call 29; refine (HR.out).mono ?_; rintro e w' ⟨rfl, rfl⟩)
  go_step3
  refine ⟨⟨0, emptied v, tv, bad + 1, [], r, c, F, ⟨rfl, rfl, rfl, rfl, rfl, fun h => by cases h⟩, ⟨HA.out.1, HA.out.2.1, HA.out.2.2, by simp⟩, ⟨rfl, rfl, HL.out⟩⟩, ?_⟩
  show 8 * r.size + rank 2 < n
  simp only [rank] at hn ⊢; simp at hn ⊢; omega
theorem own_slice {w : World} {B : Nat} {e : TypeId} {s n : Nat} {v : Value} {xs : List Value} (h : w.ownsRow B e s v n xs) (hn : 0 < n) : ∃ g cap, v = .slice (some ⟨g, 0, none⟩) n cap := by
  rcases h.2 with ⟨_, h0⟩ | ⟨g, cap, _, hv, _⟩
  · omega
  · exact ⟨g, cap, hv⟩
/-- behind a byte that was appended -/
theorem push_after {w0 w w1 : World} {b : Nat} {x most bad : Int} {v0 v v' tv : Value} {held : List UInt8} {c : UInt8} {F : List Fr} (o : Obj) (hb0 : b < w0.heap.size) (hD : DC w b x most bad v held) (hW : Wrote w0 w b v0 v)
    (hF : OwnF 25 w w0.heap.size tv F) (hown1 : w1.ownsRow (b + 1) 5 1 v' (held.length + 1) (bytesV held ++ bytesV [c])) (hga : (w.alloc o).grownBy w1 v.ownBlock) (hat : v'.ownBlock = v.ownBlock ∨ v'.ownBlock = some (w.alloc o).heap.size) :
    CAt w1 b x most bad v ∧ DC (w1.setCell ⟨b, 2, none⟩ v') b x most bad v' (held ++ [c]) ∧ Wrote w0 (w1.setCell ⟨b, 2, none⟩ v') b v0 v' ∧ OwnF 25 (w1.setCell ⟨b, 2, none⟩ v') w0.heap.size tv F := by
  have hg := grown_trans (World.grownBy_alloc w o _) hga
  have hC : CAt w1 b x most bad v := hD.1.same (hg.block b hD.1.lt (fun e => by have := (hD.2.ge e.symm).1; omega))
  have hO : OwnB w1 (b + 1) v' (held ++ [c]) := by
    unfold OwnB
    rw [List.length_append, bytesV_append]
    exact hown1
  refine ⟨hC, ⟨hC.held _, hO.set _⟩, (hW.trans (u := v) (x := v') ⟨hg.os, hg.tape, hg.output, hg.size, fun k hk _ hne => hg.block k hk hne, hat.imp_right (fun e => ⟨_, e, by simp⟩)⟩).set _, (hF.grown hg (fun g hv e => own_apart hD.2 hF (by decide) e hv)).set hb0 _⟩
set_option maxHeartbeats 1000000 in
set_option maxRecDepth 100000 in
theorem pass4 (w0 : World) (b most : Nat) (v0 : Value) (tgt : St × List Fr) (hb0 : b < w0.heap.size) (hm : most ≤ 4096) (hk : tgt.1.2.1 ≤ 1000000) : Pass w0 b most v0 tgt 4 := by
  obtain ⟨i0, hi, hz0, hz1, hz2⟩ := info_parts info8
  obtain ⟨r5, hr5, hp5⟩ := pass5 w0 b most v0 tgt hb0 hk
  refine ⟨_, by rfl, ?_⟩
  intro n a w hnb ⟨x, v, tv, bad, held, r, c, F, ⟨hsz, hdf, h0, h1, h5, h6⟩, ⟨hD, hW, hF, hheld⟩, hL⟩ hn
  obtain ⟨tmps, defers⟩ := a
  simp only at hsz hdf h0 h1 h5 h6 hn
  obtain ⟨u, hu⟩ := arr89 tmps _ _ _ _ hsz h0 h1 h5 (h6 trivial)
  subst hdf
  unfold pmu at hn
  simp only [h1, strLen] at hn
  subst hu
  clear hsz h0 h1 h5
  clear h6
  have HP := Lib.hid hp5
  have HR5 := Lib.hid hr5
  clear hp5 hr5
  obtain ⟨a0, cap, rfl⟩ := hD.len
  have HD := Lib.hid hD
  have HW := Lib.hid hW
  have HF := Lib.hid hF
  have HL := Lib.hid hL
  obtain ⟨⟨⟨d0, d1, d2, d3⟩, z1, z2, z3⟩, _⟩ := hD
  have hb : b < w.heap.size := World.block_lt_of_cell? w ⟨b, 0, none⟩ d0
  clear hL hF hW
  by_cases hlt : held.length < most
  · go_wp2
    go_quiet (fail)
    go_wp2_with (first
      | (at_builtin; refine wpList_append_own_at _ rfl (.tmp 74) (.tmp 76) 58 rfl (b + 1) 5 i0 (.int .u8 0) 1 1 Try.underlying58 hi hz0 hz1 hz2 rfl (by decide) _ _ _ rfl (World.ownsRow.alloc (HD.out.drewN nq).2 _) ⟨w.heap.size, 0, none⟩ 1 1 (bytesV [c]) rfl rfl (cells_new' (w.drewN nq) _ rfl #[.int .u8 ((c.toNat : Nat) : Int)] _) (bytesV_one _) (by unfold maxLen; omega) (by omega) (by simp; omega) ?_; intro v' w1 hown1 hgrow1 _ hat; obtain ⟨g, cap', hv⟩ := own_slice hown1 (by omega); subst hv; have HX := Lib.hid (push_after (.cells #[.int .u8 ((c.toNat : Nat) : Int)] 5) hb0 (HD.out.drewN nq) (HW.out.drewN nq) (HF.out.drewN nq) hown1 hgrow1 hat); clear hown1 hgrow1 hat; obtain ⟨⟨e0, e1, e2, e3⟩, y1, y2, y3⟩ := HX.out.1))
    go_step3
    have hl := HL.out
    have hne : held.length ≠ most := by omega
    have hl0 : Leads most tgt 0 x bad (held ++ [c]) F r.data.toList c := by
      simp only [Leads, pushD, hne, if_false] at hl ⊢
      exact hl
    refine ⟨⟨x, _, tv, bad, held ++ [c], r, c, F, ⟨rfl, rfl, rfl, rfl, rfl, fun h => by cases h⟩, ⟨HX.out.2.1, HX.out.2.2.1, HX.out.2.2.2, by simp; omega⟩, hl0⟩, ?_⟩
    show 8 * r.size + rank 0 < n
    simp only [rank] at hn ⊢; simp at hn ⊢; omega
  · go_wp2
    go_quiet (fail)
    go_wp2_with fail
    go_step3
    rename_i hK
    refine hK _ _ ?_
    clear hK
    have hl := HL.out
    have he : held.length = most := by omega
    have hl5 : Leads most tgt 5 x bad held F r.data.toList c := by
      simp only [Leads, pushD, he, if_true] at hl ⊢
      exact hl
    refine fall HR5.out (HP.out n _ _ hnb ⟨x, _, tv, bad, held, r, c, F, ⟨rfl, rfl, rfl, rfl, rfl, fun h => by cases h⟩, ⟨HD.out.drewN nq, HW.out.drewN nq, HF.out.drewN nq, hheld⟩, hl5⟩ ?_) (by rfl)
    show 8 * r.size + rank 5 ≤ n
    simp only [rank] at hn ⊢; simp at hn ⊢; omega
end Go.Proofs.Yteglaenjmeocmaa
