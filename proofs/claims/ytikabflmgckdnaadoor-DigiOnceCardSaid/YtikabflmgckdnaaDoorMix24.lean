/-
The landed code's anew, ahead, Command and Response.
The document's own Next and Sent of paths.
-/
import Derived.Test.YtikabflmgckdnaaDoorMix06
import Derived.Test.YtikabflmgckdnaaDoorPathBase
import Derived.OrdersHeld
import Derived.Deep.RegionHeld
import Derived.Lib.SmallJoins
import Derived.Lib.ItoaNum
import Derived.Lib.QuietBelow
import Derived.Lib.IndexBytes
import Derived.IntWalk
import Derived.BigRegion
import Derived.BigQuiet
import Derived.Deep.QuietTactic
namespace Go.Proofs.YtikabflmgckdnaaDoor
open Go.RowKit Go.Sort
set_option maxRecDepth 20000
set_option maxHeartbeats 1000000 in
theorem anew_any (b : ByteArray) (n : Int) (w : World) (h : b.size ≤ 140737488351232) :
    Calls Tryd.prog 37 #[.agg #[.string b, .int .i64 n]] w fun e w' => e = .returned (.agg #[.string b, .int .i64 n]) ∧ Below w.heap.size w w' := by
  have HC := Lib.hid (fun W => clone_any b W h)
  obtain ⟨W0, hW0⟩ : ∃ W0, W0 = ((w.alloc (.cells #[.string b, .int .i64 n] 23)).alloc (.cells #[.string ⟨#[]⟩, .int .i64 0] 23)) := ⟨_, rfl⟩
  have hb0 : Below w.heap.size w W0 := by rw [hW0]; exact ((Below.refl _ w).alloc (Nat.le_refl _) _).alloc (by simp) _
  have hx := (show KeepAt (w.alloc (.cells #[.string b, .int .i64 n] 23)) w.heap.size 0 (.string b) ∧ KeepAt (w.alloc (.cells #[.string b, .int .i64 n] 23)) w.heap.size 1 (.int .i64 n) from ⟨⟨World.cell?_alloc_at _ _ _ _ rfl, World.frozen?_alloc_at _ _ _ _ rfl, by simp⟩, ⟨World.cell?_alloc_at _ _ _ _ rfl, World.frozen?_alloc_at _ _ _ _ rfl, by simp⟩⟩)
  have HX := Lib.hid (show KeepAt W0 w.heap.size 0 (.string b) ∧ KeepAt W0 w.heap.size 1 (.int .i64 n) ∧ KeepAt W0 (w.heap.size + 1) 0 (.string ⟨#[]⟩) ∧ KeepAt W0 (w.heap.size + 1) 1 (.int .i64 0) from by
    have e : w.heap.size + 1 = (w.alloc (.cells #[.string b, .int .i64 n] 23)).heap.size := by simp
    rw [hW0]
    refine ⟨hx.1.alloc _, hx.2.alloc _, ?_, ?_⟩ <;> rw [e] <;> exact ⟨World.cell?_alloc_at _ _ _ _ rfl, World.frozen?_alloc_at _ _ _ _ rfl, by simp⟩)
  have HB0 := Lib.hid hb0
  clear hx hb0 h
  subst hW0
  go_enter Tryd.func37, Tryd.ntmps37
  go_wp2_with (go_at_call 23; (with_reducible refine (HC.out _).mono ?_); rintro e w1 ⟨rfl, hb⟩; have HB := Lib.hid (HB0.out.trans (hb.mono HB0.out.size)); have HX1 := Lib.hid (show _ ∧ _ ∧ _ ∧ _ from ⟨HX.out.1.below hb, HX.out.2.1.below hb, HX.out.2.2.1.below hb, HX.out.2.2.2.below hb⟩); clear hb; obtain ⟨⟨a0, f0, l0⟩, ⟨a1, f1, -⟩, ⟨b0, g0, l1⟩, ⟨b1, g1, -⟩⟩ := HX1.out)
  have z := (HX1.out.2.2.1.other (g := w.heap.size) (p := 0) (.string b) (by omega))
  have z' := (HX1.out.2.2.2.other (g := w.heap.size) (p := 0) (.string b) (by omega))
  obtain ⟨z0, z1⟩ := stored2 (W := w1.setCell ⟨w.heap.size, 0, none⟩ (.string b)) (.string b) (.int .i64 n) z.cell z'.cell
  exact bodyPost_ret (v := .agg #[.string b, .int .i64 n]) (by simp [results, Tryd.results37, go_sem, z0, z1]) rfl ⟨rfl, set2_below (HB.out.setCell (p := ⟨w.heap.size, 0, none⟩) (Nat.le_refl _) _) (by omega) _ _⟩
set_option maxHeartbeats 1000000 in
theorem ahead_any (fb tb : ByteArray) (fn tn : Int) (c : Bool) (w : World) (hf : fb.size ≤ 140737488351232) (ht : tb.size ≤ 140737488351232) :
    Calls Tryd.prog 36 #[.agg #[.string fb, .int .i64 fn], .agg #[.string tb, .int .i64 tn], .bool c] w fun e w' => e = .returned (.agg #[.string tb, .int .i64 tn, .string fb, .int .i64 fn, .bool c, .bool (!c), .slice none 0 0]) ∧ Below w.heap.size w w' := by
  have HF := Lib.hid (fun W => anew_any fb fn W hf)
  have HT := Lib.hid (fun W => anew_any tb tn W ht)
  obtain ⟨W, hW⟩ : ∃ W, W = (((w.alloc (.cells #[.string fb, .int .i64 fn] 23)).alloc (.cells #[.string tb, .int .i64 tn] 23)).alloc (.cells #[.string ⟨#[]⟩, .int .i64 0, .string ⟨#[]⟩, .int .i64 0, .bool false, .bool false, .slice none 0 0] 55)) := ⟨_, rfl⟩
  have hb0 : Below w.heap.size w W := by rw [hW]; exact (((Below.refl _ w).alloc (Nat.le_refl _) _).alloc (by simp) _).alloc (by simp; omega) _
  have hs : W.heap.size = w.heap.size + 1 + 1 + 1 := by rw [hW]; simp
  have k1 : KeepAt (w.alloc (.cells #[.string fb, .int .i64 fn] 23)) w.heap.size 0 (.string fb) := ⟨World.cell?_alloc_at _ _ _ _ rfl, World.frozen?_alloc_at _ _ _ _ rfl, by simp⟩
  have k2 : KeepAt (w.alloc (.cells #[.string fb, .int .i64 fn] 23)) w.heap.size 1 (.int .i64 fn) := ⟨World.cell?_alloc_at _ _ _ _ rfl, World.frozen?_alloc_at _ _ _ _ rfl, by simp⟩
  have e1 : w.heap.size + 1 = (w.alloc (.cells #[.string fb, .int .i64 fn] 23)).heap.size := by simp
  have k3 : KeepAt ((w.alloc (.cells #[.string fb, .int .i64 fn] 23)).alloc (.cells #[.string tb, .int .i64 tn] 23)) (w.heap.size + 1) 0 (.string tb) := by rw [e1]; exact ⟨World.cell?_alloc_at _ _ _ _ rfl, World.frozen?_alloc_at _ _ _ _ rfl, by simp⟩
  have k4 : KeepAt ((w.alloc (.cells #[.string fb, .int .i64 fn] 23)).alloc (.cells #[.string tb, .int .i64 tn] 23)) (w.heap.size + 1) 1 (.int .i64 tn) := by rw [e1]; exact ⟨World.cell?_alloc_at _ _ _ _ rfl, World.frozen?_alloc_at _ _ _ _ rfl, by simp⟩
  have HKK := Lib.hid (show KeepAt W w.heap.size 0 (.string fb) ∧ KeepAt W w.heap.size 1 (.int .i64 fn) ∧ KeepAt W (w.heap.size + 1) 0 (.string tb) ∧ KeepAt W (w.heap.size + 1) 1 (.int .i64 tn) from by rw [hW]; exact ⟨(k1.alloc _).alloc _, (k2.alloc _).alloc _, k3.alloc _, k4.alloc _⟩)
  have HP := Lib.hid (show P7 W (w.heap.size + 1 + 1) _ _ _ _ _ _ _ from by rw [hW]; exact P7.new _ _ (by simp) _ _ _ _ _ _ _ _)
  have HB0 := Lib.hid hb0
  clear k1 k2 k3 k4 e1 hb0
  go_enter Tryd.func36, Tryd.ntmps36
  go_wp2
  rw [← hW]
  clear hW
  have hl0 : w.heap.size < w.heap.size + 1 + 1 := by omega
  have hl1 : w.heap.size + 1 < w.heap.size + 1 + 1 := by omega
  refine wp_region_held (S := fun W' => Below (w.heap.size + 1 + 1) W W') (by kernel_rfl) ?_
  change wpAnyH _ _ _ _ _ _ _ _ W.drew
  have HB := Lib.hid ((Below.refl (w.heap.size + 1 + 1) W).drew)
  refine wpAnyH_take (i := 0) (v := ?_) rfl (by kernel_rfl) (by kernel_rfl) (by kernel_rfl) (fun _ _ _ h => h) (Or.inl ⟨by rfl, ?_⟩) HB.out ?_
  rotate_left
  · intro w' hw'
    have x0 := (hw'.cell (p := ⟨w.heap.size, 0, none⟩) hl0).trans HKK.out.1.cell; have x1 := (hw'.cell (p := ⟨w.heap.size, 1, none⟩) hl0).trans HKK.out.2.1.cell; have x2 := (hw'.cell (p := ⟨w.heap.size + 1, 0, none⟩) hl1).trans HKK.out.2.2.1.cell; have x3 := (hw'.cell (p := ⟨w.heap.size + 1, 1, none⟩) hl1).trans HKK.out.2.2.2.cell
    go_simp
    with_reducible rfl
  refine wpAnyH_take (i := 2) (v := ?_) rfl (by kernel_rfl) (by kernel_rfl) (by kernel_rfl) (fun _ _ _ h => h) (Or.inl ⟨by rfl, ?_⟩) HB.out ?_
  rotate_left
  · intro w' hw'
    have x0 := (hw'.cell (p := ⟨w.heap.size, 0, none⟩) hl0).trans HKK.out.1.cell; have x1 := (hw'.cell (p := ⟨w.heap.size, 1, none⟩) hl0).trans HKK.out.2.1.cell; have x2 := (hw'.cell (p := ⟨w.heap.size + 1, 0, none⟩) hl1).trans HKK.out.2.2.1.cell; have x3 := (hw'.cell (p := ⟨w.heap.size + 1, 1, none⟩) hl1).trans HKK.out.2.2.2.cell
    go_simp
    with_reducible rfl
  refine wpAnyH_take (i := 4) (v := ?_) rfl (by kernel_rfl) (by kernel_rfl) (by kernel_rfl) (fun _ _ _ h => h) (Or.inl ⟨by rfl, ?_⟩) HB.out ?_
  rotate_left
  · intro w' hw'
    have x0 := (hw'.cell (p := ⟨w.heap.size, 0, none⟩) hl0).trans HKK.out.1.cell; have x1 := (hw'.cell (p := ⟨w.heap.size, 1, none⟩) hl0).trans HKK.out.2.1.cell; have x2 := (hw'.cell (p := ⟨w.heap.size + 1, 0, none⟩) hl1).trans HKK.out.2.2.1.cell; have x3 := (hw'.cell (p := ⟨w.heap.size + 1, 1, none⟩) hl1).trans HKK.out.2.2.2.cell
    go_simp
    with_reducible rfl
  refine wpAnyH_take (i := 5) (v := ?_) rfl (by kernel_rfl) (by kernel_rfl) (by kernel_rfl) (fun _ _ _ h => h) (Or.inl ⟨by rfl, ?_⟩) HB.out ?_
  rotate_left
  · intro w' hw'
    have x0 := (hw'.cell (p := ⟨w.heap.size, 0, none⟩) hl0).trans HKK.out.1.cell; have x1 := (hw'.cell (p := ⟨w.heap.size, 1, none⟩) hl0).trans HKK.out.2.1.cell; have x2 := (hw'.cell (p := ⟨w.heap.size + 1, 0, none⟩) hl1).trans HKK.out.2.2.1.cell; have x3 := (hw'.cell (p := ⟨w.heap.size + 1, 1, none⟩) hl1).trans HKK.out.2.2.2.cell
    go_simp
    with_reducible rfl
  refine wpAnyH_take (i := 6) (v := ?_) rfl (by kernel_rfl) (by kernel_rfl) (by kernel_rfl) (fun _ _ _ h => h) (Or.inl ⟨by rfl, ?_⟩) HB.out ?_
  rotate_left
  · intro w' hw'
    have x0 := (hw'.cell (p := ⟨w.heap.size, 0, none⟩) hl0).trans HKK.out.1.cell; have x1 := (hw'.cell (p := ⟨w.heap.size, 1, none⟩) hl0).trans HKK.out.2.1.cell; have x2 := (hw'.cell (p := ⟨w.heap.size + 1, 0, none⟩) hl1).trans HKK.out.2.2.1.cell; have x3 := (hw'.cell (p := ⟨w.heap.size + 1, 1, none⟩) hl1).trans HKK.out.2.2.2.cell
    go_simp
    with_reducible rfl
  refine wpAnyH_ready (rs := [1]) (by kernel_rfl) (by simp) ?_
  refine AllReadyH.cons rfl (fun K hK => ?_) AllReadyH.nil
  go_simp
  go_at_call 37
  refine (HT.out _).mono ?_
  rintro e w3 ⟨rfl, hb⟩
  have HP := Lib.hid (HP.out.drew.below hb)
  have HB := Lib.hid (HB.out.trans (hb.mono (by show _ ≤ W.heap.size; omega)))
  change K _ _
  refine hK.out _ _ HB.out (fun _ => ?_)
  clear hK K
  have hs3 : w.heap.size + 1 + 1 + 1 ≤ w3.heap.size := by rw [← hs]; exact hb.size
  clear hb
  refine wpAnyH_ready (rs := [3]) (by kernel_rfl) (by simp) ?_
  refine AllReadyH.cons rfl (fun K hK => ?_) AllReadyH.nil
  go_simp
  go_at_call 37
  refine (HF.out _).mono ?_
  rintro e w4 ⟨rfl, hb⟩
  have HP := Lib.hid (HP.out.below hb)
  have HB := Lib.hid (HB.out.trans (hb.mono (by omega)))
  have hbb := hb
  change K _ _
  refine hK.out _ _ HB.out (fun _ => ?_)
  clear hK K
  have hs4 : w.heap.size + 1 + 1 + 1 ≤ w4.heap.size := by have := hb.size; omega
  clear hb
  refine wpAnyH_take (i := 7) (v := ?_) rfl (by kernel_rfl) (by kernel_rfl) (by kernel_rfl) (fun _ _ _ h => h) (Or.inl ⟨by rfl, ?_⟩) HB.out ?_
  rotate_left
  · intro w' hw'
    go_simp
    with_reducible rfl
  obtain ⟨⟨p0, q0, pl⟩, ⟨p1, q1, -⟩, ⟨p2, q2, -⟩, ⟨p3, q3, -⟩, ⟨p4, q4, -⟩, ⟨p5, q5, -⟩, ⟨p6, q6, -⟩⟩ := HP.out
  have S7 := stored7 (.string tb) (.int .i64 tn) (.string fb) (.int .i64 fn) (.bool c) (.bool !c) (.slice none 0 0) HP.out
  have HB := Lib.hid (set7_below HB.out (Nat.le_refl _) (.string tb) (.int .i64 tn) (.string fb) (.int .i64 fn) (.bool c) (.bool !c) (.slice none 0 0))
  refine wpAnyH_ready (rs := [8]) (by kernel_rfl) (by simp) ?_
  refine AllReadyH.cons rfl (fun K hK => ?_) AllReadyH.nil
  go_simp
  refine hK.out _ _ HB.out (fun _ => ?_)
  clear hK K
  refine wpAnyH_done (by kernel_rfl) ?_ _
  go_wp2
  exact bodyPost_ret (v := .agg #[.string tb, .int .i64 tn, .string fb, .int .i64 fn, .bool c, .bool (!c), .slice none 0 0]) (by simp [results, Tryd.results36, go_sem, S7.k0.cell, S7.k1.cell, S7.k2.cell, S7.k3.cell, S7.k4.cell, S7.k5.cell, S7.k6.cell]) rfl ⟨rfl, HB0.out.trans (HB.out.mono (by omega))⟩
end Go.Proofs.YtikabflmgckdnaaDoor
namespace Go.Proofs.YtikabflmgckdnaaDoor
open Go.RowKit Go.Sort
set_option maxRecDepth 20000
/-- which entry is next: its number, or -1 -/
def nxtD (L : List Ent) : Int := if fstD (L.drop 2) < (L.drop 2).length then ((2 + fstD (L.drop 2) : Nat) : Int) else -1
set_option maxHeartbeats 1000000 in
theorem rnext_any (a : Option Addr) (cap : Nat) (L : List Ent) (w : World) (hL : L.length ≤ 1000) (h2 : 2 ≤ L.length) (hE : EntsAt w a cap L) :
    Calls Tryd.prog 19 #[.agg #[.slice a L.length cap]] w fun e w' => e = .returned (.int .i64 (nxtD L)) ∧ Below w.heap.size w w' := by
  have HB0 := Lib.hid ((Below.refl _ w).alloc (Nat.le_refl _) (.cells #[.slice a L.length cap] 46))
  have HE := Lib.hid (hE.below HB0.out)
  have HS := Lib.hid (show ∀ k (h : k < L.length), 2 ≤ k → (∀ j (hj : j < k), 2 ≤ j → ∀ hl : j < L.length, L[j].2.2 = true) → L[k].2.2 = false → nxtD L = k from fun k h hk ha h0 => by
    have hd : k - 2 < (L.drop 2).length := by rw [List.length_drop]; omega
    have e : fstD (L.drop 2) = k - 2 := fst_stop _ _ hd (fun j hj => by rw [List.getElem_drop]; exact ha (2 + j) (by omega) (by omega) (by omega)) (by
      rw [List.getElem_drop]
      have e : 2 + (k - 2) = k := by omega
      simp only [e]
      exact h0)
    unfold nxtD
    rw [e, if_pos hd, show 2 + (k - 2) = k from by omega])
  have HA := Lib.hid (show (∀ j (hj : j < L.length), 2 ≤ j → L[j].2.2 = true) → nxtD L = -1 from fun ha => by
    have e : fstD (L.drop 2) = (L.drop 2).length := fst_all _ (fun j hj => by rw [List.getElem_drop]; exact ha _ (by rw [List.length_drop] at hj; omega) (by omega))
    unfold nxtD
    rw [e, if_neg (Nat.lt_irrefl _)])
  obtain ⟨R, hR⟩ : ∃ R, R = nxtD L := ⟨_, rfl⟩
  rw [← hR] at HS HA ⊢
  clear hE hR
  go_enter Tryd.func19, Tryd.ntmps19
  go_wp2
  go_loopw [3] (fun i wx => ∃ k : Nat, 2 ≤ k ∧ k ≤ L.length ∧ i = .int .i64 k ∧ Hid (∀ j (hj : j < k), 2 ≤ j → ∀ hl : j < L.length, L[j].2.2 = true) ∧ wx = w.alloc (.cells #[.slice a L.length cap] 46)) (fun i _ => L.length - (intOf i).toNat)
  case atStart => exact ⟨2, by omega, h2, rfl, Lib.hid (fun j hj h2 => by omega), rfl⟩
  case round =>
    obtain ⟨k, hk2, hk, rfl, HQ, rfl⟩ := hrel
    by_cases hlt : k < L.length
    · have dk : decide ((k : Int) < (L.length : Int)) = true := decide_eq_true (by omega)
      obtain ⟨g, o, rfl, hg, c0, c1, c2⟩ := HE.out.at_ k hlt
      generalize hd : L[k] = d at *
      obtain ⟨db, dn, dm⟩ := d
      simp only at c0 c1 c2
      have HD := Lib.hid hd
      clear hd c0 c1
      cases dm
      · have hf := HS.out k hlt hk2 (fun j hj h2 hl => HQ.out j hj h2 hl) (by rw [HD.out])
        subst hf
        go_wp2
        go_ret
        exact ⟨rfl, HB0.out⟩
      · go_wp2
        go_roundw
        case rel =>
          refine ⟨k + 1, by omega, by omega, by go_num, Lib.hid (fun j hj h2 hl => ?_), by first | trivial | rfl⟩
          by_cases hjk : j = k
          · subst hjk; rw [HD.out]
          · exact HQ.out j (by omega) h2 hl
        case measure => simp [intOf]; omega
    · obtain rfl : k = L.length := by omega
      have dk : decide ((L.length : Int) < (L.length : Int)) = false := decide_eq_false (by omega)
      have hf := HA.out (fun j hj h2 => HQ.out j hj h2 hj)
      subst hf
      go_wp2
      go_ret
      exact ⟨rfl, HB0.out⟩
/-- entry number i has it -/
def markD (L : List Ent) (i : Nat) : List Ent := match L[i]? with | some e => L.set i (e.1, e.2.1, true) | none => L
/-- a path when the next one has sent it -/
def sentL (L : List Ent) : List Ent := markD L (2 + fstD (L.drop 2))
theorem entsV_set : ∀ (L : List Ent) (i : Nat) (e : Ent), i < L.length → entsV (L.set i (e.1, e.2.1, true)) = (((entsV L).set (i * 3) (.string e.1)).set (i * 3 + 1) (.int .i64 e.2.1)).set (i * 3 + 2) (.bool true)
  | [], i, e, h => by simp at h
  | x :: L, 0, e, _ => rfl
  | x :: L, i + 1, e, h => by
    have ih := entsV_set L i e (by simpa using h)
    show entV x ++ entsV (L.set i _) = _
    rw [ih, show (i + 1) * 3 = i * 3 + 3 from by omega]
    show _ = (((entV x ++ entsV L).set (i * 3 + 3) _).set (i * 3 + 3 + 1) _).set (i * 3 + 3 + 2) _
    have hl : (entV x).length = 3 := rfl
    rw [List.set_append_right _ _ (by omega), List.set_append_right _ _ (by omega), List.set_append_right _ _ (by omega), hl, show i * 3 + 3 - 3 = i * 3 from by omega, show i * 3 + 3 + 1 - 3 = i * 3 + 1 from by omega, show i * 3 + 3 + 2 - 3 = i * 3 + 2 from by omega]
theorem set_same {α : Type} (l : List α) (i : Nat) (u : α) (h : l[i]? = some u) : l.set i u = l := by
  apply List.ext_getElem?
  intro j
  by_cases hj : i = j
  · subst hj
    rw [h, List.getElem?_set_self (List.getElem?_eq_some_iff.1 h).1]
  · rw [List.getElem?_set_ne hj]
/-- a mark is stored into a slice of the call's own -/
theorem OwnE.mark {T : TypeId} {w : World} {B g n c : Nat} {L : List Ent} (h : OwnE T w B (.slice (some ⟨g, 0, none⟩) n c) L) (i : Nat) (hi : i < L.length) :
    OwnE T (w.setCell ⟨g, i * 3 + 2, none⟩ (.bool true)) B (.slice (some ⟨g, 0, none⟩) n c) (markD L i) ∧ w.grownBy (w.setCell ⟨g, i * 3 + 2, none⟩ (.bool true)) (some g) := by
  have hn : n = L.length := by
    obtain ⟨a', c', hv, _⟩ := h.ents
    simp only [Value.slice.injEq] at hv
    exact hv.2.1
  subst hn
  obtain ⟨h1, h2⟩ := World.ownsRow.stored h (i * 3 + 2) (.bool true)
  refine ⟨?_, h2⟩
  have he : markD L i = L.set i (L[i].1, L[i].2.1, true) := by
    unfold markD
    rw [List.getElem?_eq_getElem hi]
  unfold OwnE
  rw [he, entsV_set _ _ L[i] hi, List.length_set]
  obtain ⟨k0, k1, _⟩ := entsV_at L i hi
  rw [set_same _ _ _ k0, set_same _ _ _ k1]
  exact h1
theorem mark_len (L : List Ent) (i : Nat) : (markD L i).length = L.length := by
  unfold markD
  split <;> simp
theorem OwnE.some_ {T : TypeId} {w : World} {B : Nat} {v : Value} {L : List Ent} (h : OwnE T w B v L) (h0 : 0 < L.length) : ∃ g c, v = .slice (some ⟨g, 0, none⟩) L.length c ∧ B ≤ g ∧ g < w.heap.size ∧ OwnE T w B (.slice (some ⟨g, 0, none⟩) L.length c) L := by
  rcases h.2 with ⟨_, h1⟩ | ⟨g, c, cur, hv, hb, _⟩
  · omega
  · subst hv
    exact ⟨g, c, rfl, hb, (h.ge rfl).2, h⟩
theorem rsent_after {w w1 w2 : World} {L : List Ent} {v' : Value} (hL : 0 < L.length) (hB : Below w.heap.size w w1) (hR : KeepAt w1 (w.heap.size + 1) 0 (.slice none 0 0)) (ho : OwnE 50 w2 w1.heap.size v' ([] ++ L))
    (hg : (w1.alloc (.cells #[] 50)).grownBy w2 (some w1.heap.size)) :
    ∃ g c, v' = .slice (some ⟨g, 0, none⟩) L.length c ∧ w1.heap.size ≤ g ∧ OwnE 50 w2 w1.heap.size (.slice (some ⟨g, 0, none⟩) L.length c) L ∧ Below w.heap.size w w2 ∧ KeepAt w2 (w.heap.size + 1) 0 (.slice none 0 0) ∧ w.heap.size + 1 ≠ g := by
  rw [List.nil_append] at ho
  have hs := hB.size
  have hl := hR.lt
  rcases ho.2 with ⟨_, h0⟩ | ⟨g, c, cur, hv, hb, _⟩
  · omega
  · subst hv
    have h2 : KeepAt (w1.alloc (.cells #[] 50)) (w.heap.size + 1) 0 (.slice none 0 0) := hR.alloc _
    refine ⟨g, c, rfl, hb, ho, (hB.alloc hs _).grown hg (Nat.le_trans hs (by simp)) (fun k hk => ?_), h2.block (hg.block _ h2.lt (fun e => ?_)) hg.size, by omega⟩
    · have := Option.some.inj hk; omega
    · have := Option.some.inj e; omega
end Go.Proofs.YtikabflmgckdnaaDoor
