/-
The document's own Put and Text of paths, of right calls.
-/
import Derived.Test.YtikabflmgckdnaaDoorMix23
import Derived.Lib.QuietBelow
import Derived.IntWalk
import Derived.Lib.SmallJoins
import Derived.Lib.ItoaNum
import Derived.Lib.IndexBytes
namespace Go.Proofs.YtikabflmgckdnaaDoor
open Go.RowKit Go.Sort
set_option maxRecDepth 20000
theorem bytesP_len (L : List Ent) : ∀ k, k ≤ L.length → (bytesP L k).length = 7 * k
  | 0, _ => rfl
  | k + 1, h => by
    rw [bytesP_next L k (by omega), List.length_append, bytesP_len L k (by omega), put_len]
    omega
/-- the document's Put of one right call -/
theorem rput_ent (e : Ent) (la : Bool) (h : rightD e.1 e.2.1 = true) (w : World) :
    Calls Tryd.prog 50 #[.agg #[.string e.1, .int .i64 e.2.1], .bool e.2.2, .bool la] w fun r w' => r = .returned (.string ⟨(putD e.1.data.toList e.2.1.toNat e.2.2 la).toArray⟩) ∧ Below w.heap.size w w' := by
  obtain ⟨h1, h2, h3, h4, _⟩ := right_facts e.1 e.2.1 h
  obtain ⟨_, _, h7⟩ := right_bytes e.1 e.2.1 h
  have k := rput_any e.1 e.2.1.toNat e.2.2 la w h2 (by omega) h7
  rw [show ((e.2.1.toNat : Nat) : Int) = e.2.1 from by omega] at k
  exact k
set_option maxHeartbeats 2000000 in
theorem rpput_any (a : Option Addr) (cap : Nat) (L : List Ent) (w : World) (hL : L.length ≤ 10) (hE : EntsAt w a cap L) (hr : ∀ e ∈ L, rightD e.1 e.2.1 = true) :
    Calls Tryd.prog 30 #[.agg #[.slice a L.length cap]] w fun e w' => e = .returned (.string ⟨(bytesP L L.length).toArray⟩) ∧ Below w.heap.size w w' := by
  have HB0 := Lib.hid ((Below.refl _ w).alloc (Nat.le_refl _) (.cells #[.slice a L.length cap] 46))
  have HK0 := Lib.hid (show KeepAt (w.alloc (.cells #[.slice a L.length cap] 46)) w.heap.size 0 (.slice a L.length cap) from ⟨World.cell?_alloc_at _ _ _ _ rfl, World.frozen?_alloc_at _ _ _ _ rfl, by simp⟩)
  have HE := Lib.hid (fun W (h : Below w.heap.size w W) => hE.below h)
  have HP := Lib.hid (fun k (h : k < L.length) la W => rput_ent L[k] la (hr _ (List.getElem_mem h)) W)
  have HN := Lib.hid (bytesP_next L)
  have HLN := Lib.hid (bytesP_len L)
  obtain ⟨R, hR⟩ : ∃ R, R = bytesP L L.length := ⟨_, rfl⟩
  rw [← hR]
  have HRR := Lib.hid hR
  clear hE hr hR
  go_enter Tryd.func30, Tryd.ntmps30
  go_wp2
  go_loopw [3, 4] (fun s i wx => ∃ k : Nat, k ≤ L.length ∧ i = .int .i64 k ∧ ∃ S : List UInt8, s = .string ⟨S.toArray⟩ ∧ Hid (S = bytesP L k ∧ Below w.heap.size w wx ∧ KeepAt wx w.heap.size 0 (.slice a L.length cap))) (fun _ i _ => L.length - (intOf i).toNat)
  case atStart => exact ⟨0, by omega, rfl, [], rfl, Lib.hid ⟨rfl, HB0.out, HK0.out⟩⟩
  case round =>
    obtain ⟨k, hk, rfl, S, rfl, HQ⟩ := hrel
    obtain ⟨p0, q0, pl⟩ := HQ.out.2.2
    by_cases hlt : k < L.length
    · have dk : decide ((k : Int) < (L.length : Int)) = true := decide_eq_true (by omega)
      obtain ⟨g, o, rfl, hg, c0, c1, c2⟩ := (HE.out _ HQ.out.2.1).at_ k hlt
      have hwr : IntKind.i64.wrap ((L.length : Int) - 1) = (L.length : Int) - 1 := IntWalk.i64_in _ (by omega)
      have el : ((k : Int) == (L.length : Int) - 1) = decide (k + 1 = L.length) := by rw [Bool.eq_iff_iff, beq_iff_eq, decide_eq_true_eq]; omega
      have hP := HP.out k hlt (decide (k + 1 = L.length))
      have hN := HN.out k hlt
      have hSl : S.length ≤ 70 := by rw [HQ.out.1, HLN.out k hk]; omega
      generalize decide (k + 1 = L.length) = la at *
      generalize L[k] = d at *
      obtain ⟨db, dn, dm⟩ := d
      simp only at c0 c1 c2 hP hN
      generalize hput : putD db.data.toList dn.toNat dm la = P at *
      have hPl : P.length = 7 := by rw [← hput]; exact put_len _ _ _ _
      have b1 := fun (w : World) => run_string_add_sum (P := Tryd.prog) (w := w) ⟨S.toArray⟩ ⟨P.toArray⟩ (by show S.toArray.size + P.toArray.size ≤ _; simp; omega)
      rw [show ((⟨S.toArray⟩ : ByteArray) ++ ⟨P.toArray⟩) = ⟨(S ++ P).toArray⟩ from bytes_ext' (by simp [ByteArray.data_append])] at b1
      have HPP := Lib.hid hP
      have HN2 := Lib.hid hN
      obtain ⟨S', hS'⟩ : ∃ S', S' = S ++ P := ⟨_, rfl⟩
      rw [← hS'] at b1
      have HS' := Lib.hid hS'
      clear hP hN hput hS' hPl
      have g0 := fun d' os => cell_regrown p0 d' os
      have x0 := fun d' os => cell_regrown c0 d' os
      have x1 := fun d' os => cell_regrown c1 d' os
      have x2 := fun d' os => cell_regrown c2 d' os
      go_wp2
      refine wp_region_quiet_below (by kernel_rfl) (by kernel_rfl) ?_
      repeat (quiet_step (first | (go_at_call 50; with_reducible exact Calls.regrown_of (HPP.out _))))
      refine wpQuiet_nil ?_
      intro _ hw'
      obtain ⟨pg, hw''⟩ := hw'
      subst hw''
      have HE2 := Lib.hid (below_regrown wr pg.d pg.os)
      have HB2 := Lib.hid (HQ.out.2.1.trans (HE2.out.mono HQ.out.2.1.size))
      have HK2 := Lib.hid (HQ.out.2.2.below HE2.out)
      generalize grow (redrawn wr pg.d) pg.os = w9 at *
      clear g0 x0 x1 x2 p0 q0 pl c0 c1 c2
      go_wp2
      go_roundw
      case rel => exact ⟨k + 1, by omega, by go_num, S', rfl, Lib.hid ⟨by rw [HS'.out, HN2.out, ← HQ.out.1], HB2.out, HK2.out⟩⟩
      case measure => simp [intOf]; omega
    · obtain rfl : k = L.length := by omega
      have dk : decide ((L.length : Int) < (L.length : Int)) = false := decide_eq_false (by omega)
      have hS : S = R := by rw [HRR.out, HQ.out.1]
      subst hS
      go_wp2
      go_ret
      exact ⟨rfl, HQ.out.2.1⟩
end Go.Proofs.YtikabflmgckdnaaDoor
