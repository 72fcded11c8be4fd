/-
Walk of awake: the example; Feed of one text.
-/
import Derived.Test.YtcnljojbkjfebaaKissFeed
import Derived.Test.YtcnljojbkjfebaaKissEnc
namespace Go.Proofs.Ytcnljojbkjfebaa
open Go.RowKit
theorem DC.alloc {w : World} {b : Nat} {at_ most bad : Int} {v : Value} {held : List UInt8} (h : DC w b at_ most bad v held) (o : Obj) : DC (w.alloc o) b at_ most bad v held :=
  ⟨h.1.same (Below.heap_alloc w o b h.1.lt), h.2.alloc o⟩
theorem OwnF.base {T : TypeId} {w : World} {B B' : Nat} {tv : Value} {F : List Fr} (h : OwnF T w B tv F) (hB : B' ≤ B) : OwnF T w B' tv F := by
  refine ⟨h.1, ?_⟩
  rcases h.2 with h0 | ⟨g, cap, cur, hv, hbg, rest⟩
  · exact Or.inl h0
  · exact Or.inr ⟨g, cap, cur, hv, Nat.le_trans hB hbg, rest⟩
theorem WalkTo.alloc {w : World} {o : Obj} {b most : Nat} {v : Value} {tgt : St × List Fr} {e : Ending} {w' : World} (h : WalkTo (w.alloc o) b most v tgt e w') : WalkTo w b most v tgt e w' := by
  obtain ⟨v', tv, he, hD, hW, hF⟩ := h
  exact ⟨v', tv, he, hD, ((Wrote.refl w b v).grown (World.grownBy_alloc w o none) (fun _ h => by cases h)).trans hW, hF.base (by simp)⟩
/-- Feed of one text, whose slice was just laid -/
theorem feed_one (b most : Nat) (st : St) (v : Value) (s : ByteArray) (n : Nat) (T : TypeId) (w : World) (hn : n = w.heap.size) (hm : most ≤ 4096) (hi : InvD most st) (hbad : st.2.1 ≤ 100000) (hs : s.size ≤ 50000) (hD : DC w b st.1 most st.2.1 v st.2.2) :
    Calls Try.prog 17 #[.pointer (some ⟨b, 0, none⟩), .slice (some ⟨n, 0, none⟩) 1 1] (w.alloc (.cells #[.string s] T)) fun e w' => WalkTo w b most v (fedD most st s.data.toList) e w' := by
  subst hn
  have hb := hD.1.lt
  have h := feed_some b most st v w.heap.size 0 1 [s] (w.alloc (.cells #[.string s] T)) (by simp) hm hi hbad (by simpa [flat] using hs) (by simp) (by omega)
    (fun e => by have := (hD.2.ge e).2; omega) (hD.alloc _) (fun j hj => by
      have hj0 : j = 0 := by simpa using hj
      subst hj0
      rw [World.cell?_alloc_new]; rfl)
  rw [show flat [s] = s.data.toList from by simp [flat]] at h
  exact h.mono fun e w' hw => hw.alloc
theorem ex_frame : frameBytes 1 0 ⟨#[192]⟩ = [192, 16, 219, 220, 192] := by decide +kernel
theorem ex_fed : fedD 10 (0, 0, []) [192, 16, 219, 220, 192] = ((1, 0, []), [(16, [192])]) := by decide +kernel
theorem ex_enc (w : World) : Calls Try.prog 9 #[.agg #[.int .i64 1, .int .i64 0, .string ⟨#[192]⟩]] w fun e w' => e = .returned (.tuple #[.string ⟨#[192, 16, 219, 220, 192]⟩, .int .i64 0]) ∧ Below w.heap.size w w' := by
  have h := enc_ok 1 0 ⟨#[192]⟩ w (by omega) (by omega) (by decide)
  rw [ex_frame] at h
  exact h
/-- what the example tells -/
def ExTo (w : World) (e : Ending) (w' : World) : Prop :=
  ∃ g cap, e = .returned (.slice (some ⟨g, 0, none⟩) 1 cap) ∧ w'.cell? ⟨g, 0, none⟩ = some (.int .i64 1) ∧ w'.cell? ⟨g, 2, none⟩ = some (.string ⟨#[192]⟩) ∧ Below (w.heap.size - 1) w w'
theorem add_flat (g j : Nat) : (⟨g, 0, none⟩ : Addr).add j = ⟨g, j, none⟩ := by unfold Addr.add; split <;> simp_all
theorem ex_feed (b n : Nat) (T : TypeId) (w : World) (hn : n = w.heap.size) (hb : w.heap.size = b + 1) (hD : DC w b 0 10 0 (.slice none 0 0) []) :
    Calls Try.prog 17 #[.pointer (some ⟨b, 0, none⟩), .slice (some ⟨n, 0, none⟩) 1 1] (w.alloc (.cells #[.string ⟨#[192, 16, 219, 220, 192]⟩] T)) fun e w' => ExTo w e w' := by
  refine (feed_one b 10 (0, 0, []) _ ⟨#[192, 16, 219, 220, 192]⟩ n T w hn (by omega) (by simp [InvD]) (by simp) (by decide) hD).mono fun e w' h => ?_
  obtain ⟨v', tv, he, hD', hW, hF⟩ := h
  have e1 : fedD 10 (0, 0, []) (ByteArray.mk #[192, 16, 219, 220, 192]).data.toList = ((1, 0, []), [(16, [192])]) := ex_fed
  rw [e1] at hF
  rcases hF.cases with ⟨_, h0⟩ | ⟨g, cap, hv⟩
  · simp at h0
  · subst hv
    have c0 := World.ownsRow.cells hF (g := g) rfl 0 (.int .i64 1) rfl
    have c2 := World.ownsRow.cells hF (g := g) rfl 2 (.string ⟨#[192]⟩) rfl
    rw [add_flat] at c0 c2
    exact ⟨g, cap, he, c0, c2, hW.below (by omega) (by omega) (fun g h => by cases h)⟩
set_option maxHeartbeats 400000 in
theorem awake_any (w : World) :
    Calls Try.prog 8 #[] w fun e w' => e = .returned (.bool true) ∧ Below w.heap.size w w' := by
  go_enter Try.func8, Try.ntmps8
  go_wp2_with (first
    | (go_at_call 9; refine (ex_enc _).mono ?_; rintro e w1 ⟨rfl, hb1⟩; have HB1 := Lib.hid hb1; clear hb1)
    | (go_at_call 12; refine (cnew_any 10 _).mono ?_; rintro e w2 ⟨rfl, hD, hb2, hz2⟩; have HD := Lib.hid hD; have HZ := Lib.hid hz2; have HB2 := Lib.hid (HB1.out.trans (hb2.mono HB1.out.size)); clear hD hb2 hz2)
    | (go_at_call 17; refine (ex_feed _ _ _ _ rfl HZ.out HD.out).mono ?_; rintro e w3 ⟨g, cap, rfl, c0, c2, hb3⟩; have HB3 := Lib.hid hb3; clear hb3))
  go_ret
  exact ⟨rfl, HB2.out.trans (HB3.out.mono (by have := HZ.out; have := HB1.out.size; omega))⟩
end Go.Proofs.Ytcnljojbkjfebaa
