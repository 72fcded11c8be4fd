/-
KissThrough, proved: frames whose bytes are fed, cut anywhere, are told, each once, in order, whatever stood ahead of the first one. For every list of frames, every text ahead and every cut; no condition.
-/
import Derived.Test.YtcnljojbkjfebaaKissThroughW
import Derived.Test.YtcnljojbkjfebaaOpens
import Derived.Deep.Slices
import Derived.Deep.Fields
import Derived.Deep.Strs
import Derived.ChangeMaps5
namespace Go.Proofs.Ytcnljojbkjfebaa
open Go.ChangeShapes Go.WideShapes Go.ChangeAt Go.RowKit Go.Deep
open Go.ChangeMaps (open_string shut_string)
/-- three cells that read as a frame -/
theorem raw_cells {H : Type} {enc : TypeId × Value → H} {w : World} {base n : Nat} {spare : Nat → Bool} {held : Bool} {f0 f1 f2 : Field} {cs : List Value} {y : DataW H × List MemPlace}
    (hs : Try.prog.underlying 23 = some (.struct #[f0, f1, f2])) (hone : oneCellFields Try.prog #[f0, f1, f2] = true) (t0 : f0.type = 3) (t1 : f1.type = 3) (t2 : f2.type = 9)
    (h : DataW.trod enc Try.prog w base spare held n 23 cs = some y) : ∃ r : Raw, cs = [.int .i64 r.p, .int .i64 r.c, .string r.s] ∧ r.s.size ≤ maxLen := by
  obtain ⟨y0, y1, y2, m, _, hl, g0, g1, g2⟩ := trod_struct3 hs h
  obtain ⟨o0, k0⟩ := hone_of hone 0 f0 rfl
  obtain ⟨o1, k1⟩ := hone_of hone 1 f1 rfl
  obtain ⟨o2, k2⟩ := hone_of hone 2 f2 rfl
  rw [o0, k0, t0] at g0
  rw [o1, k1, t1] at g1
  rw [o2, k2, t2] at g2
  rw [Try.cellsFrame] at hl
  match cs, hl with
  | [v0, v1, v2], _ =>
    obtain ⟨p, e0, _, _⟩ := DataW.trod_int Try.underlying3 (show DataW.trod enc Try.prog w base spare held m 3 [v0] = some y0 from g0)
    obtain ⟨c, e1, _, _⟩ := DataW.trod_int Try.underlying3 (show DataW.trod enc Try.prog w base spare held m 3 [v1] = some y1 from g1)
    obtain ⟨s, e2, _, hm⟩ := DataW.trod_string Try.underlying9 (show DataW.trod enc Try.prog w base spare held m 9 [v2] = some y2 from g2)
    simp only [List.cons.injEq, and_true] at e0 e1 e2
    exact ⟨⟨p, c, s⟩, by rw [e0, e1, e2], hm⟩
instance : Inhabited Raw := ⟨⟨0, 0, ByteArray.empty⟩⟩
/-- a slice of frames that came in -/
theorem open_raws {H : Type} {enc : TypeId × Value → H} {w : World} {fuel : Nat} {a0 : Option Addr} {len cap : Nat} {x : DataW H × List MemPlace} (h : DataW.trod enc Try.prog w 0 (fun _ => true) true fuel 45 [.slice a0 len cap] = some x) :
    ∃ R : List Raw, R.length = len ∧ (∀ r ∈ R, r.s.size ≤ maxLen) ∧ ∀ k (h : k < R.length), ∃ lb off, a0 = some ⟨lb, off, none⟩ ∧ w.cell? ⟨lb, off + k * 3, none⟩ = some (.int .i64 R[k].p) ∧ w.cell? ⟨lb, off + k * 3 + 1, none⟩ = some (.int .i64 R[k].c) ∧ w.cell? ⟨lb, off + k * 3 + 2, none⟩ = some (.string R[k].s) := by
  rcases open_slice Try.underlying45 h with ⟨hcs, _⟩ | ⟨a, len', cap', m, n, D, Pl, hcs, _, hl, _, hm, _, hi⟩
  · simp at hcs
    obtain ⟨rfl, rfl, rfl⟩ := hcs
    exact ⟨[], rfl, by simp, fun k h => by simp at h⟩
  · simp at hcs
    obtain ⟨rfl, rfl, rfl⟩ := hcs
    simp only [if_true] at hm
    have each : ∀ i, i < len → ∃ r : Raw, r.s.size ≤ maxLen ∧ w.cell? (a.add (i * 3)) = some (.int .i64 r.p) ∧ w.cell? (a.add (i * 3 + 1)) = some (.int .i64 r.c) ∧ w.cell? (a.add (i * 3 + 2)) = some (.string r.s) := by
      intro i hlt
      obtain ⟨cs', hc, ht⟩ := hi i (by omega)
      obtain ⟨r, hr, hrm⟩ := raw_cells Try.underlying23 (by kernel_rfl) rfl rfl rfl ht
      rw [Try.cellsFrame] at hc
      obtain ⟨_, _, hat⟩ := World.cells?_some hc
      have q0 := hat 0 (by omega)
      have q1 := hat 1 (by omega)
      have q2 := hat 2 (by omega)
      rw [add_add, hr] at q0 q1 q2
      exact ⟨r, hrm, q0, q1, q2⟩
    obtain ⟨R, hR⟩ := choose_lt each
    refine ⟨(List.range len).map R, by simp, ?_, fun k h => ?_⟩
    · intro r hr
      obtain ⟨i, hi, rfl⟩ := List.mem_map.1 hr
      exact (hR i (List.mem_range.1 hi)).1
    · have hk : k < len := by simpa using h
      obtain ⟨_, q0, q1, q2⟩ := hR k hk
      obtain ⟨b, off, spot⟩ := a
      have hspot : spot = none := by simpa [Addr.add] using World.cell?_spot (hR 0 (by omega)).2.1
      subst hspot
      rw [add_plain] at q0 q1 q2
      refine ⟨b, off, rfl, ?_, ?_, ?_⟩
      · simpa using q0
      · rw [Nat.add_assoc]; simpa using q1
      · rw [Nat.add_assoc]; simpa using q2
set_option maxHeartbeats 400000 in
theorem thr_any (ra : Option Addr) (cap : Nat) (R : List Raw) (A : ByteArray) (cut : Int) (w : World) (hRl : R.length ≤ 9223372036854775807) (hAl : A.size ≤ 9223372036854775807) (hs : ∀ r ∈ R, r.s.size ≤ 9223372036854775807)
    (hc : ∀ k (h : k < R.length), ∃ lb off, ra = some ⟨lb, off, none⟩ ∧ w.cell? ⟨lb, off + k * 3, none⟩ = some (.int .i64 R[k].p) ∧ w.cell? ⟨lb, off + k * 3 + 1, none⟩ = some (.int .i64 R[k].c) ∧ w.cell? ⟨lb, off + k * 3 + 2, none⟩ = some (.string R[k].s)) :
    Calls Try.prog 5 #[.slice ra R.length cap, .string A, .int .i64 cut] w fun e w' => e = .returned (.bool true) ∧ Below w.heap.size w w' := by
  by_cases h : R.length ≤ 20 ∧ A.size ≤ 300
  · refine thr_core ra cap R A cut w h.1 h.2 hs (fun k hk => ?_)
    obtain ⟨lb, off, h1, q0, q1, q2⟩ := hc k hk
    have hlb : lb < w.heap.size := World.block_lt_of_cell? w ⟨lb, off + k * 3, none⟩ q0
    exact ⟨lb, off, h1, fun w1 hb => ⟨(hb.cell (p := ⟨lb, off + k * 3, none⟩) hlb).trans q0, (hb.cell (p := ⟨lb, off + k * 3 + 1, none⟩) hlb).trans q1, (hb.cell (p := ⟨lb, off + k * 3 + 2, none⟩) hlb).trans q2⟩⟩
  · clear hs hc
    by_cases h1 : 20 < R.length
    · clear h
      go_enter Try.func5, Try.ntmps5
      go_wp2_with (first
        | (go_at_call 8; refine (awake_any _).mono ?_; rintro e w1 ⟨rfl, hb1⟩))
      go_ret
      exact ⟨rfl, hb1⟩
    · have h2 : 300 < A.size := by omega
      clear h
      go_enter Try.func5, Try.ntmps5
      go_wp2_with (first
        | (go_at_call 8; refine (awake_any _).mono ?_; rintro e w1 ⟨rfl, hb1⟩))
      go_ret
      exact ⟨rfl, hb1⟩
set_option maxRecDepth 100000 in
theorem kissThrough_lifted (os : Os) (started : os.Started) (H : Type) (enc : TypeId × Value → H) :
    ReturnsInHanded {} Try.checked os 5 .any (Rows.kissThroughSpec.pre6 enc Try.prog Try.f5 Rows.kissThroughRow.domain false) (Rows.kissThroughSpec.post enc Try.prog Try.f5 false true false false) := by
  refine returnsInHanded_of_change_sized (C := Try.checked) Try.own started (by kernel_rfl) Try.func5
    (ChangeSpec.witness6 (enc := enc) (C := Try.checked) false ⟨#[], #[.slice none 0 0, .string ⟨#[]⟩, .int .i64 0], []⟩ 8 (by kernel_rfl) (by kernel_rfl) (by kernel_rfl) (by kernel_rfl)) ?_
  intro W base args ds gs before hval0 hW _ _ _
  have hval : ∀ (j : Nat) t v, Try.f5.params[j]? = some t → args[j]? = some v → Value.okWide Try.prog W .any base t v := hval0
  have hW' := hW
  obtain ⟨p, q, hA0, hV, rfl, _, _⟩ := hW
  have hA : DataW.TrodAll enc Try.prog W 0 (fun _ => true) true Try.f5.params.toList args.toList ds p := hA0
  rw [Try.params5] at hA hval
  obtain ⟨v0, v1, v2, d0, d1, d2, p0, p1, p2, rfl, rfl, rfl, h0, h1, h2⟩ := trodAll_three hA
  obtain ⟨rfl, rfl⟩ := trodVars_none hV
  obtain ⟨a0, len, cap, rfl⟩ := okWide_slice Try.underlying45 (hval 0 45 v0 rfl rfl)
  obtain ⟨s, rfl, rfl, rfl, ws⟩ := open_string Try.underlying9 (hval 1 9 v1 rfl rfl) h1
  obtain ⟨n, rfl, rfl, rfl, wn⟩ := open_int Try.underlying3 (hval 2 3 v2 rfl rfl) h2
  have h0k := h0
  obtain ⟨fuel, hf⟩ := h0
  clear hA0 hval0
  simp only [List.append_nil] at hW'
  have hlt : ∀ x ∈ p0, x.block < W.heap.size := fun x hx => by simpa using hW'.lt x hx
  have hlen : len ≤ maxLen := by
    rcases open_slice Try.underlying45 hf with ⟨hcs, _⟩ | ⟨a, len', cap', m, n', D, Pl, hcs, _, hl, hmx, _, _, _⟩
    · simp [Value.cells] at hcs
      rw [hcs.2.1]; simp
    · simp [Value.cells] at hcs
      omega
  obtain ⟨R, rfl, hRm, hRc⟩ := open_raws (show DataW.trod enc Try.prog W 0 (fun _ => true) true fuel 45 [.slice a0 len cap] = some (d0, p0) from hf)
  unfold maxLen at hRm hlen ws
  refine (thr_any a0 cap R s n W hlen ws hRm hRc).mono fun e W' ⟨he, hnx⟩ => ?_
  subst he
  refine ⟨_, rfl, _, _, _, [], p0, [], hW', ?_, ?_, rfl, hnx.frame _, fun h => by cases h⟩
  · exact trodAll_mk1 (shut_bool Try.underlying4 true)
  · have h3 := trodAll_mk3 (Below.trod Try.laidOut (by kernel_rfl) (of_decide_eq_true (by kernel_rfl)) h0k hnx hlt) (shut_string (P := Try.prog) Try.underlying9 ws) (shut_int (P := Try.prog) Try.underlying3 wn)
    simp only [List.append_nil] at h3
    exact h3
theorem kissThrough_holds : Rows.KissThroughSaid :=
  OpenClaim.holds_of_wide 5 Try.f5 rfl rfl rfl rfl rfl rfl rfl ⟨rfl, rfl, rfl, rfl, rfl⟩ rfl rfl rfl rfl rfl (by kernel_rfl) Try.func5 (by kernel_rfl)
    (of_decide_eq_true (by kernel_rfl)) (by unfold Func.isWrapper; rw [if_neg (of_decide_eq_false (by kernel_rfl))]; exact ⟨rfl, rfl⟩)
    (fun os started H enc _ => kissThrough_lifted os started H enc)
end Go.Proofs.Ytcnljojbkjfebaa
