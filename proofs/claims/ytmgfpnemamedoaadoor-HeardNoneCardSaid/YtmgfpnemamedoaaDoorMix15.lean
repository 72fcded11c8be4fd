/-
The document's example of heard stations; a list that isn't there.
What opening an argument that is a path, a call or a slice of calls gives.
-/
import Derived.Test.YtmgfpnemamedoaaDoorMix14
import Derived.Test.YtmgfpnemamedoaaDoorMix05
import Derived.ProofKit
import Derived.SizedLaws
import Derived.Lib.SmallJoins
import Derived.Deep.Slices
import Derived.Deep.Fields
import Derived.Deep.Strs
import Derived.Lib.ItoaNum
import Derived.BigRegion
import Derived.IntWalk
import Derived.Lib.QuietBelow
import Derived.BigQuiet
import Derived.Deep.QuietTactic
import Derived.Lib.IndexBytes
namespace Go.Proofs.YtmgfpnemamedoaaDoor
open Go.RowKit Go.Sort
set_option maxRecDepth 20000
/-- a list of the call's own, off some other blocks -/
structure HdO (w0 : World) (p : Nat) (L : List Hs) (W : World) : Prop where
  at_ : ∃ sv, HdAt W p sv L ∧ ∀ k, sv.ownBlock = some k → w0.heap.size ≤ k
  bel : Below w0.heap.size w0 W
  ge : w0.heap.size ≤ p
section
variable {w0 W W' : World} {p : Nat} {L M : List Hs}
theorem HdO.below (h : HdO w0 p L W) (hb : Below W.heap.size W W') : HdO w0 p L W' := by
  obtain ⟨⟨sv, h1, h2⟩, h3, h4⟩ := h
  exact ⟨⟨sv, h1.below hb, h2⟩, h3.trans (hb.mono h3.size), h4⟩
theorem HdO.start {w1 : World} (hb : Below w0.heap.size w0 w1) (hp : w1.heap.size ≤ p) (h : HdAt W p (.slice none 0 0) []) (hw : Below w1.heap.size w1 W) : HdO w0 p [] W :=
  ⟨⟨_, h, fun k hk => by cases hk⟩, hb.trans (hw.mono hb.size), Nat.le_trans hb.size hp⟩
/-- behind Hear -/
theorem HdO.hear {sv : Value} {e : Ending} (h : HdO w0 p L W) (ha : HdAt W p sv L) (hs : ∀ k, sv.ownBlock = some k → w0.heap.size ≤ k) (hq : HearTo W p sv M e W') : e = .returned (.bool true) ∧ HdO w0 p M W' := by
  obtain ⟨h1, sv', h2, h3, h4⟩ := hq
  refine ⟨h1, ⟨sv', h2, fun k hk => (h4 k hk).elim (hs k) (fun q => Nat.le_trans h.bel.size q)⟩, h.bel.trans (h3.below h.bel.size fun k hk => ?_), h.ge⟩
  rcases hk with rfl | hk
  · exact h.ge
  · exact hs k hk
end
theorem ex23 : hearP (hearP [] (⟨#[65]⟩, 0) (⟨#[]⟩, 0) 1) (⟨#[65]⟩, 0) (⟨#[]⟩, 0) 2 = [⟨⟨#[65]⟩, 0, ⟨#[]⟩, 0, 2, 2⟩] := by rfl
set_option maxHeartbeats 1000000 in
theorem cawake23 (w : World) (hC : CodesOk w) : Calls Tryd.prog 5 #[] w fun e w' => e = .returned (.bool true) ∧ Below w.heap.size w w' := by
  have ra : rightD ⟨#[65]⟩ 0 = true := by decide +kernel
  have rb : rightD ⟨#[66]⟩ 0 = true := by decide +kernel
  have hvi := fun W => via23 ⟨#[66]⟩ ⟨#[65]⟩ 0 0 W rb (by decide) (by decide)
  simp only [ra, if_true] at hvi
  have HVI := Lib.hid hvi
  obtain ⟨S, hS⟩ : ∃ S, S = uaS ⟨#[66]⟩ ⟨#[65]⟩ 0 0 := ⟨_, rfl⟩
  have HEN := Lib.hid (fun da dc W (hb : Below w.heap.size w W) hE => enc23 ⟨#[66]⟩ ⟨#[65]⟩ 0 0 da dc W (hC.below hb) hE rb ra)
  rw [← hS] at HEN
  have HNE := Lib.hid (fun W => cnew23 W)
  have HHE := Lib.hid (show ∀ now L p W, HdO w p L W → Calls Tryd.prog 9 #[ptrH p, .string S, .int .i64 now] W fun e w' => e = .returned (.bool true) ∧ HdO w p (hearP L (⟨#[65]⟩, 0) (⟨#[]⟩, 0) now) w' from fun now L p W h => by
    obtain ⟨sv, h1, h2⟩ := h.at_
    rw [hS]
    exact (hear23 ⟨#[66]⟩ ⟨#[65]⟩ 0 0 now W p sv L h1 rb ra).mono fun e w' hq => h.hear h1 h2 hq)
  have HAL := Lib.hid (show ∀ p W, HdO w p [⟨⟨#[65]⟩, 0, ⟨#[]⟩, 0, 2, 2⟩] W → Calls Tryd.prog 10 #[ptrH p] W fun e w' => (∃ g c, e = .returned (.slice (some ⟨g, 0, none⟩) 1 c) ∧ w'.cell? ⟨g, 4, none⟩ = some (.int .i64 2) ∧ w'.cell? ⟨g, 5, none⟩ = some (.int .i64 2)) ∧ Below W.heap.size W w' from fun p W h => by
    obtain ⟨sv, h1, h2⟩ := h.at_
    refine (call23 W p sv _ h1).mono fun e w' hq => ?_
    obtain ⟨⟨v, he, ho⟩, hb⟩ := hq
    obtain ⟨g, c, rfl, -, -, hat⟩ := ho.some_ (by simp)
    exact ⟨⟨g, c, he, by have := hat.get 0 (by simp) 4 (u := .int .i64 2) rfl; simpa using this, by have := hat.get 0 (by simp) 5 (u := .int .i64 2) rfl; simpa using this⟩, hb⟩)
  clear hS hvi ra rb hC
  go_enter Tryd.func5, Tryd.ntmps5
  go_wp2_with (first
    | (go_at_call 7; (with_reducible refine (HVI.out _).mono ?_); rintro e w1 ⟨⟨da, dc, rfl, hE⟩, hb⟩; have hb1 := hb.alloc hb.size (.cells #[.string ⟨#[66]⟩, .int .i64 0, .string ⟨#[65]⟩, .int .i64 0, .bool true, .bool false, .slice da 0 dc] 30); have HB1 := Lib.hid hb1; have HE1 := Lib.hid (hE.alloc (.cells #[.string ⟨#[66]⟩, .int .i64 0, .string ⟨#[65]⟩, .int .i64 0, .bool true, .bool false, .slice da 0 dc] 30)); have HP1 := Lib.hid (RowAt.new w1 w1.heap.size rfl [.string ⟨#[66]⟩, .int .i64 0, .string ⟨#[65]⟩, .int .i64 0, .bool true, .bool false, .slice da 0 dc] 30); clear hb hE hb1; have p0 := HP1.out.cell 0 rfl; have p1 := HP1.out.cell 1 rfl; have p2 := HP1.out.cell 2 rfl; have p3 := HP1.out.cell 3 rfl; have p4 := HP1.out.cell 4 rfl; have p5 := HP1.out.cell 5 rfl; have p6 := HP1.out.cell 6 rfl)
    | (go_at_call 8; (with_reducible refine (HEN.out da dc _ HB1.out HE1.out).mono ?_); rintro e w2 ⟨rfl, hb⟩; clear p0 p1 p2 p3 p4 p5 p6; have HB2 := Lib.hid (HB1.out.trans (hb.mono HB1.out.size)); clear hb)
    | (go_at_call 6; (with_reducible refine (HNE.out _).mono ?_); rintro e w3 ⟨⟨p, rfl, hge, hd⟩, hb⟩; have HO3 := Lib.hid (HdO.start HB2.out hge hd hb); clear hge hd hb)
    | (go_at_call 9; (with_reducible refine (HHE.out _ _ p _ HO3.out).mono ?_); rintro e w4 ⟨rfl, ho⟩; have HO4 := Lib.hid ho; clear ho HO3)
    | (go_at_call 9; (with_reducible refine (HHE.out _ _ p _ HO4.out).mono ?_); rintro e w5 ⟨rfl, ho⟩; have HO5 := Lib.hid (show HdO w p [⟨⟨#[65]⟩, 0, ⟨#[]⟩, 0, 2, 2⟩] w5 from ex23 ▸ ho); clear ho HO4)
    | (go_at_call 10; (with_reducible refine (HAL.out p _ HO5.out).mono ?_); rintro e w6 ⟨⟨g, c, rfl, x4, x5⟩, hb⟩; have HB6 := Lib.hid (HO5.out.bel.trans (hb.mono HO5.out.bel.size)); clear hb))
  exact bodyPost_ret (v := .bool true) (by simp [results, Tryd.results5, go_sem]) rfl ⟨rfl, HB6.out⟩
set_option maxHeartbeats 1000000 in
theorem hnone_any (s cb : ByteArray) (cn : Int) (w : World) (hC : CodesOk w) :
    Calls Tryd.prog 4 #[.string s, .agg #[.string cb, .int .i64 cn]] w fun e w' => e = .returned (.bool true) ∧ Below w.heap.size w w' := by
  have hb0 := (Below.refl w.heap.size w).alloc (Nat.le_refl _) (.cells #[.string cb, .int .i64 cn] 27)
  have HB0 := Lib.hid hb0
  have HR0 := Lib.hid (RowAt.new w w.heap.size rfl [.string cb, .int .i64 cn] 27)
  have HAW := Lib.hid (fun W (hb : Below w.heap.size w W) => cawake23 W (hC.below hb))
  clear hb0 hC
  by_cases hs : 1000 < s.size
  · have d2 : decide ((1000 : Int) < (s.size : Int)) = true := decide_eq_true (by omega)
    clear hs
    go_enter Tryd.func4, Tryd.ntmps4
    go_wp2_with (go_at_call 5; (with_reducible refine (HAW.out _ HB0.out).mono ?_); rintro e w1 ⟨rfl, hb⟩; have HB1 := Lib.hid (HB0.out.trans (hb.mono HB0.out.size)); clear hb)
    exact bodyPost_ret (v := .bool true) (by simp [results, Tryd.results4, go_sem]) rfl ⟨rfl, HB1.out⟩
  · have d2 : decide ((1000 : Int) < (s.size : Int)) = false := decide_eq_false (by omega)
    have HCL := Lib.hid (fun W => cclear0 W)
    have HFI := Lib.hid (fun W => cfind0 cb cn W)
    have HHE := Lib.hid (fun W => chear0 s 1 W (by omega))
    have HAL := Lib.hid (fun W => call0 W)
    have heq : ∀ W, (Op.equalIn 10000 42 (.agg #[.string ⟨#[]⟩, .int .i64 0, .string ⟨#[]⟩, .int .i64 0, .int .i64 0, .int .i64 0]) (.agg #[.string ⟨#[]⟩, .int .i64 0, .string ⟨#[]⟩, .int .i64 0, .int .i64 0, .int .i64 0])).run Tryd.prog W = .ok true W := fun W => by go_simp
    clear hs
    go_enter Tryd.func4, Tryd.ntmps4
    go_wp2_with (first
      | (go_at_call 5; (with_reducible refine (HAW.out _ HB0.out).mono ?_); rintro e w1 ⟨rfl, hb⟩; have HB1 := Lib.hid (HB0.out.trans (hb.mono HB0.out.size)); have HR1 := Lib.hid (HR0.out.below hb); clear hb; have x0 := HR1.out.cell 0 rfl; have x1 := HR1.out.cell 1 rfl)
      | (go_at_call 12; (with_reducible refine (HCL.out _).mono ?_); rintro e w1 ⟨rfl, rfl⟩)
      | (go_at_call 11; (with_reducible refine (HFI.out _).mono ?_); rintro e w2 ⟨rfl, hb⟩; have hb2 := HB1.out.trans (hb.mono HB1.out.size); have HB2 := Lib.hid (hb2.alloc hb2.size (.cells #[.string ⟨#[]⟩, .int .i64 0, .string ⟨#[]⟩, .int .i64 0, .int .i64 0, .int .i64 0] 42)); have HZ2 := Lib.hid (RowAt.new w2 w2.heap.size rfl [.string ⟨#[]⟩, .int .i64 0, .string ⟨#[]⟩, .int .i64 0, .int .i64 0, .int .i64 0] 42); clear hb hb2 x0 x1)
      | (go_at_call 9; (with_reducible refine (HHE.out _).mono ?_); rintro e w3 ⟨rfl, hb⟩; have HB3 := Lib.hid (HB2.out.trans (hb.mono HB2.out.size)); have HZ3 := Lib.hid (HZ2.out.below hb); clear hb; have x0 := HZ3.out.cell 0 rfl; have x1 := HZ3.out.cell 1 rfl; have x2 := HZ3.out.cell 2 rfl; have x3 := HZ3.out.cell 3 rfl; have x4 := HZ3.out.cell 4 rfl; have x5 := HZ3.out.cell 5 rfl)
      | (go_at_call 10; (with_reducible refine (HAL.out _).mono ?_); rintro e w3 ⟨rfl, rfl⟩))
    exact bodyPost_ret (v := .bool true) (by simp [results, Tryd.results4, go_sem]) rfl ⟨rfl, HB3.out⟩
end Go.Proofs.YtmgfpnemamedoaaDoor
namespace Go.Proofs.YtmgfpnemamedoaaDoor
open Go.ChangeShapes Go.WideShapes Go.ChangeAt Go.RowKit Go.Joins Go.Deep Go.Sort
set_option maxRecDepth 100000
theorem Tryd.own : ownKnob Tryd.prog.godebug = none := by kernel_rfl
theorem Tryd.laidOut : laidOutB Tryd.prog = true := by kernel_rfl
theorem Tryd.cellsCall : Tryd.prog.cellsOf 27 = 2 := by kernel_rfl
theorem Tryd.cellsDigi : Tryd.prog.cellsOf 55 = 3 := by kernel_rfl
theorem Tryd.cellsPath : Tryd.prog.cellsOf 30 = 7 := by kernel_rfl
/-- two cells that read as a call -/
theorem call_cells {H : Type} {enc : TypeId × Value → H} {w : World} {base n : Nat} {spare : Nat → Bool} {held : Bool} {f0 f1 : Field} {cs : List Value} {y : DataW H × List MemPlace}
    (hs : Tryd.prog.underlying 27 = some (.struct #[f0, f1])) (hone : oneCellFields Tryd.prog #[f0, f1] = true) (t0 : f0.type = 9) (t1 : f1.type = 3)
    (h : DataW.trod enc Tryd.prog w base spare held n 27 cs = some y) : ∃ r : ByteArray × Int, cs = [.string r.1, .int .i64 r.2] ∧ y = (.agg [.lit (.string r.1.data.toList), .lit (.int .i64 r.2)], []) := by
  obtain ⟨y0, y1, m, hy, hl, g0, g1⟩ := trod_struct2 hs h
  obtain ⟨o0, k0⟩ := hone_of hone 0 f0 rfl
  obtain ⟨o1, k1⟩ := hone_of hone 1 f1 rfl
  rw [o0, k0, t0] at g0
  rw [o1, k1, t1] at g1
  rw [Tryd.cellsCall] at hl
  match cs, hl with
  | [v0, v1], _ =>
    obtain ⟨s, e0, q0, _⟩ := DataW.trod_string Tryd.underlying9 (show DataW.trod enc Tryd.prog w base spare held m 9 [v0] = some y0 from g0)
    obtain ⟨p, e1, q1, _⟩ := DataW.trod_int Tryd.underlying3 (show DataW.trod enc Tryd.prog w base spare held m 3 [v1] = some y1 from g1)
    simp only [List.cons.injEq, and_true] at e0 e1
    exact ⟨⟨s, p⟩, by rw [e0, e1], by rw [hy, q0, q1]; rfl⟩
/-- three cells that read as an entry -/
theorem digi_cells {H : Type} {enc : TypeId × Value → H} {w : World} {base n : Nat} {spare : Nat → Bool} {held : Bool} {f0 f1 : Field} {cs : List Value} {y : DataW H × List MemPlace}
    (hs : Tryd.prog.underlying 55 = some (.struct #[f0, f1])) (o0 : f0.offset = 0) (o1 : f1.offset = 2) (t0 : f0.type = 27) (t1 : f1.type = 4)
    (h : DataW.trod enc Tryd.prog w base spare held n 55 cs = some y) : ∃ r : Ent, cs = entV r ∧ y = (.agg [.agg [.lit (.string r.1.data.toList), .lit (.int .i64 r.2.1)], .lit (.bool r.2.2)], []) := by
  obtain ⟨y0, y1, m, hy, hl, g0, g1⟩ := trod_struct2 hs h
  rw [o0, t0, Tryd.cellsCall] at g0
  rw [o1, t1, show Tryd.prog.cellsOf 4 = 1 from by kernel_rfl] at g1
  rw [Tryd.cellsDigi] at hl
  match cs, hl with
  | [v0, v1, v2], _ =>
    obtain ⟨r, e0, q0⟩ := call_cells Tryd.underlying27 (by kernel_rfl) rfl rfl (show DataW.trod enc Tryd.prog w base spare held m 27 [v0, v1] = some y0 from g0)
    obtain ⟨b, e1, q1⟩ := DataW.trod_bool Tryd.underlying4 (show DataW.trod enc Tryd.prog w base spare held m 4 [v2] = some y1 from g1)
    simp only [List.cons.injEq, and_true] at e0 e1
    refine ⟨(r.1, r.2, b), by rw [e0.1, e0.2, e1]; rfl, ?_⟩
    rw [hy, q0, q1]
    rfl
instance : Inhabited Ent := ⟨(ByteArray.empty, 0, false)⟩
/-- the letters of each entry of a slice lie within the reach -/
theorem ents_weights {H : Type} (L : List Ent) (rr : List (DataW H)) (e : Ent) (he : e ∈ L) : e.1.size ∈ DataW.weights Tryd.prog 28 (DataW.slice (L.map fun r => DataW.agg (H := H) [.agg [.lit (.string r.1.data.toList), .lit (.int .i64 r.2.1)], .lit (.bool r.2.2)]) rr) := by
  have key : ∀ (M : List Ent), e ∈ M → e.1.size ∈ DataW.weightsAll Tryd.prog 55 (M.map fun r => DataW.agg (H := H) [.agg [.lit (.string r.1.data.toList), .lit (.int .i64 r.2.1)], .lit (.bool r.2.2)]) := by
    intro M
    induction M with
    | nil => intro h; cases h
    | cons x M ih =>
      intro h
      rw [List.map_cons]
      simp only [DataW.weightsAll, List.mem_append]
      rcases List.mem_cons.1 h with h1 | h1
      · left
        subst h1
        simp [DataW.weights, DataW.weightsEach, Tryd.underlying55, Tryd.underlying27]
      · exact Or.inr (ih h1)
  simp only [DataW.weights, Tryd.underlying28, List.mem_cons, List.mem_append]
  exact Or.inr (Or.inl (key L he))
/-- a slice of entries that came in -/
theorem open_digis {H : Type} {enc : TypeId × Value → H} {w : World} {fuel : Nat} {v : Value} {x : DataW H × List MemPlace} (h : DataW.trod enc Tryd.prog w 0 (fun _ => true) true fuel 28 [v] = some x) :
    ∃ (a : Option Addr) (cap : Nat) (D : List Ent), v = .slice a D.length cap ∧ EntsAt w a cap D ∧ ∀ e ∈ D, e.1.size ∈ DataW.weights Tryd.prog 28 x.1 := by
  rcases open_slice Tryd.underlying28 h with ⟨hcs, _⟩ | ⟨a, len, cap, m, n, Dd, Pl, hcs, _, hl, hm2, hm, hx, hi⟩
  · simp only [List.cons.injEq, and_true] at hcs
    exact ⟨none, 0, [], hcs, EntsAt.nil w, fun e he => by cases he⟩
  · simp only [List.cons.injEq, and_true] at hcs
    simp only [if_true] at hm
    have each : ∀ i, i < m → ∃ r : Ent, Dd i = (.agg [.agg [.lit (.string r.1.data.toList), .lit (.int .i64 r.2.1)], .lit (.bool r.2.2)]) ∧ w.cell? (a.add (i * 3)) = some (.string r.1) ∧ w.cell? (a.add (i * 3 + 1)) = some (.int .i64 r.2.1) ∧ w.cell? (a.add (i * 3 + 2)) = some (.bool r.2.2) := by
      intro i hlt
      obtain ⟨cs', hc, ht⟩ := hi i hlt
      obtain ⟨r, hr, hy⟩ := digi_cells Tryd.underlying55 rfl rfl rfl rfl ht
      rw [Tryd.cellsDigi] at hc
      obtain ⟨_, _, hat⟩ := World.cells?_some hc
      have q0 := hat 0 (by omega)
      have q1 := hat 1 (by omega)
      have q2 := hat 2 (by omega)
      rw [add_add, hr] at q0 q1 q2
      exact ⟨r, (Prod.ext_iff.1 hy).1, q0, q1, q2⟩
    obtain ⟨R, hR⟩ := choose_lt each
    refine ⟨some a, cap, (List.range len).map R, by rw [hcs]; simp, ⟨by simpa using hl, hm2, fun k hk => ?_⟩, ?_⟩
    · have hk2 : k < len := by simpa using hk
      obtain ⟨_, q0, q1, q2⟩ := hR k (by omega)
      obtain ⟨b, off, spot⟩ := a
      have hspot : spot = none := by simpa [Addr.add] using World.cell?_spot (hR 0 (by omega)).2.1
      subst hspot
      rw [add_plain] at q0 q1 q2
      have e : ((List.range len).map R)[k]'hk = R k := by simp
      rw [e]
      exact ⟨b, off, rfl, World.block_lt_of_cell? w ⟨b, off + k * 3, none⟩ q0, q0, by rw [Nat.add_assoc]; exact q1, by rw [Nat.add_assoc]; exact q2⟩
    · intro e he
      rw [hx]
      have hmap : (List.range len).map Dd = ((List.range len).map R).map fun r => DataW.agg (H := H) [.agg [.lit (.string r.1.data.toList), .lit (.int .i64 r.2.1)], .lit (.bool r.2.2)] := by
        rw [List.map_map]
        apply List.map_congr_left
        intro i hi2
        exact (hR i (by have := List.mem_range.1 hi2; omega)).1
      show e.1.size ∈ DataW.weights Tryd.prog 28 (DataW.slice ((List.range len).map Dd) _)
      rw [hmap]
      exact ents_weights _ _ e he
/-- a path that came in -/
theorem open_path {H : Type} {enc : TypeId × Value → H} {w : World} {b0 : Nat} {r : Reach} {v : Value} {d : DataW H} {ps : List MemPlace}
    (hv : Value.okWide Tryd.prog w r b0 30 v) (h : DataW.Trod enc Tryd.prog w 0 (fun _ => true) true 30 v d ps) :
    ∃ (tb fb : ByteArray) (tn fn : Int) (tm fm : Bool) (a : Option Addr) (cap : Nat) (D : List Ent), v = .agg #[.string tb, .int .i64 tn, .string fb, .int .i64 fn, .bool tm, .bool fm, .slice a D.length cap] ∧ EntsAt w a cap D ∧
      (tb.size ∈ DataW.weights Tryd.prog 30 d ∧ fb.size ∈ DataW.weights Tryd.prog 30 d ∧ ∀ e ∈ D, e.1.size ∈ DataW.weights Tryd.prog 30 d) := by
  obtain ⟨cs, rfl, hsz⟩ := okWide_struct Tryd.underlying30 hv
  rw [Tryd.cellsPath] at hsz
  obtain ⟨l⟩ := cs
  match l, hsz with
  | [c0, c1, c2, c3, c4, c5, c6], _ =>
    obtain ⟨fuel, hf⟩ := h
    obtain ⟨xs, n, _, hx, _, hlen, hg⟩ := DataW.trod_struct Tryd.underlying30 hf
    match xs, hlen with
    | [y0, y1, y2, y3, y4], _ =>
      have g0 := (show DataW.trod enc Tryd.prog w 0 (fun _ => true) true n 27 (List.take (Tryd.prog.cellsOf 27) (List.drop 0 [c0, c1, c2, c3, c4, c5, c6])) = some y0 from hg 0 _ rfl)
      have g1 := (show DataW.trod enc Tryd.prog w 0 (fun _ => true) true n 27 (List.take (Tryd.prog.cellsOf 27) (List.drop 2 [c0, c1, c2, c3, c4, c5, c6])) = some y1 from hg 1 _ rfl)
      have g2 := (show DataW.trod enc Tryd.prog w 0 (fun _ => true) true n 4 (List.take (Tryd.prog.cellsOf 4) (List.drop 4 [c0, c1, c2, c3, c4, c5, c6])) = some y2 from hg 2 _ rfl)
      have g3 := (show DataW.trod enc Tryd.prog w 0 (fun _ => true) true n 4 (List.take (Tryd.prog.cellsOf 4) (List.drop 5 [c0, c1, c2, c3, c4, c5, c6])) = some y3 from hg 3 _ rfl)
      have g4 := (show DataW.trod enc Tryd.prog w 0 (fun _ => true) true n 28 (List.take (Tryd.prog.cellsOf 28) (List.drop 6 [c0, c1, c2, c3, c4, c5, c6])) = some y4 from hg 4 _ rfl)
      rw [Tryd.cellsCall] at g0 g1
      rw [show Tryd.prog.cellsOf 4 = 1 from by kernel_rfl] at g2 g3
      rw [show Tryd.prog.cellsOf 28 = 1 from by kernel_rfl] at g4
      obtain ⟨r0, e0, q0⟩ := call_cells Tryd.underlying27 (by kernel_rfl) rfl rfl (show DataW.trod enc Tryd.prog w 0 (fun _ => true) true n 27 [c0, c1] = some y0 from g0)
      obtain ⟨r1, e1, q1⟩ := call_cells Tryd.underlying27 (by kernel_rfl) rfl rfl (show DataW.trod enc Tryd.prog w 0 (fun _ => true) true n 27 [c2, c3] = some y1 from g1)
      obtain ⟨b2, e2, q2⟩ := DataW.trod_bool Tryd.underlying4 (show DataW.trod enc Tryd.prog w 0 (fun _ => true) true n 4 [c4] = some y2 from g2)
      obtain ⟨b3, e3, q3⟩ := DataW.trod_bool Tryd.underlying4 (show DataW.trod enc Tryd.prog w 0 (fun _ => true) true n 4 [c5] = some y3 from g3)
      obtain ⟨a, cap, D, e4, hE, hwt⟩ := open_digis (show DataW.trod enc Tryd.prog w 0 (fun _ => true) true n 28 [c6] = some y4 from g4)
      simp only [List.cons.injEq, and_true] at e0 e1 e2 e3
      obtain ⟨rfl, rfl⟩ := e0
      obtain ⟨rfl, rfl⟩ := e1
      subst e2 e3 e4
      have hd : d = .agg [y0.1, y1.1, y2.1, y3.1, y4.1] := by simpa using (Prod.ext_iff.1 hx).1
      refine ⟨r0.1, r1.1, r0.2, r1.2, b2, b3, a, cap, D, rfl, hE, ?_, ?_, ?_⟩
      · rw [hd, q0]
        simp [DataW.weights, DataW.weightsEach, Tryd.underlying30, Tryd.underlying27]
      · rw [hd, q0, q1]
        simp [DataW.weights, DataW.weightsEach, Tryd.underlying30, Tryd.underlying27]
      · intro e he
        have := hwt e he
        rw [hd]
        simp only [DataW.weights, Tryd.underlying30]
        simp only [List.map, DataW.weightsEach, List.mem_append]
        simp [this]
/-- what lies within the reach -/
theorem sized_in {H : Type} {ts : List TypeId} {ds : List (DataW H)} (h : (DataW.weightsEach Tryd.prog ts ds).all (· ≤ reachBytes) = true) {j : Nat} {t : TypeId} {d : DataW H} (ht : ts[j]? = some t) (hd : ds[j]? = some d) {n : Nat} (hn : n ∈ DataW.weights Tryd.prog t d) : n ≤ 140737488351232 := by
  have hm := List.all_eq_true.1 h _ (DataW.weights_mem_each ht hd n hn)
  have h2 : n ≤ reachBytes := of_decide_eq_true hm
  exact h2
end Go.Proofs.YtmgfpnemamedoaaDoor
