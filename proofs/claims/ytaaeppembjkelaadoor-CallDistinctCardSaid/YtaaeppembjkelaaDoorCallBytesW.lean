/-
Of the statement CallBytes: the walk over what Put and Get are to answer.
-/
import Derived.Test.YtaaeppembjkelaaDoorCallPure
import Derived.Test.YtaaeppembjkelaaDoorCallOrderW
namespace Go.Proofs.YtaaeppembjkelaaDoor
open Go.RowKit Go.Sort
/-- a call's cells and two marks' -/
def MAt (w W : World) (b : ByteArray) (n : Int) (mk la : Bool) : Prop := (W.cell? ⟨w.heap.size, 0, none⟩ = some (.string b) ∧ W.cell? ⟨w.heap.size, 1, none⟩ = some (.int .i64 n)) ∧
  (W.cell? ⟨w.heap.size + 1, 0, none⟩ = some (.bool mk) ∧ W.cell? ⟨w.heap.size + 1, 1, none⟩ = some (.bool la)) ∧ Below w.heap.size w W ∧ w.heap.size + 1 < W.heap.size
theorem MAt.start (w : World) (b : ByteArray) (n : Int) (mk la : Bool) : MAt w ((w.alloc (.cells #[.string b, .int .i64 n] 23)).alloc (.cells #[.bool mk, .bool la] 34)) b n mk la :=
  ⟨⟨(World.cell?_alloc_past _ _ _ (by simp)).trans (World.cell?_alloc_at _ _ _ _ rfl), (World.cell?_alloc_past _ _ _ (by simp)).trans (World.cell?_alloc_at _ _ _ _ rfl)⟩, ⟨World.cell?_alloc_at _ _ _ _ (by simp), World.cell?_alloc_at _ _ _ _ (by simp)⟩, ((Below.refl _ w).alloc (Nat.le_refl _) _).alloc (by simp) _, by simp⟩
theorem MAt.below {w W W' : World} {b : ByteArray} {n : Int} {mk la : Bool} (h : MAt w W b n mk la) (hb : Below W.heap.size W W') : MAt w W' b n mk la := by
  obtain ⟨⟨x0, x1⟩, ⟨y0, y1⟩, hw, hs⟩ := h
  have q := fun (m i : Nat) (hm : m < W.heap.size) => hb.cell (p := ⟨m, i, none⟩) hm
  exact ⟨⟨(q _ _ (by omega)).trans x0, (q _ _ (by omega)).trans x1⟩, ⟨(q _ _ (by omega)).trans y0, (q _ _ (by omega)).trans y1⟩, hw.trans (hb.mono hw.size), Nat.lt_of_lt_of_le hs hb.size⟩
set_option maxHeartbeats 2000000 in
set_option maxRecDepth 100000 in
theorem cbytes_nok (hP : CParseOk) (hU : CPutOk) (b : ByteArray) (n : Int) (mk la : Bool) (s : ByteArray) (w : World) (hV : VarsOk w) (hb : b.size ≤ 100) (hs : s.size ≤ 100) (G : ByteArray) (N : Int) (gm gl : Bool)
    (hge : ∀ W, Calls Tryd.prog 16 #[.string s] W fun e w' => e = .returned (.tuple #[.agg #[.string G, .int .i64 N], .bool gm, .bool gl, .int .i64 0]) ∧ Below W.heap.size W w')
    (hgr : ∀ W, Calls Tryd.prog 17 #[.string s] W fun e w' => e = .returned (.tuple #[.agg #[.string G, .int .i64 N], .bool gm, .bool gl, .bool true]) ∧ Below W.heap.size W w')
    (hpu : ∀ W, Calls Tryd.prog 14 #[.agg #[.string b, .int .i64 n], .bool mk, .bool la] W fun e w' => e = .returned (.tuple #[.string ⟨#[]⟩, .int .i64 12]) ∧ Below W.heap.size W w')
    (hrr : ∀ W, Calls Tryd.prog 8 #[.agg #[.string b, .int .i64 n]] W fun e w' => e = .returned (.bool false) ∧ Below W.heap.size W w') :
    Calls Tryd.prog 4 #[.agg #[.string b, .int .i64 n], .agg #[.bool mk, .bool la], .string s] w fun e w' => e = .returned (.bool true) ∧ Below w.heap.size w w' := by
  have HAW := Lib.hid (fun W (hb : Below w.heap.size w W) => cawake_any hP hU W (hV.below hb))
  have HM := Lib.hid (MAt.start w b n mk la)
  have HPU := Lib.hid hpu
  have HRR := Lib.hid hrr
  have HGE := Lib.hid hge
  have HGR := Lib.hid hgr
  have heq := fun W => run_eq_call G G N N W true (by simp)
  clear hP hU hV hpu hrr hge hgr
  go_enter Tryd.func4, Tryd.ntmps4
  go_wp2_with (first
    | (go_at_call 7; go_loud ((first | refine (HAW.out _ HM.out.2.2.1).mono ?_ | refine (HAW.out _ (HM.out.2.2.1.alloc HM.out.2.2.1.size _)).mono ?_); rintro e w1 ⟨rfl, hb⟩; (first | replace HM := Lib.hid (HM.out.below hb) | replace HM := Lib.hid ((HM.out.below ((Below.refl _ _).alloc (Nat.le_refl _) _)).below hb)); clear hb; obtain ⟨⟨x0, x1⟩, ⟨y0, y1⟩, hw, hsz⟩ := HM.out; have hsz0 := Nat.lt_of_succ_lt hsz))
    | (go_at_call 14; go_loud (refine (HPU.out _).mono ?_; rintro e w1 ⟨rfl, hb⟩; (first | replace HM := Lib.hid (HM.out.below hb) | replace HM := Lib.hid ((HM.out.below ((Below.refl _ _).alloc (Nat.le_refl _) _)).below hb)); clear hb hsz0 x0 x1 y0 y1 hw hsz; obtain ⟨⟨x0, x1⟩, ⟨y0, y1⟩, hw, hsz⟩ := HM.out; have hsz0 := Nat.lt_of_succ_lt hsz))
    | (go_at_call 8; go_loud (refine (HRR.out _).mono ?_; rintro e w1 ⟨rfl, hb⟩; (first | replace HM := Lib.hid (HM.out.below hb) | replace HM := Lib.hid ((HM.out.below ((Below.refl _ _).alloc (Nat.le_refl _) _)).below hb)); clear hb hsz0 x0 x1 y0 y1 hw hsz; obtain ⟨⟨x0, x1⟩, ⟨y0, y1⟩, hw, hsz⟩ := HM.out; have hsz0 := Nat.lt_of_succ_lt hsz))
    | (go_at_call 16; ((with_reducible refine (HGE.out _).mono ?_); rintro e w1 ⟨rfl, hb⟩; (first | replace HM := Lib.hid (HM.out.below hb) | replace HM := Lib.hid ((HM.out.below ((Below.refl _ _).alloc (Nat.le_refl _) _)).below hb)); clear hb hsz0 x0 x1 y0 y1 hw hsz; obtain ⟨⟨x0, x1⟩, ⟨y0, y1⟩, hw, hsz⟩ := HM.out; have hsz0 := Nat.lt_of_succ_lt hsz))
    | (go_at_call 17; go_loud (refine (HGR.out _).mono ?_; rintro e w2 ⟨rfl, hb⟩; have q0 : w2.cell? ⟨w1.heap.size, 0, none⟩ = some (.string G) := (hb.cell (p := ⟨w1.heap.size, 0, none⟩) (by simp)).trans (by rw [World.cell?_alloc_new]; rfl); have q1 : w2.cell? ⟨w1.heap.size, 1, none⟩ = some (.int .i64 N) := (hb.cell (p := ⟨w1.heap.size, 1, none⟩) (by simp)).trans (by rw [World.cell?_alloc_new]; rfl); have hq0 := World.block_lt_of_cell? w2 ⟨w1.heap.size, 0, none⟩ q0; replace HM := Lib.hid ((HM.out.below ((Below.refl _ _).alloc (Nat.le_refl _) _)).below hb); clear hb hsz0 x0 x1 y0 y1 hw hsz; obtain ⟨⟨x0, x1⟩, ⟨y0, y1⟩, hw, hsz⟩ := HM.out; have hsz0 := Nat.lt_of_succ_lt hsz)))
  go_ret
  exact ⟨rfl, hw.alloc hw.size _⟩
set_option maxHeartbeats 2000000 in
set_option maxRecDepth 100000 in
theorem cbytes_nshort (hP : CParseOk) (hU : CPutOk) (b : ByteArray) (n : Int) (mk la : Bool) (s : ByteArray) (w : World) (hV : VarsOk w) (hb : b.size ≤ 100) (hs : s.size ≤ 100) (hz : s.size < 7) (G : ByteArray) (N : Int) (gm gl : Bool)
    (hge : ∀ W, Calls Tryd.prog 16 #[.string s] W fun e w' => e = .returned (.tuple #[.agg #[.string G, .int .i64 N], .bool gm, .bool gl, .int .i64 4]) ∧ Below W.heap.size W w')
    (hgr : ∀ W, Calls Tryd.prog 17 #[.string s] W fun e w' => e = .returned (.tuple #[.agg #[.string G, .int .i64 N], .bool gm, .bool gl, .bool false]) ∧ Below W.heap.size W w')
    (hpu : ∀ W, Calls Tryd.prog 14 #[.agg #[.string b, .int .i64 n], .bool mk, .bool la] W fun e w' => e = .returned (.tuple #[.string ⟨#[]⟩, .int .i64 12]) ∧ Below W.heap.size W w')
    (hrr : ∀ W, Calls Tryd.prog 8 #[.agg #[.string b, .int .i64 n]] W fun e w' => e = .returned (.bool false) ∧ Below W.heap.size W w') :
    Calls Tryd.prog 4 #[.agg #[.string b, .int .i64 n], .agg #[.bool mk, .bool la], .string s] w fun e w' => e = .returned (.bool true) ∧ Below w.heap.size w w' := by
  have HAW := Lib.hid (fun W (hb : Below w.heap.size w W) => cawake_any hP hU W (hV.below hb))
  have HM := Lib.hid (MAt.start w b n mk la)
  have HPU := Lib.hid hpu
  have HRR := Lib.hid hrr
  have HGE := Lib.hid hge
  have HGR := Lib.hid hgr
  have heq := fun W => run_eq_call G G N N W true (by simp)
  clear hP hU hV hpu hrr hge hgr
  go_enter Tryd.func4, Tryd.ntmps4
  go_wp2_with (first
    | (go_at_call 7; go_loud ((first | refine (HAW.out _ HM.out.2.2.1).mono ?_ | refine (HAW.out _ (HM.out.2.2.1.alloc HM.out.2.2.1.size _)).mono ?_); rintro e w1 ⟨rfl, hb⟩; (first | replace HM := Lib.hid (HM.out.below hb) | replace HM := Lib.hid ((HM.out.below ((Below.refl _ _).alloc (Nat.le_refl _) _)).below hb)); clear hb; obtain ⟨⟨x0, x1⟩, ⟨y0, y1⟩, hw, hsz⟩ := HM.out; have hsz0 := Nat.lt_of_succ_lt hsz))
    | (go_at_call 14; go_loud (refine (HPU.out _).mono ?_; rintro e w1 ⟨rfl, hb⟩; (first | replace HM := Lib.hid (HM.out.below hb) | replace HM := Lib.hid ((HM.out.below ((Below.refl _ _).alloc (Nat.le_refl _) _)).below hb)); clear hb hsz0 x0 x1 y0 y1 hw hsz; obtain ⟨⟨x0, x1⟩, ⟨y0, y1⟩, hw, hsz⟩ := HM.out; have hsz0 := Nat.lt_of_succ_lt hsz))
    | (go_at_call 8; go_loud (refine (HRR.out _).mono ?_; rintro e w1 ⟨rfl, hb⟩; (first | replace HM := Lib.hid (HM.out.below hb) | replace HM := Lib.hid ((HM.out.below ((Below.refl _ _).alloc (Nat.le_refl _) _)).below hb)); clear hb hsz0 x0 x1 y0 y1 hw hsz; obtain ⟨⟨x0, x1⟩, ⟨y0, y1⟩, hw, hsz⟩ := HM.out; have hsz0 := Nat.lt_of_succ_lt hsz))
    | (go_at_call 16; ((with_reducible refine (HGE.out _).mono ?_); rintro e w1 ⟨rfl, hb⟩; (first | replace HM := Lib.hid (HM.out.below hb) | replace HM := Lib.hid ((HM.out.below ((Below.refl _ _).alloc (Nat.le_refl _) _)).below hb)); clear hb hsz0 x0 x1 y0 y1 hw hsz; obtain ⟨⟨x0, x1⟩, ⟨y0, y1⟩, hw, hsz⟩ := HM.out; have hsz0 := Nat.lt_of_succ_lt hsz))
    | (go_at_call 17; go_loud (refine (HGR.out _).mono ?_; rintro e w2 ⟨rfl, hb⟩; have q0 : w2.cell? ⟨w1.heap.size, 0, none⟩ = some (.string G) := (hb.cell (p := ⟨w1.heap.size, 0, none⟩) (by simp)).trans (by rw [World.cell?_alloc_new]; rfl); have q1 : w2.cell? ⟨w1.heap.size, 1, none⟩ = some (.int .i64 N) := (hb.cell (p := ⟨w1.heap.size, 1, none⟩) (by simp)).trans (by rw [World.cell?_alloc_new]; rfl); have hq0 := World.block_lt_of_cell? w2 ⟨w1.heap.size, 0, none⟩ q0; replace HM := Lib.hid ((HM.out.below ((Below.refl _ _).alloc (Nat.le_refl _) _)).below hb); clear hb hsz0 x0 x1 y0 y1 hw hsz; obtain ⟨⟨x0, x1⟩, ⟨y0, y1⟩, hw, hsz⟩ := HM.out; have hsz0 := Nat.lt_of_succ_lt hsz)))
  go_ret
  exact ⟨rfl, hw.alloc hw.size _⟩
set_option maxHeartbeats 2000000 in
set_option maxRecDepth 100000 in
theorem cbytes_nlong (hP : CParseOk) (hU : CPutOk) (b : ByteArray) (n : Int) (mk la : Bool) (s : ByteArray) (w : World) (hV : VarsOk w) (hb : b.size ≤ 100) (hs : s.size ≤ 100) (hz : 7 < s.size) (G : ByteArray) (N : Int) (gm gl : Bool)
    (hge : ∀ W, Calls Tryd.prog 16 #[.string s] W fun e w' => e = .returned (.tuple #[.agg #[.string G, .int .i64 N], .bool gm, .bool gl, .int .i64 5]) ∧ Below W.heap.size W w')
    (hgr : ∀ W, Calls Tryd.prog 17 #[.string s] W fun e w' => e = .returned (.tuple #[.agg #[.string G, .int .i64 N], .bool gm, .bool gl, .bool false]) ∧ Below W.heap.size W w')
    (hpu : ∀ W, Calls Tryd.prog 14 #[.agg #[.string b, .int .i64 n], .bool mk, .bool la] W fun e w' => e = .returned (.tuple #[.string ⟨#[]⟩, .int .i64 12]) ∧ Below W.heap.size W w')
    (hrr : ∀ W, Calls Tryd.prog 8 #[.agg #[.string b, .int .i64 n]] W fun e w' => e = .returned (.bool false) ∧ Below W.heap.size W w') :
    Calls Tryd.prog 4 #[.agg #[.string b, .int .i64 n], .agg #[.bool mk, .bool la], .string s] w fun e w' => e = .returned (.bool true) ∧ Below w.heap.size w w' := by
  have HAW := Lib.hid (fun W (hb : Below w.heap.size w W) => cawake_any hP hU W (hV.below hb))
  have HM := Lib.hid (MAt.start w b n mk la)
  have HPU := Lib.hid hpu
  have HRR := Lib.hid hrr
  have HGE := Lib.hid hge
  have HGR := Lib.hid hgr
  have heq := fun W => run_eq_call G G N N W true (by simp)
  clear hP hU hV hpu hrr hge hgr
  go_enter Tryd.func4, Tryd.ntmps4
  go_wp2_with (first
    | (go_at_call 7; go_loud ((first | refine (HAW.out _ HM.out.2.2.1).mono ?_ | refine (HAW.out _ (HM.out.2.2.1.alloc HM.out.2.2.1.size _)).mono ?_); rintro e w1 ⟨rfl, hb⟩; (first | replace HM := Lib.hid (HM.out.below hb) | replace HM := Lib.hid ((HM.out.below ((Below.refl _ _).alloc (Nat.le_refl _) _)).below hb)); clear hb; obtain ⟨⟨x0, x1⟩, ⟨y0, y1⟩, hw, hsz⟩ := HM.out; have hsz0 := Nat.lt_of_succ_lt hsz))
    | (go_at_call 14; go_loud (refine (HPU.out _).mono ?_; rintro e w1 ⟨rfl, hb⟩; (first | replace HM := Lib.hid (HM.out.below hb) | replace HM := Lib.hid ((HM.out.below ((Below.refl _ _).alloc (Nat.le_refl _) _)).below hb)); clear hb hsz0 x0 x1 y0 y1 hw hsz; obtain ⟨⟨x0, x1⟩, ⟨y0, y1⟩, hw, hsz⟩ := HM.out; have hsz0 := Nat.lt_of_succ_lt hsz))
    | (go_at_call 8; go_loud (refine (HRR.out _).mono ?_; rintro e w1 ⟨rfl, hb⟩; (first | replace HM := Lib.hid (HM.out.below hb) | replace HM := Lib.hid ((HM.out.below ((Below.refl _ _).alloc (Nat.le_refl _) _)).below hb)); clear hb hsz0 x0 x1 y0 y1 hw hsz; obtain ⟨⟨x0, x1⟩, ⟨y0, y1⟩, hw, hsz⟩ := HM.out; have hsz0 := Nat.lt_of_succ_lt hsz))
    | (go_at_call 16; ((with_reducible refine (HGE.out _).mono ?_); rintro e w1 ⟨rfl, hb⟩; (first | replace HM := Lib.hid (HM.out.below hb) | replace HM := Lib.hid ((HM.out.below ((Below.refl _ _).alloc (Nat.le_refl _) _)).below hb)); clear hb hsz0 x0 x1 y0 y1 hw hsz; obtain ⟨⟨x0, x1⟩, ⟨y0, y1⟩, hw, hsz⟩ := HM.out; have hsz0 := Nat.lt_of_succ_lt hsz))
    | (go_at_call 17; go_loud (refine (HGR.out _).mono ?_; rintro e w2 ⟨rfl, hb⟩; have q0 : w2.cell? ⟨w1.heap.size, 0, none⟩ = some (.string G) := (hb.cell (p := ⟨w1.heap.size, 0, none⟩) (by simp)).trans (by rw [World.cell?_alloc_new]; rfl); have q1 : w2.cell? ⟨w1.heap.size, 1, none⟩ = some (.int .i64 N) := (hb.cell (p := ⟨w1.heap.size, 1, none⟩) (by simp)).trans (by rw [World.cell?_alloc_new]; rfl); have hq0 := World.block_lt_of_cell? w2 ⟨w1.heap.size, 0, none⟩ q0; replace HM := Lib.hid ((HM.out.below ((Below.refl _ _).alloc (Nat.le_refl _) _)).below hb); clear hb hsz0 x0 x1 y0 y1 hw hsz; obtain ⟨⟨x0, x1⟩, ⟨y0, y1⟩, hw, hsz⟩ := HM.out; have hsz0 := Nat.lt_of_succ_lt hsz)))
  go_ret
  exact ⟨rfl, hw.alloc hw.size _⟩
set_option maxHeartbeats 2000000 in
set_option maxRecDepth 100000 in
theorem cbytes_nform (hP : CParseOk) (hU : CPutOk) (b : ByteArray) (n : Int) (mk la : Bool) (s : ByteArray) (w : World) (hV : VarsOk w) (hb : b.size ≤ 100) (_hs : s.size ≤ 100) (hz : s.size = 7) (G : ByteArray) (N : Int) (gm gl : Bool)
    (hge : ∀ W, Calls Tryd.prog 16 #[.string s] W fun e w' => e = .returned (.tuple #[.agg #[.string G, .int .i64 N], .bool gm, .bool gl, .int .i64 2]) ∧ Below W.heap.size W w')
    (hgr : ∀ W, Calls Tryd.prog 17 #[.string s] W fun e w' => e = .returned (.tuple #[.agg #[.string G, .int .i64 N], .bool gm, .bool gl, .bool false]) ∧ Below W.heap.size W w')
    (hpu : ∀ W, Calls Tryd.prog 14 #[.agg #[.string b, .int .i64 n], .bool mk, .bool la] W fun e w' => e = .returned (.tuple #[.string ⟨#[]⟩, .int .i64 12]) ∧ Below W.heap.size W w')
    (hrr : ∀ W, Calls Tryd.prog 8 #[.agg #[.string b, .int .i64 n]] W fun e w' => e = .returned (.bool false) ∧ Below W.heap.size W w') :
    Calls Tryd.prog 4 #[.agg #[.string b, .int .i64 n], .agg #[.bool mk, .bool la], .string s] w fun e w' => e = .returned (.bool true) ∧ Below w.heap.size w w' := by
  have HAW := Lib.hid (fun W (hb : Below w.heap.size w W) => cawake_any hP hU W (hV.below hb))
  have HM := Lib.hid (MAt.start w b n mk la)
  have HPU := Lib.hid hpu
  have HRR := Lib.hid hrr
  have HGE := Lib.hid hge
  have HGR := Lib.hid hgr
  have heq := fun W => run_eq_call G G N N W true (by simp)
  clear hP hU hV hpu hrr hge hgr
  go_enter Tryd.func4, Tryd.ntmps4
  go_wp2_with (first
    | (go_at_call 7; go_loud ((first | refine (HAW.out _ HM.out.2.2.1).mono ?_ | refine (HAW.out _ (HM.out.2.2.1.alloc HM.out.2.2.1.size _)).mono ?_); rintro e w1 ⟨rfl, hb⟩; (first | replace HM := Lib.hid (HM.out.below hb) | replace HM := Lib.hid ((HM.out.below ((Below.refl _ _).alloc (Nat.le_refl _) _)).below hb)); clear hb; obtain ⟨⟨x0, x1⟩, ⟨y0, y1⟩, hw, hsz⟩ := HM.out; have hsz0 := Nat.lt_of_succ_lt hsz))
    | (go_at_call 14; go_loud (refine (HPU.out _).mono ?_; rintro e w1 ⟨rfl, hb⟩; (first | replace HM := Lib.hid (HM.out.below hb) | replace HM := Lib.hid ((HM.out.below ((Below.refl _ _).alloc (Nat.le_refl _) _)).below hb)); clear hb hsz0 x0 x1 y0 y1 hw hsz; obtain ⟨⟨x0, x1⟩, ⟨y0, y1⟩, hw, hsz⟩ := HM.out; have hsz0 := Nat.lt_of_succ_lt hsz))
    | (go_at_call 8; go_loud (refine (HRR.out _).mono ?_; rintro e w1 ⟨rfl, hb⟩; (first | replace HM := Lib.hid (HM.out.below hb) | replace HM := Lib.hid ((HM.out.below ((Below.refl _ _).alloc (Nat.le_refl _) _)).below hb)); clear hb hsz0 x0 x1 y0 y1 hw hsz; obtain ⟨⟨x0, x1⟩, ⟨y0, y1⟩, hw, hsz⟩ := HM.out; have hsz0 := Nat.lt_of_succ_lt hsz))
    | (go_at_call 16; ((with_reducible refine (HGE.out _).mono ?_); rintro e w1 ⟨rfl, hb⟩; (first | replace HM := Lib.hid (HM.out.below hb) | replace HM := Lib.hid ((HM.out.below ((Below.refl _ _).alloc (Nat.le_refl _) _)).below hb)); clear hb hsz0 x0 x1 y0 y1 hw hsz; obtain ⟨⟨x0, x1⟩, ⟨y0, y1⟩, hw, hsz⟩ := HM.out; have hsz0 := Nat.lt_of_succ_lt hsz))
    | (go_at_call 17; go_loud (refine (HGR.out _).mono ?_; rintro e w2 ⟨rfl, hb⟩; have q0 : w2.cell? ⟨w1.heap.size, 0, none⟩ = some (.string G) := (hb.cell (p := ⟨w1.heap.size, 0, none⟩) (by simp)).trans (by rw [World.cell?_alloc_new]; rfl); have q1 : w2.cell? ⟨w1.heap.size, 1, none⟩ = some (.int .i64 N) := (hb.cell (p := ⟨w1.heap.size, 1, none⟩) (by simp)).trans (by rw [World.cell?_alloc_new]; rfl); have hq0 := World.block_lt_of_cell? w2 ⟨w1.heap.size, 0, none⟩ q0; replace HM := Lib.hid ((HM.out.below ((Below.refl _ _).alloc (Nat.le_refl _) _)).below hb); clear hb hsz0 x0 x1 y0 y1 hw hsz; obtain ⟨⟨x0, x1⟩, ⟨y0, y1⟩, hw, hsz⟩ := HM.out; have hsz0 := Nat.lt_of_succ_lt hsz)))
  go_ret
  exact ⟨rfl, hw.alloc hw.size _⟩
set_option maxHeartbeats 2000000 in
set_option maxRecDepth 100000 in
theorem cbytes_rok (hP : CParseOk) (hU : CPutOk) (b : ByteArray) (n : Int) (mk la : Bool) (s : ByteArray) (w : World) (hV : VarsOk w) (hb : b.size ≤ 100) (hs : s.size ≤ 100) (G : ByteArray) (N : Int) (gm gl : Bool)
    (hge : ∀ W, Calls Tryd.prog 16 #[.string s] W fun e w' => e = .returned (.tuple #[.agg #[.string G, .int .i64 N], .bool gm, .bool gl, .int .i64 0]) ∧ Below W.heap.size W w')
    (hgr : ∀ W, Calls Tryd.prog 17 #[.string s] W fun e w' => e = .returned (.tuple #[.agg #[.string G, .int .i64 N], .bool gm, .bool gl, .bool true]) ∧ Below W.heap.size W w')
    (T : ByteArray)
    (hpu : ∀ W, Calls Tryd.prog 14 #[.agg #[.string b, .int .i64 n], .bool mk, .bool la] W fun e w' => e = .returned (.tuple #[.string T, .int .i64 0]) ∧ Below W.heap.size W w')
    (hrp : ∀ W, Calls Tryd.prog 15 #[.agg #[.string b, .int .i64 n], .bool mk, .bool la] W fun e w' => e = .returned (.string T) ∧ Below W.heap.size W w')
    (hgt : ∀ W, Calls Tryd.prog 16 #[.string T] W fun e w' => e = .returned (.tuple #[.agg #[.string b, .int .i64 n], .bool mk, .bool la, .int .i64 0]) ∧ Below W.heap.size W w')
    (hrr : ∀ W, Calls Tryd.prog 8 #[.agg #[.string b, .int .i64 n]] W fun e w' => e = .returned (.bool true) ∧ Below W.heap.size W w') :
    Calls Tryd.prog 4 #[.agg #[.string b, .int .i64 n], .agg #[.bool mk, .bool la], .string s] w fun e w' => e = .returned (.bool true) ∧ Below w.heap.size w w' := by
  have HAW := Lib.hid (fun W (hb : Below w.heap.size w W) => cawake_any hP hU W (hV.below hb))
  have HM := Lib.hid (MAt.start w b n mk la)
  have HPU := Lib.hid hpu
  have HRR := Lib.hid hrr
  have HGE := Lib.hid hge
  have HGR := Lib.hid hgr
  have heq := fun W => run_eq_call G G N N W true (by simp)
  have HRP := Lib.hid hrp
  have HGT := Lib.hid hgt
  have heq2 := fun W => run_eq_call b b n n W true (by simp)
  clear hP hU hV hpu hrr hge hgr hrp hgt
  go_enter Tryd.func4, Tryd.ntmps4
  go_wp2_with (first
    | (go_at_call 7; go_loud ((first | refine (HAW.out _ HM.out.2.2.1).mono ?_ | refine (HAW.out _ (HM.out.2.2.1.alloc HM.out.2.2.1.size _)).mono ?_); rintro e w1 ⟨rfl, hb⟩; (first | replace HM := Lib.hid (HM.out.below hb) | replace HM := Lib.hid ((HM.out.below ((Below.refl _ _).alloc (Nat.le_refl _) _)).below hb)); clear hb; obtain ⟨⟨x0, x1⟩, ⟨y0, y1⟩, hw, hsz⟩ := HM.out; have hsz0 := Nat.lt_of_succ_lt hsz))
    | (go_at_call 14; go_loud (refine (HPU.out _).mono ?_; rintro e w1 ⟨rfl, hb⟩; (first | replace HM := Lib.hid (HM.out.below hb) | replace HM := Lib.hid ((HM.out.below ((Below.refl _ _).alloc (Nat.le_refl _) _)).below hb)); clear hb hsz0 x0 x1 y0 y1 hw hsz; obtain ⟨⟨x0, x1⟩, ⟨y0, y1⟩, hw, hsz⟩ := HM.out; have hsz0 := Nat.lt_of_succ_lt hsz))
    | (go_at_call 8; go_loud (refine (HRR.out _).mono ?_; rintro e w1 ⟨rfl, hb⟩; (first | replace HM := Lib.hid (HM.out.below hb) | replace HM := Lib.hid ((HM.out.below ((Below.refl _ _).alloc (Nat.le_refl _) _)).below hb)); clear hb hsz0 x0 x1 y0 y1 hw hsz; obtain ⟨⟨x0, x1⟩, ⟨y0, y1⟩, hw, hsz⟩ := HM.out; have hsz0 := Nat.lt_of_succ_lt hsz))
    | (go_at_call 15; go_loud (refine (HRP.out _).mono ?_; rintro e w1 ⟨rfl, hb⟩; (first | replace HM := Lib.hid (HM.out.below hb) | replace HM := Lib.hid ((HM.out.below ((Below.refl _ _).alloc (Nat.le_refl _) _)).below hb)); clear hb hsz0 x0 x1 y0 y1 hw hsz; obtain ⟨⟨x0, x1⟩, ⟨y0, y1⟩, hw, hsz⟩ := HM.out; have hsz0 := Nat.lt_of_succ_lt hsz))
    | (go_at_call 16; ((with_reducible refine (HGT.out _).mono ?_); rintro e w1 ⟨rfl, hb⟩; (first | replace HM := Lib.hid (HM.out.below hb) | replace HM := Lib.hid ((HM.out.below ((Below.refl _ _).alloc (Nat.le_refl _) _)).below hb)); clear hb hsz0 x0 x1 y0 y1 hw hsz; obtain ⟨⟨x0, x1⟩, ⟨y0, y1⟩, hw, hsz⟩ := HM.out; have hsz0 := Nat.lt_of_succ_lt hsz))
    | (go_at_call 16; ((with_reducible refine (HGE.out _).mono ?_); rintro e w1 ⟨rfl, hb⟩; (first | replace HM := Lib.hid (HM.out.below hb) | replace HM := Lib.hid ((HM.out.below ((Below.refl _ _).alloc (Nat.le_refl _) _)).below hb)); clear hb hsz0 x0 x1 y0 y1 hw hsz; obtain ⟨⟨x0, x1⟩, ⟨y0, y1⟩, hw, hsz⟩ := HM.out; have hsz0 := Nat.lt_of_succ_lt hsz))
    | (go_at_call 17; go_loud (refine (HGR.out _).mono ?_; rintro e w2 ⟨rfl, hb⟩; have q0 : w2.cell? ⟨w1.heap.size, 0, none⟩ = some (.string G) := (hb.cell (p := ⟨w1.heap.size, 0, none⟩) (by simp)).trans (by rw [World.cell?_alloc_new]; rfl); have q1 : w2.cell? ⟨w1.heap.size, 1, none⟩ = some (.int .i64 N) := (hb.cell (p := ⟨w1.heap.size, 1, none⟩) (by simp)).trans (by rw [World.cell?_alloc_new]; rfl); have hq0 := World.block_lt_of_cell? w2 ⟨w1.heap.size, 0, none⟩ q0; replace HM := Lib.hid ((HM.out.below ((Below.refl _ _).alloc (Nat.le_refl _) _)).below hb); clear hb hsz0 x0 x1 y0 y1 hw hsz; obtain ⟨⟨x0, x1⟩, ⟨y0, y1⟩, hw, hsz⟩ := HM.out; have hsz0 := Nat.lt_of_succ_lt hsz)))
  go_ret
  exact ⟨rfl, hw.alloc hw.size _⟩
set_option maxHeartbeats 2000000 in
set_option maxRecDepth 100000 in
theorem cbytes_rshort (hP : CParseOk) (hU : CPutOk) (b : ByteArray) (n : Int) (mk la : Bool) (s : ByteArray) (w : World) (hV : VarsOk w) (hb : b.size ≤ 100) (hs : s.size ≤ 100) (hz : s.size < 7) (G : ByteArray) (N : Int) (gm gl : Bool)
    (hge : ∀ W, Calls Tryd.prog 16 #[.string s] W fun e w' => e = .returned (.tuple #[.agg #[.string G, .int .i64 N], .bool gm, .bool gl, .int .i64 4]) ∧ Below W.heap.size W w')
    (hgr : ∀ W, Calls Tryd.prog 17 #[.string s] W fun e w' => e = .returned (.tuple #[.agg #[.string G, .int .i64 N], .bool gm, .bool gl, .bool false]) ∧ Below W.heap.size W w')
    (T : ByteArray)
    (hpu : ∀ W, Calls Tryd.prog 14 #[.agg #[.string b, .int .i64 n], .bool mk, .bool la] W fun e w' => e = .returned (.tuple #[.string T, .int .i64 0]) ∧ Below W.heap.size W w')
    (hrp : ∀ W, Calls Tryd.prog 15 #[.agg #[.string b, .int .i64 n], .bool mk, .bool la] W fun e w' => e = .returned (.string T) ∧ Below W.heap.size W w')
    (hgt : ∀ W, Calls Tryd.prog 16 #[.string T] W fun e w' => e = .returned (.tuple #[.agg #[.string b, .int .i64 n], .bool mk, .bool la, .int .i64 0]) ∧ Below W.heap.size W w')
    (hrr : ∀ W, Calls Tryd.prog 8 #[.agg #[.string b, .int .i64 n]] W fun e w' => e = .returned (.bool true) ∧ Below W.heap.size W w') :
    Calls Tryd.prog 4 #[.agg #[.string b, .int .i64 n], .agg #[.bool mk, .bool la], .string s] w fun e w' => e = .returned (.bool true) ∧ Below w.heap.size w w' := by
  have HAW := Lib.hid (fun W (hb : Below w.heap.size w W) => cawake_any hP hU W (hV.below hb))
  have HM := Lib.hid (MAt.start w b n mk la)
  have HPU := Lib.hid hpu
  have HRR := Lib.hid hrr
  have HGE := Lib.hid hge
  have HGR := Lib.hid hgr
  have heq := fun W => run_eq_call G G N N W true (by simp)
  have HRP := Lib.hid hrp
  have HGT := Lib.hid hgt
  have heq2 := fun W => run_eq_call b b n n W true (by simp)
  clear hP hU hV hpu hrr hge hgr hrp hgt
  go_enter Tryd.func4, Tryd.ntmps4
  go_wp2_with (first
    | (go_at_call 7; go_loud ((first | refine (HAW.out _ HM.out.2.2.1).mono ?_ | refine (HAW.out _ (HM.out.2.2.1.alloc HM.out.2.2.1.size _)).mono ?_); rintro e w1 ⟨rfl, hb⟩; (first | replace HM := Lib.hid (HM.out.below hb) | replace HM := Lib.hid ((HM.out.below ((Below.refl _ _).alloc (Nat.le_refl _) _)).below hb)); clear hb; obtain ⟨⟨x0, x1⟩, ⟨y0, y1⟩, hw, hsz⟩ := HM.out; have hsz0 := Nat.lt_of_succ_lt hsz))
    | (go_at_call 14; go_loud (refine (HPU.out _).mono ?_; rintro e w1 ⟨rfl, hb⟩; (first | replace HM := Lib.hid (HM.out.below hb) | replace HM := Lib.hid ((HM.out.below ((Below.refl _ _).alloc (Nat.le_refl _) _)).below hb)); clear hb hsz0 x0 x1 y0 y1 hw hsz; obtain ⟨⟨x0, x1⟩, ⟨y0, y1⟩, hw, hsz⟩ := HM.out; have hsz0 := Nat.lt_of_succ_lt hsz))
    | (go_at_call 8; go_loud (refine (HRR.out _).mono ?_; rintro e w1 ⟨rfl, hb⟩; (first | replace HM := Lib.hid (HM.out.below hb) | replace HM := Lib.hid ((HM.out.below ((Below.refl _ _).alloc (Nat.le_refl _) _)).below hb)); clear hb hsz0 x0 x1 y0 y1 hw hsz; obtain ⟨⟨x0, x1⟩, ⟨y0, y1⟩, hw, hsz⟩ := HM.out; have hsz0 := Nat.lt_of_succ_lt hsz))
    | (go_at_call 15; go_loud (refine (HRP.out _).mono ?_; rintro e w1 ⟨rfl, hb⟩; (first | replace HM := Lib.hid (HM.out.below hb) | replace HM := Lib.hid ((HM.out.below ((Below.refl _ _).alloc (Nat.le_refl _) _)).below hb)); clear hb hsz0 x0 x1 y0 y1 hw hsz; obtain ⟨⟨x0, x1⟩, ⟨y0, y1⟩, hw, hsz⟩ := HM.out; have hsz0 := Nat.lt_of_succ_lt hsz))
    | (go_at_call 16; ((with_reducible refine (HGT.out _).mono ?_); rintro e w1 ⟨rfl, hb⟩; (first | replace HM := Lib.hid (HM.out.below hb) | replace HM := Lib.hid ((HM.out.below ((Below.refl _ _).alloc (Nat.le_refl _) _)).below hb)); clear hb hsz0 x0 x1 y0 y1 hw hsz; obtain ⟨⟨x0, x1⟩, ⟨y0, y1⟩, hw, hsz⟩ := HM.out; have hsz0 := Nat.lt_of_succ_lt hsz))
    | (go_at_call 16; ((with_reducible refine (HGE.out _).mono ?_); rintro e w1 ⟨rfl, hb⟩; (first | replace HM := Lib.hid (HM.out.below hb) | replace HM := Lib.hid ((HM.out.below ((Below.refl _ _).alloc (Nat.le_refl _) _)).below hb)); clear hb hsz0 x0 x1 y0 y1 hw hsz; obtain ⟨⟨x0, x1⟩, ⟨y0, y1⟩, hw, hsz⟩ := HM.out; have hsz0 := Nat.lt_of_succ_lt hsz))
    | (go_at_call 17; go_loud (refine (HGR.out _).mono ?_; rintro e w2 ⟨rfl, hb⟩; have q0 : w2.cell? ⟨w1.heap.size, 0, none⟩ = some (.string G) := (hb.cell (p := ⟨w1.heap.size, 0, none⟩) (by simp)).trans (by rw [World.cell?_alloc_new]; rfl); have q1 : w2.cell? ⟨w1.heap.size, 1, none⟩ = some (.int .i64 N) := (hb.cell (p := ⟨w1.heap.size, 1, none⟩) (by simp)).trans (by rw [World.cell?_alloc_new]; rfl); have hq0 := World.block_lt_of_cell? w2 ⟨w1.heap.size, 0, none⟩ q0; replace HM := Lib.hid ((HM.out.below ((Below.refl _ _).alloc (Nat.le_refl _) _)).below hb); clear hb hsz0 x0 x1 y0 y1 hw hsz; obtain ⟨⟨x0, x1⟩, ⟨y0, y1⟩, hw, hsz⟩ := HM.out; have hsz0 := Nat.lt_of_succ_lt hsz)))
  go_ret
  exact ⟨rfl, hw.alloc hw.size _⟩
set_option maxHeartbeats 2000000 in
set_option maxRecDepth 100000 in
theorem cbytes_rlong (hP : CParseOk) (hU : CPutOk) (b : ByteArray) (n : Int) (mk la : Bool) (s : ByteArray) (w : World) (hV : VarsOk w) (hb : b.size ≤ 100) (hs : s.size ≤ 100) (hz : 7 < s.size) (G : ByteArray) (N : Int) (gm gl : Bool)
    (hge : ∀ W, Calls Tryd.prog 16 #[.string s] W fun e w' => e = .returned (.tuple #[.agg #[.string G, .int .i64 N], .bool gm, .bool gl, .int .i64 5]) ∧ Below W.heap.size W w')
    (hgr : ∀ W, Calls Tryd.prog 17 #[.string s] W fun e w' => e = .returned (.tuple #[.agg #[.string G, .int .i64 N], .bool gm, .bool gl, .bool false]) ∧ Below W.heap.size W w')
    (T : ByteArray)
    (hpu : ∀ W, Calls Tryd.prog 14 #[.agg #[.string b, .int .i64 n], .bool mk, .bool la] W fun e w' => e = .returned (.tuple #[.string T, .int .i64 0]) ∧ Below W.heap.size W w')
    (hrp : ∀ W, Calls Tryd.prog 15 #[.agg #[.string b, .int .i64 n], .bool mk, .bool la] W fun e w' => e = .returned (.string T) ∧ Below W.heap.size W w')
    (hgt : ∀ W, Calls Tryd.prog 16 #[.string T] W fun e w' => e = .returned (.tuple #[.agg #[.string b, .int .i64 n], .bool mk, .bool la, .int .i64 0]) ∧ Below W.heap.size W w')
    (hrr : ∀ W, Calls Tryd.prog 8 #[.agg #[.string b, .int .i64 n]] W fun e w' => e = .returned (.bool true) ∧ Below W.heap.size W w') :
    Calls Tryd.prog 4 #[.agg #[.string b, .int .i64 n], .agg #[.bool mk, .bool la], .string s] w fun e w' => e = .returned (.bool true) ∧ Below w.heap.size w w' := by
  have HAW := Lib.hid (fun W (hb : Below w.heap.size w W) => cawake_any hP hU W (hV.below hb))
  have HM := Lib.hid (MAt.start w b n mk la)
  have HPU := Lib.hid hpu
  have HRR := Lib.hid hrr
  have HGE := Lib.hid hge
  have HGR := Lib.hid hgr
  have heq := fun W => run_eq_call G G N N W true (by simp)
  have HRP := Lib.hid hrp
  have HGT := Lib.hid hgt
  have heq2 := fun W => run_eq_call b b n n W true (by simp)
  clear hP hU hV hpu hrr hge hgr hrp hgt
  go_enter Tryd.func4, Tryd.ntmps4
  go_wp2_with (first
    | (go_at_call 7; go_loud ((first | refine (HAW.out _ HM.out.2.2.1).mono ?_ | refine (HAW.out _ (HM.out.2.2.1.alloc HM.out.2.2.1.size _)).mono ?_); rintro e w1 ⟨rfl, hb⟩; (first | replace HM := Lib.hid (HM.out.below hb) | replace HM := Lib.hid ((HM.out.below ((Below.refl _ _).alloc (Nat.le_refl _) _)).below hb)); clear hb; obtain ⟨⟨x0, x1⟩, ⟨y0, y1⟩, hw, hsz⟩ := HM.out; have hsz0 := Nat.lt_of_succ_lt hsz))
    | (go_at_call 14; go_loud (refine (HPU.out _).mono ?_; rintro e w1 ⟨rfl, hb⟩; (first | replace HM := Lib.hid (HM.out.below hb) | replace HM := Lib.hid ((HM.out.below ((Below.refl _ _).alloc (Nat.le_refl _) _)).below hb)); clear hb hsz0 x0 x1 y0 y1 hw hsz; obtain ⟨⟨x0, x1⟩, ⟨y0, y1⟩, hw, hsz⟩ := HM.out; have hsz0 := Nat.lt_of_succ_lt hsz))
    | (go_at_call 8; go_loud (refine (HRR.out _).mono ?_; rintro e w1 ⟨rfl, hb⟩; (first | replace HM := Lib.hid (HM.out.below hb) | replace HM := Lib.hid ((HM.out.below ((Below.refl _ _).alloc (Nat.le_refl _) _)).below hb)); clear hb hsz0 x0 x1 y0 y1 hw hsz; obtain ⟨⟨x0, x1⟩, ⟨y0, y1⟩, hw, hsz⟩ := HM.out; have hsz0 := Nat.lt_of_succ_lt hsz))
    | (go_at_call 15; go_loud (refine (HRP.out _).mono ?_; rintro e w1 ⟨rfl, hb⟩; (first | replace HM := Lib.hid (HM.out.below hb) | replace HM := Lib.hid ((HM.out.below ((Below.refl _ _).alloc (Nat.le_refl _) _)).below hb)); clear hb hsz0 x0 x1 y0 y1 hw hsz; obtain ⟨⟨x0, x1⟩, ⟨y0, y1⟩, hw, hsz⟩ := HM.out; have hsz0 := Nat.lt_of_succ_lt hsz))
    | (go_at_call 16; ((with_reducible refine (HGT.out _).mono ?_); rintro e w1 ⟨rfl, hb⟩; (first | replace HM := Lib.hid (HM.out.below hb) | replace HM := Lib.hid ((HM.out.below ((Below.refl _ _).alloc (Nat.le_refl _) _)).below hb)); clear hb hsz0 x0 x1 y0 y1 hw hsz; obtain ⟨⟨x0, x1⟩, ⟨y0, y1⟩, hw, hsz⟩ := HM.out; have hsz0 := Nat.lt_of_succ_lt hsz))
    | (go_at_call 16; ((with_reducible refine (HGE.out _).mono ?_); rintro e w1 ⟨rfl, hb⟩; (first | replace HM := Lib.hid (HM.out.below hb) | replace HM := Lib.hid ((HM.out.below ((Below.refl _ _).alloc (Nat.le_refl _) _)).below hb)); clear hb hsz0 x0 x1 y0 y1 hw hsz; obtain ⟨⟨x0, x1⟩, ⟨y0, y1⟩, hw, hsz⟩ := HM.out; have hsz0 := Nat.lt_of_succ_lt hsz))
    | (go_at_call 17; go_loud (refine (HGR.out _).mono ?_; rintro e w2 ⟨rfl, hb⟩; have q0 : w2.cell? ⟨w1.heap.size, 0, none⟩ = some (.string G) := (hb.cell (p := ⟨w1.heap.size, 0, none⟩) (by simp)).trans (by rw [World.cell?_alloc_new]; rfl); have q1 : w2.cell? ⟨w1.heap.size, 1, none⟩ = some (.int .i64 N) := (hb.cell (p := ⟨w1.heap.size, 1, none⟩) (by simp)).trans (by rw [World.cell?_alloc_new]; rfl); have hq0 := World.block_lt_of_cell? w2 ⟨w1.heap.size, 0, none⟩ q0; replace HM := Lib.hid ((HM.out.below ((Below.refl _ _).alloc (Nat.le_refl _) _)).below hb); clear hb hsz0 x0 x1 y0 y1 hw hsz; obtain ⟨⟨x0, x1⟩, ⟨y0, y1⟩, hw, hsz⟩ := HM.out; have hsz0 := Nat.lt_of_succ_lt hsz)))
  go_ret
  exact ⟨rfl, hw.alloc hw.size _⟩
set_option maxHeartbeats 2000000 in
set_option maxRecDepth 100000 in
theorem cbytes_rform (hP : CParseOk) (hU : CPutOk) (b : ByteArray) (n : Int) (mk la : Bool) (s : ByteArray) (w : World) (hV : VarsOk w) (hb : b.size ≤ 100) (_hs : s.size ≤ 100) (hz : s.size = 7) (G : ByteArray) (N : Int) (gm gl : Bool)
    (hge : ∀ W, Calls Tryd.prog 16 #[.string s] W fun e w' => e = .returned (.tuple #[.agg #[.string G, .int .i64 N], .bool gm, .bool gl, .int .i64 2]) ∧ Below W.heap.size W w')
    (hgr : ∀ W, Calls Tryd.prog 17 #[.string s] W fun e w' => e = .returned (.tuple #[.agg #[.string G, .int .i64 N], .bool gm, .bool gl, .bool false]) ∧ Below W.heap.size W w')
    (T : ByteArray)
    (hpu : ∀ W, Calls Tryd.prog 14 #[.agg #[.string b, .int .i64 n], .bool mk, .bool la] W fun e w' => e = .returned (.tuple #[.string T, .int .i64 0]) ∧ Below W.heap.size W w')
    (hrp : ∀ W, Calls Tryd.prog 15 #[.agg #[.string b, .int .i64 n], .bool mk, .bool la] W fun e w' => e = .returned (.string T) ∧ Below W.heap.size W w')
    (hgt : ∀ W, Calls Tryd.prog 16 #[.string T] W fun e w' => e = .returned (.tuple #[.agg #[.string b, .int .i64 n], .bool mk, .bool la, .int .i64 0]) ∧ Below W.heap.size W w')
    (hrr : ∀ W, Calls Tryd.prog 8 #[.agg #[.string b, .int .i64 n]] W fun e w' => e = .returned (.bool true) ∧ Below W.heap.size W w') :
    Calls Tryd.prog 4 #[.agg #[.string b, .int .i64 n], .agg #[.bool mk, .bool la], .string s] w fun e w' => e = .returned (.bool true) ∧ Below w.heap.size w w' := by
  have HAW := Lib.hid (fun W (hb : Below w.heap.size w W) => cawake_any hP hU W (hV.below hb))
  have HM := Lib.hid (MAt.start w b n mk la)
  have HPU := Lib.hid hpu
  have HRR := Lib.hid hrr
  have HGE := Lib.hid hge
  have HGR := Lib.hid hgr
  have heq := fun W => run_eq_call G G N N W true (by simp)
  have HRP := Lib.hid hrp
  have HGT := Lib.hid hgt
  have heq2 := fun W => run_eq_call b b n n W true (by simp)
  clear hP hU hV hpu hrr hge hgr hrp hgt
  go_enter Tryd.func4, Tryd.ntmps4
  go_wp2_with (first
    | (go_at_call 7; go_loud ((first | refine (HAW.out _ HM.out.2.2.1).mono ?_ | refine (HAW.out _ (HM.out.2.2.1.alloc HM.out.2.2.1.size _)).mono ?_); rintro e w1 ⟨rfl, hb⟩; (first | replace HM := Lib.hid (HM.out.below hb) | replace HM := Lib.hid ((HM.out.below ((Below.refl _ _).alloc (Nat.le_refl _) _)).below hb)); clear hb; obtain ⟨⟨x0, x1⟩, ⟨y0, y1⟩, hw, hsz⟩ := HM.out; have hsz0 := Nat.lt_of_succ_lt hsz))
    | (go_at_call 14; go_loud (refine (HPU.out _).mono ?_; rintro e w1 ⟨rfl, hb⟩; (first | replace HM := Lib.hid (HM.out.below hb) | replace HM := Lib.hid ((HM.out.below ((Below.refl _ _).alloc (Nat.le_refl _) _)).below hb)); clear hb hsz0 x0 x1 y0 y1 hw hsz; obtain ⟨⟨x0, x1⟩, ⟨y0, y1⟩, hw, hsz⟩ := HM.out; have hsz0 := Nat.lt_of_succ_lt hsz))
    | (go_at_call 8; go_loud (refine (HRR.out _).mono ?_; rintro e w1 ⟨rfl, hb⟩; (first | replace HM := Lib.hid (HM.out.below hb) | replace HM := Lib.hid ((HM.out.below ((Below.refl _ _).alloc (Nat.le_refl _) _)).below hb)); clear hb hsz0 x0 x1 y0 y1 hw hsz; obtain ⟨⟨x0, x1⟩, ⟨y0, y1⟩, hw, hsz⟩ := HM.out; have hsz0 := Nat.lt_of_succ_lt hsz))
    | (go_at_call 15; go_loud (refine (HRP.out _).mono ?_; rintro e w1 ⟨rfl, hb⟩; (first | replace HM := Lib.hid (HM.out.below hb) | replace HM := Lib.hid ((HM.out.below ((Below.refl _ _).alloc (Nat.le_refl _) _)).below hb)); clear hb hsz0 x0 x1 y0 y1 hw hsz; obtain ⟨⟨x0, x1⟩, ⟨y0, y1⟩, hw, hsz⟩ := HM.out; have hsz0 := Nat.lt_of_succ_lt hsz))
    | (go_at_call 16; ((with_reducible refine (HGT.out _).mono ?_); rintro e w1 ⟨rfl, hb⟩; (first | replace HM := Lib.hid (HM.out.below hb) | replace HM := Lib.hid ((HM.out.below ((Below.refl _ _).alloc (Nat.le_refl _) _)).below hb)); clear hb hsz0 x0 x1 y0 y1 hw hsz; obtain ⟨⟨x0, x1⟩, ⟨y0, y1⟩, hw, hsz⟩ := HM.out; have hsz0 := Nat.lt_of_succ_lt hsz))
    | (go_at_call 16; ((with_reducible refine (HGE.out _).mono ?_); rintro e w1 ⟨rfl, hb⟩; (first | replace HM := Lib.hid (HM.out.below hb) | replace HM := Lib.hid ((HM.out.below ((Below.refl _ _).alloc (Nat.le_refl _) _)).below hb)); clear hb hsz0 x0 x1 y0 y1 hw hsz; obtain ⟨⟨x0, x1⟩, ⟨y0, y1⟩, hw, hsz⟩ := HM.out; have hsz0 := Nat.lt_of_succ_lt hsz))
    | (go_at_call 17; go_loud (refine (HGR.out _).mono ?_; rintro e w2 ⟨rfl, hb⟩; have q0 : w2.cell? ⟨w1.heap.size, 0, none⟩ = some (.string G) := (hb.cell (p := ⟨w1.heap.size, 0, none⟩) (by simp)).trans (by rw [World.cell?_alloc_new]; rfl); have q1 : w2.cell? ⟨w1.heap.size, 1, none⟩ = some (.int .i64 N) := (hb.cell (p := ⟨w1.heap.size, 1, none⟩) (by simp)).trans (by rw [World.cell?_alloc_new]; rfl); have hq0 := World.block_lt_of_cell? w2 ⟨w1.heap.size, 0, none⟩ q0; replace HM := Lib.hid ((HM.out.below ((Below.refl _ _).alloc (Nat.le_refl _) _)).below hb); clear hb hsz0 x0 x1 y0 y1 hw hsz; obtain ⟨⟨x0, x1⟩, ⟨y0, y1⟩, hw, hsz⟩ := HM.out; have hsz0 := Nat.lt_of_succ_lt hsz)))
  go_ret
  exact ⟨rfl, hw.alloc hw.size _⟩
set_option maxHeartbeats 1000000 in
theorem cbytes_long (hP : CParseOk) (hU : CPutOk) (b : ByteArray) (n : Int) (mk la : Bool) (s : ByteArray) (w : World) (hV : VarsOk w) (h : 100 < b.size ∨ 100 < s.size) :
    Calls Tryd.prog 4 #[.agg #[.string b, .int .i64 n], .agg #[.bool mk, .bool la], .string s] w fun e w' => e = .returned (.bool true) ∧ Below w.heap.size w w' := by
  have HAW := Lib.hid (fun W (hb : Below w.heap.size w W) => cawake_any hP hU W (hV.below hb))
  have HM := Lib.hid (MAt.start w b n mk la)
  clear hP hU hV
  by_cases h1 : 100 < b.size
  · have d1 : decide ((100 : Int) < (b.size : Int)) = true := decide_eq_true (by omega)
    go_enter Tryd.func4, Tryd.ntmps4
    go_wp2_with (go_at_call 7; go_loud ((first | refine (HAW.out _ HM.out.2.2.1).mono ?_ | refine (HAW.out _ (HM.out.2.2.1.alloc HM.out.2.2.1.size _)).mono ?_); rintro e w1 ⟨rfl, hb⟩; replace HM := Lib.hid (HM.out.below hb); clear hb; obtain ⟨⟨x0, x1⟩, ⟨y0, y1⟩, hw, hsz⟩ := HM.out))
    go_ret
    exact ⟨rfl, hw⟩
  · have h2 : 100 < s.size := by omega
    have d1 : decide ((100 : Int) < (b.size : Int)) = false := decide_eq_false (by omega)
    have d2 : decide ((100 : Int) < (s.size : Int)) = true := decide_eq_true (by omega)
    clear h
    go_enter Tryd.func4, Tryd.ntmps4
    go_wp2_with (go_at_call 7; go_loud ((first | refine (HAW.out _ HM.out.2.2.1).mono ?_ | refine (HAW.out _ (HM.out.2.2.1.alloc HM.out.2.2.1.size _)).mono ?_); rintro e w1 ⟨rfl, hb⟩; replace HM := Lib.hid (HM.out.below hb); clear hb; obtain ⟨⟨x0, x1⟩, ⟨y0, y1⟩, hw, hsz⟩ := HM.out))
    go_ret
    exact ⟨rfl, hw⟩
theorem cbytes_any (hP : CParseOk) (hU : CPutOk) (hG : CGetOk) (b : ByteArray) (n : Int) (mk la : Bool) (s : ByteArray) (w : World) (hV : VarsOk w) :
    Calls Tryd.prog 4 #[.agg #[.string b, .int .i64 n], .agg #[.bool mk, .bool la], .string s] w fun e w' => e = .returned (.bool true) ∧ Below w.heap.size w w' := by
  by_cases hb : b.size ≤ 100
  case neg => exact cbytes_long hP hU b n mk la s w hV (by omega)
  by_cases hs : s.size ≤ 100
  case neg => exact cbytes_long hP hU b n mk la s w hV (by omega)
  have hge := fun W => hG s W (by omega)
  have hgr := fun W => rget_any s W
  unfold getE at hge
  unfold getV at hgr
  rw [show s.data.toList.length = s.size by simp] at hge
  have hpu := fun W => hU b n mk la W (by omega)
  have hrr := fun W => rcright_any b n W
  generalize getD7 s.data.toList = x at hge hgr
  obtain ⟨ok, gb, gn, gm, gl⟩ := x
  simp only at hge hgr
  unfold putE at hpu
  cases hr : rightD b n
  · rw [hr] at hpu hrr
    cases ok
    · by_cases h1 : s.size < 7
      · rw [if_neg (by simp), if_pos h1] at hge
        exact cbytes_nshort hP hU b n mk la s w hV hb hs h1 _ _ gm gl hge hgr hpu hrr
      by_cases h2 : 7 < s.size
      · rw [if_neg (by simp), if_neg h1, if_pos h2] at hge
        exact cbytes_nlong hP hU b n mk la s w hV hb hs h2 _ _ gm gl hge hgr hpu hrr
      · rw [if_neg (by simp), if_neg h1, if_neg h2] at hge
        exact cbytes_nform hP hU b n mk la s w hV hb hs (by omega) _ _ gm gl hge hgr hpu hrr
    · exact cbytes_nok hP hU b n mk la s w hV hb hs _ _ gm gl hge hgr hpu hrr
  · rw [hr] at hpu hrr
    obtain ⟨h1, h2, h3, h4, h5⟩ := right_facts b n hr
    obtain ⟨_, _, hlim⟩ := right_bytes b n hr
    have hnn : ((n.toNat : Nat) : Int) = n := by omega
    have hrp := fun W => rput_any b n.toNat mk la W h2 (by omega) hlim
    rw [hnn] at hrp
    have hgt := fun W => hG ⟨(putD b.data.toList n.toNat mk la).toArray⟩ W (by show (putD b.data.toList n.toNat mk la).toArray.size ≤ 300; rw [List.size_toArray, put_len]; omega)
    rw [show ((⟨(putD b.data.toList n.toNat mk la).toArray⟩ : ByteArray).data.toList) = putD b.data.toList n.toNat mk la from rfl] at hgt
    unfold getE at hgt
    rw [get_put b n mk la hr] at hgt
    simp only [back_bytes, hnn] at hgt
    cases ok
    · by_cases h1 : s.size < 7
      · rw [if_neg (by simp), if_pos h1] at hge
        exact cbytes_rshort hP hU b n mk la s w hV hb hs h1 _ _ gm gl hge hgr _ hpu hrp hgt hrr
      by_cases h2 : 7 < s.size
      · rw [if_neg (by simp), if_neg h1, if_pos h2] at hge
        exact cbytes_rlong hP hU b n mk la s w hV hb hs h2 _ _ gm gl hge hgr _ hpu hrp hgt hrr
      · rw [if_neg (by simp), if_neg h1, if_neg h2] at hge
        exact cbytes_rform hP hU b n mk la s w hV hb hs (by omega) _ _ gm gl hge hgr _ hpu hrp hgt hrr
    · exact cbytes_rok hP hU b n mk la s w hV hb hs _ _ gm gl hge hgr _ hpu hrp hgt hrr
end Go.Proofs.YtaaeppembjkelaaDoor
