/-
A frame's thirteen cells.
Frames as plain facts: what is wrong with one.
-/
import Derived.Test.YtgoaepjjegblnaaGreatDoorMix02
import Derived.Test.YtgoaepjjegblnaaGreatDoorMix16
namespace Go.Proofs.YtgoaepjjegblnaaGreatDoor
open Go.RowKit Go.Sort
set_option maxRecDepth 20000
structure F13 (W : World) (m : Nat) (v0 v1 v2 v3 v4 v5 v6 v7 v8 v9 v10 v11 v12 : Value) : Prop where
  k0 : KeepAt W m 0 v0
  k1 : KeepAt W m 1 v1
  k2 : KeepAt W m 2 v2
  k3 : KeepAt W m 3 v3
  k4 : KeepAt W m 4 v4
  k5 : KeepAt W m 5 v5
  k6 : KeepAt W m 6 v6
  k7 : KeepAt W m 7 v7
  k8 : KeepAt W m 8 v8
  k9 : KeepAt W m 9 v9
  k10 : KeepAt W m 10 v10
  k11 : KeepAt W m 11 v11
  k12 : KeepAt W m 12 v12
theorem F13.new (w : World) (m : Nat) (hm : m = w.heap.size) (v0 v1 v2 v3 v4 v5 v6 v7 v8 v9 v10 v11 v12 : Value) (T : TypeId) : F13 (w.alloc (.cells #[v0, v1, v2, v3, v4, v5, v6, v7, v8, v9, v10, v11, v12] T)) m v0 v1 v2 v3 v4 v5 v6 v7 v8 v9 v10 v11 v12 := by
  subst hm
  have hl : w.heap.size < (w.alloc (.cells #[v0, v1, v2, v3, v4, v5, v6, v7, v8, v9, v10, v11, v12] T)).heap.size := by simp
  exact ⟨⟨World.cell?_alloc_at _ _ _ _ rfl, World.frozen?_alloc_at _ _ _ _ rfl, hl⟩, ⟨World.cell?_alloc_at _ _ _ _ rfl, World.frozen?_alloc_at _ _ _ _ rfl, hl⟩, ⟨World.cell?_alloc_at _ _ _ _ rfl, World.frozen?_alloc_at _ _ _ _ rfl, hl⟩, ⟨World.cell?_alloc_at _ _ _ _ rfl, World.frozen?_alloc_at _ _ _ _ rfl, hl⟩, ⟨World.cell?_alloc_at _ _ _ _ rfl, World.frozen?_alloc_at _ _ _ _ rfl, hl⟩, ⟨World.cell?_alloc_at _ _ _ _ rfl, World.frozen?_alloc_at _ _ _ _ rfl, hl⟩, ⟨World.cell?_alloc_at _ _ _ _ rfl, World.frozen?_alloc_at _ _ _ _ rfl, hl⟩, ⟨World.cell?_alloc_at _ _ _ _ rfl, World.frozen?_alloc_at _ _ _ _ rfl, hl⟩, ⟨World.cell?_alloc_at _ _ _ _ rfl, World.frozen?_alloc_at _ _ _ _ rfl, hl⟩, ⟨World.cell?_alloc_at _ _ _ _ rfl, World.frozen?_alloc_at _ _ _ _ rfl, hl⟩, ⟨World.cell?_alloc_at _ _ _ _ rfl, World.frozen?_alloc_at _ _ _ _ rfl, hl⟩, ⟨World.cell?_alloc_at _ _ _ _ rfl, World.frozen?_alloc_at _ _ _ _ rfl, hl⟩, ⟨World.cell?_alloc_at _ _ _ _ rfl, World.frozen?_alloc_at _ _ _ _ rfl, hl⟩⟩
theorem F13.block {W W' : World} {m : Nat} {v0 v1 v2 v3 v4 v5 v6 v7 v8 v9 v10 v11 v12 : Value} (h : F13 W m v0 v1 v2 v3 v4 v5 v6 v7 v8 v9 v10 v11 v12) (hb : W'.heap[m]? = W.heap[m]?) (hs : W.heap.size ≤ W'.heap.size) : F13 W' m v0 v1 v2 v3 v4 v5 v6 v7 v8 v9 v10 v11 v12 :=
  ⟨h.k0.block hb hs, h.k1.block hb hs, h.k2.block hb hs, h.k3.block hb hs, h.k4.block hb hs, h.k5.block hb hs, h.k6.block hb hs, h.k7.block hb hs, h.k8.block hb hs, h.k9.block hb hs, h.k10.block hb hs, h.k11.block hb hs, h.k12.block hb hs⟩
theorem F13.below {W W' : World} {m : Nat} {v0 v1 v2 v3 v4 v5 v6 v7 v8 v9 v10 v11 v12 : Value} (h : F13 W m v0 v1 v2 v3 v4 v5 v6 v7 v8 v9 v10 v11 v12) (hb : Below W.heap.size W W') : F13 W' m v0 v1 v2 v3 v4 v5 v6 v7 v8 v9 v10 v11 v12 := h.block (hb.block _ h.k0.lt) hb.size
theorem F13.alloc {W : World} {m : Nat} {v0 v1 v2 v3 v4 v5 v6 v7 v8 v9 v10 v11 v12 : Value} (h : F13 W m v0 v1 v2 v3 v4 v5 v6 v7 v8 v9 v10 v11 v12) (x : Obj) : F13 (W.alloc x) m v0 v1 v2 v3 v4 v5 v6 v7 v8 v9 v10 v11 v12 := h.below ((Below.refl _ W).alloc (Nat.le_refl _) _)
theorem F13.other {W : World} {m g p : Nat} {v0 v1 v2 v3 v4 v5 v6 v7 v8 v9 v10 v11 v12 : Value} (h : F13 W m v0 v1 v2 v3 v4 v5 v6 v7 v8 v9 v10 v11 v12) (v : Value) (hg : g ≠ m) : F13 (W.setCell ⟨g, p, none⟩ v) m v0 v1 v2 v3 v4 v5 v6 v7 v8 v9 v10 v11 v12 := ⟨h.k0.other v hg, h.k1.other v hg, h.k2.other v hg, h.k3.other v hg, h.k4.other v hg, h.k5.other v hg, h.k6.other v hg, h.k7.other v hg, h.k8.other v hg, h.k9.other v hg, h.k10.other v hg, h.k11.other v hg, h.k12.other v hg⟩
/-- all thirteen written anew -/
theorem F13.stored {W : World} {m : Nat} {v0 v1 v2 v3 v4 v5 v6 v7 v8 v9 v10 v11 v12 : Value} (h : F13 W m v0 v1 v2 v3 v4 v5 v6 v7 v8 v9 v10 v11 v12) (u0 u1 u2 u3 u4 u5 u6 u7 u8 u9 u10 u11 u12 : Value) : F13 (((((((((((((W.setCell ⟨m, 0, none⟩ u0).setCell ⟨m, 1, none⟩ u1).setCell ⟨m, 2, none⟩ u2).setCell ⟨m, 3, none⟩ u3).setCell ⟨m, 4, none⟩ u4).setCell ⟨m, 5, none⟩ u5).setCell ⟨m, 6, none⟩ u6).setCell ⟨m, 7, none⟩ u7).setCell ⟨m, 8, none⟩ u8).setCell ⟨m, 9, none⟩ u9).setCell ⟨m, 10, none⟩ u10).setCell ⟨m, 11, none⟩ u11).setCell ⟨m, 12, none⟩ u12) m u0 u1 u2 u3 u4 u5 u6 u7 u8 u9 u10 u11 u12 :=
  ⟨(((((((((((((h.k0.put _).set _ (by omega)).set _ (by omega)).set _ (by omega)).set _ (by omega)).set _ (by omega)).set _ (by omega)).set _ (by omega)).set _ (by omega)).set _ (by omega)).set _ (by omega)).set _ (by omega)).set _ (by omega)), (((((((((((((h.k1.set _ (by omega)).put _).set _ (by omega)).set _ (by omega)).set _ (by omega)).set _ (by omega)).set _ (by omega)).set _ (by omega)).set _ (by omega)).set _ (by omega)).set _ (by omega)).set _ (by omega)).set _ (by omega)), (((((((((((((h.k2.set _ (by omega)).set _ (by omega)).put _).set _ (by omega)).set _ (by omega)).set _ (by omega)).set _ (by omega)).set _ (by omega)).set _ (by omega)).set _ (by omega)).set _ (by omega)).set _ (by omega)).set _ (by omega)), (((((((((((((h.k3.set _ (by omega)).set _ (by omega)).set _ (by omega)).put _).set _ (by omega)).set _ (by omega)).set _ (by omega)).set _ (by omega)).set _ (by omega)).set _ (by omega)).set _ (by omega)).set _ (by omega)).set _ (by omega)), (((((((((((((h.k4.set _ (by omega)).set _ (by omega)).set _ (by omega)).set _ (by omega)).put _).set _ (by omega)).set _ (by omega)).set _ (by omega)).set _ (by omega)).set _ (by omega)).set _ (by omega)).set _ (by omega)).set _ (by omega)), (((((((((((((h.k5.set _ (by omega)).set _ (by omega)).set _ (by omega)).set _ (by omega)).set _ (by omega)).put _).set _ (by omega)).set _ (by omega)).set _ (by omega)).set _ (by omega)).set _ (by omega)).set _ (by omega)).set _ (by omega)), (((((((((((((h.k6.set _ (by omega)).set _ (by omega)).set _ (by omega)).set _ (by omega)).set _ (by omega)).set _ (by omega)).put _).set _ (by omega)).set _ (by omega)).set _ (by omega)).set _ (by omega)).set _ (by omega)).set _ (by omega)), (((((((((((((h.k7.set _ (by omega)).set _ (by omega)).set _ (by omega)).set _ (by omega)).set _ (by omega)).set _ (by omega)).set _ (by omega)).put _).set _ (by omega)).set _ (by omega)).set _ (by omega)).set _ (by omega)).set _ (by omega)), (((((((((((((h.k8.set _ (by omega)).set _ (by omega)).set _ (by omega)).set _ (by omega)).set _ (by omega)).set _ (by omega)).set _ (by omega)).set _ (by omega)).put _).set _ (by omega)).set _ (by omega)).set _ (by omega)).set _ (by omega)), (((((((((((((h.k9.set _ (by omega)).set _ (by omega)).set _ (by omega)).set _ (by omega)).set _ (by omega)).set _ (by omega)).set _ (by omega)).set _ (by omega)).set _ (by omega)).put _).set _ (by omega)).set _ (by omega)).set _ (by omega)), (((((((((((((h.k10.set _ (by omega)).set _ (by omega)).set _ (by omega)).set _ (by omega)).set _ (by omega)).set _ (by omega)).set _ (by omega)).set _ (by omega)).set _ (by omega)).set _ (by omega)).put _).set _ (by omega)).set _ (by omega)), (((((((((((((h.k11.set _ (by omega)).set _ (by omega)).set _ (by omega)).set _ (by omega)).set _ (by omega)).set _ (by omega)).set _ (by omega)).set _ (by omega)).set _ (by omega)).set _ (by omega)).set _ (by omega)).put _).set _ (by omega)), (((((((((((((h.k12.set _ (by omega)).set _ (by omega)).set _ (by omega)).set _ (by omega)).set _ (by omega)).set _ (by omega)).set _ (by omega)).set _ (by omega)).set _ (by omega)).set _ (by omega)).set _ (by omega)).set _ (by omega)).put _)⟩
/-- its number -/
theorem F13.pid {W : World} {m : Nat} {v0 v1 v2 v3 v4 v5 v6 v7 v8 v9 v10 v11 v12 : Value} (h : F13 W m v0 v1 v2 v3 v4 v5 v6 v7 v8 v9 v10 v11 v12) (u11 : Value) : F13 (W.setCell ⟨m, 11, none⟩ u11) m v0 v1 v2 v3 v4 v5 v6 v7 v8 v9 v10 u11 v12 :=
  ⟨(h.k0.set _ (by omega)), (h.k1.set _ (by omega)), (h.k2.set _ (by omega)), (h.k3.set _ (by omega)), (h.k4.set _ (by omega)), (h.k5.set _ (by omega)), (h.k6.set _ (by omega)), (h.k7.set _ (by omega)), (h.k8.set _ (by omega)), (h.k9.set _ (by omega)), (h.k10.set _ (by omega)), (h.k11.put _), (h.k12.set _ (by omega))⟩
/-- its information -/
theorem F13.info {W : World} {m : Nat} {v0 v1 v2 v3 v4 v5 v6 v7 v8 v9 v10 v11 v12 : Value} (h : F13 W m v0 v1 v2 v3 v4 v5 v6 v7 v8 v9 v10 v11 v12) (u12 : Value) : F13 (W.setCell ⟨m, 12, none⟩ u12) m v0 v1 v2 v3 v4 v5 v6 v7 v8 v9 v10 v11 u12 :=
  ⟨(h.k0.set _ (by omega)), (h.k1.set _ (by omega)), (h.k2.set _ (by omega)), (h.k3.set _ (by omega)), (h.k4.set _ (by omega)), (h.k5.set _ (by omega)), (h.k6.set _ (by omega)), (h.k7.set _ (by omega)), (h.k8.set _ (by omega)), (h.k9.set _ (by omega)), (h.k10.set _ (by omega)), (h.k11.set _ (by omega)), (h.k12.put _)⟩
theorem set13_below {B m : Nat} {a W : World} (h : Below B a W) (hm : B ≤ m) (u0 u1 u2 u3 u4 u5 u6 u7 u8 u9 u10 u11 u12 : Value) :
    Below B a (((((((((((((W.setCell ⟨m, 0, none⟩ u0).setCell ⟨m, 1, none⟩ u1).setCell ⟨m, 2, none⟩ u2).setCell ⟨m, 3, none⟩ u3).setCell ⟨m, 4, none⟩ u4).setCell ⟨m, 5, none⟩ u5).setCell ⟨m, 6, none⟩ u6).setCell ⟨m, 7, none⟩ u7).setCell ⟨m, 8, none⟩ u8).setCell ⟨m, 9, none⟩ u9).setCell ⟨m, 10, none⟩ u10).setCell ⟨m, 11, none⟩ u11).setCell ⟨m, 12, none⟩ u12) :=
  (((((((((((((h.setCell (p := ⟨m, 0, none⟩) hm u0).setCell (p := ⟨m, 1, none⟩) hm u1).setCell (p := ⟨m, 2, none⟩) hm u2).setCell (p := ⟨m, 3, none⟩) hm u3).setCell (p := ⟨m, 4, none⟩) hm u4).setCell (p := ⟨m, 5, none⟩) hm u5).setCell (p := ⟨m, 6, none⟩) hm u6).setCell (p := ⟨m, 7, none⟩) hm u7).setCell (p := ⟨m, 8, none⟩) hm u8).setCell (p := ⟨m, 9, none⟩) hm u9).setCell (p := ⟨m, 10, none⟩) hm u10).setCell (p := ⟨m, 11, none⟩) hm u11).setCell (p := ⟨m, 12, none⟩) hm u12)
/-- a slice of the call's own that was made behind block m stays where it is -/
theorem own13 {T : TypeId} {w : World} {B m : Nat} {v : Value} {L : List Ent} (h : OwnE T w B v L) (hm : m < B) (u0 u1 u2 u3 u4 u5 u6 u7 u8 u9 u10 u11 u12 : Value) :
    OwnE T (((((((((((((w.setCell ⟨m, 0, none⟩ u0).setCell ⟨m, 1, none⟩ u1).setCell ⟨m, 2, none⟩ u2).setCell ⟨m, 3, none⟩ u3).setCell ⟨m, 4, none⟩ u4).setCell ⟨m, 5, none⟩ u5).setCell ⟨m, 6, none⟩ u6).setCell ⟨m, 7, none⟩ u7).setCell ⟨m, 8, none⟩ u8).setCell ⟨m, 9, none⟩ u9).setCell ⟨m, 10, none⟩ u10).setCell ⟨m, 11, none⟩ u11).setCell ⟨m, 12, none⟩ u12) B v L :=
  h.grown (grown_set ((grown_set ((grown_set ((grown_set ((grown_set ((grown_set ((grown_set ((grown_set ((grown_set ((grown_set ((grown_set ((grown_set ((grown_set (grown_refl w (some m)) (o := 0) u0)) (o := 1) u1)) (o := 2) u2)) (o := 3) u3)) (o := 4) u4)) (o := 5) u5)) (o := 6) u6)) (o := 7) u7)) (o := 8) u8)) (o := 9) u9)) (o := 10) u10)) (o := 11) u11)) (o := 12) u12) (fun g hv e => by have := (h.ge hv).1; have := Option.some.inj e; omega)
end Go.Proofs.YtgoaepjjegblnaaGreatDoor
namespace Go.Proofs.YtgoaepjjegblnaaGreatDoor
open Go.RowKit Go.Sort
set_option maxRecDepth 20000
/-- the protocol's number is right -/
def pidOk (k pid : Int) : Bool := if pidD k then decide (0 ≤ pid) && decide (pid ≤ 255) else decide (pid = 0)
/-- what is wrong with information of n bytes -/
def infE (k : Int) (n : Nat) : Nat := if n = 0 then 0 else if infoC k then (if 256 < n then 5 else 0) else 2
/-- what is wrong with a frame -/
def wrongF (L : List Ent) (k nr ns : Int) (wide : Bool) (pid : Int) (n : Nat) : Nat :=
  if rightP L then (if rightC k nr ns wide && pidOk k pid then infE k n else 1) else 11
theorem wrong_path {L : List Ent} {k nr ns : Int} {wide : Bool} {pid : Int} {n : Nat} (h : rightP L = false) : wrongF L k nr ns wide pid n = 11 := by unfold wrongF; rw [h]; rfl
theorem wrong_arg {L : List Ent} {k nr ns : Int} {wide : Bool} {pid : Int} {n : Nat} (h : rightP L = true) (h2 : (rightC k nr ns wide && pidOk k pid) = false) : wrongF L k nr ns wide pid n = 1 := by unfold wrongF; rw [h, h2]; rfl
theorem wrong_info {L : List Ent} {k nr ns : Int} {wide : Bool} {pid : Int} {n : Nat} (h : rightP L = true) (h2 : (rightC k nr ns wide && pidOk k pid) = true) : wrongF L k nr ns wide pid n = infE k n := by unfold wrongF; rw [h, h2]; rfl
/-- of a right frame -/
theorem right_frame {L : List Ent} {k nr ns : Int} {wide : Bool} {pid : Int} {n : Nat} (h : wrongF L k nr ns wide pid n = 0) : rightP L = true ∧ rightC k nr ns wide = true ∧ pidOk k pid = true ∧ infE k n = 0 := by
  unfold wrongF at h
  cases h1 : rightP L
  · rw [h1] at h; simp at h
  · cases h2 : rightC k nr ns wide
    · rw [h1, h2] at h; simp at h
    · cases h3 : pidOk k pid
      · rw [h1, h2, h3] at h; simp at h
      · rw [h1, h2, h3] at h
        exact ⟨rfl, rfl, rfl, by simpa using h⟩
theorem inf_facts {k : Int} {n : Nat} (h : infE k n = 0) : n ≤ 256 ∧ (n ≠ 0 → infoC k = true) := by
  unfold infE at h
  by_cases h0 : n = 0
  · exact ⟨by omega, fun q => absurd h0 q⟩
  · rw [if_neg h0] at h
    cases h1 : infoC k
    · rw [h1] at h; simp at h
    · rw [h1] at h
      refine ⟨?_, fun _ => rfl⟩
      by_cases h2 : 256 < n
      · rw [if_pos rfl, if_pos h2] at h; omega
      · omega
theorem pid_facts {k pid : Int} (h : pidOk k pid = true) : ∃ P : Nat, pid = P ∧ P < 256 ∧ (pidD k = false → P = 0) := by
  unfold pidOk at h
  cases h1 : pidD k
  · rw [h1] at h
    have e : pid = 0 := by simpa using h
    exact ⟨0, e, by omega, fun _ => rfl⟩
  · rw [h1] at h
    have e : 0 ≤ pid ∧ pid ≤ 255 := by simpa using h
    exact ⟨pid.toNat, by omega, by omega, fun q => by cases q⟩
end Go.Proofs.YtgoaepjjegblnaaGreatDoor
