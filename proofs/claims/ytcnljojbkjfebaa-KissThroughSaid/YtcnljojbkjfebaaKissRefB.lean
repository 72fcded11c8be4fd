/-
Walk of the document's own Deframer.Byte.
-/
import Derived.Test.YtcnljojbkjfebaaOwnBytes
import Derived.BigQuiet
import Derived.Deep.QuietTactic
namespace Go.Proofs.Ytcnljojbkjfebaa
open Go.RowKit
/-- the deframer's four cells -/
def DefAt (w : World) (b : Nat) (most place bad : Int) (v : Value) : Prop :=
  (w.cell? ⟨b, 0, none⟩ = some (.int .i64 most) ∧ w.cell? ⟨b, 1, none⟩ = some (.int .i64 place) ∧ w.cell? ⟨b, 2, none⟩ = some (.int .i64 bad) ∧ w.cell? ⟨b, 3, none⟩ = some v) ∧
  (w.frozen? ⟨b, 1, none⟩ = false ∧ w.frozen? ⟨b, 2, none⟩ = false ∧ w.frozen? ⟨b, 3, none⟩ = false)
/-- what is held: nothing, or bytes in a block behind the deframer's -/
def HeldV (av : Nat) (w : World) (b : Nat) (v : Value) (l : List UInt8) : Prop :=
  (l = [] ∧ v = .slice none 0 0) ∨ (0 < l.length ∧ ∃ g cap, v = .slice (some ⟨g, 0, none⟩) l.length cap ∧ (b < g ∧ g ≠ av) ∧ g < w.heap.size ∧ l.length ≤ cap ∧ ∀ i (h : i < l.length), w.cell? ⟨g, i, none⟩ = some (.int .u8 ((l[i].toNat : Nat) : Int)))
/-- no frame -/
def noFrame : Value := .tuple #[.agg #[.int .i64 0, .int .i64 0, .string ⟨#[]⟩], .bool false]
theorem grown_refl (w : World) (r : Option Nat) : w.grownBy w r := ⟨rfl, rfl, rfl, Nat.le_refl _, fun _ _ _ => rfl⟩
theorem grown_trans {a b c : World} {r : Option Nat} (h : a.grownBy b r) (k : b.grownBy c r) : a.grownBy c r :=
  ⟨k.os.trans h.os, k.tape.trans h.tape, k.output.trans h.output, Nat.le_trans h.size k.size, fun i hi hr => (k.block i (Nat.lt_of_lt_of_le hi h.size) hr).trans (h.block i hi hr)⟩
theorem grown_alloc {a b : World} {r : Option Nat} (h : a.grownBy b r) (o : Obj) : a.grownBy (b.alloc o) r := grown_trans h (World.grownBy_alloc b o r)
theorem grown_drew {a b : World} {r : Option Nat} (h : a.grownBy b r) : a.grownBy b.drew r := ⟨h.os, h.tape, h.output, h.size, h.block⟩
theorem grown_set {a b : World} {g o : Nat} (h : a.grownBy b (some g)) (v : Value) : a.grownBy (b.setCell ⟨g, o, none⟩ v) (some g) :=
  grown_trans h ⟨rfl, rfl, rfl, by simp [World.setCell], fun k _ hk => Below.heap_setCell _ _ _ _ (fun e => hk (by rw [e]))⟩
theorem grown_own {a b c : World} {g : Nat} {r : Option Nat} (h : a.grownBy b (some g)) (k : b.grownBy c r) (hr : ∀ i, r = some i → a.heap.size ≤ i) : a.grownBy c (some g) :=
  ⟨k.os.trans h.os, k.tape.trans h.tape, k.output.trans h.output, Nat.le_trans h.size k.size, fun i hi hg => (k.block i (Nat.lt_of_lt_of_le hi h.size) (fun e => by have := hr i e.symm; omega)).trans (h.block i hi hg)⟩
theorem DefAt.alloc {w : World} {b : Nat} {most place bad : Int} {v : Value} (h : DefAt w b most place bad v) (o : Obj) : DefAt (w.alloc o) b most place bad v := by
  obtain ⟨⟨d0, d1, d2, d3⟩, z1, z2, z3⟩ := h
  have hb : b < w.heap.size := World.block_lt_of_cell? w ⟨b, 0, none⟩ d0
  unfold DefAt
  simp only [World.cell?_alloc_past _ _ _ hb, World.frozen?_alloc_past _ _ _ hb]
  exact ⟨⟨d0, d1, d2, d3⟩, z1, z2, z3⟩
theorem DefAt.drew {w : World} {b : Nat} {most place bad : Int} {v : Value} (h : DefAt w b most place bad v) : DefAt w.drew b most place bad v := h
theorem set_here {w : World} {b o : Nat} {u v : Value} (h : w.cell? ⟨b, o, none⟩ = some u) : (w.setCell ⟨b, o, none⟩ v).cell? ⟨b, o, none⟩ = some v := World.cell?_setCell_same w _ v h
theorem set_off (w : World) (b o p : Nat) (v : Value) (h : o ≠ p) : (w.setCell ⟨b, o, none⟩ v).cell? ⟨b, p, none⟩ = w.cell? ⟨b, p, none⟩ :=
  World.cell?_setCell_other (w := w) (a := ⟨b, o, none⟩) (b := ⟨b, p, none⟩) (v := v) (h := fun he => h (Addr.mk.inj he).2.1)
theorem set_block (w : World) (b g o p : Nat) (v : Value) (h : b ≠ g) : (w.setCell ⟨b, o, none⟩ v).cell? ⟨g, p, none⟩ = w.cell? ⟨g, p, none⟩ :=
  World.cell?_setCell_other (w := w) (a := ⟨b, o, none⟩) (b := ⟨g, p, none⟩) (v := v) (h := fun he => h (Addr.mk.inj he).1)
theorem DefAt.place {w : World} {b : Nat} {most place bad : Int} {v : Value} (h : DefAt w b most place bad v) (n : Int) : DefAt (w.setCell ⟨b, 1, none⟩ (.int .i64 n)) b most n bad v := by
  obtain ⟨⟨d0, d1, d2, d3⟩, z1, z2, z3⟩ := h
  exact ⟨⟨by rw [set_off _ _ _ _ _ (by omega)]; exact d0, set_here d1, by rw [set_off _ _ _ _ _ (by omega)]; exact d2, by rw [set_off _ _ _ _ _ (by omega)]; exact d3⟩, by simpa using z1, by simpa using z2, by simpa using z3⟩
theorem DefAt.bad {w : World} {b : Nat} {most place bad : Int} {v : Value} (h : DefAt w b most place bad v) (n : Int) : DefAt (w.setCell ⟨b, 2, none⟩ (.int .i64 n)) b most place n v := by
  obtain ⟨⟨d0, d1, d2, d3⟩, z1, z2, z3⟩ := h
  exact ⟨⟨by rw [set_off _ _ _ _ _ (by omega)]; exact d0, by rw [set_off _ _ _ _ _ (by omega)]; exact d1, set_here d2, by rw [set_off _ _ _ _ _ (by omega)]; exact d3⟩, by simpa using z1, by simpa using z2, by simpa using z3⟩
theorem DefAt.held {w : World} {b : Nat} {most place bad : Int} {v : Value} (h : DefAt w b most place bad v) (u : Value) : DefAt (w.setCell ⟨b, 3, none⟩ u) b most place bad u := by
  obtain ⟨⟨d0, d1, d2, d3⟩, z1, z2, z3⟩ := h
  exact ⟨⟨by rw [set_off _ _ _ _ _ (by omega)]; exact d0, by rw [set_off _ _ _ _ _ (by omega)]; exact d1, by rw [set_off _ _ _ _ _ (by omega)]; exact d2, set_here d3⟩, by simpa using z1, by simpa using z2, by simpa using z3⟩
theorem DefAt.drewN {w : World} {b : Nat} {most place bad : Int} {v : Value} (h : DefAt w b most place bad v) (n : Nat) : DefAt (w.drewN n) b most place bad v := h
theorem DefAt.other {w : World} {b n o : Nat} {most place bad : Int} {v : Value} (h : DefAt w b most place bad v) (hn : n ≠ b) (u : Value) : DefAt (w.setCell ⟨n, o, none⟩ u) b most place bad v := by
  obtain ⟨⟨d0, d1, d2, d3⟩, z1, z2, z3⟩ := h
  exact ⟨⟨by rw [set_block _ _ _ _ _ _ hn]; exact d0, by rw [set_block _ _ _ _ _ _ hn]; exact d1, by rw [set_block _ _ _ _ _ _ hn]; exact d2, by rw [set_block _ _ _ _ _ _ hn]; exact d3⟩, by simpa using z1, by simpa using z2, by simpa using z3⟩
theorem grown_drewN {a b : World} {r : Option Nat} (h : a.grownBy b r) (n : Nat) : a.grownBy (b.drewN n) r := ⟨h.os, h.tape, h.output, h.size, h.block⟩
theorem grown_new {a b : World} {r : Option Nat} {n o : Nat} (h : a.grownBy b r) (hn : a.heap.size ≤ n) (v : Value) : a.grownBy (b.setCell ⟨n, o, none⟩ v) r :=
  ⟨h.os, h.tape, h.output, by simpa [World.setCell] using h.size, fun k hk hr => (Below.heap_setCell _ _ _ _ (by show k ≠ n; omega)).trans (h.block k hk hr)⟩
theorem HeldV.nil {av : Nat} (w : World) (b : Nat) : HeldV av w b (.slice none 0 0) [] := Or.inl ⟨rfl, rfl⟩
theorem HeldV.alloc {av : Nat} {w : World} {b : Nat} {v : Value} {l : List UInt8} (h : HeldV av w b v l) (o : Obj) : HeldV av (w.alloc o) b v l := by
  rcases h with h | ⟨hl, g, cap, hv, hbg, hgw, hcap, hcell⟩
  · exact Or.inl h
  · exact Or.inr ⟨hl, g, cap, hv, hbg, by simp; omega, hcap, fun i hi => by rw [World.cell?_alloc_past _ _ _ hgw]; exact hcell i hi⟩
theorem HeldV.set {av : Nat} {w : World} {b o : Nat} {v : Value} {l : List UInt8} (h : HeldV av w b v l) (u : Value) : HeldV av (w.setCell ⟨b, o, none⟩ u) b v l := by
  rcases h with h | ⟨hl, g, cap, hv, hbg, hgw, hcap, hcell⟩
  · exact Or.inl h
  · exact Or.inr ⟨hl, g, cap, hv, hbg, by simpa [World.setCell] using hgw, hcap, fun i hi => by rw [set_block _ _ _ _ _ _ (by omega)]; exact hcell i hi⟩
theorem HeldV.other {av : Nat} {w : World} {b n o : Nat} {v : Value} {l : List UInt8} (h : HeldV av w b v l) (hn : ∀ g, v.ownBlock = some g → n ≠ g) (u : Value) : HeldV av (w.setCell ⟨n, o, none⟩ u) b v l := by
  rcases h with h | ⟨hl, g, cap, hv, hbg, hgw, hcap, hcell⟩
  · exact Or.inl h
  · exact Or.inr ⟨hl, g, cap, hv, hbg, by simpa [World.setCell] using hgw, hcap, fun i hi => by rw [set_block _ _ _ _ _ _ (hn g (by rw [hv]; rfl))]; exact hcell i hi⟩
theorem HeldV.drewN {av : Nat} {w : World} {b : Nat} {v : Value} {l : List UInt8} (h : HeldV av w b v l) (n : Nat) : HeldV av (w.drewN n) b v l := h
theorem HeldV.len {av : Nat} {w : World} {b : Nat} {v : Value} {l : List UInt8} (h : HeldV av w b v l) : ∃ a cap, v = .slice a l.length cap := by
  rcases h with ⟨rfl, hv⟩ | ⟨_, g, cap, hv, _⟩
  · exact ⟨none, 0, hv⟩
  · exact ⟨_, cap, hv⟩
theorem heldV_own {av : Nat} {w : World} {b B : Nat} {v : Value} {l : List UInt8} (h : OwnB w B v l) (hb : b < B) (hav : av < B) (hl : 0 < l.length) : HeldV av w b v l := by
  obtain ⟨g, cap, rfl⟩ := h.slice hl
  have hlt := World.ownsRow.lt h g rfl
  exact Or.inr ⟨hl, g, cap, rfl, ⟨by omega, by omega⟩, hlt.2, h.cap, fun i hi => h.cell i hi⟩
/-- the cells of the two frames that a call lays, behind a draw -/
theorem mid_cells (X : World) (n nq : Nat) (hn : n = X.heap.size) (cs : Array Value) (t : TypeId) :
    (∀ i, (((X.alloc (.cells cs t)).alloc (.cells cs t)).drewN nq).cell? ⟨n, i, none⟩ = cs[i]?) ∧ (∀ i, (((X.alloc (.cells cs t)).alloc (.cells cs t)).drewN nq).cell? ⟨n + 1, i, none⟩ = cs[i]?) ∧
    (∀ i, (((X.alloc (.cells cs t)).alloc (.cells cs t)).drewN nq).frozen? ⟨n, i, none⟩ = false) := by
  subst hn
  refine ⟨fun i => ?_, fun i => ?_, fun i => ?_⟩
  · rw [World.cell?_drewN, World.cell?_alloc_past _ _ _ (by simp), World.cell?_alloc_at _ _ _ _ rfl]
  · rw [World.cell?_drewN, World.cell?_alloc_at _ _ _ _ (by simp)]
  · rw [World.frozen?_drewN, World.frozen?_alloc_past _ _ _ (by simp), World.frozen?_alloc_at _ _ _ _ rfl]
theorem DefAt.below {w w' : World} {b B : Nat} {most place bad : Int} {v : Value} (h : DefAt w b most place bad v) (hb : b < B) (hB : Below B w w') : DefAt w' b most place bad v := by
  obtain ⟨⟨d0, d1, d2, d3⟩, z1, z2, z3⟩ := h
  refine ⟨⟨?_, ?_, ?_, ?_⟩, ?_, ?_, ?_⟩
  · rw [hB.cell (p := ⟨b, 0, none⟩) hb]; exact d0
  · rw [hB.cell (p := ⟨b, 1, none⟩) hb]; exact d1
  · rw [hB.cell (p := ⟨b, 2, none⟩) hb]; exact d2
  · rw [hB.cell (p := ⟨b, 3, none⟩) hb]; exact d3
  · rw [hB.frozen (p := ⟨b, 1, none⟩) hb]; exact z1
  · rw [hB.frozen (p := ⟨b, 2, none⟩) hb]; exact z2
  · rw [hB.frozen (p := ⟨b, 3, none⟩) hb]; exact z3
theorem grown_below {a b c : World} {r : Option Nat} (h : a.grownBy b r) (k : Below b.heap.size b c) : a.grownBy c r :=
  ⟨k.os.trans h.os, k.tape.trans h.tape, k.output.trans h.output, Nat.le_trans h.size k.size, fun i hi hr => (k.block i (Nat.lt_of_lt_of_le hi h.size)).trans (h.block i hi hr)⟩
theorem HeldV.row {av : Nat} {w : World} {b : Nat} {a : Option Addr} {cap : Nat} {l : List UInt8} (h : HeldV av w b (.slice a l.length cap) l) (hl : 0 < l.length) : ∃ g, a = some ⟨g, 0, none⟩ ∧ g < w.heap.size ∧ ∀ i (h : i < l.length), w.cell? ⟨g, i, none⟩ = some (.int .u8 ((l[i].toNat : Nat) : Int)) := by
  rcases h with ⟨rfl, _⟩ | ⟨_, g, cap', hv, _, hgw, hcap, hc⟩
  · simp at hl
  · simp only [Value.slice.injEq] at hv
    exact ⟨g, hv.1, hgw, hc⟩
theorem HeldV.cap {av : Nat} {w : World} {b : Nat} {a : Option Addr} {cap : Nat} {l : List UInt8} (h : HeldV av w b (.slice a l.length cap) l) : l.length ≤ cap := by
  rcases h with ⟨rfl, _⟩ | ⟨_, g, cap', hv, _, hgw, hcap, hc⟩
  · simp
  · simp only [Value.slice.injEq] at hv
    omega
/-- bytes that lie in a row, as an append reads them -/
theorem row_news {w : World} {g : Nat} {l : List UInt8} (hc : ∀ i (h : i < l.length), w.cell? ⟨g, i, none⟩ = some (.int .u8 ((l[i].toNat : Nat) : Int))) : ∀ j u, (bytesV l)[j]? = some u → w.cell? ((⟨g, 0, none⟩ : Addr).add j) = some u := by
  intro j u h
  have hj : j < l.length := by
    have := (List.getElem?_eq_some_iff.1 h).1
    rwa [bytesV_length] at this
  have e : (⟨g, 0, none⟩ : Addr).add j = ⟨g, j, none⟩ := by unfold Addr.add; split <;> simp_all
  rw [bytesV_get l j hj] at h
  rw [e, hc j hj, Option.some.inj h]
theorem stored3 {W : World} {n : Nat} {x0 x1 x2 : Value} (u0 u1 u2 : Value) (r0 : W.cell? ⟨n, 0, none⟩ = some x0) (r1 : W.cell? ⟨n, 1, none⟩ = some x1) (r2 : W.cell? ⟨n, 2, none⟩ = some x2) :
    (((W.setCell ⟨n, 0, none⟩ u0).setCell ⟨n, 1, none⟩ u1).setCell ⟨n, 2, none⟩ u2).cell? ⟨n, 0, none⟩ = some u0 ∧ (((W.setCell ⟨n, 0, none⟩ u0).setCell ⟨n, 1, none⟩ u1).setCell ⟨n, 2, none⟩ u2).cell? ⟨n, 1, none⟩ = some u1 ∧
    (((W.setCell ⟨n, 0, none⟩ u0).setCell ⟨n, 1, none⟩ u1).setCell ⟨n, 2, none⟩ u2).cell? ⟨n, 2, none⟩ = some u2 := by
  refine ⟨?_, ?_, ?_⟩
  · rw [set_off _ _ _ _ _ (by omega), set_off _ _ _ _ _ (by omega), set_here r0]
  · rw [set_off _ _ _ _ _ (by omega), set_here (by rw [set_off _ _ _ _ _ (by omega)]; exact r1)]
  · rw [set_here (by rw [set_off _ _ _ _ _ (by omega), set_off _ _ _ _ _ (by omega)]; exact r2)]
abbrev zf : Obj := .cells #[.int .i64 0, .int .i64 0, .string ⟨#[]⟩] 30
/-- what a byte made of the deframer, and what it told -/
def ByteTo (av : Nat) (w : World) (b : Nat) (most : Int) (place bad : Int) (held : List UInt8) (R : Value) (e : Ending) (w' : World) : Prop :=
  e = .returned R ∧ (∃ v, DefAt w' b most place bad v ∧ HeldV av w' b v held) ∧ w.grownBy w' (some b)
theorem byteTo {av : Nat} {w : World} {b : Nat} {most place bad : Int} {held : List UInt8} {R : Value} {e : Ending} {w' : World} (he : e = .returned R) (hd : ∃ v, DefAt w' b most place bad v ∧ HeldV av w' b v held) (hg : w.grownBy w' (some b)) : ByteTo av w b most place bad held R e w' := ⟨he, hd, hg⟩
/-- a deframer that holds these bytes -/
def DefIs (av : Nat) (w : World) (b : Nat) (most place bad : Int) (held : List UInt8) : Prop := ∃ v, DefAt w b most place bad v ∧ HeldV av w b v held
set_option maxHeartbeats 400000 in
theorem byte_0_drop {av : Nat} (b : Nat) (most bad : Int) (held : List UInt8) (c : Nat) (w : World) (hc : c ≠ 192) (hd : DefIs av w b most 0 bad held) :
    Calls Try.prog 25 #[.pointer (some ⟨b, 0, none⟩), .int .u8 c] w fun e w' => ByteTo av w b most 0 bad held noFrame e w' := by
  obtain ⟨v, hD, hH⟩ := hd
  have HD := Lib.hid hD
  have HH := Lib.hid hH
  obtain ⟨a, cap, rfl⟩ := hH.len
  obtain ⟨⟨d0, d1, d2, d3⟩, z1, z2, z3⟩ := hD
  have hb : b < w.heap.size := World.block_lt_of_cell? w ⟨b, 0, none⟩ d0
  clear hH
  have t1 : ((c : Int) == 192) = false := by rw [beq_eq_false_iff_ne]; omega
  go_enter Try.func25, Try.ntmps25
  go_wp2
  exact bodyPost_ret (v := noFrame) (by simp [results, Try.results25, go_sem, noFrame]) rfl (byteTo rfl ⟨_, (HD.out.alloc _).alloc _, (HH.out.alloc _).alloc _⟩ (grown_alloc (grown_alloc (grown_refl w _) _) _))
set_option maxHeartbeats 400000 in
theorem byte_0_end {av : Nat} (b : Nat) (most bad : Int) (held : List UInt8) (w : World) (hd : DefIs av w b most 0 bad held) :
    Calls Try.prog 25 #[.pointer (some ⟨b, 0, none⟩), .int .u8 192] w fun e w' => ByteTo av w b most 1 bad [] noFrame e w' := by
  obtain ⟨v, hD, hH⟩ := hd
  have HD := Lib.hid hD
  have HH := Lib.hid hH
  obtain ⟨a, cap, rfl⟩ := hH.len
  obtain ⟨⟨d0, d1, d2, d3⟩, z1, z2, z3⟩ := hD
  have hb : b < w.heap.size := World.block_lt_of_cell? w ⟨b, 0, none⟩ d0
  clear hH
  go_enter Try.func25, Try.ntmps25
  go_wp2
  exact bodyPost_ret (v := noFrame) (by simp [results, Try.results25, go_sem, noFrame]) rfl (byteTo rfl ⟨_, (((HD.out.place 1).held _).alloc _).alloc _, HeldV.nil _ _⟩ (grown_alloc (grown_alloc (grown_set (grown_set (grown_refl w _) _) _) _) _))
set_option maxHeartbeats 400000 in
theorem byte_1_none {av : Nat} (b : Nat) (most bad : Int) (w : World) (hd : DefIs av w b most 1 bad []) :
    Calls Try.prog 25 #[.pointer (some ⟨b, 0, none⟩), .int .u8 192] w fun e w' => ByteTo av w b most 1 bad [] noFrame e w' := by
  obtain ⟨v, hD, hH⟩ := hd
  have HD := Lib.hid hD
  have HH := Lib.hid hH
  obtain ⟨a, cap, rfl⟩ := hH.len
  obtain ⟨⟨d0, d1, d2, d3⟩, z1, z2, z3⟩ := hD
  have hb : b < w.heap.size := World.block_lt_of_cell? w ⟨b, 0, none⟩ d0
  clear hH
  go_enter Try.func25, Try.ntmps25
  go_wp2
  exact bodyPost_ret (v := noFrame) (by simp [results, Try.results25, go_sem, noFrame]) rfl (byteTo rfl ⟨_, (((HD.out.held _)).alloc _).alloc _, HeldV.nil _ _⟩ (grown_alloc (grown_alloc (grown_set (grown_refl w _) _) _) _))
set_option maxHeartbeats 400000 in
theorem byte_1_esc {av : Nat} (b : Nat) (most bad : Int) (held : List UInt8) (w : World) (hd : DefIs av w b most 1 bad held) :
    Calls Try.prog 25 #[.pointer (some ⟨b, 0, none⟩), .int .u8 219] w fun e w' => ByteTo av w b most 2 bad held noFrame e w' := by
  obtain ⟨v, hD, hH⟩ := hd
  have HD := Lib.hid hD
  have HH := Lib.hid hH
  obtain ⟨a, cap, rfl⟩ := hH.len
  obtain ⟨⟨d0, d1, d2, d3⟩, z1, z2, z3⟩ := hD
  have hb : b < w.heap.size := World.block_lt_of_cell? w ⟨b, 0, none⟩ d0
  clear hH
  go_enter Try.func25, Try.ntmps25
  go_wp2
  exact bodyPost_ret (v := noFrame) (by simp [results, Try.results25, go_sem, noFrame]) rfl (byteTo rfl ⟨_, ((HD.out.place 2).alloc _).alloc _, ((HH.out.set _).alloc _).alloc _⟩ (grown_alloc (grown_alloc (grown_set (grown_refl w _) _) _) _))
set_option maxHeartbeats 400000 in
theorem byte_2_bad {av : Nat} (b : Nat) (most bad : Int) (held : List UInt8) (c : Nat) (w : World) (h0 : c ≠ 220) (h1 : c ≠ 221) (h2 : c ≠ 192) (hb0 : 0 ≤ bad) (hb1 : bad < 4611686018427387904) (hd : DefIs av w b most 2 bad held) :
    Calls Try.prog 25 #[.pointer (some ⟨b, 0, none⟩), .int .u8 c] w fun e w' => ByteTo av w b most 0 (bad + 1) [] noFrame e w' := by
  obtain ⟨v, hD, hH⟩ := hd
  have HD := Lib.hid hD
  have HH := Lib.hid hH
  obtain ⟨a, cap, rfl⟩ := hH.len
  obtain ⟨⟨d0, d1, d2, d3⟩, z1, z2, z3⟩ := hD
  have hb : b < w.heap.size := World.block_lt_of_cell? w ⟨b, 0, none⟩ d0
  clear hH
  have t1 : ((c : Int) == 220) = false := by rw [beq_eq_false_iff_ne]; omega
  have t2 : ((c : Int) == 221) = false := by rw [beq_eq_false_iff_ne]; omega
  have t3 : ((c : Int) != 220) = true := by rw [bne_iff_ne]; omega
  have t4 : ((c : Int) != 221) = true := by rw [bne_iff_ne]; omega
  have t5 : ((c : Int) == 192) = false := by rw [beq_eq_false_iff_ne]; omega
  clear h0 h1 h2
  go_enter Try.func25, Try.ntmps25
  go_wp2
  go_quiet (fail)
  have D2 := (((HD.out.place 1).alloc zf).alloc zf).drewN nq
  have G2 := grown_drewN (grown_alloc (grown_alloc (grown_set (grown_refl w _) (.int .i64 1) (g := b) (o := 1)) zf) zf) nq
  have H2 := (((HH.out.set (o := 1) (.int .i64 1)).alloc zf).alloc zf).drewN nq
  have hM := mid_cells (w.setCell ⟨b, 1, none⟩ (.int .i64 1)) w.heap.size nq (by simp [World.setCell]) #[.int .i64 0, .int .i64 0, .string ⟨#[]⟩] 30
  clear d0 d1 d2 d3 z1 z2 z3
  generalize ((((w.setCell ⟨b, 1, none⟩ (.int .i64 1)).alloc zf).alloc zf).drewN nq) = W at *
  have HG := Lib.hid G2
  have HD2 := Lib.hid D2
  have HH2 := Lib.hid H2
  obtain ⟨⟨d0, d1, d2, d3⟩, z1, z2, z3⟩ := D2
  obtain ⟨m1, m2, m3⟩ := hM
  have r0 := m1 0
  have r1 := m1 1
  have r2 := m1 2
  have f0 := m2 0
  have f1 := m2 1
  have f2 := m2 2
  have y0 := m3 0
  have y1 := m3 1
  have y2 := m3 2
  clear m1 m2 m3 G2 H2
  simp only [List.getElem?_toArray, List.getElem?_cons_zero, List.getElem?_cons_succ] at r0 r1 r2 f0 f1 f2
  go_wp2
  obtain ⟨q0, q1, q2⟩ := stored3 (W := ((W.setCell ⟨b, 2, none⟩ (.int .i64 (bad + 1))).setCell ⟨b, 1, none⟩ (.int .i64 0)).setCell ⟨b, 3, none⟩ (.slice none 0 0)) (n := w.heap.size) (.int .i64 0) (.int .i64 0) (.string ⟨#[]⟩) (by rw [set_block _ _ _ _ _ _ (by omega), set_block _ _ _ _ _ _ (by omega), set_block _ _ _ _ _ _ (by omega)]; exact r0) (by rw [set_block _ _ _ _ _ _ (by omega), set_block _ _ _ _ _ _ (by omega), set_block _ _ _ _ _ _ (by omega)]; exact r1) (by rw [set_block _ _ _ _ _ _ (by omega), set_block _ _ _ _ _ _ (by omega), set_block _ _ _ _ _ _ (by omega)]; exact r2)
  exact bodyPost_ret (v := noFrame) (by simp [results, Try.results25, go_sem, noFrame, q0, q1, q2]) rfl (byteTo rfl ⟨_, ((((((HD2.out.bad _).place 0).held _).other (by omega) _).other (by omega) _).other (by omega) _), HeldV.nil _ _⟩ (grown_new (grown_new (grown_new (grown_set (grown_set (grown_set HG.out _) _) _) (Nat.le_refl _) _) (Nat.le_refl _) _) (Nat.le_refl _) _))
set_option maxHeartbeats 400000 in
theorem byte_2_end {av : Nat} (b : Nat) (most bad : Int) (held : List UInt8) (c : Nat) (w : World) (hc : c = 192) (hb0 : 0 ≤ bad) (hb1 : bad < 4611686018427387904) (hd : DefIs av w b most 2 bad held) :
    Calls Try.prog 25 #[.pointer (some ⟨b, 0, none⟩), .int .u8 c] w fun e w' => ByteTo av w b most 1 (bad + 1) [] noFrame e w' := by
  obtain ⟨v, hD, hH⟩ := hd
  have HD := Lib.hid hD
  have HH := Lib.hid hH
  obtain ⟨a, cap, rfl⟩ := hH.len
  obtain ⟨⟨d0, d1, d2, d3⟩, z1, z2, z3⟩ := hD
  have hb : b < w.heap.size := World.block_lt_of_cell? w ⟨b, 0, none⟩ d0
  clear hH
  have t1 : ((c : Int) == 220) = false := by rw [hc]; rfl
  have t2 : ((c : Int) == 221) = false := by rw [hc]; rfl
  have t3 : ((c : Int) != 220) = true := by rw [hc]; rfl
  have t4 : ((c : Int) != 221) = true := by rw [hc]; rfl
  have t5 : ((c : Int) == 192) = true := by rw [hc]; rfl
  clear hc
  go_enter Try.func25, Try.ntmps25
  go_wp2
  go_quiet (fail)
  have D2 := (((HD.out.place 1).alloc zf).alloc zf).drewN nq
  have G2 := grown_drewN (grown_alloc (grown_alloc (grown_set (grown_refl w _) (.int .i64 1) (g := b) (o := 1)) zf) zf) nq
  have H2 := (((HH.out.set (o := 1) (.int .i64 1)).alloc zf).alloc zf).drewN nq
  have hM := mid_cells (w.setCell ⟨b, 1, none⟩ (.int .i64 1)) w.heap.size nq (by simp [World.setCell]) #[.int .i64 0, .int .i64 0, .string ⟨#[]⟩] 30
  clear d0 d1 d2 d3 z1 z2 z3
  generalize ((((w.setCell ⟨b, 1, none⟩ (.int .i64 1)).alloc zf).alloc zf).drewN nq) = W at *
  have HG := Lib.hid G2
  have HD2 := Lib.hid D2
  have HH2 := Lib.hid H2
  obtain ⟨⟨d0, d1, d2, d3⟩, z1, z2, z3⟩ := D2
  obtain ⟨m1, m2, m3⟩ := hM
  have r0 := m1 0
  have r1 := m1 1
  have r2 := m1 2
  have f0 := m2 0
  have f1 := m2 1
  have f2 := m2 2
  have y0 := m3 0
  have y1 := m3 1
  have y2 := m3 2
  clear m1 m2 m3 G2 H2
  simp only [List.getElem?_toArray, List.getElem?_cons_zero, List.getElem?_cons_succ] at r0 r1 r2 f0 f1 f2
  go_wp2
  obtain ⟨q0, q1, q2⟩ := stored3 (W := (((W.setCell ⟨b, 2, none⟩ (.int .i64 (bad + 1))).setCell ⟨b, 1, none⟩ (.int .i64 0)).setCell ⟨b, 3, none⟩ (.slice none 0 0)).setCell ⟨b, 1, none⟩ (.int .i64 1)) (n := w.heap.size) (.int .i64 0) (.int .i64 0) (.string ⟨#[]⟩) (by rw [set_block _ _ _ _ _ _ (by omega), set_block _ _ _ _ _ _ (by omega), set_block _ _ _ _ _ _ (by omega), set_block _ _ _ _ _ _ (by omega)]; exact r0) (by rw [set_block _ _ _ _ _ _ (by omega), set_block _ _ _ _ _ _ (by omega), set_block _ _ _ _ _ _ (by omega), set_block _ _ _ _ _ _ (by omega)]; exact r1) (by rw [set_block _ _ _ _ _ _ (by omega), set_block _ _ _ _ _ _ (by omega), set_block _ _ _ _ _ _ (by omega), set_block _ _ _ _ _ _ (by omega)]; exact r2)
  exact bodyPost_ret (v := noFrame) (by simp [results, Try.results25, go_sem, noFrame, q0, q1, q2]) rfl (byteTo rfl ⟨_, (((((((HD2.out.bad _).place 0).held _).place 1).other (by omega) _).other (by omega) _).other (by omega) _), HeldV.nil _ _⟩ (grown_new (grown_new (grown_new (grown_set (grown_set (grown_set (grown_set HG.out _) _) _) _) (Nat.le_refl _) _) (Nat.le_refl _) _) (Nat.le_refl _) _))
set_option maxHeartbeats 400000 in
theorem byte_1_full {av : Nat} (b : Nat) (most bad : Int) (held : List UInt8) (c : Nat) (w : World) (h0 : c ≠ 192) (h1 : c ≠ 219) (hl : (held.length : Int) = most) (hb0 : 0 ≤ bad) (hb1 : bad < 4611686018427387904) (hd : DefIs av w b most 1 bad held) :
    Calls Try.prog 25 #[.pointer (some ⟨b, 0, none⟩), .int .u8 c] w fun e w' => ByteTo av w b most 0 (bad + 1) [] noFrame e w' := by
  obtain ⟨v, hD, hH⟩ := hd
  have HD := Lib.hid hD
  have HH := Lib.hid hH
  obtain ⟨a, cap, rfl⟩ := hH.len
  obtain ⟨⟨d0, d1, d2, d3⟩, z1, z2, z3⟩ := hD
  have hb : b < w.heap.size := World.block_lt_of_cell? w ⟨b, 0, none⟩ d0
  clear hH
  have t1 : ((c : Int) == 192) = false := by rw [beq_eq_false_iff_ne]; omega
  have t2 : ((c : Int) == 219) = false := by rw [beq_eq_false_iff_ne]; omega
  clear h0 h1
  have t9 : ((held.length : Int) == most) = true := by rw [hl]; exact beq_self_eq_true _
  clear hl
  go_enter Try.func25, Try.ntmps25
  go_wp2
  go_quiet (fail)
  have D2 := ((HD.out.alloc zf).alloc zf).drewN nq
  have G2 := grown_drewN (grown_alloc (grown_alloc (grown_refl w (some b)) zf) zf) nq
  have H2 := ((HH.out.alloc zf).alloc zf).drewN nq
  have hM := mid_cells (w) w.heap.size nq rfl #[.int .i64 0, .int .i64 0, .string ⟨#[]⟩] 30
  clear d0 d1 d2 d3 z1 z2 z3
  generalize ((((w).alloc zf).alloc zf).drewN nq) = W at *
  have HG := Lib.hid G2
  have HD2 := Lib.hid D2
  have HH2 := Lib.hid H2
  obtain ⟨⟨d0, d1, d2, d3⟩, z1, z2, z3⟩ := D2
  obtain ⟨m1, m2, m3⟩ := hM
  have r0 := m1 0
  have r1 := m1 1
  have r2 := m1 2
  have f0 := m2 0
  have f1 := m2 1
  have f2 := m2 2
  have y0 := m3 0
  have y1 := m3 1
  have y2 := m3 2
  clear m1 m2 m3 G2 H2
  simp only [List.getElem?_toArray, List.getElem?_cons_zero, List.getElem?_cons_succ] at r0 r1 r2 f0 f1 f2
  go_wp2
  obtain ⟨q0, q1, q2⟩ := stored3 (W := ((W.setCell ⟨b, 2, none⟩ (.int .i64 (bad + 1))).setCell ⟨b, 1, none⟩ (.int .i64 0)).setCell ⟨b, 3, none⟩ (.slice none 0 0)) (n := w.heap.size) (.int .i64 0) (.int .i64 0) (.string ⟨#[]⟩) (by rw [set_block _ _ _ _ _ _ (by omega), set_block _ _ _ _ _ _ (by omega), set_block _ _ _ _ _ _ (by omega)]; exact r0) (by rw [set_block _ _ _ _ _ _ (by omega), set_block _ _ _ _ _ _ (by omega), set_block _ _ _ _ _ _ (by omega)]; exact r1) (by rw [set_block _ _ _ _ _ _ (by omega), set_block _ _ _ _ _ _ (by omega), set_block _ _ _ _ _ _ (by omega)]; exact r2)
  exact bodyPost_ret (v := noFrame) (by simp [results, Try.results25, go_sem, noFrame, q0, q1, q2]) rfl (byteTo rfl ⟨_, ((((((HD2.out.bad _).place 0).held _).other (by omega) _).other (by omega) _).other (by omega) _), HeldV.nil _ _⟩ (grown_new (grown_new (grown_new (grown_set (grown_set (grown_set HG.out _) _) _) (Nat.le_refl _) _) (Nat.le_refl _) _) (Nat.le_refl _) _))
set_option maxHeartbeats 400000 in
theorem byte_2_full220 {av : Nat} (b : Nat) (most bad : Int) (held : List UInt8) (c : Nat) (w : World) (hc : c = 220) (hl : (held.length : Int) = most) (hb0 : 0 ≤ bad) (hb1 : bad < 4611686018427387904) (hd : DefIs av w b most 2 bad held) :
    Calls Try.prog 25 #[.pointer (some ⟨b, 0, none⟩), .int .u8 c] w fun e w' => ByteTo av w b most 0 (bad + 1) [] noFrame e w' := by
  obtain ⟨v, hD, hH⟩ := hd
  have HD := Lib.hid hD
  have HH := Lib.hid hH
  obtain ⟨a, cap, rfl⟩ := hH.len
  obtain ⟨⟨d0, d1, d2, d3⟩, z1, z2, z3⟩ := hD
  have hb : b < w.heap.size := World.block_lt_of_cell? w ⟨b, 0, none⟩ d0
  clear hH
  have t1 : ((c : Int) == 220) = true := by rw [hc]; rfl
  have t2 : ((c : Int) == 221) = false := by rw [hc]; rfl
  have t3 : ((c : Int) != 220) = false := by rw [hc]; rfl
  have t4 : ((c : Int) != 221) = true := by rw [hc]; rfl
  have t5 : ((c : Int) == 192) = false := by rw [hc]; rfl
  clear hc
  have t9 : ((held.length : Int) == most) = true := by rw [hl]; exact beq_self_eq_true _
  clear hl
  go_enter Try.func25, Try.ntmps25
  go_wp2
  go_quiet (fail)
  have D2 := (((HD.out.place 1).alloc zf).alloc zf).drewN nq
  have G2 := grown_drewN (grown_alloc (grown_alloc (grown_set (grown_refl w _) (.int .i64 1) (g := b) (o := 1)) zf) zf) nq
  have H2 := (((HH.out.set (o := 1) (.int .i64 1)).alloc zf).alloc zf).drewN nq
  have hM := mid_cells (w.setCell ⟨b, 1, none⟩ (.int .i64 1)) w.heap.size nq (by simp [World.setCell]) #[.int .i64 0, .int .i64 0, .string ⟨#[]⟩] 30
  clear d0 d1 d2 d3 z1 z2 z3
  generalize ((((w.setCell ⟨b, 1, none⟩ (.int .i64 1)).alloc zf).alloc zf).drewN nq) = W at *
  have HG := Lib.hid G2
  have HD2 := Lib.hid D2
  have HH2 := Lib.hid H2
  obtain ⟨⟨d0, d1, d2, d3⟩, z1, z2, z3⟩ := D2
  obtain ⟨m1, m2, m3⟩ := hM
  have r0 := m1 0
  have r1 := m1 1
  have r2 := m1 2
  have f0 := m2 0
  have f1 := m2 1
  have f2 := m2 2
  have y0 := m3 0
  have y1 := m3 1
  have y2 := m3 2
  clear m1 m2 m3 G2 H2
  simp only [List.getElem?_toArray, List.getElem?_cons_zero, List.getElem?_cons_succ] at r0 r1 r2 f0 f1 f2
  go_wp2
  obtain ⟨q0, q1, q2⟩ := stored3 (W := ((W.setCell ⟨b, 2, none⟩ (.int .i64 (bad + 1))).setCell ⟨b, 1, none⟩ (.int .i64 0)).setCell ⟨b, 3, none⟩ (.slice none 0 0)) (n := w.heap.size) (.int .i64 0) (.int .i64 0) (.string ⟨#[]⟩) (by rw [set_block _ _ _ _ _ _ (by omega), set_block _ _ _ _ _ _ (by omega), set_block _ _ _ _ _ _ (by omega)]; exact r0) (by rw [set_block _ _ _ _ _ _ (by omega), set_block _ _ _ _ _ _ (by omega), set_block _ _ _ _ _ _ (by omega)]; exact r1) (by rw [set_block _ _ _ _ _ _ (by omega), set_block _ _ _ _ _ _ (by omega), set_block _ _ _ _ _ _ (by omega)]; exact r2)
  exact bodyPost_ret (v := noFrame) (by simp [results, Try.results25, go_sem, noFrame, q0, q1, q2]) rfl (byteTo rfl ⟨_, ((((((HD2.out.bad _).place 0).held _).other (by omega) _).other (by omega) _).other (by omega) _), HeldV.nil _ _⟩ (grown_new (grown_new (grown_new (grown_set (grown_set (grown_set HG.out _) _) _) (Nat.le_refl _) _) (Nat.le_refl _) _) (Nat.le_refl _) _))
set_option maxHeartbeats 400000 in
theorem byte_2_full221 {av : Nat} (b : Nat) (most bad : Int) (held : List UInt8) (c : Nat) (w : World) (hc : c = 221) (hl : (held.length : Int) = most) (hb0 : 0 ≤ bad) (hb1 : bad < 4611686018427387904) (hd : DefIs av w b most 2 bad held) :
    Calls Try.prog 25 #[.pointer (some ⟨b, 0, none⟩), .int .u8 c] w fun e w' => ByteTo av w b most 0 (bad + 1) [] noFrame e w' := by
  obtain ⟨v, hD, hH⟩ := hd
  have HD := Lib.hid hD
  have HH := Lib.hid hH
  obtain ⟨a, cap, rfl⟩ := hH.len
  obtain ⟨⟨d0, d1, d2, d3⟩, z1, z2, z3⟩ := hD
  have hb : b < w.heap.size := World.block_lt_of_cell? w ⟨b, 0, none⟩ d0
  clear hH
  have t1 : ((c : Int) == 220) = false := by rw [hc]; rfl
  have t2 : ((c : Int) == 221) = true := by rw [hc]; rfl
  have t3 : ((c : Int) != 220) = true := by rw [hc]; rfl
  have t4 : ((c : Int) != 221) = false := by rw [hc]; rfl
  have t5 : ((c : Int) == 192) = false := by rw [hc]; rfl
  clear hc
  have t9 : ((held.length : Int) == most) = true := by rw [hl]; exact beq_self_eq_true _
  clear hl
  go_enter Try.func25, Try.ntmps25
  go_wp2
  go_quiet (fail)
  have D2 := (((HD.out.place 1).alloc zf).alloc zf).drewN nq
  have G2 := grown_drewN (grown_alloc (grown_alloc (grown_set (grown_refl w _) (.int .i64 1) (g := b) (o := 1)) zf) zf) nq
  have H2 := (((HH.out.set (o := 1) (.int .i64 1)).alloc zf).alloc zf).drewN nq
  have hM := mid_cells (w.setCell ⟨b, 1, none⟩ (.int .i64 1)) w.heap.size nq (by simp [World.setCell]) #[.int .i64 0, .int .i64 0, .string ⟨#[]⟩] 30
  clear d0 d1 d2 d3 z1 z2 z3
  generalize ((((w.setCell ⟨b, 1, none⟩ (.int .i64 1)).alloc zf).alloc zf).drewN nq) = W at *
  have HG := Lib.hid G2
  have HD2 := Lib.hid D2
  have HH2 := Lib.hid H2
  obtain ⟨⟨d0, d1, d2, d3⟩, z1, z2, z3⟩ := D2
  obtain ⟨m1, m2, m3⟩ := hM
  have r0 := m1 0
  have r1 := m1 1
  have r2 := m1 2
  have f0 := m2 0
  have f1 := m2 1
  have f2 := m2 2
  have y0 := m3 0
  have y1 := m3 1
  have y2 := m3 2
  clear m1 m2 m3 G2 H2
  simp only [List.getElem?_toArray, List.getElem?_cons_zero, List.getElem?_cons_succ] at r0 r1 r2 f0 f1 f2
  go_wp2
  obtain ⟨q0, q1, q2⟩ := stored3 (W := ((W.setCell ⟨b, 2, none⟩ (.int .i64 (bad + 1))).setCell ⟨b, 1, none⟩ (.int .i64 0)).setCell ⟨b, 3, none⟩ (.slice none 0 0)) (n := w.heap.size) (.int .i64 0) (.int .i64 0) (.string ⟨#[]⟩) (by rw [set_block _ _ _ _ _ _ (by omega), set_block _ _ _ _ _ _ (by omega), set_block _ _ _ _ _ _ (by omega)]; exact r0) (by rw [set_block _ _ _ _ _ _ (by omega), set_block _ _ _ _ _ _ (by omega), set_block _ _ _ _ _ _ (by omega)]; exact r1) (by rw [set_block _ _ _ _ _ _ (by omega), set_block _ _ _ _ _ _ (by omega), set_block _ _ _ _ _ _ (by omega)]; exact r2)
  exact bodyPost_ret (v := noFrame) (by simp [results, Try.results25, go_sem, noFrame, q0, q1, q2]) rfl (byteTo rfl ⟨_, ((((((HD2.out.bad _).place 0).held _).other (by omega) _).other (by omega) _).other (by omega) _), HeldV.nil _ _⟩ (grown_new (grown_new (grown_new (grown_set (grown_set (grown_set HG.out _) _) _) (Nat.le_refl _) _) (Nat.le_refl _) _) (Nat.le_refl _) _))
end Go.Proofs.Ytcnljojbkjfebaa
