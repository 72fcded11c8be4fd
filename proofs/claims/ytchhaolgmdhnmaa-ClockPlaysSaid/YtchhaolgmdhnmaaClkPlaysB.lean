/-
ClockPlays: its loop's body, taken out of the program, and what holds at its head (written by tools/gen13/gen_plays.py).
-/
import Derived.Test.YtchhaolgmdhnmaaClkBoth
import Derived.Test.YtchhaolgmdhnmaaClkOpens
namespace Go.Proofs.Ytchhaolgmdhnmaa
open Go.RowKit
set_option maxRecDepth 20000
theorem St2.pre {A B C : Prop} {a b : Bool} (h : A) (ha : a = false) : St2 A B C a b := by subst ha; exact h
theorem see_form {W : World} {v : Value} {LT : List Tm} {nT : Nat} (h : SeeL encN W v (LT.map Tm.nm)) (e : LT.length = nT) : ∃ a c, v = .slice a nT c := by
  obtain ⟨a, c, hv, -⟩ := h
  rw [List.length_map, e] at hv
  exact ⟨a, c, hv⟩
theorem St2.fin2 {A B C : Prop} {a : Bool} (h : C) (ha : a = true) : St2 A B C a true := by subst ha; exact h
theorem at_above {B b : Nat} {W W' : World} {N : List Nm} (h : AtL encN W (some ⟨b, 0, none⟩) N) (hR : Above B W W') (hb : B ≤ b) : AtL encN W' (some ⟨b, 0, none⟩) N := by
  intro k hk
  obtain ⟨g, o, ha, hg, hc⟩ := h k hk
  simp only [Option.some.injEq, Addr.mk.injEq, and_true] at ha
  obtain ⟨rfl, rfl⟩ := ha
  exact ⟨b, 0, rfl, Nat.lt_of_lt_of_le hg hR.1, fun j u hj => (World.cell?_of_block (a := ⟨b, 0 + k * encN.n + j, none⟩) (hR.2 b hb hg)).trans (hc j u hj)⟩
theorem op_at {w : World} {g o : Nat} {L : List Op13} (h : AtL encO w (some ⟨g, o, none⟩) L) (i : Nat) (hi : i < L.length) :
    w.cell? ⟨g, o + i * 4, none⟩ = some (.int .i64 L[i].c) ∧ w.cell? ⟨g, o + i * 4 + 1, none⟩ = some (.int .i64 L[i].t) ∧ w.cell? ⟨g, o + i * 4 + 2, none⟩ = some (.int .i64 L[i].k) ∧ w.cell? ⟨g, o + i * 4 + 3, none⟩ = some (.int .i64 L[i].n) := by
  have h0 := h.get i hi 0 (u := .int .i64 L[i].c) rfl
  have h1 := h.get i hi 1 (u := .int .i64 L[i].t) rfl
  have h2 := h.get i hi 2 (u := .int .i64 L[i].k) rfl
  have h3 := h.get i hi 3 (u := .int .i64 L[i].n) rfl
  simp only [Nat.add_zero] at h0
  exact ⟨h0, h1, h2, h3⟩
/-- what the first loop goes round -/
def loopIn : Code → Option Code
  | .loop c => some c
  | .block _ c => loopIn c
  | .scope c => loopIn c
  | .seq a b => (loopIn a).or (loopIn b)
  | .cond _ a b => (loopIn a).or (loopIn b)
  | _ => none
noncomputable def playsBody : Code := ((Try.f3.body.bind loopIn).getD .skip)
set_option maxRecDepth 1000000 in
/-- the frame there -/
def playsFr (a : Option Addr) (n c p q : Nat) (uu : Nat → Value) : Act := ⟨#[.slice a n c, undef, uu 2, .pointer (some ⟨p, 0, none⟩), .pointer (some ⟨q, 0, none⟩), undef, uu 6, uu 7, uu 8, .bool true, .bool false, .slice a n c, .int .i64 (n : Int), .bool false, .pointer (some ⟨p, 0, none⟩), .agg #[.int .i64 0, .slice none 0 0], .pointer (some ⟨q, 0, none⟩), .slice a n c, .int .i64 (n : Int), uu 19, uu 20, uu 21, uu 22, uu 23, uu 24, uu 25, uu 26, uu 27, uu 28, uu 29, uu 30, uu 31, uu 32, uu 33, uu 34, uu 35, uu 36, uu 37, uu 38, uu 39, uu 40, uu 41, uu 42, uu 43, uu 44, uu 45, uu 46, uu 47, uu 48, uu 49, uu 50, uu 51, uu 52, uu 53, uu 54, uu 55, uu 56, uu 57, uu 58, uu 59, uu 60, uu 61, uu 62, uu 63, uu 64, uu 65, uu 66, uu 67, uu 68, uu 69, uu 70, uu 71, uu 72, uu 73, uu 74, uu 75, uu 76, uu 77, uu 78, uu 79, uu 80, uu 81, uu 82, uu 83, uu 84, uu 85, uu 86, uu 87, uu 88, uu 89, uu 90, uu 91, uu 92, uu 93, uu 94, uu 95, uu 96, uu 97, uu 98, uu 99, uu 100, uu 101, uu 102, uu 103, uu 104, uu 105, uu 106, uu 107, uu 108, uu 109, uu 110, uu 111, uu 112, uu 113, uu 114, uu 115, uu 116, uu 117, uu 118, uu 119, uu 120, uu 121, uu 122, uu 123, uu 124, uu 125, uu 126], []⟩
/-- what holds there -/
def PlaysI (a : Option Addr) (n c p q : Nat) (w : World) (a' : Act) (w' : World) : Prop :=
  a' = playsFr a n c p q (fun k => a'.tmps.getD k undef) ∧ ∃ (j : Nat) (LL : List Tm) (NN : Int), j ≤ n ∧ a'.tmps.getD 19 undef = .int .i64 (j : Int) ∧ 0 ≤ NN ∧ NN ≤ j ∧ ClkOk LL ∧ ∃ B, PlO w B p q LL NN (dueL NN LL) [] w'
def playsMu (n : Nat) (a' : Act) (_ : World) : Nat := n - (intOf (a'.tmps.getD 19 undef)).toNat
end Go.Proofs.Ytchhaolgmdhnmaa
