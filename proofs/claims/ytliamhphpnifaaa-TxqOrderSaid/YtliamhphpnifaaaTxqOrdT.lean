/-
TxqOrder, over what is taken: its state.
-/
import Derived.Test.YtliamhphpnifaaaTxqNoneW
import Derived.Test.YtliamhphpnifaaaTxqOrdM
import Derived.Test.YtliamhphpnifaaaBytes
namespace Go.Proofs.Ytliamhphpnifaaa
open Go.RowKit
set_option maxRecDepth 20000
/-- a name of class c -/
def Nm16 (c : Nat) (f : ByteArray) : Prop := f.size = 3 ∧ f.data[0]? = some (UInt8.ofNat c)
/-- j of those taken are looked at -/
structure JAt (Q : QuP) (w : World) (q m4 m5 : Nat) (v : Nat → Value) (P : Nat → List ByteArray) (ta : Option Addr) (S : List Ent) (T j : Nat) (A : Nat → Nat) (W : World) : Prop where
  inv : OInv Nm16 (S.drop j) P A
  ord : OrdAt W w.heap.size m4 m5 v P A
  qu : QuO Q w q (S.drop T) (fun b => OrdK m4 m5 v b ∨ ∃ p, ta = some p ∧ p.block = b) W
  tx : AtL encS W ta (frs (S.take T))
  off : ∀ p, ta = some p → p.block ≠ m5
section
variable {Q : QuP} (hC : QuC Q) {w W W' : World} {q m4 m5 : Nat} {v : Nat → Value} {P : Nat → List ByteArray} {ta : Option Addr} {S : List Ent} {T j : Nat} {A : Nat → Nat}
include hC
theorem JAt.below (h : JAt Q w q m4 m5 v P ta S T j A W) (hb : Below W.heap.size W W') : JAt Q w q m4 m5 v P ta S T j A W' :=
  ⟨h.inv, h.ord.below hb, h.qu.below hC hb, h.tx.below hb, h.off⟩
/-- one more is looked at -/
theorem JAt.up (h : JAt Q w q m4 m5 v P ta S T j A W) (hm : w.heap.size ≤ m5) (c : Nat) (hc : c < 3) (hi : OInv Nm16 (S.drop (j + 1)) P (oneUp A c)) : JAt Q w q m4 m5 v P ta S T (j + 1) (oneUp A c) (W.setCell ⟨m5, c, none⟩ (.int .i64 (A c + 1 : Nat))) :=
  ⟨hi, h.ord.up c hc, h.qu.set hC m5 c _ (Or.inl (Or.inr (Or.inl rfl))) hm, h.tx.set _ fun p e => h.off p e, h.off⟩
/-- Take, and where what it answers lies -/
theorem QuO.take2 {w0 : World} {K : Nat → Prop} (h : QuO Q w0 q S K W) (most bytes : Int) : Calls Try.prog 12 #[ptrQ q, .int .i64 most, .int .i64 bytes] W fun e w' => ∃ a c, e = .returned (.slice a (frs (S.take (takeN most bytes 0 0 S))).length c) ∧ AtL encS w' a (frs (S.take (takeN most bytes 0 0 S))) ∧
    QuO Q w0 q (S.drop (takeN most bytes 0 0 S)) (fun b => K b ∨ ∃ p, a = some p ∧ p.block = b) w' ∧ SameOn K W w' ∧ ∀ p, a = some p → W.heap.size ≤ p.block := by
  obtain ⟨F, h1, h2, h3, h4⟩ := h
  refine (hC.take W q S F most bytes h1).mono ?_
  rintro e w' ⟨F', v, rfl, q1, ⟨a, c, rfl, hA, hfr⟩, q2, q3⟩
  obtain ⟨⟨F1, z1, z2, z3, z4⟩, z5⟩ := QuO.turned (Q := Q) h2 h3 h4 q1 q2 q3
  refine ⟨a, c, rfl, hA, ⟨F', q1, q3.ge h2 h3.size, z3, fun b hk => ?_⟩, z5, fun p hp => (hfr p hp).1⟩
  rcases hk with hk | ⟨p, hp, rfl⟩
  · exact ⟨Nat.lt_of_lt_of_le (h4 b hk).1 q2.size, fun hf => (q3 b hf).elim (h4 b hk).2 (fun hge => by have := (h4 b hk).1; omega)⟩
  · exact (hfr p hp).2
end
/-- a text's first byte, as its class -/
theorem name_byte (c : Nat) (hc : c < 3) (f : ByteArray) (h : f.data[0]? = some (UInt8.ofNat c)) (W : World) : (Instr.index 9 (.string f) (.int .i64 0)).run Try.prog W = .ok (.int .u8 (c : Int)) W := by
  have h1 : f.data.toList[0]? = some (UInt8.ofNat c) := by rw [Array.getElem?_toList]; exact h
  have := index_text f 0 _ h1 W
  have e : int8 (UInt8.ofNat c) = (c : Int) := by
    unfold int8
    rcases lt_three hc with rfl | rfl | rfl <;> rfl
  rw [e] at this
  exact this
theorem AtL.txt {w : World} {g o : Nat} {L : List ByteArray} (h : AtL encS w (some ⟨g, o, none⟩) L) (k : Nat) (hk : k < L.length) : w.cell? ⟨g, o + k, none⟩ = some (.string L[k]) := by
  have := h.get k hk 0 (u := .string L[k]) rfl
  simpa [encS] using this
theorem row5c {W : World} {B m4 m5 : Nat} {v : Nat → Value} {P : Nat → List ByteArray} {A : Nat → Nat} (h : OrdAt W B m4 m5 v P A) (c : Nat) (hc : c < 3) : KeepAt W m5 c (.int .i64 (A c : Nat)) ∧ KeepAt W m4 c (v c) := by
  rcases lt_three hc with rfl | rfl | rfl
  · exact ⟨h.row5.get 0 rfl, h.row4.get 0 rfl⟩
  · exact ⟨h.row5.get 1 rfl, h.row4.get 1 rfl⟩
  · exact ⟨h.row5.get 2 rfl, h.row4.get 2 rfl⟩
end Go.Proofs.Ytliamhphpnifaaa
