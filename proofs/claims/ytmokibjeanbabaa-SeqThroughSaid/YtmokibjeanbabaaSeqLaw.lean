/-
What is asked of a landed taker's window, however it lies; the document's example, over that.
-/
import Derived.Test.YtmokibjeanbabaaSeqThroughM
import Derived.Test.YtmokibjeanbabaaSeqRSame
namespace Go.Proofs.Ytmokibjeanbabaa
open Go.RowKit
set_option maxRecDepth 20000
/-- how a taker's window lies: at a block, of a modulus and a K, as a plain one, in some blocks -/
abbrev InR := World → Nat → Int → Int → Ti → (Nat → Prop) → Prop
structure InC (R : InR) : Prop where
  mem : ∀ {w p m k t F}, R w p m k t F → ∀ b, F b → b < w.heap.size
  stay : ∀ {w w' p m k t F}, R w p m k t F → SameOn F w w' → R w' p m k t F
  new : ∀ (m k : Int) (w : World), (m = 8 ∨ m = 128) → (1 ≤ k ∧ 2 * k ≤ m) → Calls Try.prog 25 #[.int .i64 m, .int .i64 k] w fun e w' =>
    ∃ p F, e = .returned (.tuple #[.pointer (some ⟨p, 0, none⟩), .int .i64 0]) ∧ R w' p m k ⟨0, List.replicate 128 false⟩ F ∧ (∀ b, F b → w.heap.size ≤ b) ∧ Below w.heap.size w w'
  take : ∀ (p : Nat) (m k : Int) (t : Ti) (F : Nat → Prop) (ns : Int) (w : World), R w p m k t F → TiOk m k t → t.vr ≤ 99800 → Calls Try.prog 26 #[.pointer (some ⟨p, 0, none⟩), .int .i64 ns] w fun e w' =>
    ∃ v F', e = .returned (.tuple #[v, .int .i64 (takeT m k t ns).2.2]) ∧ OwnL encI 3 w' w.heap.size v (takeT m k t ns).2.1 ∧ R w' p m k (takeT m k t ns).1 F' ∧ Turn F w w' ∧ Grew F F' w
  vr : ∀ (p : Nat) (m k : Int) (t : Ti) (F : Nat → Prop) (w : World), R w p m k t F → TiOk m k t → Calls Try.prog 28 #[.pointer (some ⟨p, 0, none⟩)] w fun e w' => e = .returned (.int .i64 (t.vr % m)) ∧ Below w.heap.size w w'
  held : ∀ (p : Nat) (m k : Int) (t : Ti) (F : Nat → Prop) (w : World), R w p m k t F → TiOk m k t → Calls Try.prog 29 #[.pointer (some ⟨p, 0, none⟩)] w fun e w' => e = .returned (.int .i64 (heldT t)) ∧ Below w.heap.size w w'
/-- the same, with what lies below a height untouched -/
structure InAt (R : InR) (w0 w : World) (p : Nat) (m k : Int) (t : Ti) : Prop where
  ok : TiOk m k t
  at_ : ∃ F, R w p m k t F ∧ ∀ b, F b → w0.heap.size ≤ b
  base : Below w0.heap.size w0 w
theorem InAt.below {R : InR} (hC : InC R) {w0 w w' : World} {p : Nat} {m k : Int} {t : Ti} (h : InAt R w0 w p m k t) (hb : Below w.heap.size w w') : InAt R w0 w' p m k t := by
  obtain ⟨F, hR, hF⟩ := h.at_
  exact ⟨h.ok, ⟨F, hC.stay hR (SameOn.of_below hb (hC.mem hR)), hF⟩, h.base.trans (hb.mono h.base.size)⟩
theorem InC.new_at {R : InR} (hC : InC R) (m k : Int) (w0 w : World) (h0 : Below w0.heap.size w0 w) (hm : m = 8 ∨ m = 128) (hk : 1 ≤ k ∧ 2 * k ≤ m) : Calls Try.prog 25 #[.int .i64 m, .int .i64 k] w fun e w' =>
    ∃ p, e = .returned (.tuple #[.pointer (some ⟨p, 0, none⟩), .int .i64 0]) ∧ InAt R w0 w' p m k ⟨0, List.replicate 128 false⟩ :=
  (hC.new m k w hm hk).mono fun _ _ ⟨p, F, he, hR, hF, hb⟩ => ⟨p, he, (Thru.start hm hk).ti, ⟨F, hR, fun b h => Nat.le_trans h0.size (hF b h)⟩, h0.trans (hb.mono h0.size)⟩
theorem InC.take_at {R : InR} (hC : InC R) (p : Nat) (m k : Int) (t : Ti) (ns : Int) (w0 w : World) (h : InAt R w0 w p m k t) (hv : t.vr ≤ 99800) : Calls Try.prog 26 #[.pointer (some ⟨p, 0, none⟩), .int .i64 ns] w fun e w' =>
    ∃ v, e = .returned (.tuple #[v, .int .i64 (takeT m k t ns).2.2]) ∧ OwnL encI 3 w' w.heap.size v (takeT m k t ns).2.1 ∧ InAt R w0 w' p m k (takeT m k t ns).1 ∧ ∃ F, (∀ b, F b → b < w.heap.size ∧ w0.heap.size ≤ b) ∧ Turn F w w' := by
  obtain ⟨F, hR, hF⟩ := h.at_
  refine (hC.take p m k t F ns w hR h.ok hv).mono fun e w' ⟨v, F', he, ho, hR', ht, hg⟩ => ⟨v, he, ho, ⟨h.ok.take ns hv, ⟨F', hR', hg.ge hF h.base.size⟩, ?_⟩, F, fun b hb => ⟨hC.mem hR b hb, hF b hb⟩, ht⟩
  exact h.base.trans (ht.below h.base.size hF)
set_option maxHeartbeats 1000000 in
theorem seqawake_of {R : InR} (hC : InC R) (w : World) : Calls Try.prog 8 #[] w fun e w' => e = .returned (.bool true) ∧ Below w.heap.size w w' := by
  have e1 : takeT 8 4 ⟨0, List.replicate 128 false⟩ 1 = (⟨0, (List.replicate 128 false).set 1 true⟩, [], 0) := by kernel_rfl
  have e2 : takeT 8 4 ⟨0, (List.replicate 128 false).set 1 true⟩ 0 = (⟨2, List.replicate 128 false⟩, [0, 1], 0) := by kernel_rfl
  have HN := Lib.hid (fun W h0 => hC.new_at 8 4 w W h0 (Or.inl rfl) (by decide))
  have HK1 := Lib.hid (fun p W h => hC.take_at p 8 4 ⟨0, List.replicate 128 false⟩ 1 w W h (by decide))
  have HK2 := Lib.hid (fun p W h => hC.take_at p 8 4 ⟨0, (List.replicate 128 false).set 1 true⟩ 0 w W h (by decide))
  rw [e1] at HK1
  rw [e2] at HK2
  have HV := Lib.hid (fun p F W h k => show Calls Try.prog 28 #[.pointer (some ⟨p, 0, none⟩)] W (fun e w' => e = .returned (.int .i64 2) ∧ Below W.heap.size W w') from hC.vr p 8 4 ⟨2, List.replicate 128 false⟩ F W h k)
  have HU := Lib.hid (fun W : World => show SeeL encI (W.alloc (.cells #[.int .i64 0, .int .i64 1] 3)) (.slice (some ⟨W.heap.size, 0, none⟩) 2 2) [0, 1] from (OwnL.lit encI 3 W W.heap.size [0, 1] [.int .i64 0, .int .i64 1] rfl (Nat.le_refl _) (by decide) 2 rfl).see)
  have HS := Lib.hid (fun v u W hv hu => isame_yes v u [0, 1] W hv hu (by decide))
  have HB0 := Lib.hid (Below.refl w.heap.size w)
  clear e1 e2
  generalize (List.replicate 128 false).set 1 true = c1 at *
  generalize List.replicate 128 false = c0 at *
  go_enter Try.func8, Try.ntmps8
  go_upto_region 2 with (go_at_call 25; (with_reducible refine (HN.out _ HB0.out).mono ?_); rintro e w1 ⟨p, rfl, hI⟩; have HI1 := Lib.hid hI; clear hI)
  go_upto_region 5 with (go_at_call 26; (with_reducible refine (HK1.out _ _ HI1.out).mono ?_); rintro e w2 ⟨v1, rfl, ho, hI, hT⟩; obtain ⟨a1, q1, rfl, -⟩ := ho.see; have HI2 := Lib.hid hI; clear hI ho hT)
  go_upto_region 6 with (go_at_call 26; (with_reducible refine (HK2.out _ _ HI2.out).mono ?_); rintro e w3 ⟨v2, rfl, ho, hI, hT⟩; have HL2 := Lib.hid ho; have HI3 := Lib.hid hI; clear hI ho hT)
  go_wp2_with (first | (go_at_call 20; (with_reducible refine (HS.out _ _ _ (HL2.out.alloc _).see (HU.out _)).mono ?_); rintro e w4 ⟨rfl, hb⟩; have HI4 := Lib.hid ((HI3.out.below hC ((Below.refl _ _).alloc (Nat.le_refl _) _)).below hC hb); clear hb) | (go_at_call 28; obtain ⟨F, hR, hF⟩ := HI4.out.at_; (with_reducible refine (HV.out _ _ _ hR HI4.out.ok).mono ?_); rintro e w5 ⟨rfl, hb⟩; have HB5 := Lib.hid (HI4.out.base.trans (hb.mono HI4.out.base.size)); clear hb hR hF))
  exact bodyPost_ret (v := .bool true) (by simp [results, Try.results8, go_sem]) rfl ⟨rfl, HB5.out⟩
end Go.Proofs.Ytmokibjeanbabaa
