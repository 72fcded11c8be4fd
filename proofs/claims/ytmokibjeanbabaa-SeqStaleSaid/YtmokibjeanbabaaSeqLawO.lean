/-
What is asked of a landed sender's window, however it lies; a sender and a taker together.
-/
import Derived.Test.YtmokibjeanbabaaSeqLaw
namespace Go.Proofs.Ytmokibjeanbabaa
open Go.RowKit
/-- how a sender's window lies -/
abbrev OutR := World → Nat → Int → Int → So → (Nat → Prop) → Prop
structure OutC (R : OutR) : Prop where
  mem : ∀ {w p m k s F}, R w p m k s F → ∀ b, F b → b < w.heap.size
  stay : ∀ {w w' p m k s F}, R w p m k s F → SameOn F w w' → R w' p m k s F
  new : ∀ (m k : Int) (w : World), (m = 8 ∨ m = 128) → (1 ≤ k ∧ k < m) → Calls Try.prog 13 #[.int .i64 m, .int .i64 k] w fun e w' =>
    ∃ p F, e = .returned (.tuple #[.pointer (some ⟨p, 0, none⟩), .int .i64 0]) ∧ R w' p m k ⟨0, 0⟩ F ∧ (∀ b, F b → w.heap.size ≤ b) ∧ Below w.heap.size w w'
  next : ∀ (p : Nat) (m k : Int) (s : So) (F : Nat → Prop) (w : World), R w p m k s F → SoOk m k s → s.opened < 100000 → Calls Try.prog 15 #[.pointer (some ⟨p, 0, none⟩)] w fun e w' =>
    ∃ F', e = .returned (.tuple #[.int .i64 (nextS m k s).2.1, .int .i64 (nextS m k s).2.2]) ∧ R w' p m k (nextS m k s).1 F' ∧ Turn F w w' ∧ Grew F F' w
  acks : ∀ (p : Nat) (m k : Int) (s : So) (F : Nat → Prop) (nr : Int) (w : World), R w p m k s F → SoOk m k s → Calls Try.prog 18 #[.pointer (some ⟨p, 0, none⟩), .int .i64 nr] w fun e w' =>
    ∃ F', e = .returned (.tuple #[.int .i64 (acksS m s nr).2.1, .int .i64 (acksS m s nr).2.2]) ∧ R w' p m k (acksS m s nr).1 F' ∧ Turn F w w' ∧ Grew F F' w
  opn : ∀ (p : Nat) (m k : Int) (s : So) (F : Nat → Prop) (w : World), R w p m k s F → SoOk m k s → Calls Try.prog 21 #[.pointer (some ⟨p, 0, none⟩)] w fun e w' =>
    ∃ v, e = .returned v ∧ OwnL encI 3 w' w.heap.size v (openS m s) ∧ Below w.heap.size w w'
/-- a sender at p, a taker at q -/
structure TwoAt (RO : OutR) (RI : InR) (w0 w : World) (p q : Nat) (m k : Int) (s : So) (t : Ti) : Prop where
  th : Thru m k s t
  at_ : ∃ FO FI, RO w p m k s FO ∧ RI w q m k t FI ∧ (∀ b, FO b → w0.heap.size ≤ b) ∧ (∀ b, FI b → w0.heap.size ≤ b) ∧ ∀ b, FO b → ¬ FI b
  base : Below w0.heap.size w0 w
theorem SameOn.of_turn {F G : Nat → Prop} {w w' : World} (h : Turn F w w') (hG : ∀ b, G b → b < w.heap.size) (hd : ∀ b, G b → ¬ F b) : SameOn G w w' := ⟨h.size, fun b hb => h.block b (hG b hb) (hd b hb)⟩
section
variable {RO : OutR} {RI : InR} {w0 w : World} {p q : Nat} {m k : Int} {s : So} {t : Ti}
theorem TwoAt.below (hO : OutC RO) (hI : InC RI) {w' : World} (h : TwoAt RO RI w0 w p q m k s t) (hb : Below w.heap.size w w') : TwoAt RO RI w0 w' p q m k s t := by
  obtain ⟨FO, FI, h1, h2, h3, h4, h5⟩ := h.at_
  exact ⟨h.th, ⟨FO, FI, hO.stay h1 (SameOn.of_below hb (hO.mem h1)), hI.stay h2 (SameOn.of_below hb (hI.mem h2)), h3, h4, h5⟩, h.base.trans (hb.mono h.base.size)⟩
/-- the sender's turn -/
theorem TwoAt.sent (hI : InC RI) {w' : World} {s' : So} {FO FI FO' : Nat → Prop} (hth : Thru m k s' t) (h2 : RI w q m k t FI) (h3 : ∀ b, FO b → w0.heap.size ≤ b) (h4 : ∀ b, FI b → w0.heap.size ≤ b) (h5 : ∀ b, FO b → ¬ FI b) (hbase : Below w0.heap.size w0 w)
    (hR : RO w' p m k s' FO') (ht : Turn FO w w') (hg : Grew FO FO' w) : TwoAt RO RI w0 w' p q m k s' t :=
  ⟨hth, ⟨FO', FI, hR, hI.stay h2 (SameOn.of_turn ht (hI.mem h2) fun b hb hf => h5 b hf hb), hg.ge h3 hbase.size, h4, fun b hb hf => (hg b hb).elim (fun h => h5 b h hf) (fun h => by have := hI.mem h2 b hf; omega)⟩, hbase.trans (ht.below hbase.size h3)⟩
/-- the taker's turn -/
theorem TwoAt.took (hO : OutC RO) {w' : World} {t' : Ti} {FO FI FI' : Nat → Prop} (hth : Thru m k s t') (h1 : RO w p m k s FO) (h3 : ∀ b, FO b → w0.heap.size ≤ b) (h4 : ∀ b, FI b → w0.heap.size ≤ b) (h5 : ∀ b, FO b → ¬ FI b) (hbase : Below w0.heap.size w0 w)
    (hR : RI w' q m k t' FI') (ht : Turn FI w w') (hg : Grew FI FI' w) : TwoAt RO RI w0 w' p q m k s t' :=
  ⟨hth, ⟨FO, FI', hO.stay h1 (SameOn.of_turn ht (hO.mem h1) h5), hR, h3, hg.ge h4 hbase.size, fun b hb hf => (hg b hf).elim (fun h => h5 b hb h) (fun h => by have := hO.mem h1 b hb; omega)⟩, hbase.trans (ht.below hbase.size h4)⟩
theorem TwoAt.new (hO : OutC RO) {F FI : Nat → Prop} {w1 w' : World} (hm : m = 8 ∨ m = 128) (hk : 1 ≤ k ∧ 2 * k ≤ m) (h1 : RO w1 p m k ⟨0, 0⟩ F) (h3 : ∀ b, F b → w0.heap.size ≤ b) (hbase : Below w0.heap.size w0 w1) (h2 : RI w' q m k ⟨0, List.replicate 128 false⟩ FI) (h4 : ∀ b, FI b → w1.heap.size ≤ b) (hb : Below w1.heap.size w1 w') : TwoAt RO RI w0 w' p q m k ⟨0, 0⟩ ⟨0, List.replicate 128 false⟩ :=
  ⟨Thru.start hm hk, ⟨F, FI, hO.stay h1 (SameOn.of_below hb (hO.mem h1)), h2, h3, fun b hf => Nat.le_trans hbase.size (h4 b hf), fun b hf hg => by have := hO.mem h1 b hf; have := h4 b hg; omega⟩, hbase.trans (hb.mono hbase.size)⟩
theorem next_two (hO : OutC RO) (hI : InC RI) (h : TwoAt RO RI w0 w p q m k s t) (hb : s.opened < 100000) : Calls Try.prog 15 #[.pointer (some ⟨p, 0, none⟩)] w fun e w' =>
    e = .returned (.tuple #[.int .i64 (nextS m k s).2.1, .int .i64 (nextS m k s).2.2]) ∧ TwoAt RO RI w0 w' p q m k (nextS m k s).1 t := by
  obtain ⟨FO, FI, h1, h2, h3, h4, h5⟩ := h.at_
  exact (hO.next p m k s FO w h1 h.th.so hb).mono fun e w' ⟨F', he, hR, ht, hg⟩ => ⟨he, TwoAt.sent hI (h.th.next hb) h2 h3 h4 h5 h.base hR ht hg⟩
theorem acks_two (hO : OutC RO) (hI : InC RI) (h : TwoAt RO RI w0 w p q m k s t) : Calls Try.prog 18 #[.pointer (some ⟨p, 0, none⟩), .int .i64 (t.vr % m)] w fun e w' =>
    e = .returned (.tuple #[.int .i64 (t.vr - s.acked), .int .i64 0]) ∧ TwoAt RO RI w0 w' p q m k ⟨s.opened, t.vr⟩ t := by
  obtain ⟨FO, FI, h1, h2, h3, h4, h5⟩ := h.at_
  have hc := hO.acks p m k s FO (t.vr % m) w h1 h.th.so
  rw [h.th.acks.1] at hc
  exact hc.mono fun e w' ⟨F', he, hR, ht, hg⟩ => ⟨he, TwoAt.sent hI h.th.acks.2 h2 h3 h4 h5 h.base hR ht hg⟩
theorem open_two (hO : OutC RO) (hI : InC RI) (h : TwoAt RO RI w0 w p q m k s t) : Calls Try.prog 21 #[.pointer (some ⟨p, 0, none⟩)] w fun e w' =>
    ∃ v, e = .returned v ∧ OwnL encI 3 w' w.heap.size v (openS m s) ∧ TwoAt RO RI w0 w' p q m k s t ∧ Below w.heap.size w w' := by
  obtain ⟨FO, FI, h1, h2, h3, h4, h5⟩ := h.at_
  exact (hO.opn p m k s FO w h1 h.th.so).mono fun e w' ⟨v, he, ho, hb⟩ => ⟨v, he, ho, h.below hO hI hb, hb⟩
theorem vr_two (hI : InC RI) (h : TwoAt RO RI w0 w p q m k s t) : Calls Try.prog 28 #[.pointer (some ⟨q, 0, none⟩)] w fun e w' => e = .returned (.int .i64 (t.vr % m)) ∧ Below w.heap.size w w' := by
  obtain ⟨FO, FI, h1, h2, h3, h4, h5⟩ := h.at_
  exact hI.vr q m k t FI w h2 h.th.ti
theorem take_two (hO : OutC RO) (hI : InC RI) (h : TwoAt RO RI w0 w p q m k s t) (j : Nat) (hj : (j : Int) < s.opened - s.acked) (hb : s.opened ≤ 99800) : Calls Try.prog 26 #[.pointer (some ⟨q, 0, none⟩), .int .i64 ((s.acked + j) % m)] w fun e w' =>
    ∃ (v : Value) (x : Int) (r : Nat) (t' : Ti), e = .returned (.tuple #[v, .int .i64 x]) ∧ OwnL encI 3 w' w.heap.size v (outT m t.vr r) ∧ t'.vr = t.vr + r ∧ r ≤ 128 ∧ TwoAt RO RI w0 w' p q m k s t' := by
  obtain ⟨FO, FI, h1, h2, h3, h4, h5⟩ := h.at_
  obtain ⟨r, hr, hout, hth⟩ := h.th.take j hj hb
  have hr128 : r ≤ 128 := by
    have := takeT_most h.th.ti ((s.acked + j) % m)
    rw [hout, outT_len] at this
    exact this
  have hv := h.th.hi
  have hc := hI.take q m k t FI ((s.acked + j) % m) w h2 h.th.ti (by omega)
  exact hc.mono fun e w' ⟨v, F', he, ho, hR, ht, hg⟩ => ⟨v, _, r, _, he, hout ▸ ho, hr, hr128, TwoAt.took hO hth h1 h3 h4 h5 h.base hR ht hg⟩
end
end Go.Proofs.Ytmokibjeanbabaa
