/-
Any number of cells in a row, in a block of their own, as a list of what they hold.
The landed code's Put.
What a call wrote: some blocks, and new ones. For a thing that keeps its state in blocks of its own.
Beacons: the landed code's New, Set, Tick, Every, Left; the document's own Tick.
-/
import Derived.Test.YtadhiknmkiogjaaDoorMix00
import Derived.Test.YtadhiknmkiogjaaDoorMix25
import Derived.Test.YtadhiknmkiogjaaDoorMix13
import Derived.Test.YtadhiknmkiogjaaDoorMix04
import Derived.Deep.QuietTactic
import Derived.Lib.QuietBelow
import Derived.Deep.DeepCutAuto
namespace Go.Proofs.YtadhiknmkiogjaaDoor
set_option maxRecDepth 20000
open Go.RowKit
def RowAt (W : World) (m : Nat) (L : List Value) : Prop := ∀ i v, L[i]? = some v → KeepAt W m i v
theorem RowAt.new (w : World) (m : Nat) (hm : m = w.heap.size) (L : List Value) (T : TypeId) : RowAt (w.alloc (.cells L.toArray T)) m L := by
  subst hm
  intro i v h
  exact ⟨(World.cell?_alloc_at _ _ _ _ rfl).trans (by simpa using h), World.frozen?_alloc_at _ _ _ _ rfl, by simp⟩
theorem RowAt.get {W : World} {m : Nat} {L : List Value} (h : RowAt W m L) (i : Nat) {v : Value} (e : L[i]? = some v) : KeepAt W m i v := h i v e
theorem RowAt.cell {W : World} {m : Nat} {L : List Value} (h : RowAt W m L) (i : Nat) {v : Value} (e : L[i]? = some v) : W.cell? ⟨m, i, none⟩ = some v := (h i v e).cell
theorem RowAt.block {W W' : World} {m : Nat} {L : List Value} (h : RowAt W m L) (hb : W'.heap[m]? = W.heap[m]?) (hs : W.heap.size ≤ W'.heap.size) : RowAt W' m L := fun i v e => (h i v e).block hb hs
theorem RowAt.below {W W' : World} {m : Nat} {L : List Value} (h : RowAt W m L) (hb : Below W.heap.size W W') : RowAt W' m L := fun i v e => (h i v e).below hb
theorem RowAt.drew {W : World} {m : Nat} {L : List Value} (h : RowAt W m L) : RowAt W.drew m L := fun i v e => (h i v e).drew
theorem RowAt.alloc {W : World} {m : Nat} {L : List Value} (h : RowAt W m L) (x : Obj) : RowAt (W.alloc x) m L := fun i v e => (h i v e).alloc x
theorem RowAt.other {W : World} {m g p : Nat} {L : List Value} (h : RowAt W m L) (v : Value) (hg : g ≠ m) : RowAt (W.setCell ⟨g, p, none⟩ v) m L := fun i u e => (h i u e).other v hg
theorem RowAt.put {W : World} {m : Nat} {L : List Value} (h : RowAt W m L) (p : Nat) (v : Value) (L' : List Value) (e : L' = L.set p v) : RowAt (W.setCell ⟨m, p, none⟩ v) m L' := by
  subst e
  intro i u e
  rw [List.getElem?_set] at e
  by_cases hp : p = i
  · subst hp
    by_cases hl : p < L.length
    · rw [if_pos rfl, if_pos hl] at e
      obtain rfl := Option.some.inj e
      exact (h p L[p] (List.getElem?_eq_getElem hl)).put _
    · rw [if_pos rfl, if_neg hl] at e
      cases e
  · rw [if_neg hp] at e
    exact (h i u e).set v hp
end Go.Proofs.YtadhiknmkiogjaaDoor
namespace Go.Proofs.YtadhiknmkiogjaaDoor
open Go.RowKit Go.Sort
set_option maxRecDepth 20000
set_option maxHeartbeats 1000000 in
theorem uput_any (fb tb : ByteArray) (fn tn : Int) (a : Option Addr) (cap : Nat) (C : List (ByteArray × Int)) (pid : Int) (t : ByteArray) (w : World) (hCo : CodesOk w) (hC : C.length ≤ 900) (hE : CallsAt w a C)
    (hf : fb.size ≤ 140737488351232) (ht : tb.size ≤ 140737488351232) (hs : ∀ x ∈ C, x.1.size ≤ 140737488351232) :
    Calls Tryd.prog 8 #[.agg #[.string fb, .int .i64 fn, .string tb, .int .i64 tn, .slice a C.length cap, .int .i64 pid, .string t]] w fun e w' => e = .returned (.tuple #[.string (gramS fb tb fn tn C pid t), .int .i64 (gramE fb tb fn tn C pid t.size : Nat)]) ∧ Below w.heap.size w w' := by
  have hb0 := (Below.refl w.heap.size w).alloc (Nat.le_refl _) (.cells #[.string fb, .int .i64 fn, .string tb, .int .i64 tn, .slice a C.length cap, .int .i64 pid, .string t] 26)
  have HB0 := Lib.hid hb0
  have HR0 := Lib.hid (RowAt.new w w.heap.size rfl [.string fb, .int .i64 fn, .string tb, .int .i64 tn, .slice a C.length cap, .int .i64 pid, .string t] 26)
  have hvi := fun W (hb : Below w.heap.size w W) => via_any fb tb fn tn true a cap C W (by omega) (hE.below hb) hf ht hs
  have hlf : (freshD C).length = C.length := by simp [freshD]
  have hD : (freshD C).length ≤ 1000 := by omega
  cases hR : rightP (gramL fb tb fn tn C) with
  | false =>
    have hR2 : rightP ((tb, tn, true) :: (fb, fn, !true) :: freshD C) = false := hR
    have hG : gramE fb tb fn tn C pid t.size = 11 := wrong_path hR
    have hS : gramS fb tb fn tn C pid t = ⟨#[]⟩ := by unfold gramS; rw [hG, if_neg (by decide)]
    rw [hR2] at hvi
    have HVI := Lib.hid (fun W (hb : Below w.heap.size w W) => (hvi W hb).mono fun e w' h => show e = .returned (.tuple #[.agg #[.string ⟨#[]⟩, .int .i64 0, .string ⟨#[]⟩, .int .i64 0, .bool false, .bool false, .slice none 0 0], .int .i64 11]) ∧ Below W.heap.size W w' from ⟨by simpa using h.1, h.2⟩)
    rw [hG, hS]
    obtain ⟨r0, r1, r2, r3, r4⟩ := And.intro (HR0.out.cell 0 rfl) (And.intro (HR0.out.cell 1 rfl) (And.intro (HR0.out.cell 2 rfl) (And.intro (HR0.out.cell 3 rfl) (HR0.out.cell 4 rfl))))
    clear hvi hR hR2 hG hS hD hlf hb0 hE hf ht hs hCo
    go_enter Tryd.func8, Tryd.ntmps8
    go_wp2_with (go_at_call 20; (with_reducible refine (HVI.out _ HB0.out).mono ?_); rintro e w1 ⟨rfl, hb⟩; have hb1 := hb.alloc hb.size (.cells #[.string ⟨#[]⟩, .int .i64 0, .string ⟨#[]⟩, .int .i64 0, .bool false, .bool false, .slice none 0 0] 58); have HB1 := Lib.hid (HB0.out.trans (hb1.mono HB0.out.size)); clear hb hb1)
    exact bodyPost_ret (v := .tuple #[.string ⟨#[]⟩, .int .i64 11]) (by simp [results, Tryd.results8, go_sem]) rfl ⟨rfl, HB1.out⟩
  | true =>
    have hR2 : rightP ((tb, tn, true) :: (fb, fn, !true) :: freshD C) = true := hR
    rw [hR2] at hvi
    have HVI := Lib.hid (fun W (hb : Below w.heap.size w W) => (hvi W hb).mono fun e w' h => show (∃ da dc, e = .returned (.tuple #[.agg #[.string tb, .int .i64 tn, .string fb, .int .i64 fn, .bool true, .bool false, .slice da (freshD C).length dc], .int .i64 0]) ∧ EntsAt w' da dc (freshD C)) ∧ Below W.heap.size W w' from ⟨by simpa using h.1, h.2⟩)
    obtain ⟨S, hSS⟩ : ∃ S, S = gramS fb tb fn tn C pid t := ⟨_, rfl⟩
    obtain ⟨G, hGG⟩ : ∃ G, G = gramE fb tb fn tn C pid t.size := ⟨_, rfl⟩
    have HEN := Lib.hid (show ∀ da dc W, Below w.heap.size w W → EntsAt W da dc (freshD C) → Calls Tryd.prog 21 #[.agg #[.string tb, .int .i64 tn, .string fb, .int .i64 fn, .bool true, .bool false, .slice da (freshD C).length dc, .int .i64 12, .int .i64 0, .int .i64 0, .bool false, .int .i64 pid, .string t], .bool false] W fun e w' =>
        e = .returned (.tuple #[.string S, .int .i64 (G : Nat)]) ∧ Below W.heap.size W w' from fun da dc W hb hE => by
      by_cases h0 : gramE fb tb fn tn C pid t.size = 0
      · have k := enc_yes tb fb tn fn true false da dc (freshD C) 12 0 0 false pid t false W (hCo.below hb) hD hE h0
        rw [hSS, hGG, h0]
        unfold gramS
        rw [if_pos h0]
        exact k
      · have k := enc_no tb fb tn fn true false da dc (freshD C) 12 0 0 false pid t false W hD hE h0
        rw [hSS, hGG]
        unfold gramS
        rw [if_neg h0]
        exact k)
    rw [← hSS, ← hGG]
    obtain ⟨r0, r1, r2, r3, r4⟩ := And.intro (HR0.out.cell 0 rfl) (And.intro (HR0.out.cell 1 rfl) (And.intro (HR0.out.cell 2 rfl) (And.intro (HR0.out.cell 3 rfl) (HR0.out.cell 4 rfl))))
    clear hvi hR hR2 hD hlf hb0 hE hf ht hs hCo hSS hGG
    go_enter Tryd.func8, Tryd.ntmps8
    go_wp2_with (first
      | (go_at_call 20; (with_reducible refine (HVI.out _ HB0.out).mono ?_); rintro e w1 ⟨⟨da, dc, rfl, hE⟩, hb⟩; have hb1 := hb.alloc hb.size (.cells #[.string tb, .int .i64 tn, .string fb, .int .i64 fn, .bool true, .bool false, .slice da (freshD C).length dc] 58); have HB1 := Lib.hid (HB0.out.trans (hb1.mono HB0.out.size)); have HE1 := Lib.hid (hE.alloc (.cells #[.string tb, .int .i64 tn, .string fb, .int .i64 fn, .bool true, .bool false, .slice da (freshD C).length dc] 58)); have HP1 := Lib.hid (RowAt.new w1 w1.heap.size rfl [.string tb, .int .i64 tn, .string fb, .int .i64 fn, .bool true, .bool false, .slice da (freshD C).length dc] 58); have HR1 := Lib.hid (HR0.out.below hb1); clear hb hb1 hE r0 r1 r2 r3 r4; have p0 := HP1.out.cell 0 rfl; have p1 := HP1.out.cell 1 rfl; have p2 := HP1.out.cell 2 rfl; have p3 := HP1.out.cell 3 rfl; have p4 := HP1.out.cell 4 rfl; have p5 := HP1.out.cell 5 rfl; have p6 := HP1.out.cell 6 rfl; have r5 := HR1.out.cell 5 rfl; have r6 := HR1.out.cell 6 rfl)
      | (go_at_call 21; (with_reducible refine (HEN.out da dc _ HB1.out HE1.out).mono ?_); rintro e w2 ⟨rfl, hb⟩; have HB2 := Lib.hid (HB1.out.trans (hb.mono HB1.out.size)); clear hb))
    exact bodyPost_ret (v := .tuple #[.string S, .int .i64 (G : Nat)]) (by simp [results, Tryd.results8, go_sem]) rfl ⟨rfl, HB2.out⟩
end Go.Proofs.YtadhiknmkiogjaaDoor
namespace Go.Proofs.YtadhiknmkiogjaaDoor
set_option maxRecDepth 20000
open Go.RowKit
/-- of the blocks that were there those of F alone were written -/
structure Turn (F : Nat → Prop) (w w' : World) : Prop where
  os : w'.os = w.os
  tape : w'.tape = w.tape
  output : w'.output = w.output
  size : w.heap.size ≤ w'.heap.size
  block : ∀ k, k < w.heap.size → ¬ F k → w'.heap[k]? = w.heap[k]?
/-- the blocks of a state behind a call: those of before, or new ones -/
def Grew (F F' : Nat → Prop) (w : World) : Prop := ∀ k, F' k → F k ∨ w.heap.size ≤ k
theorem Turn.refl (F : Nat → Prop) (w : World) : Turn F w w := ⟨rfl, rfl, rfl, Nat.le_refl _, fun _ _ _ => rfl⟩
theorem Turn.of_below {F : Nat → Prop} {w w' : World} (h : Below w.heap.size w w') : Turn F w w' := ⟨h.os, h.tape, h.output, h.size, fun k hk _ => h.block k hk⟩
theorem Turn.trans {F F' : Nat → Prop} {a b c : World} (h : Turn F a b) (k : Turn F' b c) (hg : Grew F F' a) : Turn F a c :=
  ⟨k.os.trans h.os, k.tape.trans h.tape, k.output.trans h.output, Nat.le_trans h.size k.size, fun i hi hF => (k.block i (Nat.lt_of_lt_of_le hi h.size) (fun hf => (hg i hf).elim hF (fun hge => by omega))).trans (h.block i hi hF)⟩
theorem Grew.refl (F : Nat → Prop) (w : World) : Grew F F w := fun _ h => Or.inl h
theorem Grew.trans {F F' F'' : Nat → Prop} {a b : World} (h : Grew F F' a) (k : Grew F' F'' b) (hs : a.heap.size ≤ b.heap.size) : Grew F F'' a := fun i hi => (k i hi).elim (h i) (fun hge => Or.inr (Nat.le_trans hs hge))
theorem Grew.other {F F' : Nat → Prop} {w : World} {k : Nat} (h : Grew F F' w) (hk : ¬ F k) (hw : k < w.heap.size) : ¬ F' k := fun hf => (h k hf).elim hk (fun hge => by omega)
theorem Grew.ge {F F' : Nat → Prop} {w : World} {B : Nat} (h : Grew F F' w) (hF : ∀ k, F k → B ≤ k) (hw : B ≤ w.heap.size) : ∀ k, F' k → B ≤ k := fun k hk => (h k hk).elim (hF k) (fun hge => Nat.le_trans hw hge)
/-- as 'below' -/
theorem Turn.below {F : Nat → Prop} {w w' : World} {B : Nat} (h : Turn F w w') (hB : B ≤ w.heap.size) (hF : ∀ k, F k → B ≤ k) : Below B w w' :=
  ⟨h.os, h.tape, h.output, h.size, fun k hk => h.block k (Nat.lt_of_lt_of_le hk hB) (fun hf => by have := hF k hf; omega)⟩
theorem Turn.cell {F : Nat → Prop} {w w' : World} {p : Addr} (h : Turn F w w') (hp : p.block < w.heap.size) (hF : ¬ F p.block) : w'.cell? p = w.cell? p := World.cell?_of_block (a := p) (h.block p.block hp hF)
theorem Turn.set {F : Nat → Prop} {a W : World} (h : Turn F a W) {p : Addr} (hp : F p.block ∨ a.heap.size ≤ p.block) (v : Value) : Turn F a (W.setCell p v) :=
  ⟨h.os, h.tape, h.output, by simpa [World.setCell] using h.size, fun k hk hF => (Below.heap_setCell _ _ _ _ (fun e => hp.elim (fun hf => hF (by rw [e]; exact hf)) (fun hge => by omega))).trans (h.block k hk hF)⟩
theorem Turn.then_ {F : Nat → Prop} {a W W' : World} (h : Turn F a W) (hb : Below W.heap.size W W') : Turn F a W' :=
  ⟨hb.os.trans h.os, hb.tape.trans h.tape, hb.output.trans h.output, Nat.le_trans h.size hb.size, fun k hk hF => (hb.block k (Nat.lt_of_lt_of_le hk h.size)).trans (h.block k hk hF)⟩
theorem Turn.alloc {F : Nat → Prop} {a W : World} (h : Turn F a W) (o : Obj) : Turn F a (W.alloc o) := h.then_ ((Below.refl _ W).alloc (Nat.le_refl _) o)
theorem Turn.drew {F : Nat → Prop} {a W : World} (h : Turn F a W) : Turn F a W.drew := ⟨h.os, h.tape, h.output, h.size, h.block⟩
theorem RowAt.turn {F : Nat → Prop} {w w' : World} {m : Nat} {L : List Value} (h : RowAt w m L) (ht : Turn F w w') (hF : ¬ F m) : RowAt w' m L := fun i v e => (h i v e).block (ht.block m (h i v e).lt hF) ht.size
theorem RowAt.lt {w : World} {m : Nat} {v : Value} {L : List Value} (h : RowAt w m (v :: L)) : m < w.heap.size := (h 0 v rfl).lt
/-- what is told of blocks stays, if they do -/
def SameOn (F : Nat → Prop) (w w' : World) : Prop := w.heap.size ≤ w'.heap.size ∧ ∀ k, F k → w'.heap[k]? = w.heap[k]?
theorem SameOn.of_below {F : Nat → Prop} {w w' : World} (h : Below w.heap.size w w') (hF : ∀ k, F k → k < w.heap.size) : SameOn F w w' := ⟨h.size, fun k hk => h.block k (hF k hk)⟩
theorem SameOn.of_set {F : Nat → Prop} {w : World} {p : Addr} (hF : ¬ F p.block) (v : Value) : SameOn F w (w.setCell p v) :=
  ⟨by simp [World.setCell], fun k hk => Below.heap_setCell _ _ _ _ (fun e => hF (e ▸ hk))⟩
theorem SameOn.trans {F : Nat → Prop} {a b c : World} (h : SameOn F a b) (k : SameOn F b c) : SameOn F a c := ⟨Nat.le_trans h.1 k.1, fun i hi => (k.2 i hi).trans (h.2 i hi)⟩
end Go.Proofs.YtadhiknmkiogjaaDoor
namespace Go.Proofs.YtadhiknmkiogjaaDoor
open Go.RowKit Go.Sort
set_option maxRecDepth 20000
/-- a beacon: its call, how often, what is left, its bytes -/
abbrev bcV (b : ByteArray) (n : Int) (ev left : Int) (s : ByteArray) : List Value := [.string b, .int .i64 n, .int .i64 ev, .int .i64 left, .string s]
abbrev ptrB (p : Nat) : Value := .pointer (some ⟨p, 0, none⟩)
theorem cnew22 (b : ByteArray) (n : Int) (w : World) (hs : b.size ≤ 100000) :
    Calls Tryd.prog 13 #[.agg #[.string b, .int .i64 n]] w fun e w' => (if rightD b n then ∃ p, e = .returned (.tuple #[ptrB p, .int .i64 0]) ∧ w.heap.size ≤ p ∧ RowAt w' p (bcV b n 0 0 ⟨#[]⟩) else e = .returned (.tuple #[.pointer none, .int .i64 12])) ∧ Below w.heap.size w w' := by
  have hb0 := (Below.refl w.heap.size w).alloc (Nat.le_refl _) (.cells #[.string b, .int .i64 n] 23)
  have HB0 := Lib.hid hb0
  have HR0 := Lib.hid (RowAt.new w w.heap.size rfl [.string b, .int .i64 n] 23)
  have HRI := Lib.hid (fun W => cright_any b n W)
  have HCL := Lib.hid (fun W => clone_any b W (by omega))
  obtain ⟨x0, x0f, x0l⟩ := HR0.out.get 0 rfl
  have x1 := HR0.out.cell 1 rfl
  cases hr : rightD b n with
  | false =>
    rw [hr] at HRI
    simp only [Bool.false_eq_true, if_false]
    clear hr hb0
    go_enter Tryd.func13, Tryd.ntmps13
    go_wp2_with (go_at_call 26; (with_reducible refine (HRI.out _).mono ?_); rintro e w1 ⟨rfl, hb⟩; have HB1 := Lib.hid (HB0.out.trans (hb.mono HB0.out.size)); clear hb)
    exact bodyPost_ret (v := .tuple #[.pointer none, .int .i64 12]) (by simp [results, Tryd.results13, go_sem]) rfl ⟨rfl, HB1.out⟩
  | true =>
    rw [hr] at HRI
    simp only [if_true]
    clear hr hb0
    go_enter Tryd.func13, Tryd.ntmps13
    go_wp2_with (first
      | (go_at_call 26; (with_reducible refine (HRI.out _).mono ?_); rintro e w1 ⟨rfl, hb⟩; have HB1 := Lib.hid (HB0.out.trans (hb.mono HB0.out.size)); have HR1 := Lib.hid (HR0.out.below hb); clear hb x0 x0f x0l x1; obtain ⟨x0, x0f, x0l⟩ := HR1.out.get 0 rfl; have x1 := HR1.out.cell 1 rfl)
      | (go_at_call 27; (with_reducible refine (HCL.out _).mono ?_); rintro e w2 ⟨rfl, hb⟩; have HB2 := Lib.hid (HB1.out.trans (hb.mono HB1.out.size)); have HR2 := Lib.hid (HR1.out.below hb); clear hb x0 x0f x0l x1; obtain ⟨x0, x0f, x0l⟩ := HR2.out.get 0 rfl; have x1 := HR2.out.cell 1 rfl))
    have HB3 := Lib.hid (HB2.out.setCell (p := ⟨w.heap.size, 0, none⟩) (Nat.le_refl _) (.string b))
    have HB4 := Lib.hid (HB3.out.alloc HB3.out.size (.cells #[.string b, .int .i64 n, .int .i64 0, .int .i64 0, .string ⟨#[]⟩] 84))
    have HRN := Lib.hid (RowAt.new (w2.setCell ⟨w.heap.size, 0, none⟩ (.string b)) w2.heap.size (by simp [World.setCell]) (bcV b n 0 0 ⟨#[]⟩) 84)
    have HSZ := Lib.hid HB2.out.size
    exact bodyPost_ret (v := .tuple #[ptrB w2.heap.size, .int .i64 0]) (by simp [results, Tryd.results13, go_sem]) rfl ⟨⟨_, rfl, HSZ.out, HRN.out⟩, HB4.out⟩
theorem cevery0 (w : World) : Calls Tryd.prog 18 #[.pointer none] w fun e w' => e = .returned (.int .i64 0) ∧ w' = w := by
  go_enter Tryd.func18, Tryd.ntmps18
  go_wp2_with fail
  exact bodyPost_ret (v := .int .i64 0) (by simp [results, Tryd.results18, go_sem]) rfl ⟨rfl, rfl⟩
theorem cleft0 (w : World) : Calls Tryd.prog 19 #[.pointer none] w fun e w' => e = .returned (.int .i64 0) ∧ w' = w := by
  go_enter Tryd.func19, Tryd.ntmps19
  go_wp2_with fail
  exact bodyPost_ret (v := .int .i64 0) (by simp [results, Tryd.results19, go_sem]) rfl ⟨rfl, rfl⟩
theorem cevery22 (w : World) (p : Nat) (b : ByteArray) (n ev left : Int) (s : ByteArray) (h : RowAt w p (bcV b n ev left s)) : Calls Tryd.prog 18 #[ptrB p] w fun e w' => e = .returned (.int .i64 ev) ∧ w' = w := by
  have x2 := h.cell 2 rfl
  go_enter Tryd.func18, Tryd.ntmps18
  go_wp2_with fail
  exact bodyPost_ret (v := .int .i64 ev) (by simp [results, Tryd.results18, go_sem]) rfl ⟨rfl, rfl⟩
theorem cleft22 (w : World) (p : Nat) (b : ByteArray) (n ev left : Int) (s : ByteArray) (h : RowAt w p (bcV b n ev left s)) : Calls Tryd.prog 19 #[ptrB p] w fun e w' => e = .returned (.int .i64 left) ∧ w' = w := by
  have x3 := h.cell 3 rfl
  go_enter Tryd.func19, Tryd.ntmps19
  go_wp2_with fail
  exact bodyPost_ret (v := .int .i64 left) (by simp [results, Tryd.results19, go_sem]) rfl ⟨rfl, rfl⟩
theorem ctick0 (w : World) : Calls Tryd.prog 15 #[.pointer none] w fun e w' => e = .returned (.tuple #[.string ⟨#[]⟩, .bool false]) ∧ w' = w := by
  have HE := Lib.hid (fun W => cevery0 W)
  go_enter Tryd.func15, Tryd.ntmps15
  go_wp2_with (go_at_call 18; (with_reducible refine (HE.out _).mono ?_); rintro e w1 ⟨rfl, rfl⟩)
  exact bodyPost_ret (v := .tuple #[.string ⟨#[]⟩, .bool false]) (by simp [results, Tryd.results15, go_sem]) rfl ⟨rfl, rfl⟩
/-- what a tick makes of it -/
def tickL (ev left : Int) : Int := if ev = 0 then left else if 1 < left then left - 1 else ev
def tickB (ev left : Int) : Bool := decide (ev ≠ 0) && decide (left ≤ 1)
theorem ctick22 (w : World) (p : Nat) (b : ByteArray) (n ev left : Int) (s : ByteArray) (h : RowAt w p (bcV b n ev left s)) (hs : s.size ≤ 100000) (he : 0 ≤ left ∧ left ≤ 10000) :
    Calls Tryd.prog 15 #[ptrB p] w fun e w' => e = .returned (.tuple #[.string (if tickB ev left then s else ⟨#[]⟩), .bool (tickB ev left)]) ∧ RowAt w' p (bcV b n ev (tickL ev left) s) ∧ Turn (fun k => k = p) w w' := by
  have HE := Lib.hid (fun W h => cevery22 W p b n ev left s h)
  have HR := Lib.hid h
  have HCL := Lib.hid (fun W => clone_any s W (by omega))
  obtain ⟨x3, x3f, x3l⟩ := h.get 3 rfl
  have hw1 : wrap64 (left - 1) = left - 1 := IntWalk.wrap64_in _ (by omega)
  by_cases h0 : ev = 0
  · subst h0
    have e1 : tickB 0 left = false := rfl
    have e2 : tickL 0 left = left := rfl
    rw [e1, e2]
    clear h he e1 e2
    go_enter Tryd.func15, Tryd.ntmps15
    go_wp2_with (go_at_call 18; (with_reducible refine (HE.out _ HR.out).mono ?_); rintro e w ⟨rfl, rfl⟩)
    exact bodyPost_ret (v := .tuple #[.string ⟨#[]⟩, .bool false]) (by simp [results, Tryd.results15, go_sem]) rfl ⟨rfl, HR.out, Turn.refl _ _⟩
  · have hev : (ev == 0) = false := by rw [beq_eq_false_iff_ne]; exact h0
    by_cases h1 : 1 < left
    · have e1 : tickB ev left = false := by unfold tickB; rw [decide_eq_false (show ¬ left ≤ 1 by omega), Bool.and_false]
      have e2 : tickL ev left = left - 1 := by unfold tickL; rw [if_neg h0, if_pos h1]
      rw [e1, e2]
      obtain ⟨l1, hl1⟩ : ∃ l1, l1 = left - 1 := ⟨_, rfl⟩
      rw [← hl1] at hw1 ⊢
      have d1 : decide ((0 : Int) < l1) = true := decide_eq_true (by omega)
      have HN := Lib.hid (h.put 3 (.int .i64 l1) (bcV b n ev l1 s) rfl)
      have y3 := HN.out.cell 3 rfl
      have HT := Lib.hid ((Turn.refl (fun k => k = p) w).set (p := ⟨p, 3, none⟩) (Or.inl rfl) (.int .i64 l1))
      have hsb : wrap64 (left - 1) = l1 := by rw [hl1]; exact IntWalk.wrap64_in _ (by omega)
      clear h he e1 e2 h0 h1 hl1 hw1
      go_enter Tryd.func15, Tryd.ntmps15
      go_wp2_with (go_at_call 18; (with_reducible refine (HE.out _ HR.out).mono ?_); rintro e w ⟨rfl, rfl⟩)
      exact bodyPost_ret (v := .tuple #[.string ⟨#[]⟩, .bool false]) (by simp [results, Tryd.results15, go_sem]) rfl ⟨rfl, HN.out, HT.out⟩
    · have e1 : tickB ev left = true := by unfold tickB; rw [decide_eq_true h0, decide_eq_true (show left ≤ 1 by omega)]; rfl
      have e2 : tickL ev left = ev := by unfold tickL; rw [if_neg h0, if_neg h1]
      rw [e1, e2]
      obtain ⟨l1, hl1⟩ : ∃ l1, l1 = left - 1 := ⟨_, rfl⟩
      rw [← hl1] at hw1
      have d1 : decide ((0 : Int) < l1) = false := decide_eq_false (by omega)
      have hn1 := h.put 3 (.int .i64 l1) (bcV b n ev l1 s) rfl
      have HN := Lib.hid (hn1.put 3 (.int .i64 ev) (bcV b n ev ev s) rfl)
      obtain ⟨y3, y3f, y3l⟩ := hn1.get 3 rfl
      have y2 := hn1.cell 2 rfl
      have z4 := HN.out.cell 4 rfl
      have HT := Lib.hid (((Turn.refl (fun k => k = p) w).set (p := ⟨p, 3, none⟩) (Or.inl rfl) (.int .i64 l1)).set (p := ⟨p, 3, none⟩) (Or.inl rfl) (.int .i64 ev))
      have hsb : wrap64 (left - 1) = l1 := by rw [hl1]; exact IntWalk.wrap64_in _ (by omega)
      clear h he e1 e2 h0 h1 hl1 hw1 hn1
      go_enter Tryd.func15, Tryd.ntmps15
      go_wp2_with (first
        | (go_at_call 18; (with_reducible refine (HE.out _ HR.out).mono ?_); rintro e w ⟨rfl, rfl⟩)
        | (go_at_call 27; (with_reducible refine (HCL.out _).mono ?_); rintro e w2 ⟨rfl, hb⟩; have HT2 := Lib.hid (HT.out.then_ hb); have HN2 := Lib.hid (HN.out.below hb); clear hb))
      exact bodyPost_ret (v := .tuple #[.string s, .bool true]) (by simp [results, Tryd.results15, go_sem]) rfl ⟨rfl, HN2.out, HT2.out⟩
/-- the document's own tick -/
theorem rtick22 (w : World) (p : Nat) (ev went : Int) (s : ByteArray) (h : RowAt w p [.int .i64 ev, .int .i64 went, .string s]) (hw : 0 ≤ went ∧ went ≤ 100000) (he : 0 ≤ ev ∧ ev ≤ 10000) (B : Bool) (hB : B = (decide (ev ≠ 0) && decide ((went + 1) % ev = 0))) :
    Calls Tryd.prog 16 #[ptrB p] w fun e w' => e = .returned (.tuple #[.string (if B then s else ⟨#[]⟩), .bool B]) ∧ RowAt w' p [.int .i64 ev, .int .i64 (if ev = 0 then went else went + 1), .string s] ∧ Turn (fun k => k = p) w w' := by
  have HR := Lib.hid h
  obtain ⟨x1, x1f, x1l⟩ := h.get 1 rfl
  have x0 := h.cell 0 rfl
  by_cases h0 : ev = 0
  · subst h0
    have e1 : B = false := hB
    subst e1
    simp only [Bool.false_eq_true, if_false, if_true]
    clear h he hB hw
    go_enter Tryd.func16, Tryd.ntmps16
    go_wp2_with fail
    exact bodyPost_ret (v := .tuple #[.string ⟨#[]⟩, .bool false]) (by simp [results, Tryd.results16, go_sem]) rfl ⟨rfl, HR.out, Turn.refl _ _⟩
  · have hev : (ev == 0) = false := by rw [beq_eq_false_iff_ne]; exact h0
    rw [if_neg h0]
    rw [decide_eq_true h0, Bool.true_and] at hB
    obtain ⟨w1, hw1⟩ : ∃ w1, w1 = went + 1 := ⟨_, rfl⟩
    rw [← hw1] at hB ⊢
    have hwr : wrap64 (went + 1) = w1 := by rw [hw1]; exact IntWalk.wrap64_in _ (by omega)
    obtain ⟨m, hm⟩ : ∃ m, m = w1 % ev := ⟨_, rfl⟩
    have hm0 : 0 ≤ m ∧ m < ev := by rw [hm]; exact ⟨Int.emod_nonneg _ h0, Int.emod_lt_of_pos _ (by omega)⟩
    rw [← hm] at hB
    have m1 : w1.tmod ev = m := by rw [hm]; exact Int.tmod_eq_emod_of_nonneg (by omega)
    have m2 : w1 % ev = m := hm.symm
    have m3 : wrap64 m = m := IntWalk.wrap64_in _ (by omega)
    have m4 : (m == 0) = B := by rw [hB]; rfl
    have hn1 := h.put 1 (.int .i64 w1) [.int .i64 ev, .int .i64 w1, .string s] rfl
    have HN := Lib.hid hn1
    have HT := Lib.hid ((Turn.refl (fun k => k = p) w).set (p := ⟨p, 1, none⟩) (Or.inl rfl) (.int .i64 w1))
    have y0 := hn1.cell 0 rfl
    have y1 := hn1.cell 1 rfl
    have y2 := hn1.cell 2 rfl
    clear h he hB hw hw1 hm hm0 hn1
    go_enter Tryd.func16, Tryd.ntmps16
    go_upto_region 4 with fail
    generalize w.setCell ⟨p, 1, none⟩ (.int .i64 w1) = w2 at *
    go_quiet (fail)
    cases B
    · go_wp2_with fail
      exact bodyPost_ret (v := .tuple #[.string ⟨#[]⟩, .bool false]) (by simp [results, Tryd.results16, go_sem]) rfl ⟨rfl, (fun i v e => ⟨(HN.out i v e).1, (HN.out i v e).2, (HN.out i v e).3⟩), HT.out.os, HT.out.tape, HT.out.output, HT.out.size, HT.out.block⟩
    · have z2 : (w2.drewN nq).cell? ⟨p, 2, none⟩ = some (.string s) := y2
      go_wp2_with fail
      exact bodyPost_ret (v := .tuple #[.string s, .bool true]) (by simp [results, Tryd.results16, go_sem]) rfl ⟨rfl, (fun i v e => ⟨(HN.out i v e).1, (HN.out i v e).2, (HN.out i v e).3⟩), HT.out.os, HT.out.tape, HT.out.output, HT.out.size, HT.out.block⟩
end Go.Proofs.YtadhiknmkiogjaaDoor
