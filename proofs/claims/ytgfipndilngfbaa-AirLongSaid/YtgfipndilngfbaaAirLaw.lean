/-
What a landed air has to answer (contracts); an air of the call's own.
-/
import Derived.Test.YtgfipndilngfbaaAirPure
import Derived.Test.YtgfipndilngfbaaPlcCode
namespace Go.Proofs.Ytgfipndilngfbaa
open Go.RowKit
set_option maxRecDepth 20000
/-- what comes, as it lies -/
def encG : Enc Gt := ⟨4, by omega, fun g => [.int .i64 (g.from_ : Int), .int .i64 (g.to : Int), .string g.bytes, .bool false], fun _ => rfl, fun _ u hu => by
  simp only [List.mem_cons, List.not_mem_nil, or_false] at hu
  rcases hu with rfl | rfl | rfl | rfl <;> rfl⟩
/-- how an air lies: at so many stations, who hears whom, who is on, in which blocks -/
abbrev AirP := World → Nat → Nat → (Nat → Nat → Bool) → Ai → (Nat → Prop) → Prop
def leftOf : Option Bu → Nat
  | none => 0
  | some b => b.left
def quietB (n : Nat) (S : Ai) : Bool := !(List.range n).any fun k => (S (k + 1)).isSome
abbrev ptrV (a : Nat) : Value := .pointer (some ⟨a, 0, none⟩)
structure AirC (A : AirP) : Prop where
  mem : ∀ {w a n H S F}, A w a n H S F → ∀ b, F b → b < w.heap.size
  stay : ∀ {w w' a n H S F}, A w a n H S F → SameOn F w w' → A w' a n H S F
  new : ∀ (w : World) (p g : Nat) (L : List Stn) (F : Nat → Prop) (n : Nat), PlL w p g L (.map []) F → L.length = n → 1 ≤ n ∧ n ≤ 16 → (∀ j (hj : j < L.length), L[j].is ⟨(j : Int) + 1, 0, 100⟩) →
    Calls Try.prog 18 #[ptrV p] w fun e w' => ∃ a F', e = .returned (.tuple #[ptrV a, .int .i64 0]) ∧ A w' a n (fullH n) Ai.quiet F' ∧ (∀ b, F' b → F b ∨ w.heap.size ≤ b) ∧ Below w.heap.size w w'
  send : ∀ (w : World) (a n : Nat) (H : Nat → Nat → Bool) (S : Ai) (F : Nat → Prop) (i lead tail : Nat) (v : Value) (fs : List ByteArray), A w a n H S F → 1 ≤ i ∧ i ≤ n → lead ≤ 255 → tail ≤ 255 → 1 ≤ fs.length ∧ fs.length ≤ 7 → (∀ f ∈ fs, f.size ≤ 333) →
    SeeL encS w v fs → S i = none → Calls Try.prog 8 #[ptrV a, .int .i64 i, .int .i64 lead, .int .i64 tail, v] w fun e w' => ∃ F', e = .returned (.int .i64 0) ∧ A w' a n H (S.put i ⟨lead, tail, fs, 0, noneC⟩) F' ∧ Turn F w w' ∧ Grew F F' w
  busy : ∀ (w : World) (a n : Nat) (H : Nat → Nat → Bool) (S : Ai) (F : Nat → Prop) (i lead tail : Nat) (v : Value) (fs : List ByteArray), A w a n H S F → 1 ≤ i ∧ i ≤ n → lead ≤ 255 → tail ≤ 255 → 1 ≤ fs.length ∧ fs.length ≤ 7 → (∀ f ∈ fs, f.size ≤ 333) →
    SeeL encS w v fs → (S i).isSome = true → Calls Try.prog 8 #[ptrV a, .int .i64 i, .int .i64 lead, .int .i64 tail, v] w fun e w' => e = .returned (.int .i64 10) ∧ Below w.heap.size w w'
  on : ∀ (w : World) (a n : Nat) (H : Nat → Nat → Bool) (S : Ai) (F : Nat → Prop) (i : Nat), A w a n H S F → 1 ≤ i ∧ i ≤ n → Calls Try.prog 9 #[ptrV a, .int .i64 i] w fun e w' => e = .returned (.bool (S i).isSome) ∧ Below w.heap.size w w'
  left : ∀ (w : World) (a n : Nat) (H : Nat → Nat → Bool) (S : Ai) (F : Nat → Prop) (i : Nat), A w a n H S F → 1 ≤ i ∧ i ≤ n → Calls Try.prog 10 #[ptrV a, .int .i64 i] w fun e w' => e = .returned (.int .i64 (leftOf (S i))) ∧ Below w.heap.size w w'
  hears : ∀ (w : World) (a n : Nat) (H : Nat → Nat → Bool) (S : Ai) (F : Nat → Prop) (i : Nat), A w a n H S F → 1 ≤ i ∧ i ≤ n → Calls Try.prog 11 #[ptrV a, .int .i64 i] w fun e w' => e = .returned (.bool (hearsO H n S i 0)) ∧ Below w.heap.size w w'
  quiet : ∀ (w : World) (a n : Nat) (H : Nat → Nat → Bool) (S : Ai) (F : Nat → Prop), A w a n H S F → Calls Try.prog 13 #[ptrV a] w fun e w' => e = .returned (.bool (quietB n S)) ∧ Below w.heap.size w w'
  tick : ∀ (w : World) (a n : Nat) (H : Nat → Nat → Bool) (S : Ai) (F : Nat → Prop), A w a n H S F → Calls Try.prog 12 #[ptrV a] w fun e w' => ∃ F' v, e = .returned v ∧ A w' a n H (tickS H n S) F' ∧ Turn F w w' ∧ Grew F F' w ∧ SeeL encG w' v (toldS H n S)
  long : ∀ (w : World) (f : ByteArray), f.size ≤ 1000 → Calls Try.prog 6 #[.string f] w fun e w' => e = .returned (.int .i64 (longN f)) ∧ w' = w
/-- an air of the call's own -/
def AirO (A : AirP) (w0 : World) (a n : Nat) (H : Nat → Nat → Bool) (S : Ai) (W : World) : Prop := ∃ F, A W a n H S F ∧ (∀ b, F b → w0.heap.size ≤ b) ∧ Below w0.heap.size w0 W
section
variable {A : AirP} (hC : AirC A) {w0 W W' : World} {a n : Nat} {H : Nat → Nat → Bool} {S : Ai}
include hC
theorem AirO.below (h : AirO A w0 a n H S W) (hb : Below W.heap.size W W') : AirO A w0 a n H S W' := by
  obtain ⟨F, h1, h2, h3⟩ := h
  exact ⟨F, hC.stay h1 (SameOn.of_below hb (hC.mem h1)), h2, h3.trans (hb.mono h3.size)⟩
omit hC in
theorem AirO.bel (h : AirO A w0 a n H S W) : Below w0.heap.size w0 W := by
  obtain ⟨F, h1, h2, h3⟩ := h
  exact h3
omit hC in
theorem AirO.turned {F F' : Nat → Prop} {S' : Ai} (h2 : ∀ b, F b → w0.heap.size ≤ b) (h3 : Below w0.heap.size w0 W) (h4 : A W' a n H S' F') (ht : Turn F W W') (hg : Grew F F' W) : AirO A w0 a n H S' W' :=
  ⟨F', h4, hg.ge h2 h3.size, h3.trans (ht.below h3.size h2)⟩
theorem AirO.send (h : AirO A w0 a n H S W) (i lead tail : Nat) (v : Value) (fs : List ByteArray) (hi : 1 ≤ i ∧ i ≤ n) (hl : lead ≤ 255) (ht : tail ≤ 255) (hf : 1 ≤ fs.length ∧ fs.length ≤ 7) (hs : ∀ f ∈ fs, f.size ≤ 333) (hv : SeeL encS W v fs) (hS : S i = none) :
    Calls Try.prog 8 #[ptrV a, .int .i64 i, .int .i64 lead, .int .i64 tail, v] W fun e w' => e = .returned (.int .i64 0) ∧ AirO A w0 a n H (S.put i ⟨lead, tail, fs, 0, noneC⟩) w' := by
  obtain ⟨F, h1, h2, h3⟩ := h
  refine (hC.send W a n H S F i lead tail v fs h1 hi hl ht hf hs hv hS).mono ?_
  rintro e w' ⟨F', rfl, q1, q2, q3⟩
  exact ⟨rfl, AirO.turned h2 h3 q1 q2 q3⟩
theorem AirO.busy (h : AirO A w0 a n H S W) (i lead tail : Nat) (v : Value) (fs : List ByteArray) (hi : 1 ≤ i ∧ i ≤ n) (hl : lead ≤ 255) (ht : tail ≤ 255) (hf : 1 ≤ fs.length ∧ fs.length ≤ 7) (hs : ∀ f ∈ fs, f.size ≤ 333) (hv : SeeL encS W v fs) (hS : (S i).isSome = true) :
    Calls Try.prog 8 #[ptrV a, .int .i64 i, .int .i64 lead, .int .i64 tail, v] W fun e w' => e = .returned (.int .i64 10) ∧ AirO A w0 a n H S w' := by
  have hh := h
  obtain ⟨F, h1, h2, h3⟩ := h
  refine (hC.busy W a n H S F i lead tail v fs h1 hi hl ht hf hs hv hS).mono ?_
  rintro e w' ⟨rfl, q⟩
  exact ⟨rfl, hh.below hC q⟩
theorem AirO.on (h : AirO A w0 a n H S W) (i : Nat) (hi : 1 ≤ i ∧ i ≤ n) : Calls Try.prog 9 #[ptrV a, .int .i64 i] W fun e w' => e = .returned (.bool (S i).isSome) ∧ AirO A w0 a n H S w' := by
  have hh := h
  obtain ⟨F, h1, h2, h3⟩ := h
  refine (hC.on W a n H S F i h1 hi).mono ?_
  rintro e w' ⟨rfl, q⟩
  exact ⟨rfl, hh.below hC q⟩
theorem AirO.left (h : AirO A w0 a n H S W) (i : Nat) (hi : 1 ≤ i ∧ i ≤ n) : Calls Try.prog 10 #[ptrV a, .int .i64 i] W fun e w' => e = .returned (.int .i64 (leftOf (S i))) ∧ AirO A w0 a n H S w' := by
  have hh := h
  obtain ⟨F, h1, h2, h3⟩ := h
  refine (hC.left W a n H S F i h1 hi).mono ?_
  rintro e w' ⟨rfl, q⟩
  exact ⟨rfl, hh.below hC q⟩
theorem AirO.hears (h : AirO A w0 a n H S W) (i : Nat) (hi : 1 ≤ i ∧ i ≤ n) : Calls Try.prog 11 #[ptrV a, .int .i64 i] W fun e w' => e = .returned (.bool (hearsO H n S i 0)) ∧ AirO A w0 a n H S w' := by
  have hh := h
  obtain ⟨F, h1, h2, h3⟩ := h
  refine (hC.hears W a n H S F i h1 hi).mono ?_
  rintro e w' ⟨rfl, q⟩
  exact ⟨rfl, hh.below hC q⟩
theorem AirO.quiet (h : AirO A w0 a n H S W) : Calls Try.prog 13 #[ptrV a] W fun e w' => e = .returned (.bool (quietB n S)) ∧ AirO A w0 a n H S w' := by
  have hh := h
  obtain ⟨F, h1, h2, h3⟩ := h
  refine (hC.quiet W a n H S F h1).mono ?_
  rintro e w' ⟨rfl, q⟩
  exact ⟨rfl, hh.below hC q⟩
theorem AirO.tick (h : AirO A w0 a n H S W) : Calls Try.prog 12 #[ptrV a] W fun e w' => ∃ v, e = .returned v ∧ AirO A w0 a n H (tickS H n S) w' ∧ SeeL encG w' v (toldS H n S) := by
  obtain ⟨F, h1, h2, h3⟩ := h
  refine (hC.tick W a n H S F h1).mono ?_
  rintro e w' ⟨F', v, rfl, q1, q2, q3, q4⟩
  exact ⟨v, rfl, AirO.turned h2 h3 q1 q2 q3, q4⟩
end
end Go.Proofs.Ytgfipndilngfbaa
