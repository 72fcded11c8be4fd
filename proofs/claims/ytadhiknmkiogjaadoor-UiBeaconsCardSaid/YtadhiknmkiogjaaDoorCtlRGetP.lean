/-
What the document's own Get of controls answers, as plain facts.
-/
import Derived.Test.YtadhiknmkiogjaaDoorCtlBase
namespace Go.Proofs.YtadhiknmkiogjaaDoor
open Go.RowKit
set_option maxRecDepth 20000
/-- the control of kind k with a mark that bytes b, y .. could be (y: the second one, if it is there) -/
def tryNs (k b : Nat) (w : Bool) : Nat := if k = 1 then (if w then b / 2 else b % 16 / 2) else 0
def tryNr (k b y : Nat) (w : Bool) : Nat := if k ≤ 5 then (if w then y / 2 else b / 32) else 0
/-- do its bytes stand ahead? -/
def hitD (k : Nat) (p w : Bool) (b : Nat) (t : List UInt8) : Bool :=
  match t with
  | [] => !(w && decide (k ≤ 5)) && decide (docN k (tryNr k b 0 w) (tryNs k b w) p w = [b])
  | y :: _ => let l := docN k (tryNr k b y.toNat w) (tryNs k b w) p w
      decide (l = [b] ∨ l = [b, y.toNat])
/-- the first kind and mark from number j on (two for each kind) -/
def seekD (w : Bool) (b : Nat) (t : List UInt8) : Nat → Nat → Option (Nat × Bool)
  | 0, _ => none
  | f + 1, j => if hitD (j / 2 + 1) (j % 2 == 1) w b t then some (j / 2 + 1, j % 2 == 1) else seekD w b t f (j + 1)
/-- kind, numbers, mark, bytes, error -/
def refGet (s : List UInt8) (w : Bool) : Nat × Nat × Nat × Bool × Nat × Nat :=
  match s with
  | [] => (0, 0, 0, false, 0, 4)
  | b :: t => if w && b.toNat % 4 != 3 && t.isEmpty then (0, 0, 0, false, 0, 4) else
    match seekD w b.toNat t 28 0 with
    | none => (0, 0, 0, false, 0, 2)
    | some (k, p) => (k, tryNr k b.toNat (match t with | [] => 0 | y :: _ => y.toNat) w, tryNs k b.toNat w, p, (if w && decide (k ≤ 5) then 2 else 1), 0)
theorem narrow_seek : ∀ b : Fin 256, seekD false b.1 [] 28 0 = (if findD (b.1 : Nat) false = 0 then none else some (findD (b.1 : Nat) false, (bits BinOp.and .u8 (b.1 : Nat) 16 != 0))) := by decide +kernel
theorem narrow_read : ∀ b : Fin 256, findD (b.1 : Nat) false ≠ 0 → (if hasD (findD (b.1 : Nat) false : Nat) then wrap64 (((b.1 : Nat) : Int) / 32) else 0) = (tryNr (findD (b.1 : Nat) false) b.1 0 false : Int) ∧
    (if ((findD (b.1 : Nat) false : Nat) : Int) == 1 then (wrap64 (((b.1 : Nat) : Int) / 2)).tmod 8 else 0) = (tryNs (findD (b.1 : Nat) false) b.1 false : Int) := by decide +kernel
theorem hit_high (k : Nat) (p w : Bool) (b : Nat) (t : List UInt8) (h : 5 < k) : hitD k p w b t = hitD k p w b [] := by
  have e : ∀ nr ns, docN k nr ns p w = [codeN k + (if p then 16 else 0)] := fun nr ns => by unfold docN; rw [if_pos h]
  cases t with
  | nil => rfl
  | cons y t =>
    simp only [hitD, e]
    have d : decide (k ≤ 5) = false := decide_eq_false (by omega)
    rw [d]
    simp
theorem hit_narrow (k : Nat) (p : Bool) (b : Nat) (t : List UInt8) : hitD k p false b t = hitD k p false b [] := by
  cases t with
  | nil => rfl
  | cons y t =>
    simp only [hitD, tryNr, tryNs, docN]
    split <;> simp
theorem seek_congr (w : Bool) (b : Nat) (t t' : List UInt8) (h : ∀ k p, 1 ≤ k → hitD k p w b t = hitD k p w b t') : ∀ f j, seekD w b t f j = seekD w b t' f j
  | 0, _ => rfl
  | f + 1, j => by
    unfold seekD
    rw [h _ _ (by omega), seek_congr w b t t' h f (j + 1)]
/-- where just one number hits -/
theorem seek_one (w : Bool) (b : Nat) (t : List UInt8) (J : Nat) (h : ∀ j, j < 28 → hitD (j / 2 + 1) (j % 2 == 1) w b t = decide (j = J)) : ∀ f j, j + f = 28 → seekD w b t f j = if j ≤ J ∧ J < 28 then some (J / 2 + 1, J % 2 == 1) else none
  | 0, j, hj => by unfold seekD; rw [if_neg (by omega)]
  | f + 1, j, hj => by
    unfold seekD
    rw [h j (by omega)]
    by_cases e : j = J
    · subst e
      rw [decide_eq_true rfl, if_pos rfl, if_pos (by omega)]
    · rw [decide_eq_false e, if_neg (by simp), seek_one w b t J h f (j + 1) (by omega)]
      by_cases q : j ≤ J ∧ J < 28
      · rw [if_pos q, if_pos (by omega)]
      · rw [if_neg q, if_neg (by omega)]
theorem hit_wide1 (k : Nat) (p : Bool) (b : Nat) (t : List UInt8) (hk : 1 ≤ k) (h3 : b % 4 = 3) : hitD k p true b t = hitD k p true b [] := by
  by_cases h : 5 < k
  · exact hit_high k p true b t h
  · have d : decide (k ≤ 5) = true := decide_eq_true (by omega)
    cases t with
    | nil => rfl
    | cons y t =>
      have hc : (if 1 < k then codeN k else 2 * tryNs k b true) ≠ b := by
        obtain rfl | rfl | rfl | rfl | rfl : k = 1 ∨ k = 2 ∨ k = 3 ∨ k = 4 ∨ k = 5 := by omega
        · show 2 * (b / 2) ≠ b
          omega
        all_goals
          intro e
          rw [if_pos (by decide)] at e
          rw [← e] at h3
          exact absurd h3 (by decide)
      have e : ∀ nr ns, docN k nr ns p true = [if 1 < k then codeN k else 2 * ns, 2 * nr + (if p then 1 else 0)] := fun nr ns => by unfold docN; rw [if_neg h, if_pos rfl]
      simp only [hitD, e, d]
      simp only [List.cons.injEq]
      simp [hc]
theorem wide_seek1 : ∀ b : Fin 256, b.1 % 4 = 3 → seekD true b.1 [] 28 0 = (if findD (b.1 : Nat) true = 0 then none else some (findD (b.1 : Nat) true, (bits BinOp.and .u8 (b.1 : Nat) 16 != 0))) ∧ (findD (b.1 : Nat) true ≠ 0 → 5 < findD (b.1 : Nat) true) ∧ lenD (b.1 : Nat) true = 1 := by decide +kernel
theorem wide_seek2 : ∀ b : Fin 256, b.1 % 4 ≠ 3 → lenD (b.1 : Nat) true = 2 ∧ findD (b.1 : Nat) true ≤ 5 ∧ (∀ k : Fin 15, ∀ p : Bool, 5 < k.1 → docN k.1 0 0 p true ≠ [b.1]) ∧
    (∀ k : Fin 6, 1 ≤ k.1 → (decide ((if 1 < k.1 then codeN k.1 else 2 * tryNs k.1 b.1 true) = b.1) = decide (findD (b.1 : Nat) true = k.1))) := by decide +kernel
end Go.Proofs.YtadhiknmkiogjaaDoor
namespace Go.Proofs.YtadhiknmkiogjaaDoor
open Go.RowKit
set_option maxRecDepth 20000
def gotU (r : Nat × Nat × Nat × Bool × Nat × Nat) : Value := .tuple #[.agg #[.int .i64 (r.1 : Int), .int .i64 (r.2.1 : Int), .int .i64 (r.2.2.1 : Int), .bool r.2.2.2.1], .int .i64 (r.2.2.2.2.1 : Int), .int .i64 (r.2.2.2.2.2 : Int)]
theorem find_le : ∀ b : Fin 256, ∀ w : Bool, findD (b.1 : Nat) w ≤ 14 := by decide +kernel
theorem has_high : ∀ k : Fin 15, 5 < k.1 → hasD (k.1 : Nat) = false := by decide +kernel
theorem ref_get_narrow (x : UInt8) (t : List UInt8) : cgetE (x :: t) false = gotU (refGet (x :: t) false) := by
  have hl : lenD (x.toNat : Int) false = 1 := rfl
  have e1 : seekD false x.toNat t 28 0 = seekD false x.toNat [] 28 0 := seek_congr false x.toNat t [] (fun k p _ => hit_narrow k p x.toNat t) 28 0
  have e2 := narrow_seek ⟨x.toNat, x.toNat_lt⟩
  have e3 := narrow_read ⟨x.toNat, x.toNat_lt⟩
  dsimp only at e2 e3
  dsimp only [cgetE, refGet]
  rw [hl, if_neg (show ¬ ((1 : Int) = 2) by decide), Bool.false_and, Bool.false_and, if_neg (show ¬ (false = true) by decide), e1, e2]
  by_cases h0 : findD (x.toNat : Int) false = 0
  · rw [if_pos h0, if_pos h0]
    rfl
  · rw [if_neg h0, if_neg h0]
    obtain ⟨a, b⟩ := e3 h0
    unfold read1V gotU
    dsimp only
    rw [a, b]
    rfl
theorem ref_get_wide1 (x : UInt8) (t : List UInt8) (h3 : x.toNat % 4 = 3) : cgetE (x :: t) true = gotU (refGet (x :: t) true) := by
  have e1 : seekD true x.toNat t 28 0 = seekD true x.toNat [] 28 0 := seek_congr true x.toNat t [] (fun k p hk => hit_wide1 k p x.toNat t hk h3) 28 0
  obtain ⟨e2, e4, hl⟩ := wide_seek1 ⟨x.toNat, x.toNat_lt⟩ h3
  dsimp only at e2 e4 hl
  have n3 : (x.toNat % 4 != 3) = false := by rw [h3]; rfl
  dsimp only [cgetE, refGet]
  rw [hl, if_neg (show ¬ ((1 : Int) = 2) by decide), n3, Bool.and_false, Bool.false_and, if_neg (show ¬ (false = true) by decide), e1, e2]
  by_cases h0 : findD (x.toNat : Int) true = 0
  · rw [if_pos h0, if_pos h0]
    rfl
  · rw [if_neg h0, if_neg h0]
    have h5 := e4 h0
    have hs := has_high ⟨findD (x.toNat : Int) true, by have := find_le ⟨x.toNat, x.toNat_lt⟩ true; dsimp only at this; omega⟩ h5
    dsimp only at hs
    have n1 : (((findD (x.toNat : Int) true : Nat) : Int) == 1) = false := by rw [beq_eq_false_iff_ne]; omega
    have d5 : decide (findD (x.toNat : Int) true ≤ 5) = false := decide_eq_false (by omega)
    unfold read1V gotU
    dsimp only
    rw [hs, n1, d5, Bool.and_false]
    unfold tryNr tryNs
    rw [if_neg (show ¬ findD (x.toNat : Int) true ≤ 5 by omega), if_neg (show ¬ findD (x.toNat : Int) true = 1 by omega)]
    rfl
theorem hit_wide2 (k : Nat) (p : Bool) (x y : UInt8) (t : List UInt8) (hk : 1 ≤ k) (hk' : k ≤ 14) (h3 : x.toNat % 4 ≠ 3) :
    hitD k p true x.toNat (y :: t) = decide (findD (x.toNat : Int) true = k ∧ p = (y.toNat % 2 == 1)) := by
  obtain ⟨_, hf, hh, hc⟩ := wide_seek2 ⟨x.toNat, x.toNat_lt⟩ h3
  dsimp only at hf hh hc
  by_cases h : 5 < k
  · have e : ∀ nr ns, docN k nr ns p true = [codeN k + (if p then 16 else 0)] := fun nr ns => by unfold docN; rw [if_pos h]
    have n := hh ⟨k, by omega⟩ p h
    dsimp only at n
    rw [e] at n
    rw [decide_eq_false (fun q => by omega)]
    simp only [hitD, e]
    apply decide_eq_false
    rintro (q | q)
    · exact n q
    · simp at q
  · have e : ∀ nr ns, docN k nr ns p true = [if 1 < k then codeN k else 2 * ns, 2 * nr + (if p then 1 else 0)] := fun nr ns => by unfold docN; rw [if_neg h, if_pos rfl]
    have c := hc ⟨k, by omega⟩ hk
    dsimp only at c
    have c' : ((if 1 < k then codeN k else 2 * tryNs k x.toNat true) = x.toNat) ↔ findD (x.toNat : Int) true = k := decide_eq_decide.mp c
    simp only [hitD, e]
    apply decide_eq_decide.mpr
    rw [← c']
    have en : tryNr k x.toNat y.toNat true = y.toNat / 2 := by unfold tryNr; rw [if_pos (by omega), if_pos rfl]
    rw [en]
    simp only [List.cons.injEq, and_true, reduceCtorEq, and_false, false_or]
    apply and_congr_right
    intro _
    cases p
    · rw [if_neg (by decide)]
      constructor
      · intro q; symm; rw [beq_eq_false_iff_ne]; omega
      · intro q; have := beq_eq_false_iff_ne.mp q.symm; omega
    · rw [if_pos rfl]
      constructor
      · intro q; symm; rw [beq_iff_eq]; omega
      · intro q; have := beq_iff_eq.mp q.symm; omega
theorem sec_all : ∀ y : Fin 256, wrap64 ((y.1 : Int) / 2) = ((y.1 / 2 : Nat) : Int) ∧ (bits BinOp.and .u8 (y.1 : Nat) 1 != 0) = (y.1 % 2 == 1) := by decide +kernel
theorem wide_read : ∀ b : Fin 256, b.1 % 4 ≠ 3 → (if ((findD (b.1 : Nat) true : Nat) : Int) == 1 then wrap64 (((b.1 : Nat) : Int) / 2) else 0) = (tryNs (findD (b.1 : Nat) true) b.1 true : Int) := by decide +kernel
theorem ref_get_wide2 (x y : UInt8) (t : List UInt8) (h3 : x.toNat % 4 ≠ 3) : cgetE (x :: y :: t) true = gotU (refGet (x :: y :: t) true) := by
  obtain ⟨hl, hf, _, _⟩ := wide_seek2 ⟨x.toNat, x.toNat_lt⟩ h3
  dsimp only at hf hl
  have sk := seek_one true x.toNat (y :: t) (if findD (x.toNat : Int) true = 0 then 28 else 2 * (findD (x.toNat : Int) true - 1) + y.toNat % 2) (fun j hj => by
    rw [hit_wide2 _ _ _ _ _ (by omega) (by omega) h3]
    apply decide_eq_decide.mpr
    by_cases h0 : findD (x.toNat : Int) true = 0
    · rw [if_pos h0]
      constructor
      · intro q; omega
      · intro q; omega
    · rw [if_neg h0]
      have b2 : ((j % 2 == 1) = (y.toNat % 2 == 1)) ↔ j % 2 = y.toNat % 2 := by
        obtain a | a : j % 2 = 0 ∨ j % 2 = 1 := by omega
        · obtain c | c : y.toNat % 2 = 0 ∨ y.toNat % 2 = 1 := by omega
          · simp [a, c]
          · simp [a, c]
        · obtain c | c : y.toNat % 2 = 0 ∨ y.toNat % 2 = 1 := by omega
          · simp [a, c]
          · simp [a, c]
      rw [b2]
      constructor
      · intro q; omega
      · intro q; omega) 28 0 rfl
  dsimp only [cgetE, refGet]
  rw [hl, if_pos (show (2 : Int) = 2 from rfl), List.isEmpty_cons, Bool.and_false, if_neg (show ¬ (false = true) by decide), sk]
  by_cases h0 : findD (x.toNat : Int) true = 0
  · rw [if_pos h0, if_pos h0, if_neg (by omega)]
    rfl
  · rw [if_neg h0, if_neg h0, if_pos (by omega)]
    have hj : (2 * (findD (x.toNat : Int) true - 1) + y.toNat % 2) / 2 + 1 = findD (x.toNat : Int) true := by omega
    have hm : (2 * (findD (x.toNat : Int) true - 1) + y.toNat % 2) % 2 = y.toNat % 2 := by omega
    have d5 : decide (findD (x.toNat : Int) true ≤ 5) = true := decide_eq_true hf
    have s := sec_all ⟨y.toNat, y.toNat_lt⟩
    have r := wide_read ⟨x.toNat, x.toNat_lt⟩ h3
    dsimp only at s r
    unfold read2V gotU
    dsimp only
    rw [hj, hm, d5, r, s.1, s.2]
    unfold tryNr
    rw [if_pos hf, if_pos rfl]
    rfl
theorem ref_get (s : List UInt8) (w : Bool) : cgetE s w = gotU (refGet s w) := by
  cases s with
  | nil => rfl
  | cons x t =>
    cases w
    · exact ref_get_narrow x t
    · by_cases h3 : x.toNat % 4 = 3
      · exact ref_get_wide1 x t h3
      · cases t with
        | cons y t => exact ref_get_wide2 x y t h3
        | nil =>
          obtain ⟨hl, _⟩ := wide_seek2 ⟨x.toNat, x.toNat_lt⟩ h3
          dsimp only at hl
          dsimp only [cgetE, refGet]
          rw [hl, if_pos rfl, if_pos (by simp [h3])]
          rfl
end Go.Proofs.YtadhiknmkiogjaaDoor
