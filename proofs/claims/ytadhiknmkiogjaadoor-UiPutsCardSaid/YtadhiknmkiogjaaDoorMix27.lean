/-
The landed code's Set.
Slices of anything that takes so many cells: of the call's own, and as one may read them; one more behind them.
Calls and entries as they lie in slices.
A datagram while it is being read: its box, its digipeaters, what it is read of.
-/
import Derived.Test.YtadhiknmkiogjaaDoorMix26
import Derived.Maps.AppendAt
import Derived.Test.YtadhiknmkiogjaaDoorMix25
namespace Go.Proofs.YtadhiknmkiogjaaDoor
open Go.RowKit Go.Sort
set_option maxRecDepth 20000
theorem cset0 (w : World) (N : Int) (a : Option Addr) (m cap : Nat) (fb tb t : ByteArray) (fn tn pid : Int) : Calls Tryd.prog 17 #[.pointer none, .int .i64 N, .agg #[.string fb, .int .i64 fn, .string tb, .int .i64 tn, .slice a m cap, .int .i64 pid, .string t]] w fun e w' => e = .returned (.int .i64 1) ∧ Below w.heap.size w w' := by
  have HB := Lib.hid ((Below.refl w.heap.size w).alloc (Nat.le_refl _) (.cells #[.string fb, .int .i64 fn, .string tb, .int .i64 tn, .slice a m cap, .int .i64 pid, .string t] 26))
  go_enter Tryd.func17, Tryd.ntmps17
  go_wp2_with fail
  exact bodyPost_ret (v := .int .i64 1) (by simp [results, Tryd.results17, go_sem]) rfl ⟨rfl, HB.out⟩
/-- which error Set tells -/
def setE (N : Int) (E : Nat) : Nat := if N < 0 ∨ 10000 < N then 1 else if N = 0 then 0 else E
theorem cset_bad (w : World) (p : Nat) (b : ByteArray) (n ev left : Int) (s : ByteArray) (h : RowAt w p (bcV b n ev left s)) (N : Int) (hN : N < 0 ∨ 10000 < N) (a : Option Addr) (m cap : Nat) (fb tb t : ByteArray) (fn tn pid : Int) :
    Calls Tryd.prog 17 #[ptrB p, .int .i64 N, .agg #[.string fb, .int .i64 fn, .string tb, .int .i64 tn, .slice a m cap, .int .i64 pid, .string t]] w fun e w' => e = .returned (.int .i64 1) ∧ RowAt w' p (bcV b n ev left s) ∧ Turn (fun k => k = p) w w' := by
  have hb := ((Below.refl w.heap.size w).alloc (Nat.le_refl _) (.cells #[.string fb, .int .i64 fn, .string tb, .int .i64 tn, .slice a m cap, .int .i64 pid, .string t] 26))
  have HR := Lib.hid (h.below hb)
  have HT := Lib.hid (Turn.of_below (F := fun k => k = p) hb)
  clear hb h
  by_cases h1 : N < 0
  · have d1 : decide (N < 0) = true := decide_eq_true h1
    clear hN h1
    go_enter Tryd.func17, Tryd.ntmps17
    go_wp2_with fail
    exact bodyPost_ret (v := .int .i64 1) (by simp [results, Tryd.results17, go_sem]) rfl ⟨rfl, HR.out, HT.out⟩
  · have d1 : decide (N < 0) = false := decide_eq_false h1
    have d2 : decide (10000 < N) = true := decide_eq_true (hN.resolve_left h1)
    clear hN h1
    go_enter Tryd.func17, Tryd.ntmps17
    go_wp2_with fail
    exact bodyPost_ret (v := .int .i64 1) (by simp [results, Tryd.results17, go_sem]) rfl ⟨rfl, HR.out, HT.out⟩
theorem cset_off (w : World) (p : Nat) (b : ByteArray) (n ev left : Int) (s : ByteArray) (h : RowAt w p (bcV b n ev left s)) (a : Option Addr) (m cap : Nat) (fb tb t : ByteArray) (fn tn pid : Int) :
    Calls Tryd.prog 17 #[ptrB p, .int .i64 0, .agg #[.string fb, .int .i64 fn, .string tb, .int .i64 tn, .slice a m cap, .int .i64 pid, .string t]] w fun e w' => e = .returned (.int .i64 0) ∧ RowAt w' p (bcV b n 0 0 ⟨#[]⟩) ∧ Turn (fun k => k = p) w w' := by
  obtain ⟨w1, hw1⟩ : ∃ w1, w1 = w.alloc (.cells #[.string fb, .int .i64 fn, .string tb, .int .i64 tn, .slice a m cap, .int .i64 pid, .string t] 26) := ⟨_, rfl⟩
  have hb : Below w.heap.size w w1 := by rw [hw1]; exact (Below.refl w.heap.size w).alloc (Nat.le_refl _) _
  have hr := h.below hb
  have hn := ((((hr.put 0 (.string b) (bcV b n ev left s) rfl).put 1 (.int .i64 n) (bcV b n ev left s) rfl).put 2 (.int .i64 0) (bcV b n 0 left s) rfl).put 3 (.int .i64 0) (bcV b n 0 0 s) rfl).put 4 (.string ⟨#[]⟩) (bcV b n 0 0 ⟨#[]⟩) rfl
  have HN := Lib.hid hn
  have HT := Lib.hid (((((Turn.of_below (F := fun k => k = p) hb).set (p := ⟨p, 0, none⟩) (Or.inl rfl) (.string b)).set (p := ⟨p, 1, none⟩) (Or.inl rfl) (.int .i64 n)).set (p := ⟨p, 2, none⟩) (Or.inl rfl) (.int .i64 0)).set (p := ⟨p, 3, none⟩) (Or.inl rfl) (.int .i64 0) |>.set (p := ⟨p, 4, none⟩) (Or.inl rfl) (.string ⟨#[]⟩))
  obtain ⟨x0, f0, l0⟩ := hr.get 0 rfl
  obtain ⟨x1, f1, l1⟩ := hr.get 1 rfl
  obtain ⟨x2, f2, l2⟩ := hr.get 2 rfl
  obtain ⟨x3, f3, l3⟩ := hr.get 3 rfl
  obtain ⟨x4, f4, l4⟩ := hr.get 4 rfl
  clear h hb hr hn
  go_enter Tryd.func17, Tryd.ntmps17
  go_upto_region 4 with fail
  rw [← hw1]
  clear hw1
  go_wp2_with fail
  exact bodyPost_ret (v := .int .i64 0) (by simp [results, Tryd.results17, go_sem]) rfl ⟨rfl, HN.out, HT.out⟩
set_option maxHeartbeats 1000000 in
theorem cset_go (w : World) (p : Nat) (b : ByteArray) (n ev left : Int) (s : ByteArray) (h : RowAt w p (bcV b n ev left s)) (hCo : CodesOk w) (N : Int) (hN : 0 < N ∧ N ≤ 10000) (fb tb : ByteArray) (fn tn : Int) (a : Option Addr) (cap : Nat) (C : List (ByteArray × Int)) (pid : Int) (t : ByteArray) (hC : C.length ≤ 900) (hE : CallsAt w a C)
    (hf : b.size ≤ 140737488351232) (ht : tb.size ≤ 140737488351232) (hs : ∀ x ∈ C, x.1.size ≤ 140737488351232) (E : Nat) (hEE : E = gramE b tb n tn C 240 t.size) (S : ByteArray) (hSS : S = gramS b tb n tn C 240 t) :
    Calls Tryd.prog 17 #[ptrB p, .int .i64 N, .agg #[.string fb, .int .i64 fn, .string tb, .int .i64 tn, .slice a C.length cap, .int .i64 pid, .string t]] w fun e w' => e = .returned (.int .i64 (E : Nat)) ∧ RowAt w' p (if E = 0 then bcV b n N N S else bcV b n ev left s) ∧ Turn (fun k => k = p) w w' := by
  have hb1 := (Below.refl w.heap.size w).alloc (Nat.le_refl _) (.cells #[.string b, .int .i64 n, .string tb, .int .i64 tn, .slice a C.length cap, .int .i64 240, .string t] 26)
  have HB1 := Lib.hid hb1
  have HP := Lib.hid (h.below hb1)
  have HPU := Lib.hid (show ∀ W, Below w.heap.size w W → Calls Tryd.prog 8 #[.agg #[.string b, .int .i64 n, .string tb, .int .i64 tn, .slice a C.length cap, .int .i64 240, .string t]] W fun e w' => e = .returned (.tuple #[.string S, .int .i64 (E : Nat)]) ∧ Below W.heap.size W w' from fun W hb => by rw [hSS, hEE]; exact uput_any b tb n tn a cap C 240 t W (hCo.below hb) hC (hE.below hb) hf ht hs)
  have d1 : decide (N < 0) = false := decide_eq_false (by omega)
  have d2 : decide (10000 < N) = false := decide_eq_false (by omega)
  have d3 : (N == 0) = false := by rw [beq_eq_false_iff_ne]; omega
  have x0 := h.cell 0 rfl
  have x1 := h.cell 1 rfl
  have hlt := RowAt.lt h
  clear hN hC hE hf ht hs hCo hEE hSS hb1
  by_cases h0 : E = 0
  · have hz : ((E : Int) != 0) = false := by rw [h0]; rfl
    have HZ := Lib.hid h0
    rw [if_pos h0]
    clear h0
    go_enter Tryd.func17, Tryd.ntmps17
    go_wp2_with (go_at_call 8; (with_reducible refine (HPU.out _ HB1.out).mono ?_); rintro e w2 ⟨rfl, hb⟩; have hb2 := HB1.out.trans (hb.mono HB1.out.size); have hr := HP.out.below hb; have hn := (((hr.put 2 (.int .i64 N) (bcV b n N left s) rfl).put 3 (.int .i64 N) (bcV b n N N s) rfl).put 4 (.string S) (bcV b n N N S) rfl); have HN := Lib.hid hn; have HT := Lib.hid ((((Turn.of_below (F := fun k => k = p) hb2).set (p := ⟨p, 2, none⟩) (Or.inl rfl) (.int .i64 N)).set (p := ⟨p, 3, none⟩) (Or.inl rfl) (.int .i64 N)).set (p := ⟨p, 4, none⟩) (Or.inl rfl) (.string S)); clear x0 x1; obtain ⟨x2, f2, l2⟩ := hr.get 2 rfl; obtain ⟨x3, f3, l3⟩ := hr.get 3 rfl; obtain ⟨x4, f4, l4⟩ := hr.get 4 rfl; clear hb hb2 hr hn)
    exact bodyPost_ret (v := .int .i64 0) (by simp [results, Tryd.results17, go_sem]) rfl ⟨by rw [HZ.out]; rfl, HN.out, HT.out⟩
  · have hz : ((E : Int) != 0) = true := by rw [bne_iff_ne]; omega
    rw [if_neg h0]
    clear h0
    go_enter Tryd.func17, Tryd.ntmps17
    go_wp2_with (go_at_call 8; (with_reducible refine (HPU.out _ HB1.out).mono ?_); rintro e w2 ⟨rfl, hb⟩; have hb2 := HB1.out.trans (hb.mono HB1.out.size); have HN := Lib.hid (HP.out.below hb); have HT := Lib.hid (Turn.of_below (F := fun k => k = p) hb2); clear hb hb2 x0 x1)
    exact bodyPost_ret (v := .int .i64 (E : Nat)) (by simp [results, Tryd.results17, go_sem]) rfl ⟨rfl, HN.out, HT.out⟩
end Go.Proofs.YtadhiknmkiogjaaDoor
namespace Go.Proofs.YtadhiknmkiogjaaDoor
set_option maxRecDepth 20000
open Go.RowKit
/-- how a thing lies: so many cells -/
structure Enc (α : Type) where
  n : Nat
  pos : 0 < n
  enc : α → List Value
  len : ∀ a, (enc a).length = n
  one : ∀ a, ∀ u ∈ enc a, u.oneCell' = true
variable {α : Type}
def flatE (E : Enc α) (L : List α) : List Value := L.flatMap E.enc
theorem flatE_length (E : Enc α) : ∀ L : List α, (flatE E L).length = L.length * E.n
  | [] => by simp [flatE]
  | a :: L => by
    have ih := flatE_length E L
    unfold flatE at ih ⊢
    rw [List.flatMap_cons, List.length_append, E.len, ih, List.length_cons, Nat.add_mul]
    omega
theorem flatE_append (E : Enc α) (L M : List α) : flatE E (L ++ M) = flatE E L ++ flatE E M := by simp [flatE]
theorem flatE_single (E : Enc α) (a : α) : flatE E [a] = E.enc a := by simp [flatE]
theorem flatE_at (E : Enc α) : ∀ (L : List α) (k : Nat) (hk : k < L.length) (j : Nat), j < E.n → (flatE E L)[k * E.n + j]? = (E.enc L[k])[j]?
  | a :: L, 0, _, j, hj => by
    unfold flatE
    rw [List.flatMap_cons, List.getElem?_append_left (by rw [E.len]; omega)]
    simp
  | a :: L, k + 1, hk, j, hj => by
    have ih := flatE_at E L k (by simpa using hk) j hj
    unfold flatE at ih ⊢
    rw [List.flatMap_cons, List.getElem?_append_right (by rw [E.len, Nat.add_mul]; omega), E.len]
    rw [show (k + 1) * E.n + j - E.n = k * E.n + j by rw [Nat.add_mul]; omega]
    simpa using ih
/-- a slice of the call's own -/
def OwnL (E : Enc α) (T : TypeId) (w : World) (B : Nat) (v : Value) (L : List α) : Prop := w.ownsRow B T E.n v L.length (flatE E L)
theorem OwnL.nil (E : Enc α) (T : TypeId) (w : World) (B : Nat) : OwnL E T w B (.slice none 0 0) [] := ⟨by simp [flatE], Or.inl ⟨rfl, rfl⟩⟩
theorem OwnL.ge {E : Enc α} {T : TypeId} {w : World} {B g : Nat} {v : Value} {L : List α} (h : OwnL E T w B v L) (hv : v.ownBlock = some g) : B ≤ g ∧ g < w.heap.size := World.ownsRow.lt h g hv
theorem OwnL.base {E : Enc α} {T : TypeId} {w : World} {B B' : Nat} {v : Value} {L : List α} (h : OwnL E T w B v L) (hB : B' ≤ B) : OwnL E T w B' v L := by
  refine ⟨h.1, ?_⟩
  rcases h.2 with h0 | ⟨g, cap, cur, hv, hbg, rest⟩
  · exact Or.inl h0
  · exact Or.inr ⟨g, cap, cur, hv, Nat.le_trans hB hbg, rest⟩
theorem OwnL.same {E : Enc α} {T : TypeId} {w w' : World} {B : Nat} {v : Value} {L : List α} (h : OwnL E T w B v L) (hb : ∀ g, v.ownBlock = some g → w'.heap[g]? = w.heap[g]?) : OwnL E T w' B v L := by
  refine ⟨h.1, ?_⟩
  rcases h.2 with h0 | ⟨g, cap, cur, hv, hbg, hg, rest⟩
  · exact Or.inl h0
  · exact Or.inr ⟨g, cap, cur, hv, hbg, by rw [hb g (by rw [hv]; rfl)]; exact hg, rest⟩
theorem OwnL.below {E : Enc α} {T : TypeId} {w w' : World} {B : Nat} {v : Value} {L : List α} (h : OwnL E T w B v L) (hb : Below w.heap.size w w') : OwnL E T w' B v L := h.same fun g hv => hb.block g (h.ge hv).2
theorem OwnL.turn {E : Enc α} {T : TypeId} {F : Nat → Prop} {w w' : World} {B : Nat} {v : Value} {L : List α} (h : OwnL E T w B v L) (hb : Turn F w w') (hF : ∀ g, v.ownBlock = some g → ¬ F g) : OwnL E T w' B v L := h.same fun g hv => hb.block g (h.ge hv).2 (hF g hv)
theorem OwnL.alloc {E : Enc α} {T : TypeId} {w : World} {B : Nat} {v : Value} {L : List α} (h : OwnL E T w B v L) (o : Obj) : OwnL E T (w.alloc o) B v L := World.ownsRow.alloc h o
theorem OwnL.drew {E : Enc α} {T : TypeId} {w : World} {B : Nat} {v : Value} {L : List α} (h : OwnL E T w B v L) : OwnL E T w.drew B v L := h
theorem OwnL.grown {E : Enc α} {T : TypeId} {w w' : World} {B : Nat} {v : Value} {L : List α} {row : Option Nat} (h : OwnL E T w B v L) (hg : w.grownBy w' row) (hr : ∀ g, v.ownBlock = some g → row ≠ some g) : OwnL E T w' B v L :=
  World.ownsRow.kept h hg (by
    cases hv : v.ownBlock with
    | none => exact Or.inl rfl
    | some g => exact Or.inr (fun e => hr g hv e.symm))
/-- as one may read it -/
def AtL (E : Enc α) (w : World) (a : Option Addr) (L : List α) : Prop :=
  ∀ k (hk : k < L.length), ∃ g o, a = some ⟨g, o, none⟩ ∧ g < w.heap.size ∧ ∀ j u, (E.enc L[k])[j]? = some u → w.cell? ⟨g, o + k * E.n + j, none⟩ = some u
def SeeL (E : Enc α) (w : World) (v : Value) (L : List α) : Prop := ∃ a cap, v = .slice a L.length cap ∧ AtL E w a L
theorem AtL.nil (E : Enc α) (w : World) (a : Option Addr) : AtL E w a ([] : List α) := fun k hk => by simp at hk
theorem AtL.same {E : Enc α} {w w' : World} {a : Option Addr} {L : List α} (h : AtL E w a L) (hb : ∀ p, a = some p → w'.heap[p.block]? = w.heap[p.block]?) (hs : w.heap.size ≤ w'.heap.size) : AtL E w' a L := by
  intro k hk
  obtain ⟨g, o, ha, hg, hc⟩ := h k hk
  refine ⟨g, o, ha, Nat.lt_of_lt_of_le hg hs, fun j u hj => ?_⟩
  exact (World.cell?_of_block (a := ⟨g, o + k * E.n + j, none⟩) (hb ⟨g, o, none⟩ ha)).trans (hc j u hj)
theorem AtL.below {E : Enc α} {w w' : World} {a : Option Addr} {L : List α} (h : AtL E w a L) (hb : Below w.heap.size w w') : AtL E w' a L := by
  intro k hk
  obtain ⟨g, o, ha, hg, hc⟩ := h k hk
  refine ⟨g, o, ha, Nat.lt_of_lt_of_le hg hb.size, fun j u hj => ?_⟩
  exact (World.cell?_of_block (a := ⟨g, o + k * E.n + j, none⟩) (hb.block g hg)).trans (hc j u hj)
theorem AtL.turn {E : Enc α} {F : Nat → Prop} {w w' : World} {a : Option Addr} {L : List α} (h : AtL E w a L) (hb : Turn F w w') (hF : ∀ p, a = some p → ¬ F p.block) : AtL E w' a L := by
  intro k hk
  obtain ⟨g, o, ha, hg, hc⟩ := h k hk
  refine ⟨g, o, ha, Nat.lt_of_lt_of_le hg hb.size, fun j u hj => ?_⟩
  exact (World.cell?_of_block (a := ⟨g, o + k * E.n + j, none⟩) (hb.block g hg (hF ⟨g, o, none⟩ ha))).trans (hc j u hj)
theorem AtL.set {E : Enc α} {w : World} {a : Option Addr} {L : List α} (h : AtL E w a L) {p : Addr} (v : Value) (hp : ∀ q, a = some q → q.block ≠ p.block) : AtL E (w.setCell p v) a L :=
  h.same (fun q hq => Below.heap_setCell _ _ _ _ (hp q hq)) (by simp [World.setCell])
theorem AtL.alloc {E : Enc α} {w : World} {a : Option Addr} {L : List α} (h : AtL E w a L) (o : Obj) : AtL E (w.alloc o) a L := h.below ((Below.refl _ w).alloc (Nat.le_refl _) o)
theorem AtL.drew {E : Enc α} {w : World} {a : Option Addr} {L : List α} (h : AtL E w a L) : AtL E w.drew a L := h
theorem AtL.some_ {E : Enc α} {w : World} {a : Option Addr} {L : List α} (h : AtL E w a L) (h0 : 0 < L.length) : ∃ g o, a = some ⟨g, o, none⟩ ∧ g < w.heap.size := by
  obtain ⟨g, o, ha, hg, _⟩ := h 0 h0
  exact ⟨g, o, ha, hg⟩
/-- a cell of one of them -/
theorem AtL.get {E : Enc α} {w : World} {g o : Nat} {L : List α} (h : AtL E w (some ⟨g, o, none⟩) L) (k : Nat) (hk : k < L.length) (j : Nat) {u : Value} (e : (E.enc L[k])[j]? = some u) : w.cell? ⟨g, o + k * E.n + j, none⟩ = some u := by
  obtain ⟨g', o', ha, _, hc⟩ := h k hk
  simp only [Option.some.injEq, Addr.mk.injEq, and_true] at ha
  obtain ⟨rfl, rfl⟩ := ha
  exact hc j u e
theorem SeeL.below {E : Enc α} {w w' : World} {v : Value} {L : List α} (h : SeeL E w v L) (hb : Below w.heap.size w w') : SeeL E w' v L := by
  obtain ⟨a, cap, hv, hA⟩ := h
  exact ⟨a, cap, hv, hA.below hb⟩
theorem OwnL.see {E : Enc α} {T : TypeId} {w : World} {B : Nat} {v : Value} {L : List α} (h : OwnL E T w B v L) : SeeL E w v L := by
  rcases h.2 with ⟨hv, h0⟩ | ⟨g, cap, cur, hv, hb, hg, hc, hm, rest⟩
  · obtain rfl : L = [] := List.length_eq_zero_iff.1 h0
    exact ⟨none, 0, hv, AtL.nil E w none⟩
  · refine ⟨some ⟨g, 0, none⟩, cap, hv, fun k hk => ⟨g, 0, rfl, (h.ge (by rw [hv]; rfl)).2, fun j u hj => ?_⟩⟩
    have hjn : j < E.n := by
      have := (List.getElem?_eq_some_iff.1 hj).1
      rwa [E.len] at this
    have hl := World.ownsRow.cells h (g := g) (by rw [hv]; rfl) (k * E.n + j) u (by rw [flatE_at E L k hk j hjn]; exact hj)
    have e : (⟨g, 0, none⟩ : Addr).add (k * E.n + j) = ⟨g, k * E.n + j, none⟩ := by unfold Addr.add; split <;> simp_all
    rw [e] at hl
    rw [Nat.zero_add]
    exact hl
/-- where an own slice's cells lie, if it has some -/
theorem OwnL.some_ {E : Enc α} {T : TypeId} {w : World} {B : Nat} {v : Value} {L : List α} (h : OwnL E T w B v L) (h0 : 0 < L.length) : ∃ g c, v = .slice (some ⟨g, 0, none⟩) L.length c ∧ B ≤ g ∧ g < w.heap.size ∧ AtL E w (some ⟨g, 0, none⟩) L := by
  rcases h.2 with ⟨_, h1⟩ | ⟨g, c, cur, hv, hb, _⟩
  · omega
  · subst hv
    obtain ⟨a, cap, hv, hA⟩ := h.see
    simp only [Value.slice.injEq] at hv
    obtain ⟨rfl, -, rfl⟩ := hv
    exact ⟨g, c, rfl, hb, (World.ownsRow.lt h g rfl).2, hA⟩
/-- things just laid, as a slice of the call's own -/
theorem OwnL.lit (E : Enc α) (T : TypeId) (w : World) (B : Nat) (L : List α) (V : List Value) (hV : V = flatE E L) (hB : B ≤ w.heap.size) (hl : L.length ≤ 100000) (n : Nat) (hn : n = L.length) :
    OwnL E T (w.alloc (.cells V.toArray T)) B (.slice (some ⟨w.heap.size, 0, none⟩) n n) L := by
  subst hV hn
  have := World.ownsRow_lit (base := B) (e := T) (size := E.n) w (flatE E L).toArray L.length hB (by unfold maxLen; omega) (by
    rw [List.size_toArray, flatE_length])
  exact this
/-- slices of unlike things lie apart -/
theorem OwnL.apart {β : Type} {E : Enc α} {E' : Enc β} {T T' : TypeId} {w : World} {B B' g : Nat} {v u : Value} {L : List α} {M : List β} (h : OwnL E T w B v L) (k : OwnL E' T' w B' u M) (hT : T ≠ T') (hv : v.ownBlock = some g) : u.ownBlock ≠ some g := by
  intro ht
  rcases h.2 with ⟨rfl, _⟩ | ⟨g1, cap, cur, rfl, _, hg, _⟩
  · cases hv
  · rcases k.2 with ⟨rfl, _⟩ | ⟨g2, cap2, cur2, rfl, _, hg2, _⟩
    · cases ht
    · simp only [Value.ownBlock, Option.some.injEq] at hv ht
      subst hv
      subst ht
      rw [hg] at hg2
      simp only [Option.some.injEq, Obj.cells.injEq] at hg2
      exact hT hg2.2.1
/-- one that has just been laid -/
theorem AtL.made (E : Enc α) (T : TypeId) (w : World) (m : Nat) (u : α) (V : List Value) (hV : V = E.enc u) (hm : m = w.heap.size) : AtL E (w.alloc (.cells V.toArray T)) (some ⟨m, 0, none⟩) [u] := by
  subst hV hm
  intro k hk
  obtain rfl : k = 0 := by simpa using hk
  refine ⟨w.heap.size, 0, rfl, by simp, fun j v hj => (World.cell?_alloc_at _ _ _ _ (by simp)).trans ?_⟩
  simpa using hj
/-- one more behind a slice of the call's own -/
theorem wpList_append_one (E : Enc α) (T S : TypeId) (hS : Tryd.prog.underlying S = some (.slice T)) {z : Value} {bytes : Nat} (hi : (Tryd.prog.info? T).map (fun i => (i.zero, i.size, i.bytes)) = some (some z, E.n, bytes)) (hz : z.cells.size = E.n) (hby : bytes ≤ 4096)
    (w : World) {ops : Array Oper} {rest : List Oper} {o : Oper} {a : Act} {Q : Exit → Act → World → Prop} (hgd : o.guard = none) (s x : Operand) (ho : o.op = .call { callee := .builtin .append, args := #[s, x], argTypes := #[S, S] })
    (B : Nat) (v : Value) (L : List α) (hs : a.eval s = v) (hown : OwnL E T w B v L) (m c : Nat) (hx : a.eval x = .slice (some ⟨m, 0, none⟩) 1 c) (u : α) (hm : AtL E w (some ⟨m, 0, none⟩) [u]) (hlen : L.length ≤ 100000) (hB : B ≤ w.heap.size)
    (h : ∀ v' w', OwnL E T w' B v' (L ++ [u]) → w.grownBy w' v.ownBlock → (v'.ownBlock = v.ownBlock ∨ v'.ownBlock = some w.heap.size) → wpList Tryd.prog ops Q rest (a.put o.dst v') w') : wpList Tryd.prog ops Q (o :: rest) a w := by
  refine wpList_plain hgd fun K hK => ?_
  obtain ⟨i0, hi0, hz0, hz1, hz2⟩ := info_parts hi
  obtain ⟨v', w', hr, h2, h3, h4, h5⟩ := run_append_own_at (P := Tryd.prog) w B S o.type T i0 z E.n bytes hS hi0 hz0 hz1 hz2 hz E.pos v L.length (flatE E L) hown ⟨m, 0, none⟩ 1 c (E.enc u) (by rw [E.len, Nat.one_mul]) (fun j y hj => by
    have := hm.get 0 (by simp) j hj
    have e : (⟨m, 0, none⟩ : Addr).add j = ⟨m, j, none⟩ := by unfold Addr.add; split <;> simp_all
    rw [e]
    simpa using this) (E.one u) (by unfold maxLen; omega) (Nat.le_trans (Nat.mul_le_mul_left _ hby) (by omega)) hB
  unfold Oper.wp execOp
  simp only [ho, resolve, invoke, builtin, Sem.run_bind, Sem.run_pure, Result.andThen_ok, List.map_toArray, List.map_cons, List.map_nil, hs, hx, hr]
  exact hK _ _ (h v' w' (by unfold OwnL; rw [List.length_append, flatE_append, flatE_single]; exact h2) h3 h5)
/-- an append that runs so -/
theorem wp_append_run {P : Program} {t : TypeId} {w : World} {o : Oper} {a : Act} {Q : Exit → Act → World → Prop} {K : Act → World → Prop} (s x : Operand) (ho : o.op = .call { callee := .builtin .append, args := #[s, x], argTypes := #[t, t] })
    {vs vx v' : Value} {w' : World} (hs : a.eval s = vs) (hx : a.eval x = vx) (hr : (Builtin.append_ #[t, t] o.type #[vs, vx]).run P w = .ok v' w') (h : K (a.put o.dst v') w') : Oper.wp P o a w K Q := by
  unfold Oper.wp execOp
  simp only [ho, resolve, invoke, builtin, Sem.run_bind, Sem.run_pure, Result.andThen_ok, List.map_toArray, List.map_cons, List.map_nil, hs, hx, hr]
  exact h
theorem AtL.grown {E : Enc α} {w w' : World} {g o : Nat} {L : List α} {row : Option Nat} (h : AtL E w (some ⟨g, o, none⟩) L) (hg : w.grownBy w' row) (hr : row ≠ some g) (hl : g < w.heap.size) : AtL E w' (some ⟨g, o, none⟩) L :=
  h.same (fun p hp => by cases hp; exact hg.block g hl (fun e => hr e.symm)) hg.size
/-- one more thing behind an own slice -/
theorem run_append_one (E : Enc α) (T S : TypeId) (ty : TypeId) (hS : Tryd.prog.underlying S = some (.slice T)) {z : Value} {bytes : Nat} (hi : (Tryd.prog.info? T).map (fun i => (i.zero, i.size, i.bytes)) = some (some z, E.n, bytes)) (hz : z.cells.size = E.n) (hby : bytes ≤ 4096)
    (w : World) (B : Nat) (v : Value) (L : List α) (hown : OwnL E T w B v L) (m c : Nat) (u : α) (hm : AtL E w (some ⟨m, 0, none⟩) [u]) (hlen : L.length ≤ 100000) (hB : B ≤ w.heap.size) :
    ∃ v' w', (Builtin.append_ #[S, S] ty #[v, .slice (some ⟨m, 0, none⟩) 1 c]).run Tryd.prog w = .ok v' w' ∧ OwnL E T w' B v' (L ++ [u]) ∧ w.grownBy w' v.ownBlock ∧ (v'.ownBlock = v.ownBlock ∨ v'.ownBlock = some w.heap.size) := by
  obtain ⟨i0, hi0, hz0, hz1, hz2⟩ := info_parts hi
  obtain ⟨v', w', hr, h2, h3, h4, h5⟩ := run_append_own_at (P := Tryd.prog) w B S ty T i0 z E.n bytes hS hi0 hz0 hz1 hz2 hz E.pos v L.length (flatE E L) hown ⟨m, 0, none⟩ 1 c (E.enc u) (by rw [E.len, Nat.one_mul]) (fun j y hj => by
    have := hm.get 0 (by simp) j hj
    have e : (⟨m, 0, none⟩ : Addr).add j = ⟨m, j, none⟩ := by unfold Addr.add; split <;> simp_all
    rw [e]
    simpa using this) (E.one u) (by unfold maxLen; omega) (Nat.le_trans (Nat.mul_le_mul_left _ hby) (by omega)) hB
  exact ⟨v', w', hr, by unfold OwnL; rw [List.length_append, flatE_append, flatE_single]; exact h2, h3, h5⟩
/-- behind it -/
theorem OwnL.appended {E : Enc α} {T : TypeId} {w0 wr w1 : World} {b0 B : Nat} {v : Value} {L : List α} (h : OwnL E T wr B v L) (hb : Below b0 w0 wr) (hbB : b0 ≤ B) (hbw : b0 ≤ wr.heap.size) (hg : wr.grownBy w1 v.ownBlock) : Below b0 w0 w1 :=
  hb.grown hg hbw (fun _ hk => Nat.le_trans hbB (h.ge hk).1)
/-- texts -/
def encS : Enc ByteArray := ⟨1, by omega, fun b => [.string b], fun _ => rfl, fun _ u hu => by rw [List.mem_singleton.1 hu]; rfl⟩
/-- numbers -/
def encI : Enc Int := ⟨1, by omega, fun b => [.int .i64 b], fun _ => rfl, fun _ u hu => by rw [List.mem_singleton.1 hu]; rfl⟩
end Go.Proofs.YtadhiknmkiogjaaDoor
namespace Go.Proofs.YtadhiknmkiogjaaDoor
open Go.RowKit Go.Sort
set_option maxRecDepth 20000
def encCl : Enc (ByteArray × Int) := ⟨2, by omega, fun c => [.string c.1, .int .i64 c.2], fun _ => rfl, fun _ u hu => by
  rcases List.mem_cons.1 hu with rfl | hu
  · rfl
  · rw [List.mem_singleton.1 hu]
    rfl⟩
theorem infoCl : (Tryd.prog.info? 23).map (fun i => (i.zero, i.size, i.bytes)) = some (some (.agg #[.string ⟨#[]⟩, .int .i64 0]), 2, 24) := by kernel_rfl
theorem AtL.calls {w : World} {a : Option Addr} {C : List (ByteArray × Int)} (h : AtL encCl w a C) : CallsAt w a C := fun k hk => by
  obtain ⟨g, o, ha, hg, hc⟩ := h k hk
  refine ⟨g, o, ha, hg, hc 0 _ rfl, hc 1 _ rfl⟩
theorem CallsAt.same {w w' : World} {a : Option Addr} {C : List (ByteArray × Int)} (h : CallsAt w a C) (hb : ∀ p, a = some p → w'.heap[p.block]? = w.heap[p.block]?) (hs : w.heap.size ≤ w'.heap.size) : CallsAt w' a C := fun k hk => by
  obtain ⟨g, o, ha, hg, h0, h1⟩ := h k hk
  refine ⟨g, o, ha, Nat.lt_of_lt_of_le hg hs, (World.cell?_of_block (a := ⟨g, o + k * 2, none⟩) (hb ⟨g, o, none⟩ ha)).trans h0, (World.cell?_of_block (a := ⟨g, o + k * 2 + 1, none⟩) (hb ⟨g, o, none⟩ ha)).trans h1⟩
theorem EntsAt.same {w w' : World} {a : Option Addr} {cap : Nat} {L : List Ent} (h : EntsAt w a cap L) (hb : ∀ p, a = some p → w'.heap[p.block]? = w.heap[p.block]?) (hs : w.heap.size ≤ w'.heap.size) : EntsAt w' a cap L := by
  refine ⟨h.le, h.max, fun k hk => ?_⟩
  obtain ⟨g, o, ha, hg, h0, h1, h2⟩ := h.at_ k hk
  have hq := hb ⟨g, o, none⟩ ha
  exact ⟨g, o, ha, Nat.lt_of_lt_of_le hg hs, (World.cell?_of_block (a := ⟨g, o + k * 3, none⟩) hq).trans h0, (World.cell?_of_block (a := ⟨g, o + k * 3 + 1, none⟩) hq).trans h1, (World.cell?_of_block (a := ⟨g, o + k * 3 + 2, none⟩) hq).trans h2⟩
end Go.Proofs.YtadhiknmkiogjaaDoor
namespace Go.Proofs.YtadhiknmkiogjaaDoor
open Go.RowKit Go.Sort
set_option maxRecDepth 20000
theorem EntsAt.same0 {w w' : World} {a : Option Addr} {cap : Nat} {L : List Ent} (h : EntsAt w a cap L) (hb : 0 < L.length → ∀ p, a = some p → w'.heap[p.block]? = w.heap[p.block]?) (hs : w.heap.size ≤ w'.heap.size) : EntsAt w' a cap L :=
  ⟨h.le, h.max, fun k hk => (EntsAt.same h (hb (by omega)) hs).at_ k hk⟩
theorem EntsAt.cells {w : World} {g o c : Nat} {L : List Ent} (h : EntsAt w (some ⟨g, o, none⟩) c L) (j : Nat) {d : Ent} (hj : L[j]? = some d) : w.cell? ⟨g, o + j * 3, none⟩ = some (.string d.1) ∧ w.cell? ⟨g, o + j * 3 + 1, none⟩ = some (.int .i64 d.2.1) ∧ w.cell? ⟨g, o + j * 3 + 2, none⟩ = some (.bool d.2.2) := by
  obtain ⟨hl, he⟩ := List.getElem?_eq_some_iff.1 hj
  obtain ⟨g', o', ha, -, h0, h1, h2⟩ := h.at_ j hl
  simp only [Option.some.injEq, Addr.mk.injEq, and_true] at ha
  obtain ⟨rfl, rfl⟩ := ha
  rw [he] at h0 h1 h2
  exact ⟨h0, h1, h2⟩
structure GgU (w W : World) (m f : Nat) (X : List Value) (da : Option Addr) (dc : Nat) (D : List Ent) (u0 u1 u2 u3 tv u5 u6 : Value) (L : List (ByteArray × Int)) : Prop where
  row : RowAt W m [u0, u1, u2, u3, tv, u5, u6]
  own : OwnL encCl 23 W (m + 1) tv L
  bel : Below w.heap.size w W
  res : P7 W w.heap.size (.string ⟨#[]⟩) (.int .i64 0) (.string ⟨#[]⟩) (.int .i64 0) (.slice none 0 0) (.int .i64 0) (.string ⟨#[]⟩)
  ents : EntsAt W da dc D
  ex : RowAt W f X
  off : 0 < D.length → ∀ q, da = some q → q.block < m
  lt : w.heap.size < m ∧ f < m ∧ m < W.heap.size
section
variable {w W W' : World} {m f : Nat} {X : List Value} {da : Option Addr} {dc : Nat} {D : List Ent} {u0 u1 u2 u3 tv u5 u6 : Value} {L : List (ByteArray × Int)}
theorem GgU.below (h : GgU w W m f X da dc D u0 u1 u2 u3 tv u5 u6 L) (hb : Below W.heap.size W W') : GgU w W' m f X da dc D u0 u1 u2 u3 tv u5 u6 L :=
  ⟨h.row.below hb, h.own.below hb, h.bel.trans (hb.mono h.bel.size), h.res.below hb, h.ents.below hb, h.ex.below hb, h.off, h.lt.1, h.lt.2.1, Nat.lt_of_lt_of_le h.lt.2.2 hb.size⟩
theorem GgU.alloc (h : GgU w W m f X da dc D u0 u1 u2 u3 tv u5 u6 L) (o : Obj) : GgU w (W.alloc o) m f X da dc D u0 u1 u2 u3 tv u5 u6 L := h.below ((Below.refl _ W).alloc (Nat.le_refl _) _)
theorem GgU.drew (h : GgU w W m f X da dc D u0 u1 u2 u3 tv u5 u6 L) : GgU w W.drew m f X da dc D u0 u1 u2 u3 tv u5 u6 L := h.below ((Below.refl _ W).drew)
/-- behind an append, and then behind the store -/
theorem GgU.grown {w1 : World} {v' : Value} {L' : List (ByteArray × Int)} (h : GgU w W m f X da dc D u0 u1 u2 u3 tv u5 u6 L) (h1 : OwnL encCl 23 w1 (m + 1) v' L') (hg : W.grownBy w1 tv.ownBlock) (hv : v'.ownBlock = tv.ownBlock ∨ v'.ownBlock = some W.heap.size) :
    RowAt w1 m [u0, u1, u2, u3, tv, u5, u6] ∧ EntsAt w1 da dc D ∧ RowAt w1 f X ∧ GgU w (w1.setCell ⟨m, 4, none⟩ v') m f X da dc D u0 u1 u2 u3 v' u5 u6 L' := by
  have hlo : ∀ g, g ≤ m → w1.heap[g]? = W.heap[g]? := fun g hgm => hg.block g (Nat.lt_of_le_of_lt hgm h.lt.2.2) (fun e => by have := (h.own.ge e.symm).1; omega)
  have hr := h.row.block (hlo m (Nat.le_refl _)) hg.size
  have hvm : v'.ownBlock ≠ some m := by
    rcases hv with e | e
    · rw [e]; intro q; have := (h.own.ge q).1; omega
    · rw [e]; intro q; have := Option.some.inj q; have := h.lt; omega
  have he : EntsAt w1 da dc D := h.ents.same0 (fun h0 p hp => hlo _ (Nat.le_of_lt (h.off h0 p hp))) hg.size
  have hx := h.ex.block (hlo f (Nat.le_of_lt h.lt.2.1)) hg.size
  have hb := h.own.appended h.bel (by have := h.lt; omega) h.bel.size hg
  have hlt := h.lt
  refine ⟨hr, he, hx, hr.put 4 v' _ rfl, ?_, hb.setCell (p := ⟨m, 4, none⟩) (Nat.le_of_lt hlt.1) v', ?_, ?_, hx.other v' (by omega), h.off, hlt.1, hlt.2.1, by simpa [World.setCell] using Nat.lt_of_lt_of_le hlt.2.2 hg.size⟩
  · exact h1.same fun g hgv => Below.heap_setCell _ _ _ _ (fun e => hvm (by rw [hgv]; exact congrArg some (show g = m from e)))
  · have h7 := h.res
    have hb7 := hlo w.heap.size (Nat.le_of_lt hlt.1)
    exact ⟨(h7.k0.block hb7 hg.size).other _ (by omega), (h7.k1.block hb7 hg.size).other _ (by omega), (h7.k2.block hb7 hg.size).other _ (by omega), (h7.k3.block hb7 hg.size).other _ (by omega), (h7.k4.block hb7 hg.size).other _ (by omega), (h7.k5.block hb7 hg.size).other _ (by omega), (h7.k6.block hb7 hg.size).other _ (by omega)⟩
  · exact he.same0 (fun h0 p hp => Below.heap_setCell _ _ _ _ (by have := h.off h0 p hp; show p.block ≠ m; omega)) (by simp [World.setCell])
end
theorem own_form22 {α : Type} {E : Enc α} {T : TypeId} {w : World} {B : Nat} {v : Value} {L : List α} (h : OwnL E T w B v L) : ∃ a n c, v = .slice a n c := by
  rcases h.2 with ⟨h0, _⟩ | ⟨g', cap, cur, h0, _⟩
  · exact ⟨_, _, _, h0⟩
  · exact ⟨_, _, _, h0⟩
theorem call_next (D : List Ent) (k : Nat) (h : k < D.length) : (D.take (k + 1)).map callOf = (D.take k).map callOf ++ [(D[k].1, D[k].2.1)] := by
  rw [List.take_succ_eq_append_getElem h, List.map_append]
  rfl
end Go.Proofs.YtadhiknmkiogjaaDoor
