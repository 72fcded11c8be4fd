/-
Entries of a path as they lie in memory; their order; the first that waits.
The landed code's of.
The document's own Right of paths.
The path with whose bytes a text begins, as a plain function.
-/
import Derived.Test.YtmgfpnemamedoaaDoorMix01
import Derived.Deep.AppendSrc
import Derived.Deep.Upon
import Derived.Maps.AppendAt
import Derived.Lib.SmallJoins
import Derived.Lib.ItoaNum
import Derived.BigRegion
import Derived.IntWalk
import Derived.Lib.QuietBelow
import Derived.BigQuiet
import Derived.Deep.QuietTactic
import Derived.Lib.IndexBytes
import Derived.OrdersHeld
import Derived.Deep.RegionHeld
namespace Go.Proofs.YtmgfpnemamedoaaDoor
open Go.RowKit Go.Sort
abbrev Ent := ByteArray × Int × Bool
/-- an entry as cells -/
def entV (e : Ent) : List Value := [.string e.1, .int .i64 e.2.1, .bool e.2.2]
def entsV (L : List Ent) : List Value := L.flatMap entV
theorem entsV_length (L : List Ent) : (entsV L).length = L.length * 3 := by
  induction L with
  | nil => rfl
  | cons f F ih => simp only [entsV, List.flatMap_cons, List.length_append, List.length_cons] at *; rw [ih]; simp [entV]; omega
theorem entsV_append (F G : List Ent) : entsV (F ++ G) = entsV F ++ entsV G := by simp [entsV]
theorem entsV_one (F : List Ent) : ∀ u ∈ entsV F, u.oneCell' = true := by
  intro u hu
  obtain ⟨f, _, hf⟩ := List.mem_flatMap.1 hu
  simp only [entV, List.mem_cons, List.not_mem_nil, or_false] at hf
  rcases hf with rfl | rfl | rfl <;> rfl
theorem entsV_at (F : List Ent) (k : Nat) (h : k < F.length) : (entsV F)[k * 3]? = some (.string F[k].1) ∧ (entsV F)[k * 3 + 1]? = some (.int .i64 F[k].2.1) ∧ (entsV F)[k * 3 + 2]? = some (.bool F[k].2.2) := by
  induction F generalizing k with
  | nil => simp at h
  | cons f F ih =>
    have e : entsV (f :: F) = entV f ++ entsV F := rfl
    have hl : (entV f).length = 3 := rfl
    cases k with
    | zero => rw [e]; simp [entV]
    | succ k =>
      have hk : k < F.length := by simpa using h
      obtain ⟨a, b, c⟩ := ih k hk
      rw [e]
      refine ⟨?_, ?_, ?_⟩
      · rw [List.getElem?_append_right (by omega), hl, show (k + 1) * 3 - 3 = k * 3 from by omega, a]; rfl
      · rw [List.getElem?_append_right (by omega), hl, show (k + 1) * 3 + 1 - 3 = k * 3 + 1 from by omega, b]; rfl
      · rw [List.getElem?_append_right (by omega), hl, show (k + 1) * 3 + 2 - 3 = k * 3 + 2 from by omega, c]; rfl
/-- entries that lie in a row from a on -/
structure EntsAt (w : World) (a : Option Addr) (cap : Nat) (L : List Ent) : Prop where
  le : L.length ≤ cap
  max : cap ≤ maxLen
  at_ : ∀ k (h : k < L.length), ∃ g o, a = some ⟨g, o, none⟩ ∧ g < w.heap.size ∧ w.cell? ⟨g, o + k * 3, none⟩ = some (.string L[k].1) ∧ w.cell? ⟨g, o + k * 3 + 1, none⟩ = some (.int .i64 L[k].2.1) ∧ w.cell? ⟨g, o + k * 3 + 2, none⟩ = some (.bool L[k].2.2)
theorem EntsAt.below {w w' : World} {a : Option Addr} {cap : Nat} {L : List Ent} (h : EntsAt w a cap L) (hb : Below w.heap.size w w') : EntsAt w' a cap L := by
  refine ⟨h.le, h.max, fun k hk => ?_⟩
  obtain ⟨g, o, ha, hg, h0, h1, h2⟩ := h.at_ k hk
  exact ⟨g, o, ha, Nat.lt_of_lt_of_le hg hb.size, (hb.cell (p := ⟨g, _, none⟩) hg).trans h0, (hb.cell (p := ⟨g, _, none⟩) hg).trans h1, (hb.cell (p := ⟨g, _, none⟩) hg).trans h2⟩
theorem EntsAt.drew {w : World} {a : Option Addr} {cap : Nat} {L : List Ent} (h : EntsAt w a cap L) : EntsAt w.drew a cap L := ⟨h.le, h.max, h.at_⟩
theorem EntsAt.alloc {w : World} {a : Option Addr} {cap : Nat} {L : List Ent} (h : EntsAt w a cap L) (o : Obj) : EntsAt (w.alloc o) a cap L := h.below ((Below.refl _ w).alloc (Nat.le_refl _) _)
theorem EntsAt.nil (w : World) : EntsAt w none 0 [] := ⟨Nat.le_refl _, by simp [maxLen], fun k h => by simp at h⟩
/-- where they lie, if there are any -/
theorem EntsAt.some_ {w : World} {a : Option Addr} {cap : Nat} {L : List Ent} (h : EntsAt w a cap L) (h0 : 0 < L.length) : ∃ g o, a = some ⟨g, o, none⟩ ∧ g < w.heap.size := by
  obtain ⟨g, o, ha, hg, _⟩ := h.at_ 0 h0
  exact ⟨g, o, ha, hg⟩
/-- as an append reads them -/
theorem EntsAt.news {w : World} {g o cap : Nat} {L : List Ent} (h : EntsAt w (some ⟨g, o, none⟩) cap L) : ∀ j u, (entsV L)[j]? = some u → w.cell? ((⟨g, o, none⟩ : Addr).add j) = some u := by
  intro j u hj
  have e : (⟨g, o, none⟩ : Addr).add j = ⟨g, o + j, none⟩ := by unfold Addr.add; split <;> simp_all
  rw [e]
  have hl : j < (entsV L).length := (List.getElem?_eq_some_iff.1 hj).1
  rw [entsV_length] at hl
  have hk : j / 3 < L.length := by omega
  obtain ⟨g', o', ha, _, h0, h1, h2⟩ := h.at_ (j / 3) hk
  simp only [Option.some.injEq, Addr.mk.injEq, and_true] at ha
  obtain ⟨rfl, rfl⟩ := ha
  obtain ⟨k0, k1, k2⟩ := entsV_at L (j / 3) hk
  rcases (show j = j / 3 * 3 ∨ j = j / 3 * 3 + 1 ∨ j = j / 3 * 3 + 2 from by omega) with q | q | q
  · rw [q] at hj ⊢; rw [k0] at hj; rw [← hj]; exact h0
  · rw [q] at hj ⊢; rw [k1] at hj; rw [← hj, ← Nat.add_assoc]; exact h1
  · rw [q] at hj ⊢; rw [k2] at hj; rw [← hj, ← Nat.add_assoc]; exact h2
/-- a slice of entries, as one may read it -/
def Ents (w : World) (v : Value) (L : List Ent) : Prop := ∃ a cap, v = .slice a L.length cap ∧ EntsAt w a cap L
theorem Ents.below {w w' : World} {v : Value} {L : List Ent} (h : Ents w v L) (hb : Below w.heap.size w w') : Ents w' v L := by
  obtain ⟨a, cap, hv, hA⟩ := h
  exact ⟨a, cap, hv, hA.below hb⟩
/-- a slice of entries of the call's own -/
def OwnE (T : TypeId) (w : World) (B : Nat) (v : Value) (L : List Ent) : Prop := w.ownsRow B T 3 v L.length (entsV L)
theorem OwnE.nil (T : TypeId) (w : World) (B : Nat) : OwnE T w B (.slice none 0 0) [] := ⟨by simp [entsV], Or.inl ⟨rfl, rfl⟩⟩
theorem OwnE.ge {T : TypeId} {w : World} {B g : Nat} {v : Value} {F : List Ent} (h : OwnE T w B v F) (hv : v.ownBlock = some g) : B ≤ g ∧ g < w.heap.size := World.ownsRow.lt h g hv
theorem OwnE.base {T : TypeId} {w : World} {B B' : Nat} {v : Value} {F : List Ent} (h : OwnE T w B v F) (hB : B' ≤ B) : OwnE T w B' v F := by
  refine ⟨h.1, ?_⟩
  rcases h.2 with h0 | ⟨g, cap, cur, hv, hbg, rest⟩
  · exact Or.inl h0
  · exact Or.inr ⟨g, cap, cur, hv, Nat.le_trans hB hbg, rest⟩
theorem OwnE.below {T : TypeId} {w w' : World} {B : Nat} {v : Value} {F : List Ent} (h : OwnE T w B v F) (hb : Below w.heap.size w w') : OwnE T w' B v F := by
  refine ⟨h.1, ?_⟩
  rcases h.2 with h0 | ⟨g, cap, cur, hv, hbg, hg, rest⟩
  · exact Or.inl h0
  · exact Or.inr ⟨g, cap, cur, hv, hbg, by rw [hb.block g (h.ge (by rw [hv]; rfl)).2]; exact hg, rest⟩
theorem OwnE.alloc {T : TypeId} {w : World} {B : Nat} {v : Value} {F : List Ent} (h : OwnE T w B v F) (o : Obj) : OwnE T (w.alloc o) B v F := World.ownsRow.alloc h o
theorem OwnE.grown {T : TypeId} {w w' : World} {B : Nat} {v : Value} {F : List Ent} {row : Option Nat} (h : OwnE T w B v F) (hg : w.grownBy w' row) (hr : ∀ g, v.ownBlock = some g → row ≠ some g) : OwnE T w' B v F :=
  World.ownsRow.kept h hg (by
    cases hv : v.ownBlock with
    | none => exact Or.inl rfl
    | some g => exact Or.inr (fun e => hr g hv e.symm))
theorem OwnE.ents {T : TypeId} {w : World} {B : Nat} {v : Value} {L : List Ent} (h : OwnE T w B v L) : Ents w v L := by
  rcases h.2 with ⟨hv, h0⟩ | ⟨g, cap, cur, hv, hb, hg, hc, hm, rest⟩
  · have e : L = [] := List.length_eq_zero_iff.1 h0
    subst e
    exact ⟨none, 0, hv, EntsAt.nil w⟩
  · refine ⟨some ⟨g, 0, none⟩, cap, hv, hc, hm, fun k hk => ?_⟩
    have hl := World.ownsRow.cells h (g := g) (by rw [hv]; rfl)
    have e : ∀ j, (⟨g, 0, none⟩ : Addr).add j = ⟨g, j, none⟩ := fun j => by unfold Addr.add; split <;> simp_all
    obtain ⟨k0, k1, k2⟩ := entsV_at L k hk
    refine ⟨g, 0, rfl, (h.ge (by rw [hv]; rfl)).2, ?_, ?_, ?_⟩
    · rw [Nat.zero_add, ← e]; exact hl _ _ k0
    · rw [Nat.zero_add, ← e]; exact hl _ _ k1
    · rw [Nat.zero_add, ← e]; exact hl _ _ k2
theorem infoD : (Tryd.prog.info? 55).map (fun i => (i.zero, i.size, i.bytes)) = some (some (.agg #[.string ⟨#[]⟩, .int .i64 0, .bool false]), 3, 32) := by kernel_rfl
/-- behind an append to a slice of the call's own -/
theorem OwnE.appended {T : TypeId} {w0 wr w1 : World} {b0 B : Nat} {v v' : Value} {L M : List Ent} {news : List Value} (h : OwnE T wr B v L) (hb : Below b0 w0 wr) (hbB : b0 ≤ B) (hbw : b0 ≤ wr.heap.size)
    (h1 : w1.ownsRow B T 3 v' (L.length + M.length) (entsV L ++ news)) (hn : news = entsV M) (hg : wr.grownBy w1 v.ownBlock) : OwnE T w1 B v' (L ++ M) ∧ Below b0 w0 w1 := by
  refine ⟨?_, hb.grown hg hbw (fun k hk => Nat.le_trans hbB (h.ge hk).1)⟩
  unfold OwnE
  rw [List.length_append, entsV_append, ← hn]
  exact h1
/-- the slice behind the first k -/
theorem slice_from {w : World} {a : Option Addr} {cap : Nat} {L : List Ent} {T E : TypeId} (hT : Tryd.prog.underlying T = some (.slice E)) (hE : ∀ w, (Go.sizeOf E).run Tryd.prog w = .ok 3 w) (h : EntsAt w a cap L) (k : Nat) (hk : k ≤ L.length) :
    ∃ a', (∀ W, (Instr.slice T (.slice a L.length cap) (some (.int .i64 (k : Int))) none none).run Tryd.prog W = .ok (.slice a' (L.drop k).length (cap - k)) W) ∧ EntsAt w a' (cap - k) (L.drop k) := by
  have ht' : Tryd.prog.underlying T = some (.slice (Tryd.prog.elem T)) := by simp [Program.elem, hT]
  have he : Tryd.prog.elem T = E := by simp [Program.elem, hT]
  have hle := h.le
  refine ⟨if cap = k then a else a.map (·.add (k * 3)), fun W => ?_, by rw [List.length_drop]; omega, Nat.le_trans (Nat.sub_le _ _) h.max, fun j hj => ?_⟩
  · rw [run_slice_l W T _ _ _ ht' .i64 (k : Int) (by omega) (by omega), he, hE]
    by_cases h1 : cap = k
    · have hl : L.length = k := by omega
      simp [Result.andThen, sliced, h1, hl]
    · cases a with
      | none => simp [Result.andThen, sliced, h1]
      | some p => simp [Result.andThen, sliced, h1]
  · have hj' : k + j < L.length := by rw [List.length_drop] at hj; omega
    obtain ⟨g, o, rfl, hg, h0, h1, h2⟩ := h.at_ (k + j) hj'
    have e : (L.drop k)[j]'hj = L[k + j] := List.getElem_drop ..
    rw [if_neg (by omega)]
    refine ⟨g, o + k * 3, by simp [Addr.add], hg, ?_, ?_, ?_⟩
    · rw [e, show o + k * 3 + j * 3 = o + (k + j) * 3 from by omega]; exact h0
    · rw [e, show o + k * 3 + j * 3 = o + (k + j) * 3 from by omega]; exact h1
    · rw [e, show o + k * 3 + j * 3 = o + (k + j) * 3 from by omega]; exact h2
theorem sizeD : ∀ w, (Go.sizeOf 55).run Tryd.prog w = .ok 3 w := fun w => by kernel_rfl
/-- how many have it, ahead of the first that hasn't -/
def fstD (L : List Ent) : Nat := (L.takeWhile (·.2.2)).length
/-- none has it behind one that hasn't -/
def ordD (L : List Ent) : Bool := (L.drop (fstD L)).all (!·.2.2)
theorem fstD_le (L : List Ent) : fstD L ≤ L.length := (List.takeWhile_sublist _).length_le
/-- a right path -/
def rightP (L : List Ent) : Bool := L.all (fun e => rightD e.1 e.2.1) && decide (2 ≤ L.length) && decide (L.length ≤ 10) && ordD (L.drop 2)
theorem EntsAt.new1 (w : World) (n : Nat) (hn : n = w.heap.size) (b : ByteArray) (i : Int) (m : Bool) (T : TypeId) : EntsAt (w.alloc (.cells #[.string b, .int .i64 i, .bool m] T)) (some ⟨n, 0, none⟩) 1 [(b, i, m)] := by
  subst hn
  refine ⟨Nat.le_refl _, by simp [maxLen], fun k hk => ?_⟩
  obtain rfl : k = 0 := by simpa using hk
  exact ⟨w.heap.size, 0, rfl, by simp, World.cell?_alloc_at _ _ _ _ rfl, World.cell?_alloc_at _ _ _ _ rfl, World.cell?_alloc_at _ _ _ _ rfl⟩
theorem OwnE.lit2 (w : World) (n B : Nat) (hn : n = w.heap.size) (hB : B ≤ n) (b c : ByteArray) (i j : Int) (m k : Bool) (T : TypeId) : OwnE T (w.alloc (.cells #[.string b, .int .i64 i, .bool m, .string c, .int .i64 j, .bool k] T)) B (.slice (some ⟨n, 0, none⟩) 2 2) [(b, i, m), (c, j, k)] := by
  subst hn
  exact World.ownsRow_lit (base := B) (e := T) (size := 3) w #[.string b, .int .i64 i, .bool m, .string c, .int .i64 j, .bool k] 2 hB (by decide) rfl
/-- an append of entries, wherever they lie, to a slice of the call's own -/
theorem run_append_ents {t e : TypeId} (hinfo : (Tryd.prog.info? e).map (fun i => (i.zero, i.size, i.bytes)) = some (some (.agg #[.string ⟨#[]⟩, .int .i64 0, .bool false]), 3, 32)) (ht : Tryd.prog.underlying t = some (.slice e))
    (w : World) (ty : TypeId) (B : Nat) (v : Value) (L M : List Ent) (hown : OwnE e w B v L) (ax : Option Addr) (cx : Nat) (hM : EntsAt w ax cx M) (hlen : L.length + M.length ≤ 100000) (hB : B ≤ w.heap.size) :
    ∃ v' w', (Builtin.append_ #[t, t] ty #[v, .slice ax M.length cx]).run Tryd.prog w = .ok v' w' ∧ OwnE e w' B v' (L ++ M) ∧ w.grownBy w' v.ownBlock ∧ (v'.ownBlock = v.ownBlock ∨ v'.ownBlock = some w.heap.size) := by
  obtain ⟨i0, hi, hz0, hz1, hz2⟩ := info_parts hinfo
  by_cases h0 : M.length = 0
  · have hm : M = [] := List.length_eq_zero_iff.1 h0
    subst hm
    have hs : Src Tryd.prog i0.size t (.slice ax 0 cx) 0 [] w := by
      cases ax with
      | none => exact Src.ofNil w ht cx
      | some ad => exact Src.ofSlice w ht ad 0 cx [] (by simp) (fun j u h => by simp at h) (fun u h => by cases h)
    refine ⟨v, w, ?_, by rw [List.append_nil]; exact hown, ⟨rfl, rfl, rfl, Nat.le_refl _, fun _ _ _ => rfl⟩, Or.inl rfl⟩
    rcases hown.2 with ⟨hv, _⟩ | ⟨g, cap, cur, hv, _, _, hc, _⟩
    · rw [hv]
      exact run_append_nothing w t t ty e i0 ht hi none 0 0 (Nat.le_refl _) _ hs
    · rw [hv]
      exact run_append_nothing w t t ty e i0 ht hi _ L.length cap hc _ hs
  · obtain ⟨g, o, rfl, _⟩ := hM.some_ (by omega)
    obtain ⟨v', w', hr, h2, h3, h4, h5⟩ := run_append_own_at (P := Tryd.prog) w B t ty e i0 _ 3 32 ht hi hz0 hz1 hz2 rfl (by decide) v L.length (entsV L) hown ⟨g, o, none⟩ M.length cx (entsV M) (entsV_length M) hM.news (entsV_one M) (by unfold maxLen; omega) (by omega) hB
    exact ⟨v', w', hr, by unfold OwnE; rw [List.length_append, entsV_append]; exact h2, h3, h5⟩
theorem wp_append_ents {t e : TypeId} (hinfo : (Tryd.prog.info? e).map (fun i => (i.zero, i.size, i.bytes)) = some (some (.agg #[.string ⟨#[]⟩, .int .i64 0, .bool false]), 3, 32)) (ht : Tryd.prog.underlying t = some (.slice e))
    (w : World) {o : Oper} {a : Act} {Q : Exit → Act → World → Prop} {K : Act → World → Prop} (s x : Operand) (ho : o.op = .call { callee := .builtin .append, args := #[s, x], argTypes := #[t, t] })
    (B : Nat) (v : Value) (L M : List Ent) (hs : a.eval s = v) (hown : OwnE e w B v L) (ax : Option Addr) (cx : Nat) (hx : a.eval x = .slice ax M.length cx) (hM : EntsAt w ax cx M) (hlen : L.length + M.length ≤ 100000) (hB : B ≤ w.heap.size)
    (h : ∀ v' w', OwnE e w' B v' (L ++ M) → w.grownBy w' v.ownBlock → (v'.ownBlock = v.ownBlock ∨ v'.ownBlock = some w.heap.size) → K (a.put o.dst v') w') : Oper.upon Tryd.prog o a K Q ((execOp a.eval o).run Tryd.prog w) := by
  obtain ⟨v', w', hr, h2, h3, h4⟩ := run_append_ents hinfo ht w o.type B v L M hown ax cx hM hlen hB
  unfold execOp
  simp only [ho, resolve, invoke, builtin, Sem.run_bind, Sem.run_pure, Result.andThen_ok, List.map_toArray, List.map_cons, List.map_nil, hs, hx, hr]
  exact h v' w' h2 h3 h4
theorem wpList_append_ents {t e : TypeId} (hinfo : (Tryd.prog.info? e).map (fun i => (i.zero, i.size, i.bytes)) = some (some (.agg #[.string ⟨#[]⟩, .int .i64 0, .bool false]), 3, 32)) (ht : Tryd.prog.underlying t = some (.slice e))
    (w : World) {ops : Array Oper} {rest : List Oper} {o : Oper} {a : Act} {Q : Exit → Act → World → Prop} (hgd : o.guard = none) (s x : Operand) (ho : o.op = .call { callee := .builtin .append, args := #[s, x], argTypes := #[t, t] })
    (B : Nat) (v : Value) (L M : List Ent) (hs : a.eval s = v) (hown : OwnE e w B v L) (ax : Option Addr) (cx : Nat) (hx : a.eval x = .slice ax M.length cx) (hM : EntsAt w ax cx M) (hlen : L.length + M.length ≤ 100000) (hB : B ≤ w.heap.size)
    (h : ∀ v' w', OwnE e w' B v' (L ++ M) → w.grownBy w' v.ownBlock → (v'.ownBlock = v.ownBlock ∨ v'.ownBlock = some w.heap.size) → wpList Tryd.prog ops Q rest (a.put o.dst v') w') : wpList Tryd.prog ops Q (o :: rest) a w := by
  refine wpList_plain hgd fun K hK => ?_
  obtain ⟨v', w', hr, h2, h3, h4⟩ := run_append_ents hinfo ht w o.type B v L M hown ax cx hM hlen hB
  unfold Oper.wp execOp
  simp only [ho, resolve, invoke, builtin, Sem.run_bind, Sem.run_pure, Result.andThen_ok, List.map_toArray, List.map_cons, List.map_nil, hs, hx, hr]
  exact hK _ _ (h v' w' h2 h3 h4)
theorem OwnE.form {T : TypeId} {w : World} {B : Nat} {v : Value} {F : List Ent} (h : OwnE T w B v F) : ∃ a n cap, v = .slice a n cap := by
  rcases h.2 with ⟨hv, h0⟩ | ⟨g, cap, _, hv, _⟩
  · exact ⟨none, 0, 0, hv⟩
  · exact ⟨_, _, cap, hv⟩
theorem OwnE.len {T : TypeId} {w : World} {B : Nat} {v : Value} {F : List Ent} (h : OwnE T w B v F) : ∃ a cap, v = .slice a F.length cap := by
  rcases h.2 with ⟨hv, h0⟩ | ⟨g, cap, _, hv, _⟩
  · exact ⟨none, 0, by rw [h0]; exact hv⟩
  · exact ⟨_, cap, hv⟩
/-- a path's seven cells -/
structure P7 (W : World) (m : Nat) (v0 v1 v2 v3 v4 v5 v6 : Value) : Prop where
  k0 : KeepAt W m 0 v0
  k1 : KeepAt W m 1 v1
  k2 : KeepAt W m 2 v2
  k3 : KeepAt W m 3 v3
  k4 : KeepAt W m 4 v4
  k5 : KeepAt W m 5 v5
  k6 : KeepAt W m 6 v6
theorem P7.new (w : World) (m : Nat) (hm : m = w.heap.size) (v0 v1 v2 v3 v4 v5 v6 : Value) (T : TypeId) : P7 (w.alloc (.cells #[v0, v1, v2, v3, v4, v5, v6] T)) m v0 v1 v2 v3 v4 v5 v6 := by
  subst hm
  have hl : w.heap.size < (w.alloc (.cells #[v0, v1, v2, v3, v4, v5, v6] T)).heap.size := by simp
  exact ⟨⟨World.cell?_alloc_at _ _ _ _ rfl, World.frozen?_alloc_at _ _ _ _ rfl, hl⟩, ⟨World.cell?_alloc_at _ _ _ _ rfl, World.frozen?_alloc_at _ _ _ _ rfl, hl⟩, ⟨World.cell?_alloc_at _ _ _ _ rfl, World.frozen?_alloc_at _ _ _ _ rfl, hl⟩, ⟨World.cell?_alloc_at _ _ _ _ rfl, World.frozen?_alloc_at _ _ _ _ rfl, hl⟩, ⟨World.cell?_alloc_at _ _ _ _ rfl, World.frozen?_alloc_at _ _ _ _ rfl, hl⟩, ⟨World.cell?_alloc_at _ _ _ _ rfl, World.frozen?_alloc_at _ _ _ _ rfl, hl⟩, ⟨World.cell?_alloc_at _ _ _ _ rfl, World.frozen?_alloc_at _ _ _ _ rfl, hl⟩⟩
theorem P7.block {W W' : World} {m : Nat} {v0 v1 v2 v3 v4 v5 v6 : Value} (h : P7 W m v0 v1 v2 v3 v4 v5 v6) (hb : W'.heap[m]? = W.heap[m]?) (hs : W.heap.size ≤ W'.heap.size) : P7 W' m v0 v1 v2 v3 v4 v5 v6 :=
  ⟨h.k0.block hb hs, h.k1.block hb hs, h.k2.block hb hs, h.k3.block hb hs, h.k4.block hb hs, h.k5.block hb hs, h.k6.block hb hs⟩
theorem P7.below {W W' : World} {m : Nat} {v0 v1 v2 v3 v4 v5 v6 : Value} (h : P7 W m v0 v1 v2 v3 v4 v5 v6) (hb : Below W.heap.size W W') : P7 W' m v0 v1 v2 v3 v4 v5 v6 := h.block (hb.block m h.k0.lt) hb.size
theorem P7.drew {W : World} {m : Nat} {v0 v1 v2 v3 v4 v5 v6 : Value} (h : P7 W m v0 v1 v2 v3 v4 v5 v6) : P7 W.drew m v0 v1 v2 v3 v4 v5 v6 := h.block rfl (Nat.le_refl _)
theorem P7.alloc {W : World} {m : Nat} {v0 v1 v2 v3 v4 v5 v6 : Value} (h : P7 W m v0 v1 v2 v3 v4 v5 v6) (x : Obj) : P7 (W.alloc x) m v0 v1 v2 v3 v4 v5 v6 := h.below ((Below.refl _ W).alloc (Nat.le_refl _) _)
theorem P7.put6 {W : World} {m : Nat} {v0 v1 v2 v3 v4 v5 v6 : Value} (h : P7 W m v0 v1 v2 v3 v4 v5 v6) (v : Value) : P7 (W.setCell ⟨m, 6, none⟩ v) m v0 v1 v2 v3 v4 v5 v :=
  ⟨h.k0.set _ (by omega), h.k1.set _ (by omega), h.k2.set _ (by omega), h.k3.set _ (by omega), h.k4.set _ (by omega), h.k5.set _ (by omega), h.k6.put _⟩
theorem P7.other {W : World} {m g p : Nat} {v0 v1 v2 v3 v4 v5 v6 : Value} (h : P7 W m v0 v1 v2 v3 v4 v5 v6) (v : Value) (hg : g ≠ m) : P7 (W.setCell ⟨g, p, none⟩ v) m v0 v1 v2 v3 v4 v5 v6 :=
  ⟨h.k0.other _ hg, h.k1.other _ hg, h.k2.other _ hg, h.k3.other _ hg, h.k4.other _ hg, h.k5.other _ hg, h.k6.other _ hg⟩
/-- seven cells written anew -/
theorem stored7 {W : World} {m : Nat} {x0 x1 x2 x3 x4 x5 x6 : Value} (u0 u1 u2 u3 u4 u5 u6 : Value) (h : P7 W m x0 x1 x2 x3 x4 x5 x6) :
    P7 (((((((W.setCell ⟨m, 0, none⟩ u0).setCell ⟨m, 1, none⟩ u1).setCell ⟨m, 2, none⟩ u2).setCell ⟨m, 3, none⟩ u3).setCell ⟨m, 4, none⟩ u4).setCell ⟨m, 5, none⟩ u5).setCell ⟨m, 6, none⟩ u6) m u0 u1 u2 u3 u4 u5 u6 := by
  refine ⟨?_, ?_, ?_, ?_, ?_, ?_, ?_⟩
  · exact ((((((h.k0.put u0).set u1 (by omega)).set u2 (by omega)).set u3 (by omega)).set u4 (by omega)).set u5 (by omega)).set u6 (by omega)
  · exact ((((((h.k1.set u0 (by omega)).put u1).set u2 (by omega)).set u3 (by omega)).set u4 (by omega)).set u5 (by omega)).set u6 (by omega)
  · exact ((((((h.k2.set u0 (by omega)).set u1 (by omega)).put u2).set u3 (by omega)).set u4 (by omega)).set u5 (by omega)).set u6 (by omega)
  · exact ((((((h.k3.set u0 (by omega)).set u1 (by omega)).set u2 (by omega)).put u3).set u4 (by omega)).set u5 (by omega)).set u6 (by omega)
  · exact ((((((h.k4.set u0 (by omega)).set u1 (by omega)).set u2 (by omega)).set u3 (by omega)).put u4).set u5 (by omega)).set u6 (by omega)
  · exact ((((((h.k5.set u0 (by omega)).set u1 (by omega)).set u2 (by omega)).set u3 (by omega)).set u4 (by omega)).put u5).set u6 (by omega)
  · exact ((((((h.k6.set u0 (by omega)).set u1 (by omega)).set u2 (by omega)).set u3 (by omega)).set u4 (by omega)).set u5 (by omega)).put u6
theorem set7_below {B m : Nat} {a W : World} (h : Below B a W) (hm : B ≤ m) (u0 u1 u2 u3 u4 u5 u6 : Value) :
    Below B a (((((((W.setCell ⟨m, 0, none⟩ u0).setCell ⟨m, 1, none⟩ u1).setCell ⟨m, 2, none⟩ u2).setCell ⟨m, 3, none⟩ u3).setCell ⟨m, 4, none⟩ u4).setCell ⟨m, 5, none⟩ u5).setCell ⟨m, 6, none⟩ u6) :=
  ((((((h.setCell (p := ⟨m, 0, none⟩) hm u0).setCell (p := ⟨m, 1, none⟩) hm u1).setCell (p := ⟨m, 2, none⟩) hm u2).setCell (p := ⟨m, 3, none⟩) hm u3).setCell (p := ⟨m, 4, none⟩) hm u4).setCell (p := ⟨m, 5, none⟩) hm u5).setCell (p := ⟨m, 6, none⟩) hm u6
theorem grown7 {r : Option Nat} {m : Nat} {a W : World} (h : a.grownBy W r) (hm : a.heap.size ≤ m ∨ r = some m) (u0 u1 u2 u3 u4 u5 u6 : Value) :
    a.grownBy (((((((W.setCell ⟨m, 0, none⟩ u0).setCell ⟨m, 1, none⟩ u1).setCell ⟨m, 2, none⟩ u2).setCell ⟨m, 3, none⟩ u3).setCell ⟨m, 4, none⟩ u4).setCell ⟨m, 5, none⟩ u5).setCell ⟨m, 6, none⟩ u6) r := by
  rcases hm with hm | rfl
  · exact grown_new (grown_new (grown_new (grown_new (grown_new (grown_new (grown_new h hm _) hm _) hm _) hm _) hm _) hm _) hm _
  · exact grown_set (grown_set (grown_set (grown_set (grown_set (grown_set (grown_set h _) _) _) _) _) _) _
theorem own7 {T : TypeId} {w : World} {B m : Nat} {v : Value} {L : List Ent} (h : OwnE T w B v L) (hm : m < B) (u0 u1 u2 u3 u4 u5 u6 : Value) :
    OwnE T (((((((w.setCell ⟨m, 0, none⟩ u0).setCell ⟨m, 1, none⟩ u1).setCell ⟨m, 2, none⟩ u2).setCell ⟨m, 3, none⟩ u3).setCell ⟨m, 4, none⟩ u4).setCell ⟨m, 5, none⟩ u5).setCell ⟨m, 6, none⟩ u6) B v L :=
  h.grown (grown7 (m := m) (grown_refl w (some m)) (Or.inr rfl) u0 u1 u2 u3 u4 u5 u6) (fun g hv e => by have := (h.ge hv).1; have := Option.some.inj e; omega)
theorem ents_of_own {T : TypeId} {w : World} {B n : Nat} {a : Option Addr} {c : Nat} {L : List Ent} (h : OwnE T w B (.slice a n c) L) : EntsAt w a c L := by
  obtain ⟨a', c', hv, hE⟩ := h.ents
  simp only [Value.slice.injEq] at hv
  obtain ⟨rfl, _, rfl⟩ := hv
  exact hE
/-- a variable's cell that holds a slice of entries of the call's own, from block B on -/
structure OutAt (w W : World) (B m o : Nat) (T : TypeId) (tv : Value) (L : List Ent) : Prop where
  cell : W.cell? ⟨m, o, none⟩ = some tv
  free : W.frozen? ⟨m, o, none⟩ = false
  own : OwnE T W B tv L
  off : tv.ownBlock ≠ some m
  bel : Below w.heap.size w W
  base : w.heap.size ≤ B
  ge : w.heap.size ≤ m
  lt : m < W.heap.size
  bw : B ≤ W.heap.size
theorem OutAt.below {w W W' : World} {B m o : Nat} {T : TypeId} {tv : Value} {L : List Ent} (h : OutAt w W B m o T tv L) (hb : Below W.heap.size W W') : OutAt w W' B m o T tv L :=
  ⟨(hb.cell (p := ⟨m, o, none⟩) h.lt).trans h.cell, (hb.frozen (p := ⟨m, o, none⟩) h.lt).trans h.free, h.own.below hb, h.off, h.bel.trans (hb.mono h.bel.size), h.base, h.ge, Nat.lt_of_lt_of_le h.lt hb.size, Nat.le_trans h.bw hb.size⟩
theorem OutAt.drew {w W : World} {B m o : Nat} {T : TypeId} {tv : Value} {L : List Ent} (h : OutAt w W B m o T tv L) : OutAt w W.drew B m o T tv L := ⟨h.cell, h.free, h.own, h.off, h.bel.drew, h.base, h.ge, h.lt, h.bw⟩
theorem OutAt.alloc {w W : World} {B m o : Nat} {T : TypeId} {tv : Value} {L : List Ent} (h : OutAt w W B m o T tv L) (x : Obj) : OutAt w (W.alloc x) B m o T tv L := h.below ((Below.refl _ W).alloc (Nat.le_refl _) _)
/-- behind an append, and then behind the store -/
theorem OutAt.grown {w W w1 : World} {B m o : Nat} {T : TypeId} {tv v' : Value} {L L' : List Ent} (h : OutAt w W B m o T tv L) (h1 : OwnE T w1 B v' L') (hg : W.grownBy w1 tv.ownBlock) (hv : v'.ownBlock = tv.ownBlock ∨ v'.ownBlock = some W.heap.size) :
    (∃ a n c, v' = .slice a n c) ∧ w1.cell? ⟨m, o, none⟩ = some tv ∧ w1.frozen? ⟨m, o, none⟩ = false ∧ W.heap.size ≤ w1.heap.size ∧ OutAt w (w1.setCell ⟨m, o, none⟩ v') B m o T v' L' ∧ ∀ i, i < B → w1.heap[i]? = W.heap[i]? := by
  have hblk : w1.heap[m]? = W.heap[m]? := hg.block m h.lt (fun e => h.off e.symm)
  have hc : w1.cell? ⟨m, o, none⟩ = some tv := by
    have := h.cell
    unfold World.cell? at this ⊢
    rw [hblk]; exact this
  have hf : w1.frozen? ⟨m, o, none⟩ = false := by
    have := h.free
    unfold World.frozen? at this ⊢
    rw [hblk]; exact this
  have hoff : v'.ownBlock ≠ some m := by
    rcases hv with e | e
    · rw [e]; exact h.off
    · rw [e]; intro q; have := Option.some.inj q; have := h.lt; omega
  have hb : Below w.heap.size w w1 := h.bel.grown hg h.bel.size (fun k hk => Nat.le_trans h.base (h.own.ge hk).1)
  refine ⟨h1.form, hc, hf, hg.size, ⟨set_here hc, by rw [World.frozen?_setCell]; exact hf, ?_, hoff, hb.setCell (p := ⟨m, o, none⟩) h.ge _, h.base, h.ge, by simpa [World.setCell] using Nat.lt_of_lt_of_le h.lt hg.size, by simpa [World.setCell] using Nat.le_trans h.bw hg.size⟩, ?_⟩
  · exact h1.grown (grown_set (grown_refl w1 (some m)) v') (fun g hv e => hoff (by rw [hv]; exact e.symm))
  · exact fun i hi => hg.block i (by have := h.bw; omega) (fun e => by have := (h.own.ge e.symm).1; omega)
end Go.Proofs.YtmgfpnemamedoaaDoor
namespace Go.Proofs.YtmgfpnemamedoaaDoor
open Go.RowKit Go.Sort
theorem ord_cons_true (e : Ent) (M : List Ent) (h : e.2.2 = true) : ordD (e :: M) = ordD M := by
  unfold ordD fstD
  rw [List.takeWhile_cons, if_pos h]
  rfl
theorem ord_cons_false (e : Ent) (M : List Ent) (h : e.2.2 = false) : ordD (e :: M) = M.all (!·.2.2) := by
  unfold ordD fstD
  rw [List.takeWhile_cons, if_neg (by rw [h]; simp)]
  show List.all (e :: M) _ = _
  rw [List.all_cons, h]
  rfl
theorem ord_iff : ∀ M : List Ent, ordD M = true ↔ ∀ i (h : i + 1 < M.length), M[i + 1].2.2 = true → M[i].2.2 = true
  | [] => by simp [ordD, fstD]
  | e :: M => by
    have ih := ord_iff M
    cases hm : e.2.2
    · rw [ord_cons_false e M hm, List.all_eq_true]
      constructor
      · intro h i hi hx
        exfalso
        have hlt : i < M.length := by simpa using hi
        have := h M[i] (List.getElem_mem hlt)
        rw [List.getElem_cons_succ] at hx
        rw [hx] at this
        simp at this
      · intro h x hx
        obtain ⟨i, hi, rfl⟩ := List.getElem_of_mem hx
        have key : ∀ i (hi : i < M.length), M[i].2.2 = false := by
          intro i
          induction i with
          | zero =>
            intro hi
            cases hq : M[0].2.2
            · rfl
            · have := h 0 (by simpa using hi) (by rw [List.getElem_cons_succ]; exact hq)
              rw [List.getElem_cons_zero, hm] at this
              cases this
          | succ i ih2 =>
            intro hi
            cases hq : M[i + 1].2.2
            · rfl
            · have := h (i + 1) (by simpa using hi) (by rw [List.getElem_cons_succ]; exact hq)
              rw [List.getElem_cons_succ, ih2 (by omega)] at this
              cases this
        rw [key i hi]
        rfl
    · rw [ord_cons_true e M hm, ih]
      constructor
      · intro h i hi hx
        cases i with
        | zero => exact hm
        | succ i =>
          rw [List.getElem_cons_succ] at hx ⊢
          exact h i (by simpa using hi) hx
      · intro h i hi hx
        have := h (i + 1) (by simpa using hi) (by rw [List.getElem_cons_succ]; exact hx)
        rw [List.getElem_cons_succ] at this
        exact this
theorem fst_stop : ∀ (M : List Ent) (k : Nat) (h : k < M.length), (∀ j (hj : j < k), M[j].2.2 = true) → M[k].2.2 = false → fstD M = k
  | [], k, h, _, _ => by simp at h
  | e :: M, 0, h, _, h0 => by
    rw [List.getElem_cons_zero] at h0
    unfold fstD
    rw [List.takeWhile_cons, if_neg (by rw [h0]; simp)]
    rfl
  | e :: M, k + 1, h, ha, h0 => by
    have hk : k < M.length := by simpa using h
    have he := ha 0 (by omega)
    rw [List.getElem_cons_zero] at he
    have ih := fst_stop M k hk (fun j hj => by have := ha (j + 1) (by omega); rwa [List.getElem_cons_succ] at this) (by rwa [List.getElem_cons_succ] at h0)
    unfold fstD at ih ⊢
    rw [List.takeWhile_cons, if_pos he, List.length_cons, ih]
theorem fst_all : ∀ (M : List Ent), (∀ j (hj : j < M.length), M[j].2.2 = true) → fstD M = M.length
  | [], _ => rfl
  | e :: M, h => by
    have he := h 0 (by simp)
    rw [List.getElem_cons_zero] at he
    have ih := fst_all M (fun j hj => by have := h (j + 1) (by simpa using hj); rwa [List.getElem_cons_succ] at this)
    unfold fstD at ih ⊢
    rw [List.takeWhile_cons, if_pos he, List.length_cons, ih, List.length_cons]
theorem fst_has : ∀ (M : List Ent) (j : Nat) (h : j < fstD M), M[j]'(Nat.lt_of_lt_of_le h (fstD_le M)) |>.2.2 = true
  | [], j, h => by simp [fstD] at h
  | e :: M, j, h => by
    cases he : e.2.2
    · unfold fstD at h
      rw [List.takeWhile_cons, if_neg (by rw [he]; simp)] at h
      simp at h
    · cases j with
      | zero => exact he
      | succ j =>
        have : j < fstD M := by
          unfold fstD at h ⊢
          rw [List.takeWhile_cons, if_pos he, List.length_cons] at h
          omega
        rw [List.getElem_cons_succ]
        exact fst_has M j this
theorem fst_not (M : List Ent) (h : fstD M < M.length) : M[fstD M].2.2 = false := by
  cases hm : M[fstD M].2.2
  · rfl
  · exfalso
    have key : ∀ (M : List Ent) (h : fstD M < M.length), M[fstD M].2.2 = false := by
      intro M
      induction M with
      | nil => intro h; simp at h
      | cons e M ih =>
        intro h
        cases he : e.2.2
        · have e0 : fstD (e :: M) = 0 := fst_stop _ 0 (by simp) (fun j hj => by omega) he
          simp only [e0, List.getElem_cons_zero]
          exact he
        · have e1 : fstD (e :: M) = fstD M + 1 := by
            unfold fstD
            rw [List.takeWhile_cons, if_pos he, List.length_cons]
          simp only [e1, List.getElem_cons_succ]
          exact ih (by rw [e1] at h; simpa using h)
    rw [key M h] at hm
    cases hm
end Go.Proofs.YtmgfpnemamedoaaDoor
namespace Go.Proofs.YtmgfpnemamedoaaDoor
open Go.RowKit Go.Sort
set_option maxRecDepth 20000
set_option maxHeartbeats 1000000 in
theorem first_any (a : Option Addr) (cap : Nat) (D : List Ent) (w : World) (hD : D.length ≤ 1000) (hE : EntsAt w a cap D) :
    Calls Tryd.prog 40 #[.slice a D.length cap] w fun e w' => e = .returned (.int .i64 (fstD D : Nat)) ∧ Below w.heap.size w w' := by
  have HE := Lib.hid hE
  have HS := Lib.hid (fst_stop D)
  have HA := Lib.hid (fst_all D)
  obtain ⟨R, hR⟩ : ∃ R : Nat, R = fstD D := ⟨_, rfl⟩
  rw [← hR] at HS HA ⊢
  clear hE hR
  go_enter Tryd.func40, Tryd.ntmps40
  go_wp2
  go_loopw [7] (fun i wx => ∃ k : Nat, k ≤ D.length ∧ i = .int .i64 k ∧ Hid ((∀ j (hj : j < k), ∀ hl : j < D.length, D[j].2.2 = true) ∧ Below w.heap.size w wx)) (fun i _ => D.length - (intOf i).toNat)
  case atStart => exact ⟨0, by omega, rfl, Lib.hid ⟨fun j hj => by omega, Below.refl _ w⟩⟩
  case round =>
    obtain ⟨k, hk, rfl, HR⟩ := hrel
    by_cases hlt : k < D.length
    · have dk : decide ((k : Int) < (D.length : Int)) = true := decide_eq_true (by omega)
      obtain ⟨g, o, rfl, hg, c0, c1, c2⟩ := (HE.out.below HR.out.2).at_ k hlt
      have HM := Lib.hid (show ∀ b, b = D[k].2.2 → D[k].2.2 = b from fun b h => h.symm)
      generalize hd : D[k] = d at *
      obtain ⟨db, dn, dm⟩ := d
      simp only at c0 c1 c2 HM
      have HB := Lib.hid (HR.out.2.alloc HR.out.2.size (.cells #[.string db, .int .i64 dn, .bool dm] 55))
      have HD := Lib.hid hd
      clear hd HM
      cases dm
      · have hf := HS.out k hlt (fun j hj => HR.out.1 j hj (by omega)) (by rw [HD.out])
        subst hf
        go_wp2
        go_ret
        exact ⟨rfl, HB.out⟩
      · go_wp2
        go_roundw
        case rel =>
          refine ⟨k + 1, by omega, by go_num, Lib.hid ⟨fun j hj hl => ?_, HB.out⟩⟩
          by_cases hjk : j = k
          · subst hjk; rw [HD.out]
          · exact HR.out.1 j (by omega) hl
        case measure => simp [intOf]; omega
    · obtain rfl : k = D.length := by omega
      have dk : decide ((D.length : Int) < (D.length : Int)) = false := decide_eq_false (by omega)
      have hf := HA.out (fun j hj => HR.out.1 j hj hj)
      subst hf
      go_wp2
      go_ret
      exact ⟨rfl, HR.out.2⟩
theorem ord_false (M : List Ent) (j : Nat) (h1 : fstD M ≤ j) (h2 : j < M.length) (h3 : M[j].2.2 = true) : ordD M = false := by
  unfold ordD
  rw [List.all_eq_false]
  refine ⟨M[j], ?_, by rw [h3]; simp⟩
  have : (M.drop (fstD M))[j - fstD M]'(by rw [List.length_drop]; omega) = M[j] := by
    rw [List.getElem_drop]
    congr 1
    omega
  rw [← this]
  exact List.getElem_mem _
theorem ord_true (M : List Ent) (h : ∀ j (h2 : j < M.length), fstD M ≤ j → M[j].2.2 = false) : ordD M = true := by
  unfold ordD
  rw [List.all_eq_true]
  intro x hx
  obtain ⟨i, hi, rfl⟩ := List.getElem_of_mem hx
  rw [List.getElem_drop, h _ _ (by omega)]
  rfl
set_option maxHeartbeats 1000000 in
theorem inOrder_any (a : Option Addr) (cap : Nat) (D : List Ent) (w : World) (hD : D.length ≤ 1000) (hE : EntsAt w a cap D) :
    Calls Tryd.prog 26 #[.slice a D.length cap] w fun e w' => e = .returned (.bool (ordD D)) ∧ Below w.heap.size w w' := by
  have HF := Lib.hid (first_any a cap D w hD hE)
  have hle := fstD_le D
  have HN := Lib.hid (ord_false D)
  have HY := Lib.hid (ord_true D)
  obtain ⟨f, hf⟩ : ∃ f, f = fstD D := ⟨_, rfl⟩
  rw [← hf] at HF hle HN HY
  obtain ⟨a', hs, hE'⟩ := slice_from Tryd.underlying28 sizeD hE f hle
  obtain ⟨R, hR⟩ : ∃ R, R = ordD D := ⟨_, rfl⟩
  rw [← hR] at HN HY ⊢
  have HE := Lib.hid hE'
  have hlen : (D.drop f).length = D.length - f := by simp
  obtain ⟨M, hM⟩ : ∃ M, M = D.drop f := ⟨_, rfl⟩
  rw [← hM] at HE hlen hs
  have HM := Lib.hid hM
  have HLE := Lib.hid hlen
  have HLF := Lib.hid hle
  have hMl : M.length ≤ 1000 := by omega
  clear hE hE' hf hM hR hlen hle
  go_enter Tryd.func26, Tryd.ntmps26
  go_wp2_with (go_at_call 40; (with_reducible refine HF.out.mono ?_); rintro e w1 ⟨rfl, hb⟩; have HB := Lib.hid hb; clear hb HF)
  go_loopw [10] (fun i wx => ∃ k : Nat, k ≤ M.length ∧ i = .int .i64 k ∧ Hid ((∀ j (hj : j < k), ∀ hl : j < M.length, M[j].2.2 = false) ∧ Below w.heap.size w wx)) (fun i _ => M.length - (intOf i).toNat)
  case atStart => exact ⟨0, by omega, rfl, Lib.hid ⟨fun j hj => by omega, HB.out⟩⟩
  case round =>
    obtain ⟨k, hk, rfl, HR⟩ := hrel
    by_cases hlt : k < M.length
    · have dk : decide ((k : Int) < (M.length : Int)) = true := decide_eq_true (by omega)
      obtain ⟨g, o, rfl, hg, c0, c1, c2⟩ := (HE.out.below HR.out.2).at_ k hlt
      generalize hd : M[k] = d at *
      obtain ⟨db, dn, dm⟩ := d
      simp only at c0 c1 c2
      have HB2 := Lib.hid (HR.out.2.alloc HR.out.2.size (.cells #[.string db, .int .i64 dn, .bool dm] 55))
      have HD := Lib.hid hd
      clear hd
      cases dm
      · go_wp2
        go_roundw
        case rel =>
          refine ⟨k + 1, by omega, by go_num, Lib.hid ⟨fun j hj hl => ?_, HB2.out⟩⟩
          by_cases hjk : j = k
          · subst hjk; rw [HD.out]
          · exact HR.out.1 j (by omega) hl
        case measure => simp [intOf]; omega
      · have hf := HN.out (f + k) (by omega) (by have := HLE.out; omega) (by
          have q := HD.out
          have h1 := HM.out
          subst h1
          rw [List.getElem_drop] at q
          rw [q])
        subst hf
        go_wp2
        go_ret
        exact ⟨rfl, HB2.out⟩
    · obtain rfl : k = M.length := by omega
      have dk : decide ((M.length : Int) < (M.length : Int)) = false := decide_eq_false (by omega)
      have hf := HY.out (fun j hj hfj => by
        have q := HR.out.1 (j - f) (by have := HLE.out; omega) (by have := HLE.out; omega)
        have h1 := HM.out
        subst h1
        rw [List.getElem_drop] at q
        rw [← q]
        congr 3
        omega)
      subst hf
      go_wp2
      go_ret
      exact ⟨rfl, HR.out.2⟩
end Go.Proofs.YtmgfpnemamedoaaDoor
namespace Go.Proofs.YtmgfpnemamedoaaDoor
open Go.RowKit Go.Sort
set_option maxRecDepth 20000
set_option maxHeartbeats 2000000 in
theorem of_any (tb fb : ByteArray) (tn fn : Int) (tm fm : Bool) (a : Option Addr) (cap : Nat) (D : List Ent) (w : World) (hD : D.length ≤ 1000) (hE : EntsAt w a cap ((tb, tn, tm) :: (fb, fn, fm) :: D)) :
    Calls Tryd.prog 36 #[.slice a (D.length + 2) cap] w fun e w' => ∃ v, e = .returned (.agg #[.string tb, .int .i64 tn, .string fb, .int .i64 fn, .bool tm, .bool fm, v]) ∧ OwnE 55 w' w.heap.size v D ∧ Below w.heap.size w w' := by
  obtain ⟨a', hs, hE'⟩ := slice_from Tryd.underlying28 sizeD hE 2 (by simp)
  have hle := hE.le
  obtain ⟨g, o, rfl, hg, c0, c1, c2⟩ := hE.at_ 0 (by simp)
  obtain ⟨g', o', ha, -, d0, d1, d2⟩ := hE.at_ 1 (by simp)
  simp only [Option.some.injEq, Addr.mk.injEq, and_true] at ha
  obtain ⟨rfl, rfl⟩ := ha
  simp only [List.getElem_cons_zero, List.getElem_cons_succ, Nat.zero_mul, Nat.add_zero, Nat.one_mul] at c0 c1 c2 d0 d1 d2
  simp only [List.length_cons, List.drop_succ_cons, List.drop_zero] at hs hE' hle
  obtain ⟨W, hW⟩ : ∃ W, W = (w.alloc (.cells #[.string ⟨#[]⟩, .int .i64 0, .string ⟨#[]⟩, .int .i64 0, .bool false, .bool false, .slice none 0 0] 30)) := ⟨_, rfl⟩
  have HB0 := Lib.hid (show Below w.heap.size w W from by rw [hW]; exact (Below.refl _ w).alloc (Nat.le_refl _) _)
  have hsz : W.heap.size = w.heap.size + 1 := by rw [hW]; simp
  have HP := Lib.hid (show P7 W w.heap.size _ _ _ _ _ _ _ from by rw [hW]; exact P7.new _ _ rfl _ _ _ _ _ _ _ _)
  have HC := Lib.hid (show W.cell? ⟨g, o, none⟩ = some (.string tb) ∧ W.cell? ⟨g, o + 1, none⟩ = some (.int .i64 tn) ∧ W.cell? ⟨g, o + 2, none⟩ = some (.bool tm) ∧ W.cell? ⟨g, o + 3, none⟩ = some (.string fb) ∧ W.cell? ⟨g, o + 3 + 1, none⟩ = some (.int .i64 fn) ∧ W.cell? ⟨g, o + 3 + 2, none⟩ = some (.bool fm) from
    ⟨(HB0.out.cell (p := ⟨g, _, none⟩) hg).trans c0, (HB0.out.cell (p := ⟨g, _, none⟩) hg).trans c1, (HB0.out.cell (p := ⟨g, _, none⟩) hg).trans c2, (HB0.out.cell (p := ⟨g, _, none⟩) hg).trans d0, (HB0.out.cell (p := ⟨g, _, none⟩) hg).trans d1, (HB0.out.cell (p := ⟨g, _, none⟩) hg).trans d2⟩)
  have HE := Lib.hid (hE'.below HB0.out)
  clear c0 c1 c2 d0 d1 d2 hE hE'
  have hl1 : (0 : Int) < (D.length : Int) + 2 := by omega
  have hl2 : (1 : Int) < (D.length : Int) + 2 := by omega
  have hgW : g < W.heap.size := by omega
  go_enter Tryd.func36, Tryd.ntmps36
  go_wp2
  rw [← hW]
  clear hW
  refine wp_region_held (S := fun W' => Below W.heap.size W W') (by kernel_rfl) ?_
  change wpAnyH _ _ _ _ _ _ _ _ W.drew
  have HB := Lib.hid ((Below.refl W.heap.size W).drew)
  refine wpAnyH_take (i := 0) (v := ?_) rfl (by kernel_rfl) (by kernel_rfl) (by kernel_rfl) (fun _ _ _ h => h) (Or.inl ⟨by rfl, ?_⟩) HB.out ?_
  rotate_left
  · intro w' hw'
    obtain ⟨x0, x1, x2, x3, x4, x5⟩ := HC.out; have y0 := (hw'.cell (p := ⟨g, o, none⟩) hgW).trans x0; have y1 := (hw'.cell (p := ⟨g, o + 1, none⟩) hgW).trans x1; have y2 := (hw'.cell (p := ⟨g, o + 2, none⟩) hgW).trans x2; have y3 := (hw'.cell (p := ⟨g, o + 3, none⟩) hgW).trans x3; have y4 := (hw'.cell (p := ⟨g, o + 3 + 1, none⟩) hgW).trans x4; have y5 := (hw'.cell (p := ⟨g, o + 3 + 2, none⟩) hgW).trans x5; clear x0 x1 x2 x3 x4 x5
    go_simp
    with_reducible rfl
  refine wpAnyH_take (i := 1) (v := ?_) rfl (by kernel_rfl) (by kernel_rfl) (by kernel_rfl) (fun _ _ _ h => h) (Or.inl ⟨by rfl, ?_⟩) HB.out ?_
  rotate_left
  · intro w' hw'
    obtain ⟨x0, x1, x2, x3, x4, x5⟩ := HC.out; have y0 := (hw'.cell (p := ⟨g, o, none⟩) hgW).trans x0; have y1 := (hw'.cell (p := ⟨g, o + 1, none⟩) hgW).trans x1; have y2 := (hw'.cell (p := ⟨g, o + 2, none⟩) hgW).trans x2; have y3 := (hw'.cell (p := ⟨g, o + 3, none⟩) hgW).trans x3; have y4 := (hw'.cell (p := ⟨g, o + 3 + 1, none⟩) hgW).trans x4; have y5 := (hw'.cell (p := ⟨g, o + 3 + 2, none⟩) hgW).trans x5; clear x0 x1 x2 x3 x4 x5
    go_simp
    with_reducible rfl
  refine wpAnyH_take (i := 2) (v := ?_) rfl (by kernel_rfl) (by kernel_rfl) (by kernel_rfl) (fun _ _ _ h => h) (Or.inl ⟨by rfl, ?_⟩) HB.out ?_
  rotate_left
  · intro w' hw'
    obtain ⟨x0, x1, x2, x3, x4, x5⟩ := HC.out; have y0 := (hw'.cell (p := ⟨g, o, none⟩) hgW).trans x0; have y1 := (hw'.cell (p := ⟨g, o + 1, none⟩) hgW).trans x1; have y2 := (hw'.cell (p := ⟨g, o + 2, none⟩) hgW).trans x2; have y3 := (hw'.cell (p := ⟨g, o + 3, none⟩) hgW).trans x3; have y4 := (hw'.cell (p := ⟨g, o + 3 + 1, none⟩) hgW).trans x4; have y5 := (hw'.cell (p := ⟨g, o + 3 + 2, none⟩) hgW).trans x5; clear x0 x1 x2 x3 x4 x5
    go_simp
    with_reducible rfl
  refine wpAnyH_take (i := 3) (v := ?_) rfl (by kernel_rfl) (by kernel_rfl) (by kernel_rfl) (fun _ _ _ h => h) (Or.inl ⟨by rfl, ?_⟩) HB.out ?_
  rotate_left
  · intro w' hw'
    obtain ⟨x0, x1, x2, x3, x4, x5⟩ := HC.out; have y0 := (hw'.cell (p := ⟨g, o, none⟩) hgW).trans x0; have y1 := (hw'.cell (p := ⟨g, o + 1, none⟩) hgW).trans x1; have y2 := (hw'.cell (p := ⟨g, o + 2, none⟩) hgW).trans x2; have y3 := (hw'.cell (p := ⟨g, o + 3, none⟩) hgW).trans x3; have y4 := (hw'.cell (p := ⟨g, o + 3 + 1, none⟩) hgW).trans x4; have y5 := (hw'.cell (p := ⟨g, o + 3 + 2, none⟩) hgW).trans x5; clear x0 x1 x2 x3 x4 x5
    go_simp
    with_reducible rfl
  refine wpAnyH_take (i := 4) (v := ?_) rfl (by kernel_rfl) (by kernel_rfl) (by kernel_rfl) (fun _ _ _ h => h) (Or.inl ⟨by rfl, ?_⟩) HB.out ?_
  rotate_left
  · intro w' hw'
    obtain ⟨x0, x1, x2, x3, x4, x5⟩ := HC.out; have y0 := (hw'.cell (p := ⟨g, o, none⟩) hgW).trans x0; have y1 := (hw'.cell (p := ⟨g, o + 1, none⟩) hgW).trans x1; have y2 := (hw'.cell (p := ⟨g, o + 2, none⟩) hgW).trans x2; have y3 := (hw'.cell (p := ⟨g, o + 3, none⟩) hgW).trans x3; have y4 := (hw'.cell (p := ⟨g, o + 3 + 1, none⟩) hgW).trans x4; have y5 := (hw'.cell (p := ⟨g, o + 3 + 2, none⟩) hgW).trans x5; clear x0 x1 x2 x3 x4 x5
    go_simp
    with_reducible rfl
  refine wpAnyH_take (i := 5) (v := ?_) rfl (by kernel_rfl) (by kernel_rfl) (by kernel_rfl) (fun _ _ _ h => h) (Or.inl ⟨by rfl, ?_⟩) HB.out ?_
  rotate_left
  · intro w' hw'
    obtain ⟨x0, x1, x2, x3, x4, x5⟩ := HC.out; have y0 := (hw'.cell (p := ⟨g, o, none⟩) hgW).trans x0; have y1 := (hw'.cell (p := ⟨g, o + 1, none⟩) hgW).trans x1; have y2 := (hw'.cell (p := ⟨g, o + 2, none⟩) hgW).trans x2; have y3 := (hw'.cell (p := ⟨g, o + 3, none⟩) hgW).trans x3; have y4 := (hw'.cell (p := ⟨g, o + 3 + 1, none⟩) hgW).trans x4; have y5 := (hw'.cell (p := ⟨g, o + 3 + 2, none⟩) hgW).trans x5; clear x0 x1 x2 x3 x4 x5
    go_simp
    with_reducible rfl
  refine wpAnyH_take (i := 6) (v := ?_) rfl (by kernel_rfl) (by kernel_rfl) (by kernel_rfl) (fun _ _ _ h => h) (Or.inl ⟨by rfl, ?_⟩) HB.out ?_
  rotate_left
  · intro w' hw'
    obtain ⟨x0, x1, x2, x3, x4, x5⟩ := HC.out; have y0 := (hw'.cell (p := ⟨g, o, none⟩) hgW).trans x0; have y1 := (hw'.cell (p := ⟨g, o + 1, none⟩) hgW).trans x1; have y2 := (hw'.cell (p := ⟨g, o + 2, none⟩) hgW).trans x2; have y3 := (hw'.cell (p := ⟨g, o + 3, none⟩) hgW).trans x3; have y4 := (hw'.cell (p := ⟨g, o + 3 + 1, none⟩) hgW).trans x4; have y5 := (hw'.cell (p := ⟨g, o + 3 + 2, none⟩) hgW).trans x5; clear x0 x1 x2 x3 x4 x5
    go_simp
    with_reducible rfl
  refine wpAnyH_take (i := 7) (v := ?_) rfl (by kernel_rfl) (by kernel_rfl) (by kernel_rfl) (fun _ _ _ h => h) (Or.inl ⟨by rfl, ?_⟩) HB.out ?_
  rotate_left
  · intro w' hw'
    obtain ⟨x0, x1, x2, x3, x4, x5⟩ := HC.out; have y0 := (hw'.cell (p := ⟨g, o, none⟩) hgW).trans x0; have y1 := (hw'.cell (p := ⟨g, o + 1, none⟩) hgW).trans x1; have y2 := (hw'.cell (p := ⟨g, o + 2, none⟩) hgW).trans x2; have y3 := (hw'.cell (p := ⟨g, o + 3, none⟩) hgW).trans x3; have y4 := (hw'.cell (p := ⟨g, o + 3 + 1, none⟩) hgW).trans x4; have y5 := (hw'.cell (p := ⟨g, o + 3 + 2, none⟩) hgW).trans x5; clear x0 x1 x2 x3 x4 x5
    go_simp
    with_reducible rfl
  refine wpAnyH_take (i := 8) (v := ?_) rfl (by kernel_rfl) (by kernel_rfl) (by kernel_rfl) (fun _ _ _ h => h) (Or.inl ⟨by rfl, ?_⟩) HB.out ?_
  rotate_left
  · intro w' hw'
    obtain ⟨x0, x1, x2, x3, x4, x5⟩ := HC.out; have y0 := (hw'.cell (p := ⟨g, o, none⟩) hgW).trans x0; have y1 := (hw'.cell (p := ⟨g, o + 1, none⟩) hgW).trans x1; have y2 := (hw'.cell (p := ⟨g, o + 2, none⟩) hgW).trans x2; have y3 := (hw'.cell (p := ⟨g, o + 3, none⟩) hgW).trans x3; have y4 := (hw'.cell (p := ⟨g, o + 3 + 1, none⟩) hgW).trans x4; have y5 := (hw'.cell (p := ⟨g, o + 3 + 2, none⟩) hgW).trans x5; clear x0 x1 x2 x3 x4 x5
    go_simp
    with_reducible rfl
  refine wpAnyH_take (i := 9) (v := ?_) rfl (by kernel_rfl) (by kernel_rfl) (by kernel_rfl) (fun _ _ _ h => h) (Or.inl ⟨by rfl, ?_⟩) HB.out ?_
  rotate_left
  · intro w' hw'
    obtain ⟨x0, x1, x2, x3, x4, x5⟩ := HC.out; have y0 := (hw'.cell (p := ⟨g, o, none⟩) hgW).trans x0; have y1 := (hw'.cell (p := ⟨g, o + 1, none⟩) hgW).trans x1; have y2 := (hw'.cell (p := ⟨g, o + 2, none⟩) hgW).trans x2; have y3 := (hw'.cell (p := ⟨g, o + 3, none⟩) hgW).trans x3; have y4 := (hw'.cell (p := ⟨g, o + 3 + 1, none⟩) hgW).trans x4; have y5 := (hw'.cell (p := ⟨g, o + 3 + 2, none⟩) hgW).trans x5; clear x0 x1 x2 x3 x4 x5
    go_simp
    with_reducible rfl
  refine wpAnyH_take (i := 10) (v := ?_) rfl (by kernel_rfl) (by kernel_rfl) (by kernel_rfl) (fun _ _ _ h => h) (Or.inl ⟨by rfl, ?_⟩) HB.out ?_
  rotate_left
  · intro w' hw'
    obtain ⟨x0, x1, x2, x3, x4, x5⟩ := HC.out; have y0 := (hw'.cell (p := ⟨g, o, none⟩) hgW).trans x0; have y1 := (hw'.cell (p := ⟨g, o + 1, none⟩) hgW).trans x1; have y2 := (hw'.cell (p := ⟨g, o + 2, none⟩) hgW).trans x2; have y3 := (hw'.cell (p := ⟨g, o + 3, none⟩) hgW).trans x3; have y4 := (hw'.cell (p := ⟨g, o + 3 + 1, none⟩) hgW).trans x4; have y5 := (hw'.cell (p := ⟨g, o + 3 + 2, none⟩) hgW).trans x5; clear x0 x1 x2 x3 x4 x5
    go_simp
    with_reducible rfl
  refine wpAnyH_take (i := 11) (v := ?_) rfl (by kernel_rfl) (by kernel_rfl) (by kernel_rfl) (fun _ _ _ h => h) (Or.inl ⟨by rfl, ?_⟩) HB.out ?_
  rotate_left
  · intro w' hw'
    obtain ⟨x0, x1, x2, x3, x4, x5⟩ := HC.out; have y0 := (hw'.cell (p := ⟨g, o, none⟩) hgW).trans x0; have y1 := (hw'.cell (p := ⟨g, o + 1, none⟩) hgW).trans x1; have y2 := (hw'.cell (p := ⟨g, o + 2, none⟩) hgW).trans x2; have y3 := (hw'.cell (p := ⟨g, o + 3, none⟩) hgW).trans x3; have y4 := (hw'.cell (p := ⟨g, o + 3 + 1, none⟩) hgW).trans x4; have y5 := (hw'.cell (p := ⟨g, o + 3 + 2, none⟩) hgW).trans x5; clear x0 x1 x2 x3 x4 x5
    go_simp
    with_reducible rfl
  refine wpAnyH_take (i := 12) (v := ?_) rfl (by kernel_rfl) (by kernel_rfl) (by kernel_rfl) (fun _ _ _ h => h) (Or.inl ⟨by rfl, ?_⟩) HB.out ?_
  rotate_left
  · intro w' hw'
    obtain ⟨x0, x1, x2, x3, x4, x5⟩ := HC.out; have y0 := (hw'.cell (p := ⟨g, o, none⟩) hgW).trans x0; have y1 := (hw'.cell (p := ⟨g, o + 1, none⟩) hgW).trans x1; have y2 := (hw'.cell (p := ⟨g, o + 2, none⟩) hgW).trans x2; have y3 := (hw'.cell (p := ⟨g, o + 3, none⟩) hgW).trans x3; have y4 := (hw'.cell (p := ⟨g, o + 3 + 1, none⟩) hgW).trans x4; have y5 := (hw'.cell (p := ⟨g, o + 3 + 2, none⟩) hgW).trans x5; clear x0 x1 x2 x3 x4 x5
    go_simp
    with_reducible rfl
  refine wpAnyH_take (i := 13) (v := ?_) rfl (by kernel_rfl) (by kernel_rfl) (by kernel_rfl) (fun _ _ _ h => h) (Or.inl ⟨by rfl, ?_⟩) HB.out ?_
  rotate_left
  · intro w' hw'
    obtain ⟨x0, x1, x2, x3, x4, x5⟩ := HC.out; have y0 := (hw'.cell (p := ⟨g, o, none⟩) hgW).trans x0; have y1 := (hw'.cell (p := ⟨g, o + 1, none⟩) hgW).trans x1; have y2 := (hw'.cell (p := ⟨g, o + 2, none⟩) hgW).trans x2; have y3 := (hw'.cell (p := ⟨g, o + 3, none⟩) hgW).trans x3; have y4 := (hw'.cell (p := ⟨g, o + 3 + 1, none⟩) hgW).trans x4; have y5 := (hw'.cell (p := ⟨g, o + 3 + 2, none⟩) hgW).trans x5; clear x0 x1 x2 x3 x4 x5
    go_simp
    with_reducible rfl
  refine wpAnyH_take (i := 14) (v := ?_) rfl (by kernel_rfl) (by kernel_rfl) (by kernel_rfl) (fun _ _ _ h => h) (Or.inl ⟨by rfl, ?_⟩) HB.out ?_
  rotate_left
  · intro w' hw'
    obtain ⟨x0, x1, x2, x3, x4, x5⟩ := HC.out; have y0 := (hw'.cell (p := ⟨g, o, none⟩) hgW).trans x0; have y1 := (hw'.cell (p := ⟨g, o + 1, none⟩) hgW).trans x1; have y2 := (hw'.cell (p := ⟨g, o + 2, none⟩) hgW).trans x2; have y3 := (hw'.cell (p := ⟨g, o + 3, none⟩) hgW).trans x3; have y4 := (hw'.cell (p := ⟨g, o + 3 + 1, none⟩) hgW).trans x4; have y5 := (hw'.cell (p := ⟨g, o + 3 + 2, none⟩) hgW).trans x5; clear x0 x1 x2 x3 x4 x5
    go_simp
    with_reducible rfl
  refine wpAnyH_take (i := 15) (v := ?_) rfl (by kernel_rfl) (by kernel_rfl) (by kernel_rfl) (fun _ _ _ h => h) (Or.inl ⟨by rfl, ?_⟩) HB.out ?_
  rotate_left
  · intro w' hw'
    obtain ⟨x0, x1, x2, x3, x4, x5⟩ := HC.out; have y0 := (hw'.cell (p := ⟨g, o, none⟩) hgW).trans x0; have y1 := (hw'.cell (p := ⟨g, o + 1, none⟩) hgW).trans x1; have y2 := (hw'.cell (p := ⟨g, o + 2, none⟩) hgW).trans x2; have y3 := (hw'.cell (p := ⟨g, o + 3, none⟩) hgW).trans x3; have y4 := (hw'.cell (p := ⟨g, o + 3 + 1, none⟩) hgW).trans x4; have y5 := (hw'.cell (p := ⟨g, o + 3 + 2, none⟩) hgW).trans x5; clear x0 x1 x2 x3 x4 x5
    go_simp
    with_reducible rfl
  refine wpAnyH_take (i := 16) (v := ?_) rfl (by kernel_rfl) (by kernel_rfl) (by kernel_rfl) (fun _ _ _ h => h) (Or.inl ⟨by rfl, ?_⟩) HB.out ?_
  rotate_left
  · intro w' hw'
    obtain ⟨x0, x1, x2, x3, x4, x5⟩ := HC.out; have y0 := (hw'.cell (p := ⟨g, o, none⟩) hgW).trans x0; have y1 := (hw'.cell (p := ⟨g, o + 1, none⟩) hgW).trans x1; have y2 := (hw'.cell (p := ⟨g, o + 2, none⟩) hgW).trans x2; have y3 := (hw'.cell (p := ⟨g, o + 3, none⟩) hgW).trans x3; have y4 := (hw'.cell (p := ⟨g, o + 3 + 1, none⟩) hgW).trans x4; have y5 := (hw'.cell (p := ⟨g, o + 3 + 2, none⟩) hgW).trans x5; clear x0 x1 x2 x3 x4 x5
    go_simp
    with_reducible rfl
  refine wpAnyH_ready (rs := [17]) (by kernel_rfl) (by simp) ?_
  refine AllReadyH.cons rfl (fun K hK => ?_) AllReadyH.nil
  go_simp
  have HB := Lib.hid (((Below.refl W.heap.size W).alloc (Nat.le_refl _) (.cells #[.string ⟨#[]⟩, .int .i64 0, .string ⟨#[]⟩, .int .i64 0, .bool false, .bool false, .slice none 0 0] 30)).drew)
  refine hK.out _ _ HB.out (fun _ => ?_)
  clear hK K
  have HQ := Lib.hid ((P7.new W (w.heap.size + 1) hsz.symm (.string ⟨#[]⟩) (.int .i64 0) (.string ⟨#[]⟩) (.int .i64 0) (.bool false) (.bool false) (.slice none 0 0) 30).drew)
  obtain ⟨⟨p0, q0, pl⟩, ⟨p1, q1, -⟩, ⟨p2, q2, -⟩, ⟨p3, q3, -⟩, ⟨p4, q4, -⟩, ⟨p5, q5, -⟩, ⟨p6, q6, -⟩⟩ := HQ.out
  have HX := Lib.hid ((HP.out.alloc (.cells #[.string ⟨#[]⟩, .int .i64 0, .string ⟨#[]⟩, .int .i64 0, .bool false, .bool false, .slice none 0 0] 30)).drew)
  have HE2 := Lib.hid ((HE.out.alloc (.cells #[.string ⟨#[]⟩, .int .i64 0, .string ⟨#[]⟩, .int .i64 0, .bool false, .bool false, .slice none 0 0] 30)).drew)
  generalize (W.alloc (.cells #[.string ⟨#[]⟩, .int .i64 0, .string ⟨#[]⟩, .int .i64 0, .bool false, .bool false, .slice none 0 0] 30)).drew = V at *
  refine wpAnyH_ready (rs := [18]) (by kernel_rfl) (by simp) ?_
  refine AllReadyH.cons rfl (fun K hK => ?_) AllReadyH.nil
  go_simp
  have HQ := Lib.hid (stored7 (m := w.heap.size + 1) (.string tb) (.int .i64 tn) (.string fb) (.int .i64 fn) (.bool tm) (.bool fm) (.slice none 0 0) HQ.out)
  have HX := Lib.hid (show P7 (((((((V.setCell ⟨(w.heap.size + 1), 0, none⟩ (.string tb)).setCell ⟨(w.heap.size + 1), 1, none⟩ (.int .i64 tn)).setCell ⟨(w.heap.size + 1), 2, none⟩ (.string fb)).setCell ⟨(w.heap.size + 1), 3, none⟩ (.int .i64 fn)).setCell ⟨(w.heap.size + 1), 4, none⟩ (.bool tm)).setCell ⟨(w.heap.size + 1), 5, none⟩ (.bool fm)).setCell ⟨(w.heap.size + 1), 6, none⟩ (.slice none 0 0)) w.heap.size _ _ _ _ _ _ _ from ((((((HX.out.other _ (by omega)).other _ (by omega)).other _ (by omega)).other _ (by omega)).other _ (by omega)).other _ (by omega)).other _ (by omega))
  have HB := Lib.hid (set7_below (m := w.heap.size + 1) HB.out (by omega) (.string tb) (.int .i64 tn) (.string fb) (.int .i64 fn) (.bool tm) (.bool fm) (.slice none 0 0))
  refine hK.out _ _ HB.out (fun _ => ?_)
  clear hK K
  have HE2 := Lib.hid (HE.out.below HB.out)
  generalize (((((((V.setCell ⟨(w.heap.size + 1), 0, none⟩ (.string tb)).setCell ⟨(w.heap.size + 1), 1, none⟩ (.int .i64 tn)).setCell ⟨(w.heap.size + 1), 2, none⟩ (.string fb)).setCell ⟨(w.heap.size + 1), 3, none⟩ (.int .i64 fn)).setCell ⟨(w.heap.size + 1), 4, none⟩ (.bool tm)).setCell ⟨(w.heap.size + 1), 5, none⟩ (.bool fm)).setCell ⟨(w.heap.size + 1), 6, none⟩ (.slice none 0 0)) = X at *
  clear p0 q0 pl p1 q1 p2 q2 p3 q3 p4 q4 p5 q5 p6 q6
  refine wpAnyH_done (by kernel_rfl) ?_ _
  go_wp2
  have HBX := Lib.hid (HB0.out.trans (HB.out.mono HB0.out.size))
  clear HB HB0 HE HP HC
  obtain ⟨⟨p0, q0, pl⟩, ⟨p1, q1, -⟩, ⟨p2, q2, -⟩, ⟨p3, q3, -⟩, ⟨p4, q4, -⟩, ⟨p5, q5, -⟩, ⟨p6, q6, -⟩⟩ := HQ.out
  have hsl : ∀ W, (Instr.slice 28 (.slice (some ⟨g, o, none⟩) (D.length + 2) cap) (some (.int .i64 2)) none none).run Tryd.prog W = .ok (.slice a' D.length (cap - 2)) W := hs
  have HE3 := Lib.hid (HE2.out.drew)
  have HQ3 := Lib.hid (HQ.out.drew)
  have HX3 := Lib.hid (HX.out.drew)
  have HBX3 := Lib.hid HBX.out.drew
  refine wp_region_any (by kernel_rfl) ?_
  try (change wpAny _ _ _ _ _ _ _ (World.drew _))
  have HYS := Lib.hid (show w.heap.size + 2 ≤ X.drew.heap.size from pl)
  generalize X.drew = Y at *
  clear p0 q0 pl p1 q1 p2 q2 p3 q3 p4 q4 p5 q5 p6 q6 HX HQ HBX HE2
  have y6 := HQ3.out.k6.cell
  have HLL := Lib.hid (show ([] : List Ent).length + D.length ≤ 100000 from by simp; omega)
  refine wpAny_take (i := 0) (v := ?_) rfl (by kernel_rfl) (by kernel_rfl) (by kernel_rfl) (fun _ _ _ h => h) (Or.inl ⟨by rfl, ?_⟩) ?_
  rotate_left
  · intro w; go_simp; with_reducible rfl
  refine wpAny_take (i := 2) (v := ?_) rfl (by kernel_rfl) (by kernel_rfl) (by kernel_rfl) (fun _ _ _ h => h) (Or.inl ⟨by rfl, ?_⟩) ?_
  rotate_left
  · intro w; go_simp; with_reducible rfl
  refine wpAny_take (i := 3) (v := ?_) rfl (by kernel_rfl) (by kernel_rfl) (by kernel_rfl) (fun _ _ _ h => h) (Or.inl ⟨by rfl, ?_⟩) ?_
  rotate_left
  · intro w; go_simp; with_reducible rfl
  refine wpAny_ready (rs := [1]) (by kernel_rfl) (by simp) ?_
  refine AllReady.cons rfl (fun K hK => ?_) AllReady.nil
  go_simp
  refine hK _ _ ?_
  clear hK K
  refine wpAny_ready (rs := [4]) (by kernel_rfl) (by simp) ?_
  refine AllReady.cons rfl (fun K hK => ?_) AllReady.nil
  rw [if_pos (by kernel_rfl)]
  unfold Oper.wp
  refine wp_append_ents infoD Tryd.underlying28 _ (.tmp 22) (.tmp 24) rfl (w.heap.size + 2) (.slice none 0 0) [] D rfl (OwnE.nil _ _ _) a' (cap - 2) rfl HE3.out HLL.out ?_ ?_
  · show _ ≤ Y.heap.size
    exact HYS.out
  intro v' w1 hown hgr hov
  obtain ⟨va, vn, vc, rfl⟩ := hown.form
  have HG := Lib.hid (show Below Y.heap.size Y w1 from (Below.refl _ Y).grown hgr (Nat.le_refl _) (fun k h => by cases h))
  have HQ4 := Lib.hid (HQ3.out.below HG.out)
  have HX4 := Lib.hid (HX3.out.below HG.out)
  have HOW := Lib.hid hown
  have HBX4 := Lib.hid (HBX3.out.trans (HG.out.mono HBX3.out.size))
  have HZ := Lib.hid (Nat.le_trans HYS.out HG.out.size)
  clear hown hgr hov HQ3 HX3 HG HBX3 HYS
  go_simp
  refine hK _ _ ?_
  clear hK K
  have HQ5 := Lib.hid (HQ4.out.put6 (.slice va vn vc))
  have HX5 := Lib.hid (HX4.out.other (g := w.heap.size + 1) (p := 6) (.slice va vn vc) (by omega))
  have HOW5 := Lib.hid (HOW.out.grown (grown_set (grown_refl w1 (some (w.heap.size + 1))) (o := 6) (.slice va vn vc)) (fun g hv e => by have := (HOW.out.ge hv).1; have := Option.some.inj e; omega))
  have HBX5 := Lib.hid (HBX4.out.setCell (p := ⟨w.heap.size + 1, 6, none⟩) (by show w.heap.size ≤ w.heap.size + 1; omega) (.slice va vn vc))
  obtain ⟨z0, zf, zl⟩ := HQ4.out.k6
  refine wpAny_ready (rs := [5]) (by kernel_rfl) (by simp) ?_
  refine AllReady.cons rfl (fun K hK => ?_) AllReady.nil
  go_simp
  refine hK _ _ ?_
  clear hK K
  refine wpAny_ready (rs := [6]) (by kernel_rfl) (by simp) ?_
  refine AllReady.cons rfl (fun K hK => ?_) AllReady.nil
  go_simp
  refine hK _ _ ?_
  clear hK K
  generalize w1.setCell ⟨w.heap.size + 1, 6, none⟩ (.slice va vn vc) = w5 at *
  refine wpAny_done (by kernel_rfl) ?_ _
  clear z0 zf zl HQ4 HX4 HOW HBX4 y6
  obtain ⟨⟨p0, q0, pl⟩, ⟨p1, q1, -⟩, ⟨p2, q2, -⟩, ⟨p3, q3, -⟩, ⟨p4, q4, -⟩, ⟨p5, q5, -⟩, ⟨p6, q6, -⟩⟩ := HQ5.out
  obtain ⟨⟨r0, s0, rl⟩, ⟨r1, s1, -⟩, ⟨r2, s2, -⟩, ⟨r3, s3, -⟩, ⟨r4, s4, -⟩, ⟨r5, s5, -⟩, ⟨r6, s6, -⟩⟩ := HX5.out
  have S7 := stored7 (m := w.heap.size) (.string tb) (.int .i64 tn) (.string fb) (.int .i64 fn) (.bool tm) (.bool fm) (.slice va vn vc) HX5.out
  have HF := Lib.hid (And.intro (HOW5.out.grown (grown7 (m := w.heap.size) (grown_refl w5 (some w.heap.size)) (Or.inr rfl) (.string tb) (.int .i64 tn) (.string fb) (.int .i64 fn) (.bool tm) (.bool fm) (.slice va vn vc)) (fun g hv e => by have := (HOW5.out.ge hv).1; have := Option.some.inj e; omega)) (set7_below (m := w.heap.size) HBX5.out (Nat.le_refl _) (.string tb) (.int .i64 tn) (.string fb) (.int .i64 fn) (.bool tm) (.bool fm) (.slice va vn vc)))
  go_wp2
  exact bodyPost_ret (v := .agg #[.string tb, .int .i64 tn, .string fb, .int .i64 fn, .bool tm, .bool fm, .slice va vn vc]) (by simp [results, Tryd.results36, go_sem, S7.k0.cell, S7.k1.cell, S7.k2.cell, S7.k3.cell, S7.k4.cell, S7.k5.cell, S7.k6.cell]) rfl ⟨_, rfl, HF.out.1.base (by omega), HF.out.2⟩
end Go.Proofs.YtmgfpnemamedoaaDoor
namespace Go.Proofs.YtmgfpnemamedoaaDoor
open Go.RowKit Go.Sort
set_option maxRecDepth 20000
theorem ord_viol (L : List Ent) (k : Nat) (h3 : 3 ≤ k) (hk : k < L.length) (h1 : L[k].2.2 = true) (h0 : (L[k - 1]'(by omega)).2.2 = false) : ordD (L.drop 2) = false := by
  cases hq : ordD (L.drop 2)
  · rfl
  · exfalso
    have := (ord_iff _).1 hq (k - 3) (by rw [List.length_drop]; omega) (by
      rw [List.getElem_drop]
      have e : 2 + (k - 3 + 1) = k := by omega
      simp only [e]; exact h1)
    rw [List.getElem_drop] at this
    have e : 2 + (k - 3) = k - 1 := by omega
    simp only [e] at this
    rw [h0] at this
    cases this
theorem ord_fine (L : List Ent) (h : ∀ j, 3 ≤ j → ∀ hj : j < L.length, L[j].2.2 = true → (L[j - 1]'(by omega)).2.2 = true) : ordD (L.drop 2) = true := by
  rw [ord_iff]
  intro i hi hx
  rw [List.getElem_drop] at hx ⊢
  have hl : 2 + (i + 1) < L.length := by rw [List.length_drop] at hi; omega
  exact h (2 + (i + 1)) (by omega) hl hx
end Go.Proofs.YtmgfpnemamedoaaDoor
namespace Go.Proofs.YtmgfpnemamedoaaDoor
open Go.RowKit Go.Sort
set_option maxRecDepth 20000
/-- the entry that a call's bytes are -/
def entD (s : List UInt8) : Ent := (⟨(getD7 s).2.1.toArray⟩, ((getD7 s).2.2.1 : Int), (getD7 s).2.2.2.1)
/-- what Get finds behind the entries that it has read; k: how many more there may be -/
def getP : Nat → List Ent → List UInt8 → Nat × List Ent
  | 0, _, s => if s.length < 7 then (4, []) else if (getD7 (s.take 7)).1 then (11, []) else (2, [])
  | k + 1, l, s => if s.length < 7 then (4, []) else if (getD7 (s.take 7)).1 then
      (if (getD7 (s.take 7)).2.2.2.2 then (if l.length = 0 then (2, []) else if ordD ((l ++ [entD (s.take 7)]).drop 2) then (0, l ++ [entD (s.take 7)]) else (11, [])) else getP k (l ++ [entD (s.take 7)]) (s.drop 7)) else (2, [])
/-- no more than ten entries; each found where it is right -/
theorem getP_len : ∀ (k : Nat) (l : List Ent) (s : List UInt8), l.length + k = 10 → (getP k l s).2.length ≤ 10
  | 0, l, s, h => by
    unfold getP
    split
    · simp
    · split <;> simp
  | k + 1, l, s, h => by
    unfold getP
    split
    · simp
    · split
      · split
        · split
          · simp
          · split
            · simp; omega
            · simp
        · exact getP_len k _ _ (by simp; omega)
      · simp
/-- seven bytes of a text -/
theorem part7 (s : ByteArray) (at_ : Nat) (h : at_ + 7 ≤ s.size) : ∃ p : ByteArray, p.data.toList = (s.data.toList.drop at_).take 7 ∧ p.size = 7 ∧ ∀ W, (Instr.slice 9 (.string s) (some (.int .i64 (at_ : Int))) (some (.int .i64 ((at_ : Int) + 7))) none).run Tryd.prog W = .ok (.string p) W := by
  refine ⟨s.extract at_ (at_ + 7), ?_, ?_, fun W => ?_⟩
  · rw [Lib.extract_data]
    congr 1
    omega
  · rw [ByteArray.size_extract]
    omega
  · have k := run_slice_string (P := Tryd.prog) (w := W) 9 s .i64 .i64 (at_ : Int) ((at_ : Int) + 7) Tryd.underlying9 (by omega) (by omega) (by omega)
    rw [k]
    congr 2
theorem getP_short : ∀ (k : Nat) (l : List Ent) (s : List UInt8), s.length < 7 → getP k l s = (4, [])
  | 0, _, _, h => by unfold getP; rw [if_pos h]
  | k + 1, _, _, h => by unfold getP; rw [if_pos h]
theorem getP_bad : ∀ (k : Nat) (l : List Ent) (s : List UInt8), 7 ≤ s.length → (getD7 (s.take 7)).1 = false → getP k l s = (2, [])
  | 0, _, _, h, hg => by unfold getP; rw [if_neg (by omega), hg]; rfl
  | k + 1, _, _, h, hg => by unfold getP; rw [if_neg (by omega), hg]; rfl
theorem getP_full (l : List Ent) (s : List UInt8) (h : 7 ≤ s.length) (hg : (getD7 (s.take 7)).1 = true) : getP 0 l s = (11, []) := by unfold getP; rw [if_neg (by omega), if_pos hg]
theorem getP_next (k : Nat) (l : List Ent) (s : List UInt8) (h : 7 ≤ s.length) {bl : List UInt8} {n : Nat} {mk : Bool} (hg : getD7 (s.take 7) = (true, bl, n, mk, false)) : getP (k + 1) l s = getP k (l ++ [(⟨bl.toArray⟩, (n : Int), mk)]) (s.drop 7) := by
  conv => lhs; unfold getP
  rw [if_neg (by omega)]
  unfold entD
  rw [hg]
  rfl
theorem getP_last (k : Nat) (l : List Ent) (s : List UInt8) (h : 7 ≤ s.length) {bl : List UInt8} {n : Nat} {mk : Bool} (hg : getD7 (s.take 7) = (true, bl, n, mk, true)) :
    getP (k + 1) l s = if l.length = 0 then (2, []) else if ordD ((l ++ [((⟨bl.toArray⟩ : ByteArray), (n : Int), mk)] : List Ent).drop 2) then (0, l ++ [((⟨bl.toArray⟩ : ByteArray), (n : Int), mk)]) else (11, []) := by
  conv => lhs; unfold getP
  rw [if_neg (by omega)]
  unfold entD
  rw [hg]
  rfl
end Go.Proofs.YtmgfpnemamedoaaDoor
