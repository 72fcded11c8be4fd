/-
How a station's table of links lies: its cells in a row, its entries, and each entry's link, all in blocks of their own.
-/
import Derived.Test.YtgoaepjjegblnaaGreatDoorMix14
namespace Go.Proofs.YtgoaepjjegblnaaGreatDoor
open Go.RowKit
set_option maxRecDepth 20000
/-- an entry as it lies: its block, its link's, its number, its peer, its link, and in which blocks that lies -/
structure En where
  eb : Nat
  q : Nat
  id : Int
  pb : ByteArray
  pn : Int
  lk : Lk
  F : Nat → Prop
/-- as plain facts -/
structure Ep where
  id : Int
  pb : ByteArray
  pn : Int
  lk : Lk
def En.ep (e : En) : Ep := ⟨e.id, e.pb, e.pn, e.lk⟩
structure Tb where
  ob : ByteArray
  on : Int
  can : Xq
  ents : List Ep
  given : Int
def encEn : Enc En := ⟨1, by omega, fun e => [ptr20 e.eb], fun _ => rfl, fun v u hu => by
  simp only [List.mem_cons, List.not_mem_nil, or_false] at hu
  rcases hu with rfl; rfl⟩
theorem infoEn : (Tryz.prog.info? 179).map (fun i => (i.zero, i.size, i.bytes)) = some (some (.pointer none), 1, 8) := by kernel_rfl
def footE (e : En) : Nat → Prop := fun k => k = e.eb ∨ e.F k
structure EnAt (w : World) (e : En) : Prop where
  row : RowAt w e.eb [ptr20 e.q, .int .i64 e.id, .string e.pb, .int .i64 e.pn]
  link : LkL w e.q e.lk e.F
  off : ¬ e.F e.eb
section
variable {w w' : World} {e : En}
theorem EnAt.mem (h : EnAt w e) : ∀ k, footE e k → k < w.heap.size := by
  rintro k (rfl | hk)
  · exact RowAt.lt h.row
  · exact h.link.mem k hk
theorem EnAt.stay (h : EnAt w e) (hs : SameOn (footE e) w w') : EnAt w' e :=
  ⟨h.row.block (hs.2 _ (Or.inl rfl)) hs.1, h.link.stay ⟨hs.1, fun k hk => hs.2 k (Or.inr hk)⟩, h.off⟩
end
abbrev tbRow (T : Tb) (tv : Value) : List Value := [.string T.ob, .int .i64 T.on, .bool T.can.wide, .bool T.can.srej, .int .i64 T.can.n1, .int .i64 T.can.k, .int .i64 T.can.t1, .int .i64 T.can.n2, tv, .int .i64 T.given]
/-- how a table lies -/
structure TbAt (w : World) (p : Nat) (tv : Value) (L : List En) (T : Tb) : Prop where
  row : RowAt w p (tbRow T tv)
  ents : OwnL encEn 179 w 0 tv L
  same : L.map En.ep = T.ents
  each : ∀ e ∈ L, EnAt w e
  tp : tv.ownBlock ≠ some p
  ep : ∀ e ∈ L, ∀ k, footE e k → k ≠ p ∧ tv.ownBlock ≠ some k
  pw : L.Pairwise fun a b => ∀ k, footE a k → ¬ footE b k
def footT (p : Nat) (tv : Value) (L : List En) : Nat → Prop := fun k => k = p ∨ tv.ownBlock = some k ∨ ∃ e ∈ L, footE e k
section
variable {w w' : World} {p : Nat} {tv : Value} {L : List En} {T : Tb}
theorem TbAt.lt (h : TbAt w p tv L T) : p < w.heap.size := RowAt.lt h.row
theorem TbAt.mem (h : TbAt w p tv L T) : ∀ k, footT p tv L k → k < w.heap.size := by
  rintro k (rfl | hk | ⟨e, he, hk⟩)
  · exact h.lt
  · exact (h.ents.ge hk).2
  · exact (h.each e he).mem k hk
theorem TbAt.stay (h : TbAt w p tv L T) (hs : SameOn (footT p tv L) w w') : TbAt w' p tv L T :=
  ⟨h.row.block (hs.2 p (Or.inl rfl)) hs.1, h.ents.same fun g hg => hs.2 g (Or.inr (Or.inl hg)), h.same, fun e he => (h.each e he).stay ⟨hs.1, fun k hk => hs.2 k (Or.inr (Or.inr ⟨e, he, hk⟩))⟩, h.tp, h.ep, h.pw⟩
theorem TbAt.below (h : TbAt w p tv L T) (hb : Below w.heap.size w w') : TbAt w' p tv L T := h.stay (SameOn.of_below hb h.mem)
end
/-- the same, its letters closed -/
def TbL (w : World) (p : Nat) (T : Tb) (F : Nat → Prop) : Prop := ∃ tv L, TbAt w p tv L T ∧ F = footT p tv L
section
variable {w w' : World} {p : Nat} {T T' : Tb} {F F' : Nat → Prop}
end
/-- one that is new -/
theorem TbL.new (w : World) (ob : ByteArray) (on : Int) (can : Xq) : TbL (w.alloc (.cells #[.string ob, .int .i64 on, .bool can.wide, .bool can.srej, .int .i64 can.n1, .int .i64 can.k, .int .i64 can.t1, .int .i64 can.n2, .slice none 0 0, .int .i64 0] 177)) w.heap.size ⟨ob, on, can, [], 0⟩ (fun k => k = w.heap.size) :=
  ⟨.slice none 0 0, [], ⟨RowAt.new w w.heap.size rfl (tbRow ⟨ob, on, can, [], 0⟩ (.slice none 0 0)) 177, OwnL.nil _ _ _ _, rfl, (fun e he => absurd he (by simp)), by simp [Value.ownBlock], (fun e he => absurd he (by simp)), List.Pairwise.nil⟩, by
    funext k
    simp [footT, Value.ownBlock]⟩
/-- one more entry: behind given's store, the append, and its store -/
theorem TbAt.added {w W W' : World} {p : Nat} {tv v' : Value} {L : List En} {T : Tb} {u : En} (h : TbAt w p tv L T) (hW : TbAt W p tv L { T with given := u.id }) (hu : EnAt W u) (hun : ∀ k, footE u k → w.heap.size ≤ k) (hsz : w.heap.size ≤ W.heap.size)
    (hown : OwnL encEn 179 W' 0 v' (L ++ [u])) (hg : W.grownBy W' tv.ownBlock) (hv : v'.ownBlock = tv.ownBlock ∨ v'.ownBlock = some W.heap.size) :
    RowAt W' p (tbRow { T with given := u.id } tv) ∧ TbAt (W'.setCell ⟨p, 8, none⟩ v') p v' (L ++ [u]) { T with given := u.id, ents := T.ents ++ [u.ep] } ∧ Turn (footT p tv L) W (W'.setCell ⟨p, 8, none⟩ v') ∧ Grew (footT p tv L) (footT p v' (L ++ [u])) w := by
  have hp := hW.lt
  have hpw := h.lt
  have hrow : RowAt W' p (tbRow { T with given := u.id } tv) := hW.row.block (hg.block p hp fun e => hW.tp e.symm) hg.size
  have hum := hu.mem
  have hold := h.mem
  have hv2 : ∀ b, v'.ownBlock = some b → tv.ownBlock = some b ∨ b = W.heap.size := fun b e => by
    rcases hv with hv | hv
    · exact Or.inl (hv ▸ e)
    · rw [hv] at e
      exact Or.inr (Option.some.inj e).symm
  have hvp : v'.ownBlock ≠ some p := fun e => (hv2 p e).elim hW.tp fun e => by omega
  have hs : ∀ k, k ≠ p → (W'.setCell ⟨p, 8, none⟩ v').heap[k]? = W'.heap[k]? := fun k hk => Below.heap_setCell _ _ _ _ hk
  have hsize : (W'.setCell ⟨p, 8, none⟩ v').heap.size = W'.heap.size := by simp [World.setCell]
  have hall : ∀ e ∈ L ++ [u], EnAt W e := fun e he => (List.mem_append.1 he).elim (hW.each e) fun he => by rw [List.mem_singleton.1 he]; exact hu
  have hoff : ∀ e ∈ L ++ [u], ∀ k, footE e k → k ≠ p ∧ tv.ownBlock ≠ some k := fun e he k hk => (List.mem_append.1 he).elim (fun he => hW.ep e he k hk) fun he => by
    rw [List.mem_singleton.1 he] at hk
    have := hun k hk
    exact ⟨by omega, fun e => by have := (h.ents.ge e).2; omega⟩
  refine ⟨hrow, ⟨hrow.put 8 v' _ rfl, hown.same fun g hg' => hs g fun e => hvp (e ▸ hg'), by rw [List.map_append, hW.same]; rfl, fun e he => (hall e he).stay ⟨by rw [hsize]; exact hg.size, fun k hk => (hs k (hoff e he k hk).1).trans (hg.block k ((hall e he).mem k hk) fun e' => (hoff e he k hk).2 e'.symm)⟩, hvp, fun e he k hk => ⟨(hoff e he k hk).1, fun e' => (hv2 k e').elim (hoff e he k hk).2 fun e2 => by have := (hall e he).mem k hk; omega⟩, ?_⟩, ?_, ?_⟩
  · rw [List.pairwise_append]
    refine ⟨hW.pw, List.pairwise_singleton _ _, fun a ha b hb k hk hk2 => ?_⟩
    rw [List.mem_singleton.1 hb] at hk2
    have := hun k hk2
    have := (h.each a ha).mem k hk
    omega
  · have ht : Turn (footT p tv L) W W' := ⟨hg.os, hg.tape, hg.output, hg.size, fun k hk hF => hg.block k hk fun e => hF (Or.inr (Or.inl e.symm))⟩
    exact ht.set (p := ⟨p, 8, none⟩) (Or.inl (Or.inl rfl)) v'
  · rintro k (hk | hk | ⟨e, he, hk⟩)
    · exact Or.inl (Or.inl hk)
    · exact (hv2 k hk).imp (fun e => Or.inr (Or.inl e)) fun e => by omega
    · rcases List.mem_append.1 he with he | he
      · exact Or.inl (Or.inr (Or.inr ⟨e, he, hk⟩))
      · rw [List.mem_singleton.1 he] at hk
        exact Or.inr (hun k hk)
/-- one entry's link turns -/
theorem TbAt.turned {w w' : World} {p : Nat} {tv : Value} {A B : List En} {u : En} {T : Tb} (h : TbAt w p tv (A ++ u :: B) T) {s' : Lk} {F' : Nat → Prop} (hl : LkL w' u.q s' F') (ht : Turn u.F w w') (hg : Grew u.F F' w) :
    TbAt w' p tv (A ++ { u with lk := s', F := F' } :: B) { T with ents := (A ++ { u with lk := s', F := F' } :: B).map En.ep } ∧ Turn (footT p tv (A ++ u :: B)) w w' ∧ Grew (footT p tv (A ++ u :: B)) (footT p tv (A ++ { u with lk := s', F := F' } :: B)) w := by
  have hum : u ∈ A ++ u :: B := by simp
  have hu := h.each u hum
  have hmem := h.mem
  have hF : ∀ k, ¬ footT p tv (A ++ u :: B) k → ¬ u.F k := fun k hk hf => hk (Or.inr (Or.inr ⟨u, hum, Or.inr hf⟩))
  have up : ∀ k, footE { u with lk := s', F := F' } k → footE u k ∨ w.heap.size ≤ k := fun k hk => hk.elim (fun e => Or.inl (Or.inl e)) fun hf => (hg k hf).imp Or.inr id
  have hpw := List.pairwise_append.1 h.pw
  have hpc := List.pairwise_cons.1 hpw.2.1
  have other : ∀ e, e ∈ A ∨ e ∈ B → (∀ k, footE e k → ¬ footE u k) ∧ e ∈ A ++ u :: B := fun e he => he.elim (fun ha => ⟨fun k hk hk2 => hpw.2.2 e ha u (by simp) k hk hk2, by simp [ha]⟩) fun hb => ⟨fun k hk hk2 => hpc.1 e hb k hk2 hk, by simp [hb]⟩
  have stay : ∀ e, e ∈ A ∨ e ∈ B → EnAt w' e := fun e he => (h.each e (other e he).2).stay ⟨ht.size, fun k hk => ht.block k ((h.each e (other e he).2).mem k hk) fun hf => (other e he).1 k hk (Or.inr hf)⟩
  have split : ∀ e, e ∈ A ++ { u with lk := s', F := F' } :: B → (e ∈ A ∨ e ∈ B) ∨ e = { u with lk := s', F := F' } := fun e he => by
    rcases List.mem_append.1 he with he | he
    · exact Or.inl (Or.inl he)
    · exact (List.mem_cons.1 he).elim Or.inr fun hb => Or.inl (Or.inr hb)
  refine ⟨⟨h.row.turn ht fun hf => (h.ep u hum p (Or.inr hf)).1 rfl, ?_, rfl, fun e he => ?_, h.tp, fun e he k hk => ?_, ?_⟩, ⟨ht.os, ht.tape, ht.output, ht.size, fun k hk hf => ht.block k hk (hF k hf)⟩, ?_⟩
  · have hen := h.ents.turn ht fun g hg' hf => (h.ep u hum g (Or.inr hf)).2 hg'
    have hfl : flatE encEn (A ++ { u with lk := s', F := F' } :: B) = flatE encEn (A ++ u :: B) := by simp [flatE, encEn]
    unfold OwnL at hen ⊢
    rw [hfl]
    simpa using hen
  · rcases split e he with he | rfl
    · exact stay e he
    · exact ⟨hu.row.turn ht hu.off, hl, fun hf => (hg _ hf).elim hu.off fun hge => by have := RowAt.lt hu.row; simp only at hge; omega⟩
  · rcases split e he with he | rfl
    · exact h.ep e (other e he).2 k hk
    · rcases up k hk with hk | hk
      · exact h.ep u hum k hk
      · exact ⟨fun e => by have := h.lt; omega, fun e => by have := (h.ents.ge e).2; omega⟩
  · rw [List.pairwise_append, List.pairwise_cons]
    refine ⟨hpw.1, ⟨fun b hb k hk hk2 => ?_, hpc.2⟩, fun a ha b hb k hk hk2 => ?_⟩
    · rcases up k hk with hk | hk
      · exact hpc.1 b hb k hk hk2
      · have := (h.each b (other b (Or.inr hb)).2).mem k hk2
        omega
    · rcases List.mem_cons.1 hb with rfl | hb
      · rcases up k hk2 with hk2 | hk2
        · exact hpw.2.2 a ha u (by simp) k hk hk2
        · have := (h.each a (other a (Or.inl ha)).2).mem k hk
          omega
      · exact hpw.2.2 a ha b (by simp [hb]) k hk hk2
  · rintro k (hk | hk | ⟨e, he, hk⟩)
    · exact Or.inl (Or.inl hk)
    · exact Or.inl (Or.inr (Or.inl hk))
    · rcases split e he with he | rfl
      · exact Or.inl (Or.inr (Or.inr ⟨e, (other e he).2, hk⟩))
      · exact (up k hk).imp (fun h => Or.inr (Or.inr ⟨u, hum, h⟩)) id
end Go.Proofs.YtgoaepjjegblnaaGreatDoor
