/-
What a link tells, as it lies while it grows; a link and what it tells.
-/
import Derived.Test.YtgoaepjjegblnaaGreatDoorMix10
namespace Go.Proofs.YtgoaepjjegblnaaGreatDoor
open Go.RowKit
set_option maxRecDepth 20000
/-- a frame that lies: with where its digipeaters are -/
structure Fv where
  f : Fm
  da : Option Addr
  dc : Nat
abbrev fmCells (f : Fm) (da : Option Addr) (dc : Nat) : List Value := [.string f.way.tb, .int .i64 f.way.tn, .string f.way.fb, .int .i64 f.way.fn, .bool f.cmd, .bool (!f.cmd), .slice da f.way.D.length dc, .int .i64 f.kind, .int .i64 f.nr, .int .i64 f.ns, .bool f.pf, .int .i64 f.pid, .string f.info]
def encFv : Enc Fv := ⟨13, by omega, fun v => fmCells v.f v.da v.dc, fun _ => rfl, fun v u hu => by
  simp only [fmCells, List.mem_cons, List.not_mem_nil, or_false] at hu
  rcases hu with rfl | rfl | rfl | rfl | rfl | rfl | rfl | rfl | rfl | rfl | rfl | rfl | rfl <;> rfl⟩
def encEv : Enc Ev := ⟨3, by omega, fun e => [.int .i64 e.kind, .int .i64 e.pid, .string e.text], fun _ => rfl, fun v u hu => by
  simp only [List.mem_cons, List.not_mem_nil, or_false] at hu
  rcases hu with rfl | rfl | rfl <;> rfl⟩
theorem infoFv : (Tryz.prog.info? 74).map (fun i => (i.zero, i.size, i.bytes)) = some (some (.agg #[.string ⟨#[]⟩, .int .i64 0, .string ⟨#[]⟩, .int .i64 0, .bool false, .bool false, .slice none 0 0, .int .i64 0, .int .i64 0, .int .i64 0, .bool false, .int .i64 0, .string ⟨#[]⟩]), 13, 136) := by kernel_rfl
theorem infoEv : (Tryz.prog.info? 122).map (fun i => (i.zero, i.size, i.bytes)) = some (some (.agg #[.int .i64 0, .int .i64 0, .string ⟨#[]⟩]), 3, 32) := by kernel_rfl
/-- how what is told lies -/
structure OtAt (w : World) (q : Nat) (fv ev : Value) (L : List Fv) (o : Ot) : Prop where
  row : RowAt w q [fv, ev, .bool o.fresh]
  frames : OwnL encFv 74 w 0 fv L
  same : L.map (·.f) = o.frames
  ways : ∀ e ∈ L, EntsAt w e.da e.dc (freshD e.f.way.D)
  events : OwnL encEv 122 w 0 ev o.events
  fq : fv.ownBlock ≠ some q
  eq : ev.ownBlock ≠ some q
  fe : ∀ b, fv.ownBlock = some b → ev.ownBlock ≠ some b
  wo : ∀ e ∈ L, ∀ a, e.da = some a → a.block < w.heap.size ∧ a.block ≠ q ∧ fv.ownBlock ≠ some a.block ∧ ev.ownBlock ≠ some a.block
def footO (q : Nat) (fv ev : Value) (L : List Fv) : Nat → Prop := fun k => k = q ∨ fv.ownBlock = some k ∨ ev.ownBlock = some k ∨ ∃ e ∈ L, ∃ a, e.da = some a ∧ a.block = k
section
variable {w w' : World} {q p : Nat} {fv ev : Value} {L : List Fv} {o o' : Ot} {s s' : Lk} {F G H : Nat → Prop}
theorem OtAt.mem (h : OtAt w q fv ev L o) : ∀ k, footO q fv ev L k → k < w.heap.size := by
  rintro k (rfl | hk | hk | ⟨e, he, a, ha, rfl⟩)
  · exact RowAt.lt h.row
  · exact (h.frames.ge hk).2
  · exact (h.events.ge hk).2
  · exact (h.wo e he a ha).1
theorem OtAt.stay (h : OtAt w q fv ev L o) (hs : SameOn (footO q fv ev L) w w') : OtAt w' q fv ev L o :=
  ⟨h.row.block (hs.2 q (Or.inl rfl)) hs.1, h.frames.same fun g hg => hs.2 g (Or.inr (Or.inl hg)), h.same, fun e he => (h.ways e he).same (fun a ha => hs.2 _ (Or.inr (Or.inr (Or.inr ⟨e, he, a, ha, rfl⟩)))) hs.1, h.events.same fun g hg => hs.2 g (Or.inr (Or.inr (Or.inl hg))), h.fq, h.eq, h.fe, fun e he a ha => ⟨Nat.lt_of_lt_of_le (h.wo e he a ha).1 hs.1, (h.wo e he a ha).2⟩⟩
theorem OtAt.below (h : OtAt w q fv ev L o) (hb : Below w.heap.size w w') : OtAt w' q fv ev L o := h.stay (SameOn.of_below hb h.mem)
def OtL (w : World) (q : Nat) (o : Ot) (G : Nat → Prop) : Prop := ∃ fv ev L, OtAt w q fv ev L o ∧ G = footO q fv ev L
theorem OtL.mem (h : OtL w q o G) : ∀ k, G k → k < w.heap.size := by
  obtain ⟨fv, ev, L, h, rfl⟩ := h
  exact h.mem
theorem OtL.stay (h : OtL w q o G) (hs : SameOn G w w') : OtL w' q o G := by
  obtain ⟨fv, ev, L, h, rfl⟩ := h
  exact ⟨fv, ev, L, h.stay hs, rfl⟩
/-- one that is new -/
theorem OtL.new (w : World) (b : Bool) : OtL (w.alloc (.cells #[.slice none 0 0, .slice none 0 0, .bool b] 50)) w.heap.size ⟨[], [], b⟩ (fun k => k = w.heap.size) :=
  ⟨.slice none 0 0, .slice none 0 0, [], ⟨RowAt.new w w.heap.size rfl [.slice none 0 0, .slice none 0 0, .bool b] 50, OwnL.nil _ _ _ _, rfl, (fun e he => absurd he (by simp)), OwnL.nil _ _ _ _, by simp [Value.ownBlock], by simp [Value.ownBlock], (fun b hb => absurd hb (by simp [Value.ownBlock])), (fun e he => absurd he (by simp))⟩, by
    funext k
    simp [footO, Value.ownBlock]⟩
/-- one cell is written -/
theorem OtAt.fresh_ (h : OtAt w q fv ev L o) (b : Bool) : OtAt (w.setCell ⟨q, 2, none⟩ (.bool b)) q fv ev L { o with fresh := b } ∧ Turn (footO q fv ev L) w (w.setCell ⟨q, 2, none⟩ (.bool b)) := by
  have hs : ∀ k, k ≠ q → (w.setCell ⟨q, 2, none⟩ (.bool b)).heap[k]? = w.heap[k]? := fun k hk => Below.heap_setCell _ _ _ _ hk
  refine ⟨⟨h.row.put 2 _ _ rfl, h.frames.same fun g hg => hs g fun e => h.fq (e ▸ hg), h.same, fun e he => (h.ways e he).same (fun a ha => hs _ (h.wo e he a ha).2.1) (by simp [World.setCell]), h.events.same fun g hg => hs g fun e => h.eq (e ▸ hg), h.fq, h.eq, h.fe, fun e he a ha => ?_⟩, (Turn.refl _ w).set (p := ⟨q, 2, none⟩) (Or.inl (Or.inl rfl)) _⟩
  have := h.wo e he a ha
  exact ⟨by simpa [World.setCell] using this.1, this.2⟩
/-- one more frame: behind the append and its store -/
theorem OtAt.tell {W W' : World} {v' : Value} {u : Fv} (h : OtAt w q fv ev L o) (hb : Below w.heap.size w W) (hu : EntsAt W u.da u.dc (freshD u.f.way.D)) (hun : ∀ a, u.da = some a → w.heap.size ≤ a.block ∧ a.block < W.heap.size)
    (hown : OwnL encFv 74 W' 0 v' (L ++ [u])) (hg : W.grownBy W' fv.ownBlock) (hv : v'.ownBlock = fv.ownBlock ∨ v'.ownBlock = some W.heap.size) :
    RowAt W' q [fv, ev, .bool o.fresh] ∧ OtAt (W'.setCell ⟨q, 0, none⟩ v') q v' ev (L ++ [u]) (o.tell u.f) ∧ Turn (footO q fv ev L) w (W'.setCell ⟨q, 0, none⟩ v') ∧ Grew (footO q fv ev L) (footO q v' ev (L ++ [u])) w := by
  have hW := h.below hb
  have hq := RowAt.lt h.row
  have hsz := hb.size
  have hrow : RowAt W' q [fv, ev, .bool o.fresh] := hW.row.block (hg.block q (RowAt.lt hW.row) fun e => h.fq e.symm) hg.size
  have hv2 : ∀ b, v'.ownBlock = some b → fv.ownBlock = some b ∨ b = W.heap.size := fun b e => by
    rcases hv with hv | hv
    · exact Or.inl (hv ▸ e)
    · rw [hv] at e
      exact Or.inr (Option.some.inj e).symm
  have hvq : v'.ownBlock ≠ some q := fun e => (hv2 q e).elim h.fq fun e => by omega
  have hve : ∀ b, v'.ownBlock = some b → ev.ownBlock ≠ some b := fun b e e2 => (hv2 b e).elim (fun e => h.fe b e e2) fun e => by have := (h.events.ge e2).2; omega
  have hs : ∀ k, k ≠ q → (W'.setCell ⟨q, 0, none⟩ v').heap[k]? = W'.heap[k]? := fun k hk => Below.heap_setCell _ _ _ _ hk
  have hsize : (W'.setCell ⟨q, 0, none⟩ v').heap.size = W'.heap.size := by simp [World.setCell]
  have old : ∀ k, k < W.heap.size → fv.ownBlock ≠ some k → k ≠ q → (W'.setCell ⟨q, 0, none⟩ v').heap[k]? = W.heap[k]? := fun k h1 h2 h3 => (hs k h3).trans (hg.block k h1 fun e => h2 e.symm)
  have hwu : ∀ e ∈ L ++ [u], ∀ a, e.da = some a → a.block < W.heap.size ∧ a.block ≠ q ∧ fv.ownBlock ≠ some a.block ∧ ev.ownBlock ≠ some a.block := fun e he a ha => by
    rcases List.mem_append.1 he with he | he
    · have := h.wo e he a ha
      exact ⟨by omega, this.2⟩
    · rw [List.mem_singleton.1 he] at ha
      have := hun a ha
      exact ⟨this.2, by omega, fun e => by have := (h.frames.ge e).2; omega, fun e => by have := (h.events.ge e).2; omega⟩
  refine ⟨hrow, ⟨hrow.put 0 v' _ rfl, hown.same fun g hg' => hs g fun e => hvq (e ▸ hg'), by rw [List.map_append, h.same]; rfl, fun e he => ?_, hW.events.same fun g hg' => old g (hW.events.ge hg').2 (fun e => h.fe g e hg') (fun e => h.eq (e ▸ hg')), hvq, h.eq, hve, fun e he a ha => ?_⟩, ?_, ?_⟩
  · have hE : EntsAt W e.da e.dc (freshD e.f.way.D) := by
      rcases List.mem_append.1 he with he | he
      · exact hW.ways e he
      · rw [List.mem_singleton.1 he]; exact hu
    exact hE.same (fun a ha => old _ (hwu e he a ha).1 (hwu e he a ha).2.2.1 (hwu e he a ha).2.1) (by rw [hsize]; exact hg.size)
  · have := hwu e he a ha
    exact ⟨by rw [hsize]; have := hg.size; omega, this.2.1, fun e => (hv2 _ e).elim this.2.2.1 fun e => by omega, this.2.2.2⟩
  · have ht : Turn (footO q fv ev L) w W' := ⟨hg.os.trans hb.os, hg.tape.trans hb.tape, hg.output.trans hb.output, Nat.le_trans hsz hg.size, fun k hk hF => (hg.block k (by omega) fun e => hF (Or.inr (Or.inl e.symm))).trans (hb.block k hk)⟩
    exact ht.set (p := ⟨q, 0, none⟩) (Or.inl (Or.inl rfl)) v'
  · rintro k (hk | hk | hk | ⟨e, he, a, ha, rfl⟩)
    · exact Or.inl (Or.inl hk)
    · exact (hv2 k hk).imp (fun e => Or.inr (Or.inl e)) fun e => by omega
    · exact Or.inl (Or.inr (Or.inr (Or.inl hk)))
    · rcases List.mem_append.1 he with he | he
      · exact Or.inl (Or.inr (Or.inr (Or.inr ⟨e, he, a, ha, rfl⟩)))
      · rw [List.mem_singleton.1 he] at ha
        exact Or.inr (hun a ha).1
/-- one more event -/
theorem OtAt.say {W W' : World} {v' : Value} {u : Ev} (h : OtAt w q fv ev L o) (hb : Below w.heap.size w W)
    (hown : OwnL encEv 122 W' 0 v' (o.events ++ [u])) (hg : W.grownBy W' ev.ownBlock) (hv : v'.ownBlock = ev.ownBlock ∨ v'.ownBlock = some W.heap.size) :
    RowAt W' q [fv, ev, .bool o.fresh] ∧ OtAt (W'.setCell ⟨q, 1, none⟩ v') q fv v' L (o.say u) ∧ Turn (footO q fv ev L) w (W'.setCell ⟨q, 1, none⟩ v') ∧ Grew (footO q fv ev L) (footO q fv v' L) w := by
  have hW := h.below hb
  have hq := RowAt.lt h.row
  have hsz := hb.size
  have hrow : RowAt W' q [fv, ev, .bool o.fresh] := hW.row.block (hg.block q (RowAt.lt hW.row) fun e => h.eq e.symm) hg.size
  have hv2 : ∀ b, v'.ownBlock = some b → ev.ownBlock = some b ∨ b = W.heap.size := fun b e => by
    rcases hv with hv | hv
    · exact Or.inl (hv ▸ e)
    · rw [hv] at e
      exact Or.inr (Option.some.inj e).symm
  have hvq : v'.ownBlock ≠ some q := fun e => (hv2 q e).elim h.eq fun e => by omega
  have hve : ∀ b, fv.ownBlock = some b → v'.ownBlock ≠ some b := fun b e2 e => (hv2 b e).elim (fun e => h.fe b e2 e) fun e => by have := (h.frames.ge e2).2; omega
  have hs : ∀ k, k ≠ q → (W'.setCell ⟨q, 1, none⟩ v').heap[k]? = W'.heap[k]? := fun k hk => Below.heap_setCell _ _ _ _ hk
  have hsize : (W'.setCell ⟨q, 1, none⟩ v').heap.size = W'.heap.size := by simp [World.setCell]
  have old : ∀ k, k < W.heap.size → ev.ownBlock ≠ some k → k ≠ q → (W'.setCell ⟨q, 1, none⟩ v').heap[k]? = W.heap[k]? := fun k h1 h2 h3 => (hs k h3).trans (hg.block k h1 fun e => h2 e.symm)
  refine ⟨hrow, ⟨hrow.put 1 v' _ rfl, hW.frames.same fun g hg' => old g (hW.frames.ge hg').2 (fun e => h.fe g hg' e) (fun e => h.fq (e ▸ hg')), h.same, fun e he => ?_, hown.same fun g hg' => hs g fun e => hvq (e ▸ hg'), h.fq, hvq, hve, fun e he a ha => ?_⟩, ?_, ?_⟩
  · exact (hW.ways e he).same (fun a ha => old _ (hW.wo e he a ha).1 (hW.wo e he a ha).2.2.2 (hW.wo e he a ha).2.1) (by rw [hsize]; exact hg.size)
  · have := hW.wo e he a ha
    exact ⟨by rw [hsize]; have := hg.size; omega, this.2.1, this.2.2.1, fun e => (hv2 _ e).elim this.2.2.2 fun e => by omega⟩
  · have ht : Turn (footO q fv ev L) w W' := ⟨hg.os.trans hb.os, hg.tape.trans hb.tape, hg.output.trans hb.output, Nat.le_trans hsz hg.size, fun k hk hF => (hg.block k (by omega) fun e => hF (Or.inr (Or.inr (Or.inl e.symm)))).trans (hb.block k hk)⟩
    exact ht.set (p := ⟨q, 1, none⟩) (Or.inl (Or.inl rfl)) v'
  · rintro k (hk | hk | hk | hk)
    · exact Or.inl (Or.inl hk)
    · exact Or.inl (Or.inr (Or.inl hk))
    · exact (hv2 k hk).imp (fun e => Or.inr (Or.inr (Or.inl e))) fun e => by omega
    · exact Or.inl (Or.inr (Or.inr (Or.inr hk)))
/-- apart, and the answer's blocks are none that were there ahead of it -/
def Apt (q : Nat) (F G : Nat → Prop) : Prop := (∀ k, F k → ¬ G k) ∧ ∀ k, G k → q ≤ k
/-- a link, and what it tells -/
def LO (w : World) (p q : Nat) (s : Lk) (o : Ot) (H : Nat → Prop) : Prop := ∃ F G, LkL w p s F ∧ OtL w q o G ∧ Apt q F G ∧ H = fun k => F k ∨ G k
/-- what a step of both leaves -/
def LOTo (w : World) (p q : Nat) (H : Nat → Prop) (s' : Lk) (o' : Ot) (v : Value) (e : Ending) (w' : World) : Prop := e = .returned v ∧ ∃ H', LO w' p q s' o' H' ∧ Turn H w w' ∧ Grew H H' w
theorem LO.mem (h : LO w p q s o H) : ∀ k, H k → k < w.heap.size := by
  obtain ⟨F, G, h1, h2, -, rfl⟩ := h
  exact fun k hk => hk.elim (h1.mem k) (h2.mem k)
theorem LO.stay (h : LO w p q s o H) (hs : SameOn H w w') : LO w' p q s o H := by
  obtain ⟨F, G, h1, h2, h3, rfl⟩ := h
  exact ⟨F, G, h1.stay ⟨hs.1, fun k hk => hs.2 k (Or.inl hk)⟩, h2.stay ⟨hs.1, fun k hk => hs.2 k (Or.inr hk)⟩, h3, rfl⟩
theorem LO.below (h : LO w p q s o H) (hb : Below w.heap.size w w') : LO w' p q s o H := h.stay (SameOn.of_below hb h.mem)
theorem LO.drew (h : LO w p q s o H) : LO w.drew p q s o H := h.stay ⟨Nat.le_refl _, fun _ _ => rfl⟩
/-- the link turns -/
theorem LO.link {F F' G : Nat → Prop} (hG : OtL w q o G) (ha : Apt q F G) (hH : H = fun k => F k ∨ G k) (h' : LkL w' p s' F') (ht : Turn F w w') (hg : Grew F F' w) : ∃ H', LO w' p q s' o H' ∧ Turn H w w' ∧ Grew H H' w := by
  have hGm := hG.mem
  refine ⟨fun k => F' k ∨ G k, ⟨F', G, h', hG.stay ⟨ht.size, fun k hk => ht.block k (hGm k hk) fun hf => ha.1 k hf hk⟩, ⟨fun k hk hk2 => (hg k hk).elim (fun hf => ha.1 k hf hk2) fun hge => by have := hGm k hk2; omega, ha.2⟩, rfl⟩, ⟨ht.os, ht.tape, ht.output, ht.size, fun k hk hf => ht.block k hk fun hf' => hf (by rw [hH]; exact Or.inl hf')⟩, ?_⟩
  rw [hH]
  exact fun k hk => hk.elim (fun hf => (hg k hf).imp Or.inl id) fun hg' => Or.inl (Or.inr hg')
/-- what it tells turns -/
theorem LO.out {F G G' : Nat → Prop} (hF : LkL w p s F) (ha : Apt q F G) (hqw : q < w.heap.size) (hH : H = fun k => F k ∨ G k) (h' : OtL w' q o' G') (ht : Turn G w w') (hg : Grew G G' w) : ∃ H', LO w' p q s o' H' ∧ Turn H w w' ∧ Grew H H' w := by
  have hFm := hF.mem
  refine ⟨fun k => F k ∨ G' k, ⟨F, G', hF.stay ⟨ht.size, fun k hk => ht.block k (hFm k hk) fun hf => ha.1 k hk hf⟩, h', ⟨fun k hk hk2 => (hg k hk2).elim (fun hf => ha.1 k hk hf) fun hge => by have := hFm k hk; omega, fun k hk => (hg k hk).elim (ha.2 k) fun hge => by omega⟩, rfl⟩, ⟨ht.os, ht.tape, ht.output, ht.size, fun k hk hf => ht.block k hk fun hf' => hf (by rw [hH]; exact Or.inr hf')⟩, ?_⟩
  rw [hH]
  exact fun k hk => hk.elim (fun hf => Or.inl (Or.inl hf)) fun hg' => (hg k hg').imp Or.inr id
theorem LOTo.then_ {w w1 w' : World} {p q : Nat} {H H1 : Nat → Prop} {s' : Lk} {o' : Ot} {v : Value} {e : Ending} (h : LOTo w1 p q H1 s' o' v e w') (ht : Turn H w w1) (hg : Grew H H1 w) : LOTo w p q H s' o' v e w' := by
  obtain ⟨he, H', h1, h2, h3⟩ := h
  exact ⟨he, H', h1, ht.trans h2 hg, hg.trans h3 ht.size⟩
end
end Go.Proofs.YtgoaepjjegblnaaGreatDoor
