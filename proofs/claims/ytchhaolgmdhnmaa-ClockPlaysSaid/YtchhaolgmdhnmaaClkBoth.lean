/-
Both clocks, the landed one and the document's, among other blocks; the law's same.
-/
import Derived.Test.YtchhaolgmdhnmaaClkAwake
import Derived.Test.YtchhaolgmdhnmaaClkRefC
import Derived.Test.YtchhaolgmdhnmaaClkRefD
namespace Go.Proofs.Ytchhaolgmdhnmaa
open Go.RowKit
set_option maxRecDepth 20000
theorem due_nm (now : Int) (L : List Tm) : (dueL now L).map Tm.nm = L.map Tm.nm := by
  unfold dueL
  rw [List.map_map]
  rfl
set_option maxHeartbeats 1000000 in
theorem csame_yes (v u : Value) (L : List Tm) (w : World) (hv : SeeL encN w v (L.map Tm.nm)) (hu : SeeL encT w u L) (hl : L.length ≤ 1000) : Calls Try.prog 12 #[v, u] w fun e w' => e = .returned (.bool true) ∧ Below w.heap.size w w' := by
  obtain ⟨a, c, rfl, hA⟩ := hv
  obtain ⟨b, d, rfl, hB⟩ := hu
  have HA := Lib.hid hA
  have HB := Lib.hid hB
  clear hA hB
  rw [List.length_map]
  obtain ⟨n, hn⟩ : ∃ n, n = L.length := ⟨_, rfl⟩
  rw [← hn] at hl ⊢
  have HN := Lib.hid hn
  clear hn
  go_enter Try.func12, Try.ntmps12
  go_wp2_with fail
  go_loopw [13] (fun i wx => ∃ k : Nat, k ≤ n ∧ i = .int .i64 k ∧ Hid (Below w.heap.size w wx)) (fun i _ => n - (intOf i).toNat)
  case atStart => exact ⟨0, by omega, rfl, Below.refl _ _⟩
  case round =>
    obtain ⟨k, hk, rfl, HK⟩ := hrel
    by_cases hlt : k < n
    · have hL : k < L.length := by rw [← HN.out]; exact hlt
      have hL2 : k < (L.map Tm.nm).length := by rw [List.length_map]; exact hL
      obtain ⟨g, o, rfl, _⟩ := HA.out.some_ (by omega)
      obtain ⟨g', o', rfl, _⟩ := HB.out.some_ (by omega)
      obtain ⟨x0, x1⟩ := (HA.out.below HK.out).nm k hL2
      have y0 := (HB.out.below HK.out).get k hL 0 (u := .int .i64 L[k].k) rfl
      have y1 := (HB.out.below HK.out).get k hL 1 (u := .int .i64 L[k].n) rfl
      rw [List.getElem_map] at x0 x1
      have en : encT.n = 3 := rfl
      rw [en] at y0 y1
      simp only [Nat.add_zero] at y0
      have em : L[k].nm = ⟨L[k].k, L[k].n⟩ := rfl
      rw [em] at x0 x1
      simp only at x0 x1
      generalize L[k].k = P at *
      generalize L[k].n = N at *
      have HD := Lib.hid HK.out
      clear HK hL hL2 en em
      go_upto_region 6 with (fail)
      go_quiet (fail)
      go_wp2_with fail
      go_roundw
      case rel => exact ⟨k + 1, by omega, by go_num, belowN HD.out _⟩
      case measure => simp [intOf]; omega
    · go_wp2_with fail
      exact bodyPost_ret (v := .bool true) (by simp [results, Try.results12, go_sem]) rfl ⟨rfl, HK.out⟩
/-- both, with what lies below a height untouched, in blocks below another one -/
structure PlO (w : World) (B p q : Nat) (L : List Tm) (now : Int) (D : List Tm) (O : List (Nat × List Value)) (W : World) : Prop where
  at_ : ∃ F G, CkL W p L F ∧ RkL W q now D G ∧ (∀ b, F b → w.heap.size ≤ b ∧ b < B) ∧ (∀ b, G b → w.heap.size ≤ b ∧ b < B) ∧ (∀ b, F b → ¬ G b) ∧ ∀ m row, (m, row) ∈ O → ¬ F m ∧ ¬ G m
  oth : ∀ m row, (m, row) ∈ O → RowAt W m row ∧ m < W.heap.size
  bel : Below w.heap.size w W
  bw : B ≤ W.heap.size
section
variable {w : World} {B p q : Nat} {L : List Tm} {now : Int} {D : List Tm} {O : List (Nat × List Value)} {W : World}
theorem PlO.below {W' : World} (h : PlO w B p q L now D O W) (hb : Below W.heap.size W W') : PlO w B p q L now D O W' := by
  obtain ⟨F, G, h1, h2, h3⟩ := h.at_
  exact ⟨⟨F, G, h1.below hb, h2.below hb, h3⟩, fun m row hm => ⟨(h.oth m row hm).1.below hb, Nat.lt_of_lt_of_le (h.oth m row hm).2 hb.size⟩, h.bel.trans (hb.mono h.bel.size), Nat.le_trans h.bw hb.size⟩
theorem PlO.row (h : PlO w B p q L now D O W) {m : Nat} {row : List Value} (hm : (m, row) ∈ O) : RowAt W m row := (h.oth m row hm).1
theorem PlO.lift {B' : Nat} (h : PlO w B p q L now D O W) (hB : B ≤ B') (hW : B' ≤ W.heap.size) : PlO w B' p q L now D O W := by
  obtain ⟨F, G, h1, h2, h3, h4, h5⟩ := h.at_
  exact ⟨⟨F, G, h1, h2, fun b hb => ⟨(h3 b hb).1, Nat.lt_of_lt_of_le (h3 b hb).2 hB⟩, fun b hb => ⟨(h4 b hb).1, Nat.lt_of_lt_of_le (h4 b hb).2 hB⟩, h5⟩, h.oth, h.bel, hW⟩
theorem PlO.forget (h : PlO w B p q L now D O W) : PlO w B p q L now D [] W := by
  obtain ⟨F, G, h1, h2, h3, h4, h5, h6⟩ := h.at_
  exact ⟨⟨F, G, h1, h2, h3, h4, h5, fun _ _ hm => nomatch hm⟩, (fun _ _ hm => nomatch hm), h.bel, h.bw⟩
/-- one more block beside -/
theorem PlO.box (h : PlO w B p q L now D [] W) (V : List Value) (T : TypeId) : PlO w B p q L now D [(W.heap.size, V)] (W.alloc (.cells V.toArray T)) := by
  have hb : Below W.heap.size W (W.alloc (.cells V.toArray T)) := (Below.refl _ W).alloc (Nat.le_refl _) _
  obtain ⟨F, G, h1, h2, h3, h4, h5, -⟩ := h.at_
  refine ⟨⟨F, G, h1.below hb, h2.below hb, h3, h4, h5, fun m row hm => ?_⟩, fun m row hm => ?_, h.bel.trans (hb.mono h.bel.size), Nat.le_trans h.bw hb.size⟩
  · simp only [List.mem_singleton, Prod.mk.injEq] at hm
    exact ⟨fun hf => by have := h1.mem m hf; omega, fun hf => by have := h2.mem m hf; omega⟩
  · simp only [List.mem_singleton, Prod.mk.injEq] at hm
    obtain ⟨rfl, rfl⟩ := hm
    exact ⟨RowAt.new W _ rfl _ T, by simp⟩
/-- the landed one's turn, in its own blocks -/
theorem PlO.code {W' : World} {L' : List Tm} {F G F' : Nat → Prop} {B' : Nat} (h : PlO w B p q L now D O W) (h2 : RkL W q now D G) (h3 : ∀ b, F b → w.heap.size ≤ b ∧ b < B) (h4 : ∀ b, G b → w.heap.size ≤ b ∧ b < B) (h5 : ∀ b, F b → ¬ G b) (h6 : ∀ m row, (m, row) ∈ O → ¬ F m ∧ ¬ G m)
    (hc : CkL W' p L' F') (ht : Turn F W W') (hg : Grew F F' W) (hB : B ≤ B') (hF : ∀ b, F' b → b < B') (hW : B' ≤ W'.heap.size) : PlO w B' p q L' now D O W' := by
  have hbw := h.bw
  refine ⟨⟨F', G, hc, h2.stay ⟨ht.size, fun b hb => ht.block b (h2.mem b hb) (fun hf => h5 b hf hb)⟩, fun b hb => ⟨(hg b hb).elim (fun q => (h3 b q).1) (fun q => Nat.le_trans h.bel.size q), hF b hb⟩, fun b hb => ⟨(h4 b hb).1, Nat.lt_of_lt_of_le (h4 b hb).2 hB⟩, fun b hb hq => (hg b hb).elim (fun q => h5 b q hq) (fun q => by have := (h4 b hq).2; omega), fun m row hm => ⟨fun hf => (hg m hf).elim (h6 m row hm).1 (fun q => by have := (h.oth m row hm).2; omega), (h6 m row hm).2⟩⟩,
    fun m row hm => ⟨(h.oth m row hm).1.turn ht (h6 m row hm).1, Nat.lt_of_lt_of_le (h.oth m row hm).2 ht.size⟩, h.bel.trans (ht.below h.bel.size fun b hb => (h3 b hb).1), hW⟩
/-- the document's turn -/
theorem PlO.ref {W' : World} {now' : Int} {D' : List Tm} {F G G' : Nat → Prop} (h : PlO w B p q L now D O W) (h1 : CkL W p L F) (h3 : ∀ b, F b → w.heap.size ≤ b ∧ b < B) (h4 : ∀ b, G b → w.heap.size ≤ b ∧ b < B) (h5 : ∀ b, F b → ¬ G b) (h6 : ∀ m row, (m, row) ∈ O → ¬ F m ∧ ¬ G m)
    (hc : RkL W' q now' D' G') (ht : Turn G W W') (hg : Grew G G' W) : PlO w W'.heap.size p q L now' D' O W' := by
  have hbw := h.bw
  have hsz := ht.size
  refine ⟨⟨F, G', h1.stay ⟨ht.size, fun b hb => ht.block b (h1.mem b hb) (fun hf => h5 b hb hf)⟩, hc, fun b hb => ⟨(h3 b hb).1, by have := (h3 b hb).2; omega⟩, fun b hb => ⟨(hg b hb).elim (fun q => (h4 b q).1) (fun q => Nat.le_trans h.bel.size q), hc.mem b hb⟩, fun b hb hq => (hg b hq).elim (fun q => h5 b hb q) (fun q => by have := (h3 b hb).2; omega), fun m row hm => ⟨(h6 m row hm).1, fun hf => (hg m hf).elim (h6 m row hm).2 (fun q => by have := (h.oth m row hm).2; omega)⟩⟩,
    fun m row hm => ⟨(h.oth m row hm).1.turn ht (h6 m row hm).2, Nat.lt_of_lt_of_le (h.oth m row hm).2 ht.size⟩, h.bel.trans (ht.below h.bel.size fun b hb => (h4 b hb).1), Nat.le_refl _⟩
/-- blocks from B on stay -/
def Above (B : Nat) (W W' : World) : Prop := W.heap.size ≤ W'.heap.size ∧ ∀ b, B ≤ b → b < W.heap.size → W'.heap[b]? = W.heap[b]?
theorem Above.of_turn {F : Nat → Prop} {W W' : World} (ht : Turn F W W') (hF : ∀ b, F b → b < B) : Above B W W' := ⟨ht.size, fun b h1 h2 => ht.block b h2 (fun hf => by have := hF b hf; omega)⟩
theorem Above.of_below {W W' : World} (h : Below W.heap.size W W') : Above B W W' := ⟨h.size, fun b _ h2 => h.block b h2⟩
theorem PlO.cset (h : PlO w B p q L now D O W) (hok : ClkOk L) (a : Nm) (x : Int) : Calls Try.prog 8 #[.pointer (some ⟨p, 0, none⟩), .agg #[.int .i64 a.k, .int .i64 a.n], .int .i64 x] W fun e W' => e = .returned (.int .i64 (setT a x L).2) ∧ PlO w W'.heap.size p q (setT a x L).1 now D O W' := by
  obtain ⟨F, G, h1, h2, h3, h4, h5, h6⟩ := h.at_
  exact (cset13_any a x p L F W h1 hok).mono fun e W' ⟨F', he, hc, ht, hg⟩ => ⟨he, h.code h2 h3 h4 h5 h6 hc ht hg (Nat.le_trans h.bw ht.size) hc.mem (Nat.le_refl _)⟩
theorem PlO.rset (h : PlO w B p q L now D O W) (hl : D.length ≤ 32) (hp : D.Pairwise fun s t => eqN s.nm t.nm = false) (hn : 0 ≤ now ∧ now ≤ 10000) (a : Nm) (x : Int) : Calls Try.prog 9 #[.pointer (some ⟨q, 0, none⟩), .int .i64 a.k, .int .i64 a.n, .int .i64 x] W fun e W' =>
    e = .returned (.int .i64 (rsetT a x now D).2) ∧ PlO w W'.heap.size p q L now (rsetT a x now D).1 O W' := by
  obtain ⟨F, G, h1, h2, h3, h4, h5, h6⟩ := h.at_
  exact (rset13_any a x q now D G W h2 hl hp hn).mono fun e W' ⟨F', he, hc, ht, hg⟩ => ⟨he, h.ref h1 h3 h4 h5 h6 hc ht hg⟩
theorem PlO.cstop (h : PlO w B p q L now D O W) (hok : ClkOk L) (m : Nat) (a : Nm) (hA : AtL encN W (some ⟨m, 0, none⟩) [a]) (hm : B ≤ m) : Calls Try.prog 10 #[.pointer (some ⟨p, 0, none⟩), .slice (some ⟨m, 0, none⟩) 1 1] W fun e W' =>
    e = .returned (.int .i64 (cntT (isT a) L : Nat)) ∧ PlO w B p q (stopT a L) now D O W' ∧ Above B W W' := by
  obtain ⟨F, G, h1, h2, h3, h4, h5, h6⟩ := h.at_
  have hc := cstop13_any p L F (some ⟨m, 0, none⟩) 1 1 [a] W h1 hok.len rfl hA (by omega) (fun q e => by cases e; exact fun hf => by have := (h3 m hf).2; omega)
  rw [anyN_one a] at hc
  exact hc.mono fun e W' ⟨he, hc, ht⟩ => ⟨he, h.code h2 h3 h4 h5 h6 hc ht (Grew.refl F W) (Nat.le_refl _) (fun b hb => (h3 b hb).2) (Nat.le_trans h.bw ht.size), Above.of_turn ht fun b hb => (h3 b hb).2⟩
theorem PlO.rstop (h : PlO w B p q L now D O W) (hl : D.length ≤ 32) (hp : D.Pairwise fun s t => eqN s.nm t.nm = false) (a : Nm) : Calls Try.prog 11 #[.pointer (some ⟨q, 0, none⟩), .int .i64 a.k, .int .i64 a.n] W fun e W' =>
    e = .returned (.int .i64 (cntT (isT a) D : Nat)) ∧ PlO w W'.heap.size p q L now (stopT a D) O W' ∧ Above B W W' := by
  obtain ⟨F, G, h1, h2, h3, h4, h5, h6⟩ := h.at_
  exact (rstop_any a q now D G W h2 (by omega) hp).mono fun e W' ⟨F', he, hc, ht, hg⟩ => ⟨he, h.ref h1 h3 h4 h5 h6 hc ht hg, Above.of_turn ht fun b hb => (h4 b hb).2⟩
theorem PlO.conly (h : PlO w B p q L now D O W) (hok : ClkOk L) (n : Int) : Calls Try.prog 15 #[.pointer (some ⟨p, 0, none⟩), .int .i64 n] W fun e W' => e = .returned (.int .i64 (cntT (numT n) L : Nat)) ∧ PlO w B p q (onlyT n L) now D O W' := by
  obtain ⟨F, G, h1, h2, h3, h4, h5, h6⟩ := h.at_
  exact (conly13_any p L F n W h1 hok.len).mono fun e W' ⟨he, hc, ht⟩ => ⟨he, h.code h2 h3 h4 h5 h6 hc ht (Grew.refl F W) (Nat.le_refl _) (fun b hb => (h3 b hb).2) (Nat.le_trans h.bw ht.size)⟩
theorem PlO.ronly (h : PlO w B p q L now D O W) (hl : D.length ≤ 32) (n : Int) : Calls Try.prog 16 #[.pointer (some ⟨q, 0, none⟩), .int .i64 n] W fun e W' => e = .returned (.int .i64 (cntT (numT n) D : Nat)) ∧ PlO w W'.heap.size p q L now (onlyT n D) O W' := by
  obtain ⟨F, G, h1, h2, h3, h4, h5, h6⟩ := h.at_
  exact (ronly_any n q now D G W h2 (by omega)).mono fun e W' ⟨F', he, hc, ht, hg⟩ => ⟨he, h.ref h1 h3 h4 h5 h6 hc ht hg⟩
/-- both ticks -/
theorem PlO.ctick (h : PlO w B p q L now D O W) (hok : ClkOk L) : Calls Try.prog 13 #[.pointer (some ⟨p, 0, none⟩)] W fun e W' => ∃ v, e = .returned v ∧ OwnN W' B v (toldT L) ∧ PlO w B p q (tickT L) now D O W' := by
  obtain ⟨F, G, h1, h2, h3, h4, h5, h6⟩ := h.at_
  exact (ctick13_any p L F W h1 hok).mono fun e W' ⟨v, he, ho, hc, ht⟩ => ⟨v, he, ho.base h.bw, h.code h2 h3 h4 h5 h6 hc ht (Grew.refl F W) (Nat.le_refl _) (fun b hb => (h3 b hb).2) (Nat.le_trans h.bw ht.size)⟩
theorem PlO.rtick (h : PlO w B p q L now D O W) (hl : D.length ≤ 32) (hn : 0 ≤ now ∧ now < 10000) (v : Value) (N : List Nm) (ho : OwnN W B v N) : Calls Try.prog 14 #[.pointer (some ⟨q, 0, none⟩)] W fun e W' =>
    ∃ u, e = .returned u ∧ SeeL encT W' u (D.filter (nowT (now + 1))) ∧ PlO w W'.heap.size p q L (now + 1) (D.filter fun t => !nowT (now + 1) t) O W' ∧ SeeL encN W' v N := by
  obtain ⟨F, G, h1, h2, h3, h4, h5, h6⟩ := h.at_
  exact (rtick_any q now D G W h2 (by omega) (by omega)).mono fun e W' ⟨u, F', he, hu, hc, ht, hg⟩ => ⟨u, he, hu.see, h.ref h1 h3 h4 h5 h6 hc ht hg, (ho.turn ht fun g e hf => by have := (ho.ge e).1; have := (h4 g hf).2; omega).see⟩
/-- reading -/
theorem PlO.cleft (h : PlO w B p q L now D O W) (hok : ClkOk L) (a : Nm) : Calls Try.prog 19 #[.pointer (some ⟨p, 0, none⟩), .agg #[.int .i64 a.k, .int .i64 a.n]] W fun e W' => e = .returned (.int .i64 (leftT a L)) ∧ Below W.heap.size W W' := by
  obtain ⟨F, G, h1, -⟩ := h.at_
  have := hok.len
  exact cleft_any a p L F W h1 (by omega)
theorem PlO.call (h : PlO w B p q L now D O W) (hok : ClkOk L) : Calls Try.prog 18 #[.pointer (some ⟨p, 0, none⟩)] W fun e W' => ∃ v, e = .returned v ∧ SeeL encN W' v (L.map Tm.nm) ∧ Below W.heap.size W W' := by
  obtain ⟨F, G, h1, -⟩ := h.at_
  have := hok.len
  exact (call13_any p L F W h1 (by omega)).mono fun e W' ⟨v, he, ho, hb⟩ => ⟨v, he, ho.see, hb⟩
theorem PlO.rat (h : PlO w B p q L now D O W) (hl : D.length ≤ 32) (k n : Int) : Calls Try.prog 17 #[.pointer (some ⟨q, 0, none⟩), .int .i64 k, .int .i64 n] W fun e W' => e = .returned (.int .i64 (atF ⟨k, n⟩ D 0)) ∧ Below W.heap.size W W' := by
  obtain ⟨F, G, -, h2, -⟩ := h.at_
  exact rat_any k n q now D G W h2 (by omega)
theorem PlO.lay (h : PlO w B p q L now D O W) : ∃ a c, RowAt W q [.int .i64 now, .slice a D.length c] ∧ OwnD W (.slice a D.length c) D := by
  obtain ⟨F, G, -, ⟨v, hr, ho, -, -⟩, -⟩ := h.at_
  obtain ⟨a, c, rfl⟩ := OwnL.form2 ho
  exact ⟨a, c, hr, ho⟩
end
/-- both begin -/
theorem PlO.start {w W : World} {p : Nat} (h : CkO w p [] [] W) : PlO w (W.heap.size + 1) p W.heap.size [] 0 [] [] (W.alloc (.cells #[.int .i64 0, .slice none 0 0] 29)) := by
  have hb : Below W.heap.size W (W.alloc (.cells #[.int .i64 0, .slice none 0 0] 29)) := (Below.refl _ W).alloc (Nat.le_refl _) _
  obtain ⟨F, h1, h2, -⟩ := h.at_
  refine ⟨⟨F, (fun b => b = W.heap.size ∨ (Value.slice none 0 0).ownBlock = some b), h1.below hb, ⟨_, RowAt.new W _ rfl [.int .i64 0, .slice none 0 0] _, OwnL.nil _ _ _ _, (fun e => by cases e), rfl⟩, fun b hb => ⟨h2 b hb, by have := h1.mem b hb; omega⟩, fun b hb => ?_, fun b hb hq => ?_, fun _ _ hm => nomatch hm⟩, (fun _ _ hm => nomatch hm), h.bel.trans (hb.mono h.bel.size), by simp⟩
  · rcases hb with rfl | e
    · exact ⟨h.bel.size, by omega⟩
    · cases e
  · rcases hq with rfl | e
    · have := h1.mem _ hb
      omega
    · cases e
end Go.Proofs.Ytchhaolgmdhnmaa
