/-
The landed box: Put.
-/
import Derived.Test.YtchjljmcgjlkiaaBufCSmall
import Derived.Test.YtchjljmcgjlkiaaSegCSplit
namespace Go.Proofs.Ytchjljmcgjlkiaa
open Go.RowKit
set_option maxRecDepth 20000
/-- what it answers -/
def PutTo19 (w : World) (q : Nat) (n1 pid : Int) (text : ByteArray) (b : Bx) (F : Nat → Prop) : Ending → World → Prop := fun e w' => e = .returned (.int .i64 (putErrB n1 pid text b)) ∧ ∃ F', BoL w' q n1 (putB n1 pid text b) F' ∧ Turn F w w' ∧ Grew F F' w
theorem boL_below {w w' : World} {q : Nat} {n1 : Int} {b : Bx} {F : Nat → Prop} (h : BoL w q n1 b F) (hb : Below w.heap.size w w') : BoL w' q n1 b F := by
  obtain ⟨v, Z, hA, hM, rfl⟩ := h
  exact ⟨v, Z, hA.below hb, hM, rfl⟩
theorem put19_same {w w' : World} {q : Nat} {n1 pid : Int} {text : ByteArray} {b : Bx} {F : Nat → Prop} (h : BoL w q n1 b F) (hb : Below w.heap.size w w') (x : Int) (hx : putErrB n1 pid text b = x) (h0 : x ≠ 0) : PutTo19 w q n1 pid text b F (.returned (.int .i64 x)) w' :=
  ⟨by rw [hx], F, by rw [putB_no (by rw [hx]; exact h0)]; exact boL_below h hb, Turn.of_below hb, Grew.refl _ _⟩
/-- behind the append, and both stores -/
theorem put19_done {w w1 w3 : World} {q : Nat} {n1 cnt : Int} {v v' : Value} {Z : List Ms} {m : Ms} (h : BoAt w q n1 cnt v Z) (hb : Below w.heap.size w w1) (hm : OwnP19 w1 w.heap.size m.v m.ps)
    (ho : OwnM19 w3 0 v' (Z ++ [m])) (hg : (w1.alloc (.cells #[m.v] 49)).grownBy w3 v.ownBlock) (hv : v'.ownBlock = v.ownBlock ∨ v'.ownBlock = some (w1.heap.size + 1)) :
    KeepAt w3 q 1 v ∧ KeepAt (w3.setCell ⟨q, 1, none⟩ v') q 2 (.int .i64 cnt) ∧ BoAt ((w3.setCell ⟨q, 1, none⟩ v').setCell ⟨q, 2, none⟩ (.int .i64 (cnt + 1))) q n1 (cnt + 1) v' (Z ++ [m]) ∧ Turn (footB q v Z) w ((w3.setCell ⟨q, 1, none⟩ v').setCell ⟨q, 2, none⟩ (.int .i64 (cnt + 1))) ∧ Grew (footB q v Z) (footB q v' (Z ++ [m])) w := by
  have hsz := hb.size
  have hba := hb.alloc hsz (.cells #[m.v] 49)
  have hal : (w1.alloc (.cells #[m.v] 49)).heap.size = w1.heap.size + 1 := by simp
  have hmg := hm.ge (g := m.g) rfl
  have hold : ∀ k, k < w.heap.size → v.ownBlock ≠ some k → w3.heap[k]? = w.heap[k]? := fun k hk hn => (hg.block k (by omega) (fun e => hn e.symm)).trans (hba.block k hk)
  have hvlt : ∀ k, v.ownBlock = some k → k < w.heap.size := fun k e => (h.own.ge e).2
  have hrow : RowAt w3 q [.int .i64 n1, v, .int .i64 cnt] := h.row.block (hold q h.row.lt h.nq) (by have := hg.size; omega)
  have hvq : v'.ownBlock ≠ some q := fun e => by
    rcases hv with hv | hv
    · exact h.nq (hv ▸ e)
    · rw [hv] at e
      have := h.row.lt
      cases e
      omega
  have hmq : m.g ≠ q := by have := h.row.lt; omega
  have hP := BoAt.put (w' := w3) h (fun x hx => hold x.g ((h.each x hx).ge rfl).2 (h.nv x hx)) (hold q h.row.lt h.nq) (by have := hg.size; omega) (v' := v') (Z' := Z ++ [m]) ho (fun x hx => by
    rcases List.mem_append.1 hx with hx | hx
    · exact Or.inl hx
    · rw [List.mem_singleton.1 hx]
      refine Or.inr ⟨?_, hmq⟩
      refine OwnL.base (B := w.heap.size) ?_ (Nat.zero_le _)
      exact (hm.alloc _).same fun g e => hg.block g (by have := (hm.ge e).2; omega) fun e2 => by
        have h1 := hvlt g e2.symm
        have h2 := (hm.ge e).1
        omega) (by
    rw [List.map_append, List.nodup_append]
    refine ⟨h.apart, by simp, fun a ha c hc e => ?_⟩
    obtain ⟨x, hx, rfl⟩ := List.mem_map.1 ha
    rw [List.map_singleton, List.mem_singleton] at hc
    have hx2 := ((h.each x hx).ge (g := x.g) rfl).2
    omega) hvq
  refine ⟨hrow.get 1 rfl, (hrow.put 1 v' [.int .i64 n1, v', .int .i64 cnt] rfl).get 2 rfl, ⟨hP.row.put 2 (.int .i64 (cnt + 1)) _ rfl, hP.own.same fun g e => Below.heap_setCell _ _ _ _ (fun e2 => hvq (by rw [e, e2])), fun x hx => (hP.each x hx).same fun g e => Below.heap_setCell _ _ _ _ (by cases e; exact hP.eq_ x hx), hP.apart, hP.nq, hP.eq_, hP.nv⟩, ?_, ?_⟩
  · refine Turn.set (p := ⟨q, 2, none⟩) (Turn.set (p := ⟨q, 1, none⟩) ?_ (Or.inl (Or.inl rfl)) _) (Or.inl (Or.inl rfl)) _
    exact ⟨hg.os.trans hba.os, hg.tape.trans hba.tape, hg.output.trans hba.output, by have := hg.size; omega, fun k hk hF => hold k hk fun e => hF (Or.inr (Or.inl e))⟩
  · rintro k (rfl | e | ⟨x, hx, rfl⟩)
    · exact Or.inl (Or.inl rfl)
    · rcases hv with hv | hv
      · exact Or.inl (Or.inr (Or.inl (hv ▸ e)))
      · rw [hv] at e
        cases e
        exact Or.inr (by omega)
    · rcases List.mem_append.1 hx with hx | hx
      · exact Or.inl (Or.inr (Or.inr ⟨x, hx, rfl⟩))
      · rw [List.mem_singleton.1 hx]
        exact Or.inr hmg.1
set_option maxHeartbeats 1000000 in
theorem cput19_err (w : World) (q : Nat) (n1 pid : Int) (text : ByteArray) (b : Bx) (F : Nat → Prop) (h : BoL w q n1 b F) (hz : (splitD pid text n1).2 ≠ 0) : Calls Try.prog 10 #[ptrB q, .int .i64 pid, .string text] w (PutTo19 w q n1 pid text b F) := by
  have HS := Lib.hid (csplit_any pid n1 text w)
  have HE := Lib.hid (fun (w' : World) (hb : Below w.heap.size w w') => put19_same (pid := pid) (text := text) h hb (splitD pid text n1).2 (show putErrB n1 pid text b = _ from by unfold putErrB; rw [if_pos hz]) hz)
  have hne : ((splitD pid text n1).2 != 0) = true := by simpa using hz
  have hne2 : ((splitD pid text n1).2 == 0) = false := by simpa using hz
  obtain ⟨v, Z, hA, -, -⟩ := h
  have c0 := hA.row.cell 0 rfl
  unfold CSplitTo at HS
  generalize PutTo19 w q n1 pid text b F = Q at *
  generalize splitD pid text n1 = r at *
  clear hA hz
  go_enter Try.func10, Try.ntmps10
  go_wp2_with (go_at_call 23; (with_reducible refine HS.out.mono ?_); rintro e w1 ⟨⟨vv, rfl, ho⟩, hb⟩; have HB := Lib.hid hb; clear hb ho)
  exact HE.out _ HB.out
set_option maxHeartbeats 1000000 in
theorem cput19_full (w : World) (q : Nat) (n1 pid : Int) (text : ByteArray) (b : Bx) (F : Nat → Prop) (h : BoL w q n1 b F) (hz : (splitD pid text n1).2 = 0) (h8 : b.M.length = 8) : Calls Try.prog 10 #[ptrB q, .int .i64 pid, .string text] w (PutTo19 w q n1 pid text b F) := by
  have HS := Lib.hid (csplit_any pid n1 text w)
  have HL := Lib.hid (fun (w' : World) (hb : Below w.heap.size w w') => clen19 w' q n1 b F (boL_below h hb))
  rw [h8] at HL
  have HE := Lib.hid (fun (w' : World) (hb : Below w.heap.size w w') => put19_same (pid := pid) (text := text) h hb 6 (show putErrB n1 pid text b = _ from by unfold putErrB; rw [if_neg (by omega), if_pos h8]) (by decide))
  obtain ⟨v, Z, hA, -, -⟩ := h
  have c0 := hA.row.cell 0 rfl
  unfold CSplitTo at HS
  rw [hz] at HS
  generalize PutTo19 w q n1 pid text b F = Q at *
  generalize (splitD pid text n1).1 = r at *
  clear hA hz h8
  go_enter Try.func10, Try.ntmps10
  go_wp2_with (first
    | (go_at_call 23; (with_reducible refine HS.out.mono ?_); rintro e w1 ⟨⟨vv, rfl, ho⟩, hb⟩; have HB := Lib.hid hb; clear hb ho)
    | (go_at_call 16; (with_reducible refine (HL.out _ HB.out).mono ?_); rintro e w1 ⟨rfl, rfl⟩))
  exact HE.out _ HB.out
set_option maxHeartbeats 2000000 in
theorem cput19_ok (w : World) (q : Nat) (n1 pid : Int) (text : ByteArray) (b : Bx) (F : Nat → Prop) (h : BoL w q n1 b F) (hz : (splitD pid text n1).2 = 0) (h8 : b.M.length < 8) (hc : 0 ≤ b.cnt ∧ b.cnt ≤ 100000) : Calls Try.prog 10 #[ptrB q, .int .i64 pid, .string text] w (PutTo19 w q n1 pid text b F) := by
  have hne := (split_good hz).2.1
  have HL := Lib.hid (fun (w' : World) (hb : Below w.heap.size w w') => clen19 w' q n1 b F (boL_below h hb))
  have hp0 : putErrB n1 pid text b = 0 := by unfold putErrB; rw [if_neg (by omega), if_neg (by omega)]
  obtain ⟨v, Z, hA, hM, rfl⟩ := h
  have hZl : Z.length < 8 := by rw [BoAt.lens hM]; exact h8
  have HS : Hid (Calls Try.prog 23 #[.int .i64 pid, .string text, .int .i64 n1] w fun e w1 => ∃ g c, e = .returned (.tuple #[.slice (some ⟨g, 0, none⟩) (splitD pid text n1).1.length c, .int .i64 0]) ∧ OwnP19 w1 w.heap.size (Ms.v ⟨g, c, (splitD pid text n1).1⟩) (splitD pid text n1).1 ∧ Below w.heap.size w w1) := by
    refine Lib.hid ((csplit_any pid n1 text w).mono ?_)
    rintro e w1 ⟨⟨vv, rfl, ho⟩, hb⟩
    obtain ⟨g, c, rfl, -⟩ := ho.some_ (List.length_pos_iff.2 hne)
    exact ⟨g, c, by rw [hz], ho, hb⟩
  have HE : Hid (∀ (w1 w3 : World) (v' : Value) (m : Ms), m.ps = (splitD pid text n1).1 → Below w.heap.size w w1 → OwnP19 w1 w.heap.size m.v m.ps → OwnM19 w3 0 v' (Z ++ [m]) → (w1.alloc (.cells #[m.v] 49)).grownBy w3 v.ownBlock → (v'.ownBlock = v.ownBlock ∨ v'.ownBlock = some (w1.heap.size + 1)) →
      KeepAt w3 q 1 v ∧ KeepAt (w3.setCell ⟨q, 1, none⟩ v') q 2 (.int .i64 b.cnt) ∧ PutTo19 w q n1 pid text b (footB q v Z) (.returned (.int .i64 0)) ((w3.setCell ⟨q, 1, none⟩ v').setCell ⟨q, 2, none⟩ (.int .i64 (b.cnt + 1)))) := by
    refine Lib.hid fun w1 w3 v' m hm hb ho1 ho hg hv => ?_
    obtain ⟨k1, k2, k3, k4, k5⟩ := put19_done hA hb ho1 ho hg hv
    refine ⟨k1, k2, by rw [hp0], _, ?_, k4, k5⟩
    rw [putB_yes hp0]
    exact ⟨v', _, k3, by rw [List.map_append, hM, List.map_singleton, hm], rfl⟩
  have HA := Lib.hid (fun W (hb : Below w.heap.size w W) => hA.below hb)
  have hd : decide ((8 : Int) ≤ (b.M.length : Nat)) = false := by simp; omega
  have hzc : wrap64 (b.cnt + 1) = b.cnt + 1 := IntWalk.wrap64_in _ (by omega)
  have c0 := hA.row.cell 0 rfl
  obtain ⟨va, vc, hvf, -⟩ := hA.own.see
  have hvw : ∀ k, v.ownBlock = some k → k < w.heap.size := fun k e => (hA.own.ge e).2
  generalize PutTo19 w q n1 pid text b (footB q v Z) = Q at *
  generalize (splitD pid text n1).1 = P at *
  generalize b.M.length = bl at *
  generalize b.cnt = cnt at *
  clear hA hz h8 hc hne hp0 hM hvf hvw
  go_enter Try.func10, Try.ntmps10
  go_wp2_with (first
    | (go_at_call 23; (with_reducible refine HS.out.mono ?_); rintro e w1 ⟨g, c, rfl, ho1, hb⟩; have HB := Lib.hid hb; have HO1 := Lib.hid ho1; have c1 := (HA.out _ hb).row.cell 1 rfl; clear hb ho1)
    | (go_at_call 16; (with_reducible refine (HL.out _ HB.out).mono ?_); rintro e w1 ⟨rfl, rfl⟩)
    | (at_builtin; refine wpList_append_one encM 49 54 Try.underlying54 infoM rfl (by decide) _ rfl (.tmp 33) (.tmp 35) rfl 0 v Z rfl ((HA.out _ HB.out).own.alloc _) w1.heap.size 1 rfl ⟨g, c, P⟩ (AtL.made encM 49 w1 w1.heap.size ⟨g, c, P⟩ _ rfl rfl) (by omega) (Nat.zero_le _) ?_; intro v2 w3 hown hgr hwh; obtain ⟨k1, k2, k3⟩ := HE.out w1 w3 v2 ⟨g, c, P⟩ rfl HB.out HO1.out hown hgr (by simpa using hwh); have HQ := Lib.hid k3; have x1 := k1.cell; have y1 := k1.free; have x2 := k2.cell; have y2 := k2.free; obtain ⟨a2, n2, c2, rfl⟩ := OwnL.form' hown; clear hown hgr hwh k1 k2 k3))
  exact HQ.out
theorem cput19 (w : World) (q : Nat) (n1 pid : Int) (text : ByteArray) (b : Bx) (F : Nat → Prop) (h : BoL w q n1 b F) (hb : BOk b) (hc : 0 ≤ b.cnt ∧ b.cnt ≤ 100000) : Calls Try.prog 10 #[ptrB q, .int .i64 pid, .string text] w (PutTo19 w q n1 pid text b F) := by
  by_cases hz : (splitD pid text n1).2 = 0
  · by_cases h8 : b.M.length = 8
    · exact cput19_full w q n1 pid text b F h hz h8
    · exact cput19_ok w q n1 pid text b F h hz (by have := hb.many; omega) hc
  · exact cput19_err w q n1 pid text b F h hz
end Go.Proofs.Ytchjljmcgjlkiaa
