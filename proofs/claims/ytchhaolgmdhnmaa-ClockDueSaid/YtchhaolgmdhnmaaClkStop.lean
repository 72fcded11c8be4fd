/-
The landed clock: Stop, Only, Tick.
-/
import Derived.Test.YtchhaolgmdhnmaaClkFns
namespace Go.Proofs.Ytchhaolgmdhnmaa
open Go.RowKit
set_option maxRecDepth 20000
theorem Turn.after_ {F F' : Nat → Prop} {w w1 w' : World} (hb : Below w.heap.size w w1) (ht : Turn F w1 w') (hg : Grew F F' w1) : Turn F w w' ∧ Grew F F' w :=
  ⟨Turn.trans (Turn.of_below hb) ht (Grew.refl F w), Grew.trans (Grew.refl F w) hg hb.size⟩
set_option maxHeartbeats 1000000 in
theorem cstop13_nil (a : Option Addr) (n c : Nat) (w : World) : Calls Try.prog 10 #[.pointer none, .slice a n c] w fun e w' => e = .returned (.int .i64 0) ∧ Below w.heap.size w w' := by
  have hmf : ∀ (fn : Fn) (first cap : Array Value) (W : World), (Instr.makeFunc fn first cap).run Try.prog W = .ok (.func fn first cap) W := fun _ _ _ _ => rfl
  have HB0 := Lib.hid ((Below.refl w.heap.size w).alloc (Nat.le_refl _) (.cells #[.slice a n c] 40))
  have HD := Lib.hid (fun g W => cdrop_nil g W)
  go_enter Try.func10, Try.ntmps10
  go_wp2_with (go_at_call 20; (with_reducible refine (HD.out _ _).mono ?_); rintro e w2 ⟨rfl, rfl⟩)
  exact bodyPost_ret (v := .int .i64 0) (by simp [results, Try.results10, go_sem]) rfl ⟨rfl, HB0.out⟩
set_option maxHeartbeats 1000000 in
theorem cstop13_any (p : Nat) (L : List Tm) (F : Nat → Prop) (a : Option Addr) (n c : Nat) (N : List Nm) (w : World) (h : CkL w p L F) (hl : L.length ≤ 32) (hn : N.length = n) (hA : AtL encN w a N) (hn1 : n ≤ 1000) (haF : ∀ q, a = some q → ¬ F q.block) :
    Calls Try.prog 10 #[.pointer (some ⟨p, 0, none⟩), .slice a n c] w fun e w' =>
      e = .returned (.int .i64 (cntT (fun t => anyN t.nm N) L : Nat)) ∧ CkL w' p (keepL (fun t => anyN t.nm N) L) F ∧ Turn F w w' := by
  have hmf : ∀ (fn : Fn) (first cap : Array Value) (W : World), (Instr.makeFunc fn first cap).run Try.prog W = .ok (.func fn first cap) W := fun _ _ _ _ => rfl
  have hb0 := (Below.refl w.heap.size w).alloc (Nat.le_refl _) (.cells #[.slice a n c] 40)
  have HB0 := Lib.hid hb0
  have HD := Lib.hid (cdrop_any 21 #[.pointer (some ⟨w.heap.size, 0, none⟩)] (fun t => anyN t.nm N) p L F (w.alloc (.cells #[.slice a n c] 40)) (h.below hb0) hl
    (says_stop a n c w.heap.size N F _ hn (hA.below hb0) hn1 (World.cell?_alloc_at _ _ _ _ rfl) (by simp) (fun hf => by have := h.mem _ hf; omega) haF))
  clear h hn hA haF hb0
  obtain ⟨G, hG⟩ : ∃ G, goN (fun t => anyN t.nm N) L = G := ⟨_, rfl⟩
  have HG := Lib.hid (show G.length = cntT (fun t => anyN t.nm N) L from by rw [← hG, List.length_map]; rfl)
  rw [hG] at HD
  rw [← HG.out]
  clear hG
  go_enter Try.func10, Try.ntmps10
  go_wp2_with (go_at_call 20; (with_reducible refine HD.out.mono ?_); rintro e w2 ⟨tv, rfl, ho, hc, ht⟩; obtain ⟨ta, tc, rfl⟩ := ho.form2; have HC := Lib.hid (And.intro hc (Turn.after_ HB0.out ht (Grew.refl F _)).1); clear ho hc ht)
  exact bodyPost_ret (v := .int .i64 (G.length : Nat)) (by simp [results, Try.results10, go_sem]) rfl ⟨rfl, HC.out⟩
set_option maxHeartbeats 1000000 in
theorem conly13_nil (n : Int) (w : World) : Calls Try.prog 15 #[.pointer none, .int .i64 n] w fun e w' => e = .returned (.int .i64 0) ∧ Below w.heap.size w w' := by
  have hmf : ∀ (fn : Fn) (first cap : Array Value) (W : World), (Instr.makeFunc fn first cap).run Try.prog W = .ok (.func fn first cap) W := fun _ _ _ _ => rfl
  have HB0 := Lib.hid ((Below.refl w.heap.size w).alloc (Nat.le_refl _) (.cells #[.int .i64 n] 3))
  have HD := Lib.hid (fun g W => cdrop_nil g W)
  go_enter Try.func15, Try.ntmps15
  go_wp2_with (go_at_call 20; (with_reducible refine (HD.out _ _).mono ?_); rintro e w2 ⟨rfl, rfl⟩)
  exact bodyPost_ret (v := .int .i64 0) (by simp [results, Try.results15, go_sem]) rfl ⟨rfl, HB0.out⟩
set_option maxHeartbeats 1000000 in
theorem conly13_any (p : Nat) (L : List Tm) (F : Nat → Prop) (n : Int) (w : World) (h : CkL w p L F) (hl : L.length ≤ 32) :
    Calls Try.prog 15 #[.pointer (some ⟨p, 0, none⟩), .int .i64 n] w fun e w' =>
      e = .returned (.int .i64 (cntT (numT n) L : Nat)) ∧ CkL w' p (onlyT n L) F ∧ Turn F w w' := by
  have hmf : ∀ (fn : Fn) (first cap : Array Value) (W : World), (Instr.makeFunc fn first cap).run Try.prog W = .ok (.func fn first cap) W := fun _ _ _ _ => rfl
  have hb0 := (Below.refl w.heap.size w).alloc (Nat.le_refl _) (.cells #[.int .i64 n] 3)
  have HB0 := Lib.hid hb0
  have HD := Lib.hid (cdrop_any 24 #[.pointer (some ⟨w.heap.size, 0, none⟩)] (numT n) p L F (w.alloc (.cells #[.int .i64 n] 3)) (h.below hb0) hl
    (says_only w.heap.size n F _ (World.cell?_alloc_at _ _ _ _ rfl) (by simp) (fun hf => by have := h.mem _ hf; omega)))
  clear h hb0
  obtain ⟨G, hG⟩ : ∃ G, goN (numT n) L = G := ⟨_, rfl⟩
  have HG := Lib.hid (show G.length = cntT (numT n) L from by rw [← hG, List.length_map]; rfl)
  rw [hG] at HD
  rw [← HG.out]
  clear hG
  go_enter Try.func15, Try.ntmps15
  go_wp2_with (go_at_call 20; (with_reducible refine HD.out.mono ?_); rintro e w2 ⟨tv, rfl, ho, hc, ht⟩; obtain ⟨ta, tc, rfl⟩ := ho.form2; have HC := Lib.hid (And.intro hc (Turn.after_ HB0.out ht (Grew.refl F _)).1); clear ho hc ht)
  exact bodyPost_ret (v := .int .i64 (G.length : Nat)) (by simp [results, Try.results15, go_sem]) rfl ⟨rfl, HC.out⟩
/-- amid a tick: i have one less -/
def midT (L : List Tm) (i : Nat) : List Tm := (L.take i).map decT ++ L.drop i
theorem midT_len (L : List Tm) (i : Nat) (hi : i ≤ L.length) : (midT L i).length = L.length := by
  unfold midT
  rw [List.length_append, List.length_map, List.length_take, List.length_drop]
  omega
theorem midT_at (L : List Tm) (i : Nat) (hi : i < L.length) : (midT L i)[i]? = some L[i] := by
  unfold midT
  rw [List.getElem?_append_right (by rw [List.length_map, List.length_take]; omega), List.length_map, List.length_take, List.getElem?_drop, List.getElem?_eq_getElem (by omega)]
  congr 2
  omega
theorem midT_next (L : List Tm) (i : Nat) (hi : i < L.length) : (midT L i).set i (decT L[i]) = midT L (i + 1) := by
  unfold midT
  rw [List.set_append, if_neg (by rw [List.length_map, List.length_take]; omega), List.length_map, List.length_take, show i - min i L.length = 0 by omega, List.drop_eq_getElem_cons hi, List.set_cons_zero, take_one L i hi, List.map_append, List.append_assoc]
  rfl
theorem midT_all (L : List Tm) : midT L L.length = L.map decT := by
  unfold midT
  rw [List.take_length, List.drop_length, List.append_nil]
structure TkAt (w : World) (p g c : Nat) (L : List Tm) (i : Nat) (W : World) : Prop where
  row : RowAt W p [.slice (some ⟨g, 0, none⟩) L.length c]
  own : OwnT W (.slice (some ⟨g, 0, none⟩) L.length c) (midT L i)
  turn : Turn (fun b => b = p ∨ b = g) w W
  pg : p ≠ g
theorem TkAt.get {w : World} {p g c : Nat} {L : List Tm} {i : Nat} {W : World} (h : TkAt w p g c L i W) (hi : i < L.length) : W.cell? ⟨g, i * 3 + 2, none⟩ = some (.int .i64 L[i].l) ∧ W.frozen? ⟨g, i * 3 + 2, none⟩ = false := by
  have hm := midT_len L i (by omega)
  have h1 := OwnT.get h.own i (by omega)
  have h2 := midT_at L i hi
  rw [List.getElem?_eq_getElem (by omega)] at h2
  rw [Option.some.inj h2] at h1
  refine ⟨h1.2.2, (h.own.cells' (i * 3 + 2) ?_).2⟩
  rw [hm]
  show i * 3 + 2 < L.length * 3
  omega
theorem TkAt.dec {w : World} {p g c : Nat} {L : List Tm} {i : Nat} {W : World} (h : TkAt w p g c L i W) (hi : i < L.length) : TkAt w p g c L (i + 1) (W.setCell ⟨g, i * 3 + 2, none⟩ (.int .i64 (L[i].l - 1))) := by
  have hm := midT_len L i (by omega)
  have h2 := midT_at L i hi
  rw [List.getElem?_eq_getElem (by omega)] at h2
  have h3 := Option.some.inj h2
  refine ⟨h.row.other _ (fun e => h.pg e.symm), ?_, h.turn.set (p := ⟨g, i * 3 + 2, none⟩) (Or.inl (Or.inr rfl)) _, h.pg⟩
  rw [← midT_next L i hi]
  refine h.own.setOne i (decT L[i]) (by omega) 2 (by show 2 < 3; omega) _ rfl (fun j hj => ?_) _ rfl
  rw [h3]
  match j, hj with
  | 0, _ => rfl
  | 1, _ => rfl
  | 2, hj => exact absurd rfl hj
  | j + 3, _ => rfl
set_option maxHeartbeats 1000000 in
theorem ctick13_nil (w : World) : Calls Try.prog 13 #[.pointer none] w fun e w' => e = .returned (.slice none 0 0) ∧ w' = w := by
  go_enter Try.func13, Try.ntmps13
  go_wp2_with fail
  exact bodyPost_ret (v := .slice none 0 0) (by simp [results, Try.results13, go_sem]) rfl ⟨rfl, rfl⟩
set_option maxHeartbeats 1000000 in
theorem ctick13_empty (p : Nat) (F : Nat → Prop) (w : World) (h : CkL w p [] F) (hr : RowAt w p [.slice none 0 0]) : Calls Try.prog 13 #[.pointer (some ⟨p, 0, none⟩)] w fun e w' =>
    ∃ v, e = .returned v ∧ OwnN w' w.heap.size v [] ∧ CkL w' p [] F ∧ Turn F w w' := by
  have HD := Lib.hid (cdrop_any 23 #[] goneT p [] F w h (by simp) (says_tick F w))
  have c0 := hr.cell 0 rfl
  clear h hr
  go_enter Try.func13, Try.ntmps13
  go_wp2_with fail
  refine wp_loop_rounds 1 ?_
  rw [rounds_succ]
  go_wp2_with (go_at_call 20; (with_reducible refine HD.out.mono ?_); rintro e w2 ⟨tv, rfl, ho, hc, ht⟩)
  exact bodyPost_ret (v := tv) (by simp [results, Try.results13, go_sem]) rfl ⟨tv, rfl, ho, hc, ht⟩
set_option maxHeartbeats 1000000 in
theorem ctick13_some (p g c : Nat) (L : List Tm) (w : World) (hr : RowAt w p [.slice (some ⟨g, 0, none⟩) L.length c]) (ho : OwnT w (.slice (some ⟨g, 0, none⟩) L.length c) L) (hpg : p ≠ g) (hok : ClkOk L) : Calls Try.prog 13 #[.pointer (some ⟨p, 0, none⟩)] w fun e w' =>
    ∃ v, e = .returned v ∧ OwnN w' w.heap.size v (toldT L) ∧ CkL w' p (tickT L) (fun b => b = p ∨ b = g) ∧ Turn (fun b => b = p ∨ b = g) w w' := by
  obtain ⟨n, hn⟩ : ∃ n, L.length = n := ⟨_, rfl⟩
  have HK0 := Lib.hid (show TkAt w p g c L 0 w from ⟨hr, ho, Turn.refl _ _, hpg⟩)
  have HD := Lib.hid (fun W (h : TkAt w p g c L L.length W) => cdrop_any 23 #[] goneT p (L.map decT) (fun b => b = p ∨ b = g) W
    ⟨_, h.row, midT_all L ▸ h.own, (fun e => h.pg (Option.some.inj e).symm), by
      funext b
      simp only [Value.ownBlock, Option.some.injEq, eq_iff_iff]
      constructor <;> (rintro (e | e); exact Or.inl e; exact Or.inr e.symm)⟩ (by rw [List.length_map]; exact hok.len) (says_tick _ W))
  have c0 := hr.cell 0 rfl
  have HN := Lib.hid hn
  have HOK := Lib.hid hok.left
  have hl := hok.len
  rw [hn] at c0 hl
  clear hr ho hok hn
  go_enter Try.func13, Try.ntmps13
  go_wp2_with fail
  go_loopw [11] (fun v wx => ∃ i : Nat, i ≤ n ∧ v = .int .i64 i ∧ Hid (TkAt w p g c L i wx)) (fun v _ => n - (intOf v).toNat)
  case atStart => exact ⟨0, Nat.zero_le _, rfl, HK0⟩
  case round =>
    obtain ⟨i, hi, rfl, HK⟩ := hrel
    clear HK0
    have k0 := HK.out.row.cell 0 rfl
    rw [HN.out] at k0
    by_cases hlt : i < n
    · have hL : i < L.length := by rw [HN.out]; exact hlt
      obtain ⟨x2, f2⟩ := HK.out.get hL
      have HK2 := Lib.hid (HK.out.dec hL)
      have hb := HOK.out L[i] (List.getElem_mem hL)
      generalize L[i] = y at *
      obtain ⟨yk, yn, yl⟩ := y
      have z1 : IntKind.i64.wrap (yl - 1) = yl - 1 := i64_near _ (by simp only at hb; omega) (by simp only at hb; omega)
      rw [IntWalk.i64_left] at z1
      clear hb
      go_wp2_with fail
      go_roundw
      case rel => exact ⟨i + 1, by omega, rfl, HK2⟩
      case measure => simp [intOf]; omega
    · have e : i = L.length := by rw [HN.out]; omega
      subst e
      go_wp2_with (go_at_call 20; (with_reducible refine (HD.out _ HK.out).mono ?_); rintro e w2 ⟨tv, rfl, ho, hc, ht⟩)
      exact bodyPost_ret (v := tv) (by simp [results, Try.results13, go_sem]) rfl ⟨tv, rfl, ho.base HK.out.turn.size, hc, HK.out.turn.trans ht (Grew.refl _ _)⟩
theorem ctick13_any (p : Nat) (L : List Tm) (F : Nat → Prop) (w : World) (h : CkL w p L F) (hok : ClkOk L) : Calls Try.prog 13 #[.pointer (some ⟨p, 0, none⟩)] w fun e w' =>
    ∃ v, e = .returned v ∧ OwnN w' w.heap.size v (toldT L) ∧ CkL w' p (tickT L) F ∧ Turn F w w' := by
  have h' := h
  obtain ⟨v, hr, ho, hn, rfl⟩ := h
  rcases ho.2 with ⟨rfl, h0⟩ | ⟨g, c, cur, rfl, -⟩
  · obtain rfl : L = [] := List.length_eq_zero_iff.1 h0
    exact ctick13_empty p _ w h' hr
  · have hpg : p ≠ g := fun e => hn (by rw [e]; rfl)
    have hF : (fun b => b = p ∨ (Value.slice (some ⟨g, 0, none⟩) L.length c).ownBlock = some b) = (fun b => b = p ∨ b = g) := by
      funext b
      simp only [Value.ownBlock, Option.some.injEq, eq_iff_iff]
      constructor <;> (rintro (e | e); exact Or.inl e; exact Or.inr e.symm)
    rw [hF]
    exact ctick13_some p g c L w hr ho hpg hok
end Go.Proofs.Ytchhaolgmdhnmaa
