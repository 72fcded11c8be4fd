/-
The landed air's Send.
-/
import Derived.Test.YtgfipndilngfbaaAirCSend
namespace Go.Proofs.Ytgfipndilngfbaa
open Go.RowKit
set_option maxRecDepth 20000
theorem foot_grew {a m hh : Nat} {Fp : Nat → Prop} {G G' : Nat → Nat → Prop} {w : World} (h : ∀ i, Grew (G i) (G' i) w) : Grew (foot a m hh Fp G) (foot a m hh Fp G') w := by
  rintro k (e | e | e | e | ⟨i, e⟩)
  · exact Or.inl (Or.inl e)
  · exact Or.inl (Or.inr (Or.inl e))
  · exact Or.inl (Or.inr (Or.inr (Or.inl e)))
  · exact Or.inl (Or.inr (Or.inr (Or.inr (Or.inl e))))
  · exact (h i k e).imp (fun q => Or.inr (Or.inr (Or.inr (Or.inr ⟨i, q⟩)))) id
theorem Turn.mono {F F' : Nat → Prop} {w w' : World} (h : Turn F w w') (hF : ∀ k, F k → F' k) : Turn F' w w' := ⟨h.os, h.tape, h.output, h.size, fun k hk hn => h.block k hk fun q => hn (hF k q)⟩
theorem Turn.of_map {w w' : World} {m : Nat} (h : w.mapTurned w' m) : Turn (fun k => k = m) w w' := by
  have g := h.grown
  exact ⟨g.os, g.tape, g.output, g.size, fun k hk hn => g.block k hk fun e => hn (Option.some.inj e)⟩
theorem own_capLe {α : Type} {E : Enc α} {T : TypeId} {w : World} {B n cap : Nat} {ad : Option Addr} {L : List α} (h : OwnL E T w B (.slice ad n cap) L) : L.length ≤ cap := by
  rcases h.2 with ⟨h0, h1⟩ | ⟨g', cap', cur, hv, hb, hg, hc, hmx, hs, ht⟩
  · simp only [Value.slice.injEq] at h0
    omega
  · simp only [Value.slice.injEq] at hv
    omega
section
variable {w : World} {a n : Nat} {H : Nat → Nat → Bool} {S : Ai} {p m hh : Nat} {Fp : Nat → Prop} {M : Nat → Option Nat} {G : Nat → Nat → Prop} {T : Nat → List Int}
set_option maxHeartbeats 1000000 in
theorem cbusy15 (h : AirAt w a n H S p m hh Fp M G T) (i lead tail : Nat) (v : Value) (fs : List ByteArray) (hi : 1 ≤ i ∧ i ≤ n) (hl : lead ≤ 255) (ht : tail ≤ 255) (hf : 1 ≤ fs.length ∧ fs.length ≤ 7) (hs : ∀ f ∈ fs, f.size ≤ 333) (hv : SeeL encS w v fs) (hS : (S i).isSome = true) :
    Calls Try.prog 8 #[ptrV a, .int .i64 i, .int .i64 lead, .int .i64 tail, v] w fun e w' => e = .returned (.int .i64 10) ∧ Below w.heap.size w w' := by
  obtain ⟨ad, c, rfl, hA⟩ := hv
  have hb := (Below.refl w.heap.size w).alloc (Nat.le_refl _) (.cells #[.int .i64 i] 3)
  have HB := Lib.hid hb
  have hn := h.many
  have HO := Lib.hid (con15 (h.below hb).base i (by omega))
  have HT := Lib.hid (cthere15 (h.below hb) i w.heap.size hi (RowAt.new w w.heap.size rfl [.int .i64 i] 3))
  have HC := Lib.hid (ccontainsS15 ad fs.length c fs (w.alloc (.cells #[.int .i64 i] 3)) rfl (hA.below hb) hf.2 hs)
  have HL := Lib.hid (fun W => caround15 lead hl W)
  have HM := Lib.hid (fun W => caround15 tail ht W)
  have d0 : ((fs.length : Int) == 0) = false := by rw [beq_eq_false_iff_ne]; omega
  have d1 : decide ((7 : Int) < (fs.length : Int)) = false := decide_eq_false (by omega)
  rw [hS] at HO
  generalize fs.length = k at *
  clear h hA hb hi hl ht hf hs hS hn
  go_enter Try.func8, Try.ntmps8
  go_wp2_with (first
    | (go_at_call 19; (with_reducible refine HT.out.mono ?_); rintro e w1 ⟨rfl, rfl⟩)
    | (go_at_call 20; (with_reducible refine (HL.out _).mono ?_); rintro e w1 ⟨rfl, rfl⟩)
    | (go_at_call 20; (with_reducible refine (HM.out _).mono ?_); rintro e w1 ⟨rfl, rfl⟩)
    | (go_at_call 21; (with_reducible refine HC.out.mono ?_); rintro e w1 ⟨rfl, rfl⟩)
    | (go_at_call 9; (with_reducible refine HO.out.mono ?_); rintro e w1 ⟨rfl, rfl⟩))
  exact bodyPost_ret (v := .int .i64 10) (by simp [results, Try.results8, go_sem]) rfl ⟨rfl, HB.out⟩
set_option maxHeartbeats 2000000 in
theorem csend15 (h : AirAt w a n H S p m hh Fp M G T) (i lead tail : Nat) (v : Value) (fs : List ByteArray) (hi : 1 ≤ i ∧ i ≤ n) (hl : lead ≤ 255) (ht : tail ≤ 255) (hf : 1 ≤ fs.length ∧ fs.length ≤ 7) (hs : ∀ f ∈ fs, f.size ≤ 333) (hv : SeeL encS w v fs) (hS : S i = none) :
    Calls Try.prog 8 #[ptrV a, .int .i64 i, .int .i64 lead, .int .i64 tail, v] w fun e w' => ∃ b G' w3, e = .returned (.int .i64 0) ∧ Below w.heap.size w w3 ∧ AirAt w3 a n H S p m hh Fp M G T ∧ BuL w' b ⟨lead, tail, fs, 0, noneC⟩ [] G' ∧ (∀ k, G' k → w.heap.size ≤ k) ∧ (∀ k, G' k → k ≠ m) ∧
      OnM w' m (fun k => if k = i then some b else M k) ∧ w3.mapTurned w' m := by
  obtain ⟨ad, c, rfl, hA⟩ := hv
  obtain ⟨g, o, rfl, hg⟩ := hA.some_ (by omega)
  have hb := (Below.refl w.heap.size w).alloc (Nat.le_refl _) (.cells #[.int .i64 i] 3)
  have HB1 := Lib.hid hb
  have hn := h.many
  have HI := Lib.hid hi
  have HM' := Lib.hid (show i ≤ 1000 from by omega)
  have HO := Lib.hid (con15 (h.below hb).base i (by omega))
  have HT := Lib.hid (cthere15 (h.below hb) i w.heap.size hi (RowAt.new w w.heap.size rfl [.int .i64 i] 3))
  have HC := Lib.hid (ccontainsS15 (some ⟨g, o, none⟩) fs.length c fs (w.alloc (.cells #[.int .i64 i] 3)) rfl (hA.below hb) hf.2 hs)
  have HCL := Lib.hid (cclone15 g o fs.length c fs (w.alloc (.cells #[.int .i64 i] 3)).drew rfl ((hA.below hb).drew) hf.2 (by omega))
  have HL := Lib.hid (fun W => caround15 lead hl W)
  have HM := Lib.hid (fun W => caround15 tail ht W)
  have d0 : ((fs.length : Int) == 0) = false := by rw [beq_eq_false_iff_ne]; omega
  have d1 : decide ((7 : Int) < (fs.length : Int)) = false := decide_eq_false (by omega)
  rw [hS] at HO
  simp only [Option.isSome_none] at HO
  have HA := Lib.hid (h.below hb)
  have HK0 := Lib.hid (show 0 < fs.length from by omega)
  have HSZ := Lib.hid (show w.heap.size < (w.alloc (.cells #[.int .i64 i] 3)).heap.size from by simp)
  have HMM := Lib.hid (show m < w.heap.size from h.on.lt)
  obtain ⟨k, hk⟩ : ∃ k, k = fs.length := ⟨_, rfl⟩
  have HKK := Lib.hid hk
  rw [← hk] at HC HCL d0 d1 HK0 ⊢
  generalize hw1 : w.alloc (.cells #[.int .i64 i] 3) = w1 at *
  clear h hA hb hi hl ht hf hs hS hn hk hg
  go_enter Try.func8, Try.ntmps8
  go_upto_region 8 with (first
    | (go_at_call 19; (with_reducible refine HT.out.mono ?_); rintro e w2 ⟨rfl, rfl⟩)
    | (go_at_call 20; (with_reducible refine (HL.out _).mono ?_); rintro e w2 ⟨rfl, rfl⟩)
    | (go_at_call 20; (with_reducible refine (HM.out _).mono ?_); rintro e w2 ⟨rfl, rfl⟩)
    | (go_at_call 21; (with_reducible refine HC.out.mono ?_); rintro e w2 ⟨rfl, rfl⟩)
    | (go_at_call 9; (with_reducible refine HO.out.mono ?_); rintro e w2 ⟨rfl, rfl⟩))
  clear hw1 HO HT HC HL HM
  refine wp_region_held (S := fun W' => RowAt W' a [ptrV p, .map (some m), .map (some hh)]) (by kernel_rfl) ?_
  change wpAnyH _ _ _ _ _ _ _ _ (World.drew _)
  have HB := Lib.hid HA.out.row.drew
  refine wpAnyH_take (i := 0) (v := ?_) rfl (by kernel_rfl) (by kernel_rfl) (by kernel_rfl) (fun _ _ _ h => h) (Or.inl ⟨by rfl, ?_⟩) HB.out ?_
  rotate_left
  · intro w' hw'
    go_simp
    with_reducible rfl
  go_simp
  refine wpAnyH_take (i := 1) (v := ?_) rfl (by kernel_rfl) (by kernel_rfl) (by kernel_rfl) (fun _ _ _ h => h) (Or.inl ⟨by rfl, ?_⟩) HB.out ?_
  rotate_left
  · intro w' hw'
    go_simp
    with_reducible rfl
  go_simp
  refine wpAnyH_take (i := 2) (v := ?_) rfl (by kernel_rfl) (by kernel_rfl) (by kernel_rfl) (fun _ _ _ h => h) (Or.inl ⟨by rfl, ?_⟩) HB.out ?_
  rotate_left
  · intro w' hw'
    go_simp
    with_reducible rfl
  go_simp
  refine wpAnyH_take (i := 4) (v := ?_) rfl (by kernel_rfl) (by kernel_rfl) (by kernel_rfl) (fun _ _ _ h => h) (Or.inl ⟨by rfl, ?_⟩) HB.out ?_
  rotate_left
  · intro w' hw'
    go_simp
    with_reducible rfl
  go_simp
  refine wpAnyH_take (i := 5) (v := ?_) rfl (by kernel_rfl) (by kernel_rfl) (by kernel_rfl) (fun _ _ _ h => h) (Or.inl ⟨by rfl, ?_⟩) HB.out ?_
  rotate_left
  · intro w' hw'
    go_simp
    with_reducible rfl
  go_simp
  refine wpAnyH_take (i := 6) (v := ?_) rfl (by kernel_rfl) (by kernel_rfl) (by kernel_rfl) (fun _ _ _ h => h) (Or.inl ⟨by rfl, ?_⟩) HB.out ?_
  rotate_left
  · intro w' hw'
    go_simp
    with_reducible rfl
  go_simp
  refine wpAnyH_take (i := 7) (v := ?_) rfl (by kernel_rfl) (by kernel_rfl) (by kernel_rfl) (fun _ _ _ h => h) (Or.inl ⟨by rfl, ?_⟩) HB.out ?_
  rotate_left
  · intro w' hw'
    go_simp
    with_reducible rfl
  go_simp
  refine wpAnyH_take (i := 3) (v := ?_) rfl (by kernel_rfl) (by kernel_rfl) (by kernel_rfl) (fun _ _ _ h => h) (Or.inl ⟨by rfl, ?_⟩) HB.out ?_
  rotate_left
  · intro w' hw'
    have xx := hw'.cell 1 rfl
    go_simp
    with_reducible rfl
  go_simp
  refine wpAnyH_ready (rs := [8]) (by kernel_rfl) (by simp) ?_
  refine AllReadyH.cons rfl (fun K hK => ?_) AllReadyH.nil
  go_simp
  go_at_call 23
  refine HCL.out.mono ?_
  rintro e w2 ⟨cv, rfl, hown, hbc⟩
  obtain ⟨gc, cc, rfl, hgc, hgl, hgA⟩ := hown.some_ (by have := HKK.out; have := HK0.out; omega)
  have HA2 := Lib.hid (HA.out.below ((Below.refl _ _).drew.trans hbc))
  have HW2 := Lib.hid (show Below w.heap.size w w2 from HB1.out.trans (((Below.refl _ _).drew.trans hbc).mono HB1.out.size))
  have HU := Lib.hid (And.intro (own_capLe hown) (And.intro hgA hgl))
  have HGC := Lib.hid (show w.heap.size ≤ gc from Nat.le_trans HB1.out.size hgc)
  clear hown hbc hgc hgl hgA HCL
  change K _ _
  clear HB
  have HB := Lib.hid HA2.out.row
  refine hK.out _ _ HB.out (fun _ => ?_)
  clear hK K
  rw [← HKK.out]
  refine wpAnyH_take (i := 9) (v := ?_) rfl (by kernel_rfl) (by kernel_rfl) (by kernel_rfl) (fun _ _ _ h => h) (Or.inl ⟨by rfl, ?_⟩) HB.out ?_
  rotate_left
  · intro w' hw'
    go_simp
    with_reducible rfl
  go_simp
  have HBU := Lib.hid (show BuL (w2.alloc (.cells #[.int .i64 lead, .int .i64 tail, .slice (some ⟨gc, 0, none⟩) k cc, .int .i64 0, .slice none 0 0] 64)) w2.heap.size ⟨lead, tail, fs, 0, noneC⟩ [] _ from
    ⟨some ⟨gc, 0, none⟩, cc, .slice none 0 0, by rw [← HKK.out]; exact RowAt.new w2 w2.heap.size rfl [.int .i64 lead, .int .i64 tail, .slice (some ⟨gc, 0, none⟩) k cc, .int .i64 0, .slice none 0 0] _, HU.out.1, HU.out.2.1.alloc _,
      fun q hq => by
        cases hq
        have := HU.out.2.2
        exact ⟨by simp; omega, by show gc ≠ w2.heap.size; omega, by simp [Value.ownBlock]⟩, OwnL.nil _ _ _ _, by simp [Value.ownBlock], rfl⟩)
  have HA3 := Lib.hid (HA2.out.below ((Below.refl _ w2).alloc (Nat.le_refl _) (.cells #[.int .i64 lead, .int .i64 tail, .slice (some ⟨gc, 0, none⟩) k cc, .int .i64 0, .slice none 0 0] 64)))
  have HW3 := Lib.hid (HW2.out.alloc HW2.out.size (.cells #[.int .i64 lead, .int .i64 tail, .slice (some ⟨gc, 0, none⟩) k cc, .int .i64 0, .slice none 0 0] 64))
  obtain ⟨w4, hrun, hon, hmt⟩ := HA3.out.on.put i HM'.out w2.heap.size
  have HON := Lib.hid (And.intro hon hmt)
  have HROW := Lib.hid (HA3.out.row.turn (Turn.of_map hmt) HA3.out.am)
  clear hon hmt
  refine wpAnyH_ready (rs := [10]) (by kernel_rfl) (by simp) ?_
  refine AllReadyH.cons rfl (fun K hK => ?_) AllReadyH.nil
  go_simp
  clear HB
  have HB := Lib.hid HA3.out.row
  refine hK.out _ _ HB.out (fun _ => ?_)
  clear hK K
  refine wpAnyH_ready (rs := [11]) (by kernel_rfl) (by simp) ?_
  refine AllReadyH.cons rfl (fun K hK => ?_) AllReadyH.nil
  go_simp
  refine hK.out _ _ HROW.out (fun _ => ?_)
  clear hK K
  refine wpAnyH_done (by kernel_rfl) ?_ _
  have HSW := Lib.hid HW2.out.size
  go_wp2_with fail
  refine bodyPost_ret (v := .int .i64 0) (by simp [results, Try.results8, go_sem]) rfl ⟨w2.heap.size, _, _, rfl, HW3.out, HA3.out, HBU.out.stay ⟨(Turn.of_map HON.out.2).size, fun q hq => (Turn.of_map HON.out.2).block q (HBU.out.mem q hq) ?_⟩, ?_, ?_, HON.out.1, HON.out.2⟩
  · rintro rfl
    have h1 := HMM.out
    have h2 := HGC.out
    have h3 := HSW.out
    rcases hq with e | ⟨q', e, e2⟩ | e
    · omega
    · cases e
      dsimp only at e2
      omega
    · cases e
  · intro q hq
    have h2 := HGC.out
    have h3 := HSW.out
    rcases hq with e | ⟨q', e, e2⟩ | e
    · omega
    · cases e
      dsimp only at e2
      omega
    · cases e
  · intro q hq e0
    have h1 := HMM.out
    have h2 := HGC.out
    have h3 := HSW.out
    rcases hq with e | ⟨q', e, e2⟩ | e
    · omega
    · cases e
      dsimp only at e2
      omega
    · cases e
end
end Go.Proofs.Ytgfipndilngfbaa
