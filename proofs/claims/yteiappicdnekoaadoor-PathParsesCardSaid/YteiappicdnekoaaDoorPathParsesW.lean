/-
Walk of the statement PathParses.
-/
import Derived.Test.YteiappicdnekoaaDoorPathReadsW
import Derived.Test.YteiappicdnekoaaDoorPathParsed
namespace Go.Proofs.YteiappicdnekoaaDoor
open Go.RowKit Go.Sort
set_option maxRecDepth 20000
theorem parse_form (s : List UInt8) (h : (parseP s).1 = 0) : ∃ (x y : Ent) (D : List Ent), (parseP s).2 = (x.1, x.2.1, true) :: (y.1, y.2.1, false) :: D := by
  unfold parseP at h ⊢
  split
  · rename_i h1
    rw [if_pos h1] at h
    split
    · rename_i h2; rw [h2] at h; cases h
    · rename_i t ws h2
      rw [h2] at h
      dsimp only at h
      split
      · rename_i h3
        rw [if_pos h3] at h
        split
        · exact ⟨callE (readD t), callE (readD (Lib.cut s [62]).1), _, rfl⟩
        · rename_i h4; rw [if_neg h4] at h; exact absurd h h4
      · rename_i h3; rw [if_neg h3] at h; cases h
  · rename_i h1; rw [if_neg h1] at h; cases h
theorem pparses_long (s : ByteArray) (w : World) (h : 300 < s.size) : Calls Tryd.prog 7 #[.string s] w fun e w' => e = .returned (.bool true) ∧ Below w.heap.size w w' := by
  have d2 : decide ((300 : Int) < (s.size : Int)) = true := decide_eq_true (by omega)
  clear h
  go_enter Tryd.func7, Tryd.ntmps7
  go_wp2_with (go_at_call 9; (with_reducible refine (pawake_any _).mono ?_); rintro e w1 ⟨rfl, hb⟩; have HB := Lib.hid hb; clear hb)
  go_ret
  exact ⟨rfl, HB.out⟩
set_option maxHeartbeats 1000000 in
theorem pparses_not (s : ByteArray) (w : World) (hV : VarsOk w) (hs : s.size ≤ 300) (h : (parseP s.data.toList).1 ≠ 0) : Calls Tryd.prog 7 #[.string s] w fun e w' => e = .returned (.bool true) ∧ Below w.heap.size w w' := by
  have d2 : decide ((300 : Int) < (s.size : Int)) = false := decide_eq_false (by omega)
  have hpc := fun W (hb : Below w.heap.size w W) => pparse_any s W (hV.below hb) hs
  have hpr := fun W => rparse_p s W hs
  generalize parseP s.data.toList = r at *
  obtain ⟨rc, L⟩ := r
  have h0 : rc ≠ 0 := h
  have HPC := Lib.hid (show ∀ W, Below w.heap.size w W → Calls Tryd.prog 30 #[.string s] W fun e w' => e = .returned (.tuple #[.agg #[.string ⟨#[]⟩, .int .i64 0, .string ⟨#[]⟩, .int .i64 0, .bool false, .bool false, .slice none 0 0], .int .i64 (rc : Int)]) ∧ Below W.heap.size W w' from fun W hb => (hpc W hb).mono fun e w' hq => ⟨hq.1 h0, hq.2.2⟩)
  have HPR := Lib.hid (show ∀ W, Calls Tryd.prog 31 #[.string s] W fun e w' => e = .returned (.tuple #[.agg #[.slice none 0 0], .int .i64 (rc : Int)]) ∧ Below W.heap.size W w' from fun W => (hpr W).mono fun e w' hq => ⟨hq.1 h0, hq.2.2⟩)
  have ez : ((rc : Int) != 0) = true := by rw [bne_iff_ne]; omega
  have ee : ((rc : Int) != (rc : Int)) = false := by simp
  clear hpc hpr h h0
  go_enter Tryd.func7, Tryd.ntmps7
  go_wp2_with (first
    | (go_at_call 9; (with_reducible refine (pawake_any _).mono ?_); rintro e w1 ⟨rfl, hb⟩; have HB := Lib.hid hb; clear hb)
    | (go_at_call 30; (with_reducible refine (HPC.out _ HB.out).mono ?_); rintro e w2 ⟨rfl, hb⟩; have HB2 := Lib.hid ((HB.out.trans (hb.mono HB.out.size)).alloc (HB.out.trans (hb.mono HB.out.size)).size (.cells #[.string ⟨#[]⟩, .int .i64 0, .string ⟨#[]⟩, .int .i64 0, .bool false, .bool false, .slice none 0 0] 26)); have HP2 := Lib.hid (P7.new w2 w2.heap.size rfl (.string ⟨#[]⟩) (.int .i64 0) (.string ⟨#[]⟩) (.int .i64 0) (.bool false) (.bool false) (.slice none 0 0) 26); clear hb HB)
    | (go_at_call 31; (with_reducible refine (HPR.out _).mono ?_); rintro e w3 ⟨rfl, hb⟩; have HB3 := Lib.hid ((HB2.out.trans (hb.mono HB2.out.size)).alloc (HB2.out.trans (hb.mono HB2.out.size)).size (.cells #[.slice none 0 0] 31)); have HP3 := Lib.hid ((HP2.out.below hb).alloc (.cells #[.slice none 0 0] 31)); clear hb HB2 HP2; obtain ⟨⟨p0, -, pl⟩, ⟨p1, -, -⟩, ⟨p2, -, -⟩, ⟨p3, -, -⟩, ⟨p4, -, -⟩, ⟨p5, -, -⟩, ⟨p6, -, -⟩⟩ := HP3.out))
  go_ret
  exact ⟨rfl, HB3.out⟩
set_option maxHeartbeats 1000000 in
theorem pparses_yes (s : ByteArray) (w : World) (hV : VarsOk w) (hs : s.size ≤ 300) (h : (parseP s.data.toList).1 = 0) : Calls Tryd.prog 7 #[.string s] w fun e w' => e = .returned (.bool true) ∧ Below w.heap.size w w' := by
  have d2 : decide ((300 : Int) < (s.size : Int)) = false := decide_eq_false (by omega)
  have hpc := fun W (hb : Below w.heap.size w W) => pparse_any s W (hV.below hb) hs
  have hpr := fun W => rparse_p s W hs
  have hrt := parse_right s.data.toList h
  obtain ⟨x, y, D, hL⟩ := parse_form s.data.toList h
  generalize parseP s.data.toList = r at *
  obtain ⟨rc, L⟩ := r
  dsimp only at h hrt hL
  subst h hL
  obtain ⟨tb, tn, tm⟩ := x
  obtain ⟨fb, fn, fm⟩ := y
  dsimp only at hrt hpc hpr
  have hD8 : D.length ≤ 8 := by
    rw [right_cons] at hrt
    simp only [Bool.and_eq_true, decide_eq_true_eq] at hrt
    exact hrt.1.1
  have HPC := Lib.hid (show ∀ W, Below w.heap.size w W → Calls Tryd.prog 30 #[.string s] W fun e w' => (∃ da dc, e = .returned (.tuple #[.agg #[.string tb, .int .i64 tn, .string fb, .int .i64 fn, .bool true, .bool false, .slice da D.length dc], .int .i64 0]) ∧ EntsAt w' da dc D) ∧ Below W.heap.size W w' from fun W hb => (hpc W hb).mono fun e w' hq => by
    obtain ⟨x, y, D', da, dc, h1, h2, h3⟩ := hq.2.1 rfl
    simp only [List.cons.injEq, Prod.mk.injEq] at h1
    obtain ⟨⟨x1, x2, _⟩, ⟨y1, y2, _⟩, rfl⟩ := h1
    exact ⟨⟨da, dc, by rw [h2, ← x1, ← x2, ← y1, ← y2], ents_of_own h3⟩, hq.2.2⟩)
  have HPR := Lib.hid (show ∀ W, Calls Tryd.prog 31 #[.string s] W fun e w' => (∃ va vc, e = .returned (.tuple #[.agg #[.slice va ((tb, tn, true) :: (fb, fn, false) :: D).length vc], .int .i64 0]) ∧ EntsAt w' va vc ((tb, tn, true) :: (fb, fn, false) :: D)) ∧ Below W.heap.size W w' from fun W => (hpr W).mono fun e w' hq => by
    obtain ⟨v, h1, va, vc, h2, h3⟩ := hq.2.1 rfl
    exact ⟨⟨va, vc, by rw [h1, h2], h3⟩, hq.2.2⟩)
  have HPL := Lib.hid (show ∀ da dc W, EntsAt W da dc D → Calls Tryd.prog 11 #[.agg #[.string tb, .int .i64 tn, .string fb, .int .i64 fn, .bool true, .bool false, .slice da D.length dc]] W fun e w' => ∃ v, e = .returned (.agg #[v]) ∧ Ents w' v ((tb, tn, true) :: (fb, fn, false) :: D) ∧ Below W.heap.size W w' from fun da dc W h => (plainP_any tb fb tn fn true false da dc D W (by omega) h).mono fun e w' hq => by
    obtain ⟨v, h1, h2, h3⟩ := hq
    exact ⟨v, h1, h2.ents, h3⟩)
  have HRI := Lib.hid (show ∀ da dc W, EntsAt W da dc D → Calls Tryd.prog 14 #[.agg #[.string tb, .int .i64 tn, .string fb, .int .i64 fn, .bool true, .bool false, .slice da D.length dc]] W fun e w' => e = .returned (.bool true) ∧ Below W.heap.size W w' from fun da dc W h => by
    have k := pright_any tb fb tn fn true false da dc D W (by omega) h
    rw [hrt] at k
    exact k)
  have HCO := Lib.hid (show ∀ da dc W, Calls Tryd.prog 27 #[.agg #[.string tb, .int .i64 tn, .string fb, .int .i64 fn, .bool true, .bool false, .slice da D.length dc]] W fun e w' => e = .returned (.bool true) ∧ Below W.heap.size W w' from fun da dc W => command_any tb fb tn fn true false da D.length dc W)
  obtain ⟨L, hL⟩ : ∃ L, L = (tb, tn, true) :: (fb, fn, false) :: D := ⟨_, rfl⟩
  have hLn : L.length ≤ 1000 := by rw [hL]; simp; omega
  rw [← hL] at HPL HPR
  obtain ⟨nl, hnl⟩ : ∃ nl, nl = L.length := ⟨_, rfl⟩
  rw [← hnl] at HPR
  have HNL := Lib.hid hnl
  clear hpc hpr hrt hL hD8 hnl
  go_enter Tryd.func7, Tryd.ntmps7
  go_wp2_with (first
    | (go_at_call 9; (with_reducible refine (pawake_any _).mono ?_); rintro e w1 ⟨rfl, hb⟩; have HB := Lib.hid hb; clear hb)
    | (go_at_call 30; (with_reducible refine (HPC.out _ HB.out).mono ?_); rintro e w2 ⟨⟨da, dc, rfl, hE⟩, hb⟩; have HB2 := Lib.hid ((HB.out.trans (hb.mono HB.out.size)).alloc (HB.out.trans (hb.mono HB.out.size)).size (.cells #[.string tb, .int .i64 tn, .string fb, .int .i64 fn, .bool true, .bool false, .slice da D.length dc] 26)); have HP2 := Lib.hid (P7.new w2 w2.heap.size rfl (.string tb) (.int .i64 tn) (.string fb) (.int .i64 fn) (.bool true) (.bool false) (.slice da D.length dc) 26); have HE2 := Lib.hid (hE.alloc (.cells #[.string tb, .int .i64 tn, .string fb, .int .i64 fn, .bool true, .bool false, .slice da D.length dc] 26)); clear hb hE HB)
    | (go_at_call 31; (with_reducible refine (HPR.out _).mono ?_); rintro e w3 ⟨⟨va, vc, rfl, hE⟩, hb⟩; have HB7 := Lib.hid ((HB2.out.trans (hb.mono HB2.out.size)).alloc (HB2.out.trans (hb.mono HB2.out.size)).size (.cells #[.slice va nl vc] 31)); have HP7 := Lib.hid ((HP2.out.below hb).alloc (.cells #[.slice va nl vc] 31)); have HE7 := Lib.hid ((HE2.out.below hb).alloc (.cells #[.slice va nl vc] 31)); have HV7 := Lib.hid (hE.alloc (.cells #[.slice va nl vc] 31)); have HK7 := Lib.hid (show KeepAt (w3.alloc (.cells #[.slice va nl vc] 31)) w3.heap.size 0 (.slice va nl vc) from ⟨World.cell?_alloc_at _ _ _ _ rfl, World.frozen?_alloc_at _ _ _ _ rfl, by simp⟩); clear hb hE HB2 HP2 HE2))
  generalize w3.alloc (.cells #[.slice va nl vc] 31) = W at *
  have HB1 := Lib.hid ((Below.refl W.heap.size W).drew)
  refine wp_region_held (S := fun W' => Below W.heap.size W W') (by kernel_rfl) ?_
  change wpAnyH _ _ _ _ _ _ _ _ W.drew
  have HB := Lib.hid ((Below.refl W.heap.size W).drew)
  refine wpAnyH_take (i := 0) (v := ?_) rfl (by kernel_rfl) (by kernel_rfl) (by kernel_rfl) (fun _ _ _ h => h) (Or.inl ⟨by rfl, ?_⟩) HB.out ?_
  rotate_left
  · intro w' hw'
    obtain ⟨⟨p0, -, pl⟩, ⟨p1, -, -⟩, ⟨p2, -, -⟩, ⟨p3, -, -⟩, ⟨p4, -, -⟩, ⟨p5, -, -⟩, ⟨p6, -, -⟩⟩ := HP7.out.below hw'; obtain ⟨r0, -, rl⟩ := HK7.out.below hw'
    go_simp
    with_reducible rfl
  go_simp
  refine wpAnyH_take (i := 2) (v := ?_) rfl (by kernel_rfl) (by kernel_rfl) (by kernel_rfl) (fun _ _ _ h => h) (Or.inl ⟨by rfl, ?_⟩) HB.out ?_
  rotate_left
  · intro w' hw'
    obtain ⟨⟨p0, -, pl⟩, ⟨p1, -, -⟩, ⟨p2, -, -⟩, ⟨p3, -, -⟩, ⟨p4, -, -⟩, ⟨p5, -, -⟩, ⟨p6, -, -⟩⟩ := HP7.out.below hw'; obtain ⟨r0, -, rl⟩ := HK7.out.below hw'
    go_simp
    with_reducible rfl
  go_simp
  refine wpAnyH_ready (rs := [1]) (by kernel_rfl) (by simp) ?_
  refine AllReadyH.cons rfl (fun K hK => ?_) AllReadyH.nil
  go_simp
  go_at_call 11
  refine (HPL.out da dc _ (HE7.out.below HB1.out)).mono ?_
  rintro e w9 ⟨pv, rfl, hpv, hb⟩
  have HB9 := Lib.hid (show Below W.heap.size W w9 from HB1.out.trans (hb.mono HB1.out.size))
  have HPV := Lib.hid hpv
  clear hb hpv
  change K _ _
  refine hK.out _ _ HB9.out (fun _ => ?_)
  clear hK K HB1
  refine wpAnyH_ready (rs := [3]) (by kernel_rfl) (by simp) ?_
  refine AllReadyH.cons rfl (fun K hK => ?_) AllReadyH.nil
  go_simp
  go_at_call 18
  refine (sameP_yes pv (.slice va nl vc) L w9 (by omega) HPV.out ⟨va, vc, by rw [HNL.out], HV7.out.below HB9.out⟩).mono ?_
  rintro e w10 ⟨rfl, hb⟩
  have HB := Lib.hid (show Below W.heap.size W w10 from HB9.out.trans (hb.mono HB9.out.size))
  clear hb
  change K _ _
  refine hK.out _ _ HB.out (fun _ => ?_)
  clear hK K HB9 HPV
  refine wpAnyH_take (i := 4) (v := ?_) rfl (by kernel_rfl) (by kernel_rfl) (by kernel_rfl) (fun _ _ _ h => h) (Or.inl ⟨by rfl, ?_⟩) HB.out ?_
  rotate_left
  · intro w' hw'
    go_simp
    with_reducible rfl
  go_simp
  refine wpAnyH_take (i := 5) (v := ?_) rfl (by kernel_rfl) (by kernel_rfl) (by kernel_rfl) (fun _ _ _ h => h) (Or.inl ⟨by rfl, ?_⟩) HB.out ?_
  rotate_left
  · intro w' hw'
    obtain ⟨⟨p0, -, pl⟩, ⟨p1, -, -⟩, ⟨p2, -, -⟩, ⟨p3, -, -⟩, ⟨p4, -, -⟩, ⟨p5, -, -⟩, ⟨p6, -, -⟩⟩ := HP7.out.below hw'
    go_simp
    with_reducible rfl
  go_simp
  refine wpAnyH_ready (rs := [6]) (by kernel_rfl) (by simp) ?_
  refine AllReadyH.cons rfl (fun K hK => ?_) AllReadyH.nil
  go_simp
  go_at_call 14
  refine (HRI.out da dc _ (HE7.out.below HB.out)).mono ?_
  rintro e w11 ⟨rfl, hb⟩
  replace HB := Lib.hid (show Below W.heap.size W w11 from HB.out.trans (hb.mono HB.out.size))
  clear hb
  change K _ _
  refine hK.out _ _ HB.out (fun _ => ?_)
  clear hK K
  refine wpAnyH_take (i := 7) (v := ?_) rfl (by kernel_rfl) (by kernel_rfl) (by kernel_rfl) (fun _ _ _ h => h) (Or.inl ⟨by rfl, ?_⟩) HB.out ?_
  rotate_left
  · intro w' hw'
    go_simp
    with_reducible rfl
  go_simp
  refine wpAnyH_take (i := 8) (v := ?_) rfl (by kernel_rfl) (by kernel_rfl) (by kernel_rfl) (fun _ _ _ h => h) (Or.inl ⟨by rfl, ?_⟩) HB.out ?_
  rotate_left
  · intro w' hw'
    go_simp
    with_reducible rfl
  go_simp
  refine wpAnyH_take (i := 9) (v := ?_) rfl (by kernel_rfl) (by kernel_rfl) (by kernel_rfl) (fun _ _ _ h => h) (Or.inl ⟨by rfl, ?_⟩) HB.out ?_
  rotate_left
  · intro w' hw'
    obtain ⟨⟨p0, -, pl⟩, ⟨p1, -, -⟩, ⟨p2, -, -⟩, ⟨p3, -, -⟩, ⟨p4, -, -⟩, ⟨p5, -, -⟩, ⟨p6, -, -⟩⟩ := HP7.out.below hw'
    go_simp
    with_reducible rfl
  go_simp
  refine wpAnyH_ready (rs := [10]) (by kernel_rfl) (by simp) ?_
  refine AllReadyH.cons rfl (fun K hK => ?_) AllReadyH.nil
  go_simp
  go_at_call 27
  refine (HCO.out da dc _).mono ?_
  rintro e w12 ⟨rfl, hb⟩
  replace HB := Lib.hid (show Below W.heap.size W w12 from HB.out.trans (hb.mono HB.out.size))
  clear hb
  change K _ _
  refine hK.out _ _ HB.out (fun _ => ?_)
  clear hK K
  refine wpAnyH_take (i := 11) (v := ?_) rfl (by kernel_rfl) (by kernel_rfl) (by kernel_rfl) (fun _ _ _ h => h) (Or.inl ⟨by rfl, ?_⟩) HB.out ?_
  rotate_left
  · intro w' hw'
    go_simp
    with_reducible rfl
  go_simp
  refine wpAnyH_take (i := 12) (v := ?_) rfl (by kernel_rfl) (by kernel_rfl) (by kernel_rfl) (fun _ _ _ h => h) (Or.inl ⟨by rfl, ?_⟩) HB.out ?_
  rotate_left
  · intro w' hw'
    go_simp
    with_reducible rfl
  go_simp
  refine wpAnyH_done (by kernel_rfl) ?_ _
  go_wp2
  go_ret
  exact ⟨rfl, HB7.out.trans (HB.out.mono HB7.out.size)⟩
theorem pparses_any (s : ByteArray) (w : World) (hV : VarsOk w) : Calls Tryd.prog 7 #[.string s] w fun e w' => e = .returned (.bool true) ∧ Below w.heap.size w w' := by
  by_cases h : 300 < s.size
  · exact pparses_long s w h
  · by_cases h0 : (parseP s.data.toList).1 = 0
    · exact pparses_yes s w hV (by omega) h0
    · exact pparses_not s w hV (by omega) h0
end Go.Proofs.YteiappicdnekoaaDoor
