/-
Walk of the statement PathReads.
-/
import Derived.Test.YteiappicdnekoaaDoorPathAwake
import Derived.Test.YteiappicdnekoaaDoorPathPlain
import Derived.Test.YteiappicdnekoaaDoorPathCGet
namespace Go.Proofs.YteiappicdnekoaaDoor
open Go.RowKit Go.Sort
set_option maxRecDepth 20000
theorem preads_long (s : ByteArray) (w : World) (hs : 1000 < s.size) : Calls Tryd.prog 4 #[.string s] w fun e w' => e = .returned (.bool true) ∧ Below w.heap.size w w' := by
  have d : decide ((1000 : Int) < (s.size : Int)) = true := decide_eq_true (by omega)
  go_enter Tryd.func4, Tryd.ntmps4
  go_wp2_with (go_at_call 9; (with_reducible refine (pawake_any _).mono ?_); rintro e w1 ⟨rfl, hb⟩; have HB := Lib.hid hb; clear hb)
  go_ret
  exact ⟨rfl, HB.out⟩
theorem getP_yes : ∀ (k : Nat) (l : List Ent) (s : List UInt8), (getP k l s).1 ≤ 11
  | 0, l, s => by unfold getP; split; · simp
                  · split <;> simp
  | k + 1, l, s => by
    unfold getP
    split
    · simp
    · split
      · split
        · split
          · simp
          · split <;> simp
        · exact getP_yes k _ _
      · simp
theorem getP_none : ∀ (k : Nat) (l : List Ent) (s : List UInt8), (getP k l s).1 ≠ 0 → (getP k l s).2 = []
  | 0, l, s, h => by unfold getP; split; · rfl
                     · split <;> rfl
  | k + 1, l, s, h => by
    unfold getP at h ⊢
    split
    · rfl
    · rename_i h7
      rw [if_neg h7] at h
      split
      · rename_i hg
        rw [if_pos hg] at h
        split
        · rename_i hla
          rw [if_pos hla] at h
          split
          · rfl
          · rename_i hl
            rw [if_neg hl] at h
            split
            · rename_i ho
              rw [if_pos ho] at h
              exact absurd rfl h
            · rfl
        · rename_i hla
          rw [if_neg hla] at h
          exact getP_none k _ _ h
      · rfl
set_option maxHeartbeats 4000000 in
theorem preads_some (s : ByteArray) (w : World) (hs : s.size ≤ 1000) : Calls Tryd.prog 4 #[.string s] w fun e w' => e = .returned (.bool true) ∧ Below w.heap.size w w' := by
  have d : decide ((1000 : Int) < (s.size : Int)) = false := decide_eq_false (by omega)
  have hCG := fun W => pget_any s W (by omega)
  have hRG := fun W => rpget_any s W
  have hle := getP_yes 10 [] s.data.toList
  have hno := getP_none 10 [] s.data.toList
  have hlen := getP_len 10 [] s.data.toList rfl
  generalize getP 10 [] s.data.toList = G at *
  obtain ⟨c, L⟩ := G
  unfold PGetTo at hCG
  unfold RGetTo at hRG
  dsimp only at hCG hRG hle hno hlen
  by_cases h0 : c = 0
  · subst h0
    have HCG := Lib.hid (show ∀ W, Calls Tryd.prog 16 #[.string s] W fun e w' => (∃ x y D da dc, L = x :: y :: D ∧ e = .returned (.tuple #[.agg #[.string x.1, .int .i64 x.2.1, .string y.1, .int .i64 y.2.1, .bool x.2.2, .bool y.2.2, .slice da D.length dc], .int .i64 ((7 * L.length : Nat) : Int), .int .i64 0]) ∧ EntsAt w' da dc D) ∧ Below W.heap.size W w' from fun W => (hCG W).mono fun e w' hq => ⟨hq.2.1 rfl, hq.2.2⟩)
    have HRG := Lib.hid (show ∀ W, Calls Tryd.prog 20 #[.string s] W fun e w' => (∃ v, e = .returned (.tuple #[.agg #[v], .int .i64 ((7 * L.length : Nat) : Int), .int .i64 0]) ∧ Ents w' v L) ∧ Below W.heap.size W w' from fun W => (hRG W).mono fun e w' hq => ⟨by obtain ⟨v, h1, h2, _⟩ := hq.1; exact ⟨v, h1, h2⟩, hq.2⟩)
    clear hCG hRG hle hno
    generalize hM : ((7 * L.length : Nat) : Int) = M at *
    clear hM
    have hMM : (M == M) = true := beq_self_eq_true _
    go_enter Tryd.func4, Tryd.ntmps4
    go_wp2_with (first
      | (go_at_call 9; (with_reducible refine (pawake_any _).mono ?_); rintro e w1 ⟨rfl, hb⟩; have HB := Lib.hid hb; clear hb)
      | (go_at_call 16; (with_reducible refine (HCG.out _).mono ?_); rintro e w2 ⟨⟨x, y, D, da, dc, hxy, rfl, hE⟩, hb⟩; replace HB := Lib.hid (HB.out.trans (hb.mono HB.out.size)); have HXY := Lib.hid hxy; have HE := Lib.hid (hE.alloc (.cells #[.string x.1, .int .i64 x.2.1, .string y.1, .int .i64 y.2.1, .bool x.2.2, .bool y.2.2, .slice da D.length dc] 26)); have HP := Lib.hid (P7.new w2 w2.heap.size rfl (.string x.1) (.int .i64 x.2.1) (.string y.1) (.int .i64 y.2.1) (.bool x.2.2) (.bool y.2.2) (.slice da D.length dc) 26); clear hb hxy hE)
      | (go_at_call 20; (with_reducible refine (HRG.out _).mono ?_); rintro e w3 ⟨⟨v, rfl, hE⟩, hb⟩; have hb' := ((Below.refl w2.heap.size w2).alloc (Nat.le_refl _) (.cells #[.string x.1, .int .i64 x.2.1, .string y.1, .int .i64 y.2.1, .bool x.2.2, .bool y.2.2, .slice da D.length dc] 26)); have hb2 := hb'.trans (hb.mono hb'.size); have hb3 := hb2.alloc hb2.size (.cells #[v] 31); replace HB := Lib.hid (HB.out.trans (hb3.mono HB.out.size)); replace HE := Lib.hid ((HE.out.below hb).alloc (.cells #[v] 31)); replace HP := Lib.hid ((HP.out.below hb).alloc (.cells #[v] 31)); obtain ⟨va, vc, hvv, hEE⟩ := hE; subst hvv; have HV := Lib.hid (hEE.alloc (.cells #[.slice va L.length vc] 31)); have HKV := Lib.hid (show KeepAt (w3.alloc (.cells #[.slice va L.length vc] 31)) w3.heap.size 0 (.slice va L.length vc) from ⟨World.cell?_alloc_at _ _ _ _ rfl, World.frozen?_alloc_at _ _ _ _ rfl, by simp⟩); clear hb hb' hb2 hb3 hEE))
    generalize w3.alloc (.cells #[.slice va L.length vc] 31) = W at *
    have HRV := Lib.hid (show KeepAt W w3.heap.size 0 (.slice va L.length vc) from HKV.out)
    clear HKV
    have HBB := HB
    clear HB
    have HB1 := Lib.hid ((Below.refl W.heap.size W).drew)
    refine wp_region_held (S := fun W' => Below W.heap.size W W') (by kernel_rfl) ?_
    change wpAnyH _ _ _ _ _ _ _ _ W.drew
    have HB := Lib.hid ((Below.refl W.heap.size W).drew)
    refine wpAnyH_take (i := 0) (v := ?_) rfl (by kernel_rfl) (by kernel_rfl) (by kernel_rfl) (fun _ _ _ h => h) (Or.inl ⟨by rfl, ?_⟩) HB.out ?_
    rotate_left
    · intro w' hw'
      obtain ⟨⟨p0, -, pl⟩, ⟨p1, -, -⟩, ⟨p2, -, -⟩, ⟨p3, -, -⟩, ⟨p4, -, -⟩, ⟨p5, -, -⟩, ⟨p6, -, -⟩⟩ := HP.out.below hw'; obtain ⟨r0, -, rl⟩ := HRV.out.below hw'
      go_simp
      with_reducible rfl
    refine wpAnyH_take (i := 2) (v := ?_) rfl (by kernel_rfl) (by kernel_rfl) (by kernel_rfl) (fun _ _ _ h => h) (Or.inl ⟨by rfl, ?_⟩) HB.out ?_
    rotate_left
    · intro w' hw'
      obtain ⟨⟨p0, -, pl⟩, ⟨p1, -, -⟩, ⟨p2, -, -⟩, ⟨p3, -, -⟩, ⟨p4, -, -⟩, ⟨p5, -, -⟩, ⟨p6, -, -⟩⟩ := HP.out.below hw'; obtain ⟨r0, -, rl⟩ := HRV.out.below hw'
      go_simp
      with_reducible rfl
    refine wpAnyH_ready (rs := [1]) (by kernel_rfl) (by simp) ?_
    refine AllReadyH.cons rfl (fun K hK => ?_) AllReadyH.nil
    go_simp
    go_at_call 11
    refine (plainP_any x.1 y.1 x.2.1 y.2.1 x.2.2 y.2.2 da dc D _ (by have h := HXY.out; have h2 : L.length = D.length + 2 := (by rw [h]; simp); omega) HE.out.drew).mono ?_
    rintro e w4 ⟨pv, rfl, hpv, hb⟩
    have HB4 := Lib.hid (show Below W.heap.size W w4 from HB1.out.trans (hb.mono (Nat.le_refl _)))
    have HPV := Lib.hid (show Ents w4 pv L from by rw [HXY.out]; exact hpv.ents)
    clear hb hpv
    change K _ _
    refine hK.out _ _ HB4.out (fun _ => ?_)
    clear hK K
    refine wpAnyH_ready (rs := [3]) (by kernel_rfl) (by simp) ?_
    refine AllReadyH.cons rfl (fun K hK => ?_) AllReadyH.nil
    go_simp
    go_at_call 18
    refine (sameP_yes pv (.slice va L.length vc) L w4 (by omega) HPV.out ⟨va, vc, rfl, HV.out.below HB4.out⟩).mono ?_
    rintro e w5 ⟨rfl, hb⟩
    have HB := Lib.hid (show Below W.heap.size W w5 from HB4.out.trans (hb.mono HB4.out.size))
    clear hb
    change K _ _
    refine hK.out _ _ HB.out (fun _ => ?_)
    clear hK K
    refine wpAnyH_take (i := 4) (v := ?_) rfl (by kernel_rfl) (by kernel_rfl) (by kernel_rfl) (fun _ _ _ h => h) (Or.inl ⟨by rfl, ?_⟩) HB.out ?_
    rotate_left
    · intro w' hw'
      go_simp
      with_reducible rfl
    go_simp
    refine wpAnyH_take (i := 5) (v := ?_) rfl (by kernel_rfl) (by kernel_rfl) (by kernel_rfl) (fun _ _ _ h => h) (Or.inl ⟨by rfl, ?_⟩) HB.out ?_
    rotate_left
    · intro w' hw'
      go_simp
      with_reducible rfl
    go_simp
    refine wpAnyH_take (i := 6) (v := ?_) rfl (by kernel_rfl) (by kernel_rfl) (by kernel_rfl) (fun _ _ _ h => h) (Or.inl ⟨by rfl, ?_⟩) HB.out ?_
    rotate_left
    · intro w' hw'
      go_simp
      with_reducible rfl
    go_simp
    refine wpAnyH_take (i := 7) (v := ?_) rfl (by kernel_rfl) (by kernel_rfl) (by kernel_rfl) (fun _ _ _ h => h) (Or.inl ⟨by rfl, ?_⟩) HB.out ?_
    rotate_left
    · intro w' hw'
      go_simp
      with_reducible rfl
    go_simp
    refine wpAnyH_take (i := 8) (v := ?_) rfl (by kernel_rfl) (by kernel_rfl) (by kernel_rfl) (fun _ _ _ h => h) (Or.inl ⟨by rfl, ?_⟩) HB.out ?_
    rotate_left
    · intro w' hw'
      go_simp
      with_reducible rfl
    go_simp
    refine wpAnyH_take (i := 9) (v := ?_) rfl (by kernel_rfl) (by kernel_rfl) (by kernel_rfl) (fun _ _ _ h => h) (Or.inl ⟨by rfl, ?_⟩) HB.out ?_
    rotate_left
    · intro w' hw'
      go_simp
      with_reducible rfl
    go_simp
    refine wpAnyH_take (i := 10) (v := ?_) rfl (by kernel_rfl) (by kernel_rfl) (by kernel_rfl) (fun _ _ _ h => h) (Or.inl ⟨by rfl, ?_⟩) HB.out ?_
    rotate_left
    · intro w' hw'
      go_simp
      with_reducible rfl
    go_simp
    refine wpAnyH_take (i := 11) (v := ?_) rfl (by kernel_rfl) (by kernel_rfl) (by kernel_rfl) (fun _ _ _ h => h) (Or.inl ⟨by rfl, ?_⟩) HB.out ?_
    rotate_left
    · intro w' hw'
      go_simp
      with_reducible rfl
    go_simp
    refine wpAnyH_take (i := 12) (v := ?_) rfl (by kernel_rfl) (by kernel_rfl) (by kernel_rfl) (fun _ _ _ h => h) (Or.inl ⟨by rfl, ?_⟩) HB.out ?_
    rotate_left
    · intro w' hw'
      go_simp
      with_reducible rfl
    go_simp
    refine wpAnyH_take (i := 13) (v := ?_) rfl (by kernel_rfl) (by kernel_rfl) (by kernel_rfl) (fun _ _ _ h => h) (Or.inl ⟨by rfl, ?_⟩) HB.out ?_
    rotate_left
    · intro w' hw'
      go_simp
      with_reducible rfl
    go_simp
    refine wpAnyH_done (by kernel_rfl) ?_ _
    go_wp2
    go_ret
    exact ⟨rfl, HBB.out.trans (HB.out.mono HBB.out.size)⟩
  · have HCG := Lib.hid (show ∀ W, Calls Tryd.prog 16 #[.string s] W fun e w' => e = .returned (.tuple #[.agg #[.string ⟨#[]⟩, .int .i64 0, .string ⟨#[]⟩, .int .i64 0, .bool false, .bool false, .slice none 0 0], .int .i64 0, .int .i64 (c : Int)]) ∧ Below W.heap.size W w' from fun W => (hCG W).mono fun e w' hq => ⟨hq.1 h0, hq.2.2⟩)
    have HRG := Lib.hid (show ∀ W, Calls Tryd.prog 20 #[.string s] W fun e w' => e = .returned (.tuple #[.agg #[.slice none 0 0], .int .i64 0, .int .i64 (c : Int)]) ∧ Below W.heap.size W w' from fun W => (hRG W).mono fun e w' hq => ⟨by
      obtain ⟨v, h1, _, h3⟩ := hq.1
      rw [h1, h3 h0, if_neg h0], hq.2⟩)
    have c0 : ((c : Int) != 0) = true := by rw [bne_iff_ne]; omega
    have c1 : ((c : Int) == (c : Int)) = true := beq_self_eq_true _
    have heq := fun W => run_eq_callP ⟨#[]⟩ ⟨#[]⟩ 0 0 W true (by decide)
    clear hCG hRG hle hno h0
    go_enter Tryd.func4, Tryd.ntmps4
    go_wp2_with (first
      | (go_at_call 9; (with_reducible refine (pawake_any _).mono ?_); rintro e w1 ⟨rfl, hb⟩; have HB := Lib.hid hb; clear hb)
      | (go_at_call 16; (with_reducible refine (HCG.out _).mono ?_); rintro e w2 ⟨rfl, hb⟩; replace HB := Lib.hid (HB.out.trans (hb.mono HB.out.size)); have HP := Lib.hid (P7.new w2 w2.heap.size rfl (.string ⟨#[]⟩) (.int .i64 0) (.string ⟨#[]⟩) (.int .i64 0) (.bool false) (.bool false) (.slice none 0 0) 26); clear hb)
      | (go_at_call 20; (with_reducible refine (HRG.out _).mono ?_); rintro e w3 ⟨rfl, hb⟩; have hb' := ((Below.refl w2.heap.size w2).alloc (Nat.le_refl _) (.cells #[.string ⟨#[]⟩, .int .i64 0, .string ⟨#[]⟩, .int .i64 0, .bool false, .bool false, .slice none 0 0] 26)); have hb2 := hb'.trans (hb.mono hb'.size); have hb3 := hb2.alloc hb2.size (.cells #[.slice none 0 0] 31); replace HB := Lib.hid (HB.out.trans (hb3.mono HB.out.size)); replace HP := Lib.hid ((HP.out.below hb).alloc (.cells #[.slice none 0 0] 31)); clear hb hb' hb2 hb3; obtain ⟨⟨p0, -, pl⟩, ⟨p1, -, -⟩, ⟨p2, -, -⟩, ⟨p3, -, -⟩, ⟨p4, -, -⟩, ⟨p5, -, -⟩, ⟨p6, -, -⟩⟩ := HP.out))
    go_ret
    exact ⟨rfl, HB.out⟩
theorem preads_any (s : ByteArray) (w : World) : Calls Tryd.prog 4 #[.string s] w fun e w' => e = .returned (.bool true) ∧ Below w.heap.size w w' := by
  by_cases h : s.size ≤ 1000
  · exact preads_some s w h
  · exact preads_long s w (by omega)
end Go.Proofs.YteiappicdnekoaaDoor
