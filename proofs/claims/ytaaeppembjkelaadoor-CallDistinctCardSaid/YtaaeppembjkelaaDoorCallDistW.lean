/-
Of the statement CallDistinct: the walk over what Distinct is to answer.
-/
import Derived.Test.YtaaeppembjkelaaDoorCallOrderW
namespace Go.Proofs.YtaaeppembjkelaaDoor
open Go.RowKit Go.Sort
/-- calls that lie in a row -/
def SAt (W : World) (lb off : Nat) (C : List (ByteArray × Int)) : Prop := ∀ k (h : k < C.length), W.cell? ⟨lb, off + k * 2, none⟩ = some (.string C[k].1) ∧ W.cell? ⟨lb, off + k * 2 + 1, none⟩ = some (.int .i64 C[k].2)
theorem SAt.below {W W' : World} {lb off B : Nat} {C : List (ByteArray × Int)} (h : SAt W lb off C) (hl : lb < B) (hb : Below B W W') : SAt W' lb off C := fun k hk =>
  ⟨(hb.cell (p := ⟨lb, off + k * 2, none⟩) hl).trans (h k hk).1, (hb.cell (p := ⟨lb, off + k * 2 + 1, none⟩) hl).trans (h k hk).2⟩
/-- no one of the first j is c -/
def apartD (C : List (ByteArray × Int)) (c : ByteArray × Int) (j : Nat) : Bool := (C.take j).all fun d => decide (c ≠ d)
/-- the first k are right, and no two alike -/
def wantD (C : List (ByteArray × Int)) : Nat → Bool
  | 0 => true
  | k + 1 => wantD C k && (match C[k]? with | none => true | some c => rightD c.1 c.2 && apartD C c k)
def CDistinctOk : Prop := ∀ (C : List (ByteArray × Int)) (a : Option Addr) (lb off cap : Nat) w, C.length ≤ 60 → (∀ c ∈ C, c.1.size ≤ 100) → (0 < C.length → a = some ⟨lb, off, none⟩ ∧ lb < w.heap.size) → SAt w lb off C →
  Calls Tryd.prog 20 #[.slice a C.length cap] w fun e w' => e = .returned (.bool (wantD C C.length)) ∧ Below w.heap.size w w'
theorem apartD_next (C : List (ByteArray × Int)) (c : ByteArray × Int) (j : Nat) (h : j < C.length) : apartD C c (j + 1) = (apartD C c j && decide (c ≠ C[j])) := by
  unfold apartD
  rw [List.take_succ_eq_append_getElem h, List.all_append]
  simp
theorem wantD_next (C : List (ByteArray × Int)) (k : Nat) (h : k < C.length) : wantD C (k + 1) = (wantD C k && (rightD C[k].1 C[k].2 && apartD C C[k] k)) := by
  show (wantD C k && _) = _
  rw [List.getElem?_eq_getElem h]
/-- one call's cells -/
def AAt (W : World) (na : Nat) (b : ByteArray) (n : Int) : Prop := W.cell? ⟨na, 0, none⟩ = some (.string b) ∧ W.cell? ⟨na, 1, none⟩ = some (.int .i64 n)
theorem AAt.step {W W' : World} {na : Nat} {b : ByteArray} {n : Int} (h : AAt W na b n) (hb : Below W.heap.size W W') : AAt W' na b n := by
  have hm : na < W.heap.size := World.block_lt_of_cell? W ⟨na, 0, none⟩ h.1
  exact ⟨(hb.cell (p := ⟨na, 0, none⟩) hm).trans h.1, (hb.cell (p := ⟨na, 1, none⟩) hm).trans h.2⟩
theorem AAt.new (W : World) (b : ByteArray) (n : Int) (T : TypeId) : AAt (W.alloc (.cells #[.string b, .int .i64 n] T)) W.heap.size b n := ⟨World.cell?_alloc_at _ _ _ _ rfl, World.cell?_alloc_at _ _ _ _ rfl⟩
/-- what lies in memory within the inner loop -/
def DAt (w W : World) (lb off : Nat) (C : List (ByteArray × Int)) : Prop := SAt W lb off C ∧ Below w.heap.size w W
theorem DAt.step {w W W' : World} {lb off : Nat} {C : List (ByteArray × Int)} (h : DAt w W lb off C) (hl : lb < w.heap.size) (hb : Below W.heap.size W W') : DAt w W' lb off C :=
  ⟨h.1.below (Nat.lt_of_lt_of_le hl h.2.size) hb, h.2.trans (hb.mono h.2.size)⟩
set_option maxHeartbeats 2000000 in
set_option maxRecDepth 100000 in
theorem cdist_some (hP : CParseOk) (hU : CPutOk) (hD : CDistinctOk) (C : List (ByteArray × Int)) (lb off cap : Nat) (w : World) (hV : VarsOk w) (hl : C.length ≤ 60) (h0 : 0 < C.length) (hcap : C.length ≤ cap) (hlb : lb < w.heap.size) (hS : SAt w lb off C) :
    Calls Tryd.prog 6 #[.slice (some ⟨lb, off, none⟩) C.length cap] w fun e w' => e = .returned (.bool true) ∧ Below w.heap.size w w' := by
  have HAW := Lib.hid (fun W (hb : Below w.heap.size w W) => cawake_any hP hU W (hV.below hb))
  have HS := Lib.hid (show DAt w w lb off C from ⟨hS, Below.refl _ w⟩)
  have HLB := Lib.hid hlb
  have HDI := Lib.hid (fun (hm : ∀ c ∈ C, c.1.size ≤ 100) W (hw : lb < W.heap.size) (hs : SAt W lb off C) => hD C (some ⟨lb, off, none⟩) lb off cap W hl hm (fun _ => ⟨rfl, hw⟩) hs)
  clear hS hlb hP hU hV hD
  go_enter Tryd.func6, Tryd.ntmps6
  go_wp2_with (go_at_call 7; go_loud ((first | refine (HAW.out _ (Below.refl _ _)).mono ?_ | refine (HAW.out _ ((Below.refl _ _).alloc (Below.refl _ _).size _)).mono ?_); rintro e w1 ⟨rfl, hb⟩; replace HS := Lib.hid (HS.out.step HLB.out hb); clear hb))
  clear HAW
  go_loopw [3, 15] (fun wv iv wx => ∃ k : Nat, k ≤ C.length ∧ iv = .int .i64 k ∧ wv = .bool (wantD C k) ∧ Hid ((∀ c ∈ C.take k, c.1.size ≤ 100) ∧ DAt w wx lb off C)) (fun _ iv _ => C.length - (intOf iv).toNat)
  case atStart => exact ⟨0, by omega, rfl, rfl, by simp, HS.out⟩
  case round =>
    obtain ⟨k, hk, rfl, rfl, HR⟩ := hrel
    clear HS
    by_cases hlt : k < C.length
    · have HM := Lib.hid HR.out.1
      have HS := Lib.hid HR.out.2
      obtain ⟨l0, l1⟩ := HS.out.1 k hlt
      have HWN := Lib.hid (wantD_next C k hlt)
      have HTK := Lib.hid (List.take_succ_eq_append_getElem hlt)
      obtain ⟨c, hc⟩ : ∃ c, c = C[k] := ⟨_, rfl⟩
      rw [← hc] at l0 l1 HWN HTK
      obtain ⟨cb, cn⟩ := c
      simp only at l0 l1
      clear hc HR
      by_cases hbig : 100 < cb.size
      · have d1 : decide ((100 : Int) < (cb.size : Int)) = true := decide_eq_true (by omega)
        go_wp2
        go_ret
        exact ⟨rfl, HS.out.2.alloc HS.out.2.size _⟩
      · have d1 : decide ((100 : Int) < (cb.size : Int)) = false := decide_eq_false (by omega)
        have HMM := Lib.hid (show ∀ c ∈ C.take (k + 1), c.1.size ≤ 100 from by
          rw [HTK.out]
          intro c hc
          rcases List.mem_append.1 hc with h | h
          · exact HM.out c h
          · rw [List.mem_singleton.1 h]; show cb.size ≤ 100; omega)
        have hsl : ∀ W, (Instr.slice 45 (.slice (some ⟨lb, off, none⟩) C.length cap) none (some (.int .i64 (k : Int))) none).run Tryd.prog W = .ok (.slice (some ⟨lb, off, none⟩) k cap) W := fun W => by
          have ht' : Tryd.prog.underlying 45 = some (.slice (Tryd.prog.elem 45)) := by simp [Program.elem, Tryd.underlying45]
          rw [run_slice_h W 45 _ _ _ ht' .i64 (k : Int) (by omega) (by omega)]
          have hz : ∀ w, (Go.sizeOf (Tryd.prog.elem 45)).run Tryd.prog w = .ok 2 w := fun w => by
            rw [show Tryd.prog.elem 45 = 23 by simp [Program.elem, Tryd.underlying45]]
            kernel_rfl
          rw [hz]
          simp [Result.andThen, sliced, Addr.add]
        clear HM HTK
        cases hwk : wantD C k
        · rw [hwk] at HWN
          obtain ⟨B0, hB0⟩ : ∃ B0, B0 = false := ⟨_, rfl⟩
          have HB0 := Lib.hid (show (false && (rightD cb cn && apartD C (cb, cn) k)) = (B0 && apartD C (cb, cn) k) from by rw [hB0]; rfl)
          have HBB := Lib.hid hB0
          clear hB0
          have HAA := Lib.hid (AAt.new wr cb cn 23)
          replace HS := Lib.hid (HS.out.step HLB.out ((Below.refl _ wr).alloc (Nat.le_refl _) (.cells #[.string cb, .int .i64 cn] 23)))
          go_wp2
          generalize wr.alloc (.cells #[.string cb, .int .i64 cn] 23) = w7 at *
          generalize wr.heap.size = na at *
          go_loopw [3, 33] (fun wv jv wx => ∃ j : Nat, j ≤ k ∧ jv = .int .i64 j ∧ wv = .bool (B0 && apartD C (cb, cn) j) ∧ Hid (DAt w wx lb off C ∧ AAt wx na cb cn)) (fun _ jv _ => k - (intOf jv).toNat)
          case atStart => exact ⟨0, by omega, rfl, by simp [apartD, HBB.out], HS.out, HAA.out⟩
          case round =>
            obtain ⟨j, hj, rfl, rfl, HJ⟩ := hrel
            clear HS HAA
            have HS := Lib.hid HJ.out.1
            have HAA := Lib.hid HJ.out.2
            clear HJ
            by_cases hjk : j < k
            · obtain ⟨d0, d1'⟩ := HS.out.1 j (by omega)
              have HAN := Lib.hid (apartD_next C (cb, cn) j (by omega))
              have HEQ := Lib.hid (fun W => run_eq_call cb C[j].1 cn C[j].2 W _ rfl)
              have HED := Lib.hid (show decide ((cb, cn) ≠ C[j]) = !decide (cb = C[j].1 ∧ cn = C[j].2) from by
                rw [← decide_not, decide_eq_decide]
                constructor
                · intro h e; exact h (Prod.ext e.1 e.2)
                · intro h e; exact h ⟨congrArg Prod.fst e, congrArg Prod.snd e⟩)
              generalize decide (cb = C[j].1 ∧ cn = C[j].2) = E at *
              rw [HED.out] at HAN
              obtain ⟨db, dn, hdb, hdn⟩ : ∃ db dn, db = C[j].1 ∧ dn = C[j].2 := ⟨_, _, rfl, rfl⟩
              rw [← hdb, ← hdn] at HEQ
              rw [← hdb] at d0
              rw [← hdn] at d1'
              clear hdb hdn HED
              have heq := HEQ.out
              obtain ⟨x0, x1⟩ := HAA.out
              have hxs := World.block_lt_of_cell? wr ⟨na, 0, none⟩ x0
              have HS2 := Lib.hid (HS.out.step HLB.out ((Below.refl _ wr).alloc (Nat.le_refl _) (.cells #[.string db, .int .i64 dn] 23)))
              have HAA2 := Lib.hid (HAA.out.step ((Below.refl _ wr).alloc (Nat.le_refl _) (.cells #[.string db, .int .i64 dn] 23)))
              generalize apartD C (cb, cn) j = ap at *
              cases hba : (B0 && ap)
              all_goals
                have HFN := Lib.hid (show (B0 && apartD C (cb, cn) (j + 1)) = ((B0 && ap) && !E) from by rw [HAN.out, Bool.and_assoc])
                rw [hba] at HFN
                go_wp2
                go_roundw
                case rel => exact ⟨j + 1, by omega, by go_num, by rw [HFN.out]; simp, HS2.out, HAA2.out⟩
                case measure => simp [intOf]; omega
            · obtain rfl : j = k := by omega
              go_wp2
              go_roundw
              case rel => exact ⟨j + 1, by omega, by go_num, by rw [HWN.out, HB0.out], HMM.out, HS.out⟩
              case measure => simp [intOf]; omega
        · rw [hwk] at HWN
          obtain ⟨B0, hB0⟩ : ∃ B0, B0 = rightD cb cn := ⟨_, rfl⟩
          have HB0 := Lib.hid (show (true && (rightD cb cn && apartD C (cb, cn) k)) = (B0 && apartD C (cb, cn) k) from by rw [hB0]; rfl)
          have HRT := Lib.hid (fun W => rcright_any cb cn W)
          rw [← hB0] at HRT
          clear hB0
          have HAA := Lib.hid (AAt.new wr cb cn 23)
          replace HS := Lib.hid (HS.out.step HLB.out ((Below.refl _ wr).alloc (Nat.le_refl _) (.cells #[.string cb, .int .i64 cn] 23)))
          go_wp2_with (go_at_call 8; go_loud (refine (HRT.out _).mono ?_; rintro e w7 ⟨rfl, hb⟩; replace HS := Lib.hid (HS.out.step HLB.out hb); replace HAA := Lib.hid (HAA.out.step hb); clear hb))
          clear HRT
          generalize wr.heap.size = na at *
          go_loopw [3, 33] (fun wv jv wx => ∃ j : Nat, j ≤ k ∧ jv = .int .i64 j ∧ wv = .bool (B0 && apartD C (cb, cn) j) ∧ Hid (DAt w wx lb off C ∧ AAt wx na cb cn)) (fun _ jv _ => k - (intOf jv).toNat)
          case atStart => exact ⟨0, by omega, rfl, by simp [apartD], HS.out, HAA.out⟩
          case round =>
            obtain ⟨j, hj, rfl, rfl, HJ⟩ := hrel
            clear HS HAA
            have HS := Lib.hid HJ.out.1
            have HAA := Lib.hid HJ.out.2
            clear HJ
            by_cases hjk : j < k
            · obtain ⟨d0, d1'⟩ := HS.out.1 j (by omega)
              have HAN := Lib.hid (apartD_next C (cb, cn) j (by omega))
              have HEQ := Lib.hid (fun W => run_eq_call cb C[j].1 cn C[j].2 W _ rfl)
              have HED := Lib.hid (show decide ((cb, cn) ≠ C[j]) = !decide (cb = C[j].1 ∧ cn = C[j].2) from by
                rw [← decide_not, decide_eq_decide]
                constructor
                · intro h e; exact h (Prod.ext e.1 e.2)
                · intro h e; exact h ⟨congrArg Prod.fst e, congrArg Prod.snd e⟩)
              generalize decide (cb = C[j].1 ∧ cn = C[j].2) = E at *
              rw [HED.out] at HAN
              obtain ⟨db, dn, hdb, hdn⟩ : ∃ db dn, db = C[j].1 ∧ dn = C[j].2 := ⟨_, _, rfl, rfl⟩
              rw [← hdb, ← hdn] at HEQ
              rw [← hdb] at d0
              rw [← hdn] at d1'
              clear hdb hdn HED
              have heq := HEQ.out
              obtain ⟨x0, x1⟩ := HAA.out
              have hxs := World.block_lt_of_cell? wr ⟨na, 0, none⟩ x0
              have HS2 := Lib.hid (HS.out.step HLB.out ((Below.refl _ wr).alloc (Nat.le_refl _) (.cells #[.string db, .int .i64 dn] 23)))
              have HAA2 := Lib.hid (HAA.out.step ((Below.refl _ wr).alloc (Nat.le_refl _) (.cells #[.string db, .int .i64 dn] 23)))
              generalize apartD C (cb, cn) j = ap at *
              cases hba : (B0 && ap)
              all_goals
                have HFN := Lib.hid (show (B0 && apartD C (cb, cn) (j + 1)) = ((B0 && ap) && !E) from by rw [HAN.out, Bool.and_assoc])
                rw [hba] at HFN
                go_wp2
                go_roundw
                case rel => exact ⟨j + 1, by omega, by go_num, by rw [HFN.out]; simp, HS2.out, HAA2.out⟩
                case measure => simp [intOf]; omega
            · obtain rfl : j = k := by omega
              go_wp2
              go_roundw
              case rel => exact ⟨j + 1, by omega, by go_num, by rw [HWN.out, HB0.out], HMM.out, HS.out⟩
              case measure => simp [intOf]; omega
    · obtain rfl : k = C.length := by omega
      have HM := Lib.hid (show ∀ c ∈ C, c.1.size ≤ 100 from by have h := HR.out.1; rw [List.take_of_length_le (Nat.le_refl _)] at h; exact h)
      have HS := Lib.hid HR.out.2
      have HDC := Lib.hid (HDI.out HM.out wr (Nat.lt_of_lt_of_le HLB.out HS.out.2.size) HS.out.1)
      clear HR
      go_wp2_with (go_at_call 20; go_loud (refine (HDC.out).mono ?_; rintro e w2 ⟨rfl, hb⟩; have HB := Lib.hid (HS.out.2.trans (hb.mono HS.out.2.size)); clear hb))
      go_ret
      exact ⟨by simp, HB.out⟩
set_option maxHeartbeats 1000000 in
theorem cdist_nil (hP : CParseOk) (hU : CPutOk) (hD : CDistinctOk) (a : Option Addr) (cap : Nat) (w : World) (hV : VarsOk w) :
    Calls Tryd.prog 6 #[.slice a 0 cap] w fun e w' => e = .returned (.bool true) ∧ Below w.heap.size w w' := by
  have HAW := Lib.hid (fun W (hb : Below w.heap.size w W) => cawake_any hP hU W (hV.below hb))
  have HDI := Lib.hid (fun W => (show Calls Tryd.prog 20 #[.slice a 0 cap] W (fun e w' => e = .returned (.bool true) ∧ Below W.heap.size W w') from hD [] a 0 0 cap W (by simp) (fun c h => by cases h) (fun h => absurd h (by simp)) (fun k h => absurd h (by simp))))
  clear hP hU hV hD
  go_enter Tryd.func6, Tryd.ntmps6
  go_wp2_with (go_at_call 7; go_loud ((first | refine (HAW.out _ (Below.refl _ _)).mono ?_ | refine (HAW.out _ ((Below.refl _ _).alloc (Below.refl _ _).size _)).mono ?_); rintro e w1 ⟨rfl, hb⟩; have HB := Lib.hid hb; clear hb))
  refine wp_loop_rounds 1 ?_
  rw [rounds_succ]
  go_wp2_with (go_at_call 20; go_loud (refine (HDI.out _).mono ?_; rintro e w2 ⟨rfl, hb⟩; replace HB := Lib.hid (HB.out.trans (hb.mono HB.out.size)); clear hb))
  go_ret
  exact ⟨rfl, HB.out⟩
theorem cdist_long (hP : CParseOk) (hU : CPutOk) (a : Option Addr) (len cap : Nat) (w : World) (hV : VarsOk w) (h : 60 < len) :
    Calls Tryd.prog 6 #[.slice a len cap] w fun e w' => e = .returned (.bool true) ∧ Below w.heap.size w w' := by
  have HAW := Lib.hid (fun W (hb : Below w.heap.size w W) => cawake_any hP hU W (hV.below hb))
  clear hP hU hV
  go_enter Tryd.func6, Tryd.ntmps6
  go_wp2_with (go_at_call 7; go_loud ((first | refine (HAW.out _ (Below.refl _ _)).mono ?_ | refine (HAW.out _ ((Below.refl _ _).alloc (Below.refl _ _).size _)).mono ?_); rintro e w1 ⟨rfl, hb⟩; have HB := Lib.hid hb; clear hb))
  go_ret
  exact ⟨rfl, HB.out⟩
end Go.Proofs.YtaaeppembjkelaaDoor
