/-
The landed code's Put (written by tools/gen9/gen_cput.py).
-/
import Derived.Test.YtdaagllacmnekaaRepCNums
import Derived.Test.YtdaagllacmnekaaRepLaw
namespace Go.Proofs.Ytdaagllacmnekaa
open Go.RowKit
set_option maxRecDepth 20000
/-- what fills a control up -/
def fillR (n : Int) (wide : Bool) : ByteArray := if wide && (n == 1) then ⟨#[0]⟩ else ⟨#[]⟩
theorem cfill_any (n : Nat) (wide : Bool) (w : World) (h : sizeR n wide = true) : Calls Try.prog 14 #[.string ⟨#[0]⟩, .int .i64 (roomR wide - (n : Int))] w fun e w' => e = .returned (.string (fillR n wide)) ∧ w' = w := by
  cases wide
  · obtain rfl := sizeR_no h
    exact crepeat_none _ _
  · rcases sizeR_yes h with rfl | rfl
    · exact crepeat_one _ _
    · exact crepeat_none _ _
theorem ctl_fill (r : Rp) (wide : Bool) : r.c ++ fillR r.c.size wide = ctlR r wide := by
  unfold fillR ctlR
  split
  · rfl
  · exact bytes_ext' (by simp)
theorem fillR_small (n : Int) (wide : Bool) : (fillR n wide).size ≤ 1 := by
  unfold fillR
  split
  · exact Nat.le_refl _
  · exact Nat.zero_le _
/-- the bytes of the numbers -/
def numsL (r : Rp) (wide : Bool) : List UInt8 := if wide then [byteI (2 * r.vs), byteI (2 * r.vr + bitR r.re 1)] else [byteI (32 * r.vr + bitR r.re 16 + 2 * r.vs)]
theorem numsL_small (r : Rp) (wide : Bool) : (numsL r wide).length ≤ 2 := by
  cases wide <;> simp [numsL]
theorem put_parts (r : Rp) (wide : Bool) : (ctlR r wide ++ ⟨(numsL r wide).toArray⟩) ++ ⟨[byteI (sumK r.m0 r.m1 r.m2 r.m3 4)].toArray⟩ = putR r wide := by
  apply bytes_ext'
  cases wide <;> simp [putR, tailR, numsL, sumR, sumK]
theorem cnumbers_any (r : Rp) (wide : Bool) (w : World) (hr : rightR r wide = true) : Calls Try.prog 16 #[repV r, .bool wide] w fun e w' => e = .returned (.string ⟨(numsL r wide).toArray⟩) ∧ Below w.heap.size w w' := by
  simp only [rightR, Bool.and_eq_true] at hr
  obtain ⟨h2, h3, -⟩ := hr
  obtain ⟨a0, a1, a2⟩ := numR_facts h2
  obtain ⟨b0, b1, b2⟩ := numR_facts h3
  obtain ⟨c, vs, vr, re, m0, m1, m2, m3⟩ := r
  cases wide
  · exact cnumbers_n c vs vr re m0 m1 m2 m3 b0 (b2 rfl) a0 (a2 rfl) w
  · exact cnumbers_w c vs vr re m0 m1 m2 m3 b0 b1 a0 a1 w
set_option maxHeartbeats 2000000 in
theorem cput9_yes (r : Rp) (wide : Bool) (w : World) (hr : rightR r wide = true) : Calls Try.prog 8 #[repV r, .bool wide] w fun e w' => e = .returned (.tuple #[.string (putR r wide), .int .i64 0]) ∧ Below w.heap.size w w' := by
  have h1 := fun W => cright9_any r wide W
  rw [hr] at h1
  have hPN := fun W => cnumbers_any r wide W hr
  have hN2 := numsL_small r wide
  have hcf := ctl_fill r wide
  have hpp := put_parts r wide
  have h4 : sizeR r.c.size wide = true := by
    simp only [rightR, Bool.and_eq_true] at hr
    exact hr.2.2
  have hcs : r.c.size ≤ 2 := by
    simp [sizeR] at h4
    omega
  have hFI := fun W => cfill_any r.c.size wide W h4
  have hcz := fillR_small r.c.size wide
  have hPM := fun W => cpmarks_any r.c r.vs r.vr r.re r.m0 r.m1 r.m2 r.m3 W
  have z1 : IntKind.i64.wrap (roomR wide - (r.c.size : Int)) = roomR wide - (r.c.size : Int) := IntWalk.i64_in _ (by cases wide <;> simp [roomR] <;> omega)
  clear hr h4
  obtain ⟨c, vs, vr, re, m0, m1, m2, m3⟩ := r
  simp only [repV] at h1 hPN
  simp only at hcf hpp hcs hFI hcz hPM z1
  have HRI := Lib.hid h1
  have HPN := Lib.hid hPN
  have HPM := Lib.hid hPM
  have HFI := Lib.hid hFI
  have HR := Lib.hid (RowAt.new w w.heap.size rfl (rowR ⟨c, vs, vr, re, m0, m1, m2, m3⟩) 23)
  have HB := Lib.hid ((Below.refl _ w).alloc (Nat.le_refl _) (.cells (rowR ⟨c, vs, vr, re, m0, m1, m2, m3⟩).toArray 23))
  simp only [rowR] at HR HB
  clear h1 hPN hPM hFI
  generalize putR ⟨c, vs, vr, re, m0, m1, m2, m3⟩ wide = P at *
  generalize numsL ⟨c, vs, vr, re, m0, m1, m2, m3⟩ wide = L at *
  generalize ctlR ⟨c, vs, vr, re, m0, m1, m2, m3⟩ wide = D at *
  generalize fillR c.size wide = F at *
  have hLz : (⟨L.toArray⟩ : ByteArray).size ≤ 2 := by
    show L.toArray.size ≤ 2
    simpa using hN2
  have hMz : (⟨[byteI (sumK m0 m1 m2 m3 4)].toArray⟩ : ByteArray).size = 1 := rfl
  generalize (⟨L.toArray⟩ : ByteArray) = NB at *
  generalize (⟨[byteI (sumK m0 m1 m2 m3 4)].toArray⟩ : ByteArray) = MB at *
  have hDz : D.size ≤ 3 := by
    rw [← hcf, ByteArray.size_append]
    omega
  obtain ⟨E, hE⟩ : ∃ E, D ++ NB = E := ⟨_, rfl⟩
  rw [hE] at hpp
  have hEz : E.size ≤ 5 := by
    rw [← hE, ByteArray.size_append]
    omega
  have ha0 := fun (W : World) => run_string_add_sum (P := Try.prog) (w := W) c F (by omega)
  have ha1 := fun (W : World) => run_string_add_sum (P := Try.prog) (w := W) D NB (by omega)
  have ha2 := fun (W : World) => run_string_add_sum (P := Try.prog) (w := W) E MB (by omega)
  rw [hcf] at ha0
  rw [hE] at ha1
  rw [hpp] at ha2
  clear hcf hE hpp hN2 hLz hMz hDz hEz hcz
  unfold repV
  simp only
  go_enter Try.func8, Try.ntmps8
  go_upto_region 1 with (fail)
  generalize hw1 : w.alloc (.cells (#[.string c, .int .i64 vs, .int .i64 vr, .bool re, .bool m0, .bool m1, .bool m2, .bool m3]) 23) = w1 at *
  clear hw1
  have l0 := HR.out.cell 0 rfl
  have l1 := HR.out.cell 1 rfl
  have l2 := HR.out.cell 2 rfl
  have l3 := HR.out.cell 3 rfl
  have l4 := HR.out.cell 4 rfl
  have l5 := HR.out.cell 5 rfl
  have l6 := HR.out.cell 6 rfl
  have l7 := HR.out.cell 7 rfl
  go_wp2_with fail
  go_at_call 9
  refine (HRI.out _).mono ?_
  rintro e w2 ⟨rfl, hb⟩
  replace HR := Lib.hid (HR.out.below hb)
  replace HB := Lib.hid (HB.out.trans (hb.mono HB.out.size))
  clear hb l0 l1 l2 l3 l4 l5 l6 l7
  go_upto_region 3 with (fail)
  refine wp_region_facts (fun W W' => Below W.heap.size W W') (fun W => RowAt W w.heap.size [.string c, .int .i64 vs, .int .i64 vr, .bool re, .bool m0, .bool m1, .bool m2, .bool m3] ∧ Below w.heap.size w W) (factsOf [.is (.bool wide), .is (.int .i64 (roomR wide)), .is (.pointer (some ⟨w.heap.size, 0, none⟩)), .is (.string c), .is (.int .i64 (c.size : Int)), .is (.int .i64 (roomR wide - (c.size : Int))), .is (.string F), .is (.string F)]) (by kernel_rfl) (by kernel_rfl) (facts_stay _) (fun W W' hb h => ⟨h.1.below hb, h.2.trans (hb.mono h.2.size)⟩) (fun _ => undef) (by kernel_rfl) ⟨HR.out.drew, HB.out.drew⟩ ?Fa ?hFa ?hstepa ?henda
  case hFa =>
    intro u
    simp only [fillAct]
    go_simp
    rfl
  case hstepa =>
    refine FSteps.cons ?_ ?_
    · intro u W hS hd K hK
      clear hd
      simp only [upd, reduceIte, Nat.reduceEqDiff] at hK
      go_simp
      exact hK.out _ _ (Below.refl _ _) rfl
    refine FSteps.cons ?_ ?_
    · intro u W hS hd K hK
      have h0 : u 0 = _ := hd 0 rfl
      clear hd
      simp only [upd, h0, reduceIte, Nat.reduceEqDiff] at hK
      go_simp
      go_at_call 15
      refine (croom_any wide _).mono ?_
      rintro e wc ⟨rfl, rfl⟩
      exact hK.out _ _ (Below.refl _ _) rfl
    refine FSteps.cons ?_ ?_
    · intro u W hS hd K hK
      clear hd
      simp only [upd, reduceIte, Nat.reduceEqDiff] at hK
      go_simp
      exact hK.out _ _ (Below.refl _ _) rfl
    refine FSteps.cons ?_ ?_
    · intro u W hS hd K hK
      have h2 : u 2 = _ := hd 2 rfl
      clear hd
      simp only [upd, h2, reduceIte, Nat.reduceEqDiff] at hK
      have c0 := hS.1.cell 0 rfl
      go_simp
      exact hK.out _ _ (Below.refl _ _) rfl
    refine FSteps.cons ?_ ?_
    · intro u W hS hd K hK
      have h3 : u 3 = _ := hd 3 rfl
      clear hd
      simp only [upd, h3, reduceIte, Nat.reduceEqDiff] at hK
      go_simp
      exact hK.out _ _ (Below.refl _ _) rfl
    refine FSteps.cons ?_ ?_
    · intro u W hS hd K hK
      have h1 : u 1 = _ := hd 1 rfl
      have h4 : u 4 = _ := hd 4 rfl
      clear hd
      simp only [upd, h1, h4, reduceIte, Nat.reduceEqDiff] at hK
      go_simp
      exact hK.out _ _ (Below.refl _ _) rfl
    refine FSteps.cons ?_ ?_
    · intro u W hS hd K hK
      have h5 : u 5 = _ := hd 5 rfl
      clear hd
      simp only [upd, h5, reduceIte, Nat.reduceEqDiff] at hK
      go_simp
      go_at_call 14
      refine (HFI.out _).mono ?_
      rintro e wc ⟨rfl, rfl⟩
      exact hK.out _ _ (Below.refl _ _) rfl
    refine FSteps.cons ?_ ?_
    · intro u W hS hd K hK
      have h6 : u 6 = _ := hd 6 rfl
      clear hd
      simp only [upd, h6, reduceIte, Nat.reduceEqDiff] at hK
      go_simp
      exact hK.out _ _ (Below.refl _ _) rfl
    exact trivial
  case henda =>
    intro u w6 hS hd
    have h7 : u 7 = _ := hd 7 rfl
    replace HR := Lib.hid hS.1
    replace HB := Lib.hid hS.2
    clear hd hS
    rw [h7]
    clear h7 z1
    generalize w6 = w3 at *
    go_upto_region 4 with (fail)
    refine wp_region_facts (fun W W' => Below W.heap.size W W') (fun W => RowAt W w.heap.size [.string c, .int .i64 vs, .int .i64 vr, .bool re, .bool m0, .bool m1, .bool m2, .bool m3] ∧ Below w.heap.size w W) (factsOf [.is (.pointer (some ⟨w.heap.size, 0, none⟩)), .is (.string c), .is (.string F), .is (.string D), .is (.agg #[.string c, .int .i64 vs, .int .i64 vr, .bool re, .bool m0, .bool m1, .bool m2, .bool m3]), .is (.bool wide), .is (.string NB), .is (.string E), .is (.agg #[.string c, .int .i64 vs, .int .i64 vr, .bool re, .bool m0, .bool m1, .bool m2, .bool m3]), .is (.string MB), .is (.string P), .is (.string P), .is (.int .i64 0)]) (by kernel_rfl) (by kernel_rfl) (facts_stay _) (fun W W' hb h => ⟨h.1.below hb, h.2.trans (hb.mono h.2.size)⟩) (fun i => if i = 11 then .string ⟨#[]⟩ else if i = 12 then .int .i64 0 else undef) (by kernel_rfl) ⟨HR.out.drew, HB.out.drew⟩ ?Fb ?hFb ?hstepb ?hendb
    case hFb =>
      intro u
      simp only [fillAct]
      go_simp
      rfl
    case hstepb =>
      refine FSteps.cons ?_ ?_
      · intro u W hS hd K hK
        clear hd
        simp only [upd, reduceIte, Nat.reduceEqDiff] at hK
        go_simp
        exact hK.out _ _ (Below.refl _ _) rfl
      refine FSteps.cons ?_ ?_
      · intro u W hS hd K hK
        have h0 : u 0 = _ := hd 0 rfl
        clear hd
        simp only [upd, h0, reduceIte, Nat.reduceEqDiff] at hK
        have c0 := hS.1.cell 0 rfl
        go_simp
        exact hK.out _ _ (Below.refl _ _) rfl
      refine FSteps.cons ?_ ?_
      · intro u W hS hd K hK
        clear hd
        simp only [upd, reduceIte, Nat.reduceEqDiff] at hK
        go_simp
        exact hK.out _ _ (Below.refl _ _) rfl
      refine FSteps.cons ?_ ?_
      · intro u W hS hd K hK
        have h1 : u 1 = _ := hd 1 rfl
        have h2 : u 2 = _ := hd 2 rfl
        clear hd
        simp only [upd, h1, h2, reduceIte, Nat.reduceEqDiff] at hK
        go_simp
        exact hK.out _ _ (Below.refl _ _) rfl
      refine FSteps.cons ?_ ?_
      · intro u W hS hd K hK
        clear hd
        simp only [upd, reduceIte, Nat.reduceEqDiff] at hK
        have c0 := hS.1.cell 0 rfl
        have c1 := hS.1.cell 1 rfl
        have c2 := hS.1.cell 2 rfl
        have c3 := hS.1.cell 3 rfl
        have c4 := hS.1.cell 4 rfl
        have c5 := hS.1.cell 5 rfl
        have c6 := hS.1.cell 6 rfl
        have c7 := hS.1.cell 7 rfl
        go_simp
        exact hK.out _ _ (Below.refl _ _) rfl
      refine FSteps.cons ?_ ?_
      · intro u W hS hd K hK
        clear hd
        simp only [upd, reduceIte, Nat.reduceEqDiff] at hK
        go_simp
        exact hK.out _ _ (Below.refl _ _) rfl
      refine FSteps.cons ?_ ?_
      · intro u W hS hd K hK
        have h4 : u 4 = _ := hd 4 rfl
        have h5 : u 5 = _ := hd 5 rfl
        clear hd
        simp only [upd, h4, h5, reduceIte, Nat.reduceEqDiff] at hK
        go_simp
        go_at_call 16
        refine (HPN.out _).mono ?_
        rintro e wc ⟨rfl, hb⟩
        exact hK.out _ _ hb rfl
      refine FSteps.cons ?_ ?_
      · intro u W hS hd K hK
        have h3 : u 3 = _ := hd 3 rfl
        have h6 : u 6 = _ := hd 6 rfl
        clear hd
        simp only [upd, h3, h6, reduceIte, Nat.reduceEqDiff] at hK
        go_simp
        exact hK.out _ _ (Below.refl _ _) rfl
      refine FSteps.cons ?_ ?_
      · intro u W hS hd K hK
        clear hd
        simp only [upd, reduceIte, Nat.reduceEqDiff] at hK
        have c0 := hS.1.cell 0 rfl
        have c1 := hS.1.cell 1 rfl
        have c2 := hS.1.cell 2 rfl
        have c3 := hS.1.cell 3 rfl
        have c4 := hS.1.cell 4 rfl
        have c5 := hS.1.cell 5 rfl
        have c6 := hS.1.cell 6 rfl
        have c7 := hS.1.cell 7 rfl
        go_simp
        exact hK.out _ _ (Below.refl _ _) rfl
      refine FSteps.cons ?_ ?_
      · intro u W hS hd K hK
        have h8 : u 8 = _ := hd 8 rfl
        clear hd
        simp only [upd, h8, reduceIte, Nat.reduceEqDiff] at hK
        go_simp
        go_at_call 17
        refine (HPM.out _).mono ?_
        rintro e wc ⟨rfl, hb⟩
        exact hK.out _ _ hb rfl
      refine FSteps.cons ?_ ?_
      · intro u W hS hd K hK
        have h7 : u 7 = _ := hd 7 rfl
        have h9 : u 9 = _ := hd 9 rfl
        clear hd
        simp only [upd, h7, h9, reduceIte, Nat.reduceEqDiff] at hK
        go_simp
        exact hK.out _ _ (Below.refl _ _) rfl
      refine FSteps.cons ?_ ?_
      · intro u W hS hd K hK
        have h10 : u 10 = _ := hd 10 rfl
        clear hd
        simp only [upd, h10, reduceIte, Nat.reduceEqDiff] at hK
        go_simp
        exact hK.out _ _ (Below.refl _ _) rfl
      refine FSteps.cons ?_ ?_
      · intro u W hS hd K hK
        clear hd
        simp only [upd, reduceIte, Nat.reduceEqDiff] at hK
        go_simp
        exact hK.out _ _ (Below.refl _ _) rfl
      exact trivial
    case hendb =>
      intro u w6 hS hd
      have h11 : u 11 = _ := hd 11 rfl
      have h12 : u 12 = _ := hd 12 rfl
      have HB6 := Lib.hid hS.2
      clear hd hS HR HB
      rw [h11, h12]
      go_wp2_with fail
      exact bodyPost_ret (v := .tuple #[.string P, .int .i64 0]) (by simp [results, Try.results8, go_sem]) rfl ⟨rfl, HB6.out⟩
end Go.Proofs.Ytdaagllacmnekaa
