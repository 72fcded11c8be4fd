/-
The document's own bytes of a right frame.
-/
import Derived.Test.YtadhiknmkiogjaaDoorMix17
import Derived.Test.YtadhiknmkiogjaaDoorMix13
import Derived.Test.YtadhiknmkiogjaaDoorMix29
import Derived.Test.YtadhiknmkiogjaaDoorMix15
import Derived.Test.YtadhiknmkiogjaaDoorCtlRefPut
import Derived.Test.YtadhiknmkiogjaaDoorCtlRGetP
import Derived.OrdersHeld
import Derived.Deep.RegionHeld
namespace Go.Proofs.YtadhiknmkiogjaaDoor
open Go.RowKit Go.Sort
set_option maxRecDepth 20000
/-- the document's Put of any right control -/
theorem rput6_right (k nr ns : Int) (pf wide : Bool) (W : World) (h : rightC k nr ns wide = true) :
    Calls Tryd.prog 41 #[.agg #[.int .i64 k, .int .i64 nr, .int .i64 ns, .bool pf], .bool wide] W fun e w' => Put6To W (docN k.toNat nr.toNat ns.toNat pf wide) e w' := by
  obtain ⟨K, R, S, rfl, rfl, rfl, h1, h2, h3, h4, _, h6, h7⟩ := rightC_facts h
  show Calls _ _ _ _ fun e w' => Put6To W (docN K R S pf wide) e w'
  by_cases hk : 5 < K
  · have hd : hasD (K : Int) = false := has_high ⟨K, h2⟩ hk
    obtain rfl := h3 hd
    obtain rfl := h4 (by omega)
    exact rput6_high K pf wide W hk h2
  · by_cases h1' : K = 1
    · subst h1'
      exact rput6_i R S pf wide W h6 h7
    · obtain rfl := h4 h1'
      exact rput6_sup K R pf wide W (by omega) (by omega) h6
theorem doc_right (k nr ns : Int) (pf wide : Bool) (h : rightC k nr ns wide = true) : (docN k.toNat nr.toNat ns.toNat pf wide).map UInt8.ofNat = putB k.toNat nr.toNat ns.toNat pf wide ∧ ∀ x ∈ docN k.toNat nr.toNat ns.toNat pf wide, x < 256 := by
  obtain ⟨K, R, S, rfl, rfl, rfl, _⟩ := rightC_facts h
  obtain ⟨_, a, b⟩ := cget_put K R S pf wide [] h
  exact ⟨a, b⟩
set_option maxHeartbeats 2000000 in
theorem renc_any (wa : Option Addr) (wc : Nat) (L : List Ent) (k nr ns : Int) (pf : Bool) (pid : Int) (info : ByteArray) (wide : Bool) (w : World) (hE : EntsAt w wa wc L) (hw : wrongF L k nr ns wide pid info.size = 0) :
    Calls Tryd.prog 23 #[.agg #[.slice wa L.length wc, .int .i64 k, .int .i64 nr, .int .i64 ns, .bool pf, .int .i64 pid, .string info], .bool wide] w fun e w' => e = .returned (.string ⟨(bytesF L k nr ns pf wide pid info.data.toList).toArray⟩) ∧ Below w.heap.size w w' := by
  obtain ⟨h1, h2, h3, h4⟩ := right_frame hw
  have hL := right_len h1
  have hall : ∀ e ∈ L, rightD e.1 e.2.1 = true := by
    unfold rightP at h1
    simp only [Bool.and_eq_true, List.all_eq_true] at h1
    exact h1.1.1.1
  have hpu := fun W (h : EntsAt W wa wc L) => rpput_any wa wc L W hL h hall
  have hcu := fun W => rput6_right k nr ns pf wide W h2
  obtain ⟨hd1, hd2⟩ := doc_right k nr ns pf wide h2
  have hdl : (docN k.toNat nr.toNat ns.toNat pf wide).length ≤ 1000 := by
    have : (docN k.toNat nr.toNat ns.toNat pf wide).length = (putB k.toNat nr.toNat ns.toNat pf wide).length := by rw [← hd1, List.length_map]
    have := putB_le k.toNat nr.toNat ns.toNat pf wide
    omega
  have htx := fun g c W (h : IntsAt W g (docN k.toNat nr.toNat ns.toNat pf wide)) => text6_any g c _ W hd2 hdl h
  rw [hd1] at htx
  unfold Put6To at hcu
  have hpd := fun W => rhaspid_any k W
  obtain ⟨P, rfl, hP, hP0⟩ := pid_facts h3
  have hi := (inf_facts h4).1
  have s1 := bytesP_size L hL
  have s2 : (⟨(putB k.toNat nr.toNat ns.toNat pf wide).toArray⟩ : ByteArray).size ≤ 2 := putB_le _ _ _ _ _
  have e0 : bytesF L k nr ns pf wide (P : Int) info.data.toList = (bytesP L L.length ++ putB k.toNat nr.toNat ns.toNat pf wide) ++ ((if pidD k then [UInt8.ofNat P] else []) ++ info.data.toList) := by
    unfold bytesF pidB
    rw [List.append_assoc]
    rfl
  rw [e0]
  obtain ⟨R, hR⟩ : ∃ R : ByteArray, R = ⟨((bytesP L L.length ++ putB k.toNat nr.toNat ns.toNat pf wide) ++ ((if pidD k then [UInt8.ofNat P] else []) ++ info.data.toList)).toArray⟩ := ⟨_, rfl⟩
  rw [← hR]
  clear e0
  generalize docN k.toNat nr.toNat ns.toNat pf wide = DN at *
  generalize bytesP L L.length = l1 at *
  generalize putB k.toNat nr.toNat ns.toNat pf wide = l2 at *
  obtain ⟨S1, hS1⟩ : ∃ S : ByteArray, S = ⟨l1.toArray⟩ := ⟨_, rfl⟩
  obtain ⟨S2, hS2⟩ : ∃ S : ByteArray, S = ⟨l2.toArray⟩ := ⟨_, rfl⟩
  rw [← hS1] at hpu s1
  rw [← hS2] at htx s2
  have c1 := fun (w : World) => run_string_add_sum (P := Tryd.prog) (w := w) S1 S2 (by omega)
  obtain ⟨S3, hS3⟩ : ∃ S : ByteArray, S = S1 ++ S2 := ⟨_, rfl⟩
  rw [← hS3] at c1
  have s3 : S3.size ≤ 72 := by rw [hS3, ByteArray.size_append]; omega
  obtain ⟨W, hW⟩ : ∃ W, W = w.alloc (.cells #[.slice wa L.length wc, .int .i64 k, .int .i64 nr, .int .i64 ns, .bool pf, .int .i64 (P : Int), .string info] 73) := ⟨_, rfl⟩
  have HB0 := Lib.hid (show Below w.heap.size w W from by rw [hW]; exact (Below.refl _ w).alloc (Nat.le_refl _) _)
  have HF0 := Lib.hid (show P7 W w.heap.size (.slice wa L.length wc) (.int .i64 k) (.int .i64 nr) (.int .i64 ns) (.bool pf) (.int .i64 (P : Int)) (.string info) from by rw [hW]; exact P7.new w w.heap.size rfl _ _ _ _ _ _ _ _)
  have HE := Lib.hid (hE.below HB0.out)
  have HPU := Lib.hid hpu
  have HCU := Lib.hid hcu
  have HTX := Lib.hid htx
  have HB1 := Lib.hid ((Below.refl W.heap.size W).drew)
  have HS1 := Lib.hid hS1
  have HS2 := Lib.hid hS2
  have HS3 := Lib.hid hS3
  have HRR := Lib.hid hR
  have HP0 := Lib.hid hP0
  clear hpu hcu htx hE h1 h2 h3 h4 hw hall hd1 hd2 hdl hL hS1 hS2 hS3 hR hP0
  go_enter Tryd.func23, Tryd.ntmps23
  go_wp2_with fail
  rw [← hW]
  clear hW
  refine wp_region_held (S := fun W' => Below W.heap.size W W') (by kernel_rfl) ?_
  change wpAnyH _ _ _ _ _ _ _ _ W.drew
  have HB := Lib.hid ((Below.refl W.heap.size W).drew)
  refine wpAnyH_take (i := 0) (v := ?_) rfl (by kernel_rfl) (by kernel_rfl) (by kernel_rfl) (fun _ _ _ h => h) (Or.inl ⟨by rfl, ?_⟩) HB.out ?_
  rotate_left
  · intro w' hw'
    go_simp
    with_reducible rfl
  go_simp
  refine wpAnyH_take (i := 1) (v := ?_) rfl (by kernel_rfl) (by kernel_rfl) (by kernel_rfl) (fun _ _ _ h => h) (Or.inl ⟨by rfl, ?_⟩) HB.out ?_
  rotate_left
  · intro w' hw'
    obtain ⟨⟨p0, -, pl⟩, ⟨p1, -, -⟩, ⟨p2, -, -⟩, ⟨p3, -, -⟩, ⟨p4, -, -⟩, ⟨p5, -, -⟩, ⟨p6, -, -⟩⟩ := HF0.out.below hw'
    go_simp
    with_reducible rfl
  go_simp
  refine wpAnyH_take (i := 3) (v := ?_) rfl (by kernel_rfl) (by kernel_rfl) (by kernel_rfl) (fun _ _ _ h => h) (Or.inl ⟨by rfl, ?_⟩) HB.out ?_
  rotate_left
  · intro w' hw'
    go_simp
    with_reducible rfl
  go_simp
  refine wpAnyH_take (i := 4) (v := ?_) rfl (by kernel_rfl) (by kernel_rfl) (by kernel_rfl) (fun _ _ _ h => h) (Or.inl ⟨by rfl, ?_⟩) HB.out ?_
  rotate_left
  · intro w' hw'
    obtain ⟨⟨p0, -, pl⟩, ⟨p1, -, -⟩, ⟨p2, -, -⟩, ⟨p3, -, -⟩, ⟨p4, -, -⟩, ⟨p5, -, -⟩, ⟨p6, -, -⟩⟩ := HF0.out.below hw'
    go_simp
    with_reducible rfl
  go_simp
  refine wpAnyH_take (i := 5) (v := ?_) rfl (by kernel_rfl) (by kernel_rfl) (by kernel_rfl) (fun _ _ _ h => h) (Or.inl ⟨by rfl, ?_⟩) HB.out ?_
  rotate_left
  · intro w' hw'
    go_simp
    with_reducible rfl
  go_simp
  refine wpAnyH_ready (rs := [2]) (by kernel_rfl) (by simp) ?_
  refine AllReadyH.cons rfl (fun K hK => ?_) AllReadyH.nil
  go_simp
  go_at_call 39
  refine (HPU.out _ HE.out.drew).mono ?_
  rintro e w8 ⟨rfl, hb⟩
  have HB := Lib.hid (show Below W.heap.size W w8 from HB1.out.trans (hb.mono (Nat.le_refl _)))
  clear hb
  change K _ _
  refine hK.out _ _ HB.out (fun _ => ?_)
  clear hK K
  refine wpAnyH_ready (rs := [6]) (by kernel_rfl) (by simp) ?_
  refine AllReadyH.cons rfl (fun K hK => ?_) AllReadyH.nil
  go_simp
  go_at_call 41
  refine (HCU.out w8).mono ?_
  rintro e w9 ⟨⟨g, c, rfl, hI⟩, hb⟩
  have HI := Lib.hid hI
  have HB9 := Lib.hid (show Below W.heap.size W w9 from HB.out.trans (hb.mono HB.out.size))
  clear hb hI
  change K _ _
  refine hK.out _ _ HB9.out (fun _ => ?_)
  clear hK K HB
  refine wpAnyH_ready (rs := [7]) (by kernel_rfl) (by simp) ?_
  refine AllReadyH.cons rfl (fun K hK => ?_) AllReadyH.nil
  go_simp
  go_at_call 40
  refine (HTX.out g c w9 HI.out).mono ?_
  rintro e w10 ⟨rfl, hb⟩
  have HB := Lib.hid (show Below W.heap.size W w10 from HB9.out.trans (hb.mono HB9.out.size))
  clear hb
  change K _ _
  refine hK.out _ _ HB.out (fun _ => ?_)
  clear hK K HB9
  refine wpAnyH_take (i := 8) (v := ?_) rfl (by kernel_rfl) (by kernel_rfl) (by kernel_rfl) (fun _ _ _ h => h) (Or.inl ⟨by rfl, ?_⟩) HB.out ?_
  rotate_left
  · intro w' hw'
    go_simp
    with_reducible rfl
  go_simp
  refine wpAnyH_ready (rs := [9]) (by kernel_rfl) (by simp) ?_
  refine AllReadyH.cons rfl (fun K hK => ?_) AllReadyH.nil
  go_simp
  refine hK.out _ _ HB.out (fun _ => ?_)
  clear hK K
  refine wpAnyH_done (by kernel_rfl) ?_ _
  have HF := Lib.hid (HF0.out.below HB.out)
  obtain ⟨⟨p0, -, pl⟩, ⟨p1, -, -⟩, ⟨p2, -, -⟩, ⟨p3, -, -⟩, ⟨p4, -, -⟩, ⟨p5, -, -⟩, ⟨p6, -, -⟩⟩ := HF.out
  cases hp : pidD k
  · rw [hp] at hpd
    have HPD := Lib.hid hpd
    have c2 := fun (w : World) => run_string_add_sum (P := Tryd.prog) (w := w) S3 info (by omega)
    obtain ⟨S4, hS4⟩ : ∃ S : ByteArray, S = S3 ++ info := ⟨_, rfl⟩
    rw [← hS4] at c2
    have HR := Lib.hid (show S4 = R from by
      apply bytes_ext'
      rw [HRR.out, hp, hS4, HS3.out, HS1.out, HS2.out]
      simp [ByteArray.data_append])
    clear hpd hS4
    go_wp2_with (first
      | (go_at_call 37; (with_reducible refine (HPD.out _).mono ?_); rintro e w4 ⟨rfl, rfl⟩))
    go_ret
    exact ⟨by rw [HR.out]; rfl, HB0.out.trans (HB.out.mono HB0.out.size)⟩
  · rw [hp] at hpd
    have HPD := Lib.hid hpd
    have hcv : IntKind.u8.wrap (P : Int) = (P : Int) := IntWalk.u8_in _ (by omega)
    obtain ⟨SP, hSP⟩ : ∃ S : ByteArray, S = ⟨#[UInt8.ofNat P]⟩ := ⟨_, rfl⟩
    have hsp1 : SP.size = 1 := by rw [hSP]; rfl
    have hcvr := fun (W : World) => OwnB.conv1 W W.heap.size (P : Int) P rfl hP rfl
    simp only [← hSP] at hcvr
    have c2 := fun (w : World) => run_string_add_sum (P := Tryd.prog) (w := w) S3 SP (by omega)
    obtain ⟨S4, hS4⟩ : ∃ S : ByteArray, S = S3 ++ SP := ⟨_, rfl⟩
    rw [← hS4] at c2
    have s4 : S4.size ≤ 73 := by rw [hS4, ByteArray.size_append]; omega
    have c3 := fun (w : World) => run_string_add_sum (P := Tryd.prog) (w := w) S4 info (by omega)
    obtain ⟨S5, hS5⟩ : ∃ S : ByteArray, S = S4 ++ info := ⟨_, rfl⟩
    rw [← hS5] at c3
    have HR := Lib.hid (show S5 = R from by
      apply bytes_ext'
      rw [HRR.out, hp, hS5, hS4, HS3.out, HS1.out, HS2.out, hSP]
      simp [ByteArray.data_append])
    clear hpd hS4 hS5 hSP
    go_wp2_with (first
      | (go_at_call 37; (with_reducible refine (HPD.out _).mono ?_); rintro e w4 ⟨rfl, rfl⟩))
    go_ret
    exact ⟨by rw [HR.out]; rfl, HB0.out.trans ((HB.out.alloc HB.out.size _).mono HB0.out.size)⟩
end Go.Proofs.YtadhiknmkiogjaaDoor
