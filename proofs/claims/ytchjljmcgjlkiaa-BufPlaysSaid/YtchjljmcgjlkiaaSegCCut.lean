/-
The landed code's cut: the pieces with Pid 8 of a message.
-/
import Derived.Test.YtchjljmcgjlkiaaSegCCutL
import Derived.Test.YtchjljmcgjlkiaaFactsUptoIn
import Derived.Lib.AppendStr
namespace Go.Proofs.Ytchjljmcgjlkiaa
open Go.RowKit Go.Shelf
attribute [local go_sem] Oper.semAt_some
set_option maxRecDepth 20000
theorem chunk_any (g L cap m : Nat) (hm0 : 0 < m) (w : World) : Calls Try.prog 45 #[.slice (some ⟨g, 0, none⟩) L cap, .int .i64 m] w fun e w' => e = .returned (.func (.func 49) #[] #[.pointer (some ⟨w.heap.size, 0, none⟩), .pointer (some ⟨w.heap.size + 1, 0, none⟩)]) ∧
      w' = (w.alloc (.cells #[.slice (some ⟨g, 0, none⟩) L cap] 76)).alloc (.cells #[.int .i64 m] 3) :=
  (callsIn_wide (n := 3)).1 (chunk_in Fence.wide 3 trivial rfl g L cap m hm0 w)
theorem own_text {w : World} {B : Nat} {v : Value} {c : UInt8} {text : ByteArray} (h : w.ownsRow B 5 1 v (1 + text.size) (bytesV [c] ++ Lib.strCells text)) : OwnB w B v (c :: text.data.toList) := by
  have e : bytesV [c] ++ Lib.strCells text = bytesV (c :: text.data.toList) := rfl
  have e2 : 1 + text.size = (c :: text.data.toList).length := by simp; omega
  unfold OwnB
  rw [← e, ← e2]
  exact h
theorem OwnB.bytes {w : World} {B g n cap : Nat} {l : List UInt8} (h : OwnB w B (.slice (some ⟨g, 0, none⟩) n cap) l) : BytesAt w g l ∧ B ≤ g := by
  have := World.ownsRow.lt h g rfl
  exact ⟨⟨this.2, fun i hi => h.cell i hi⟩, this.1⟩
theorem follow_num (L m F0 : Nat) (hL : 1 ≤ L) (hm : 0 < m) (hF : F0 = (L - 1) / m) : ((L : Int) - 1).tdiv (m : Int) = (F0 : Int) ∧ ckN L m = F0 + 1 ∧ ((L : Int) - 1) / (m : Int) = (F0 : Int) := by
  subst hF
  have e : ((L : Int) - 1) / (m : Int) = (((L - 1) / m : Nat) : Int) := by
    rw [show (L : Int) - 1 = ((L - 1 : Nat) : Int) by omega]
    norm_cast
  refine ⟨by rw [Int.tdiv_eq_ediv_of_nonneg (by omega), e], ?_, e⟩
  · unfold ckN
    rw [show L + m - 1 = (L - 1) + m by omega, Nat.add_div_right _ hm]
theorem or_first : ∀ n : Fin 128, bits BinOp.or .i64 128 (n.1 : Int) = (n.1 : Int) + 128 := by decide +kernel
theorem or_first' (n : Nat) (h : n < 128) : bits BinOp.or .i64 128 (n : Int) = (n : Int) + 128 := or_first ⟨n, h⟩
theorem cut_nums (L F0 : Nat) (hF : F0 ≤ 40) (hL : L ≤ 601) : wrap64 ((L : Int) - 1) = (L : Int) - 1 ∧ wrap64 (F0 : Int) = (F0 : Int) ∧ IntKind.u8.wrap ((F0 : Int) + 128) = (F0 : Int) + 128 ∧ ((F0 : Int) + 128) % 256 = (F0 : Int) + 128 :=
  ⟨IntWalk.wrap64_in _ (by omega), IntWalk.wrap64_in _ (by omega), (IntKind.wrap_u8 _).trans (by omega), by omega⟩
set_option maxHeartbeats 1000000 in
theorem ccut_any (pid : Int) (text : ByteArray) (m : Nat) (w : World) (hp0 : 0 ≤ pid) (hp1 : pid ≤ 255) (hz : text.size ≤ 600) (hm0 : 15 ≤ m) (hm1 : m ≤ 255) :
    Calls Try.prog 37 #[.int .i64 pid, .string text, .int .i64 m] w fun e w' => (∃ v, e = .returned v ∧ OwnL encP 36 w' w.heap.size v (heads true (chunk m (byteI pid :: text.data.toList)))) ∧ Below w.heap.size w w' := by
  have Hz3 := Lib.hid (show IntKind.u8.wrap pid = pid from (IntKind.wrap_u8 _).trans (by omega))
  obtain ⟨i0, hi0, hz0, hz1, hz2⟩ := info_parts info8
  have HS := Lib.hid (show (w.alloc (.cells #[.int .u8 pid] 5)).ownsRow w.heap.size 5 1 (.slice (some ⟨w.heap.size, 0, none⟩) 1 1) 1 (bytesV [byteI pid]) from OwnB.start w w.heap.size w.heap.size pid (byteI pid) (byteI_val pid hp0 hp1) rfl (Nat.le_refl _))
  have HB0 := Lib.hid ((Below.refl _ w).alloc (Nat.le_refl _) (.cells #[.int .u8 pid] 5))
  obtain ⟨body, hbody⟩ : ∃ body, body = byteI pid :: text.data.toList := ⟨_, rfl⟩
  obtain ⟨L, hL⟩ : ∃ L, L = body.length := ⟨_, rfl⟩
  have hLs : L = text.size + 1 := by rw [hL, hbody]; simp
  obtain ⟨F0, hF⟩ : ∃ F0, F0 = (L - 1) / m := ⟨_, rfl⟩
  have HF := Lib.hid (follow_num L m F0 (by omega) (by omega) hF)
  have hF0 : F0 ≤ 40 := by rw [hF]; exact (Nat.div_le_iff_le_mul_add_pred (by omega)).2 (by omega)
  have hLa : 1 ≤ L := by omega
  have hLb : L ≤ 601 := by omega
  have HZO := Lib.hid (or_first' F0 (by omega))
  have HNU := Lib.hid (cut_nums L F0 hF0 hLb)
  have hbx : 1 + text.size ≤ 140737488355328 := by omega
  have hmx : 1 + text.size ≤ maxLen := by unfold maxLen; omega
  rw [← hbody]
  have HLB := Lib.hid hL
  have HBO := Lib.hid hbody
  clear hF hL hbody hLs
  refine (callsIn_wide (n := 3)).1 ?_
  refine callsIn_of_wp_marks Try.func37 rfl trivial ?_ rfl
  simp only [Try.ntmps37, List.size_toArray, List.length_cons, List.length_nil, Nat.reduceAdd, Nat.reduceSub, Array.replicate_succ, Array.replicate_zero, List.push_toArray, List.append_toArray, List.nil_append, List.cons_append]
  refine wpIn_wide.2 ?_
  have z3 := Hz3.out
  go_upto_region 2 with (at_builtin; go_loud (refine Lib.wpList_append_own_string _ rfl (.tmp 14) (.tmp 15) 76 9 rfl w.heap.size 5 i0 Try.underlying76 Try.underlying9 hi0 hz0 hz1 hz2 _ 1 (bytesV [byteI pid]) rfl HS.out text rfl hmx hbx (by have := HB0.out.size; exact this) ?_; intro v' w2 hown hgr hiff; have HO := Lib.hid (own_text hown); have HB := Lib.hid (HB0.out.grown hgr HB0.out.size (fun k e => (World.ownsRow.lt HS.out k e).1)); clear hown hgr hiff))
  clear z3
  rw [← HBO.out] at HO
  obtain ⟨g, cap, hv⟩ := HO.out.slice (by rw [HBO.out]; simp)
  rw [← HLB.out] at hv
  subst hv
  have hlc := HO.out.cap
  rw [← HLB.out] at hlc
  obtain ⟨HBY, hgw⟩ := HO.out.bytes
  have HY := Lib.hid HBY
  have hgl := HBY.1
  have hwg := hgw
  clear HBY hgw HS HB0 HO
  have HMF := Lib.hid (((RowAt.new w2 w2.heap.size rfl [.int .i64 (F0 : Int)] 3).alloc (.cells #[.int .u8 ((F0 : Int) + 128)] 5)).alloc (.cells #[.slice none 0 0] 49))
  have HMH := Lib.hid ((RowAt.new (w2.alloc (.cells #[.int .i64 (F0 : Int)] 3)) (w2.heap.size + 1) (by simp) [.int .u8 ((F0 : Int) + 128)] 5).alloc (.cells #[.slice none 0 0] 49))
  have HML := Lib.hid (RowAt.new ((w2.alloc (.cells #[.int .i64 (F0 : Int)] 3)).alloc (.cells #[.int .u8 ((F0 : Int) + 128)] 5)) (w2.heap.size + 2) (by simp) [.slice none 0 0] 49)
  have HB3 := Lib.hid (((HB.out.alloc HB.out.size (.cells #[.int .i64 (F0 : Int)] 3)).alloc (by have := HB.out.size; simp; omega) (.cells #[.int .u8 ((F0 : Int) + 128)] 5)).alloc (by have := HB.out.size; simp; omega) (.cells #[.slice none 0 0] 49))
  have HY3 := Lib.hid (((HY.out.below ((Below.refl _ w2).alloc (Nat.le_refl _) (.cells #[.int .i64 (F0 : Int)] 3))).below ((Below.refl _ _).alloc (Nat.le_refl _) (.cells #[.int .u8 ((F0 : Int) + 128)] 5))).below ((Below.refl _ _).alloc (Nat.le_refl _) (.cells #[.slice none 0 0] 49)))
  have HS3 := Lib.hid (show (((w2.alloc (.cells #[.int .i64 (F0 : Int)] 3)).alloc (.cells #[.int .u8 ((F0 : Int) + 128)] 5)).alloc (.cells #[.slice none 0 0] 49)).heap.size = w2.heap.size + 3 from by simp)
  have hwm : w.heap.size ≤ w2.heap.size := HB.out.size
  obtain ⟨zl, zq, zh, zh2⟩ := HNU.out
  have zf2 := HF.out.2.2
  have zo := HZO.out
  go_upto_region 5 with (fail)
  clear HB HY zf2 zl zq zo zh zh2 hi0 hz0 hz1 hz2
  generalize (((w2.alloc (.cells #[.int .i64 (F0 : Int)] 3)).alloc (.cells #[.int .u8 ((F0 : Int) + 128)] 5)).alloc (.cells #[.slice none 0 0] 49)) = w3 at *
  generalize w2.heap.size = mf at *
  have HCH := Lib.hid (fun W => chunk_any g L cap m (by omega) W)
  go_wp2_with (go_at_call 45; (with_reducible refine (HCH.out _).mono ?_); rintro e w4 ⟨rfl, rfl⟩)
  have hBs : w3.heap.size = mf + 3 := HS3.out
  have HW4 := Lib.hid (show ((w3.alloc (.cells #[.slice (some ⟨g, 0, none⟩) L cap] 76)).alloc (.cells #[.int .i64 m] 3)).heap.size = mf + 5 from by simp [hBs])
  have HST := Lib.hid (show CutSt w mf g body (F0 : Int) 0 [] (.slice none 0 0) ((w3.alloc (.cells #[.slice (some ⟨g, 0, none⟩) L cap] 76)).alloc (.cells #[.int .i64 m] 3)) from by
    refine ⟨?_, ?_, ?_, OwnL.nil _ _ _ _, ?_, ?_, ?_, hwm, hgl⟩
    · exact (by simpa using HMF.out : RowAt w3 mf [.int .i64 ((F0 : Int) - (0 : Nat))]).alloc _ |>.alloc _
    · exact (HMH.out.alloc _).alloc _
    · exact (HML.out.alloc _).alloc _
    · exact (HY3.out.below ((Below.refl _ w3).alloc (Nat.le_refl _) _)).below ((Below.refl _ _).alloc (Nat.le_refl _) _)
    · exact (HB3.out.alloc HB3.out.size _).alloc (by have := HB3.out.size; simp; omega) _
    · rw [HW4.out]; exact Nat.le_refl _)
  have hcs : ((w3.alloc (.cells #[.slice (some ⟨g, 0, none⟩) L cap] 76)).alloc (.cells #[.int .i64 m] 3)).cell? ⟨mf + 3, 0, none⟩ = some (.slice (some ⟨g, 0, none⟩) L cap) := by
    have := (RowAt.new w3 (mf + 3) hBs.symm [.slice (some ⟨g, 0, none⟩) L cap] 76).alloc (.cells #[.int .i64 m] 3)
    exact this.cell 0 rfl
  have hcn : ((w3.alloc (.cells #[.slice (some ⟨g, 0, none⟩) L cap] 76)).alloc (.cells #[.int .i64 m] 3)).cell? ⟨mf + 4, 0, none⟩ = some (.int .i64 m) := by
    have := RowAt.new (w3.alloc (.cells #[.slice (some ⟨g, 0, none⟩) L cap] 76)) (mf + 4) (by simp [hBs]) [.int .i64 m] 3
    exact this.cell 0 rfl
  have HCS := Lib.hid hcs
  have HCN := Lib.hid hcn
  clear hcs hcn HMF HMH HML HB3 HY3 HS3 HCH
  rw [hBs]
  generalize (w3.alloc (.cells #[.slice (some ⟨g, 0, none⟩) L cap] 76)).alloc (.cells #[.int .i64 m] 3) = w5 at *
  clear hBs
  have hw5 : w5.heap.size = mf + 5 := HW4.out
  refine (wpIn_wide (n := 6)).1 ?_
  refine wpIn_rangeFunc_ownH rfl (by omega) (gf := 49) (lb := #[.pointer (some ⟨mf + 3, 0, none⟩), .pointer (some ⟨mf + 4, 0, none⟩)]) rfl trivial (enters_of Try.func49 (by kernel_rfl) rfl)
    (chunk_stops Fence.wide 5 trivial rfl (by omega) (mf + 3) (mf + 4) w.heap.size g L cap m (by omega) hlc (by omega) (by omega) w5 (by omega) (by omega) HCS.out HCN.out) (fun h h' => h.trans h')
    (fun W l x y h1 h2 h3 h4 => ⟨belowK_b (w := w5) (by omega) W l x y h1 h2 h3 h4, World.putObj_heap_other (by omega), World.putObj_heap_other (by omega)⟩) (Below.refl _ _) (fun _ => rfl)
    (fun pre W => ∃ tv, CutSt w mf g body (F0 : Int) pre.length (comeC body m L (F0 : Int) pre) tv W)
    (fun _ _ _ => False)
    (fun s X Y row hs hg hr => by
      obtain ⟨tv, h1⟩ := hs
      exact ⟨tv, h1.kept hg (fun r e => ⟨by have := (hr r e).1; omega, (hr r e).2⟩)⟩)
    (fun _ _ _ _ _ hs _ _ => hs)
    ⟨_, HST.out⟩
    (fun x a' W => ∃ (u0 u1 u2 u3 u4 u5 u6 u7 u12 u13 u14 u15 u16 u17 u18 u19 u20 u21 u22 u23 u24 u25 u26 u27 u28 u29 u30 u31 u32 u33 u34 u35 u36 u37 u38 u39 u40 u41 u42 : Value), a' = { tmps := #[u0, u1, u2, u3, u4, u5, u6, u7, .pointer (some ⟨mf, 0, none⟩), .pointer (some ⟨mf + 1, 0, none⟩), .pointer (some ⟨mf + 2, 0, none⟩), .slice (some ⟨g, x.1 * m, none⟩) (min m (L - x.1 * m)) (min m (L - x.1 * m)), u12, u13, u14, u15, u16, u17, u18, u19, u20, u21, u22, u23, u24, u25, u26, u27, u28, u29, u30, u31, u32, u33, u34, u35, u36, u37, u38, u39, u40, u41, u42], defers := [] })
    (fun x a' _ X Y row hs hg hr => hs)
    ?assign ?body ?done ?stop
  case assign =>
    rintro l pre x W K ⟨tv, hV⟩ hK
    dsimp only [ckV]
    gi_wp2
    exact hK _ _ (KeepsFrom.refl _ _) (KC.refl _ _ _ _) ⟨tv, hV⟩ ⟨_, _, _, _, _, _, _, _, _, _, _, _, _, _, _, _, _, _, _, _, _, _, _, _, _, _, _, _, _, _, _, _, _, _, _, _, _, _, _, rfl⟩
  case body =>
    rintro l pre x a' W hl - ⟨tv, hV⟩ ⟨u0, u1, u2, u3, u4, u5, u6, u7, u12, u13, u14, u15, u16, u17, u18, u19, u20, u21, u22, u23, u24, u25, u26, u27, u28, u29, u30, u31, u32, u33, u34, u35, u36, u37, u38, u39, u40, u41, u42, rfl⟩ hlt
    have hmx2 : Try.prog.follows .mixedOrders = true := by kernel_rfl
    have hxL := (ckN_in (by omega)).1 x.2
    obtain ⟨k, hk⟩ : ∃ k, k = pre.length := ⟨_, rfl⟩
    have HL2 := Lib.hid (show (comeC body m L (F0 : Int) pre).length ≤ 100000 ∧ k ≤ F0 from by rw [comeC_len]; have := HF.out.2.1; omega)
    have HNX := Lib.hid (comeC_next body m L (F0 : Int) pre x)
    rw [← hk] at hV HNX
    have HKL := Lib.hid (show k + 1 = (pre ++ [x]).length from by rw [hk]; simp)
    clear hk hlt
    obtain ⟨off, hoff⟩ : ∃ off, off = x.1 * m := ⟨_, rfl⟩
    have HPA := Lib.hid (show partP body m (F0 : Int) k x.1 = ⟨8, ⟨(byteI (hdN (F0 : Int) k) :: (body.drop off).take m).toArray⟩⟩ from by rw [hoff]; rfl)
    rw [← hoff] at hxL ⊢
    clear hoff
    generalize partP body m (F0 : Int) k x.1 = p at *
    have hHd := hdN_low (F0 : Int) k (by omega) (by omega)
    obtain ⟨c, hc⟩ : ∃ c, c = min m (L - off) := ⟨_, rfl⟩
    rw [← hc]
    have hcl := Lib.hid (show ((body.drop off).take m).length = c ∧ 0 < c ∧ c ≤ 100000 from ⟨by rw [List.length_take, List.length_drop, ← HLB.out, hc], by omega, by omega⟩)
    clear hc
    obtain ⟨part, hpart⟩ : ∃ part, part = (body.drop off).take m := ⟨_, rfl⟩
    rw [← hpart] at HPA hcl
    have HPC := Lib.hid (fun (W : World) (h : BytesAt W g body) => show ∀ j v, (bytesV part)[j]? = some v → W.cell? ⟨g, off + j, none⟩ = some v from hpart ▸ part_cells h off m)
    clear hpart
    have HV := Lib.hid hV
    generalize comeC body m L (F0 : Int) pre = CP at *
    have HBYT := Lib.hid (byteI_val (hdN (F0 : Int) k) hHd.1 hHd.2)
    have HXN := Lib.hid (show ∃ X Y, X = (F0 : Int) - k ∧ IntKind.u8.wrap (X - 1) = Y ∧ wrap64 (X - 1) = X - 1 ∧ (X - 1) % 256 = Y from ⟨_, _, rfl, rfl, IntWalk.wrap64_in _ (by have := HL2.out.2; omega), (IntKind.wrap_u8 _).symm⟩)
    clear hV hHd
    obtain ⟨S, hS0⟩ : ∃ S, S = (⟨(byteI (hdN (F0 : Int) k) :: part).toArray⟩ : ByteArray) := ⟨_, rfl⟩
    have hp := HPA.out
    rw [← hS0] at hp
    subst hp
    have HSS := Lib.hid hS0
    clear hS0 HPA
    obtain ⟨H, hH⟩ : ∃ H, H = hdN (F0 : Int) k := ⟨_, rfl⟩
    rw [← hH] at HBYT HSS
    have HH := Lib.hid hH
    clear hH
    gi_wp2
    refine wpIn_region_upto 8 1 (fun W W' => Below W.heap.size W W') (fun W1 => CutSt w mf g body (F0 : Int) k CP tv W1 ∧ Below W.heap.size W W1)
      (fun j v W => factsOf [.is tv, .is (.int .u8 H), .row [byteI H], .is (.slice (some ⟨g, off, none⟩) c c), .any, .is (.string S), .is (.agg #[.int .i64 8, .string S]), .any] j v W ∧
        (j = 4 → ∃ b cp, v = .slice (some ⟨b, 0, none⟩) (c + 1) cp ∧ BytesAt W b (byteI H :: part)) ∧ (j = 7 → ∃ b, v = .slice (some ⟨b, 0, none⟩) 1 1 ∧ AtL encP W (some ⟨b, 0, none⟩) [⟨8, S⟩]))
      hmx2 rfl (by kernel_rfl) (by kernel_rfl) (fun j v W W' hb h => ⟨facts_stay _ j v W W' hb h.1, fun e => by obtain ⟨b, cp, hv, hB⟩ := h.2.1 e; exact ⟨b, cp, hv, hB.below hb⟩, fun e => by obtain ⟨b, hv, hB⟩ := h.2.2 e; exact ⟨b, hv, hB.below hb⟩⟩)
      (fun W W' hb h => ⟨h.1.below hb, h.2.trans (hb.mono h.2.size)⟩) (fun i => [u29, u30, u31, u32, u33, u34, u35, u36].getD i undef) (by kernel_rfl) ⟨HV.out.below (Below.refl _ _).drew, (Below.refl _ _).drew⟩ ?F1 ?hF1 ?hstep1 ?hend1
    case hF1 =>
      intro u
      simp only [List.take, fillAct]
      go_simp
      rfl
    case hstep1 =>
      clear HV
      refine FStepsI.cons ?_ ?_
      · intro u W hS hd K hK
        clear hd
        simp only [upd, reduceIte, Nat.reduceEqDiff] at hK
        have c0 := hS.1.l.cell 0 rfl
        go_simp
        exact hK.out _ _ (Below.refl _ _) ⟨rfl, (fun e => absurd e (by decide)), (fun e => absurd e (by decide))⟩
      refine FStepsI.cons ?_ ?_
      · intro u W hS hd K hK
        clear hd
        simp only [upd, reduceIte, Nat.reduceEqDiff] at hK
        have c0 := hS.1.h.cell 0 rfl
        rw [← HH.out] at c0
        go_simp
        exact hK.out _ _ (Below.refl _ _) ⟨rfl, (fun e => absurd e (by decide)), (fun e => absurd e (by decide))⟩
      refine FStepsI.cons ?_ ?_
      · intro u W hS hd K hK
        have h1 : u 1 = _ := (hd 1 rfl).1
        clear hd
        simp only [upd, h1, reduceIte, Nat.reduceEqDiff] at hK
        go_simp
        exact hK.out _ _ ((Below.refl _ _).alloc (Nat.le_refl _) _) ⟨⟨_, rfl, BytesAt.made _ _ [byteI H] [.int .u8 H] _ (by simp [bytesV, ← HBYT.out]) rfl⟩, (fun e => absurd e (by decide)), (fun e => absurd e (by decide))⟩
      refine FStepsI.cons ?_ ?_
      · intro u W hS hd K hK
        clear hd
        simp only [upd, reduceIte, Nat.reduceEqDiff] at hK
        go_simp
        exact hK.out _ _ (Below.refl _ _) ⟨rfl, (fun e => absurd e (by decide)), (fun e => absurd e (by decide))⟩
      refine FStepsI.cons ?_ ?_
      · intro u W hS hd K hK
        have h3 : u 3 = _ := (hd 3 rfl).1
        obtain ⟨g2, h2, b2⟩ : ∃ g, u 2 = .slice (some ⟨g, 0, none⟩) _ _ ∧ BytesAt W g _ := (hd 2 rfl).1
        clear hd
        simp only [upd, h3, h2, reduceIte, Nat.reduceEqDiff] at hK
        rw [if_pos (by kernel_rfl)]
        simp only [h2, h3]
        obtain ⟨cp, W2, hr, hB, hb⟩ := run_append_head 76 W g2 g off c c (byteI H) part b2 (HPC.out W hS.1.body) hcl.out.1 hcl.out.2.1 hcl.out.2.2
        refine wpIn_append_run (.tmp 31) (.tmp 32) rfl rfl rfl hr ?_
        exact hK.out _ _ hb ⟨trivial, fun _ => ⟨_, _, rfl, hB⟩, (fun e => absurd e (by decide))⟩
      refine FStepsI.cons ?_ ?_
      · intro u W1 hS hd K hK
        obtain ⟨b4, cp4, h4, B4⟩ := (hd 4 rfl).2.1 rfl
        clear hd
        simp only [upd, h4, reduceIte, Nat.reduceEqDiff] at hK
        have hcv := B4.conv (cap := cp4)
        rw [List.length_cons, hcl.out.1, ← HSS.out] at hcv
        go_simp
        exact hK.out _ _ (Below.refl _ _) ⟨rfl, (fun e => absurd e (by decide)), (fun e => absurd e (by decide))⟩
      refine FStepsI.cons ?_ ?_
      · intro u W hS hd K hK
        have h5 : u 5 = _ := (hd 5 rfl).1
        clear hd
        simp only [upd, h5, reduceIte, Nat.reduceEqDiff] at hK
        go_simp
        exact hK.out _ _ (Below.refl _ _) ⟨rfl, (fun e => absurd e (by decide)), (fun e => absurd e (by decide))⟩
      refine FStepsI.cons ?_ ?_
      · intro u W hS hd K hK
        have h6 : u 6 = _ := (hd 6 rfl).1
        clear hd
        simp only [upd, h6, reduceIte, Nat.reduceEqDiff] at hK
        go_simp
        exact hK.out _ _ ((Below.refl _ _).alloc (Nat.le_refl _) _) ⟨trivial, (fun e => absurd e (by decide)), fun _ => ⟨_, rfl, AtL.made encP 36 _ _ ⟨8, S⟩ _ rfl rfl⟩⟩
      exact trivial
    case hend1 =>
      intro u w6 hS hd
      have h0 : u 0 = _ := (hd 0 rfl).1
      obtain ⟨b7, h7, B7⟩ := (hd 7 rfl).2.2 rfl
      clear hd
      refine wpAnyIn_ready (rs := [8]) (by kernel_rfl) (by simp) ?_
      refine AllReadyIn.cons rfl (fun K hK => ?_) AllReadyIn.nil
      rw [if_pos (by kernel_rfl)]
      obtain ⟨v', w7, hr, hown, hgr, -⟩ := run_append_one encP 36 49 49 Try.underlying49 infoC rfl (by decide) w6 (mf + 5) tv CP hS.1.own b7 1 ⟨8, S⟩ B7 HL2.out.1 hS.1.size
      simp only [h0, h7]
      refine wpIn_append_run (.tmp 29) (.tmp 36) rfl rfl rfl hr ?_
      obtain ⟨hl4, hC5, hKO5, hKC5⟩ := cut_put hS.1 hown hgr
      obtain ⟨va, vn, vc, rfl⟩ := hown.form
      have hbel := Lib.hid hS.2
      have HC5 := Lib.hid hC5
      have HKO5 := Lib.hid hKO5
      have HKC5 := Lib.hid hKC5
      refine hK _ _ ?_
      clear hK K
      have x0 := hl4.cell 0 rfl
      have xf0 := (hl4.get 0 rfl).free
      clear hC5 hKO5 hKC5 hS hr hown hgr hl4 B7
      refine wpAnyIn_ready (rs := [9]) (by kernel_rfl) (by simp) ?_
      refine AllReadyIn.cons rfl (fun K hK => ?_) AllReadyIn.nil
      go_simp
      refine hK _ _ ?_
      clear hK K x0 xf0
      refine wpAnyIn_done (by kernel_rfl) ?_ _
      generalize (w7.setCell ⟨mf + 2, 0, none⟩ (.slice va vn vc)) = w8 at *
      obtain ⟨X, Y, hX, hY, hXw, hYe⟩ := HXN.out
      have HX := Lib.hid hX
      have HYY := Lib.hid hY
      have y0 := HC5.out.f.cell 0 rfl
      have yf0 := (HC5.out.f.get 0 rfl).free
      have q0 := HC5.out.h.cell 0 rfl
      rw [← HH.out] at q0
      have qf0 := (HC5.out.h.get 0 rfl).free
      rw [← hX] at y0
      clear hX hY
      gi_wp2
      obtain ⟨hC7, hKO7, hKC7⟩ := cut_count HC5.out HX.out HYY.out
      have hnb : w.heap.size ≤ W.heap.size ∧ mf + 5 ≤ W.heap.size := ⟨HV.out.bel.size, HV.out.size⟩
      have hKC0 : KC w.heap.size (mf + 3) (mf + 4) W w6 := ⟨hbel.out.mono hnb.1, hbel.out.block _ (by omega), hbel.out.block _ (by omega)⟩
      exact ⟨((keeps_below' hbel.out).trans (HKO5.out.trans hKO7)).from _, hKC0.trans (HKC5.out.trans hKC7), _, by rw [← HKL.out, HNX.out]; exact hC7⟩
  case done =>
    rintro Dd ys W hDd rfl ⟨tv, hV⟩ hK
    obtain ⟨va, vn, vc, htv⟩ := hV.own.form
    subst htv
    have hm : 0 < m := by omega
    have hFN : (F0 : Int) = (ckN body.length m : Int) - 1 := by
      have := HF.out.2.1
      rw [← HLB.out, this]
      omega
    have hE : comeC body m L (F0 : Int) (List.finRange (ckN L m)) = heads true (chunk m body) := by
      have hcc := comeC_all body m hm (by rw [← HLB.out, HF.out.2.1]; omega)
      rw [← hFN] at hcc
      have hLL := HLB.out
      subst hLL
      exact hcc
    have HVF := Lib.hid hV
    have HEE := Lib.hid hE
    have HKD := Lib.hid hK
    have y0 := hV.l.cell 0 rfl
    clear hV hE hK hFN
    go_wp2
    refine ⟨by simp, .inl ⟨_, _, rfl, run_takeDeferred HKD.out, ?_⟩⟩
    have hgp := grownBy_putObj' W Dd (.deferred none)
    have hgr : ∀ r, some Dd = some r → ∃ o : Obj, W.heap[r]? = some o ∧ o.isCells = false := fun r e => by cases e; exact ⟨_, HKD.out, rfl⟩
    have hO9 := (HVF.out.own.kept hgp hgr).base (show w.heap.size ≤ mf + 5 by omega)
    rw [HEE.out] at hO9
    have hB9 := HVF.out.bel.trans (belowK_b (w := w) (Nat.le_refl _) W Dd _ (.deferred none) (by omega) HKD.out rfl rfl)
    exact ⟨.slice va vn vc, by simp [results, Try.results37, go_sem], ⟨_, rfl, hO9⟩, hB9⟩
  case stop =>
    rintro Dd cc pre W _ _ h _
    exact h.elim
end Go.Proofs.Ytchjljmcgjlkiaa
