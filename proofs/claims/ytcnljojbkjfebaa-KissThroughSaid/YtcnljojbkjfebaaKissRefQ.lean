/-
Walk of the document's own Deframer.Byte where a byte behind FESC is held.
-/
import Derived.Test.YtcnljojbkjfebaaKissRefP
namespace Go.Proofs.Ytcnljojbkjfebaa
open Go.RowKit
set_option maxHeartbeats 1000000 in
theorem byte_2_push220 {av : Nat} (b : Nat) (most bad : Int) (held : List UInt8) (c : Nat) (w : World) (hav : av < w.heap.size) (hc : c = 220) (hpos : 0 < held.length) (hlen : held.length ≤ 4096) (hl : (held.length : Int) ≠ most) (hd : DefIs av w b most 2 bad held) :
    Calls Try.prog 25 #[.pointer (some ⟨b, 0, none⟩), .int .u8 c] w fun e w' => ByteTo av w b most 1 bad (held ++ [192]) noFrame e w' := by
  obtain ⟨i0, hi, hz0, hz1, hz2⟩ := info_parts info8
  obtain ⟨v, hD, hH⟩ := hd
  have HD := Lib.hid hD
  have HH := Lib.hid hH
  obtain ⟨a, cap, rfl⟩ := hH.len
  obtain ⟨⟨d0, d1, d2, d3⟩, z1, z2, z3⟩ := hD
  have hb : b < w.heap.size := World.block_lt_of_cell? w ⟨b, 0, none⟩ d0
  clear hH
  have t1 : ((c : Int) == 220) = true := by rw [hc]; rfl
  have t2 : ((c : Int) == 221) = false := by rw [hc]; rfl
  have t3 : ((c : Int) != 220) = false := by rw [hc]; rfl
  have t4 : ((c : Int) != 221) = true := by rw [hc]; rfl
  have t5 : ((c : Int) == 192) = false := by rw [hc]; rfl
  have t9 : ((held.length : Int) == most) = false := by rw [beq_eq_false_iff_ne]; exact hl
  clear hl hc
  go_enter Try.func25, Try.ntmps25
  go_wp2
  go_quiet (fail)
  have D2 := (((HD.out.place 1).alloc zf).alloc zf).drewN nq
  have G2 := grown_drewN (grown_alloc (grown_alloc (grown_set (grown_refl w _) (.int .i64 1) (g := b) (o := 1)) zf) zf) nq
  have H2 := (((HH.out.set (o := 1) (.int .i64 1)).alloc zf).alloc zf).drewN nq
  have hM := mid_cells (w.setCell ⟨b, 1, none⟩ (.int .i64 1)) w.heap.size nq (by simp [World.setCell]) #[.int .i64 0, .int .i64 0, .string ⟨#[]⟩] 30
  have hWs : ((((w.setCell ⟨b, 1, none⟩ (.int .i64 1)).alloc zf).alloc zf).drewN nq).heap.size = w.heap.size + 2 := by simp [World.drewN, World.setCell]
  clear d0 d1 d2 d3 z1 z2 z3
  generalize ((((w.setCell ⟨b, 1, none⟩ (.int .i64 1)).alloc zf).alloc zf).drewN nq) = W at *
  have HG := Lib.hid G2
  have HD2 := Lib.hid D2
  have HH2 := Lib.hid H2
  have HWS := Lib.hid hWs
  obtain ⟨g, hag, hgw, hgc⟩ := H2.row hpos
  subst hag
  have OW := Lib.hid (World.ownsRow_lit (base := W.heap.size) (e := 5) (size := 1) W #[] 0 (Nat.le_refl _) (by decide) rfl)
  have RW := Lib.hid (row_news (fun i hi => by rw [World.cell?_alloc_past (w := W) (.cells #[] 5) g i hgw]; exact hgc i hi) : ∀ j u, (bytesV held)[j]? = some u → (W.alloc (.cells #[] 5)).cell? ((⟨g, 0, none⟩ : Addr).add j) = some u)
  clear hgc
  have HM1 := Lib.hid hM.1
  have HM3 := Lib.hid hM.2.2
  obtain ⟨⟨d0, d1, d2, d3⟩, z1, z2, z3⟩ := D2
  have f0 := hM.2.1 0
  have f1 := hM.2.1 1
  have f2 := hM.2.1 2
  have hbW : b < W.heap.size := by omega
  have hwW : w.heap.size < W.heap.size := by omega
  have hwW1 : w.heap.size + 1 < W.heap.size := by omega
  clear hM G2 H2 hWs
  simp only [List.getElem?_toArray, List.getElem?_cons_zero, List.getElem?_cons_succ] at f0 f1 f2
  go_wp2_with (first
    | (at_builtin; refine wpList_append_own _ rfl (.tmp 122) (.tmp 126) 39 rfl W.heap.size 5 i0 (.int .u8 0) 1 1 Try.underlying39 hi hz0 hz1 hz2 rfl (by decide) _ _ _ rfl OW.out ⟨g, 0, none⟩ held.length cap (bytesV held) rfl (by simp [bytesV_length]) RW.out (bytesV_one _) (by unfold maxLen; omega) (by omega) (by simp) ?_; intro v1 w1 hown1 hg1 _; have HO1 := Lib.hid hown1; have BW1 := Lib.hid (((Below.refl _ W).alloc (Nat.le_refl _) (.cells #[] 5)).grown hg1 (by simp) (fun k hk => by cases hk; exact Nat.le_refl _)); have S1 := Lib.hid BW1.out.size; clear hown1 hg1)
    | (at_builtin; refine wpList_append_own _ rfl (.tmp 127) (.tmp 130) 39 rfl W.heap.size 5 i0 (.int .u8 0) 1 1 Try.underlying39 hi hz0 hz1 hz2 rfl (by decide) _ _ _ rfl (World.ownsRow.alloc HO1.out _) ⟨w1.heap.size, 0, none⟩ 1 1 (bytesV [192]) rfl rfl (cells_new w1 #[.int .u8 192] _) (bytesV_one _) (by unfold maxLen; omega) (by omega) (by have := S1.out; simp; omega) ?_; intro v2 w2 hown2 hg2 _; have HO2 := Lib.hid hown2; have BW2 := Lib.hid ((BW1.out.alloc S1.out _).grown hg2 (by have := S1.out; simp; omega) (fun k hk => (World.ownsRow.lt HO1.out k hk).1)); clear hown2 hg2; have HN := Lib.hid (own_pushed (x := 192) HO2.out); obtain ⟨g2, cap2, hv2⟩ := HN.out.slice (by simp); subst hv2; have HD3 := Lib.hid (HD2.out.below hbW BW2.out); obtain ⟨⟨e0, e1, e2, e3⟩, x1, x2, x3⟩ := HD3.out; have q0 := mid_below (i := 0) HM1.out hwW BW2.out; have q1 := mid_below (i := 1) HM1.out hwW BW2.out; have q2 := mid_below (i := 2) HM1.out hwW BW2.out; have y0 := mid_froz (i := 0) HM3.out hwW BW2.out; have y1 := mid_froz (i := 1) HM3.out hwW BW2.out; have y2 := mid_froz (i := 2) HM3.out hwW BW2.out; simp only [List.getElem?_toArray, List.getElem?_cons_zero, List.getElem?_cons_succ] at q0 q1 q2; have p0 := (BW2.out.cell (p := ⟨w.heap.size + 1, 0, none⟩) hwW1).trans f0; have p1 := (BW2.out.cell (p := ⟨w.heap.size + 1, 1, none⟩) hwW1).trans f1; have p2 := (BW2.out.cell (p := ⟨w.heap.size + 1, 2, none⟩) hwW1).trans f2))
  obtain ⟨s0, s1, s2⟩ := stored3 (W := w2.setCell ⟨b, 3, none⟩ (.slice (some ⟨g2, 0, none⟩) (held.length + 1) cap2)) (n := w.heap.size) (.int .i64 0) (.int .i64 0) (.string ⟨#[]⟩) (by rw [set_block _ _ _ _ _ _ (by omega)]; exact q0) (by rw [set_block _ _ _ _ _ _ (by omega)]; exact q1) (by rw [set_block _ _ _ _ _ _ (by omega)]; exact q2)
  have hle : (held ++ [192]).length = held.length + 1 := by simp
  have hN := HN.out
  have hD3 := HD3.out
  rw [hle] at hN
  have hlt := (World.ownsRow.lt hN g2 rfl).1
  have hno : ∀ g', (Value.slice (some ⟨g2, 0, none⟩) (held.length + 1) cap2).ownBlock = some g' → w.heap.size ≠ g' := fun g' h => by
    have : g2 = g' := by simpa [Value.ownBlock] using h
    omega
  have hV := heldV_own hN hbW (Nat.lt_trans hav hwW) (by omega)
  exact bodyPost_ret (v := noFrame) (by simp [results, Try.results25, go_sem, noFrame, s0, s1, s2]) rfl (byteTo rfl ⟨_, ((((hD3.held _).other (by omega) _).other (by omega) _).other (by omega) _), (((hV.set _).other hno _).other hno _).other hno _⟩
    (grown_new (grown_new (grown_new (grown_set (grown_below HG.out BW2.out) _) (Nat.le_refl _) _) (Nat.le_refl _) _) (Nat.le_refl _) _))
set_option maxHeartbeats 1000000 in
theorem byte_2_push220n {av : Nat} (b : Nat) (most bad : Int) (c : Nat) (w : World) (hav : av < w.heap.size) (hc : c = 220) (hl : (0 : Int) ≠ most) (hd : DefIs av w b most 2 bad []) :
    Calls Try.prog 25 #[.pointer (some ⟨b, 0, none⟩), .int .u8 c] w fun e w' => ByteTo av w b most 1 bad [192] noFrame e w' := by
  obtain ⟨i0, hi, hz0, hz1, hz2⟩ := info_parts info8
  obtain ⟨v, hD, hH⟩ := hd
  have HD := Lib.hid hD
  have HH := Lib.hid hH
  obtain rfl : v = .slice none 0 0 := by rcases hH with ⟨_, h⟩ | ⟨h, _⟩; exact h; exact absurd h (by simp)
  obtain ⟨⟨d0, d1, d2, d3⟩, z1, z2, z3⟩ := hD
  have hb : b < w.heap.size := World.block_lt_of_cell? w ⟨b, 0, none⟩ d0
  clear hH
  have t1 : ((c : Int) == 220) = true := by rw [hc]; rfl
  have t2 : ((c : Int) == 221) = false := by rw [hc]; rfl
  have t3 : ((c : Int) != 220) = false := by rw [hc]; rfl
  have t4 : ((c : Int) != 221) = true := by rw [hc]; rfl
  have t5 : ((c : Int) == 192) = false := by rw [hc]; rfl
  have t9 : ((0 : Int) == most) = false := by rw [beq_eq_false_iff_ne]; exact hl
  clear hl hc
  go_enter Try.func25, Try.ntmps25
  go_wp2
  go_quiet (fail)
  have D2 := (((HD.out.place 1).alloc zf).alloc zf).drewN nq
  have G2 := grown_drewN (grown_alloc (grown_alloc (grown_set (grown_refl w _) (.int .i64 1) (g := b) (o := 1)) zf) zf) nq
  have H2 := (((HH.out.set (o := 1) (.int .i64 1)).alloc zf).alloc zf).drewN nq
  have hM := mid_cells (w.setCell ⟨b, 1, none⟩ (.int .i64 1)) w.heap.size nq (by simp [World.setCell]) #[.int .i64 0, .int .i64 0, .string ⟨#[]⟩] 30
  have hWs : ((((w.setCell ⟨b, 1, none⟩ (.int .i64 1)).alloc zf).alloc zf).drewN nq).heap.size = w.heap.size + 2 := by simp [World.drewN, World.setCell]
  clear d0 d1 d2 d3 z1 z2 z3
  generalize ((((w.setCell ⟨b, 1, none⟩ (.int .i64 1)).alloc zf).alloc zf).drewN nq) = W at *
  have HG := Lib.hid G2
  have HD2 := Lib.hid D2
  have HH2 := Lib.hid H2
  have HWS := Lib.hid hWs
  have OW := Lib.hid (World.ownsRow_lit (base := W.heap.size) (e := 5) (size := 1) W #[] 0 (Nat.le_refl _) (by decide) rfl)
  have HM1 := Lib.hid hM.1
  have HM3 := Lib.hid hM.2.2
  obtain ⟨⟨d0, d1, d2, d3⟩, z1, z2, z3⟩ := D2
  have f0 := hM.2.1 0
  have f1 := hM.2.1 1
  have f2 := hM.2.1 2
  have hbW : b < W.heap.size := by omega
  have hwW : w.heap.size < W.heap.size := by omega
  have hwW1 : w.heap.size + 1 < W.heap.size := by omega
  clear hM G2 H2 hWs
  simp only [List.getElem?_toArray, List.getElem?_cons_zero, List.getElem?_cons_succ] at f0 f1 f2
  go_wp2_with (first
    | (at_builtin; refine wpList_append_own_none rfl (.tmp 122) (.tmp 126) 39 rfl W.heap.size 5 i0 1 Try.underlying39 hi _ 0 [] rfl OW.out rfl ?_)
    | (at_builtin; refine wpList_append_own _ rfl (.tmp 127) (.tmp 130) 39 rfl W.heap.size 5 i0 (.int .u8 0) 1 1 Try.underlying39 hi hz0 hz1 hz2 rfl (by decide) _ _ _ rfl (World.ownsRow.alloc OW.out _) ⟨W.heap.size + 1, 0, none⟩ 1 1 (bytesV [192]) rfl rfl (by have h := cells_new (W.alloc (.cells #[] 5)) #[.int .u8 192] 5; simp only [World.size_alloc] at h; exact h) (bytesV_one _) (by unfold maxLen; omega) (by omega) (by simp; omega) ?_; intro v2 w2 hown2 hg2 _; have HO2 := Lib.hid hown2; have BW2 := Lib.hid ((((Below.refl _ W).alloc (Nat.le_refl _) (.cells #[] 5)).alloc (by simp) _).grown hg2 (by simp; omega) (fun k hk => (World.ownsRow.lt OW.out k hk).1)); clear hown2 hg2; have HN := Lib.hid (own_pushed0 (x := 192) HO2.out); obtain ⟨g2, cap2, hv2⟩ := HN.out.slice (by simp); subst hv2; have HD3 := Lib.hid (HD2.out.below hbW BW2.out); obtain ⟨⟨e0, e1, e2, e3⟩, x1, x2, x3⟩ := HD3.out; have q0 := mid_below (i := 0) HM1.out hwW BW2.out; have q1 := mid_below (i := 1) HM1.out hwW BW2.out; have q2 := mid_below (i := 2) HM1.out hwW BW2.out; have y0 := mid_froz (i := 0) HM3.out hwW BW2.out; have y1 := mid_froz (i := 1) HM3.out hwW BW2.out; have y2 := mid_froz (i := 2) HM3.out hwW BW2.out; simp only [List.getElem?_toArray, List.getElem?_cons_zero, List.getElem?_cons_succ] at q0 q1 q2; have p0 := (BW2.out.cell (p := ⟨w.heap.size + 1, 0, none⟩) hwW1).trans f0; have p1 := (BW2.out.cell (p := ⟨w.heap.size + 1, 1, none⟩) hwW1).trans f1; have p2 := (BW2.out.cell (p := ⟨w.heap.size + 1, 2, none⟩) hwW1).trans f2))
  obtain ⟨s0, s1, s2⟩ := stored3 (W := w2.setCell ⟨b, 3, none⟩ (.slice (some ⟨g2, 0, none⟩) 1 cap2)) (n := w.heap.size) (.int .i64 0) (.int .i64 0) (.string ⟨#[]⟩) (by rw [set_block _ _ _ _ _ _ (by omega)]; exact q0) (by rw [set_block _ _ _ _ _ _ (by omega)]; exact q1) (by rw [set_block _ _ _ _ _ _ (by omega)]; exact q2)
  have hN := HN.out
  have hD3 := HD3.out
  have hlt := (World.ownsRow.lt hN g2 rfl).1
  have hno : ∀ g', (Value.slice (some ⟨g2, 0, none⟩) 1 cap2).ownBlock = some g' → w.heap.size ≠ g' := fun g' h => by
    have : g2 = g' := by simpa [Value.ownBlock] using h
    omega
  have hV := heldV_own hN hbW (Nat.lt_trans hav hwW) (by simp)
  exact bodyPost_ret (v := noFrame) (by simp [results, Try.results25, go_sem, noFrame, s0, s1, s2]) rfl (byteTo rfl ⟨_, ((((hD3.held _).other (by omega) _).other (by omega) _).other (by omega) _), (((hV.set _).other hno _).other hno _).other hno _⟩
    (grown_new (grown_new (grown_new (grown_set (grown_below HG.out BW2.out) _) (Nat.le_refl _) _) (Nat.le_refl _) _) (Nat.le_refl _) _))
set_option maxHeartbeats 1000000 in
theorem byte_2_push221 {av : Nat} (b : Nat) (most bad : Int) (held : List UInt8) (c : Nat) (w : World) (hav : av < w.heap.size) (hc : c = 221) (hpos : 0 < held.length) (hlen : held.length ≤ 4096) (hl : (held.length : Int) ≠ most) (hd : DefIs av w b most 2 bad held) :
    Calls Try.prog 25 #[.pointer (some ⟨b, 0, none⟩), .int .u8 c] w fun e w' => ByteTo av w b most 1 bad (held ++ [219]) noFrame e w' := by
  obtain ⟨i0, hi, hz0, hz1, hz2⟩ := info_parts info8
  obtain ⟨v, hD, hH⟩ := hd
  have HD := Lib.hid hD
  have HH := Lib.hid hH
  obtain ⟨a, cap, rfl⟩ := hH.len
  obtain ⟨⟨d0, d1, d2, d3⟩, z1, z2, z3⟩ := hD
  have hb : b < w.heap.size := World.block_lt_of_cell? w ⟨b, 0, none⟩ d0
  clear hH
  have t1 : ((c : Int) == 220) = false := by rw [hc]; rfl
  have t2 : ((c : Int) == 221) = true := by rw [hc]; rfl
  have t3 : ((c : Int) != 220) = true := by rw [hc]; rfl
  have t4 : ((c : Int) != 221) = false := by rw [hc]; rfl
  have t5 : ((c : Int) == 192) = false := by rw [hc]; rfl
  have t9 : ((held.length : Int) == most) = false := by rw [beq_eq_false_iff_ne]; exact hl
  clear hl hc
  go_enter Try.func25, Try.ntmps25
  go_wp2
  go_quiet (fail)
  have D2 := (((HD.out.place 1).alloc zf).alloc zf).drewN nq
  have G2 := grown_drewN (grown_alloc (grown_alloc (grown_set (grown_refl w _) (.int .i64 1) (g := b) (o := 1)) zf) zf) nq
  have H2 := (((HH.out.set (o := 1) (.int .i64 1)).alloc zf).alloc zf).drewN nq
  have hM := mid_cells (w.setCell ⟨b, 1, none⟩ (.int .i64 1)) w.heap.size nq (by simp [World.setCell]) #[.int .i64 0, .int .i64 0, .string ⟨#[]⟩] 30
  have hWs : ((((w.setCell ⟨b, 1, none⟩ (.int .i64 1)).alloc zf).alloc zf).drewN nq).heap.size = w.heap.size + 2 := by simp [World.drewN, World.setCell]
  clear d0 d1 d2 d3 z1 z2 z3
  generalize ((((w.setCell ⟨b, 1, none⟩ (.int .i64 1)).alloc zf).alloc zf).drewN nq) = W at *
  have HG := Lib.hid G2
  have HD2 := Lib.hid D2
  have HH2 := Lib.hid H2
  have HWS := Lib.hid hWs
  obtain ⟨g, hag, hgw, hgc⟩ := H2.row hpos
  subst hag
  have OW := Lib.hid (World.ownsRow_lit (base := W.heap.size) (e := 5) (size := 1) W #[] 0 (Nat.le_refl _) (by decide) rfl)
  have RW := Lib.hid (row_news (fun i hi => by rw [World.cell?_alloc_past (w := W) (.cells #[] 5) g i hgw]; exact hgc i hi) : ∀ j u, (bytesV held)[j]? = some u → (W.alloc (.cells #[] 5)).cell? ((⟨g, 0, none⟩ : Addr).add j) = some u)
  clear hgc
  have HM1 := Lib.hid hM.1
  have HM3 := Lib.hid hM.2.2
  obtain ⟨⟨d0, d1, d2, d3⟩, z1, z2, z3⟩ := D2
  have f0 := hM.2.1 0
  have f1 := hM.2.1 1
  have f2 := hM.2.1 2
  have hbW : b < W.heap.size := by omega
  have hwW : w.heap.size < W.heap.size := by omega
  have hwW1 : w.heap.size + 1 < W.heap.size := by omega
  clear hM G2 H2 hWs
  simp only [List.getElem?_toArray, List.getElem?_cons_zero, List.getElem?_cons_succ] at f0 f1 f2
  go_wp2_with (first
    | (at_builtin; refine wpList_append_own _ rfl (.tmp 122) (.tmp 126) 39 rfl W.heap.size 5 i0 (.int .u8 0) 1 1 Try.underlying39 hi hz0 hz1 hz2 rfl (by decide) _ _ _ rfl OW.out ⟨g, 0, none⟩ held.length cap (bytesV held) rfl (by simp [bytesV_length]) RW.out (bytesV_one _) (by unfold maxLen; omega) (by omega) (by simp) ?_; intro v1 w1 hown1 hg1 _; have HO1 := Lib.hid hown1; have BW1 := Lib.hid (((Below.refl _ W).alloc (Nat.le_refl _) (.cells #[] 5)).grown hg1 (by simp) (fun k hk => by cases hk; exact Nat.le_refl _)); have S1 := Lib.hid BW1.out.size; clear hown1 hg1)
    | (at_builtin; refine wpList_append_own _ rfl (.tmp 127) (.tmp 130) 39 rfl W.heap.size 5 i0 (.int .u8 0) 1 1 Try.underlying39 hi hz0 hz1 hz2 rfl (by decide) _ _ _ rfl (World.ownsRow.alloc HO1.out _) ⟨w1.heap.size, 0, none⟩ 1 1 (bytesV [219]) rfl rfl (cells_new w1 #[.int .u8 219] _) (bytesV_one _) (by unfold maxLen; omega) (by omega) (by have := S1.out; simp; omega) ?_; intro v2 w2 hown2 hg2 _; have HO2 := Lib.hid hown2; have BW2 := Lib.hid ((BW1.out.alloc S1.out _).grown hg2 (by have := S1.out; simp; omega) (fun k hk => (World.ownsRow.lt HO1.out k hk).1)); clear hown2 hg2; have HN := Lib.hid (own_pushed (x := 219) HO2.out); obtain ⟨g2, cap2, hv2⟩ := HN.out.slice (by simp); subst hv2; have HD3 := Lib.hid (HD2.out.below hbW BW2.out); obtain ⟨⟨e0, e1, e2, e3⟩, x1, x2, x3⟩ := HD3.out; have q0 := mid_below (i := 0) HM1.out hwW BW2.out; have q1 := mid_below (i := 1) HM1.out hwW BW2.out; have q2 := mid_below (i := 2) HM1.out hwW BW2.out; have y0 := mid_froz (i := 0) HM3.out hwW BW2.out; have y1 := mid_froz (i := 1) HM3.out hwW BW2.out; have y2 := mid_froz (i := 2) HM3.out hwW BW2.out; simp only [List.getElem?_toArray, List.getElem?_cons_zero, List.getElem?_cons_succ] at q0 q1 q2; have p0 := (BW2.out.cell (p := ⟨w.heap.size + 1, 0, none⟩) hwW1).trans f0; have p1 := (BW2.out.cell (p := ⟨w.heap.size + 1, 1, none⟩) hwW1).trans f1; have p2 := (BW2.out.cell (p := ⟨w.heap.size + 1, 2, none⟩) hwW1).trans f2))
  obtain ⟨s0, s1, s2⟩ := stored3 (W := w2.setCell ⟨b, 3, none⟩ (.slice (some ⟨g2, 0, none⟩) (held.length + 1) cap2)) (n := w.heap.size) (.int .i64 0) (.int .i64 0) (.string ⟨#[]⟩) (by rw [set_block _ _ _ _ _ _ (by omega)]; exact q0) (by rw [set_block _ _ _ _ _ _ (by omega)]; exact q1) (by rw [set_block _ _ _ _ _ _ (by omega)]; exact q2)
  have hle : (held ++ [219]).length = held.length + 1 := by simp
  have hN := HN.out
  have hD3 := HD3.out
  rw [hle] at hN
  have hlt := (World.ownsRow.lt hN g2 rfl).1
  have hno : ∀ g', (Value.slice (some ⟨g2, 0, none⟩) (held.length + 1) cap2).ownBlock = some g' → w.heap.size ≠ g' := fun g' h => by
    have : g2 = g' := by simpa [Value.ownBlock] using h
    omega
  have hV := heldV_own hN hbW (Nat.lt_trans hav hwW) (by omega)
  exact bodyPost_ret (v := noFrame) (by simp [results, Try.results25, go_sem, noFrame, s0, s1, s2]) rfl (byteTo rfl ⟨_, ((((hD3.held _).other (by omega) _).other (by omega) _).other (by omega) _), (((hV.set _).other hno _).other hno _).other hno _⟩
    (grown_new (grown_new (grown_new (grown_set (grown_below HG.out BW2.out) _) (Nat.le_refl _) _) (Nat.le_refl _) _) (Nat.le_refl _) _))
set_option maxHeartbeats 1000000 in
theorem byte_2_push221n {av : Nat} (b : Nat) (most bad : Int) (c : Nat) (w : World) (hav : av < w.heap.size) (hc : c = 221) (hl : (0 : Int) ≠ most) (hd : DefIs av w b most 2 bad []) :
    Calls Try.prog 25 #[.pointer (some ⟨b, 0, none⟩), .int .u8 c] w fun e w' => ByteTo av w b most 1 bad [219] noFrame e w' := by
  obtain ⟨i0, hi, hz0, hz1, hz2⟩ := info_parts info8
  obtain ⟨v, hD, hH⟩ := hd
  have HD := Lib.hid hD
  have HH := Lib.hid hH
  obtain rfl : v = .slice none 0 0 := by rcases hH with ⟨_, h⟩ | ⟨h, _⟩; exact h; exact absurd h (by simp)
  obtain ⟨⟨d0, d1, d2, d3⟩, z1, z2, z3⟩ := hD
  have hb : b < w.heap.size := World.block_lt_of_cell? w ⟨b, 0, none⟩ d0
  clear hH
  have t1 : ((c : Int) == 220) = false := by rw [hc]; rfl
  have t2 : ((c : Int) == 221) = true := by rw [hc]; rfl
  have t3 : ((c : Int) != 220) = true := by rw [hc]; rfl
  have t4 : ((c : Int) != 221) = false := by rw [hc]; rfl
  have t5 : ((c : Int) == 192) = false := by rw [hc]; rfl
  have t9 : ((0 : Int) == most) = false := by rw [beq_eq_false_iff_ne]; exact hl
  clear hl hc
  go_enter Try.func25, Try.ntmps25
  go_wp2
  go_quiet (fail)
  have D2 := (((HD.out.place 1).alloc zf).alloc zf).drewN nq
  have G2 := grown_drewN (grown_alloc (grown_alloc (grown_set (grown_refl w _) (.int .i64 1) (g := b) (o := 1)) zf) zf) nq
  have H2 := (((HH.out.set (o := 1) (.int .i64 1)).alloc zf).alloc zf).drewN nq
  have hM := mid_cells (w.setCell ⟨b, 1, none⟩ (.int .i64 1)) w.heap.size nq (by simp [World.setCell]) #[.int .i64 0, .int .i64 0, .string ⟨#[]⟩] 30
  have hWs : ((((w.setCell ⟨b, 1, none⟩ (.int .i64 1)).alloc zf).alloc zf).drewN nq).heap.size = w.heap.size + 2 := by simp [World.drewN, World.setCell]
  clear d0 d1 d2 d3 z1 z2 z3
  generalize ((((w.setCell ⟨b, 1, none⟩ (.int .i64 1)).alloc zf).alloc zf).drewN nq) = W at *
  have HG := Lib.hid G2
  have HD2 := Lib.hid D2
  have HH2 := Lib.hid H2
  have HWS := Lib.hid hWs
  have OW := Lib.hid (World.ownsRow_lit (base := W.heap.size) (e := 5) (size := 1) W #[] 0 (Nat.le_refl _) (by decide) rfl)
  have HM1 := Lib.hid hM.1
  have HM3 := Lib.hid hM.2.2
  obtain ⟨⟨d0, d1, d2, d3⟩, z1, z2, z3⟩ := D2
  have f0 := hM.2.1 0
  have f1 := hM.2.1 1
  have f2 := hM.2.1 2
  have hbW : b < W.heap.size := by omega
  have hwW : w.heap.size < W.heap.size := by omega
  have hwW1 : w.heap.size + 1 < W.heap.size := by omega
  clear hM G2 H2 hWs
  simp only [List.getElem?_toArray, List.getElem?_cons_zero, List.getElem?_cons_succ] at f0 f1 f2
  go_wp2_with (first
    | (at_builtin; refine wpList_append_own_none rfl (.tmp 122) (.tmp 126) 39 rfl W.heap.size 5 i0 1 Try.underlying39 hi _ 0 [] rfl OW.out rfl ?_)
    | (at_builtin; refine wpList_append_own _ rfl (.tmp 127) (.tmp 130) 39 rfl W.heap.size 5 i0 (.int .u8 0) 1 1 Try.underlying39 hi hz0 hz1 hz2 rfl (by decide) _ _ _ rfl (World.ownsRow.alloc OW.out _) ⟨W.heap.size + 1, 0, none⟩ 1 1 (bytesV [219]) rfl rfl (by have h := cells_new (W.alloc (.cells #[] 5)) #[.int .u8 219] 5; simp only [World.size_alloc] at h; exact h) (bytesV_one _) (by unfold maxLen; omega) (by omega) (by simp; omega) ?_; intro v2 w2 hown2 hg2 _; have HO2 := Lib.hid hown2; have BW2 := Lib.hid ((((Below.refl _ W).alloc (Nat.le_refl _) (.cells #[] 5)).alloc (by simp) _).grown hg2 (by simp; omega) (fun k hk => (World.ownsRow.lt OW.out k hk).1)); clear hown2 hg2; have HN := Lib.hid (own_pushed0 (x := 219) HO2.out); obtain ⟨g2, cap2, hv2⟩ := HN.out.slice (by simp); subst hv2; have HD3 := Lib.hid (HD2.out.below hbW BW2.out); obtain ⟨⟨e0, e1, e2, e3⟩, x1, x2, x3⟩ := HD3.out; have q0 := mid_below (i := 0) HM1.out hwW BW2.out; have q1 := mid_below (i := 1) HM1.out hwW BW2.out; have q2 := mid_below (i := 2) HM1.out hwW BW2.out; have y0 := mid_froz (i := 0) HM3.out hwW BW2.out; have y1 := mid_froz (i := 1) HM3.out hwW BW2.out; have y2 := mid_froz (i := 2) HM3.out hwW BW2.out; simp only [List.getElem?_toArray, List.getElem?_cons_zero, List.getElem?_cons_succ] at q0 q1 q2; have p0 := (BW2.out.cell (p := ⟨w.heap.size + 1, 0, none⟩) hwW1).trans f0; have p1 := (BW2.out.cell (p := ⟨w.heap.size + 1, 1, none⟩) hwW1).trans f1; have p2 := (BW2.out.cell (p := ⟨w.heap.size + 1, 2, none⟩) hwW1).trans f2))
  obtain ⟨s0, s1, s2⟩ := stored3 (W := w2.setCell ⟨b, 3, none⟩ (.slice (some ⟨g2, 0, none⟩) 1 cap2)) (n := w.heap.size) (.int .i64 0) (.int .i64 0) (.string ⟨#[]⟩) (by rw [set_block _ _ _ _ _ _ (by omega)]; exact q0) (by rw [set_block _ _ _ _ _ _ (by omega)]; exact q1) (by rw [set_block _ _ _ _ _ _ (by omega)]; exact q2)
  have hN := HN.out
  have hD3 := HD3.out
  have hlt := (World.ownsRow.lt hN g2 rfl).1
  have hno : ∀ g', (Value.slice (some ⟨g2, 0, none⟩) 1 cap2).ownBlock = some g' → w.heap.size ≠ g' := fun g' h => by
    have : g2 = g' := by simpa [Value.ownBlock] using h
    omega
  have hV := heldV_own hN hbW (Nat.lt_trans hav hwW) (by simp)
  exact bodyPost_ret (v := noFrame) (by simp [results, Try.results25, go_sem, noFrame, s0, s1, s2]) rfl (byteTo rfl ⟨_, ((((hD3.held _).other (by omega) _).other (by omega) _).other (by omega) _), (((hV.set _).other hno _).other hno _).other hno _⟩
    (grown_new (grown_new (grown_new (grown_set (grown_below HG.out BW2.out) _) (Nat.le_refl _) _) (Nat.le_refl _) _) (Nat.le_refl _) _))
end Go.Proofs.Ytcnljojbkjfebaa
