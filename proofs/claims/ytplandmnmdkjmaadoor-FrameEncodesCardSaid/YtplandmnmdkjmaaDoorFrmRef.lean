/-
The document's own look at a frame: which kinds have a number, which information; what is wrong with one.
-/
import Derived.Test.YtplandmnmdkjmaaDoorFrmCFault
import Derived.Test.YtplandmnmdkjmaaDoorPathRRight
import Derived.Test.YtplandmnmdkjmaaDoorCtlRef
namespace Go.Proofs.YtplandmnmdkjmaaDoor
open Go.RowKit Go.Sort
set_option maxRecDepth 20000
theorem rhaspid_any (k : Int) (w : World) : Calls Tryd.prog 26 #[.int .i64 k] w fun e w' => e = .returned (.bool (pidD k)) ∧ w' = w := by
  by_cases h : k = 1
  · subst h
    go_enter Tryd.func26, Tryd.ntmps26
    go_wp2
    go_ret
    exact ⟨rfl, rfl⟩
  · have d1 : (k == 1) = false := by simpa using h
    go_enter Tryd.func26, Tryd.ntmps26
    go_wp2
    go_ret
    exact ⟨by simp [pidD, h]; rfl, rfl⟩
theorem info_doc (k : Int) : infoC k = (decide (k = 1) || (decide (11 ≤ k) && decide (k ≤ 14))) := by
  unfold infoC
  rw [Bool.eq_iff_iff]
  simp only [Bool.or_eq_true, Bool.and_eq_true, decide_eq_true_eq]
  omega
theorem rhasinfo_any (k : Int) (w : World) : Calls Tryd.prog 53 #[.int .i64 k] w fun e w' => e = .returned (.bool (infoC k)) ∧ w' = w := by
  rw [info_doc]
  by_cases h : k = 1
  · subst h
    go_enter Tryd.func53, Tryd.ntmps53
    go_wp2
    go_ret
    exact ⟨rfl, rfl⟩
  · have d1 : (k == 1) = false := by simpa using h
    have e1 : decide (k = 1) = false := decide_eq_false h
    by_cases h2 : 11 ≤ k
    · have d2 : decide (11 ≤ k) = true := decide_eq_true h2
      by_cases h3 : k ≤ 14
      · have d3 : decide (k ≤ 14) = true := decide_eq_true h3
        go_enter Tryd.func53, Tryd.ntmps53
        go_wp2
        go_ret
        exact ⟨by first | rfl | (rw [e1, d2, d3]; rfl), rfl⟩
      · have d3 : decide (k ≤ 14) = false := decide_eq_false h3
        go_enter Tryd.func53, Tryd.ntmps53
        go_wp2
        go_ret
        exact ⟨by first | rfl | (rw [e1, d2, d3]; rfl), rfl⟩
    · have d2 : decide (11 ≤ k) = false := decide_eq_false h2
      go_enter Tryd.func53, Tryd.ntmps53
      go_wp2
      go_ret
      exact ⟨by first | rfl | (rw [e1, d2]; rfl), rfl⟩
set_option maxHeartbeats 1000000 in
theorem rinfo_any (wa : Option Addr) (wn wc : Nat) (k nr ns : Int) (pf : Bool) (pid : Int) (info : ByteArray) (w : World) :
    Calls Tryd.prog 27 #[.agg #[.slice wa wn wc, .int .i64 k, .int .i64 nr, .int .i64 ns, .bool pf, .int .i64 pid, .string info]] w fun e w' => e = .returned (.int .i64 (infE k info.size : Nat)) ∧ Below w.heap.size w w' := by
  unfold infE
  by_cases h0 : info.size = 0
  · rw [if_pos h0]
    obtain rfl := txt_none info h0
    have HB0 := Lib.hid ((Below.refl _ w).alloc (Nat.le_refl _) (.cells #[.slice wa wn wc, .int .i64 k, .int .i64 nr, .int .i64 ns, .bool pf, .int .i64 pid, .string ⟨#[]⟩] 38))
    go_enter Tryd.func27, Tryd.ntmps27
    go_wp2_with fail
    go_ret
    exact ⟨rfl, HB0.out⟩
  · rw [if_neg h0]
    have HB0 := Lib.hid ((Below.refl _ w).alloc (Nat.le_refl _) (.cells #[.slice wa wn wc, .int .i64 k, .int .i64 nr, .int .i64 ns, .bool pf, .int .i64 pid, .string info] 38))
    have hi := fun W => rhasinfo_any k W
    have he := txt_some info h0
    cases h : infoC k
    · rw [h] at hi
      have HI := Lib.hid hi
      clear hi h
      go_enter Tryd.func27, Tryd.ntmps27
      go_wp2_with (go_at_call 53; (with_reducible refine (HI.out _).mono ?_); rintro e w1 ⟨rfl, rfl⟩)
      go_ret
      exact ⟨rfl, HB0.out⟩
    · rw [h] at hi
      have HI := Lib.hid hi
      clear hi h
      by_cases h2 : 256 < info.size
      · have d2 : decide ((256 : Int) < (info.size : Int)) = true := decide_eq_true (by omega)
        rw [if_pos rfl, if_pos h2]
        go_enter Tryd.func27, Tryd.ntmps27
        go_wp2_with (go_at_call 53; (with_reducible refine (HI.out _).mono ?_); rintro e w1 ⟨rfl, rfl⟩)
        go_ret
        exact ⟨rfl, HB0.out⟩
      · have d2 : decide ((256 : Int) < (info.size : Int)) = false := decide_eq_false (by omega)
        rw [if_pos rfl, if_neg h2]
        go_enter Tryd.func27, Tryd.ntmps27
        go_wp2_with (go_at_call 53; (with_reducible refine (HI.out _).mono ?_); rintro e w1 ⟨rfl, rfl⟩)
        go_ret
        exact ⟨rfl, HB0.out⟩
set_option maxHeartbeats 1000000 in
theorem rwrong_any (wa : Option Addr) (wc : Nat) (L : List Ent) (k nr ns : Int) (pf : Bool) (pid : Int) (info : ByteArray) (wide : Bool) (w : World) (hL : L.length ≤ 1000) (hE : EntsAt w wa wc L) :
    Calls Tryd.prog 9 #[.agg #[.slice wa L.length wc, .int .i64 k, .int .i64 nr, .int .i64 ns, .bool pf, .int .i64 pid, .string info], .bool wide] w fun e w' => e = .returned (.int .i64 (wrongF L k nr ns wide pid info.size : Nat)) ∧ Below w.heap.size w w' := by
  have HB0 := Lib.hid ((Below.refl _ w).alloc (Nat.le_refl _) (.cells #[.slice wa L.length wc, .int .i64 k, .int .i64 nr, .int .i64 ns, .bool pf, .int .i64 pid, .string info] 38))
  have HF0 := Lib.hid (P7.new w w.heap.size rfl (.slice wa L.length wc) (.int .i64 k) (.int .i64 nr) (.int .i64 ns) (.bool pf) (.int .i64 pid) (.string info) 38)
  have hpr := fun W (h : Below w.heap.size w W) => rpright_any wa wc L W hL (hE.below h)
  have hcr := fun W => rright6_any k nr ns pf wide W
  have hha := fun W => rhaspid_any k W
  have HIN := Lib.hid (fun W => rinfo_any wa L.length wc k nr ns pf pid info W)
  have h1 := @wrong_path L k nr ns wide pid info.size
  have h2 := @wrong_arg L k nr ns wide pid info.size
  have h3 := @wrong_info L k nr ns wide pid info.size
  unfold pidOk at h2 h3
  generalize wrongF L k nr ns wide pid info.size = G at *
  generalize rightP L = R at *
  generalize rightC k nr ns wide = C at *
  generalize infE k info.size = I at *
  cases R
  · obtain rfl := h1 rfl
    have HPR := Lib.hid hpr
    clear hpr hcr hha h1 h2 h3 hE
    go_enter Tryd.func9, Tryd.ntmps9
    go_wp2_with (first
      | (go_at_call 24; (with_reducible refine (HPR.out _ HB0.out).mono ?_); rintro e w1 ⟨rfl, hb⟩; have HB := Lib.hid (HB0.out.trans (hb.mono HB0.out.size)); have HF := Lib.hid (HF0.out.below hb); clear hb; obtain ⟨⟨p0, -, pl⟩, ⟨p1, -, -⟩, ⟨p2, -, -⟩, ⟨p3, -, -⟩, ⟨p4, -, -⟩, ⟨p5, -, -⟩, ⟨p6, -, -⟩⟩ := HF.out))
    go_ret
    exact ⟨rfl, HB.out⟩
  · have HPR := Lib.hid hpr
    have HCR := Lib.hid hcr
    clear hpr hcr hE h1
    cases C
    · obtain rfl := h2 rfl rfl
      clear h2 h3 hha
      go_enter Tryd.func9, Tryd.ntmps9
      go_wp2_with (first
        | (go_at_call 24; (with_reducible refine (HPR.out _ HB0.out).mono ?_); rintro e w1 ⟨rfl, hb⟩; have HB := Lib.hid (HB0.out.trans (hb.mono HB0.out.size)); have HF := Lib.hid (HF0.out.below hb); clear hb; obtain ⟨⟨p0, -, pl⟩, ⟨p1, -, -⟩, ⟨p2, -, -⟩, ⟨p3, -, -⟩, ⟨p4, -, -⟩, ⟨p5, -, -⟩, ⟨p6, -, -⟩⟩ := HF.out)
        | (go_at_call 25; (with_reducible refine (HCR.out _).mono ?_); rintro e w2 ⟨rfl, hb⟩; replace HB := Lib.hid (HB.out.trans (hb.mono HB.out.size)); replace HF := Lib.hid (HF.out.below hb); clear hb; clear p0 pl p1 p2 p3 p4 p5 p6; obtain ⟨⟨p0, -, pl⟩, ⟨p1, -, -⟩, ⟨p2, -, -⟩, ⟨p3, -, -⟩, ⟨p4, -, -⟩, ⟨p5, -, -⟩, ⟨p6, -, -⟩⟩ := HF.out))
      go_ret
      exact ⟨rfl, HB.out⟩
    · by_cases hn : pid < 0
      · have dn : decide (pid < 0) = true := decide_eq_true hn
        obtain rfl := h2 rfl (by split <;> simp <;> omega)
        clear h2 h3 hha
        go_enter Tryd.func9, Tryd.ntmps9
        go_wp2_with (first
          | (go_at_call 24; (with_reducible refine (HPR.out _ HB0.out).mono ?_); rintro e w1 ⟨rfl, hb⟩; have HB := Lib.hid (HB0.out.trans (hb.mono HB0.out.size)); have HF := Lib.hid (HF0.out.below hb); clear hb; obtain ⟨⟨p0, -, pl⟩, ⟨p1, -, -⟩, ⟨p2, -, -⟩, ⟨p3, -, -⟩, ⟨p4, -, -⟩, ⟨p5, -, -⟩, ⟨p6, -, -⟩⟩ := HF.out)
          | (go_at_call 25; (with_reducible refine (HCR.out _).mono ?_); rintro e w2 ⟨rfl, hb⟩; replace HB := Lib.hid (HB.out.trans (hb.mono HB.out.size)); replace HF := Lib.hid (HF.out.below hb); clear hb; clear p0 pl p1 p2 p3 p4 p5 p6; obtain ⟨⟨p0, -, pl⟩, ⟨p1, -, -⟩, ⟨p2, -, -⟩, ⟨p3, -, -⟩, ⟨p4, -, -⟩, ⟨p5, -, -⟩, ⟨p6, -, -⟩⟩ := HF.out))
        go_ret
        exact ⟨rfl, HB.out⟩
      · have dn : decide (pid < 0) = false := decide_eq_false hn
        by_cases hg : 255 < pid
        · have dg : decide (255 < pid) = true := decide_eq_true hg
          obtain rfl := h2 rfl (by split <;> simp <;> omega)
          clear h2 h3 hha
          go_enter Tryd.func9, Tryd.ntmps9
          go_wp2_with (first
            | (go_at_call 24; (with_reducible refine (HPR.out _ HB0.out).mono ?_); rintro e w1 ⟨rfl, hb⟩; have HB := Lib.hid (HB0.out.trans (hb.mono HB0.out.size)); have HF := Lib.hid (HF0.out.below hb); clear hb; obtain ⟨⟨p0, -, pl⟩, ⟨p1, -, -⟩, ⟨p2, -, -⟩, ⟨p3, -, -⟩, ⟨p4, -, -⟩, ⟨p5, -, -⟩, ⟨p6, -, -⟩⟩ := HF.out)
            | (go_at_call 25; (with_reducible refine (HCR.out _).mono ?_); rintro e w2 ⟨rfl, hb⟩; replace HB := Lib.hid (HB.out.trans (hb.mono HB.out.size)); replace HF := Lib.hid (HF.out.below hb); clear hb; clear p0 pl p1 p2 p3 p4 p5 p6; obtain ⟨⟨p0, -, pl⟩, ⟨p1, -, -⟩, ⟨p2, -, -⟩, ⟨p3, -, -⟩, ⟨p4, -, -⟩, ⟨p5, -, -⟩, ⟨p6, -, -⟩⟩ := HF.out))
          go_ret
          exact ⟨rfl, HB.out⟩
        · have dg : decide (255 < pid) = false := decide_eq_false hg
          by_cases hz : 0 < pid
          · have dz : decide (0 < pid) = true := decide_eq_true hz
            cases hp : pidD k
            · rw [hp] at hha h2
              have HHA := Lib.hid hha
              obtain rfl := h2 rfl (by simp; omega)
              clear h2 h3 hha hp
              go_enter Tryd.func9, Tryd.ntmps9
              go_wp2_with (first
                | (go_at_call 24; (with_reducible refine (HPR.out _ HB0.out).mono ?_); rintro e w1 ⟨rfl, hb⟩; have HB := Lib.hid (HB0.out.trans (hb.mono HB0.out.size)); have HF := Lib.hid (HF0.out.below hb); clear hb; obtain ⟨⟨p0, -, pl⟩, ⟨p1, -, -⟩, ⟨p2, -, -⟩, ⟨p3, -, -⟩, ⟨p4, -, -⟩, ⟨p5, -, -⟩, ⟨p6, -, -⟩⟩ := HF.out)
                | (go_at_call 25; (with_reducible refine (HCR.out _).mono ?_); rintro e w2 ⟨rfl, hb⟩; replace HB := Lib.hid (HB.out.trans (hb.mono HB.out.size)); replace HF := Lib.hid (HF.out.below hb); clear hb; clear p0 pl p1 p2 p3 p4 p5 p6; obtain ⟨⟨p0, -, pl⟩, ⟨p1, -, -⟩, ⟨p2, -, -⟩, ⟨p3, -, -⟩, ⟨p4, -, -⟩, ⟨p5, -, -⟩, ⟨p6, -, -⟩⟩ := HF.out)
                | (go_at_call 26; (with_reducible refine (HHA.out _).mono ?_); rintro e w3 ⟨rfl, rfl⟩))
              go_ret
              exact ⟨rfl, HB.out⟩
            · rw [hp] at hha h3
              have HHA := Lib.hid hha
              obtain rfl := h3 rfl (by simp; omega)
              clear h2 h3 hha hp
              go_enter Tryd.func9, Tryd.ntmps9
              go_wp2_with (first
                | (go_at_call 24; (with_reducible refine (HPR.out _ HB0.out).mono ?_); rintro e w1 ⟨rfl, hb⟩; have HB := Lib.hid (HB0.out.trans (hb.mono HB0.out.size)); have HF := Lib.hid (HF0.out.below hb); clear hb; obtain ⟨⟨p0, -, pl⟩, ⟨p1, -, -⟩, ⟨p2, -, -⟩, ⟨p3, -, -⟩, ⟨p4, -, -⟩, ⟨p5, -, -⟩, ⟨p6, -, -⟩⟩ := HF.out)
                | (go_at_call 25; (with_reducible refine (HCR.out _).mono ?_); rintro e w2 ⟨rfl, hb⟩; replace HB := Lib.hid (HB.out.trans (hb.mono HB.out.size)); replace HF := Lib.hid (HF.out.below hb); clear hb; clear p0 pl p1 p2 p3 p4 p5 p6; obtain ⟨⟨p0, -, pl⟩, ⟨p1, -, -⟩, ⟨p2, -, -⟩, ⟨p3, -, -⟩, ⟨p4, -, -⟩, ⟨p5, -, -⟩, ⟨p6, -, -⟩⟩ := HF.out)
                | (go_at_call 26; (with_reducible refine (HHA.out _).mono ?_); rintro e w3 ⟨rfl, rfl⟩)
                | (go_at_call 27; (with_reducible refine (HIN.out _).mono ?_); rintro e w4 ⟨rfl, hb⟩; replace HB := Lib.hid (HB.out.trans (hb.mono HB.out.size)); clear hb))
              go_ret
              exact ⟨rfl, HB.out⟩
          · have dz : decide (0 < pid) = false := decide_eq_false hz
            obtain rfl : pid = 0 := by omega
            obtain rfl := h3 rfl (by split <;> simp)
            clear h2 h3 hha
            go_enter Tryd.func9, Tryd.ntmps9
            go_wp2_with (first
              | (go_at_call 24; (with_reducible refine (HPR.out _ HB0.out).mono ?_); rintro e w1 ⟨rfl, hb⟩; have HB := Lib.hid (HB0.out.trans (hb.mono HB0.out.size)); have HF := Lib.hid (HF0.out.below hb); clear hb; obtain ⟨⟨p0, -, pl⟩, ⟨p1, -, -⟩, ⟨p2, -, -⟩, ⟨p3, -, -⟩, ⟨p4, -, -⟩, ⟨p5, -, -⟩, ⟨p6, -, -⟩⟩ := HF.out)
              | (go_at_call 25; (with_reducible refine (HCR.out _).mono ?_); rintro e w2 ⟨rfl, hb⟩; replace HB := Lib.hid (HB.out.trans (hb.mono HB.out.size)); replace HF := Lib.hid (HF.out.below hb); clear hb; clear p0 pl p1 p2 p3 p4 p5 p6; obtain ⟨⟨p0, -, pl⟩, ⟨p1, -, -⟩, ⟨p2, -, -⟩, ⟨p3, -, -⟩, ⟨p4, -, -⟩, ⟨p5, -, -⟩, ⟨p6, -, -⟩⟩ := HF.out)
              | (go_at_call 27; (with_reducible refine (HIN.out _).mono ?_); rintro e w4 ⟨rfl, hb⟩; replace HB := Lib.hid (HB.out.trans (hb.mono HB.out.size)); clear hb))
            go_ret
            exact ⟨rfl, HB.out⟩
end Go.Proofs.YtplandmnmdkjmaaDoor
