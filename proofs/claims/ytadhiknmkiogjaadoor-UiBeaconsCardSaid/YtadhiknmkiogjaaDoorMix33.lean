/-
The document's own Right of paths.
The document's own look at a frame: which kinds have a number, which information; what is wrong with one.
-/
import Derived.Test.YtadhiknmkiogjaaDoorMix05
import Derived.Test.YtadhiknmkiogjaaDoorMix17
import Derived.Test.YtadhiknmkiogjaaDoorCtlRRight
namespace Go.Proofs.YtadhiknmkiogjaaDoor
open Go.RowKit Go.Sort
set_option maxRecDepth 20000
set_option maxHeartbeats 1000000 in
theorem rpright_any (a : Option Addr) (cap : Nat) (L : List Ent) (w : World) (hL : L.length ≤ 1000) (hE : EntsAt w a cap L) :
    Calls Tryd.prog 35 #[.agg #[.slice a L.length cap]] w fun e w' => e = .returned (.bool (rightP L)) ∧ Below w.heap.size w w' := by
  have HB0 := Lib.hid ((Below.refl _ w).alloc (Nat.le_refl _) (.cells #[.slice a L.length cap] 70))
  have HE := Lib.hid hE
  have HR := Lib.hid (fun b n W => rcright_any b n W)
  have HORD := Lib.hid (fun W (h : Below w.heap.size w W) => rordered_any a cap L W hL (hE.below h))
  have HN := Lib.hid (show ∀ k (h : k < L.length), rightD L[k].1 L[k].2.1 = false → rightP L = false from fun k h hx => by
    unfold rightP
    have : (L.all fun e => rightD e.1 e.2.1) = false := by
      rw [List.all_eq_false]
      exact ⟨L[k], List.getElem_mem h, by rw [hx]; simp⟩
    rw [this]
    rfl)
  have HY := Lib.hid (show (∀ k (h : k < L.length), rightD L[k].1 L[k].2.1 = true) → rightP L = (decide (2 ≤ L.length) && decide (L.length ≤ 10) && ordD (L.drop 2)) from fun hx => by
    unfold rightP
    have : (L.all fun e => rightD e.1 e.2.1) = true := by
      rw [List.all_eq_true]
      intro x hm
      obtain ⟨i, hi, rfl⟩ := List.getElem_of_mem hm
      exact hx i hi
    rw [this, Bool.true_and])
  obtain ⟨R, hR⟩ : ∃ R, R = rightP L := ⟨_, rfl⟩
  rw [← hR] at HN HY ⊢
  clear hE hR
  go_enter Tryd.func35, Tryd.ntmps35
  go_wp2
  go_loopw [3] (fun i wx => ∃ k : Nat, k ≤ L.length ∧ i = .int .i64 k ∧ Hid ((∀ j (hj : j < k), ∀ hl : j < L.length, rightD L[j].1 L[j].2.1 = true) ∧ Below w.heap.size w wx ∧ KeepAt wx w.heap.size 0 (.slice a L.length cap))) (fun i _ => L.length - (intOf i).toNat)
  case atStart => exact ⟨0, by omega, rfl, Lib.hid ⟨fun j hj => by omega, HB0.out, World.cell?_alloc_at _ _ _ _ rfl, World.frozen?_alloc_at _ _ _ _ rfl, by simp⟩⟩
  case round =>
    obtain ⟨k, hk, rfl, HK⟩ := hrel
    have kc := HK.out.2.2.cell
    have kl := HK.out.2.2.lt
    by_cases hlt : k < L.length
    · have dk : decide ((k : Int) < (L.length : Int)) = true := decide_eq_true (by omega)
      obtain ⟨g, o, rfl, hg, c0, c1, c2⟩ := (HE.out.below HK.out.2.1).at_ k hlt
      have HD := Lib.hid (show ∀ b, rightD L[k].1 L[k].2.1 = b → rightD L[k].1 L[k].2.1 = b from fun b h => h)
      have HN2 := Lib.hid (HN.out k hlt)
      generalize hd : L[k] = d at *
      obtain ⟨db, dn, dm⟩ := d
      simp only at c0 c1 c2 HD HN2
      have HDD := Lib.hid hd
      clear hd HD
      have HRR := Lib.hid (HR.out db dn)
      cases hr : rightD db dn
      · have hf := HN2.out hr
        subst hf
        rw [hr] at HRR
        go_wp2_with (go_at_call 14; (with_reducible refine (HRR.out _).mono ?_); rintro e w1 ⟨rfl, hb⟩; have HB := Lib.hid (HK.out.2.1.trans (hb.mono HK.out.2.1.size)); clear hb)
        go_ret
        exact ⟨rfl, HB.out⟩
      · rw [hr] at HRR
        go_wp2_with (go_at_call 14; (with_reducible refine (HRR.out _).mono ?_); rintro e w1 ⟨rfl, hb⟩; have HB := Lib.hid (And.intro (HK.out.2.1.trans (hb.mono HK.out.2.1.size)) (HK.out.2.2.below hb)); clear hb)
        go_roundw
        case rel =>
          refine ⟨k + 1, by omega, by go_num, Lib.hid ⟨fun j hj hl => ?_, HB.out.1, HB.out.2⟩⟩
          by_cases hjk : j = k
          · subst hjk; rw [HDD.out]; exact hr
          · exact HK.out.1 j (by omega) hl
        case measure => simp [intOf]; omega
    · obtain rfl : k = L.length := by omega
      have dk : decide ((L.length : Int) < (L.length : Int)) = false := decide_eq_false (by omega)
      have hf := HY.out (fun j hj => HK.out.1 j hj hj)
      have HO := Lib.hid (HORD.out wr HK.out.2.1)
      generalize ordD (L.drop 2) = O at *
      by_cases h2 : 2 ≤ L.length
      · have d2 : decide ((2 : Int) ≤ (L.length : Int)) = true := decide_eq_true (by omega)
        by_cases h10 : L.length ≤ 10
        · have d10 : decide ((L.length : Int) ≤ 10) = true := decide_eq_true (by omega)
          have hf2 : R = O := by rw [hf, decide_eq_true h2, decide_eq_true h10]; simp
          clear hf
          subst hf2
          go_wp2_with (go_at_call 55; (with_reducible refine HO.out.mono ?_); rintro e w1 ⟨rfl, rfl⟩)
          go_ret
          exact ⟨rfl, HK.out.2.1⟩
        · have d10 : decide ((L.length : Int) ≤ 10) = false := decide_eq_false (by omega)
          have hf2 : R = false := by rw [hf, decide_eq_true h2, decide_eq_false h10]; simp
          clear hf
          subst hf2
          go_wp2_with fail
          go_ret
          exact ⟨rfl, HK.out.2.1⟩
      · have d2 : decide ((2 : Int) ≤ (L.length : Int)) = false := decide_eq_false (by omega)
        have hf2 : R = false := by rw [hf, decide_eq_false h2]; simp
        clear hf
        subst hf2
        go_wp2_with fail
        go_ret
        exact ⟨rfl, HK.out.2.1⟩
end Go.Proofs.YtadhiknmkiogjaaDoor
namespace Go.Proofs.YtadhiknmkiogjaaDoor
open Go.RowKit Go.Sort
set_option maxRecDepth 20000
set_option maxHeartbeats 1000000 in
theorem rwrong_any (wa : Option Addr) (wc : Nat) (L : List Ent) (k nr ns : Int) (pf : Bool) (pid : Int) (info : ByteArray) (wide : Bool) (w : World) (hL : L.length ≤ 1000) (hE : EntsAt w wa wc L) :
    Calls Tryd.prog 22 #[.agg #[.slice wa L.length wc, .int .i64 k, .int .i64 nr, .int .i64 ns, .bool pf, .int .i64 pid, .string info], .bool wide] w fun e w' => e = .returned (.int .i64 (wrongF L k nr ns wide pid info.size : Nat)) ∧ Below w.heap.size w w' := by
  have HB0 := Lib.hid ((Below.refl _ w).alloc (Nat.le_refl _) (.cells #[.slice wa L.length wc, .int .i64 k, .int .i64 nr, .int .i64 ns, .bool pf, .int .i64 pid, .string info] 73))
  have HF0 := Lib.hid (P7.new w w.heap.size rfl (.slice wa L.length wc) (.int .i64 k) (.int .i64 nr) (.int .i64 ns) (.bool pf) (.int .i64 pid) (.string info) 73)
  have hpr := fun W (h : Below w.heap.size w W) => rpright_any wa wc L W hL (hE.below h)
  have hcr := fun W => rright6_any k nr ns pf wide W
  have hha := fun W => rhaspid_any k W
  have HIN := Lib.hid (fun W => rinfo_any wa L.length wc k nr ns pf pid info W)
  have h1 := @wrong_path L k nr ns wide pid info.size
  have h2 := @wrong_arg L k nr ns wide pid info.size
  have h3 := @wrong_info L k nr ns wide pid info.size
  unfold pidOk at h2 h3
  generalize wrongF L k nr ns wide pid info.size = G at *
  generalize rightP L = R at *
  generalize rightC k nr ns wide = C at *
  generalize infE k info.size = I at *
  cases R
  · obtain rfl := h1 rfl
    have HPR := Lib.hid hpr
    clear hpr hcr hha h1 h2 h3 hE
    go_enter Tryd.func22, Tryd.ntmps22
    go_wp2_with (first
      | (go_at_call 35; (with_reducible refine (HPR.out _ HB0.out).mono ?_); rintro e w1 ⟨rfl, hb⟩; have HB := Lib.hid (HB0.out.trans (hb.mono HB0.out.size)); have HF := Lib.hid (HF0.out.below hb); clear hb; obtain ⟨⟨p0, -, pl⟩, ⟨p1, -, -⟩, ⟨p2, -, -⟩, ⟨p3, -, -⟩, ⟨p4, -, -⟩, ⟨p5, -, -⟩, ⟨p6, -, -⟩⟩ := HF.out))
    go_ret
    exact ⟨rfl, HB.out⟩
  · have HPR := Lib.hid hpr
    have HCR := Lib.hid hcr
    clear hpr hcr hE h1
    cases C
    · obtain rfl := h2 rfl rfl
      clear h2 h3 hha
      go_enter Tryd.func22, Tryd.ntmps22
      go_wp2_with (first
        | (go_at_call 35; (with_reducible refine (HPR.out _ HB0.out).mono ?_); rintro e w1 ⟨rfl, hb⟩; have HB := Lib.hid (HB0.out.trans (hb.mono HB0.out.size)); have HF := Lib.hid (HF0.out.below hb); clear hb; obtain ⟨⟨p0, -, pl⟩, ⟨p1, -, -⟩, ⟨p2, -, -⟩, ⟨p3, -, -⟩, ⟨p4, -, -⟩, ⟨p5, -, -⟩, ⟨p6, -, -⟩⟩ := HF.out)
        | (go_at_call 36; (with_reducible refine (HCR.out _).mono ?_); rintro e w2 ⟨rfl, hb⟩; replace HB := Lib.hid (HB.out.trans (hb.mono HB.out.size)); replace HF := Lib.hid (HF.out.below hb); clear hb; clear p0 pl p1 p2 p3 p4 p5 p6; obtain ⟨⟨p0, -, pl⟩, ⟨p1, -, -⟩, ⟨p2, -, -⟩, ⟨p3, -, -⟩, ⟨p4, -, -⟩, ⟨p5, -, -⟩, ⟨p6, -, -⟩⟩ := HF.out))
      go_ret
      exact ⟨rfl, HB.out⟩
    · by_cases hn : pid < 0
      · have dn : decide (pid < 0) = true := decide_eq_true hn
        obtain rfl := h2 rfl (by split <;> simp <;> omega)
        clear h2 h3 hha
        go_enter Tryd.func22, Tryd.ntmps22
        go_wp2_with (first
          | (go_at_call 35; (with_reducible refine (HPR.out _ HB0.out).mono ?_); rintro e w1 ⟨rfl, hb⟩; have HB := Lib.hid (HB0.out.trans (hb.mono HB0.out.size)); have HF := Lib.hid (HF0.out.below hb); clear hb; obtain ⟨⟨p0, -, pl⟩, ⟨p1, -, -⟩, ⟨p2, -, -⟩, ⟨p3, -, -⟩, ⟨p4, -, -⟩, ⟨p5, -, -⟩, ⟨p6, -, -⟩⟩ := HF.out)
          | (go_at_call 36; (with_reducible refine (HCR.out _).mono ?_); rintro e w2 ⟨rfl, hb⟩; replace HB := Lib.hid (HB.out.trans (hb.mono HB.out.size)); replace HF := Lib.hid (HF.out.below hb); clear hb; clear p0 pl p1 p2 p3 p4 p5 p6; obtain ⟨⟨p0, -, pl⟩, ⟨p1, -, -⟩, ⟨p2, -, -⟩, ⟨p3, -, -⟩, ⟨p4, -, -⟩, ⟨p5, -, -⟩, ⟨p6, -, -⟩⟩ := HF.out))
        go_ret
        exact ⟨rfl, HB.out⟩
      · have dn : decide (pid < 0) = false := decide_eq_false hn
        by_cases hg : 255 < pid
        · have dg : decide (255 < pid) = true := decide_eq_true hg
          obtain rfl := h2 rfl (by split <;> simp <;> omega)
          clear h2 h3 hha
          go_enter Tryd.func22, Tryd.ntmps22
          go_wp2_with (first
            | (go_at_call 35; (with_reducible refine (HPR.out _ HB0.out).mono ?_); rintro e w1 ⟨rfl, hb⟩; have HB := Lib.hid (HB0.out.trans (hb.mono HB0.out.size)); have HF := Lib.hid (HF0.out.below hb); clear hb; obtain ⟨⟨p0, -, pl⟩, ⟨p1, -, -⟩, ⟨p2, -, -⟩, ⟨p3, -, -⟩, ⟨p4, -, -⟩, ⟨p5, -, -⟩, ⟨p6, -, -⟩⟩ := HF.out)
            | (go_at_call 36; (with_reducible refine (HCR.out _).mono ?_); rintro e w2 ⟨rfl, hb⟩; replace HB := Lib.hid (HB.out.trans (hb.mono HB.out.size)); replace HF := Lib.hid (HF.out.below hb); clear hb; clear p0 pl p1 p2 p3 p4 p5 p6; obtain ⟨⟨p0, -, pl⟩, ⟨p1, -, -⟩, ⟨p2, -, -⟩, ⟨p3, -, -⟩, ⟨p4, -, -⟩, ⟨p5, -, -⟩, ⟨p6, -, -⟩⟩ := HF.out))
          go_ret
          exact ⟨rfl, HB.out⟩
        · have dg : decide (255 < pid) = false := decide_eq_false hg
          by_cases hz : 0 < pid
          · have dz : decide (0 < pid) = true := decide_eq_true hz
            cases hp : pidD k
            · rw [hp] at hha h2
              have HHA := Lib.hid hha
              obtain rfl := h2 rfl (by simp; omega)
              clear h2 h3 hha hp
              go_enter Tryd.func22, Tryd.ntmps22
              go_wp2_with (first
                | (go_at_call 35; (with_reducible refine (HPR.out _ HB0.out).mono ?_); rintro e w1 ⟨rfl, hb⟩; have HB := Lib.hid (HB0.out.trans (hb.mono HB0.out.size)); have HF := Lib.hid (HF0.out.below hb); clear hb; obtain ⟨⟨p0, -, pl⟩, ⟨p1, -, -⟩, ⟨p2, -, -⟩, ⟨p3, -, -⟩, ⟨p4, -, -⟩, ⟨p5, -, -⟩, ⟨p6, -, -⟩⟩ := HF.out)
                | (go_at_call 36; (with_reducible refine (HCR.out _).mono ?_); rintro e w2 ⟨rfl, hb⟩; replace HB := Lib.hid (HB.out.trans (hb.mono HB.out.size)); replace HF := Lib.hid (HF.out.below hb); clear hb; clear p0 pl p1 p2 p3 p4 p5 p6; obtain ⟨⟨p0, -, pl⟩, ⟨p1, -, -⟩, ⟨p2, -, -⟩, ⟨p3, -, -⟩, ⟨p4, -, -⟩, ⟨p5, -, -⟩, ⟨p6, -, -⟩⟩ := HF.out)
                | (go_at_call 37; (with_reducible refine (HHA.out _).mono ?_); rintro e w3 ⟨rfl, rfl⟩))
              go_ret
              exact ⟨rfl, HB.out⟩
            · rw [hp] at hha h3
              have HHA := Lib.hid hha
              obtain rfl := h3 rfl (by simp; omega)
              clear h2 h3 hha hp
              go_enter Tryd.func22, Tryd.ntmps22
              go_wp2_with (first
                | (go_at_call 35; (with_reducible refine (HPR.out _ HB0.out).mono ?_); rintro e w1 ⟨rfl, hb⟩; have HB := Lib.hid (HB0.out.trans (hb.mono HB0.out.size)); have HF := Lib.hid (HF0.out.below hb); clear hb; obtain ⟨⟨p0, -, pl⟩, ⟨p1, -, -⟩, ⟨p2, -, -⟩, ⟨p3, -, -⟩, ⟨p4, -, -⟩, ⟨p5, -, -⟩, ⟨p6, -, -⟩⟩ := HF.out)
                | (go_at_call 36; (with_reducible refine (HCR.out _).mono ?_); rintro e w2 ⟨rfl, hb⟩; replace HB := Lib.hid (HB.out.trans (hb.mono HB.out.size)); replace HF := Lib.hid (HF.out.below hb); clear hb; clear p0 pl p1 p2 p3 p4 p5 p6; obtain ⟨⟨p0, -, pl⟩, ⟨p1, -, -⟩, ⟨p2, -, -⟩, ⟨p3, -, -⟩, ⟨p4, -, -⟩, ⟨p5, -, -⟩, ⟨p6, -, -⟩⟩ := HF.out)
                | (go_at_call 37; (with_reducible refine (HHA.out _).mono ?_); rintro e w3 ⟨rfl, rfl⟩)
                | (go_at_call 38; (with_reducible refine (HIN.out _).mono ?_); rintro e w4 ⟨rfl, hb⟩; replace HB := Lib.hid (HB.out.trans (hb.mono HB.out.size)); clear hb))
              go_ret
              exact ⟨rfl, HB.out⟩
          · have dz : decide (0 < pid) = false := decide_eq_false hz
            obtain rfl : pid = 0 := by omega
            obtain rfl := h3 rfl (by split <;> simp)
            clear h2 h3 hha
            go_enter Tryd.func22, Tryd.ntmps22
            go_wp2_with (first
              | (go_at_call 35; (with_reducible refine (HPR.out _ HB0.out).mono ?_); rintro e w1 ⟨rfl, hb⟩; have HB := Lib.hid (HB0.out.trans (hb.mono HB0.out.size)); have HF := Lib.hid (HF0.out.below hb); clear hb; obtain ⟨⟨p0, -, pl⟩, ⟨p1, -, -⟩, ⟨p2, -, -⟩, ⟨p3, -, -⟩, ⟨p4, -, -⟩, ⟨p5, -, -⟩, ⟨p6, -, -⟩⟩ := HF.out)
              | (go_at_call 36; (with_reducible refine (HCR.out _).mono ?_); rintro e w2 ⟨rfl, hb⟩; replace HB := Lib.hid (HB.out.trans (hb.mono HB.out.size)); replace HF := Lib.hid (HF.out.below hb); clear hb; clear p0 pl p1 p2 p3 p4 p5 p6; obtain ⟨⟨p0, -, pl⟩, ⟨p1, -, -⟩, ⟨p2, -, -⟩, ⟨p3, -, -⟩, ⟨p4, -, -⟩, ⟨p5, -, -⟩, ⟨p6, -, -⟩⟩ := HF.out)
              | (go_at_call 38; (with_reducible refine (HIN.out _).mono ?_); rintro e w4 ⟨rfl, hb⟩; replace HB := Lib.hid (HB.out.trans (hb.mono HB.out.size)); clear hb))
            go_ret
            exact ⟨rfl, HB.out⟩
end Go.Proofs.YtadhiknmkiogjaaDoor
