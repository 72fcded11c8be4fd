/-
The law's made, great.
-/
import Derived.Test.YtikabflmgckdnaaDoorMix30
namespace Go.Proofs.YtikabflmgckdnaaDoor
open Go.RowKit Go.Sort
set_option maxRecDepth 20000
/-- all are right, and none is alike one ahead of it -/
def okC : List Cl → List Cl → Bool
  | _, [] => true
  | acc, c :: r => rightD c.1 c.2 && !mineB acc c && okC (acc ++ [c]) r
/-- which error; 0: none -/
def madeD (C : List Cl) : Nat := if okC [] C = false then 12 else if 5 < C.length then 6 else 0
theorem okC_at (C : List Cl) (i : Nat) (hi : i < C.length) : okC (C.take i) (C.drop i) = (rightD C[i].1 C[i].2 && !mineB (C.take i) C[i] && okC (C.take (i + 1)) (C.drop (i + 1))) := by
  conv => lhs; rw [List.drop_eq_getElem_cons hi]
  rw [List.take_succ_eq_append_getElem hi]
  rfl
/-- more than is played? -/
def greatB18 (S : List ByteArray) : Bool := decide (40 < S.length) || S.any fun s => decide (1000 < s.size)
set_option maxHeartbeats 1000000 in
theorem great18 (a : Option Addr) (n c : Nat) (S : List ByteArray) (w : World) (hn : S.length = n) (hA : AtL encS w a S) : Calls Tryd.prog 7 #[.slice a n c] w fun e w' => e = .returned (.bool (greatB18 S)) ∧ w' = w := by
  obtain ⟨r, hr⟩ : ∃ r, greatB18 S = r := ⟨_, rfl⟩
  rw [hr]
  have HR := Lib.hid hr
  have HN := Lib.hid hn
  have HA := Lib.hid hA
  clear hr hn hA
  by_cases h40 : 40 < n
  · have dg : decide ((40 : Int) < (n : Int)) = true := decide_eq_true (by omega)
    have e : r = true := by rw [← HR.out]; unfold greatB18; rw [HN.out, decide_eq_true h40]; rfl
    subst e
    clear h40
    go_enter Tryd.func7, Tryd.ntmps7
    go_wp2_with fail
    exact bodyPost_ret (v := .bool true) (by simp [results, Tryd.results7, go_sem]) rfl ⟨rfl, rfl⟩
  · have dg : decide ((40 : Int) < (n : Int)) = false := decide_eq_false (by omega)
    have HRA := Lib.hid (show r = S.any fun s => decide (1000 < s.size) from by rw [← HR.out]; unfold greatB18; rw [HN.out, decide_eq_false h40, Bool.false_or])
    have hl : n ≤ 40 := by omega
    clear HR h40
    go_enter Tryd.func7, Tryd.ntmps7
    go_wp2_with fail
    go_loopw [10] (fun iv wx => ∃ i : Nat, i ≤ n ∧ iv = .int .i64 i ∧ Hid (r = (S.drop i).any fun s => decide (1000 < s.size)) ∧ w = wx) (fun iv _ => n - (intOf iv).toNat)
    case atStart => exact ⟨0, Nat.zero_le _, rfl, HRA, by first | rfl | trivial⟩
    case round =>
      obtain ⟨i, hi, rfl, HK, rfl⟩ := hrel
      by_cases hlt : i < n
      · have dk : decide (i < n) = true := decide_eq_true hlt
        have hL : i < S.length := by rw [HN.out]; exact hlt
        obtain ⟨g, o, rfl, -⟩ := HA.out.some_ (by omega)
        have x0 : w.cell? ⟨g, o + i, none⟩ = some (.string S[i]) := by
          have := HA.out.get i hL 0 (u := .string S[i]) rfl
          simpa [encS] using this
        have HX := Lib.hid (show r = (decide (1000 < S[i].size) || (S.drop (i + 1)).any fun s => decide (1000 < s.size)) from by
          rw [HK.out]
          conv => lhs; rw [List.drop_eq_getElem_cons hL]
          rw [List.any_cons])
        generalize S[i] = s at *
        by_cases h1 : 1000 < s.size
        · have d1 : decide ((1000 : Int) < (s.size : Int)) = true := decide_eq_true (by omega)
          have e : r = true := by rw [HX.out, decide_eq_true h1]; rfl
          subst e
          clear h1 HX HK HRA
          go_wp2_with fail
          exact bodyPost_ret (v := .bool true) (by simp [results, Tryd.results7, go_sem]) rfl ⟨rfl, by first | rfl | trivial⟩
        · have d1 : decide ((1000 : Int) < (s.size : Int)) = false := decide_eq_false (by omega)
          have HX2 := Lib.hid (show r = (S.drop (i + 1)).any fun s => decide (1000 < s.size) from by rw [HX.out, decide_eq_false h1, Bool.false_or])
          clear h1 HX
          go_wp2_with fail
          go_roundw
          case rel => exact ⟨i + 1, by omega, rfl, HX2, by first | rfl | trivial⟩
          case measure => simp [intOf]; omega
      · have dk : decide (i < n) = false := decide_eq_false hlt
        have e : r = false := by rw [HK.out, List.drop_eq_nil_of_le (by rw [HN.out]; omega)]; rfl
        subst e
        clear HRA HK
        go_wp2_with fail
        exact bodyPost_ret (v := .bool false) (by simp [results, Tryd.results7, go_sem]) rfl ⟨rfl, by first | rfl | trivial⟩
theorem great18_no {S : List ByteArray} (h : greatB18 S = false) : S.length ≤ 40 ∧ ∀ s ∈ S, s.size ≤ 1000 := by
  unfold greatB18 at h
  rw [Bool.or_eq_false_iff, decide_eq_false_iff_not, List.any_eq_false] at h
  refine ⟨by omega, fun s hs => ?_⟩
  have := h.2 s hs
  rw [decide_eq_true_eq] at this
  omega
set_option maxHeartbeats 2000000 in
theorem made18 (a : Option Addr) (n c : Nat) (C : List Cl) (w : World) (hn : C.length = n) (hC : CallsAt w a C) (hl : n ≤ 1000) : Calls Tryd.prog 9 #[.slice a n c] w fun e w' => e = .returned (.int .i64 (madeD C : Nat)) ∧ Below w.heap.size w w' := by
  obtain ⟨r, hr⟩ : ∃ r, madeD C = r := ⟨_, rfl⟩
  rw [hr]
  have HR := Lib.hid hr
  have HN := Lib.hid hn
  have HCA := Lib.hid hC
  have HRI := Lib.hid (fun b k W => rcright_any b k W)
  clear hr hn hC
  go_enter Tryd.func9, Tryd.ntmps9
  go_wp2_with fail
  go_loopw [7] (fun iv wx => ∃ i : Nat, i ≤ n ∧ iv = .int .i64 i ∧ Hid (okC [] C = okC (C.take i) (C.drop i) ∧ Below w.heap.size w wx)) (fun iv _ => n - (intOf iv).toNat)
  case atStart => exact ⟨0, Nat.zero_le _, rfl, Lib.hid ⟨rfl, Below.refl _ _⟩⟩
  case round =>
    obtain ⟨i, hi, rfl, HK⟩ := hrel
    by_cases hlt : i < n
    · have dk : decide (i < n) = true := decide_eq_true hlt
      have hL : i < C.length := by rw [HN.out]; exact hlt
      obtain ⟨g, o, rfl, hg, c0, c1⟩ := (CallsAt.below HCA.out HK.out.2) i hL
      have HX := Lib.hid (show okC [] C = (rightD C[i].1 C[i].2 && !mineB (C.take i) C[i] && okC (C.take (i + 1)) (C.drop (i + 1))) from by rw [HK.out.1]; exact okC_at C i hL)
      have HMN := Lib.hid (fun k (hk : k < C.length) => mine_next C C[i] k hk)
      have HCI := Lib.hid (show C[i]? = some C[i] from List.getElem?_eq_getElem hL)
      have HBW := Lib.hid HK.out.2
      generalize C[i] = x at *
      obtain ⟨xb, xn⟩ := x
      simp only at c0 c1 HX
      cases hri : rightD xb xn with
      | false =>
        have e : r = 12 := by
          rw [← HR.out]
          unfold madeD
          rw [HX.out, hri, Bool.false_and, Bool.false_and, if_pos rfl]
        subst e
        have HR1 := Lib.hid (fun W => HRI.out xb xn W)
        rw [hri] at HR1
        clear hri HX HK
        go_wp2_with (go_at_call 24; (with_reducible refine (HR1.out _).mono ?_); rintro e w1 ⟨rfl, hb⟩)
        exact bodyPost_ret (v := .int .i64 12) (by simp [results, Tryd.results9, go_sem]) rfl ⟨rfl, HBW.out.trans (hb.mono HBW.out.size)⟩
      | true =>
        have HR1 := Lib.hid (fun W => HRI.out xb xn W)
        rw [hri] at HR1 HX
        rw [Bool.true_and] at HX
        clear hri HK
        go_wp2_with (go_at_call 24; (with_reducible refine (HR1.out _).mono ?_); rintro e w1 ⟨rfl, hb⟩; have HB1 := Lib.hid (HBW.out.trans (hb.mono HBW.out.size)); clear hb)
        go_loopw [4] (fun kv wx => ∃ k : Nat, k ≤ i ∧ kv = .int .i64 k ∧ Hid (mineB (C.take k) (xb, xn) = false ∧ Below w.heap.size w wx)) (fun kv _ => i - (intOf kv).toNat)
        case atStart => exact ⟨0, Nat.zero_le _, rfl, Lib.hid ⟨rfl, HB1.out⟩⟩
        case round =>
          obtain ⟨k, hk, rfl, HJ⟩ := hrel
          clear HB1 c0 c1
          by_cases hlk : k < i
          · have dk2 : decide (k < i) = true := decide_eq_true hlk
            have hLk : k < C.length := by omega
            obtain ⟨gk, ok, hga, hgk, k0, k1⟩ := (CallsAt.below HCA.out HJ.out.2) k hLk
            simp only [Option.some.injEq, Addr.mk.injEq, and_true] at hga
            obtain ⟨rfl, rfl⟩ := hga
            obtain ⟨gi, oi, hgi, -, i0, i1⟩ := (CallsAt.below HCA.out HJ.out.2) i hL
            simp only [Option.some.injEq, Addr.mk.injEq, and_true] at hgi
            obtain ⟨rfl, rfl⟩ := hgi
            have hci : C[i] = (xb, xn) := by
              have := HCI.out
              rw [List.getElem?_eq_getElem hL] at this
              exact Option.some.inj this
            rw [hci] at i0 i1
            have HM := Lib.hid (HMN.out k hLk)
            rw [HJ.out.1, Bool.false_or] at HM
            have HBJ := Lib.hid HJ.out.2
            have HMI := Lib.hid (show C[k] = (xb, xn) → mineB (C.take i) (xb, xn) = true from fun e => by
              unfold mineB
              rw [List.any_eq_true]
              refine ⟨C[k], ?_, decide_eq_true e⟩
              rw [List.mem_iff_getElem]
              exact ⟨k, by rw [List.length_take]; omega, by rw [List.getElem_take]⟩)
            generalize C[k] = y at *
            obtain ⟨yb, yn⟩ := y
            simp only at k0 k1 i0 i1
            have heq := fun W => run_eq_call18 yb xb yn xn W _ rfl
            clear hci HJ
            by_cases hq : (yb, yn) = (xb, xn)
            · have dq : decide ((yb, yn) = (xb, xn)) = true := decide_eq_true hq
              rw [dq] at heq
              have e : r = 12 := by
                rw [← HR.out]
                unfold madeD
                rw [HX.out, HMI.out hq, Bool.not_true, Bool.false_and, if_pos rfl]
              subst e
              clear hq dq HMI HM HX
              go_upto_region 9 with (fail)
              go_quiet (fail)
              go_wp2_with fail
              exact bodyPost_ret (v := .int .i64 12) (by simp [results, Tryd.results9, go_sem]) rfl ⟨rfl, belowN18 HBJ.out _⟩
            · have dq : decide ((yb, yn) = (xb, xn)) = false := decide_eq_false hq
              rw [dq] at heq HM
              clear hq dq HMI
              go_upto_region 9 with (fail)
              go_quiet (fail)
              go_wp2_with fail
              go_roundw
              case rel => exact ⟨k + 1, by omega, rfl, Lib.hid ⟨HM.out, belowN18 HBJ.out _⟩⟩
              case measure => simp [intOf]; omega
          · have dk2 : decide (k < i) = false := decide_eq_false hlk
            have e : k = i := by omega
            subst e
            have HY := Lib.hid (show okC [] C = okC (C.take (k + 1)) (C.drop (k + 1)) from by rw [HX.out, HJ.out.1]; rfl)
            have HBJ := Lib.hid HJ.out.2
            clear HX HJ
            go_wp2_with fail
            go_roundw
            case rel => exact ⟨k + 1, by omega, rfl, Lib.hid ⟨HY.out, HBJ.out⟩⟩
            case measure => simp [intOf]; omega
    · have dk : decide (i < n) = false := decide_eq_false hlt
      have hin : i = n := by omega
      have hok : okC [] C = true := by
        rw [HK.out.1, List.drop_eq_nil_of_le (by rw [HN.out]; omega)]
        rfl
      have HBW := Lib.hid HK.out.2
      by_cases h5 : 5 < n
      · have d5 : decide ((5 : Int) < (n : Int)) = true := decide_eq_true (by omega)
        have e : r = 6 := by rw [← HR.out]; unfold madeD; rw [hok, if_neg (by decide), HN.out, if_pos h5]
        subst e
        clear hok h5 HK hin
        go_wp2_with fail
        exact bodyPost_ret (v := .int .i64 6) (by simp [results, Tryd.results9, go_sem]) rfl ⟨rfl, HBW.out⟩
      · have d5 : decide ((5 : Int) < (n : Int)) = false := decide_eq_false (by omega)
        have e : r = 0 := by rw [← HR.out]; unfold madeD; rw [hok, if_neg (by decide), HN.out, if_neg h5]
        subst e
        clear hok h5 HK hin
        go_wp2_with fail
        exact bodyPost_ret (v := .int .i64 0) (by simp [results, Tryd.results9, go_sem]) rfl ⟨rfl, HBW.out⟩
end Go.Proofs.YtikabflmgckdnaaDoor
