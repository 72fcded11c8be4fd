/-
Walk of the statement SegThrough.
-/
import Derived.Test.YtaelhickopeocaaSegAwake
import Derived.Test.YtaelhickopeocaaSegCGather
namespace Go.Proofs.Ytaelhickopeocaa
open Go.RowKit
set_option maxRecDepth 20000
theorem split_fit {pid : Int} {text : ByteArray} {n1 : Int} (h : (splitD pid text n1).2 = 0) : n1 ≤ 256 ∧ (splitD pid text n1).1.length ≤ 1000 := by
  unfold splitD at h ⊢
  split at h
  · cases h
  · split at h
    · cases h
    · rename_i h1 h2
      rw [if_neg h1, if_neg h2]
      refine ⟨by omega, ?_⟩
      split
      · simp
      · have := chunk_count (n1.toNat - 1) (by omega) _ (byteI pid :: text.data.toList) (Nat.le_refl _)
        have e : text.data.toList.length = text.size := by simp
        rw [List.length_cons, e] at this
        show (heads true _).length ≤ 1000
        rw [heads_length]
        omega
/-- a state behind some pieces is a right one -/
theorem stG_ok (g : Gs) (hg : GOk g) (l : List Pc) : ∀ i, i ≤ l.length → GOk (stG g l i)
  | 0, _ => by rw [stG_zero]; exact hg
  | i + 1, h => by rw [stG_succ g l i h]; exact take_ok _ _ (stG_ok g hg l i (by omega))
theorem last_num (k N : Nat) (hN : N ≤ 1000) : IntKind.i64.wrap ((N : Int) - 1) = (N : Int) - 1 ∧ ((k + 1 = N ∧ ((k : Int) == (N : Int) - 1) = true) ∨ (k + 1 ≠ N ∧ ((k : Int) == (N : Int) - 1) = false)) := by
  refine ⟨i64_small _ (by omega) (by omega), ?_⟩
  by_cases h : k + 1 = N
  · left
    exact ⟨h, by rw [beq_iff_eq]; omega⟩
  · right
    exact ⟨h, by rw [beq_eq_false_iff_ne]; omega⟩
/-- one piece of a message taken, in the state behind those before it -/
theorem take_step (m : Nat) (g0 : Gs) (L : List Pc) (k : Nat) (hk : k < L.length) (hok : GOk g0) (hz : L[k].info.size ≤ 2000) (R : Pc × Bool × Int) (hR : (takeD (stG g0 L k) L[k]).2 = R) (W : World) (h : RowAt W m (csV (stG g0 L k))) :
    Calls Try.prog 14 #[.pointer (some ⟨m, 0, none⟩), .agg #[.int .i64 L[k].pid, .string L[k].info]] W fun e w' =>
      e = .returned (.tuple #[.agg #[.int .i64 R.1.pid, .string R.1.info], .bool R.2.1, .int .i64 R.2.2]) ∧ RowAt w' m (csV (stG g0 L (k + 1))) ∧ Turn (fun x => x = m) W w' := by
  have := ctake_any m (stG g0 L k) L[k] W h (stG_ok g0 hok L k (by omega)) hz
  rw [stG_succ g0 L k hk, ← hR]
  exact this
theorem segthrough_no (pid n1 : Int) (text : ByteArray) (w : World) (hE : (splitD pid text n1).2 ≠ 0) : Calls Try.prog 5 #[.int .i64 pid, .string text, .int .i64 n1] w fun e w' => e = .returned (.bool true) ∧ Below w.heap.size w w' := by
  have HAW := Lib.hid (fun W => segawake_any W)
  have hl := split_none hE
  obtain ⟨⟨L, E⟩, hLE⟩ : ∃ r, splitD pid text n1 = r := ⟨_, rfl⟩
  rw [hLE] at hl hE
  simp only at hE
  obtain rfl : L = [] := hl
  have HC := Lib.hid (fun W => csplit_any pid n1 text W)
  rw [hLE] at HC
  have dE : (E != 0) = true := by simpa using hE
  clear hLE hE
  go_enter Try.func5, Try.ntmps5
  go_wp2_with (first | (go_at_call 7; (with_reducible refine (HAW.out _).mono ?_); rintro e w1 ⟨rfl, hb⟩; have HB1 := Lib.hid hb; clear hb) | (go_at_call 8; (with_reducible refine (HC.out _).mono ?_); rintro e w2 ⟨⟨v1, rfl, ho⟩, hb⟩; have HB2 := Lib.hid (HB1.out.trans (hb.mono HB1.out.size)); obtain ⟨a1, c1, hv, -⟩ := ho.see; rw [List.length_nil] at hv; subst hv; clear hb ho))
  exact bodyPost_ret (v := .bool true) (by simp [results, Try.results5, go_sem]) rfl ⟨rfl, HB2.out⟩
set_option maxHeartbeats 1000000 in
theorem segthrough_yes (pid n1 : Int) (text : ByteArray) (w : World) (hE : (splitD pid text n1).2 = 0) : Calls Try.prog 5 #[.int .i64 pid, .string text, .int .i64 n1] w fun e w' => e = .returned (.bool true) ∧ Below w.heap.size w w' := by
  have HAW := Lib.hid (fun W => segawake_any W)
  have HC := Lib.hid (fun W => csplit_any pid n1 text W)
  have HTH := Lib.hid (through pid text n1 hE)
  have hfit := split_fit hE
  have HSM := Lib.hid (show ∀ p ∈ (splitD pid text n1).1, p.info.size ≤ 2000 from fun p hp => by have := split_small pid text n1 p hp; omega)
  obtain ⟨⟨L, E⟩, hLE⟩ : ∃ r, splitD pid text n1 = r := ⟨_, rfl⟩
  rw [hLE] at hE HTH HSM hfit HC
  simp only at hE HTH HSM hfit HC
  subst hE
  obtain ⟨N, hN⟩ : ∃ N, L.length = N := ⟨_, rfl⟩
  have hN0 : 0 < N := hN ▸ HTH.out.1
  have hNb : N ≤ 1000 := by omega
  have HN := Lib.hid hN
  clear hLE hN hfit
  have hT0 := fun m W h => ctake_any m zeroG ⟨8, ⟨#[133, 122, 97, 98, 99]⟩⟩ W h GOk.zero (by decide)
  simp only [pcV] at hT0
  have HT0 := Lib.hid hT0
  clear hT0
  have HG0 := Lib.hid (take_ok zeroG ⟨8, ⟨#[133, 122, 97, 98, 99]⟩⟩ GOk.zero)
  generalize takeD zeroG ⟨8, ⟨#[133, 122, 97, 98, 99]⟩⟩ = r0 at *
  obtain ⟨g0, ⟨P0, I0⟩, f0, E0⟩ := r0
  simp only at HG0 HT0
  go_enter Try.func5, Try.ntmps5
  go_upto_region 7 with (first | (go_at_call 7; (with_reducible refine (HAW.out _).mono ?_); rintro e w1 ⟨rfl, hb⟩; have HB1 := Lib.hid hb; clear hb) | (go_at_call 8; (with_reducible refine (HC.out _).mono ?_); rintro e w2 ⟨⟨v1, rfl, ho⟩, hb⟩; have HB2 := Lib.hid (HB1.out.trans (hb.mono HB1.out.size)); obtain ⟨g, c1, hv, hbg, hgl, hA⟩ := ho.some_ HTH.out.1; rw [HN.out] at hv; subst hv; have HA2 := Lib.hid hA; clear hb ho hA) | (go_at_call 12; (with_reducible refine (cnew_any _).mono ?_); rintro e w3 ⟨rfl, rfl⟩))
  have HA3 := Lib.hid (HA2.out.alloc (.cells #[.int .i64 0, .int .i64 0, .string ⟨#[]⟩] 58))
  have HB3 := Lib.hid (HB2.out.alloc HB2.out.size (.cells #[.int .i64 0, .int .i64 0, .string ⟨#[]⟩] 58))
  have HM3 := Lib.hid (show RowAt _ w2.heap.size (csV zeroG) from RowAt.new w2 w2.heap.size rfl [.int .i64 0, .int .i64 0, .string ⟨#[]⟩] 58)
  have hgm : ¬ (g = w2.heap.size) := by omega
  have hwm := HB2.out.size
  clear HA2 HB2 HAW HC HB1 hgl hbg
  generalize (w2.alloc (.cells #[.int .i64 0, .int .i64 0, .string ⟨#[]⟩] 58)) = w3 at *
  generalize w2.heap.size = m at *
  go_upto_region 8 with (go_at_call 14; (with_reducible refine (HT0.out m _ HM3.out).mono ?_); rintro e w4 ⟨rfl, hg, ht⟩; have HM4 := Lib.hid hg; have HA4 := Lib.hid (HA3.out.turn ht (fun p hp => by cases hp; exact hgm)); have HB4 := Lib.hid (HB3.out.trans (ht.below (B := w.heap.size) HB3.out.size (fun k hk => by rw [hk]; exact hwm))); clear hg ht)
  clear HM3 HA3 HB3 HT0
  go_wp2_with fail
  go_loopw [35] (fun i wx => ∃ k : Nat, k ≤ N ∧ i = .int .i64 k ∧ Hid (AtL encP wx (some ⟨g, 0, none⟩) L) ∧ Hid (RowAt wx m (csV (stG g0 L k))) ∧ Hid (Below w.heap.size w wx)) (fun i _ => N - (intOf i).toNat)
  case atStart => exact ⟨0, by omega, rfl, HA4, Lib.hid (by rw [stG_zero]; exact HM4.out), HB4⟩
  case round =>
    obtain ⟨k, hk, rfl, HA, HM, HB⟩ := hrel
    clear HA4 HM4 HB4
    by_cases hlt : k < N
    · have hL : k < L.length := by rw [HN.out]; exact hlt
      have ⟨x0, x1⟩ := pc_at HA.out k hL
      rw [Nat.zero_add] at x0 x1
      have hthk := HTH.out.2 g0 k hL
      obtain ⟨zN, hlast⟩ := last_num k N hNb
      rcases hlast with ⟨hl1, dl⟩ | ⟨hl1, dl⟩
      · rw [if_pos (by rw [HN.out]; exact hl1)] at hthk
        clear hl1
        have HTK := Lib.hid (fun W h => take_step m g0 L k hL HG0.out (HSM.out L[k] (List.getElem_mem hL)) _ hthk W h)
        generalize L[k].pid = P at *
        generalize L[k].info = I at *
        have HA2 := Lib.hid (HA.out.alloc (.cells #[.int .i64 P, .string I] 33))
        have HM2 := Lib.hid (HM.out.alloc (.cells #[.int .i64 P, .string I] 33))
        have HB2 := Lib.hid (HB.out.alloc HB.out.size (.cells #[.int .i64 P, .string I] 33))
        have hmr := (HM.out.get 0 rfl).lt
        have hpm : ¬ (wr.heap.size = m) := by omega
        clear hthk HA HM HB hmr
        go_upto_region 11 with (fail)
        clear x0 x1
        have hp := RowAt.new wr wr.heap.size rfl [.int .i64 P, .string I] 33
        have x0 := hp.cell 0 rfl
        have x1 := hp.cell 1 rfl
        clear hp
        generalize (wr.alloc (.cells #[.int .i64 P, .string I] 33)) = wp at *
        generalize wr.heap.size = np at *
        go_wp2_with (go_at_call 14; (with_reducible refine (HTK.out _ HM2.out).mono ?_); rintro e w6 ⟨rfl, hg, ht⟩; have HM6 := Lib.hid hg; have HA6 := Lib.hid (HA2.out.turn ht (fun p hp => by cases hp; exact hgm)); have HB6 := Lib.hid (HB2.out.trans (ht.below (B := w.heap.size) HB2.out.size (fun k hk => by rw [hk]; exact hwm))); clear hg ht x0 x1)
        go_roundw
        case rel => exact ⟨k + 1, hlt, by go_num, Lib.hid (HA6.out.alloc _), Lib.hid (HM6.out.alloc _), Lib.hid (HB6.out.alloc HB6.out.size _)⟩
        case measure => simp [intOf]; omega
      · rw [if_neg (by rw [HN.out]; exact hl1)] at hthk
        clear hl1
        have HTK := Lib.hid (fun W h => take_step m g0 L k hL HG0.out (HSM.out L[k] (List.getElem_mem hL)) _ hthk W h)
        generalize L[k].pid = P at *
        generalize L[k].info = I at *
        have HA2 := Lib.hid (HA.out.alloc (.cells #[.int .i64 P, .string I] 33))
        have HM2 := Lib.hid (HM.out.alloc (.cells #[.int .i64 P, .string I] 33))
        have HB2 := Lib.hid (HB.out.alloc HB.out.size (.cells #[.int .i64 P, .string I] 33))
        have hmr := (HM.out.get 0 rfl).lt
        have hpm : ¬ (wr.heap.size = m) := by omega
        clear hthk HA HM HB hmr
        go_upto_region 11 with (fail)
        clear x0 x1
        have hp := RowAt.new wr wr.heap.size rfl [.int .i64 P, .string I] 33
        have x0 := hp.cell 0 rfl
        have x1 := hp.cell 1 rfl
        clear hp
        generalize (wr.alloc (.cells #[.int .i64 P, .string I] 33)) = wp at *
        generalize wr.heap.size = np at *
        go_wp2_with (go_at_call 14; (with_reducible refine (HTK.out _ HM2.out).mono ?_); rintro e w6 ⟨rfl, hg, ht⟩; have HM6 := Lib.hid hg; have HA6 := Lib.hid (HA2.out.turn ht (fun p hp => by cases hp; exact hgm)); have HB6 := Lib.hid (HB2.out.trans (ht.below (B := w.heap.size) HB2.out.size (fun k hk => by rw [hk]; exact hwm))); clear hg ht x0 x1)
        go_roundw
        case rel => exact ⟨k + 1, hlt, by go_num, Lib.hid (HA6.out.alloc _), Lib.hid (HM6.out.alloc _), Lib.hid (HB6.out.alloc HB6.out.size _)⟩
        case measure => simp [intOf]; omega
    · go_wp2_with fail
      exact bodyPost_ret (v := .bool true) (by simp [results, Try.results5, go_sem]) rfl ⟨rfl, HB.out⟩
theorem segthrough_any (pid n1 : Int) (text : ByteArray) (w : World) : Calls Try.prog 5 #[.int .i64 pid, .string text, .int .i64 n1] w fun e w' => e = .returned (.bool true) ∧ Below w.heap.size w w' := by
  by_cases hE : (splitD pid text n1).2 = 0
  · exact segthrough_yes pid n1 text w hE
  · exact segthrough_no pid n1 text w hE
end Go.Proofs.Ytaelhickopeocaa
