/-
The code's own Apply: what a frame sets.
-/
import Derived.Test.YteglaenjmeocmaaTncApplyC
import Derived.StillTailTactics
namespace Go.Proofs.Yteglaenjmeocmaa
open Go.RowKit Go.Sort
set_option maxHeartbeats 1000000 in
theorem tapp_set (a b c d : Int) (f : Bool) (port cmd : Int) (s : ByteArray) (w : World) (hok : Par.ok ⟨a, b, c, d, f⟩ = true) (hfm : formD port cmd = true) (h1 : 1 ≤ cmd) (h5 : cmd ≤ 5) (hpos : 0 < s.size) :
    Calls Try.prog 7 #[.agg #[.int .i64 a, .int .i64 b, .int .i64 c, .int .i64 d, .bool f], .agg #[.int .i64 port, .int .i64 cmd, .string s]] w fun e w' => e = .returned (.tuple #[(setD ⟨a, b, c, d, f⟩ cmd s[0]).v, .int .i64 0]) ∧ Below w.heap.size w w' := by
  have HR := Lib.hid (fun W => right_ok ⟨a, b, c, d, f⟩ W)
  rw [hok] at HR
  simp only [Par.v] at HR
  have HA := Lib.hid (ap_start w ⟨a, b, c, d, f⟩ port cmd s)
  have HF := Lib.hid (fun W => formed_any port cmd s W)
  rw [hfm] at HF
  have HST := Lib.hid (fun W => set_any ⟨a, b, c, d, f⟩ cmd s[0] W h1 h5)
  obtain ⟨⟨qa, qb, qc, qd, qf⟩, hq⟩ : ∃ q, q = setD ⟨a, b, c, d, f⟩ cmd s[0] := ⟨_, rfl⟩
  rw [← hq] at HST ⊢
  simp only [Par.v] at HST ⊢
  have t1 : (cmd == 0) = false := by rw [beq_eq_false_iff_ne]; omega
  have t2 : (cmd == 6) = false := by rw [beq_eq_false_iff_ne]; omega
  have t3 : (cmd == 15) = false := by rw [beq_eq_false_iff_ne]; omega
  have hne : s.toList.isEmpty = false := by
    obtain ⟨r, hr⟩ := list_head s hpos
    rw [ByteArray.toList_eq, hr]
    rfl
  clear hok hfm hq
  go_enter Try.func7, Try.ntmps7
  go_wp2_with (first
    | (go_at_call 10; ((with_reducible refine (HR.out _).mono ?_); rintro e w1 ⟨rfl, hb⟩; replace HA := Lib.hid (HA.out.below hb); clear hb; obtain ⟨⟨y0, y1, y2, y3, y4⟩, ⟨z0, z1, z2⟩, ⟨⟨r0, r1, r2, r3, r4⟩, kf⟩, _, hsz⟩ := HA.out; simp only at y0 y1 y2 y3 y4 z0 z1 z2))
    | (go_at_call 18; ((with_reducible refine (HF.out _).mono ?_); rintro e w2 ⟨rfl, hb⟩; replace HA := Lib.hid (HA.out.below hb); clear hb; obtain ⟨⟨y0, y1, y2, y3, y4⟩, ⟨z0, z1, z2⟩, ⟨⟨r0, r1, r2, r3, r4⟩, kf⟩, _, hsz⟩ := HA.out; simp only at y0 y1 y2 y3 y4 z0 z1 z2)))
  have hix : ∀ W, (Instr.index 9 (.string s) (.int .i64 0)).run Try.prog W = .ok (.int .u8 ((s[0].toNat : Nat) : Int)) W := fun W => by
    go_simp
  go_still_tail 6, (by kernel_rfl)
  change wpList _ _ _ _ _ w2.drew
  have HA := Lib.hid (show ApAt w w2.drew ⟨a, b, c, d, f⟩ port cmd s from ⟨HA.out.1, HA.out.2.1, HA.out.2.2.1, HA.out.2.2.2.1.drew, HA.out.2.2.2.2⟩)
  generalize w2.drew = w4 at *
  obtain ⟨⟨y0, y1, y2, y3, y4⟩, ⟨z0, z1, z2⟩, ⟨⟨r0, r1, r2, r3, r4⟩, kf⟩, _, hsz⟩ := HA.out
  simp only at y0 y1 y2 y3 y4
  go_wp2_with (go_at_call 19; go_loud (refine (HST.out _).mono ?_; rintro e w3 ⟨rfl, hb⟩; replace HA := Lib.hid (HA.out.below hb); clear hb; obtain ⟨⟨y0, y1, y2, y3, y4⟩, ⟨z0, z1, z2⟩, ⟨⟨r0, r1, r2, r3, r4⟩, kf⟩, _, hsz⟩ := HA.out))
  obtain ⟨q0, q1, q2, q3, q4⟩ := stored5 (W := w3) (n := w.heap.size + 1 + 1) (.int .i64 qa) (.int .i64 qb) (.int .i64 qc) (.int .i64 qd) (.bool qf) r0 r1 r2 r3 r4
  have HS := Lib.hid (set5_below HA.out.2.2.2.1 (n := w.heap.size + 1 + 1) (by omega) (.int .i64 qa) (.int .i64 qb) (.int .i64 qc) (.int .i64 qd) (.bool qf))
  exact bodyPost_ret (v := .tuple #[.agg #[.int .i64 qa, .int .i64 qb, .int .i64 qc, .int .i64 qd, .bool qf], .int .i64 0]) (by simp [results, Try.results7, go_sem, q0, q1, q2, q3, q4]) rfl ⟨rfl, HS.out⟩
theorem apply_ok : ApplyOk := by
  intro p port cmd s w
  obtain ⟨a, b, c, d, f⟩ := p
  cases hok : Par.ok ⟨a, b, c, d, f⟩
  · have e : appD ⟨a, b, c, d, f⟩ port cmd s.data.toList = (⟨a, b, c, d, f⟩, 1) := by simp [appD, hok]
    rw [e]
    exact tapp_no a b c d f port cmd s w hok
  by_cases h2 : port < 0 ∨ 15 < port ∨ cmd < 0 ∨ 15 < cmd ∨ (cmd = 15 ∧ port ≠ 15)
  · have e : appD ⟨a, b, c, d, f⟩ port cmd s.data.toList = (⟨a, b, c, d, f⟩, 2) := by
      unfold appD
      rw [if_neg (by rw [hok]; simp), if_pos h2]
    rw [e]
    exact tapp_form a b c d f port cmd s w hok (decide_eq_false (not_not_intro h2))
  have hfm : formD port cmd = true := decide_eq_true h2
  by_cases h3 : 7 ≤ cmd ∧ cmd ≤ 14
  · have e : appD ⟨a, b, c, d, f⟩ port cmd s.data.toList = (⟨a, b, c, d, f⟩, 7) := by
      unfold appD
      rw [if_neg (by rw [hok]; simp), if_neg h2, if_pos h3]
    rw [e]
    exact tapp_none a b c d f port cmd s w hok hfm h3.1 h3.2
  by_cases h4 : cmd = 0 ∨ cmd = 6 ∨ cmd = 15
  · have e : appD ⟨a, b, c, d, f⟩ port cmd s.data.toList = (⟨a, b, c, d, f⟩, 0) := by
      unfold appD
      rw [if_neg (by rw [hok]; simp), if_neg h2, if_neg h3, if_pos h4]
    rw [e]
    rcases h4 with rfl | rfl | rfl
    · exact tapp_data0 a b c d f port s w hok hfm
    · exact tapp_data6 a b c d f port s w hok hfm
    · exact tapp_data15 a b c d f port s w hok hfm
  have e : appD ⟨a, b, c, d, f⟩ port cmd s.data.toList = (match s.data.toList with
    | [] => (⟨a, b, c, d, f⟩, 4)
    | x :: _ => (setD ⟨a, b, c, d, f⟩ cmd x, 0)) := by
    unfold appD setD
    rw [if_neg (by rw [hok]; simp), if_neg h2, if_neg h3, if_neg h4]
    cases s.data.toList with
    | nil => rfl
    | cons x l =>
      simp only
      split <;> rename_i h5
      · rfl
      split <;> rename_i h5
      · rfl
      split <;> rename_i h5
      · rfl
      split <;> rfl
  rw [e]
  by_cases h0 : s.size = 0
  · have hl : s.data.toList = [] := by rw [← List.length_eq_zero_iff]; simpa using h0
    have hs : s = ⟨#[]⟩ := bytes_ext' (by rw [hl])
    rw [hl]
    subst hs
    exact tapp_short a b c d f port cmd w hok hfm (by omega) (by omega)
  · have hpos : 0 < s.size := by omega
    obtain ⟨r, hr⟩ := list_head s hpos
    rw [hr]
    exact tapp_set a b c d f port cmd s w hok hfm (by omega) (by omega) hpos
end Go.Proofs.Yteglaenjmeocmaa
