/-
TncFrames, proved: frames that set all, applied to any right parameters, make them these, through their bytes, too. For every parameters and every port; no condition.
-/
import Derived.Test.YteglaenjmeocmaaTncFramesW
import Derived.Test.YteglaenjmeocmaaTncOpens
namespace Go.Proofs.Yteglaenjmeocmaa
open Go.ChangeShapes Go.WideShapes Go.ChangeAt Go.RowKit Go.Joins Go.Deep Go.Sort
theorem frames_none (p : Par) (port : Int) (w : World) (h : ¬ (0 ≤ port ∧ port ≤ 15) ∨ p.ok = false) :
    Calls Try.prog 12 #[.int .i64 port, p.v] w fun e w' => e = .returned (.slice none 0 0) ∧ Below w.heap.size w w' := by
  by_cases hp : 0 ≤ port ∧ port ≤ 15
  · rcases h with h | h
    · exact absurd hp h
    · exact frames_right p.a p.b p.c p.d p.f port w hp.1 hp.2 h
  · exact frames_port p.a p.b p.c p.d p.f port w hp
set_option maxHeartbeats 1000000 in
theorem tframes_bad (p q : Par) (port : Int) (w : World) (hok : p.ok = false) :
    Calls Try.prog 4 #[p.v, q.v, .int .i64 port] w fun e w' => e = .returned (.bool true) ∧ Below w.heap.size w w' := by
  have HAW := Lib.hid (fun W => tawake_any usual_ok apply_ok wins_ok W)
  have HPL := Lib.hid (fun W => plain_par p W)
  have HQL := Lib.hid (fun W => plain_par q W)
  have HRP := Lib.hid (fun W => rright_any p W)
  have HRQ := Lib.hid (fun W => rright_any q W)
  have HA := Lib.hid (fra_start w p q)
  have HFR := Lib.hid (fun W => frames_none p port W (Or.inr hok))
  rw [hok] at HRP
  clear hok
  obtain ⟨a, b, c, d, f⟩ := p
  obtain ⟨qa, qb, qc, qd, qf⟩ := q
  simp only [Par.v] at HPL HQL HRP HRQ HFR
  show Calls Try.prog 4 #[.agg #[.int .i64 a, .int .i64 b, .int .i64 c, .int .i64 d, .bool f], .agg #[.int .i64 qa, .int .i64 qb, .int .i64 qc, .int .i64 qd, .bool qf], .int .i64 port] w _
  go_enter Try.func4, Try.ntmps4
  go_wp2_with (first
    | (go_at_call 6; go_loud (refine (HAW.out _).mono ?_; rintro e w1 ⟨rfl, hb⟩; replace HA := Lib.hid (HA.out.step hb); clear hb; obtain ⟨⟨y0, y1, y2, y3, y4⟩, ⟨z0, z1, z2, z3, z4⟩, kf, hbw, hsz⟩ := HA.out; simp only at y0 y1 y2 y3 y4 z0 z1 z2 z3 z4))
    | (go_at_call 12; ((with_reducible refine (HFR.out _).mono ?_); rintro e w1 ⟨rfl, hb⟩; replace HA := Lib.hid (HA.out.step hb); clear hb; clear y0 y1 y2 y3 y4 z0 z1 z2 z3 z4 kf hbw hsz; obtain ⟨⟨y0, y1, y2, y3, y4⟩, ⟨z0, z1, z2, z3, z4⟩, kf, hbw, hsz⟩ := HA.out; simp only at y0 y1 y2 y3 y4 z0 z1 z2 z3 z4))
    | (go_at_call 9; ((with_reducible refine (HPL.out _).mono ?_); rintro e w1 ⟨rfl, hb⟩; replace HA := Lib.hid (HA.out.step hb); clear hb; clear y0 y1 y2 y3 y4 z0 z1 z2 z3 z4 kf hbw hsz; obtain ⟨⟨y0, y1, y2, y3, y4⟩, ⟨z0, z1, z2, z3, z4⟩, kf, hbw, hsz⟩ := HA.out; simp only at y0 y1 y2 y3 y4 z0 z1 z2 z3 z4))
    | (go_at_call 11; ((with_reducible refine (HRP.out _).mono ?_); rintro e w1 ⟨rfl, hb⟩; replace HA := Lib.hid (HA.out.step hb); clear hb; clear y0 y1 y2 y3 y4 z0 z1 z2 z3 z4 kf hbw hsz; obtain ⟨⟨y0, y1, y2, y3, y4⟩, ⟨z0, z1, z2, z3, z4⟩, kf, hbw, hsz⟩ := HA.out; simp only at y0 y1 y2 y3 y4 z0 z1 z2 z3 z4)))
  go_ret
  exact ⟨rfl, hbw⟩
set_option maxHeartbeats 1000000 in
theorem tframes_low (p q : Par) (port : Int) (w : World) (hok : p.ok = true) (hp : port < 0) :
    Calls Try.prog 4 #[p.v, q.v, .int .i64 port] w fun e w' => e = .returned (.bool true) ∧ Below w.heap.size w w' := by
  have HAW := Lib.hid (fun W => tawake_any usual_ok apply_ok wins_ok W)
  have HPL := Lib.hid (fun W => plain_par p W)
  have HQL := Lib.hid (fun W => plain_par q W)
  have HRP := Lib.hid (fun W => rright_any p W)
  have HRQ := Lib.hid (fun W => rright_any q W)
  have HA := Lib.hid (fra_start w p q)
  have HFR := Lib.hid (fun W => frames_none p port W (Or.inl (by omega)))
  rw [hok] at HRP
  clear hok
  obtain ⟨a, b, c, d, f⟩ := p
  obtain ⟨qa, qb, qc, qd, qf⟩ := q
  simp only [Par.v] at HPL HQL HRP HRQ HFR
  show Calls Try.prog 4 #[.agg #[.int .i64 a, .int .i64 b, .int .i64 c, .int .i64 d, .bool f], .agg #[.int .i64 qa, .int .i64 qb, .int .i64 qc, .int .i64 qd, .bool qf], .int .i64 port] w _
  go_enter Try.func4, Try.ntmps4
  go_wp2_with (first
    | (go_at_call 6; go_loud (refine (HAW.out _).mono ?_; rintro e w1 ⟨rfl, hb⟩; replace HA := Lib.hid (HA.out.step hb); clear hb; obtain ⟨⟨y0, y1, y2, y3, y4⟩, ⟨z0, z1, z2, z3, z4⟩, kf, hbw, hsz⟩ := HA.out; simp only at y0 y1 y2 y3 y4 z0 z1 z2 z3 z4))
    | (go_at_call 12; ((with_reducible refine (HFR.out _).mono ?_); rintro e w1 ⟨rfl, hb⟩; replace HA := Lib.hid (HA.out.step hb); clear hb; clear y0 y1 y2 y3 y4 z0 z1 z2 z3 z4 kf hbw hsz; obtain ⟨⟨y0, y1, y2, y3, y4⟩, ⟨z0, z1, z2, z3, z4⟩, kf, hbw, hsz⟩ := HA.out; simp only at y0 y1 y2 y3 y4 z0 z1 z2 z3 z4))
    | (go_at_call 9; ((with_reducible refine (HPL.out _).mono ?_); rintro e w1 ⟨rfl, hb⟩; replace HA := Lib.hid (HA.out.step hb); clear hb; clear y0 y1 y2 y3 y4 z0 z1 z2 z3 z4 kf hbw hsz; obtain ⟨⟨y0, y1, y2, y3, y4⟩, ⟨z0, z1, z2, z3, z4⟩, kf, hbw, hsz⟩ := HA.out; simp only at y0 y1 y2 y3 y4 z0 z1 z2 z3 z4))
    | (go_at_call 11; ((with_reducible refine (HRP.out _).mono ?_); rintro e w1 ⟨rfl, hb⟩; replace HA := Lib.hid (HA.out.step hb); clear hb; clear y0 y1 y2 y3 y4 z0 z1 z2 z3 z4 kf hbw hsz; obtain ⟨⟨y0, y1, y2, y3, y4⟩, ⟨z0, z1, z2, z3, z4⟩, kf, hbw, hsz⟩ := HA.out; simp only at y0 y1 y2 y3 y4 z0 z1 z2 z3 z4)))
  go_ret
  exact ⟨rfl, hbw⟩
set_option maxHeartbeats 1000000 in
theorem tframes_high (p q : Par) (port : Int) (w : World) (hok : p.ok = true) (hp : 15 < port) :
    Calls Try.prog 4 #[p.v, q.v, .int .i64 port] w fun e w' => e = .returned (.bool true) ∧ Below w.heap.size w w' := by
  have HAW := Lib.hid (fun W => tawake_any usual_ok apply_ok wins_ok W)
  have HPL := Lib.hid (fun W => plain_par p W)
  have HQL := Lib.hid (fun W => plain_par q W)
  have HRP := Lib.hid (fun W => rright_any p W)
  have HRQ := Lib.hid (fun W => rright_any q W)
  have HA := Lib.hid (fra_start w p q)
  have HFR := Lib.hid (fun W => frames_none p port W (Or.inl (by omega)))
  rw [hok] at HRP
  clear hok
  obtain ⟨a, b, c, d, f⟩ := p
  obtain ⟨qa, qb, qc, qd, qf⟩ := q
  simp only [Par.v] at HPL HQL HRP HRQ HFR
  show Calls Try.prog 4 #[.agg #[.int .i64 a, .int .i64 b, .int .i64 c, .int .i64 d, .bool f], .agg #[.int .i64 qa, .int .i64 qb, .int .i64 qc, .int .i64 qd, .bool qf], .int .i64 port] w _
  go_enter Try.func4, Try.ntmps4
  go_wp2_with (first
    | (go_at_call 6; go_loud (refine (HAW.out _).mono ?_; rintro e w1 ⟨rfl, hb⟩; replace HA := Lib.hid (HA.out.step hb); clear hb; obtain ⟨⟨y0, y1, y2, y3, y4⟩, ⟨z0, z1, z2, z3, z4⟩, kf, hbw, hsz⟩ := HA.out; simp only at y0 y1 y2 y3 y4 z0 z1 z2 z3 z4))
    | (go_at_call 12; ((with_reducible refine (HFR.out _).mono ?_); rintro e w1 ⟨rfl, hb⟩; replace HA := Lib.hid (HA.out.step hb); clear hb; clear y0 y1 y2 y3 y4 z0 z1 z2 z3 z4 kf hbw hsz; obtain ⟨⟨y0, y1, y2, y3, y4⟩, ⟨z0, z1, z2, z3, z4⟩, kf, hbw, hsz⟩ := HA.out; simp only at y0 y1 y2 y3 y4 z0 z1 z2 z3 z4))
    | (go_at_call 9; ((with_reducible refine (HPL.out _).mono ?_); rintro e w1 ⟨rfl, hb⟩; replace HA := Lib.hid (HA.out.step hb); clear hb; clear y0 y1 y2 y3 y4 z0 z1 z2 z3 z4 kf hbw hsz; obtain ⟨⟨y0, y1, y2, y3, y4⟩, ⟨z0, z1, z2, z3, z4⟩, kf, hbw, hsz⟩ := HA.out; simp only at y0 y1 y2 y3 y4 z0 z1 z2 z3 z4))
    | (go_at_call 11; ((with_reducible refine (HRP.out _).mono ?_); rintro e w1 ⟨rfl, hb⟩; replace HA := Lib.hid (HA.out.step hb); clear hb; clear y0 y1 y2 y3 y4 z0 z1 z2 z3 z4 kf hbw hsz; obtain ⟨⟨y0, y1, y2, y3, y4⟩, ⟨z0, z1, z2, z3, z4⟩, kf, hbw, hsz⟩ := HA.out; simp only at y0 y1 y2 y3 y4 z0 z1 z2 z3 z4)))
  go_ret
  exact ⟨rfl, hbw⟩
set_option maxHeartbeats 1000000 in
theorem tframes_badq (p q : Par) (P : Nat) (w : World) (hP : P ≤ 15) (hok : p.ok = true) (hqk : q.ok = false) :
    Calls Try.prog 4 #[p.v, q.v, .int .i64 P] w fun e w' => e = .returned (.bool true) ∧ Below w.heap.size w w' := by
  have HAW := Lib.hid (fun W => tawake_any usual_ok apply_ok wins_ok W)
  have HPL := Lib.hid (fun W => plain_par p W)
  have HQL := Lib.hid (fun W => plain_par q W)
  have HRP := Lib.hid (fun W => rright_any p W)
  have HRQ := Lib.hid (fun W => rright_any q W)
  have HA := Lib.hid (fra_start w p q)
  have HFR := Lib.hid (fun W => frames_ok p P W hP hok)
  rw [hok] at HRP
  rw [hqk] at HRQ
  clear hok hqk
  obtain ⟨a, b, c, d, f⟩ := p
  obtain ⟨qa, qb, qc, qd, qf⟩ := q
  simp only [Par.v] at HPL HQL HRP HRQ HFR
  show Calls Try.prog 4 #[.agg #[.int .i64 a, .int .i64 b, .int .i64 c, .int .i64 d, .bool f], .agg #[.int .i64 qa, .int .i64 qb, .int .i64 qc, .int .i64 qd, .bool qf], .int .i64 P] w _
  go_enter Try.func4, Try.ntmps4
  go_wp2_with (first
    | (go_at_call 6; go_loud (refine (HAW.out _).mono ?_; rintro e w1 ⟨rfl, hb⟩; replace HA := Lib.hid (HA.out.step hb); clear hb; obtain ⟨⟨y0, y1, y2, y3, y4⟩, ⟨z0, z1, z2, z3, z4⟩, kf, hbw, hsz⟩ := HA.out; simp only at y0 y1 y2 y3 y4 z0 z1 z2 z3 z4))
    | (go_at_call 12; go_loud (refine (HFR.out _).mono ?_; rintro e w1 ⟨g, cap, rfl, _, _, _, hb⟩; replace HA := Lib.hid (HA.out.step hb); clear hb; clear y0 y1 y2 y3 y4 z0 z1 z2 z3 z4 kf hbw hsz; obtain ⟨⟨y0, y1, y2, y3, y4⟩, ⟨z0, z1, z2, z3, z4⟩, kf, hbw, hsz⟩ := HA.out; simp only at y0 y1 y2 y3 y4 z0 z1 z2 z3 z4))
    | (go_at_call 9; ((with_reducible refine (HPL.out _).mono ?_); rintro e w1 ⟨rfl, hb⟩; replace HA := Lib.hid (HA.out.step hb); clear hb; clear y0 y1 y2 y3 y4 z0 z1 z2 z3 z4 kf hbw hsz; obtain ⟨⟨y0, y1, y2, y3, y4⟩, ⟨z0, z1, z2, z3, z4⟩, kf, hbw, hsz⟩ := HA.out; simp only at y0 y1 y2 y3 y4 z0 z1 z2 z3 z4))
    | (go_at_call 9; ((with_reducible refine (HQL.out _).mono ?_); rintro e w1 ⟨rfl, hb⟩; replace HA := Lib.hid (HA.out.step hb); clear hb; clear y0 y1 y2 y3 y4 z0 z1 z2 z3 z4 kf hbw hsz; obtain ⟨⟨y0, y1, y2, y3, y4⟩, ⟨z0, z1, z2, z3, z4⟩, kf, hbw, hsz⟩ := HA.out; simp only at y0 y1 y2 y3 y4 z0 z1 z2 z3 z4))
    | (go_at_call 11; ((with_reducible refine (HRP.out _).mono ?_); rintro e w1 ⟨rfl, hb⟩; replace HA := Lib.hid (HA.out.step hb); clear hb; clear y0 y1 y2 y3 y4 z0 z1 z2 z3 z4 kf hbw hsz; obtain ⟨⟨y0, y1, y2, y3, y4⟩, ⟨z0, z1, z2, z3, z4⟩, kf, hbw, hsz⟩ := HA.out; simp only at y0 y1 y2 y3 y4 z0 z1 z2 z3 z4))
    | (go_at_call 11; ((with_reducible refine (HRQ.out _).mono ?_); rintro e w1 ⟨rfl, hb⟩; replace HA := Lib.hid (HA.out.step hb); clear hb; clear y0 y1 y2 y3 y4 z0 z1 z2 z3 z4 kf hbw hsz; obtain ⟨⟨y0, y1, y2, y3, y4⟩, ⟨z0, z1, z2, z3, z4⟩, kf, hbw, hsz⟩ := HA.out; simp only at y0 y1 y2 y3 y4 z0 z1 z2 z3 z4)))
  go_ret
  exact ⟨rfl, hbw⟩
theorem tframes_any (p q : Par) (port : Int) (w : World) :
    Calls Try.prog 4 #[p.v, q.v, .int .i64 port] w fun e w' => e = .returned (.bool true) ∧ Below w.heap.size w w' := by
  cases hok : p.ok
  · exact tframes_bad p q port w hok
  by_cases h0 : port < 0
  · exact tframes_low p q port w hok h0
  by_cases h1 : 15 < port
  · exact tframes_high p q port w hok h1
  obtain ⟨P, rfl⟩ : ∃ P : Nat, port = (P : Int) := ⟨port.toNat, by omega⟩
  cases hqk : q.ok
  · exact tframes_badq p q P w (by omega) hok hqk
  · exact tframes_core p q P w (by omega) hok hqk
set_option maxRecDepth 100000 in
theorem tncFrames_lifted (os : Os) (started : os.Started) (H : Type) (enc : TypeId × Value → H) :
    ReturnsInHanded {} Try.checked os 4 .any (Rows.tncFramesSpec.pre6 enc Try.prog Try.f4 Rows.tncFramesRow.domain false) (Rows.tncFramesSpec.post enc Try.prog Try.f4 false true false false) := by
  refine returnsInHanded_of_change_sized (C := Try.checked) Try.own started (by kernel_rfl) Try.func4
    (ChangeSpec.witness6 (enc := enc) (C := Try.checked) false ⟨#[], #[.agg #[.int .i64 0, .int .i64 0, .int .i64 0, .int .i64 0, .bool false], .agg #[.int .i64 0, .int .i64 0, .int .i64 0, .int .i64 0, .bool false], .int .i64 0], []⟩ 8 (by kernel_rfl) (by kernel_rfl) (by kernel_rfl) (by kernel_rfl)) ?_
  intro W base args ds gs before hval0 hW _ _ _
  have hval : ∀ (j : Nat) t v, Try.f4.params[j]? = some t → args[j]? = some v → Value.okWide Try.prog W .any base t v := hval0
  have hW' := hW
  obtain ⟨p, q, hA0, hV, rfl, _, _⟩ := hW
  have hA : DataW.TrodAll enc Try.prog W 0 (fun _ => true) true Try.f4.params.toList args.toList ds p := hA0
  rw [Try.params4] at hA hval
  obtain ⟨v0, v1, v2, d0, d1, d2, p0, p1, p2, rfl, rfl, rfl, h0, h1, h2⟩ := trodAll_three hA
  obtain ⟨rfl, rfl⟩ := trodVars_none hV
  obtain ⟨n, rfl, rfl, rfl, wn⟩ := open_int Try.underlying3 (hval 2 3 v2 rfl rfl) h2
  have h0k := h0
  have h1k := h1
  obtain ⟨rfl, par, rfl⟩ := open_par (hval 0 23 v0 rfl rfl) h0
  obtain ⟨rfl, qar, rfl⟩ := open_par (hval 1 23 v1 rfl rfl) h1
  clear hA0 hval0
  simp only [List.append_nil] at hW'
  have hlt : ∀ x ∈ ([] : List MemPlace), x.block < W.heap.size := fun x hx => by cases hx
  refine (tframes_any par qar n W).mono fun e W' ⟨he, hnx⟩ => ?_
  subst he
  refine ⟨_, rfl, _, _, _, [], [], [], hW', ?_, ?_, rfl, hnx.frame _, fun h => by cases h⟩
  · exact trodAll_mk1 (shut_bool Try.underlying4 true)
  · exact trodAll_mk3 (Below.trod Try.laidOut (by kernel_rfl) (of_decide_eq_true (by kernel_rfl)) h0k hnx hlt) (Below.trod Try.laidOut (by kernel_rfl) (of_decide_eq_true (by kernel_rfl)) h1k hnx hlt) (shut_int Try.underlying3 wn)
theorem tncFrames_holds : Rows.TncFramesSaid :=
  OpenClaim.holds_of_wide 4 Try.f4 rfl rfl rfl rfl rfl rfl rfl ⟨rfl, rfl, rfl, rfl, rfl⟩ rfl rfl rfl rfl rfl (by kernel_rfl) Try.func4 (by kernel_rfl)
    (of_decide_eq_true (by kernel_rfl)) (by unfold Func.isWrapper; rw [if_neg (of_decide_eq_false (by kernel_rfl))]; exact ⟨rfl, rfl⟩)
    (fun os started H enc _ => tncFrames_lifted os started H enc)
end Go.Proofs.Yteglaenjmeocmaa
