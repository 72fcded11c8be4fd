/-
Walk of the statement PathBytes.
-/
import Derived.Test.YteiappicdnekoaaDoorPathReadsW
import Derived.Test.YteiappicdnekoaaDoorPathRPut
import Derived.Test.YteiappicdnekoaaDoorPathCPut
import Derived.Test.YteiappicdnekoaaDoorPathRRight
namespace Go.Proofs.YteiappicdnekoaaDoor
open Go.RowKit Go.Sort
set_option maxRecDepth 20000
/-- bytes of calls from number k on, of n in all -/
def restP (n : Nat) : Nat → List Ent → List UInt8
  | _, [] => []
  | k, e :: M => putD e.1.data.toList e.2.1.toNat e.2.2 (decide (k + 1 = n)) ++ restP n (k + 1) M
theorem bytes_rest (L : List Ent) : ∀ k, k ≤ L.length → bytesP L k ++ restP L.length k (L.drop k) = bytesP L L.length := by
  intro k hk
  obtain ⟨j, hj⟩ : ∃ j, j = L.length - k := ⟨_, rfl⟩
  induction j generalizing k with
  | zero =>
    have : k = L.length := by omega
    subst this
    rw [List.drop_length, restP, List.append_nil]
  | succ j ih =>
    have hlt : k < L.length := by omega
    rw [← ih (k + 1) (by omega) (by omega), bytesP_next L k hlt, List.drop_eq_getElem_cons hlt, restP, List.append_assoc]
theorem take7 (a b : List UInt8) (h : a.length = 7) : (a ++ b).take 7 = a ∧ (a ++ b).drop 7 = b := by
  rw [← h]
  exact ⟨List.take_left, List.drop_left⟩
theorem put_len7 (e : Ent) (la : Bool) : (putD e.1.data.toList e.2.1.toNat e.2.2 la).length = 7 := put_len _ _ _ _
/-- the bytes of right entries are read as they are -/
theorem getP_put (n : Nat) (behind : List UInt8) : ∀ (M : List Ent) (acc : List Ent) (k : Nat), (∀ e ∈ M, rightD e.1 e.2.1 = true) → acc.length + M.length = n → acc.length + k = 10 → M.length ≤ k → 0 < M.length → 2 ≤ n → ordD ((acc ++ M).drop 2) = true →
    getP k acc (restP n acc.length M ++ behind) = (0, acc ++ M)
  | [], _, _, _, _, _, _, h0, _, _ => by simp at h0
  | e :: M, acc, 0, _, _, _, hk, _, _, _ => by simp at hk
  | e :: M, acc, k + 1, hr, hn, hk, hkk, _, h2, ho => by
    have he := hr e List.mem_cons_self
    have hg := get_put e.1 e.2.1 e.2.2 (decide (acc.length + 1 = n)) he
    have hlen := put_len7 e (decide (acc.length + 1 = n))
    obtain ⟨t7, d7⟩ := take7 (putD e.1.data.toList e.2.1.toNat e.2.2 (decide (acc.length + 1 = n))) (restP n (acc.length + 1) M ++ behind) hlen
    have hs : restP n acc.length (e :: M) ++ behind = putD e.1.data.toList e.2.1.toNat e.2.2 (decide (acc.length + 1 = n)) ++ (restP n (acc.length + 1) M ++ behind) := by rw [restP, List.append_assoc]
    have h7 : 7 ≤ (restP n acc.length (e :: M) ++ behind).length := by rw [hs, List.length_append, hlen]; omega
    have hent : ((⟨e.1.data.toList.toArray⟩, ((e.2.1.toNat : Nat) : Int), e.2.2) : Ent) = e := by
      obtain ⟨_, _, h3, _⟩ := right_facts e.1 e.2.1 he
      rw [show ((e.2.1.toNat : Nat) : Int) = e.2.1 from by omega]
    cases M with
    | nil =>
      have hl : acc.length + 1 = n := by simpa using hn
      rw [decide_eq_true hl] at hg t7 hs
      rw [getP_last k acc _ h7 (by rw [hs, t7]; exact hg), hent, if_neg (by omega), if_pos ho]
    | cons e' M =>
      have hl : ¬ acc.length + 1 = n := by simp at hn; omega
      rw [decide_eq_false hl] at hg t7 hs d7
      rw [getP_next k acc _ h7 (by rw [hs, t7]; exact hg), hent, hs, d7]
      have ih := getP_put n behind (e' :: M) (acc ++ [e]) k (fun x hx => hr x (List.mem_cons_of_mem _ hx)) (by simp at hn ⊢; omega) (by simp; omega) (by simp at hkk ⊢; omega) (by simp) h2 (by rw [List.append_assoc]; exact ho)
      rw [show (acc ++ [e]).length = acc.length + 1 from by simp] at ih
      rw [ih, List.append_assoc]
      try rfl
theorem right_path (L : List Ent) (h : rightP L = true) : (∀ e ∈ L, rightD e.1 e.2.1 = true) ∧ 2 ≤ L.length ∧ L.length ≤ 10 ∧ ordD (L.drop 2) = true := by
  unfold rightP at h
  simp only [Bool.and_eq_true, decide_eq_true_eq] at h
  exact ⟨List.all_eq_true.1 h.1.1.1, h.1.1.2, h.1.2, h.2⟩
theorem get_bytes (L : List Ent) (behind : List UInt8) (h : rightP L = true) : getP 10 [] (bytesP L L.length ++ behind) = (0, L) := by
  obtain ⟨h1, h2, h3, h4⟩ := right_path L h
  have k := getP_put L.length behind L [] 10 h1 (by simp) rfl h3 (by omega) h2 h4
  have e := bytes_rest L 0 (by omega)
  rw [show bytesP L 0 = [] from rfl, List.nil_append, List.drop_zero] at e
  rw [show ([] : List Ent).length = 0 from rfl, e] at k
  exact k
/-- the argument's cells, and the law's own path w -/
structure BAt (w W : World) (m : Nat) (v0 v1 v2 v3 v4 v5 v6 : Value) (wa : Option Addr) (wc : Nat) (L : List Ent) : Prop where
  box : P7 W w.heap.size v0 v1 v2 v3 v4 v5 v6
  var : KeepAt W m 0 (.slice wa L.length wc)
  ents : EntsAt W wa wc L
  bel : Below w.heap.size w W
theorem BAt.below {w W W' : World} {m : Nat} {v0 v1 v2 v3 v4 v5 v6 : Value} {wa : Option Addr} {wc : Nat} {L : List Ent} (h : BAt w W m v0 v1 v2 v3 v4 v5 v6 wa wc L) (hb : Below W.heap.size W W') : BAt w W' m v0 v1 v2 v3 v4 v5 v6 wa wc L :=
  ⟨h.box.below hb, h.var.below hb, h.ents.below hb, h.bel.trans (hb.mono h.bel.size)⟩
theorem BAt.alloc {w W : World} {m : Nat} {v0 v1 v2 v3 v4 v5 v6 : Value} {wa : Option Addr} {wc : Nat} {L : List Ent} (h : BAt w W m v0 v1 v2 v3 v4 v5 v6 wa wc L) (o : Obj) : BAt w (W.alloc o) m v0 v1 v2 v3 v4 v5 v6 wa wc L := h.below ((Below.refl _ W).alloc (Nat.le_refl _) _)
theorem BAt.start {w W : World} {v0 v1 v2 v3 v4 v5 v6 : Value} {wa : Option Addr} {wc : Nat} {L : List Ent} (hp : P7 W w.heap.size v0 v1 v2 v3 v4 v5 v6) (hb : Below w.heap.size w W) (he : EntsAt W wa wc L) : BAt w (W.alloc (.cells #[.slice wa L.length wc] 31)) W.heap.size v0 v1 v2 v3 v4 v5 v6 wa wc L :=
  ⟨hp.alloc _, ⟨World.cell?_alloc_at _ _ _ _ rfl, World.frozen?_alloc_at _ _ _ _ rfl, by simp⟩, he.alloc _, hb.alloc hb.size _⟩
theorem pbytes_great (tb fb : ByteArray) (tn fn : Int) (tm fm : Bool) (a : Option Addr) (n cap : Nat) (s : ByteArray) (w : World) (h : 30 < n ∨ 300 < s.size) :
    Calls Tryd.prog 3 #[.agg #[.string tb, .int .i64 tn, .string fb, .int .i64 fn, .bool tm, .bool fm, .slice a n cap], .string s] w fun e w' => e = .returned (.bool true) ∧ Below w.heap.size w w' := by
  have HB0 := Lib.hid ((Below.refl _ w).alloc (Nat.le_refl _) (.cells #[.string tb, .int .i64 tn, .string fb, .int .i64 fn, .bool tm, .bool fm, .slice a n cap] 26))
  have HP0 := Lib.hid (P7.new w w.heap.size rfl (.string tb) (.int .i64 tn) (.string fb) (.int .i64 fn) (.bool tm) (.bool fm) (.slice a n cap) 26)
  have hg := fun W => great_any' tb fb tn fn tm fm a n cap W
  by_cases h1 : 30 < n
  · rw [decide_eq_true h1] at hg
    have HG := Lib.hid hg
    clear hg h
    go_enter Tryd.func3, Tryd.ntmps3
    go_wp2_with (first
      | (go_at_call 9; (with_reducible refine (pawake_any _).mono ?_); rintro e w1 ⟨rfl, hb⟩; have HB := Lib.hid (HB0.out.trans (hb.mono HB0.out.size)); have HP := Lib.hid (HP0.out.below hb); clear hb; obtain ⟨⟨p0, -, pl⟩, ⟨p1, -, -⟩, ⟨p2, -, -⟩, ⟨p3, -, -⟩, ⟨p4, -, -⟩, ⟨p5, -, -⟩, ⟨p6, -, -⟩⟩ := HP.out)
      | (go_at_call 10; (with_reducible refine (HG.out _).mono ?_); rintro e w2 ⟨rfl, hb⟩; replace HB := Lib.hid (HB.out.trans (hb.mono HB.out.size)); clear hb))
    go_ret
    exact ⟨rfl, HB.out⟩
  · have h2 : 300 < s.size := by omega
    have d2 : decide ((300 : Int) < (s.size : Int)) = true := decide_eq_true (by omega)
    rw [decide_eq_false h1] at hg
    have HG := Lib.hid hg
    clear hg h
    go_enter Tryd.func3, Tryd.ntmps3
    go_wp2_with (first
      | (go_at_call 9; (with_reducible refine (pawake_any _).mono ?_); rintro e w1 ⟨rfl, hb⟩; have HB := Lib.hid (HB0.out.trans (hb.mono HB0.out.size)); have HP := Lib.hid (HP0.out.below hb); clear hb; obtain ⟨⟨p0, -, pl⟩, ⟨p1, -, -⟩, ⟨p2, -, -⟩, ⟨p3, -, -⟩, ⟨p4, -, -⟩, ⟨p5, -, -⟩, ⟨p6, -, -⟩⟩ := HP.out)
      | (go_at_call 10; (with_reducible refine (HG.out _).mono ?_); rintro e w2 ⟨rfl, hb⟩; replace HB := Lib.hid (HB.out.trans (hb.mono HB.out.size)); clear hb))
    go_ret
    exact ⟨rfl, HB.out⟩
set_option maxHeartbeats 2000000 in
theorem pbytes_core (tb fb : ByteArray) (tn fn : Int) (tm fm : Bool) (a : Option Addr) (cap : Nat) (D : List Ent) (s : ByteArray) (w : World) (hD : D.length ≤ 30) (hs : s.size ≤ 300) (hE : EntsAt w a cap D) :
    Calls Tryd.prog 3 #[.agg #[.string tb, .int .i64 tn, .string fb, .int .i64 fn, .bool tm, .bool fm, .slice a D.length cap], .string s] w fun e w' => e = .returned (.bool true) ∧ Below w.heap.size w w' := by
  have HB0 := Lib.hid ((Below.refl _ w).alloc (Nat.le_refl _) (.cells #[.string tb, .int .i64 tn, .string fb, .int .i64 fn, .bool tm, .bool fm, .slice a D.length cap] 26))
  have HP0 := Lib.hid (P7.new w w.heap.size rfl (.string tb) (.int .i64 tn) (.string fb) (.int .i64 fn) (.bool tm) (.bool fm) (.slice a D.length cap) 26)
  have hg := fun W => great_any' tb fb tn fn tm fm a D.length cap W
  rw [decide_eq_false (by omega)] at hg
  have HG := Lib.hid hg
  have d2 : decide ((300 : Int) < (s.size : Int)) = false := decide_eq_false (by omega)
  have HPL := Lib.hid (fun W (h : Below w.heap.size w W) => plainP_any tb fb tn fn tm fm a cap D W (by omega) (hE.below h))
  have HRI := Lib.hid (fun W (h : Below w.heap.size w W) => pright_any tb fb tn fn tm fm a cap D W (by omega) (hE.below h))
  have HPU := Lib.hid (fun W (h : Below w.heap.size w W) => pput_any tb fb tn fn tm fm a cap D W (by omega) (hE.below h))
  have HTX := Lib.hid (fun W (h : Below w.heap.size w W) => ptext_any tb fb tn fn tm fm a cap D W (by omega) (hE.below h))
  have HGB := Lib.hid (fun b (h : rightP ((tb, tn, tm) :: (fb, fn, fm) :: D) = true) => get_bytes _ b h)
  have HRP := Lib.hid (fun (h : rightP ((tb, tn, tm) :: (fb, fn, fm) :: D) = true) => right_path _ h)
  have HRTX := Lib.hid (fun wa wc W (h : EntsAt W wa wc ((tb, tn, tm) :: (fb, fn, fm) :: D)) (h8 : D.length ≤ 8) => rptext_any wa wc _ _ D W h8 h)
  obtain ⟨L, hL⟩ : ∃ L, L = (tb, tn, tm) :: (fb, fn, fm) :: D := ⟨_, rfl⟩
  have hLn : L.length = D.length + 2 := by rw [hL]; simp
  rw [← hL] at HPL HRI HPU HTX HGB HRP HRTX
  have HRR := Lib.hid (fun wa wc W (h : EntsAt W wa wc L) => rpright_any wa wc L W (by omega) h)
  have HQL := Lib.hid hL
  have HLN := Lib.hid hLn
  have hL40 : L.length ≤ 40 := by omega
  clear hE hg hL hLn
  cases hr : rightP L
  · rw [hr] at HRI HRR
    have hpu := HPU.out
    unfold pputE at hpu
    rw [hr] at hpu
    simp only [Bool.false_eq_true, if_false] at hpu
    replace HPU := Lib.hid hpu
    have htx := HTX.out
    rw [hr] at htx
    simp only [Bool.false_eq_true, if_false] at htx
    replace HTX := Lib.hid htx
    clear hpu htx hr HGB HRP HRTX
    go_enter Tryd.func3, Tryd.ntmps3
    go_wp2_with (first
      | (go_at_call 9; (with_reducible refine (pawake_any _).mono ?_); rintro e w1 ⟨rfl, hb⟩; have HB := Lib.hid (HB0.out.trans (hb.mono HB0.out.size)); have HP := Lib.hid (HP0.out.below hb); clear hb; obtain ⟨⟨p0, -, pl⟩, ⟨p1, -, -⟩, ⟨p2, -, -⟩, ⟨p3, -, -⟩, ⟨p4, -, -⟩, ⟨p5, -, -⟩, ⟨p6, -, -⟩⟩ := HP.out)
      | (go_at_call 10; (with_reducible refine (HG.out _).mono ?_); rintro e w2 ⟨rfl, hb⟩; replace HB := Lib.hid (HB.out.trans (hb.mono HB.out.size)); replace HP := Lib.hid (HP.out.below hb); clear hb p0 pl p1 p2 p3 p4 p5 p6; obtain ⟨⟨p0, -, pl⟩, ⟨p1, -, -⟩, ⟨p2, -, -⟩, ⟨p3, -, -⟩, ⟨p4, -, -⟩, ⟨p5, -, -⟩, ⟨p6, -, -⟩⟩ := HP.out)
      | (go_at_call 11; (with_reducible refine (HPL.out _ HB.out).mono ?_); rintro e w3 ⟨v, rfl, hv, hb⟩; obtain ⟨wa, wc, hvv, hEE⟩ := hv.ents; subst hvv; have HA := Lib.hid (BAt.start (HP.out.below hb) (HB.out.trans (hb.mono HB.out.size)) hEE); clear hb hEE hv p0 pl p1 p2 p3 p4 p5 p6 HP HB; obtain ⟨⟨⟨p0, -, pl⟩, ⟨p1, -, -⟩, ⟨p2, -, -⟩, ⟨p3, -, -⟩, ⟨p4, -, -⟩, ⟨p5, -, -⟩, ⟨p6, -, -⟩⟩, ⟨r0, -, rl⟩, -, -⟩ := HA.out)
      | (go_at_call 12; (with_reducible refine (HRR.out wa wc _ HA.out.ents).mono ?_); rintro e w4 ⟨rfl, hb⟩; replace HA := Lib.hid (HA.out.below hb); clear hb p0 pl p1 p2 p3 p4 p5 p6 r0 rl; obtain ⟨⟨⟨p0, -, pl⟩, ⟨p1, -, -⟩, ⟨p2, -, -⟩, ⟨p3, -, -⟩, ⟨p4, -, -⟩, ⟨p5, -, -⟩, ⟨p6, -, -⟩⟩, ⟨r0, -, rl⟩, -, -⟩ := HA.out)
      | (go_at_call 13; (with_reducible refine (HPU.out _ HA.out.bel).mono ?_); rintro e w5 ⟨rfl, hb⟩; replace HA := Lib.hid (HA.out.below hb); clear hb p0 pl p1 p2 p3 p4 p5 p6 r0 rl; obtain ⟨⟨⟨p0, -, pl⟩, ⟨p1, -, -⟩, ⟨p2, -, -⟩, ⟨p3, -, -⟩, ⟨p4, -, -⟩, ⟨p5, -, -⟩, ⟨p6, -, -⟩⟩, ⟨r0, -, rl⟩, -, -⟩ := HA.out)
      | (go_at_call 14; (with_reducible refine (HRI.out _ HA.out.bel).mono ?_); rintro e w6 ⟨rfl, hb⟩; replace HA := Lib.hid (HA.out.below hb); clear hb p0 pl p1 p2 p3 p4 p5 p6 r0 rl; obtain ⟨⟨⟨p0, -, pl⟩, ⟨p1, -, -⟩, ⟨p2, -, -⟩, ⟨p3, -, -⟩, ⟨p4, -, -⟩, ⟨p5, -, -⟩, ⟨p6, -, -⟩⟩, ⟨r0, -, rl⟩, -, -⟩ := HA.out)
      | (go_at_call 15; (with_reducible refine (HTX.out _ HA.out.bel).mono ?_); rintro e w7 ⟨rfl, hb⟩; replace HA := Lib.hid (HA.out.below hb); clear hb))
    go_ret
    exact ⟨rfl, HA.out.bel⟩
  · rw [hr] at HRI HRR
    obtain ⟨hall, h2, h10, hord⟩ := HRP.out hr
    have hpu := HPU.out
    unfold pputE at hpu
    rw [hr] at hpu
    simp only [if_true] at hpu
    have htx := HTX.out
    rw [hr] at htx
    simp only [if_true] at htx
    obtain ⟨S, hS⟩ : ∃ S : ByteArray, S = ⟨(bytesP L L.length).toArray⟩ := ⟨_, rfl⟩
    obtain ⟨T, hT⟩ : ∃ T : ByteArray, T = ⟨(pathD (tb, tn, tm) (fb, fn, fm) D).toArray⟩ := ⟨_, rfl⟩
    rw [← hS] at hpu
    rw [← hT] at htx
    have hSz : S.size = 7 * L.length := by
      rw [hS]
      show (bytesP L L.length).toArray.size = _
      simp [bytesP_len' L L.length (Nat.le_refl _)]
    have hcat := fun (w : World) => run_string_add_sum (P := Tryd.prog) (w := w) S s (by omega)
    obtain ⟨ALL, hALL⟩ : ∃ ALL : ByteArray, ALL = S ++ s := ⟨_, rfl⟩
    rw [← hALL] at hcat
    have hal : ALL.data.toList = bytesP L L.length ++ s.data.toList := by rw [hALL, hS]; simp [ByteArray.data_append]
    have hals : ALL.size ≤ 1000 := by rw [hALL, ByteArray.size_append]; omega
    have HCG := Lib.hid (show ∀ W, Calls Tryd.prog 16 #[.string ALL] W fun e w' => (∃ da dc, e = .returned (.tuple #[.agg #[.string tb, .int .i64 tn, .string fb, .int .i64 fn, .bool tm, .bool fm, .slice da D.length dc], .int .i64 (S.size : Int), .int .i64 0]) ∧ EntsAt w' da dc D) ∧ Below W.heap.size W w' from fun W => (pget_any ALL W (by omega)).mono fun e w' hq => by
      rw [hal, HGB.out s.data.toList hr] at hq
      obtain ⟨x, y, D', da, dc, h1, h2, h3⟩ := hq.2.1 rfl
      rw [HQL.out] at h1
      simp only [List.cons.injEq] at h1
      obtain ⟨rfl, rfl, rfl⟩ := h1
      exact ⟨⟨da, dc, by rw [h2, hSz], h3⟩, hq.2.2⟩)
    have HRPU := Lib.hid (show ∀ wa wc W, EntsAt W wa wc L → Calls Tryd.prog 17 #[.agg #[.slice wa L.length wc]] W fun e w' => e = .returned (.string S) ∧ Below W.heap.size W w' from fun wa wc W h => by
      rw [hS]
      exact rpput_any wa wc L W h10 h hall)
    have HRT := Lib.hid (show ∀ wa wc W, EntsAt W wa wc L → Calls Tryd.prog 19 #[.agg #[.slice wa L.length wc]] W fun e w' => e = .returned (.string T) ∧ Below W.heap.size W w' from fun wa wc W h => by
      rw [hT]
      exact HRTX.out wa wc W h (by have := HLN.out; omega) hall)
    have HPLN := Lib.hid (show ∀ da dc W, EntsAt W da dc D → Calls Tryd.prog 11 #[.agg #[.string tb, .int .i64 tn, .string fb, .int .i64 fn, .bool tm, .bool fm, .slice da D.length dc]] W fun e w' => ∃ v, e = .returned (.agg #[v]) ∧ Ents w' v L ∧ Below W.heap.size W w' from fun da dc W h => (plainP_any tb fb tn fn tm fm da dc D W (by omega) h).mono fun e w' hq => by
      obtain ⟨v, h1, h2, h3⟩ := hq
      exact ⟨v, h1, by rw [HQL.out]; exact h2.ents, h3⟩)
    replace HPU := Lib.hid hpu
    replace HTX := Lib.hid htx
    clear hpu htx hr HGB HRP HRTX hall h2 h10 hord hS hT hal hALL hals hSz
    go_enter Tryd.func3, Tryd.ntmps3
    go_wp2_with (first
      | (go_at_call 9; (with_reducible refine (pawake_any _).mono ?_); rintro e w1 ⟨rfl, hb⟩; have HB := Lib.hid (HB0.out.trans (hb.mono HB0.out.size)); have HP := Lib.hid (HP0.out.below hb); clear hb; obtain ⟨⟨p0, -, pl⟩, ⟨p1, -, -⟩, ⟨p2, -, -⟩, ⟨p3, -, -⟩, ⟨p4, -, -⟩, ⟨p5, -, -⟩, ⟨p6, -, -⟩⟩ := HP.out)
      | (go_at_call 10; (with_reducible refine (HG.out _).mono ?_); rintro e w2 ⟨rfl, hb⟩; replace HB := Lib.hid (HB.out.trans (hb.mono HB.out.size)); replace HP := Lib.hid (HP.out.below hb); clear hb p0 pl p1 p2 p3 p4 p5 p6; obtain ⟨⟨p0, -, pl⟩, ⟨p1, -, -⟩, ⟨p2, -, -⟩, ⟨p3, -, -⟩, ⟨p4, -, -⟩, ⟨p5, -, -⟩, ⟨p6, -, -⟩⟩ := HP.out)
      | (go_at_call 11; (with_reducible refine (HPL.out _ HB.out).mono ?_); rintro e w3 ⟨v, rfl, hv, hb⟩; obtain ⟨wa, wc, hvv, hEE⟩ := hv.ents; subst hvv; have HA := Lib.hid (BAt.start (HP.out.below hb) (HB.out.trans (hb.mono HB.out.size)) hEE); clear hb hEE hv p0 pl p1 p2 p3 p4 p5 p6 HP HB; obtain ⟨⟨⟨p0, -, pl⟩, ⟨p1, -, -⟩, ⟨p2, -, -⟩, ⟨p3, -, -⟩, ⟨p4, -, -⟩, ⟨p5, -, -⟩, ⟨p6, -, -⟩⟩, ⟨r0, -, rl⟩, -, -⟩ := HA.out)
      | (go_at_call 12; (with_reducible refine (HRR.out wa wc _ HA.out.ents).mono ?_); rintro e w4 ⟨rfl, hb⟩; replace HA := Lib.hid (HA.out.below hb); clear hb p0 pl p1 p2 p3 p4 p5 p6 r0 rl; obtain ⟨⟨⟨p0, -, pl⟩, ⟨p1, -, -⟩, ⟨p2, -, -⟩, ⟨p3, -, -⟩, ⟨p4, -, -⟩, ⟨p5, -, -⟩, ⟨p6, -, -⟩⟩, ⟨r0, -, rl⟩, -, -⟩ := HA.out)
      | (go_at_call 13; (with_reducible refine (HPU.out _ HA.out.bel).mono ?_); rintro e w5 ⟨rfl, hb⟩; replace HA := Lib.hid (HA.out.below hb); clear hb p0 pl p1 p2 p3 p4 p5 p6 r0 rl; obtain ⟨⟨⟨p0, -, pl⟩, ⟨p1, -, -⟩, ⟨p2, -, -⟩, ⟨p3, -, -⟩, ⟨p4, -, -⟩, ⟨p5, -, -⟩, ⟨p6, -, -⟩⟩, ⟨r0, -, rl⟩, -, -⟩ := HA.out)
      | (go_at_call 14; (with_reducible refine (HRI.out _ HA.out.bel).mono ?_); rintro e w6 ⟨rfl, hb⟩; replace HA := Lib.hid (HA.out.below hb); clear hb p0 pl p1 p2 p3 p4 p5 p6 r0 rl; obtain ⟨⟨⟨p0, -, pl⟩, ⟨p1, -, -⟩, ⟨p2, -, -⟩, ⟨p3, -, -⟩, ⟨p4, -, -⟩, ⟨p5, -, -⟩, ⟨p6, -, -⟩⟩, ⟨r0, -, rl⟩, -, -⟩ := HA.out)
      | (go_at_call 16; (with_reducible refine (HCG.out _).mono ?_); rintro e w7 ⟨⟨da, dc, rfl, hE⟩, hb⟩; have HA7 := Lib.hid ((HA.out.below hb).alloc (.cells #[.string tb, .int .i64 tn, .string fb, .int .i64 fn, .bool tm, .bool fm, .slice da D.length dc] 26)); have HQ7 := Lib.hid (P7.new w7 w7.heap.size rfl (.string tb) (.int .i64 tn) (.string fb) (.int .i64 fn) (.bool tm) (.bool fm) (.slice da D.length dc) 26); have HE7 := Lib.hid (hE.alloc (.cells #[.string tb, .int .i64 tn, .string fb, .int .i64 fn, .bool tm, .bool fm, .slice da D.length dc] 26)); clear hb hE p0 pl p1 p2 p3 p4 p5 p6 r0 rl HA))
    generalize w7.alloc (.cells #[.string tb, .int .i64 tn, .string fb, .int .i64 fn, .bool tm, .bool fm, .slice da D.length dc] 26) = W at *
    have HB1 := Lib.hid ((Below.refl W.heap.size W).drew)
    refine wp_region_held (S := fun W' => Below W.heap.size W W') (by kernel_rfl) ?_
    change wpAnyH _ _ _ _ _ _ _ _ W.drew
    have HB := Lib.hid ((Below.refl W.heap.size W).drew)
    refine wpAnyH_take (i := 0) (v := ?_) rfl (by kernel_rfl) (by kernel_rfl) (by kernel_rfl) (fun _ _ _ h => h) (Or.inl ⟨by rfl, ?_⟩) HB.out ?_
    rotate_left
    · intro w' hw'
      go_simp
      with_reducible rfl
    go_simp
    refine wpAnyH_take (i := 1) (v := ?_) rfl (by kernel_rfl) (by kernel_rfl) (by kernel_rfl) (fun _ _ _ h => h) (Or.inl ⟨by rfl, ?_⟩) HB.out ?_
    rotate_left
    · intro w' hw'
      go_simp
      with_reducible rfl
    go_simp
    refine wpAnyH_take (i := 2) (v := ?_) rfl (by kernel_rfl) (by kernel_rfl) (by kernel_rfl) (fun _ _ _ h => h) (Or.inl ⟨by rfl, ?_⟩) HB.out ?_
    rotate_left
    · intro w' hw'
      go_simp
      with_reducible rfl
    go_simp
    refine wpAnyH_take (i := 3) (v := ?_) rfl (by kernel_rfl) (by kernel_rfl) (by kernel_rfl) (fun _ _ _ h => h) (Or.inl ⟨by rfl, ?_⟩) HB.out ?_
    rotate_left
    · intro w' hw'
      go_simp
      with_reducible rfl
    go_simp
    refine wpAnyH_take (i := 4) (v := ?_) rfl (by kernel_rfl) (by kernel_rfl) (by kernel_rfl) (fun _ _ _ h => h) (Or.inl ⟨by rfl, ?_⟩) HB.out ?_
    rotate_left
    · intro w' hw'
      obtain ⟨⟨⟨p0, -, pl⟩, ⟨p1, -, -⟩, ⟨p2, -, -⟩, ⟨p3, -, -⟩, ⟨p4, -, -⟩, ⟨p5, -, -⟩, ⟨p6, -, -⟩⟩, ⟨r0, -, rl⟩, -, -⟩ := HA7.out.below hw'; obtain ⟨⟨q0, -, ql⟩, ⟨q1, -, -⟩, ⟨q2, -, -⟩, ⟨q3, -, -⟩, ⟨q4, -, -⟩, ⟨q5, -, -⟩, ⟨q6, -, -⟩⟩ := HQ7.out.below hw'
      go_simp
      with_reducible rfl
    go_simp
    refine wpAnyH_ready (rs := [5]) (by kernel_rfl) (by simp) ?_
    refine AllReadyH.cons rfl (fun K hK => ?_) AllReadyH.nil
    go_simp
    go_at_call 17
    refine (HRPU.out wa wc _ HA7.out.ents.drew).mono ?_
    rintro e w8 ⟨rfl, hb⟩
    have HB := Lib.hid (show Below W.heap.size W w8 from HB1.out.trans (hb.mono (Nat.le_refl _)))
    clear hb
    change K _ _
    refine hK.out _ _ HB.out (fun _ => ?_)
    clear hK K
    refine wpAnyH_take (i := 6) (v := ?_) rfl (by kernel_rfl) (by kernel_rfl) (by kernel_rfl) (fun _ _ _ h => h) (Or.inl ⟨by rfl, ?_⟩) HB.out ?_
    rotate_left
    · intro w' hw'
      go_simp
      with_reducible rfl
    go_simp
    refine wpAnyH_take (i := 7) (v := ?_) rfl (by kernel_rfl) (by kernel_rfl) (by kernel_rfl) (fun _ _ _ h => h) (Or.inl ⟨by rfl, ?_⟩) HB.out ?_
    rotate_left
    · intro w' hw'
      go_simp
      with_reducible rfl
    go_simp
    refine wpAnyH_take (i := 8) (v := ?_) rfl (by kernel_rfl) (by kernel_rfl) (by kernel_rfl) (fun _ _ _ h => h) (Or.inl ⟨by rfl, ?_⟩) HB.out ?_
    rotate_left
    · intro w' hw'
      go_simp
      with_reducible rfl
    go_simp
    refine wpAnyH_take (i := 9) (v := ?_) rfl (by kernel_rfl) (by kernel_rfl) (by kernel_rfl) (fun _ _ _ h => h) (Or.inl ⟨by rfl, ?_⟩) HB.out ?_
    rotate_left
    · intro w' hw'
      go_simp
      with_reducible rfl
    go_simp
    refine wpAnyH_take (i := 10) (v := ?_) rfl (by kernel_rfl) (by kernel_rfl) (by kernel_rfl) (fun _ _ _ h => h) (Or.inl ⟨by rfl, ?_⟩) HB.out ?_
    rotate_left
    · intro w' hw'
      go_simp
      with_reducible rfl
    go_simp
    refine wpAnyH_take (i := 11) (v := ?_) rfl (by kernel_rfl) (by kernel_rfl) (by kernel_rfl) (fun _ _ _ h => h) (Or.inl ⟨by rfl, ?_⟩) HB.out ?_
    rotate_left
    · intro w' hw'
      go_simp
      with_reducible rfl
    go_simp
    refine wpAnyH_take (i := 12) (v := ?_) rfl (by kernel_rfl) (by kernel_rfl) (by kernel_rfl) (fun _ _ _ h => h) (Or.inl ⟨by rfl, ?_⟩) HB.out ?_
    rotate_left
    · intro w' hw'
      go_simp
      with_reducible rfl
    go_simp
    refine wpAnyH_take (i := 13) (v := ?_) rfl (by kernel_rfl) (by kernel_rfl) (by kernel_rfl) (fun _ _ _ h => h) (Or.inl ⟨by rfl, ?_⟩) HB.out ?_
    rotate_left
    · intro w' hw'
      go_simp
      with_reducible rfl
    go_simp
    refine wpAnyH_take (i := 14) (v := ?_) rfl (by kernel_rfl) (by kernel_rfl) (by kernel_rfl) (fun _ _ _ h => h) (Or.inl ⟨by rfl, ?_⟩) HB.out ?_
    rotate_left
    · intro w' hw'
      go_simp
      with_reducible rfl
    go_simp
    refine wpAnyH_take (i := 15) (v := ?_) rfl (by kernel_rfl) (by kernel_rfl) (by kernel_rfl) (fun _ _ _ h => h) (Or.inl ⟨by rfl, ?_⟩) HB.out ?_
    rotate_left
    · intro w' hw'
      go_simp
      with_reducible rfl
    go_simp
    refine wpAnyH_take (i := 16) (v := ?_) rfl (by kernel_rfl) (by kernel_rfl) (by kernel_rfl) (fun _ _ _ h => h) (Or.inl ⟨by rfl, ?_⟩) HB.out ?_
    rotate_left
    · intro w' hw'
      go_simp
      with_reducible rfl
    go_simp
    refine wpAnyH_take (i := 17) (v := ?_) rfl (by kernel_rfl) (by kernel_rfl) (by kernel_rfl) (fun _ _ _ h => h) (Or.inl ⟨by rfl, ?_⟩) HB.out ?_
    rotate_left
    · intro w' hw'
      go_simp
      with_reducible rfl
    go_simp
    refine wpAnyH_take (i := 18) (v := ?_) rfl (by kernel_rfl) (by kernel_rfl) (by kernel_rfl) (fun _ _ _ h => h) (Or.inl ⟨by rfl, ?_⟩) HB.out ?_
    rotate_left
    · intro w' hw'
      go_simp
      with_reducible rfl
    go_simp
    refine wpAnyH_take (i := 19) (v := ?_) rfl (by kernel_rfl) (by kernel_rfl) (by kernel_rfl) (fun _ _ _ h => h) (Or.inl ⟨by rfl, ?_⟩) HB.out ?_
    rotate_left
    · intro w' hw'
      obtain ⟨⟨⟨p0, -, pl⟩, ⟨p1, -, -⟩, ⟨p2, -, -⟩, ⟨p3, -, -⟩, ⟨p4, -, -⟩, ⟨p5, -, -⟩, ⟨p6, -, -⟩⟩, ⟨r0, -, rl⟩, -, -⟩ := HA7.out.below hw'; obtain ⟨⟨q0, -, ql⟩, ⟨q1, -, -⟩, ⟨q2, -, -⟩, ⟨q3, -, -⟩, ⟨q4, -, -⟩, ⟨q5, -, -⟩, ⟨q6, -, -⟩⟩ := HQ7.out.below hw'
      go_simp
      with_reducible rfl
    go_simp
    refine wpAnyH_take (i := 21) (v := ?_) rfl (by kernel_rfl) (by kernel_rfl) (by kernel_rfl) (fun _ _ _ h => h) (Or.inl ⟨by rfl, ?_⟩) HB.out ?_
    rotate_left
    · intro w' hw'
      obtain ⟨⟨⟨p0, -, pl⟩, ⟨p1, -, -⟩, ⟨p2, -, -⟩, ⟨p3, -, -⟩, ⟨p4, -, -⟩, ⟨p5, -, -⟩, ⟨p6, -, -⟩⟩, ⟨r0, -, rl⟩, -, -⟩ := HA7.out.below hw'; obtain ⟨⟨q0, -, ql⟩, ⟨q1, -, -⟩, ⟨q2, -, -⟩, ⟨q3, -, -⟩, ⟨q4, -, -⟩, ⟨q5, -, -⟩, ⟨q6, -, -⟩⟩ := HQ7.out.below hw'
      go_simp
      with_reducible rfl
    go_simp
    refine wpAnyH_ready (rs := [20]) (by kernel_rfl) (by simp) ?_
    refine AllReadyH.cons rfl (fun K hK => ?_) AllReadyH.nil
    go_simp
    go_at_call 11
    refine (HPLN.out da dc _ (HE7.out.below HB.out)).mono ?_
    rintro e w9 ⟨pv, rfl, hpv, hb⟩
    have HB9 := Lib.hid (show Below W.heap.size W w9 from HB.out.trans (hb.mono HB.out.size))
    have HPV := Lib.hid hpv
    clear hb hpv
    change K _ _
    refine hK.out _ _ HB9.out (fun _ => ?_)
    clear hK K HB
    refine wpAnyH_ready (rs := [22]) (by kernel_rfl) (by simp) ?_
    refine AllReadyH.cons rfl (fun K hK => ?_) AllReadyH.nil
    go_simp
    go_at_call 18
    refine (sameP_yes pv (.slice wa L.length wc) L w9 (by omega) HPV.out ⟨wa, wc, rfl, HA7.out.ents.below HB9.out⟩).mono ?_
    rintro e w10 ⟨rfl, hb⟩
    have HB := Lib.hid (show Below W.heap.size W w10 from HB9.out.trans (hb.mono HB9.out.size))
    clear hb
    change K _ _
    refine hK.out _ _ HB.out (fun _ => ?_)
    clear hK K HB9 HPV
    refine wpAnyH_take (i := 23) (v := ?_) rfl (by kernel_rfl) (by kernel_rfl) (by kernel_rfl) (fun _ _ _ h => h) (Or.inl ⟨by rfl, ?_⟩) HB.out ?_
    rotate_left
    · intro w' hw'
      go_simp
      with_reducible rfl
    go_simp
    refine wpAnyH_take (i := 24) (v := ?_) rfl (by kernel_rfl) (by kernel_rfl) (by kernel_rfl) (fun _ _ _ h => h) (Or.inl ⟨by rfl, ?_⟩) HB.out ?_
    rotate_left
    · intro w' hw'
      go_simp
      with_reducible rfl
    go_simp
    refine wpAnyH_take (i := 25) (v := ?_) rfl (by kernel_rfl) (by kernel_rfl) (by kernel_rfl) (fun _ _ _ h => h) (Or.inl ⟨by rfl, ?_⟩) HB.out ?_
    rotate_left
    · intro w' hw'
      obtain ⟨⟨⟨p0, -, pl⟩, ⟨p1, -, -⟩, ⟨p2, -, -⟩, ⟨p3, -, -⟩, ⟨p4, -, -⟩, ⟨p5, -, -⟩, ⟨p6, -, -⟩⟩, ⟨r0, -, rl⟩, -, -⟩ := HA7.out.below hw'; obtain ⟨⟨q0, -, ql⟩, ⟨q1, -, -⟩, ⟨q2, -, -⟩, ⟨q3, -, -⟩, ⟨q4, -, -⟩, ⟨q5, -, -⟩, ⟨q6, -, -⟩⟩ := HQ7.out.below hw'
      go_simp
      with_reducible rfl
    go_simp
    refine wpAnyH_take (i := 27) (v := ?_) rfl (by kernel_rfl) (by kernel_rfl) (by kernel_rfl) (fun _ _ _ h => h) (Or.inl ⟨by rfl, ?_⟩) HB.out ?_
    rotate_left
    · intro w' hw'
      obtain ⟨⟨⟨p0, -, pl⟩, ⟨p1, -, -⟩, ⟨p2, -, -⟩, ⟨p3, -, -⟩, ⟨p4, -, -⟩, ⟨p5, -, -⟩, ⟨p6, -, -⟩⟩, ⟨r0, -, rl⟩, -, -⟩ := HA7.out.below hw'; obtain ⟨⟨q0, -, ql⟩, ⟨q1, -, -⟩, ⟨q2, -, -⟩, ⟨q3, -, -⟩, ⟨q4, -, -⟩, ⟨q5, -, -⟩, ⟨q6, -, -⟩⟩ := HQ7.out.below hw'
      go_simp
      with_reducible rfl
    go_simp
    refine wpAnyH_ready (rs := [26]) (by kernel_rfl) (by simp) ?_
    refine AllReadyH.cons rfl (fun K hK => ?_) AllReadyH.nil
    go_simp
    go_at_call 15
    refine (HTX.out _ (HA7.out.bel.trans (HB.out.mono HA7.out.bel.size))).mono ?_
    rintro e w11 ⟨rfl, hb⟩
    have HB11 := Lib.hid (show Below W.heap.size W w11 from HB.out.trans (hb.mono HB.out.size))
    clear hb
    change K _ _
    refine hK.out _ _ HB11.out (fun _ => ?_)
    clear hK K HB
    refine wpAnyH_ready (rs := [28]) (by kernel_rfl) (by simp) ?_
    refine AllReadyH.cons rfl (fun K hK => ?_) AllReadyH.nil
    go_simp
    go_at_call 19
    refine (HRT.out wa wc _ (HA7.out.ents.below HB11.out)).mono ?_
    rintro e w12 ⟨rfl, hb⟩
    have HB := Lib.hid (show Below W.heap.size W w12 from HB11.out.trans (hb.mono HB11.out.size))
    clear hb
    change K _ _
    refine hK.out _ _ HB.out (fun _ => ?_)
    clear hK K HB11
    refine wpAnyH_take (i := 29) (v := ?_) rfl (by kernel_rfl) (by kernel_rfl) (by kernel_rfl) (fun _ _ _ h => h) (Or.inl ⟨by rfl, ?_⟩) HB.out ?_
    rotate_left
    · intro w' hw'
      go_simp
      with_reducible rfl
    go_simp
    refine wpAnyH_take (i := 30) (v := ?_) rfl (by kernel_rfl) (by kernel_rfl) (by kernel_rfl) (fun _ _ _ h => h) (Or.inl ⟨by rfl, ?_⟩) HB.out ?_
    rotate_left
    · intro w' hw'
      go_simp
      with_reducible rfl
    go_simp
    refine wpAnyH_take (i := 31) (v := ?_) rfl (by kernel_rfl) (by kernel_rfl) (by kernel_rfl) (fun _ _ _ h => h) (Or.inl ⟨by rfl, ?_⟩) HB.out ?_
    rotate_left
    · intro w' hw'
      go_simp
      with_reducible rfl
    go_simp
    refine wpAnyH_done (by kernel_rfl) ?_ _
    go_wp2
    go_ret
    exact ⟨rfl, HA7.out.bel.trans (HB.out.mono HA7.out.bel.size)⟩
theorem pbytes_any (tb fb : ByteArray) (tn fn : Int) (tm fm : Bool) (a : Option Addr) (cap : Nat) (D : List Ent) (s : ByteArray) (w : World) (hE : EntsAt w a cap D) :
    Calls Tryd.prog 3 #[.agg #[.string tb, .int .i64 tn, .string fb, .int .i64 fn, .bool tm, .bool fm, .slice a D.length cap], .string s] w fun e w' => e = .returned (.bool true) ∧ Below w.heap.size w w' := by
  by_cases h : 30 < D.length ∨ 300 < s.size
  · exact pbytes_great tb fb tn fn tm fm a D.length cap s w h
  · exact pbytes_core tb fb tn fn tm fm a cap D s w (by omega) (by omega) hE
end Go.Proofs.YteiappicdnekoaaDoor
