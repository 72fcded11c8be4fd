/-
The document's Parse.
-/
import Derived.Test.YteiappicdnekoaaDoorPathRSplit
import Derived.Test.YteiappicdnekoaaDoorPathCParse
import Derived.Test.YteiappicdnekoaaDoorCallParse
namespace Go.Proofs.YteiappicdnekoaaDoor
open Go.RowKit Go.Sort
set_option maxRecDepth 20000
/-- what the document's Parse holds while it reads the digipeaters' words -/
structure RpAt (w W : World) (B m gw : Nat) (tv : Value) (L : List Ent) (ws : List (List UInt8)) : Prop where
  out : OutAt w W B m 0 50 tv L
  res : KeepAt W w.heap.size 0 (.slice none 0 0)
  wrd : ∀ j (hj : j < ws.length), W.cell? ⟨gw, j, none⟩ = some (txtV ws[j])
  gwlt : gw < B
  rlt : w.heap.size < B
  mge : B ≤ m
theorem RpAt.same {w W W' : World} {B m gw : Nat} {tv tv' : Value} {L L' : List Ent} {ws : List (List UInt8)} (h : RpAt w W B m gw tv L ws) (ho : OutAt w W' B m 0 50 tv' L') (hs : ∀ i, i < B → W'.heap[i]? = W.heap[i]?) (hz : W.heap.size ≤ W'.heap.size) : RpAt w W' B m gw tv' L' ws :=
  ⟨ho, h.res.block (hs _ h.rlt) hz, fun j hj => by
    have k := h.wrd j hj
    unfold World.cell? at k ⊢
    rw [hs gw h.gwlt]; exact k, h.gwlt, h.rlt, h.mge⟩
theorem RpAt.below {w W W' : World} {B m gw : Nat} {tv : Value} {L : List Ent} {ws : List (List UInt8)} (h : RpAt w W B m gw tv L ws) (hb : Below W.heap.size W W') : RpAt w W' B m gw tv L ws :=
  h.same (h.out.below hb) (fun i hi => hb.block i (by have := h.out.bw; omega)) hb.size
theorem RpAt.alloc {w W : World} {B m gw : Nat} {tv : Value} {L : List Ent} {ws : List (List UInt8)} (h : RpAt w W B m gw tv L ws) (o : Obj) : RpAt w (W.alloc o) B m gw tv L ws := h.below ((Below.refl _ W).alloc (Nat.le_refl _) _)
/-- behind an append, and then behind the store -/
theorem RpAt.grown {w W w1 : World} {B m gw : Nat} {tv v' : Value} {L L' : List Ent} {ws : List (List UInt8)} (h : RpAt w W B m gw tv L ws) (h1 : OwnE 50 w1 B v' L') (hg : W.grownBy w1 tv.ownBlock) (hv : v'.ownBlock = tv.ownBlock ∨ v'.ownBlock = some W.heap.size) :
    w1.cell? ⟨m, 0, none⟩ = some tv ∧ w1.frozen? ⟨m, 0, none⟩ = false ∧ RpAt w (w1.setCell ⟨m, 0, none⟩ v') B m gw v' L' ws := by
  obtain ⟨_, a1, a2, a3, a4, a5⟩ := h.out.grown h1 hg hv
  refine ⟨a1, a2, h.same a4 (fun i hi => ?_) (by simpa [World.setCell] using a3)⟩
  rw [heap_setCell_other w1 ⟨m, 0, none⟩ i v' (by have := h.mge; show i ≠ m; omega)]
  exact a5 i hi
/-- a mark -/
theorem RpAt.mark {w W : World} {B m gw g n c : Nat} {L : List Ent} {ws : List (List UInt8)} (h : RpAt w W B m gw (.slice (some ⟨g, 0, none⟩) n c) L ws) (i : Nat) (hi : i < L.length) :
    RpAt w (W.setCell ⟨g, i * 3 + 2, none⟩ (.bool true)) B m gw (.slice (some ⟨g, 0, none⟩) n c) (markD L i) ws := by
  obtain ⟨h1, h2⟩ := h.out.own.mark i hi
  have hgB : B ≤ g := (h.out.own.ge rfl).1
  have hgm : g ≠ m := fun e => h.out.off (by rw [e]; rfl)
  have hK : KeepAt W m 0 (.slice (some ⟨g, 0, none⟩) n c) := ⟨h.out.cell, h.out.free, h.out.lt⟩
  have hK' := hK.other (g := g) (p := i * 3 + 2) (.bool true) hgm
  refine h.same ⟨hK'.cell, hK'.free, h1, h.out.off, h.out.bel.setCell (p := ⟨g, i * 3 + 2, none⟩) (Nat.le_trans h.out.base hgB) _, h.out.base, h.out.ge, hK'.lt, by simpa [World.setCell] using h.out.bw⟩ (fun j hj => ?_) (by simp [World.setCell])
  exact heap_setCell_other W ⟨g, i * 3 + 2, none⟩ j _ (by show j ≠ g; omega)
theorem mark_cons2 (x y : Ent) (D : List Ent) (i : Nat) : markD (x :: y :: D) (i + 2) = x :: y :: markD D i := by
  unfold markD
  rw [List.getElem?_cons_succ, List.getElem?_cons_succ]
  cases D[i]? <;> rfl
/-- what it leaves -/
def RParTo (w : World) (r : Nat × List Ent) (e : Ending) (w' : World) : Prop :=
  (r.1 ≠ 0 → e = .returned (.tuple #[.agg #[.slice none 0 0], .int .i64 (r.1 : Int)])) ∧ (r.1 = 0 → ∃ v, e = .returned (.tuple #[.agg #[v], .int .i64 0]) ∧ Ents w' v r.2) ∧ Below w.heap.size w w'
/-- up to the first greater-than sign -/
theorem rparse_none (s : ByteArray) (w : World) (hs : s.size ≤ 300) (h : ∀ z ∈ s.data.toList, z ≠ 62) :
    Calls Tryd.prog 31 #[.string s] w fun e w' => RParTo w (2, []) e w' := by
  have HB0 := Lib.hid ((Below.refl _ w).alloc (Nat.le_refl _) (.cells #[.slice none 0 0] 31))
  have HR0 := Lib.hid (show KeepAt (w.alloc (.cells #[.slice none 0 0] 31)) w.heap.size 0 (.slice none 0 0) from ⟨World.cell?_alloc_at _ _ _ _ rfl, World.frozen?_alloc_at _ _ _ _ rfl, by simp⟩)
  have HNO := Lib.hid (show ∀ k (hk : k < s.size), ((s[k].toNat : Int) != 62) = true from fun k hk => by
    have := h s[k] (by rw [← list_at s k hk]; exact List.getElem_mem _)
    rw [bne_iff_ne]
    intro e
    exact this (UInt8.toNat_inj.1 (by have : s[k].toNat = 62 := by omega
                                      rw [this]; rfl)))
  clear h
  go_enter Tryd.func31, Tryd.ntmps31
  go_wp2_with fail
  go_loopw [4] (fun i wx => ∃ k : Nat, k ≤ s.size ∧ i = .int .i64 k ∧ Hid (wx = w.alloc (.cells #[.slice none 0 0] 31))) (fun i _ => s.size - (intOf i).toNat)
  case atStart => exact ⟨0, by omega, rfl, Lib.hid rfl⟩
  case round =>
    obtain ⟨k, hk, rfl, HQ⟩ := hrel
    by_cases hlt : k < s.size
    · have dk : decide ((k : Int) < (s.size : Int)) = true := decide_eq_true (by omega)
      have n62 := HNO.out k hlt
      have hx256 : s[k].toNat < 256 := blt' _
      go_wp2
      go_roundw
      case rel => exact ⟨k + 1, by omega, by go_num, HQ⟩
      case measure => simp [intOf]; omega
    · obtain rfl : k = s.size := by omega
      have dk : decide ((s.size : Int) < (s.size : Int)) = false := decide_eq_false (by omega)
      have hwr := HQ.out
      subst hwr
      obtain ⟨r0, rf, rl⟩ := HR0.out
      go_wp2
      exact bodyPost_ret (v := .tuple #[.agg #[.slice none 0 0], .int .i64 2]) (by simp [results, Tryd.results31, go_sem]) rfl ⟨fun _ => rfl, fun h => (by cases h), HB0.out⟩
theorem KeepAt.zero_put {W : World} {m : Nat} (h : KeepAt W m 0 (.slice none 0 0)) : (W.setCell ⟨m, 0, none⟩ (.slice none 0 0)).cell? ⟨m, 0, none⟩ = some (.slice none 0 0) := set_here h.cell
/-- a call's two cells -/
structure P2 (W : World) (m : Nat) (b : ByteArray) (n : Int) : Prop where
  k0 : KeepAt W m 0 (.string b)
  k1 : KeepAt W m 1 (.int .i64 n)
theorem P2.new (w : World) (m : Nat) (hm : m = w.heap.size) (b : ByteArray) (n : Int) (T : TypeId) : P2 (w.alloc (.cells #[.string b, .int .i64 n] T)) m b n := by
  subst hm
  have hl : w.heap.size < (w.alloc (.cells #[.string b, .int .i64 n] T)).heap.size := by simp
  exact ⟨⟨World.cell?_alloc_at _ _ _ _ rfl, World.frozen?_alloc_at _ _ _ _ rfl, hl⟩, ⟨World.cell?_alloc_at _ _ _ _ rfl, World.frozen?_alloc_at _ _ _ _ rfl, hl⟩⟩
theorem P2.below {W W' : World} {m : Nat} {b : ByteArray} {n : Int} (h : P2 W m b n) (hb : Below W.heap.size W W') : P2 W' m b n := ⟨h.k0.below hb, h.k1.below hb⟩
theorem P2.alloc {W : World} {m : Nat} {b : ByteArray} {n : Int} (h : P2 W m b n) (x : Obj) : P2 (W.alloc x) m b n := h.below ((Below.refl _ W).alloc (Nat.le_refl _) _)
theorem RpAt.start {w W : World} {B m gw nw cw B0 : Nat} {ws : List (List UInt8)} (b c : ByteArray) (i j : Int) (hB : B = W.heap.size) (hm : m = B + 1) (hb : Below w.heap.size w W) (hr : KeepAt W w.heap.size 0 (.slice none 0 0)) (hw : OwnW W B0 (.slice (some ⟨gw, 0, none⟩) nw cw) ws) (hn : nw = ws.length) :
    RpAt w ((W.alloc (.cells #[.string b, .int .i64 i, .bool true, .string c, .int .i64 j, .bool false] 50)).alloc (.cells #[.slice (some ⟨B, 0, none⟩) 2 2] 31)) B m gw (.slice (some ⟨B, 0, none⟩) 2 2) [(b, i, true), (c, j, false)] ws := by
  subst hB
  have e : m = (W.alloc (.cells #[.string b, .int .i64 i, .bool true, .string c, .int .i64 j, .bool false] 50)).heap.size := by rw [hm]; simp
  have hz := hb.size
  have ho := (OwnE.lit2 W W.heap.size W.heap.size rfl (Nat.le_refl _) b c i j true false 50).alloc (.cells #[.slice (some ⟨W.heap.size, 0, none⟩) 2 2] 31)
  refine ⟨⟨?_, ?_, ho, ?_, (hb.alloc hz _).alloc (Nat.le_trans hz (by simp)) _, hz, by omega, by rw [e]; simp, by simp; omega⟩, (hr.alloc _).alloc _, fun k hk => ((hw.alloc _).alloc _).at_ hn k hk, (World.ownsRow.lt hw gw rfl).2, hr.lt, by omega⟩
  · rw [e]; exact World.cell?_alloc_at _ _ _ _ rfl
  · rw [e]; exact World.frozen?_alloc_at _ _ _ _ rfl
  · intro h; have e' : W.heap.size = m := Option.some.inj h; omega
set_option maxHeartbeats 1000000 in
theorem rparse_some (s x y : ByteArray) (w : World) (hs : s.size ≤ 300) (hsp : s.data.toList = x.data.toList ++ 62 :: y.data.toList) (hx : ∀ z ∈ x.data.toList, z ≠ 62) :
    Calls Tryd.prog 31 #[.string s] w fun e w' => RParTo w (parseP s.data.toList) e w' := by
  have hsl : s.data.toList.length = s.size := by simp
  have hxl : x.data.toList.length = x.size := by simp
  have hyl : y.data.toList.length = y.size := by simp
  have hlen : s.size = x.size + 1 + y.size := by
    rw [← hsl, hsp, List.length_append, List.length_cons, hxl, hyl]; omega
  obtain ⟨G, hG⟩ : ∃ G, G = parseP s.data.toList := ⟨_, rfl⟩
  rw [← hG]
  unfold parseP at hG
  rw [hsp, cut_at' 62 _ _ hx] at hG
  dsimp only at hG
  rw [if_pos rfl] at hG
  have hsplit := fun W => rsplit_any y W (by omega)
  have hwl := words_len y.data.toList
  have hwe := words_each y.data.toList
  have hwn := words_ne y.data.toList
  generalize wordsD y.data.toList = ws at *
  cases ws with
  | nil => exact absurd rfl hwn
  | cons t rest =>
    dsimp only at hG
    have ht : t.length ≤ 300 := by have := hwe t List.mem_cons_self; omega
    have hr : ∀ u ∈ rest, u.length ≤ 300 := fun u hu => by have := hwe u (List.mem_cons_of_mem _ hu); omega
    have hrl : rest.length ≤ 300 := by simp at hwl; omega
    obtain ⟨T, hT⟩ : ∃ T : ByteArray, T = ⟨t.toArray⟩ := ⟨_, rfl⟩
    have hTs : T.size ≤ 300 := by rw [hT]; show t.toArray.size ≤ 300; simpa using ht
    have hp1 := fun W => rparse_any x W (by omega)
    have hp2 := fun W => rparse_any T W (by omega)
    rw [show T.data.toList = t from by rw [hT]] at hp2
    unfold readV at hp1 hp2
    generalize readD x.data.toList = r1 at *
    generalize readD t = r2 at *
    obtain ⟨o1, b1, n1⟩ := r1
    obtain ⟨o2, b2, n2⟩ := r2
    unfold callE markE at hG
    dsimp only at hG hp1 hp2
    obtain ⟨B1, hB1⟩ : ∃ B : ByteArray, B = ⟨b1.toArray⟩ := ⟨_, rfl⟩
    obtain ⟨B2, hB2⟩ : ∃ B : ByteArray, B = ⟨b2.toArray⟩ := ⟨_, rfl⟩
    rw [← hB1] at hp1 hG
    rw [← hB2] at hp2 hG
    have HP1 := Lib.hid hp1
    have HP2 := Lib.hid hp2
    obtain ⟨nw, hnw⟩ : ∃ nw, nw = (t :: rest).length := ⟨_, rfl⟩
    have h0n : 0 < nw := by rw [hnw]; simp
    have HSP := Lib.hid (show ∀ W, Calls Tryd.prog 51 #[.string y, .int .u8 44] W fun e w' => (∃ gw cw, e = .returned (.slice (some ⟨gw, 0, none⟩) nw cw) ∧ W.heap.size ≤ gw ∧ OwnW w' W.heap.size (.slice (some ⟨gw, 0, none⟩) nw cw) (t :: rest)) ∧ Below W.heap.size W w' from fun W => (hsplit W).mono fun e w' hq => by
      obtain ⟨⟨v, rfl, hv⟩, hb⟩ := hq
      obtain ⟨gw, cw, rfl, hgb, hgl⟩ := hv.some_ (by simp)
      rw [← hnw] at hv ⊢
      exact ⟨⟨gw, cw, rfl, hgb, hv⟩, hb⟩)
    have HNW := Lib.hid (show nw = rest.length + 1 from by rw [hnw]; simp)
    have hnl : nw ≤ 301 := by rw [hnw]; simp; omega
    have HTT := Lib.hid hT
    have HGG := Lib.hid hG
    have HRE := Lib.hid hr
    have hss := fun W => run_slice_string_l (P := Tryd.prog) (w := W) 9 s Tryd.underlying9 .i64 ((x.size : Int) + 1) (by omega) (by omega)
    have hsx := fun W => run_slice_string_h (P := Tryd.prog) (w := W) 9 s Tryd.underlying9 .i64 (x.size : Int) (by omega) (by omega)
    rw [show s.extract ((x.size : Int) + 1).toNat s.size = y from by
      apply bytes_ext'
      rw [Lib.extract_to_end, hsp, show ((x.size : Int) + 1).toNat = x.size + 1 from by omega, ← hxl, List.append_cons]
      exact List.drop_left' (by simp)] at hss
    rw [show s.extract 0 ((x.size : Int)).toNat = x from by
      apply bytes_ext'
      rw [Lib.extract_data, hsp, show ((x.size : Int)).toNat = x.size from by omega, ← hxl]
      simp] at hsx
    have HNO := Lib.hid (show ∀ k (hk : k < s.size), k < x.size → ((s[k].toNat : Int) != 62) = true from fun k hk hkx => by
      have hkl : k < x.data.toList.length := by omega
      have e : s[k] = x.data.toList[k] := by
        rw [← list_at s k hk]
        simp only [hsp]
        rw [List.getElem_append_left hkl]
      have := hx s[k] (by rw [e]; exact List.getElem_mem _)
      rw [bne_iff_ne]
      intro e
      exact this (UInt8.toNat_inj.1 (by have : s[k].toNat = 62 := by omega
                                        rw [this]; rfl)))
    have hxs : x.size < s.size := by omega
    have n62 : ((s[x.size].toNat : Int) != 62) = false := by
      have e : s[x.size] = 62 := by
        rw [← list_at s x.size hxs]
        simp only [hsp, ← hxl]
        rw [List.getElem_append_right (Nat.le_refl _)]
        simp
      rw [e]; rfl
    have HB0 := Lib.hid ((Below.refl _ w).alloc (Nat.le_refl _) (.cells #[.slice none 0 0] 31))
    have HR0 := Lib.hid (show KeepAt (w.alloc (.cells #[.slice none 0 0] 31)) w.heap.size 0 (.slice none 0 0) from ⟨World.cell?_alloc_at _ _ _ _ rfl, World.frozen?_alloc_at _ _ _ _ rfl, by simp⟩)
    have heq : ((x.size : Int) == (s.size : Int)) = false := by rw [beq_eq_false_iff_ne]; omega
    clear hx hsp hG hp1 hp2 hT hr hB1 hB2 hwe hwn hwl hsplit hnw
    go_enter Tryd.func31, Tryd.ntmps31
    go_wp2_with fail
    go_loopw [4] (fun i wx => ∃ k : Nat, k ≤ x.size ∧ i = .int .i64 k ∧ Hid (wx = w.alloc (.cells #[.slice none 0 0] 31))) (fun i _ => x.size - (intOf i).toNat)
    case atStart => exact ⟨0, by omega, rfl, Lib.hid rfl⟩
    case round =>
      obtain ⟨k, hk, rfl, HQ⟩ := hrel
      by_cases hlt : k < x.size
      · have dk : decide ((k : Int) < (s.size : Int)) = true := decide_eq_true (by omega)
        have hks : k < s.size := by omega
        have m62 := HNO.out k hks hlt
        have hx256 : s[k].toNat < 256 := blt' _
        go_wp2
        go_roundw
        case rel => exact ⟨k + 1, by omega, by go_num, HQ⟩
        case measure => simp [intOf]; omega
      · obtain rfl : k = x.size := by omega
        have dk : decide ((x.size : Int) < (s.size : Int)) = true := decide_eq_true (by omega)
        have hwr := HQ.out
        subst hwr
        clear HQ
        have hx256 : s[x.size].toNat < 256 := blt' _
        cases o1
        · skip
          have HGV := Lib.hid (show G = (12, []) from by rw [HGG.out]; rfl)
          clear HGG
          go_wp2_with (first
            | (go_at_call 51; (with_reducible refine (HSP.out _).mono ?_); rintro e w1 ⟨⟨gw, cw, rfl, hgb, hv⟩, hb⟩; have HB1 := Lib.hid (HB0.out.trans (hb.mono HB0.out.size)); have HR1 := Lib.hid (HR0.out.below hb); have HW1 := Lib.hid hv; have HGL := Lib.hid hgb; clear hb hv hgb HSP HB0 HR0)
            | (go_at_call 52; (with_reducible refine (HP1.out _).mono ?_); rintro e w2 ⟨rfl, hb⟩; have HB2 := Lib.hid ((HB1.out.trans (hb.mono HB1.out.size)).alloc (HB1.out.trans (hb.mono HB1.out.size)).size (.cells #[.string B1, .int .i64 (n1 : Int)] 23)); have HR2 := Lib.hid ((HR1.out.below hb).alloc (.cells #[.string B1, .int .i64 (n1 : Int)] 23)); have HW2 := Lib.hid (OwnW.alloc (HW1.out.below hb) (.cells #[.string B1, .int .i64 (n1 : Int)] 23)); have HF2 := Lib.hid (P2.new w2 w2.heap.size rfl B1 (n1 : Int) 23); have c0 := (HW2.out.at_ (by rw [HNW.out]; rfl) 0 (Nat.succ_pos _)).trans (show some (txtV t) = some (.string T) from by rw [HTT.out]; rfl); clear hb HP1 HB1 HR1 HW1)
            | (go_at_call 52; (with_reducible refine (HP2.out _).mono ?_); rintro e w3 ⟨rfl, hb⟩; have HB3 := Lib.hid ((HB2.out.trans (hb.mono HB2.out.size)).alloc (HB2.out.trans (hb.mono HB2.out.size)).size (.cells #[.string B2, .int .i64 (n2 : Int)] 23)); have HR3 := Lib.hid ((HR2.out.below hb).alloc (.cells #[.string B2, .int .i64 (n2 : Int)] 23)); have HW3 := Lib.hid (OwnW.alloc (HW2.out.below hb) (.cells #[.string B2, .int .i64 (n2 : Int)] 23)); have HF3 := Lib.hid ((HF2.out.below hb).alloc (.cells #[.string B2, .int .i64 (n2 : Int)] 23)); have HT3 := Lib.hid (P2.new w3 w3.heap.size rfl B2 (n2 : Int) 23); clear hb HP2 HB2 HR2 HW2 HF2 c0; obtain ⟨r0, rf, rl⟩ := HR3.out; obtain ⟨⟨f0, -, fl⟩, ⟨f1, -, -⟩⟩ := HF3.out; obtain ⟨⟨t0, -, tl⟩, ⟨t1, -, -⟩⟩ := HT3.out))
          have z0 := HR3.out.zero_put
          have HBF := Lib.hid (HB3.out.setCell (p := ⟨w.heap.size, 0, none⟩) (Nat.le_refl _) (.slice none 0 0))
          exact bodyPost_ret (v := .tuple #[.agg #[.slice none 0 0], .int .i64 12]) (by simp [results, Tryd.results31, go_sem, z0]) rfl (by rw [HGV.out]; exact ⟨fun _ => rfl, fun h => (by cases h), HBF.out⟩)
        cases o2
        · skip
          have HGV := Lib.hid (show G = (12, []) from by rw [HGG.out]; rfl)
          clear HGG
          go_wp2_with (first
            | (go_at_call 51; (with_reducible refine (HSP.out _).mono ?_); rintro e w1 ⟨⟨gw, cw, rfl, hgb, hv⟩, hb⟩; have HB1 := Lib.hid (HB0.out.trans (hb.mono HB0.out.size)); have HR1 := Lib.hid (HR0.out.below hb); have HW1 := Lib.hid hv; have HGL := Lib.hid hgb; clear hb hv hgb HSP HB0 HR0)
            | (go_at_call 52; (with_reducible refine (HP1.out _).mono ?_); rintro e w2 ⟨rfl, hb⟩; have HB2 := Lib.hid ((HB1.out.trans (hb.mono HB1.out.size)).alloc (HB1.out.trans (hb.mono HB1.out.size)).size (.cells #[.string B1, .int .i64 (n1 : Int)] 23)); have HR2 := Lib.hid ((HR1.out.below hb).alloc (.cells #[.string B1, .int .i64 (n1 : Int)] 23)); have HW2 := Lib.hid (OwnW.alloc (HW1.out.below hb) (.cells #[.string B1, .int .i64 (n1 : Int)] 23)); have HF2 := Lib.hid (P2.new w2 w2.heap.size rfl B1 (n1 : Int) 23); have c0 := (HW2.out.at_ (by rw [HNW.out]; rfl) 0 (Nat.succ_pos _)).trans (show some (txtV t) = some (.string T) from by rw [HTT.out]; rfl); clear hb HP1 HB1 HR1 HW1)
            | (go_at_call 52; (with_reducible refine (HP2.out _).mono ?_); rintro e w3 ⟨rfl, hb⟩; have HB3 := Lib.hid ((HB2.out.trans (hb.mono HB2.out.size)).alloc (HB2.out.trans (hb.mono HB2.out.size)).size (.cells #[.string B2, .int .i64 (n2 : Int)] 23)); have HR3 := Lib.hid ((HR2.out.below hb).alloc (.cells #[.string B2, .int .i64 (n2 : Int)] 23)); have HW3 := Lib.hid (OwnW.alloc (HW2.out.below hb) (.cells #[.string B2, .int .i64 (n2 : Int)] 23)); have HF3 := Lib.hid ((HF2.out.below hb).alloc (.cells #[.string B2, .int .i64 (n2 : Int)] 23)); have HT3 := Lib.hid (P2.new w3 w3.heap.size rfl B2 (n2 : Int) 23); clear hb HP2 HB2 HR2 HW2 HF2 c0; obtain ⟨r0, rf, rl⟩ := HR3.out; obtain ⟨⟨f0, -, fl⟩, ⟨f1, -, -⟩⟩ := HF3.out; obtain ⟨⟨t0, -, tl⟩, ⟨t1, -, -⟩⟩ := HT3.out))
          have z0 := HR3.out.zero_put
          have HBF := Lib.hid (HB3.out.setCell (p := ⟨w.heap.size, 0, none⟩) (Nat.le_refl _) (.slice none 0 0))
          exact bodyPost_ret (v := .tuple #[.agg #[.slice none 0 0], .int .i64 12]) (by simp [results, Tryd.results31, go_sem, z0]) rfl (by rw [HGV.out]; exact ⟨fun _ => rfl, fun h => (by cases h), HBF.out⟩)
        have HGV := Lib.hid (show G = if (stepsP 8 [] 0 rest).1 = 0 then (0, (B2, (n2 : Int), true) :: (B1, (n1 : Int), false) :: (stepsP 8 [] 0 rest).2) else ((stepsP 8 [] 0 rest).1, []) from by rw [HGG.out]; rfl)
        clear HGG
        go_wp2_with (first
          | (go_at_call 51; (with_reducible refine (HSP.out _).mono ?_); rintro e w1 ⟨⟨gw, cw, rfl, hgb, hv⟩, hb⟩; have HB1 := Lib.hid (HB0.out.trans (hb.mono HB0.out.size)); have HR1 := Lib.hid (HR0.out.below hb); have HW1 := Lib.hid hv; have HGL := Lib.hid hgb; clear hb hv hgb HSP HB0 HR0)
          | (go_at_call 52; (with_reducible refine (HP1.out _).mono ?_); rintro e w2 ⟨rfl, hb⟩; have HB2 := Lib.hid ((HB1.out.trans (hb.mono HB1.out.size)).alloc (HB1.out.trans (hb.mono HB1.out.size)).size (.cells #[.string B1, .int .i64 (n1 : Int)] 23)); have HR2 := Lib.hid ((HR1.out.below hb).alloc (.cells #[.string B1, .int .i64 (n1 : Int)] 23)); have HW2 := Lib.hid (OwnW.alloc (HW1.out.below hb) (.cells #[.string B1, .int .i64 (n1 : Int)] 23)); have HF2 := Lib.hid (P2.new w2 w2.heap.size rfl B1 (n1 : Int) 23); have c0 := (HW2.out.at_ (by rw [HNW.out]; rfl) 0 (Nat.succ_pos _)).trans (show some (txtV t) = some (.string T) from by rw [HTT.out]; rfl); clear hb HP1 HB1 HR1 HW1)
          | (go_at_call 52; (with_reducible refine (HP2.out _).mono ?_); rintro e w3 ⟨rfl, hb⟩; have HB3 := Lib.hid ((HB2.out.trans (hb.mono HB2.out.size)).alloc (HB2.out.trans (hb.mono HB2.out.size)).size (.cells #[.string B2, .int .i64 (n2 : Int)] 23)); have HR3 := Lib.hid ((HR2.out.below hb).alloc (.cells #[.string B2, .int .i64 (n2 : Int)] 23)); have HW3 := Lib.hid (OwnW.alloc (HW2.out.below hb) (.cells #[.string B2, .int .i64 (n2 : Int)] 23)); have HF3 := Lib.hid ((HF2.out.below hb).alloc (.cells #[.string B2, .int .i64 (n2 : Int)] 23)); have HT3 := Lib.hid (P2.new w3 w3.heap.size rfl B2 (n2 : Int) 23); clear hb HP2 HB2 HR2 HW2 HF2 c0; obtain ⟨r0, rf, rl⟩ := HR3.out; obtain ⟨⟨f0, -, fl⟩, ⟨f1, -, -⟩⟩ := HF3.out; obtain ⟨⟨t0, -, tl⟩, ⟨t1, -, -⟩⟩ := HT3.out))
        have HQ5 := Lib.hid (RpAt.start (B := w3.heap.size + 1) (m := w3.heap.size + 1 + 1) B2 B1 (n2 : Int) (n1 : Int) (by simp) rfl HB3.out HR3.out HW3.out (by rw [HNW.out]; rfl))
        clear r0 rf rl f0 f1 fl t0 t1 tl HB3 HR3 HW3 HF3 HT3 HTT
        generalize w3.heap.size + 1 + 1 = m at *
        generalize w3.heap.size + 1 = B at *
        go_loopw [11, 12] (fun sv kv wx => ∃ sn kn : Nat, sv = .int .i64 sn ∧ kv = .int .i64 kn ∧ 1 ≤ kn ∧ kn ≤ nw ∧ kn ≤ 9 ∧ sn ≤ 301 ∧ ∃ tv D, Hid (RpAt w wx B m gw tv ((B2, (n2 : Int), true) :: (B1, (n1 : Int), false) :: D) (t :: rest) ∧ stepsP 8 [] 0 rest = stepsP (9 - kn) D sn (rest.drop (kn - 1)) ∧ D.length + 1 = kn ∧ sn < kn)) (fun _ kv _ => nw - (intOf kv).toNat)
        case atStart => exact ⟨0, 1, rfl, rfl, by omega, by omega, by omega, by omega, _, [], Lib.hid ⟨HQ5.out, rfl, rfl, by omega⟩⟩
        case round =>
          obtain ⟨sn, kn, rfl, rfl, h1k, hkn, hk9, hsn, tv, D, HQ⟩ := hrel
          clear HQ5
          have HA := Lib.hid HQ.out.1
          by_cases hlk : kn < nw
          · have dkn : decide ((kn : Int) < (nw : Int)) = true := decide_eq_true (by omega)
            have hj : kn < (t :: rest).length := by rw [List.length_cons, ← HNW.out]; exact hlk
            have hjr : kn - 1 < rest.length := by have := HNW.out; omega
            have hu : (t :: rest)[kn]'hj = rest[kn - 1]'hjr := by
              obtain ⟨q, rfl⟩ : ∃ q, kn = q + 1 := ⟨kn - 1, by omega⟩
              rfl
            have c0 := HA.out.wrd kn hj
            rw [hu] at c0
            have hul : rest[kn - 1].length ≤ 300 := HRE.out _ (List.getElem_mem _)
            have HST := Lib.hid (show stepsP 8 [] 0 rest = stepsP (9 - kn) D sn (rest[kn - 1] :: rest.drop kn) from by
              rw [HQ.out.2.1, List.drop_eq_getElem_cons hjr, show kn - 1 + 1 = kn from by omega])
            generalize rest[kn - 1] = u at *
            obtain ⟨U, hU⟩ : ∃ U : ByteArray, U = ⟨u.toArray⟩ := ⟨_, rfl⟩
            replace c0 := c0.trans (show some (txtV u) = some (.string U) from by rw [hU]; rfl)
            by_cases h9 : kn = 9
            · have e9 : ((kn : Int) == 9) = true := by rw [h9]; rfl
              have HGV2 := Lib.hid (show G = (11, []) from by rw [HGV.out, HST.out, h9]; rfl)
              clear h9
              obtain ⟨r0, rf, rl⟩ := HA.out.res
              go_wp2
              have z0 := HA.out.res.zero_put
              have HBF := Lib.hid (HA.out.out.bel.setCell (p := ⟨w.heap.size, 0, none⟩) (Nat.le_refl _) (.slice none 0 0))
              exact bodyPost_ret (v := .tuple #[.agg #[.slice none 0 0], .int .i64 11]) (by simp [results, Tryd.results31, go_sem, z0]) rfl (by rw [HGV2.out]; exact ⟨fun _ => rfl, fun h => (by cases h), HBF.out⟩)
            · have e9 : ((kn : Int) == 9) = false := by rw [beq_eq_false_iff_ne]; omega
              have hUl : U.data.toList = u := by rw [hU]
              have hUn : U.data.toList.length = U.size := by simp
              have hUs : U.size ≤ 300 := by rw [← hUn, hUl]; exact hul
              have hDl := HQ.out.2.2.1
              have hst := HQ.out.2.2.2
              obtain ⟨R, hR⟩ : ∃ R, R = stepsP 8 [] 0 rest := ⟨_, rfl⟩
              have h2 := HST.out
              rw [← hR] at h2
              obtain ⟨jj, hj9⟩ : ∃ jj, 9 - kn = jj + 1 := ⟨8 - kn, by omega⟩
              rw [hj9] at h2
              unfold stepsP at h2
              obtain ⟨U', hU'⟩ : ∃ U' : ByteArray, U' = ⟨(starD u).2.toArray⟩ := ⟨_, rfl⟩
              have hU's : U'.size ≤ 300 := by rw [hU']; show (starD u).2.toArray.size ≤ 300; have := star_le u; simp; omega
              have hp3 := fun W => rparse_any U' W (by omega)
              rw [show U'.data.toList = (starD u).2 from by rw [hU']] at hp3
              unfold readV at hp3
              have HSTAR := Lib.hid (show (U.size = 0 ∧ (starD u).1 = false ∧ U' = U) ∨ (∃ q, U.size = q + 1 ∧ ∃ hq : q < U.size, ((starD u).1 = false ∧ ((U[q].toNat : Int) == 42) = false ∧ U' = U ∨ (starD u).1 = true ∧ ((U[q].toNat : Int) == 42) = true ∧ ∀ W, (Instr.slice 9 (.string U) none (some (.int .i64 (q : Int))) none).run Tryd.prog W = .ok (.string U') W)) from by
                rcases Nat.eq_zero_or_pos U.size with h0 | h0
                · have hu0 : u = [] := by rw [← hUl]; exact List.length_eq_zero_iff.1 (by omega)
                  exact Or.inl ⟨h0, by rw [hu0]; rfl, by rw [hU', hU, hu0]; rfl⟩
                · obtain ⟨q, hq⟩ : ∃ q, U.size = q + 1 := ⟨U.size - 1, by omega⟩
                  have hq' : q < U.size := by omega
                  have hqu : q < u.length := by rw [← hUl, hUn]; exact hq'
                  have hgl : u.getLast? = some u[q] := by
                    rw [List.getLast?_eq_getElem?, List.getElem?_eq_getElem (by omega)]
                    congr 2
                    have : u.length = q + 1 := by rw [← hUl, hUn, hq]
                    omega
                  have hel : U[q] = u[q] := by rw [← list_at U q hq']; simp only [hUl]
                  refine Or.inr ⟨q, hq, hq', ?_⟩
                  by_cases h42 : u[q] = 42
                  · have hsd : starD u = (true, u.dropLast) := by unfold starD; rw [hgl, h42, if_pos rfl]
                    refine Or.inr ⟨by rw [hsd], by rw [hel, h42]; rfl, fun W => ?_⟩
                    rw [run_slice_string_h (P := Tryd.prog) (w := W) 9 U Tryd.underlying9 .i64 (q : Int) (by omega) (by omega)]
                    have : U.extract 0 ((q : Int)).toNat = U' := by
                      apply bytes_ext'
                      rw [Lib.extract_data, hUl, hU', hsd, List.dropLast_eq_take, show ((q : Int)).toNat = q from by omega, show u.length = q + 1 from by rw [← hUl, hUn, hq]]
                      simp
                    rw [this]
                  · have hsd : starD u = (false, u) := by unfold starD; rw [hgl, if_neg (by simpa using h42)]
                    exact Or.inl ⟨by rw [hsd], by rw [hel, beq_eq_false_iff_ne]; exact fun e => h42 (UInt8.toNat_inj.1 (by have e' : u[q].toNat = 42 := by omega
                                                                                                                           rw [e']; rfl)), by rw [hU', hU, hsd]⟩)
              generalize readD (starD u).2 = r3 at *
              generalize (starD u).1 = sb at *
              obtain ⟨o3, b3, n3⟩ := r3
              unfold callE at h2
              dsimp only at h2 hp3
              obtain ⟨B3, hB3⟩ : ∃ B : ByteArray, B = ⟨b3.toArray⟩ := ⟨_, rfl⟩
              rw [← hB3] at hp3 h2
              have HPW := Lib.hid hp3
              have H2 := Lib.hid h2
              have HRR := Lib.hid hR
              have HDL := Lib.hid hDl
              have HJ9 := Lib.hid hj9
              have HK8 := Lib.hid (show kn ≤ 8 from by omega)
              clear h2 hp3 hB3 hR hU hU' hUl hUn hst hDl hj9 h9
              rcases HSTAR.out with ⟨hq0, rfl, rfl⟩ | ⟨q, hq0, hq1, ⟨rfl, e42, rfl⟩ | ⟨rfl, e42, hsl2⟩⟩
              · cases o3
                · skip
                  have HGV2 := Lib.hid (show G = (12, []) from by rw [HGV.out, ← HRR.out, H2.out]; rfl)
                  go_wp2_with (first
                    | (go_at_call 52; (with_reducible refine (HPW.out _).mono ?_); rintro e w4 ⟨rfl, hb⟩; have HA4 := Lib.hid ((HA.out.below hb).alloc (.cells #[.string B3, .int .i64 (n3 : Int)] 23)); have HF4 := Lib.hid (P2.new w4 w4.heap.size rfl B3 (n3 : Int) 23); clear hb HPW HA c0; obtain ⟨r0, rf, rl⟩ := HA4.out.res; obtain ⟨⟨f0, -, fl⟩, ⟨f1, -, -⟩⟩ := HF4.out; have p0 := HA4.out.out.cell; have pl := HA4.out.out.lt))
                  have z0 := HA4.out.res.zero_put
                  have HBF := Lib.hid (HA4.out.out.bel.setCell (p := ⟨w.heap.size, 0, none⟩) (Nat.le_refl _) (.slice none 0 0))
                  exact bodyPost_ret (v := .tuple #[.agg #[.slice none 0 0], .int .i64 12]) (by simp [results, Tryd.results31, go_sem, z0]) rfl (by rw [HGV2.out]; exact ⟨fun _ => rfl, fun h => (by cases h), HBF.out⟩)
                · skip
                  have HR3 := Lib.hid (show stepsP 8 [] 0 rest = stepsP jj (D ++ [(B3, (n3 : Int), false)]) sn (rest.drop kn) from by rw [← HRR.out, H2.out]; rfl)
                  go_wp2_with (first
                    | (go_at_call 52; (with_reducible refine (HPW.out _).mono ?_); rintro e w4 ⟨rfl, hb⟩; have HA4 := Lib.hid ((HA.out.below hb).alloc (.cells #[.string B3, .int .i64 (n3 : Int)] 23)); have HF4 := Lib.hid (P2.new w4 w4.heap.size rfl B3 (n3 : Int) 23); clear hb HPW HA c0; obtain ⟨r0, rf, rl⟩ := HA4.out.res; obtain ⟨⟨f0, -, fl⟩, ⟨f1, -, -⟩⟩ := HF4.out; have p0 := HA4.out.out.cell; have pl := HA4.out.out.lt)
                    | (at_builtin; go_loud (have HA5 := Lib.hid (HA4.out.alloc (.cells #[.string B3, .int .i64 (n3 : Int), .bool false] 50)); have hN := EntsAt.new1 (w4.alloc (.cells #[.string B3, .int .i64 (n3 : Int)] 23)) (w4.heap.size + 1) (by simp) B3 (n3 : Int) false 50; refine wpList_append_ents infoE Tryd.underlying29 _ rfl (.tmp 106) (.tmp 109) rfl B tv ((B2, (n2 : Int), true) :: (B1, (n1 : Int), false) :: D) [(B3, (n3 : Int), false)] rfl HA5.out.out.own (some ⟨w4.heap.size + 1, 0, none⟩) 1 rfl hN (by have := HDL.out; simp; omega) HA5.out.out.bw ?_; intro v' w6 hown hgr hov; obtain ⟨c1, fz1, hq⟩ := HA5.out.grown hown hgr hov; have HQ6 := Lib.hid hq; have hml := hq.out.lt; obtain ⟨ga, ca, hga⟩ := hown.len; obtain ⟨nl, hnl3⟩ : ∃ nl, nl = ((B2, (n2 : Int), true) :: (B1, (n1 : Int), false) :: D ++ [(B3, (n3 : Int), false)]).length := ⟨_, rfl⟩; rw [← hnl3] at hga; subst hga; have HNL := Lib.hid hnl3; clear hnl3 hown hgr hov hN hq p0 pl)))
                  go_roundw
                  case rel => exact ⟨sn, kn + 1, rfl, by go_num, by omega, by omega, by have := HK8.out; omega, by omega, _, D ++ [(B3, (n3 : Int), false)], Lib.hid ⟨HQ6.out, by rw [HR3.out, show 9 - (kn + 1) = jj from by have := HJ9.out; omega]; rfl, by have := HDL.out; simp; omega, by have := HQ.out.2.2.2; omega⟩⟩
                  case measure => simp [intOf]; omega
              · have hx256' : U'[q].toNat < 256 := blt' _
                cases o3
                · skip
                  have HGV2 := Lib.hid (show G = (12, []) from by rw [HGV.out, ← HRR.out, H2.out]; rfl)
                  go_wp2_with (first
                    | (go_at_call 52; (with_reducible refine (HPW.out _).mono ?_); rintro e w4 ⟨rfl, hb⟩; have HA4 := Lib.hid ((HA.out.below hb).alloc (.cells #[.string B3, .int .i64 (n3 : Int)] 23)); have HF4 := Lib.hid (P2.new w4 w4.heap.size rfl B3 (n3 : Int) 23); clear hb HPW HA c0; obtain ⟨r0, rf, rl⟩ := HA4.out.res; obtain ⟨⟨f0, -, fl⟩, ⟨f1, -, -⟩⟩ := HF4.out; have p0 := HA4.out.out.cell; have pl := HA4.out.out.lt))
                  have z0 := HA4.out.res.zero_put
                  have HBF := Lib.hid (HA4.out.out.bel.setCell (p := ⟨w.heap.size, 0, none⟩) (Nat.le_refl _) (.slice none 0 0))
                  exact bodyPost_ret (v := .tuple #[.agg #[.slice none 0 0], .int .i64 12]) (by simp [results, Tryd.results31, go_sem, z0]) rfl (by rw [HGV2.out]; exact ⟨fun _ => rfl, fun h => (by cases h), HBF.out⟩)
                · skip
                  have HR3 := Lib.hid (show stepsP 8 [] 0 rest = stepsP jj (D ++ [(B3, (n3 : Int), false)]) sn (rest.drop kn) from by rw [← HRR.out, H2.out]; rfl)
                  go_wp2_with (first
                    | (go_at_call 52; (with_reducible refine (HPW.out _).mono ?_); rintro e w4 ⟨rfl, hb⟩; have HA4 := Lib.hid ((HA.out.below hb).alloc (.cells #[.string B3, .int .i64 (n3 : Int)] 23)); have HF4 := Lib.hid (P2.new w4 w4.heap.size rfl B3 (n3 : Int) 23); clear hb HPW HA c0; obtain ⟨r0, rf, rl⟩ := HA4.out.res; obtain ⟨⟨f0, -, fl⟩, ⟨f1, -, -⟩⟩ := HF4.out; have p0 := HA4.out.out.cell; have pl := HA4.out.out.lt)
                    | (at_builtin; go_loud (have HA5 := Lib.hid (HA4.out.alloc (.cells #[.string B3, .int .i64 (n3 : Int), .bool false] 50)); have hN := EntsAt.new1 (w4.alloc (.cells #[.string B3, .int .i64 (n3 : Int)] 23)) (w4.heap.size + 1) (by simp) B3 (n3 : Int) false 50; refine wpList_append_ents infoE Tryd.underlying29 _ rfl (.tmp 106) (.tmp 109) rfl B tv ((B2, (n2 : Int), true) :: (B1, (n1 : Int), false) :: D) [(B3, (n3 : Int), false)] rfl HA5.out.out.own (some ⟨w4.heap.size + 1, 0, none⟩) 1 rfl hN (by have := HDL.out; simp; omega) HA5.out.out.bw ?_; intro v' w6 hown hgr hov; obtain ⟨c1, fz1, hq⟩ := HA5.out.grown hown hgr hov; have HQ6 := Lib.hid hq; have hml := hq.out.lt; obtain ⟨ga, ca, hga⟩ := hown.len; obtain ⟨nl, hnl3⟩ : ∃ nl, nl = ((B2, (n2 : Int), true) :: (B1, (n1 : Int), false) :: D ++ [(B3, (n3 : Int), false)]).length := ⟨_, rfl⟩; rw [← hnl3] at hga; subst hga; have HNL := Lib.hid hnl3; clear hnl3 hown hgr hov hN hq p0 pl)))
                  go_roundw
                  case rel => exact ⟨sn, kn + 1, rfl, by go_num, by omega, by omega, by have := HK8.out; omega, by omega, _, D ++ [(B3, (n3 : Int), false)], Lib.hid ⟨HQ6.out, by rw [HR3.out, show 9 - (kn + 1) = jj from by have := HJ9.out; omega]; rfl, by have := HDL.out; simp; omega, by have := HQ.out.2.2.2; omega⟩⟩
                  case measure => simp [intOf]; omega
              · have hx256' : U[q].toNat < 256 := blt' _
                cases o3
                · skip
                  have HGV2 := Lib.hid (show G = (12, []) from by rw [HGV.out, ← HRR.out, H2.out]; rfl)
                  go_wp2_with (first
                    | (go_at_call 52; (with_reducible refine (HPW.out _).mono ?_); rintro e w4 ⟨rfl, hb⟩; have HA4 := Lib.hid ((HA.out.below hb).alloc (.cells #[.string B3, .int .i64 (n3 : Int)] 23)); have HF4 := Lib.hid (P2.new w4 w4.heap.size rfl B3 (n3 : Int) 23); clear hb HPW HA c0; obtain ⟨r0, rf, rl⟩ := HA4.out.res; obtain ⟨⟨f0, -, fl⟩, ⟨f1, -, -⟩⟩ := HF4.out; have p0 := HA4.out.out.cell; have pl := HA4.out.out.lt))
                  have z0 := HA4.out.res.zero_put
                  have HBF := Lib.hid (HA4.out.out.bel.setCell (p := ⟨w.heap.size, 0, none⟩) (Nat.le_refl _) (.slice none 0 0))
                  exact bodyPost_ret (v := .tuple #[.agg #[.slice none 0 0], .int .i64 12]) (by simp [results, Tryd.results31, go_sem, z0]) rfl (by rw [HGV2.out]; exact ⟨fun _ => rfl, fun h => (by cases h), HBF.out⟩)
                · have HR3 := Lib.hid (show stepsP 8 [] 0 rest = stepsP jj ((D ++ [(B3, (n3 : Int), false)]).map markE) (sn + 1) (rest.drop kn) from by rw [← HRR.out, H2.out]; rfl)
                  go_wp2_with (first
                    | (go_at_call 52; (with_reducible refine (HPW.out _).mono ?_); rintro e w4 ⟨rfl, hb⟩; have HA4 := Lib.hid ((HA.out.below hb).alloc (.cells #[.string B3, .int .i64 (n3 : Int)] 23)); have HF4 := Lib.hid (P2.new w4 w4.heap.size rfl B3 (n3 : Int) 23); clear hb HPW HA c0; obtain ⟨r0, rf, rl⟩ := HA4.out.res; obtain ⟨⟨f0, -, fl⟩, ⟨f1, -, -⟩⟩ := HF4.out; have p0 := HA4.out.out.cell; have pl := HA4.out.out.lt)
                    | (at_builtin; go_loud (have HA5 := Lib.hid (HA4.out.alloc (.cells #[.string B3, .int .i64 (n3 : Int), .bool false] 50)); have hN := EntsAt.new1 (w4.alloc (.cells #[.string B3, .int .i64 (n3 : Int)] 23)) (w4.heap.size + 1) (by simp) B3 (n3 : Int) false 50; refine wpList_append_ents infoE Tryd.underlying29 _ rfl (.tmp 106) (.tmp 109) rfl B tv ((B2, (n2 : Int), true) :: (B1, (n1 : Int), false) :: D) [(B3, (n3 : Int), false)] rfl HA5.out.out.own (some ⟨w4.heap.size + 1, 0, none⟩) 1 rfl hN (by have := HDL.out; simp; omega) HA5.out.out.bw ?_; intro v' w6 hown hgr hov; obtain ⟨c1, fz1, hq⟩ := HA5.out.grown hown hgr hov; have HQ6 := Lib.hid hq; have hml := hq.out.lt; obtain ⟨ga, ca, hga⟩ := hown.len; obtain ⟨nl, hnl3⟩ : ∃ nl, nl = ((B2, (n2 : Int), true) :: (B1, (n1 : Int), false) :: D ++ [(B3, (n3 : Int), false)]).length := ⟨_, rfl⟩; rw [← hnl3] at hga; subst hga; have HNL := Lib.hid hnl3; clear hnl3 hown hgr hov hN hq p0 pl)))
                  go_loopw [17] (fun mv wx => ∃ j : Nat, 2 ≤ j ∧ j ≤ nl ∧ mv = .int .i64 j ∧ Hid (RpAt w wx B m gw (.slice ga nl ca) ((B2, (n2 : Int), true) :: (B1, (n1 : Int), false) :: marked (j - 2) (D ++ [(B3, (n3 : Int), false)])) (t :: rest))) (fun mv _ => nl - (intOf mv).toNat)
                  case atStart => exact ⟨2, by omega, by rw [HNL.out]; simp, rfl, Lib.hid HQ6.out⟩
                  case round =>
                    obtain ⟨j, hj2, hjn, rfl, HR⟩ := hrel
                    clear c1 fz1 hml
                    have p0 := HR.out.out.cell
                    have pl := HR.out.out.lt
                    have HNL2 := Lib.hid (show nl = D.length + 3 from by rw [HNL.out]; simp)
                    have hnb : nl ≤ 100 := by have h1 := HNL2.out; have h2 := HDL.out; have h3 := HK8.out; omega
                    by_cases hlj : j < nl
                    · have dj : decide ((j : Int) < (nl : Int)) = true := decide_eq_true (by omega)
                      have hjl : j < ((B2, (n2 : Int), true) :: (B1, (n1 : Int), false) :: marked (j - 2) (D ++ [(B3, (n3 : Int), false)])).length := by
                        have := HNL2.out
                        simp only [List.length_cons, marked_len, List.length_append, List.length_nil]
                        omega
                      have hln : ((B2, (n2 : Int), true) :: (B1, (n1 : Int), false) :: marked (j - 2) (D ++ [(B3, (n3 : Int), false)])).length = nl := by
                        have := HNL2.out
                        simp only [List.length_cons, marked_len, List.length_append, List.length_nil]
                        omega
                      obtain ⟨g, c, hvv, -, -, -⟩ := HR.out.out.own.some_ (by simp)
                      simp only [Value.slice.injEq] at hvv
                      obtain ⟨rfl, -, rfl⟩ := hvv
                      obtain ⟨gg, oo, hgo, hgl, -, -, z3⟩ := (ents_of_own HR.out.out.own).at_ j hjl
                      simp only [Option.some.injEq, Addr.mk.injEq, and_true] at hgo
                      obtain ⟨rfl, rfl⟩ := hgo
                      rw [Nat.zero_add] at z3
                      have z2 := World.ownsRow.frozenAt (by have k := HR.out.out.own; unfold OwnE at k; rw [hln] at k; exact k) (j * 3 + 2)
                      have HM := Lib.hid (HR.out.mark j hjl)
                      obtain ⟨zb, z4⟩ : ∃ zb, wr.cell? ⟨g, j * 3 + 2, none⟩ = some (.bool zb) := ⟨_, z3⟩
                      clear z3 hjl hln
                      go_wp2
                      go_roundw
                      case rel =>
                        refine ⟨j + 1, by omega, by omega, by go_num, ?_⟩
                        have h1 := HM.out
                        have h3 := HNL2.out
                        obtain ⟨i, rfl⟩ : ∃ i, j = i + 2 := ⟨j - 2, by omega⟩
                        rw [mark_cons2, show i + 2 - 2 = i from by omega, marked_next _ i (by simp; omega)] at h1
                        exact Lib.hid h1
                      case measure => simp [intOf]; omega
                    · obtain rfl : j = nl := by omega
                      have dj : decide ((j : Int) < (j : Int)) = false := decide_eq_false (by omega)
                      have HMM := Lib.hid (show marked (j - 2) (D ++ [(B3, (n3 : Int), false)]) = (D ++ [(B3, (n3 : Int), false)]).map markE from by
                        have := HNL2.out
                        unfold marked
                        rw [List.take_of_length_le (by simp; omega), List.drop_of_length_le (by simp; omega), List.append_nil])
                      go_wp2
                      go_roundw
                      case rel => exact ⟨sn + 1, kn + 1, by go_num, by go_num, by omega, by omega, by have := HK8.out; omega, by have := HQ.out.2.2.2; omega, _, (D ++ [(B3, (n3 : Int), false)]).map markE, Lib.hid ⟨HMM.out ▸ HR.out, by rw [HR3.out, show 9 - (kn + 1) = jj from by have := HJ9.out; omega]; rfl, by have := HDL.out; simp; omega, by have := HQ.out.2.2.2; omega⟩⟩
                      case measure => simp [intOf]; omega
          · obtain rfl : kn = nw := by omega
            have dkn : decide ((kn : Int) < (kn : Int)) = false := decide_eq_false (by omega)
            have hdr : rest.drop (kn - 1) = [] := List.drop_of_length_le (by have := HNW.out; omega)
            obtain ⟨r0, rf, rl⟩ := HA.out.res
            by_cases hs1 : 1 < sn
            · have ds : decide ((1 : Int) < (sn : Int)) = true := decide_eq_true (by omega)
              have HGV2 := Lib.hid (show G = (2, []) from by
                rw [HGV.out, HQ.out.2.1, hdr]
                unfold stepsP
                rw [if_pos hs1]; rfl)
              clear hdr
              go_wp2
              have z0 := HA.out.res.zero_put
              have HBF := Lib.hid (HA.out.out.bel.setCell (p := ⟨w.heap.size, 0, none⟩) (Nat.le_refl _) (.slice none 0 0))
              exact bodyPost_ret (v := .tuple #[.agg #[.slice none 0 0], .int .i64 2]) (by simp [results, Tryd.results31, go_sem, z0]) rfl (by rw [HGV2.out]; exact ⟨fun _ => rfl, fun h => (by cases h), HBF.out⟩)
            · have ds : decide ((1 : Int) < (sn : Int)) = false := decide_eq_false (by omega)
              have HGV2 := Lib.hid (show G = (0, (B2, (n2 : Int), true) :: (B1, (n1 : Int), false) :: D) from by
                rw [HGV.out, HQ.out.2.1, hdr]
                unfold stepsP
                rw [if_neg hs1]; rfl)
              clear hdr
              have p0 := HA.out.out.cell
              have pl := HA.out.out.lt
              obtain ⟨ga, ca, hga⟩ := HA.out.out.own.len
              obtain ⟨nl, hnl2⟩ : ∃ nl, nl = ((B2, (n2 : Int), true) :: (B1, (n1 : Int), false) :: D).length := ⟨_, rfl⟩
              rw [← hnl2] at hga
              subst hga
              have HNL := Lib.hid hnl2
              clear hnl2
              go_wp2
              have z0 := set_here (v := .slice ga nl ca) r0
              have HBF := Lib.hid (HA.out.out.bel.setCell (p := ⟨w.heap.size, 0, none⟩) (Nat.le_refl _) (.slice ga nl ca))
              have hres := HA.out.res.lt
              have HOF := Lib.hid (HA.out.out.own.grown (grown_set (grown_refl _ (some w.heap.size)) (o := 0) (.slice ga nl ca)) (fun q hq e => by have h9 := (HA.out.out.own.ge hq).1; have e' : w.heap.size = q := Option.some.inj e; have := HA.out.rlt; omega))
              exact bodyPost_ret (v := .tuple #[.agg #[.slice ga nl ca], .int .i64 0]) (by simp [results, Tryd.results31, go_sem, z0]) rfl (by rw [HGV2.out]; exact ⟨fun h => absurd rfl h, fun _ => ⟨_, rfl, HOF.out.ents⟩, HBF.out⟩)
end Go.Proofs.YteiappicdnekoaaDoor
