/-
The document's split: the words that a byte parts, here commas.
-/
import Derived.Test.YteiappicdnekoaaDoorPathWords
namespace Go.Proofs.YteiappicdnekoaaDoor
open Go.RowKit Go.Sort
set_option maxRecDepth 20000
/-- one more byte behind the words -/
def putW (ws : List (List UInt8)) (x : UInt8) : List (List UInt8) := if x = 44 then ws ++ [[]] else ws.dropLast ++ [ws.getLast?.getD [] ++ [x]]
theorem putW_cons (w : List UInt8) (ws : List (List UInt8)) (x : UInt8) (h : ws ≠ []) : putW (w :: ws) x = w :: putW ws x := by
  unfold putW
  split
  · rfl
  · rw [List.dropLast_cons_of_ne_nil h, List.getLast?_cons_of_ne_nil h]; rfl
theorem words_ne (l : List UInt8) : wordsD l ≠ [] := by
  cases l with
  | nil => simp [wordsD]
  | cons a l =>
    unfold wordsD
    split
    · simp
    · split <;> simp
theorem words_snoc (x : UInt8) : ∀ l, wordsD (l ++ [x]) = putW (wordsD l) x
  | [] => by
    unfold putW wordsD
    by_cases h : x = 44
    · simp [h, wordsD]
    · simp [h, wordsD]
  | a :: l => by
    rw [List.cons_append]
    by_cases h : a = 44
    · have e : ∀ t, wordsD (a :: t) = [] :: wordsD t := fun t => by rw [wordsD, if_pos h]
      rw [e, e, words_snoc x l, putW_cons _ _ _ (words_ne l)]
    · have e : ∀ t, wordsD (a :: t) = (match wordsD t with | [] => [[a]] | w :: ws => (a :: w) :: ws) := fun t => by rw [wordsD, if_neg h]; cases wordsD t <;> rfl
      rw [e, e, words_snoc x l]
      have hn := words_ne l
      cases hw : wordsD l with
      | nil => exact absurd hw hn
      | cons w ws =>
        cases ws with
        | nil =>
          unfold putW
          by_cases h2 : x = 44
          · simp [h2]
          · simp [h2]
        | cons v vs => rw [putW_cons w (v :: vs) x (by simp)]; dsimp only; rw [putW_cons (a :: w) (v :: vs) x (by simp)]
theorem words_len : ∀ l, (wordsD l).length ≤ l.length + 1
  | [] => by simp [wordsD]
  | a :: l => by
    have ih := words_len l
    unfold wordsD
    split
    · simp; omega
    · split
      · simp
      · rename_i w ws h; rw [h] at ih; simp at ih ⊢; omega
theorem words_each : ∀ l, ∀ w ∈ wordsD l, w.length ≤ l.length
  | [], w, h => by simp [wordsD] at h; simp [h]
  | a :: l, w, h => by
    have ih := words_each l
    unfold wordsD at h
    split at h
    · rcases List.mem_cons.1 h with rfl | h
      · simp
      · have := ih w h; simp; omega
    · split at h
      · simp at h; simp [h]
      · rename_i v vs hv
        rw [hv] at ih
        rcases List.mem_cons.1 h with rfl | h
        · have := ih v List.mem_cons_self; simp; omega
        · have := ih w (List.mem_cons_of_mem _ h); simp; omega
/-- words as they lie -/
def txtV (w : List UInt8) : Value := .string ⟨w.toArray⟩
/-- a slice of words of the call's own -/
def OwnW (W : World) (B : Nat) (v : Value) (ws : List (List UInt8)) : Prop := W.ownsRow B 9 1 v ws.length (ws.map txtV)
theorem OwnW.below {W W' : World} {B : Nat} {v : Value} {ws : List (List UInt8)} (h : OwnW W B v ws) (hb : Below W.heap.size W W') : OwnW W' B v ws := by
  obtain ⟨h1, h2⟩ := h
  refine ⟨h1, h2.imp id ?_⟩
  rintro ⟨g, cap, cur, hv, hbg, hg, rest⟩
  have hlt : g < W.heap.size := by
    rcases Nat.lt_or_ge g W.heap.size with h | h
    · exact h
    · rw [Array.getElem?_eq_none h] at hg; cases hg
  exact ⟨g, cap, cur, hv, hbg, by rw [hb.block g hlt]; exact hg, rest⟩
theorem OwnW.alloc {W : World} {B : Nat} {v : Value} {ws : List (List UInt8)} (h : OwnW W B v ws) (o : Obj) : OwnW (W.alloc o) B v ws := World.ownsRow.alloc h o
theorem OwnW.some_ {W : World} {B : Nat} {v : Value} {ws : List (List UInt8)} (h : OwnW W B v ws) (h0 : 0 < ws.length) : ∃ g c, v = .slice (some ⟨g, 0, none⟩) ws.length c ∧ B ≤ g ∧ g < W.heap.size := by
  rcases h.2 with ⟨_, h1⟩ | ⟨g, c, cur, hv, hb, _⟩
  · omega
  · subst hv
    exact ⟨g, c, rfl, hb, (World.ownsRow.lt h g rfl).2⟩
theorem OwnW.at_ {W : World} {B g n c : Nat} {ws : List (List UInt8)} (h : OwnW W B (.slice (some ⟨g, 0, none⟩) n c) ws) (hn : n = ws.length) (j : Nat) (hj : j < ws.length) : W.cell? ⟨g, j, none⟩ = some (txtV ws[j]) := by
  subst hn
  rw [World.ownsRow.cellAt h j (by omega), List.getElem?_map, List.getElem?_eq_getElem hj]
  rfl
theorem OwnW.last {W : World} {B g n c : Nat} {us : List (List UInt8)} {u : List UInt8} (h : OwnW W B (.slice (some ⟨g, 0, none⟩) n c) (us ++ [u])) (hn : n = us.length + 1) (u' : List UInt8) :
    W.cell? ⟨g, us.length, none⟩ = some (txtV u) ∧ W.frozen? ⟨g, us.length, none⟩ = false ∧ OwnW (W.setCell ⟨g, us.length, none⟩ (txtV u')) B (.slice (some ⟨g, 0, none⟩) n c) (us ++ [u']) := by
  have hn' : n = (us ++ [u]).length := by simp [hn]
  subst hn'
  refine ⟨?_, World.ownsRow.frozenAt h _, ?_⟩
  · rw [h.at_ rfl us.length (by simp)]
    simp
  · have k := (World.ownsRow.stored h us.length (txtV u')).1
    unfold OwnW
    have e : (us ++ [u']).map txtV = ((us ++ [u]).map txtV).set us.length (txtV u') := by
      rw [List.map_append, List.map_append, List.set_append_right _ _ (by simp)]
      simp
    rw [e]
    have e2 : (us ++ [u']).length = (us ++ [u]).length := by simp
    rw [e2]
    exact k
theorem infoS : (Tryd.prog.info? 9).map (fun i => (i.zero, i.size, i.bytes)) = some (some (.string ⟨#[]⟩), 1, 16) := by kernel_rfl
/-- an empty word behind them -/
theorem wpList_append_word (w : World) {ops : Array Oper} {rest : List Oper} {o : Oper} {a : Act} {Q : Exit → Act → World → Prop} (hgd : o.guard = none) (s x : Operand) (ho : o.op = .call { callee := .builtin .append, args := #[s, x], argTypes := #[90, 90] })
    (B : Nat) (v : Value) (ws : List (List UInt8)) (hs : a.eval s = v) (hown : OwnW w B v ws) (m c : Nat) (hx : a.eval x = .slice (some ⟨m, 0, none⟩) 1 c) (u : List UInt8) (hm : w.cell? ⟨m, 0, none⟩ = some (txtV u)) (hlen : ws.length ≤ 100000) (hB : B ≤ w.heap.size)
    (h : ∀ v' w', OwnW w' B v' (ws ++ [u]) → w.grownBy w' v.ownBlock → wpList Tryd.prog ops Q rest (a.put o.dst v') w') : wpList Tryd.prog ops Q (o :: rest) a w := by
  refine wpList_plain hgd fun K hK => ?_
  obtain ⟨i0, hi, hz0, hz1, hz2⟩ := info_parts infoS
  obtain ⟨v', w', hr, h2, h3, h4, h5⟩ := run_append_own_at (P := Tryd.prog) w B 90 o.type 9 i0 _ 1 16 Tryd.underlying90 hi hz0 hz1 hz2 rfl (by decide) v ws.length (ws.map txtV) hown ⟨m, 0, none⟩ 1 c [txtV u] rfl (fun j y hj => by
    cases j with
    | zero => simp at hj; subst hj; exact hm
    | succ j => simp at hj) (fun y hy => by rw [List.mem_singleton.1 hy]; rfl) (by unfold maxLen; omega) (by omega) hB
  unfold Oper.wp execOp
  simp only [ho, resolve, invoke, builtin, Sem.run_bind, Sem.run_pure, Result.andThen_ok, List.map_toArray, List.map_cons, List.map_nil, hs, hx, hr]
  exact hK _ _ (h v' w' (by unfold OwnW; rw [List.length_append, List.map_append]; exact h2) h3)
theorem words_split (l : List UInt8) : ∃ us u, wordsD l = us ++ [u] ∧ us.length ≤ l.length ∧ u.length ≤ l.length := by
  have hn := words_ne l
  refine ⟨(wordsD l).dropLast, (wordsD l).getLast hn, (List.dropLast_concat_getLast hn).symm, ?_, words_each l _ (List.getLast_mem hn)⟩
  have := words_len l
  simp; omega
set_option maxHeartbeats 1000000 in
theorem rsplit_any (s : ByteArray) (w : World) (hs : s.size ≤ 300) :
    Calls Tryd.prog 51 #[.string s, .int .u8 44] w fun e w' => (∃ v, e = .returned v ∧ OwnW w' w.heap.size v (wordsD s.data.toList)) ∧ Below w.heap.size w w' := by
  have hsl : s.data.toList.length = s.size := by simp
  have HO0 := Lib.hid (show OwnW (w.alloc (.cells #[.string ⟨#[]⟩] 9)) w.heap.size (.slice (some ⟨w.heap.size, 0, none⟩) 1 1) [[]] from World.ownsRow_lit (base := w.heap.size) (e := 9) (size := 1) w #[.string ⟨#[]⟩] 1 (Nat.le_refl _) (by decide) rfl)
  have HB0 := Lib.hid ((Below.refl _ w).alloc (Nat.le_refl _) (.cells #[.string ⟨#[]⟩] 9))
  go_enter Tryd.func51, Tryd.ntmps51
  go_wp2_with fail
  go_loopw [5, 6] (fun v i wx => ∃ k : Nat, k ≤ s.size ∧ i = .int .i64 k ∧ ∃ tv : Value, tv = v ∧ Hid (OwnW wx w.heap.size tv (wordsD (s.data.toList.take k)) ∧ Below w.heap.size w wx)) (fun _ i _ => s.size - (intOf i).toNat)
  case atStart => exact ⟨0, by omega, rfl, _, rfl, Lib.hid ⟨HO0.out, HB0.out⟩⟩
  case round =>
    obtain ⟨k, hk, rfl, tv, rfl, HQ⟩ := hrel
    clear HO0 HB0
    by_cases hlt : k < s.size
    · have hx256 : s[k].toNat < 256 := blt' _
      have hl : k < s.data.toList.length := by omega
      have htk : s.data.toList.take (k + 1) = s.data.toList.take k ++ [s[k]] := by
        rw [List.take_succ_eq_append_getElem hl, list_at s k hlt]
      obtain ⟨us, u, hw, hul, hun⟩ := words_split (s.data.toList.take k)
      have hwn : wordsD (s.data.toList.take (k + 1)) = putW (us ++ [u]) s[k] := by rw [htk, words_snoc, hw]
      have HWN := Lib.hid hwn
      have htl : (s.data.toList.take k).length ≤ 300 := by simp; omega
      have HO := Lib.hid (show OwnW wr w.heap.size tv (us ++ [u]) from by rw [← hw]; exact HQ.out.1)
      have HB := Lib.hid HQ.out.2
      have hun' : u.length ≤ 300 := by omega
      have hul' : us.length ≤ 300 := by omega
      clear HQ htk hw hwn htl hul hun
      by_cases h44 : s[k].toNat = 44
      · have e44 : ((s[k].toNat : Int) == 44) = true := by rw [h44]; rfl
        have x44 : s[k] = 44 := UInt8.toNat_inj.1 (by rw [h44]; rfl)
        have HPW := Lib.hid (show wordsD (s.data.toList.take (k + 1)) = us ++ [u] ++ [[]] from by rw [HWN.out, x44]; unfold putW; rw [if_pos rfl])
        clear x44 HWN h44
        have HOA := Lib.hid (show OwnW (wr.alloc (.cells #[.string ⟨#[]⟩] 9)) w.heap.size tv (us ++ [u]) from World.ownsRow.alloc HO.out _)
        have HBA := Lib.hid (HB.out.alloc HB.out.size (.cells #[.string ⟨#[]⟩] 9))
        have hN : (wr.alloc (.cells #[.string ⟨#[]⟩] 9)).cell? ⟨wr.heap.size, 0, none⟩ = some (txtV []) := World.cell?_alloc_at _ _ _ _ rfl
        go_wp2_with (at_builtin; go_loud (refine wpList_append_word _ rfl (.tmp 19) (.tmp 20) rfl w.heap.size tv (us ++ [u]) rfl HOA.out wr.heap.size 1 rfl [] hN (by simp; omega) (by have := HBA.out.size; exact this) ?_; intro v' w2 hown hgr; have HB2 := Lib.hid (HBA.out.grown hgr HBA.out.size (fun q hq => (World.ownsRow.lt HOA.out q hq).1)); have HO2 := Lib.hid hown; clear hown hgr))
        go_roundw
        case rel => exact ⟨k + 1, by omega, by go_num, _, rfl, Lib.hid ⟨HPW.out ▸ HO2.out, HB2.out⟩⟩
        case measure => simp [intOf]; omega
      · have e44 : ((s[k].toNat : Int) == 44) = false := by rw [beq_eq_false_iff_ne]; omega
        have n44 : ¬ s[k] = 44 := fun e => h44 (by rw [e]; rfl)
        have HPW := Lib.hid (show wordsD (s.data.toList.take (k + 1)) = us ++ [u ++ [s[k]]] from by rw [HWN.out]; unfold putW; rw [if_neg n44]; simp)
        obtain ⟨U, hU⟩ : ∃ U : ByteArray, U = ⟨u.toArray⟩ := ⟨_, rfl⟩
        obtain ⟨V, hV⟩ : ∃ V : ByteArray, V = ⟨(u ++ [s[k]]).toArray⟩ := ⟨_, rfl⟩
        obtain ⟨X, hX⟩ : ∃ X : ByteArray, X = s.extract k (k + 1) := ⟨_, rfl⟩
        have hx1 := fun W => run_slice_string (P := Tryd.prog) (w := W) 9 s .i64 .i64 (k : Int) ((k : Int) + 1) Tryd.underlying9 (by omega) (by omega) (by omega)
        rw [show ((k : Int)).toNat = k from by omega, show ((k : Int) + 1).toNat = k + 1 from by omega, ← hX] at hx1
        have hXs : X.size = 1 := by rw [hX, ByteArray.size_extract]; omega
        have hUs : U.size ≤ 300 := by rw [hU]; show u.toArray.size ≤ 300; simpa using hun'
        have hxs := fun (W : World) => run_string_add_sum (P := Tryd.prog) (w := W) U X (by omega)
        have hUV : U ++ X = V := by
          apply bytes_ext'
          rw [ByteArray.data_append, hU, hV, hX]
          simp
          rw [List.drop_eq_getElem_cons hl, List.take_succ_cons, List.take_zero, list_at s k hlt]
        rw [hUV] at hxs
        obtain ⟨g, c, rfl, hgb, hgl⟩ := HO.out.some_ (by simp)
        rw [show (us ++ [u]).length = us.length + 1 from by simp] at HO ⊢
        obtain ⟨l0, l1, l2⟩ := HO.out.last rfl (u ++ [s[k]])
        rw [show txtV u = .string U from by rw [hU]; rfl] at l0
        rw [show txtV (u ++ [s[k]]) = .string V from by rw [hV]; rfl] at l2
        have HO2 := Lib.hid l2
        have HB2 := Lib.hid (HB.out.setCell (p := ⟨g, us.length, none⟩) hgb (.string V))
        clear l2 n44 HWN h44 hU hV hX hUV
        obtain ⟨m, hm⟩ : ∃ m, m = us.length := ⟨_, rfl⟩
        rw [← hm] at HO HO2 HB2 l0 l1 hul' ⊢
        have HM := Lib.hid hm
        clear hm
        go_wp2
        go_region
        go_wp2
        go_roundw
        case rel => exact ⟨k + 1, by omega, by go_num, _, rfl, Lib.hid ⟨HPW.out ▸ HO2.out, HB2.out.drew⟩⟩
        case measure => simp [intOf]; omega
    · obtain rfl : k = s.size := by omega
      have dk : decide ((s.size : Int) < (s.size : Int)) = false := decide_eq_false (by omega)
      have HW := Lib.hid (show wordsD (s.data.toList.take s.size) = wordsD s.data.toList from by rw [List.take_of_length_le (by omega)])
      have HO := Lib.hid (show OwnW wr w.heap.size tv (wordsD s.data.toList) from HW.out ▸ HQ.out.1)
      have HB := Lib.hid HQ.out.2
      clear HQ HW
      go_wp2
      go_ret
      exact ⟨⟨_, rfl, HO.out⟩, HB.out⟩
end Go.Proofs.YteiappicdnekoaaDoor
