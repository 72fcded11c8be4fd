/-
The document's own Get of controls, of any bytes.
-/
import Derived.Test.YtadhiknmkiogjaaDoorCtlRGetB
import Derived.Test.YtadhiknmkiogjaaDoorCtlRGetC
import Derived.Test.YtadhiknmkiogjaaDoorCtlRGetD
namespace Go.Proofs.YtadhiknmkiogjaaDoor
open Go.RowKit Go.Sort
set_option maxRecDepth 20000
set_option maxHeartbeats 1000000 in
theorem r6get_nil (wide : Bool) (w : World) :
    Calls Tryd.prog 45 #[.string ⟨#[]⟩, .bool wide] w fun e w' => e = .returned (gotU (0, 0, 0, false, 0, 4)) ∧ Below w.heap.size w w' := by
  have HB0 := Lib.hid ((Below.refl _ w).alloc (Nat.le_refl _) (.cells #[.int .i64 0, .int .i64 0, .int .i64 0, .bool false] 71))
  go_enter Tryd.func45, Tryd.ntmps45
  go_wp2_with fail
  exact bodyPost_ret (v := gotU (0, 0, 0, false, 0, 4)) (by simp [results, Tryd.results45, go_sem, gotU]) rfl ⟨rfl, HB0.out⟩
set_option maxHeartbeats 1000000 in
theorem r6get_short (s : ByteArray) (b : UInt8) (w : World) (ht : s.data.toList = [b]) (h3 : (b.toNat % 4 != 3) = true) :
    Calls Tryd.prog 45 #[.string s, .bool true] w fun e w' => e = .returned (gotU (0, 0, 0, false, 0, 4)) ∧ Below w.heap.size w w' := by
  have HB0 := Lib.hid ((Below.refl _ w).alloc (Nat.le_refl _) (.cells #[.int .i64 0, .int .i64 0, .int .i64 0, .bool false] 71))
  have hz : s.size = s.data.toList.length := by simp
  have n0 : 0 < s.size := by rw [hz, ht]; simp
  have e0 := head_at s b [] ht n0
  have hz1 : s.size = 1 := by rw [hz, ht]; rfl
  have dl : decide ((s.size : Int) < 2) = true := decide_eq_true (by omega)
  have he := txt_full s n0
  obtain ⟨B, hB⟩ : ∃ B, B = b.toNat := ⟨_, rfl⟩
  have hBl : B < 256 := by rw [hB]; exact b.toNat_lt
  obtain ⟨X, hX⟩ : ∃ X : Int, X = (B : Int) := ⟨_, rfl⟩
  have e8 : (((s[0]'n0).toNat : Nat) : Int) = X := by rw [e0, hX, hB]
  have hw0 := wrap_num B hBl
  rw [← hX] at hw0
  obtain ⟨hm3, hm4⟩ := rem4_num B hBl _ (hB ▸ h3)
  rw [← hX] at hm3 hm4
  rw [← hw0] at hm3 hm4
  have hm5 : ¬ wrap64 X % 4 = 3 := by rw [hw0, hX]; have k9 := bne_iff_ne.1 (hB ▸ h3); omega
  clear hz ht e0 hz1 hB hX hBl hw0 h3
  go_enter Tryd.func45, Tryd.ntmps45
  go_wp2_with fail
  exact bodyPost_ret (v := gotU (0, 0, 0, false, 0, 4)) (by simp [results, Tryd.results45, go_sem, gotU]) rfl ⟨rfl, HB0.out⟩
theorem r6get_any (s : ByteArray) (wide : Bool) (w : World) :
    Calls Tryd.prog 45 #[.string s, .bool wide] w fun e w' => e = .returned (gotU (refGet s.data.toList wide)) ∧ Below w.heap.size w w' := by
  cases hs : s.data.toList with
  | nil =>
    have e : s = ⟨#[]⟩ := bytes_ext' (by rw [hs])
    rw [e]
    exact r6get_nil wide w
  | cons b t =>
    rw [← hs]
    cases wide
    · exact r6get_narrow s b t w hs
    · cases h3 : (b.toNat % 4 != 3)
      · cases t with
        | nil => exact r6get_wide1 s b w hs h3
        | cons y t => exact r6get_wide3 s b y t w hs h3
      · cases t with
        | nil =>
          have e : refGet s.data.toList true = (0, 0, 0, false, 0, 4) := by
            rw [hs]
            unfold refGet
            dsimp only
            rw [h3]
            rfl
          rw [e]
          exact r6get_short s b w hs h3
        | cons y t => exact r6get_wide2 s b y t w hs h3
end Go.Proofs.YtadhiknmkiogjaaDoor
