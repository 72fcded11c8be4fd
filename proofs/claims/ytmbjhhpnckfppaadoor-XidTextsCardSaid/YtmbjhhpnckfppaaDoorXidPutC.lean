/-
The landed code's Usual, bit and field.
-/
import Derived.Test.YtmbjhhpnckfppaaDoorXidBase
namespace Go.Proofs.YtmbjhhpnckfppaaDoor
open Go.RowKit
set_option maxRecDepth 20000
theorem usual_any (w : World) : Calls Tryd.prog 12 #[] w fun e w' => e = .returned (.agg #[.bool false, .bool false, .int .i64 64, .int .i64 4, .int .i64 20, .int .i64 5]) ∧ Below w.heap.size w w' := by
  go_enter Tryd.func12, Tryd.ntmps12
  go_wp2
  exact bodyPost_ret (v := .agg #[.bool false, .bool false, .int .i64 64, .int .i64 4, .int .i64 20, .int .i64 5]) (by simp [results, Tryd.results12, go_sem]) rfl ⟨rfl, (Below.refl _ w).alloc (Nat.le_refl _) _⟩
theorem xbit_any (on : Bool) (b : Int) (w : World) : Calls Tryd.prog 20 #[.bool on, .int .u8 b] w fun e w' => e = .returned (.int .u8 (if on then b else 0)) ∧ w' = w := by
  cases on
  all_goals
    go_enter Tryd.func20, Tryd.ntmps20
    go_wp2
    go_ret
    exact ⟨rfl, rfl⟩
/-- a number and its bytes, as a text -/
def fieldT (x : UInt8) (l : List UInt8) : ByteArray := ⟨(x :: UInt8.ofNat l.length :: l).toArray⟩
theorem field_any (x : UInt8) (g cap : Nat) (l : List UInt8) (w : World) (h : BytesAt w g l) (hl : l.length ≤ 2) :
    Calls Tryd.prog 19 #[.int .u8 ((x.toNat : Nat) : Int), .slice (some ⟨g, 0, none⟩) l.length cap] w fun e w' => e = .returned (.string (fieldT x l)) ∧ Below w.heap.size w w' := by
  have hw : (l.length : Int) = (((UInt8.ofNat l.length).toNat : Nat) : Int) := by
    have e : (UInt8.ofNat l.length).toNat = l.length % 256 := rfl
    omega
  have hc1 : (convert 45 9 (.slice (some ⟨w.heap.size, 0, none⟩) 2 2)).run Tryd.prog (w.alloc (.cells #[.int .u8 ((x.toNat : Nat) : Int), .int .u8 (l.length : Int)] 5)) = .ok (.string ⟨#[x, UInt8.ofNat l.length]⟩) (w.alloc (.cells #[.int .u8 ((x.toNat : Nat) : Int), .int .u8 (l.length : Int)] 5)) :=
    BytesAt.conv (cap := 2) (BytesAt.two w w.heap.size ((x.toNat : Nat) : Int) _ x (UInt8.ofNat l.length) rfl hw rfl)
  have hc2 := BytesAt.conv (cap := cap) (h.below ((Below.refl _ w).alloc (Nat.le_refl _) (.cells #[.int .u8 ((x.toNat : Nat) : Int), .int .u8 (l.length : Int)] 5)))
  have ha := fun (W : World) => run_string_add_sum (P := Tryd.prog) (w := W) ⟨[x, UInt8.ofNat l.length].toArray⟩ ⟨l.toArray⟩ (by show 2 + l.toArray.size ≤ _; simp; omega)
  have hr : (⟨[x, UInt8.ofNat l.length].toArray⟩ : ByteArray) ++ ⟨l.toArray⟩ = fieldT x l := bytes_ext' (by simp [ByteArray.data_append, fieldT])
  rw [hr] at ha
  generalize fieldT x l = T at *
  have HB := Lib.hid ((Below.refl _ w).alloc (Nat.le_refl _) (.cells #[.int .u8 ((x.toNat : Nat) : Int), .int .u8 (l.length : Int)] 5))
  clear hr h hw
  go_enter Tryd.func19, Tryd.ntmps19
  go_wp2
  go_ret
  exact ⟨rfl, HB.out⟩
end Go.Proofs.YtmbjhhpnckfppaaDoor
