import Derived.Test.YtclgjdhobdncjaaDoorK0
import Derived.Lib.DecodeN
import Derived.Lib.MapLaws
namespace Go.Proofs.YtclgjdhobdncjaaDoor
open Go.RowKit
/-- the byte at a place, 0 where there is none -/
def bt (l : List UInt8) (i : Nat) : Nat := (l.getD i 0).toNat
/-- the character at a place: its number and how many bytes -/
def dc (l : List UInt8) (i : Nat) : Nat × Nat := Lib.decodeN (l.length - i) (bt l i) (bt l (i + 1)) (bt l (i + 2)) (bt l (i + 3))
theorem bt_lt (l : List UInt8) (i : Nat) : bt l i < 256 := UInt8.toNat_lt _
theorem bt_of {l : List UInt8} {i : Nat} {c : UInt8} (h : l[i]? = some c) : bt l i = c.toNat := by simp [bt, List.getD, h]
theorem dc_decode (l : List UInt8) (i : Nat) : Utf8.decode ⟨l.toArray⟩ i = dc l i := by
  have hg : ∀ j, (ByteArray.mk l.toArray).get! j = l.getD j 0 := by
    intro j
    simp [ByteArray.get!, List.getD, Array.getElem!_eq_getD]
    rfl
  rw [Lib.decode_at, hg, hg, hg, hg]
  unfold dc bt
  rw [show (ByteArray.mk l.toArray).size = l.length by simp [ByteArray.size]]
def wi (l : List UInt8) (j lo hi : Nat) : Bool := decide (j < l.length) && (decide (lo ≤ bt l j) && decide (bt l j ≤ hi))
set_option maxRecDepth 100000 in
theorem within_any (l : List UInt8) (j lo hi : Nat) (J : Int) (hJ : J = (j : Int)) (w : World) :
    Calls Tryd.prog 21 #[.string ⟨l.toArray⟩, .int .i64 J, .int .u8 (lo : Int), .int .u8 (hi : Int)] w fun e w' => e = .returned (.bool (wi l j lo hi)) ∧ w' = w := by
  subst hJ
  by_cases h1 : j < l.length
  · obtain ⟨c, hc, hlc⟩ := byte_get l j h1
    have hb := bt_of hlc
    have i1 : (j : Int) < (l.length : Int) := by omega
    have i0 : (0 : Int) ≤ (j : Int) := by omega
    by_cases h2 : lo ≤ c.toNat
    · have i2 : (lo : Int) ≤ (c.toNat : Int) := by omega
      by_cases h3 : c.toNat ≤ hi
      · have i3 : (c.toNat : Int) ≤ (hi : Int) := by omega
        have hw : Hid (wi l j lo hi = true) := by unfold Hid wi; rw [hb]; simp [h1, h2, h3]
        clear hb
        go_enter Tryd.func21, Tryd.ntmps21
        go_wp2
        go_ret
        exact ⟨by rw [hw.out]; rfl, rfl⟩
      · have i3 : ¬ (c.toNat : Int) ≤ (hi : Int) := by omega
        have hi3 : Hid (decide ((c.toNat : Int) ≤ (hi : Int)) = false) := decide_eq_false i3
        have hw : Hid (wi l j lo hi = false) := by unfold Hid wi; rw [hb]; simp [h1, h2, h3]
        clear hb
        go_enter Tryd.func21, Tryd.ntmps21
        go_wp2
        go_ret
        exact ⟨by rw [hw.out]; first | rfl | (rw [hi3.out]; rfl), rfl⟩
    · have i2 : ¬ (lo : Int) ≤ (c.toNat : Int) := by omega
      have hw : Hid (wi l j lo hi = false) := by unfold Hid wi; rw [hb]; simp [h2]
      clear hb
      go_enter Tryd.func21, Tryd.ntmps21
      go_wp2
      go_ret
      exact ⟨by rw [hw.out]; rfl, rfl⟩
  · have i1 : ¬ (j : Int) < (l.length : Int) := by omega
    have hw : Hid (wi l j lo hi = false) := by unfold Hid wi; simp [h1]
    go_enter Tryd.func21, Tryd.ntmps21
    go_wp2
    go_ret
    exact ⟨by rw [hw.out]; rfl, rfl⟩
end Go.Proofs.YtclgjdhobdncjaaDoor
