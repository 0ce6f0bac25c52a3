import Derived.Test.YtdgglglemdbgcaaW14
import Derived.Test.YtdgglglemdbgcaaM3
namespace Go.Proofs.Ytdgglglemdbgcaa
open Go.RowKit

theorem empty_str (c : ByteArray) : c.toList.isEmpty = c.data.toList.isEmpty := by rw [ByteArray.toList_eq]

set_option maxHeartbeats 400000 in
theorem rFit_any (a b : ByteArray) (w : World) : Calls Try.prog 28 #[.string a, .string b] w fun e w' => e = .returned (.bool (fitB a.data.toList b.data.toList)) ∧ w' = w := by
  have hfin : Hid (fitB a.data.toList b.data.toList = ((!a.toList.isEmpty) && ((a.size : Int) == (b.size : Int)))) := by
    unfold Hid fitB
    rw [empty_str]
    congr 1
    rw [Bool.eq_iff_iff]
    simp
    omega
  cases h0 : a.toList.isEmpty
  all_goals
    go_enter Try.func28, Try.ntmps28
    go_wp2
    go_ret
    exact ⟨by rw [hfin.out, h0]; rfl, rfl⟩
theorem rFit_D (a b : ByteArray) (q : Bool) (w : World) (h : fitB a.data.toList b.data.toList = q) : Calls Try.prog 28 #[.string a, .string b] w fun e w' => e = .returned (.bool q) ∧ w = w' := by
  subst h; exact (rFit_any a b w).mono (fun _ _ h => ⟨h.1, h.2.symm⟩)

/-- what the round of Meet sees -/
theorem cfl_str (a b : ByteArray) (k : Nat) (ha : k < a.size) (hb : k < b.size) (ga : good a.data.toList = true) (gb : good b.data.toList = true) (p1 p2 p3 : Bool) (n1 : ((a[k].toNat : Int) != 120) = p1) (n2 : ((b[k].toNat : Int) != 120) = p2) (n3 : ((a[k].toNat : Int) != (b[k].toNat : Int)) = p3) :
    cfl a.data.toList b.data.toList k = (p1 && p2 && p3) := by
  have f1 : ((a[k].toNat : Int) != 120) = !(a[k] == 120) := byte_bne a[k] 120 (by decide)
  have f2 : ((b[k].toNat : Int) != 120) = !(b[k] == 120) := byte_bne b[k] 120 (by decide)
  have f3 := byte_bne2 a[k] b[k]
  have la : k < a.data.toList.length := by simpa using ha
  have lb : k < b.data.toList.length := by simpa using hb
  rw [cfl_bytes _ _ k la lb (good_tri ga k la) (good_tri gb k lb), byte_at a k ha, byte_at b k hb, ← n1, ← n2, ← n3, f1, f2, f3]

theorem cfl_succ {a b : List UInt8} {k : Nat} (h : ∀ j, j < k → cfl a b j = false) (hk : cfl a b k = false) : ∀ j, j < k + 1 → cfl a b j = false := by
  intro j hj
  by_cases e : j = k
  · subst e; exact hk
  · exact h j (by omega)

theorem own_snoc {W : World} {B k : Nat} {v' : Value} {f : UInt8 → UInt8 → UInt8} {a b : ByteArray} {x : UInt8} (hl : a.size = b.size) (hk : k < a.size) (hx : f a[k] (b[k]'(by omega)) = x)
    (h : W.ownsRow B 5 1 v' (k + 1) (bys ((List.zipWith f a.data.toList b.data.toList).take k) ++ [.int .u8 (x.toNat : Int)])) : W.ownsRow B 5 1 v' (k + 1) (bys ((List.zipWith f a.data.toList b.data.toList).take (k + 1))) := by
  have la : a.data.toList.length = b.data.toList.length := by simp; exact hl
  have lk : k < a.data.toList.length := by simpa using hk
  rw [take_zip f _ _ la k lk, byte_at a k hk, byte_at b k (by omega), hx, ← bys_snoc]
  exact h
end Go.Proofs.Ytdgglglemdbgcaa
