import Derived.Test.YtdkhdkfjadalpaaDoorL6A
import Derived.Test.YtdkhdkfjadalpaaDoorL6B
namespace Go.Proofs.YtdkhdkfjadalpaaDoor
open Go.RowKit Go.Shelf
theorem fieldFewest_walk (bits lo hi vv : Int) (w : World) (hdb : DB w) :
    Calls Tryd.prog 3 #[.int .i64 bits, .int .i64 lo, .int .i64 hi, .int .i64 vv] w fun e w' => e = .returned (.bool true) ∧ Below w.heap.size w w' := by
  have hb0 : 0 ≤ bits % 32 := Int.emod_nonneg _ (by decide)
  have hb1 : bits % 32 < 32 := Int.emod_lt_of_pos _ (by decide)
  obtain ⟨n, hn⟩ : ∃ n : Nat, 1 + bits % 32 = (n : Int) := ⟨(1 + bits % 32).toNat, by omega⟩
  obtain ⟨M, hM⟩ : ∃ M, 2 ^ n = M := ⟨_, rfl⟩
  have hMp : 0 < M := by rw [← hM]; exact Nat.pow_pos (by decide)
  have md : ∀ x : Int, ∃ k : Nat, x % (M : Int) = (k : Int) ∧ k < M := fun x => by
    have h0 : 0 ≤ x % (M : Int) := Int.emod_nonneg _ (by omega)
    have h1 : x % (M : Int) < (M : Int) := Int.emod_lt_of_pos _ (by omega)
    exact ⟨(x % (M : Int)).toNat, by omega, by omega⟩
  obtain ⟨a, ha, ha2⟩ := md lo
  obtain ⟨b, hb, hb2⟩ := md hi
  obtain ⟨v, hv, hv2⟩ := md vv
  by_cases h : a ≤ b
  · exact fewest_up n a b v bits lo hi vv w (by omega) (by omega) h (by rw [hM]; exact hb2) (by rw [hM]; exact hv2) hdb hn M hM ha hb hv
  · exact fewest_down n b a v bits lo hi vv w (by omega) (by omega) (by omega) (by rw [hM]; exact ha2) (by rw [hM]; exact hv2) hdb hn M hM ha hb (by omega) hv
end Go.Proofs.YtdkhdkfjadalpaaDoor
