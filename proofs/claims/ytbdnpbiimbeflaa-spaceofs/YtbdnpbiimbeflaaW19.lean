import Derived.Test.YtbdnpbiimbeflaaW18
namespace Go.Proofs.Ytbdnpbiimbeflaa
open Go.RowKit

theorem alloc_get1 (w : World) (o1 o2 : Obj) : ((w.alloc o1).alloc o2).heap[w.heap.size + 1]? = some o2 := by
  have := alloc_get (w.alloc o1) o2
  simpa using this

theorem hull_zero (V : Value) (w : World) : Calls Try.prog 13 #[cubeV [], V] w fun e w' => e = .returned (hulV none) ∧ Below w.heap.size w w' := by
  rw [cubeV_nil]
  unfold cv
  go_enter Try.func13, Try.ntmps13
  go_wp2
  refine bodyPost_ret (v := .tuple #[cv 0 0 0 0 0 0 0 0 0, .int .i64 11]) ?_ rfl ⟨by unfold hulV; rw [cubeV_nil], ?_⟩
  · exact res_cube2 _ _ (w.heap.size + 1) _ _ _ _ _ _ _ _ _ Try.results13 rfl (alloc_get1 _ _ _)
  · exact belA (belA (Below.refl _ _) _) _

set_option maxHeartbeats 1000000 in
theorem hull_nil (F : List UInt8) (p : Option Addr) (c : Nat) (w : World) (hF0 : F ≠ []) : Calls Try.prog 13 #[cubeV F, .slice p 0 c] w fun e w' => e = .returned (hulV (some F)) ∧ Below w.heap.size w w' := by
  have hF : ((F.length : Int) == 0) = false := by
    cases F with
    | nil => exact absurd rfl hF0
    | cons x l => simp; omega
  clear hF0
  unfold cubeV cv
  go_enter Try.func13, Try.ntmps13
  go_wp2
  go_loopw [17] (fun i wr => i = .int .i64 0 ∧ wr.heap[w.heap.size + 2]? = some (.cells (#[.int .i64 (F.length : Int), .int .u64 (FW F 0 : Int), .int .u64 (FW F 1 : Int), .int .u64 (FW F 2 : Int), .int .u64 (FW F 3 : Int), .int .u64 (OW F 0 : Int), .int .u64 (OW F 1 : Int), .int .u64 (OW F 2 : Int), .int .u64 (OW F 3 : Int)]) 28 (0, 0)) ∧ wr.heap[w.heap.size + 1]? = some (.cells #[.int .i64 0, .int .u64 0, .int .u64 0, .int .u64 0, .int .u64 0, .int .u64 0, .int .u64 0, .int .u64 0, .int .u64 0] 28 (0, 0)) ∧ Below w.heap.size w wr) (fun _ _ => 0)
  case atStart => exact ⟨rfl, alloc_get2 _ _ _ _, alloc3_1 _ _ _ _, belA (belA (belA (Below.refl _ _) _) _) _⟩
  case round =>
    obtain ⟨rfl, hA, hC, hW⟩ := hrel
    obtain ⟨cA, fA⟩ := cells_block hA
    obtain ⟨cC, fC⟩ := cells_block hC
    go_wp2
    refine bodyPost_ret (v := .tuple #[cubeV F, .int .i64 0]) ?_ rfl ⟨rfl, ?_⟩
    · exact res_cube2 _ _ (w.heap.size + 1) _ _ _ _ _ _ _ _ _ Try.results13 rfl (put9_get _ _ _ _ _ _ _ _ _ hC)
    · exact put9_below _ _ _ _ _ _ _ _ _ hW (by omega)

/-- what Hull answers -/
def hulF (F : List UInt8) (L : List (List UInt8)) : Option (List UInt8) := if F = [] then none else hulA F L

theorem hull_any (F : List UInt8) (L : List (List UInt8)) (V : Value) (B : Nat) (w : World) (gF : good F = true) (gL : ∀ x ∈ L, good x = true) (hLl : L.length < 9223372036854775807)
    (h1 : w.ownsRow B 28 9 V L.length (ces L)) :
    Calls Try.prog 13 #[cubeV F, V] w fun e w' => e = .returned (hulV (hulF F L)) ∧ Below w.heap.size w w' := by
  unfold hulF
  by_cases hF : F = []
  · subst hF
    rw [if_pos rfl]
    exact hull_zero V w
  · rw [if_neg hF]
    rcases h1.2 with ⟨rfl, n1⟩ | ⟨g, c, _, rfl, _⟩
    · obtain rfl : L = [] := List.eq_nil_of_length_eq_zero n1
      exact hull_nil F _ _ w hF
    · exact hull_some F L g c B w gF hF gL hLl h1
end Go.Proofs.Ytbdnpbiimbeflaa
