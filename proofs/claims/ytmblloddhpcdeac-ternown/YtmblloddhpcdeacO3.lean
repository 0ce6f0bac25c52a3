import Derived.Test.YtmblloddhpcdeacO2
import Derived.Deep.DeepCutAuto
namespace Go.Proofs.Ytmblloddhpcdeac
open Go.RowKit

set_option maxHeartbeats 1000000 in
theorem full_any (P : List UInt8) (n : Nat) (V : Value) (B : Nat) (w : World) (hl : n ≤ 10000) (gP : good P = true) (h1 : w.ownsRow B 26 9 V n (cels (List.replicate n P))) :
    Calls Try.prog 54 #[V, cubeV P] w fun e w' => e = .returned (.bool true) ∧ Below w.heap.size w w' := by
  have eP : ∀ W, (Op.equalIn 10000 26 (.agg #[.int .i64 (P.length : Int), .int .u64 (FW P 0 : Int), .int .u64 (FW P 1 : Int), .int .u64 (FW P 2 : Int), .int .u64 (FW P 3 : Int), .int .u64 (OW P 0 : Int), .int .u64 (OW P 1 : Int), .int .u64 (OW P 2 : Int), .int .u64 (OW P 3 : Int)]) (.agg #[.int .i64 (P.length : Int), .int .u64 (FW P 0 : Int), .int .u64 (FW P 1 : Int), .int .u64 (FW P 2 : Int), .int .u64 (FW P 3 : Int), .int .u64 (OW P 0 : Int), .int .u64 (OW P 1 : Int), .int .u64 (OW P 2 : Int), .int .u64 (OW P 3 : Int)])).run Try.prog W = .ok true W := fun W => by rw [eql_cube P P gP gP W]; simp
  unfold cubeV cv
  rcases shapeO h1 with ⟨rfl, hn⟩ | ⟨g, c, rfl⟩
  · clear h1 eP
    subst hn
    go_enter Try.func54, Try.ntmps54
    go_wp2
    go_loopw [5] (fun i wr => i = .int .i64 0 ∧ Below w.heap.size w wr) (fun _ _ => 0)
    case atStart => exact ⟨rfl, belA (Below.refl _ _) _⟩
    case round =>
      obtain ⟨rfl, hB⟩ := hrel
      go_wp2
      go_ret
      exact ⟨rfl, hB⟩
  · have HR : Hid (w.ownsRow B 26 9 (.slice (some ⟨g, 0, none⟩) n c) n (cels (List.replicate n P))) := h1
    have hgw : g < w.heap.size := (h1.lt g rfl).2
    clear h1
    go_enter Try.func54, Try.ntmps54
    go_wp2
    go_loopw [5] (fun i wr => ∃ k nn : Nat, k ≤ n ∧ i = .int .i64 k ∧ wr = (w.alloc (.cells (#[.int .i64 (P.length : Int), .int .u64 (FW P 0 : Int), .int .u64 (FW P 1 : Int), .int .u64 (FW P 2 : Int), .int .u64 (FW P 3 : Int), .int .u64 (OW P 0 : Int), .int .u64 (OW P 1 : Int), .int .u64 (OW P 2 : Int), .int .u64 (OW P 3 : Int)]) 26)).drewN nn) (fun i _ => n - (intOf i).toNat)
    case atStart => exact ⟨0, 0, Nat.zero_le _, rfl, rfl⟩
    case round =>
      obtain ⟨k, nn, hk, rfl, rfl⟩ := hrel
      by_cases hlt : k < n
      · have j0 : (0 : Int) ≤ (k : Int) := by omega
        have j1 : (k : Int) < (n : Int) := by omega
        have hr : (w.alloc (.cells (#[.int .i64 (P.length : Int), .int .u64 (FW P 0 : Int), .int .u64 (FW P 1 : Int), .int .u64 (FW P 2 : Int), .int .u64 (FW P 3 : Int), .int .u64 (OW P 0 : Int), .int .u64 (OW P 1 : Int), .int .u64 (OW P 2 : Int), .int .u64 (OW P 3 : Int)]) 26)).ownsRow B 26 9 (.slice (some ⟨g, 0, none⟩) (List.replicate n P).length c) (List.replicate n P).length (cels (List.replicate n P)) := by rw [List.length_replicate]; exact HR.out.alloc _
        have hP : (List.replicate n P)[k]'(by simpa using hlt) = P := List.getElem_replicate ..
        obtain ⟨x0, x1, x2, x3, x4, x5, x6, x7, x8⟩ := cub_at hr (k := k) (by simpa using hlt) hP
        clear hr hP
        have y := (cells_block (alloc_get w (.cells (#[.int .i64 (P.length : Int), .int .u64 (FW P 0 : Int), .int .u64 (FW P 1 : Int), .int .u64 (FW P 2 : Int), .int .u64 (FW P 3 : Int), .int .u64 (OW P 0 : Int), .int .u64 (OW P 1 : Int), .int .u64 (OW P 2 : Int), .int .u64 (OW P 3 : Int)]) 26))).1
        go_wp2
        go_quiet (fail)
        go_wp2
        go_roundw
        case rel => exact ⟨k + 1, nn + nq, by omega, by go_num, rfl⟩
        case measure => simp [intOf]; omega
      · have j1 : ¬ (k : Int) < (n : Int) := by omega
        go_wp2
        go_ret
        exact ⟨rfl, (belA (Below.refl _ _) _).trans (below_drewN _ _ _)⟩
end Go.Proofs.Ytmblloddhpcdeac
