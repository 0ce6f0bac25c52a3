import Derived.Test.YtbdnpbiimbeflaaW1
import Derived.Test.YtbdnpbiimbeflaaM
namespace Go.Proofs.Ytbdnpbiimbeflaa
open Go.RowKit

/-- the value of the cube of a text -/
def cubeV (t : List UInt8) : Value := cv t.length (FW t 0) (FW t 1) (FW t 2) (FW t 3) (OW t 0) (OW t 1) (OW t 2) (OW t 3)

theorem cubeV_all (n : Nat) : cubeV (List.replicate n 120) = cv n 0 0 0 0 0 0 0 0 := by
  unfold cubeV; simp only [FW_all, OW_all, List.length_replicate]; rfl

theorem all_any (n : Int) (w : World) : Calls Try.prog 12 #[.int .i64 n] w fun e w' => e = .returned (cubeV (if 1 ≤ n ∧ n ≤ 256 then List.replicate n.toNat 120 else [])) ∧ Below w.heap.size w w' := by
  by_cases h : 1 ≤ n ∧ n ≤ 256
  · rw [if_pos h]
    refine (all_yes n w h.1 h.2).mono ?_
    rintro e w' ⟨rfl, hb⟩
    refine ⟨?_, hb⟩
    rw [cubeV_all]
    have : ((n.toNat : Nat) : Int) = n := by omega
    rw [this]
  · rw [if_neg h]
    refine (all_no n w (by omega)).mono ?_
    rintro e w' ⟨rfl, hb⟩
    refine ⟨?_, hb⟩
    have := cubeV_all 0
    rw [List.replicate_zero] at this
    rw [this]; rfl

theorem at_any (t : List UInt8) (p : Int) (q : Nat) (w : World) (hg : good t = true) (hp : p = (q : Int)) (hq : q < t.length) :
    Calls Try.prog 48 #[cubeV t, .int .i64 p] w fun e w' => e = .returned (.int .u8 (t[q].toNat : Int)) ∧ Below w.heap.size w w' := by
  have hl := good_len hg
  have ht := good_tri hg q hq
  have hkr : ∃ k r, k < 4 ∧ r < 64 ∧ q = 64 * k + r := ⟨q / 64, q % 64, by omega, by omega, by omega⟩
  obtain ⟨k, r, hk, hr, rfl⟩ := hkr
  have e := at_eq t (64 * k + r) hq ht
  rw [← FW_at t k r hr, ← OW_at t k r hr] at e
  match k, hk with
  | 0, _ =>
    refine (at_0 _ _ _ _ _ _ _ _ _ p r w hr hp).mono ?_
    rintro e' w' ⟨rfl, hb⟩
    exact ⟨by rw [e], hb⟩
  | 1, _ =>
    refine (at_1 _ _ _ _ _ _ _ _ _ p r w hr hp).mono ?_
    rintro e' w' ⟨rfl, hb⟩
    exact ⟨by rw [e], hb⟩
  | 2, _ =>
    refine (at_2 _ _ _ _ _ _ _ _ _ p r w hr hp).mono ?_
    rintro e' w' ⟨rfl, hb⟩
    exact ⟨by rw [e], hb⟩
  | 3, _ =>
    refine (at_3 _ _ _ _ _ _ _ _ _ p r w hr hp).mono ?_
    rintro e' w' ⟨rfl, hb⟩
    exact ⟨by rw [e], hb⟩
end Go.Proofs.Ytbdnpbiimbeflaa
