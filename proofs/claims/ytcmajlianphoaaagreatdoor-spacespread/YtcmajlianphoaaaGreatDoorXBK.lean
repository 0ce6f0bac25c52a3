import Derived.Test.YtcmajlianphoaaaGreatDoorXAK
import Derived.Test.YtcmajlianphoaaaGreatDoorXAC
import Derived.Test.YtcmajlianphoaaaGreatDoorXAA
namespace Go.Proofs.YtcmajlianphoaaaGreatDoor
open Go.RowKit

set_option maxHeartbeats 400000 in
theorem write_no (a b : List UInt8) (w : World) (hq0 : fitB a b = false) :
    Calls Tryz.prog 32 #[cubeV a, cubeV b] w fun e w' => e = .returned (cubeV []) ∧ Below w.heap.size w w' := by
  have hq : Hid (fitB a b = false) := hq0
  clear hq0
  rw [cubeV_nil]
  unfold cubeV cv
  go_enter Tryz.func32, Tryz.ntmps32
  go_wp2_with (go_at_call 55; refine (fits_D a b false _ hq.out).mono ?_; rintro e w1 ⟨rfl, hb1⟩; obtain ⟨hc1, hf1⟩ := bcell hb1)
  have hk : w1.heap[w.heap.size + 2]? = some (.cells #[.int .i64 0, .int .u64 0, .int .u64 0, .int .u64 0, .int .u64 0, .int .u64 0, .int .u64 0, .int .u64 0, .int .u64 0] 42 (0, 0)) := by
    rw [hb1.block _ (by simp)]
    exact alloc_get2 _ _ _ _
  refine bodyPost_ret (v := cv 0 0 0 0 0 0 0 0 0) ?_ rfl ⟨rfl, ?_⟩
  · exact res_cube1 _ _ (w.heap.size + 2) _ _ _ _ _ _ _ _ _ Tryz.results32 rfl (put9_get _ _ _ _ _ _ _ _ _ hk)
  · exact put9_below _ _ _ _ _ _ _ _ _ (bel1 (bel1 (bel1 hb1))) (by omega)

theorem write_any (a b : List UInt8) (w : World) :
    Calls Tryz.prog 32 #[cubeV a, cubeV b] w fun e w' => e = .returned (cubeV (wtT a b)) ∧ Below w.heap.size w w' := by
  unfold wtT
  cases hq : fitB a b
  · exact write_no a b w hq
  · have hl := fitB_len hq
    refine (write_raw _ _ _ _ _ _ _ _ _ _ _ _ _ _ _ _ _ _ w (fun W => fits_D a b true W hq)).mono ?_
    rintro e w' ⟨rfl, hb⟩
    refine ⟨?_, hb⟩
    rw [FW_wr a b hl, FW_wr a b hl, FW_wr a b hl, FW_wr a b hl, OW_wr a b hl, OW_wr a b hl, OW_wr a b hl, OW_wr a b hl, if_pos rfl]
    have e : (wrT a b).length = a.length := zip_len _ a b hl
    unfold cubeV
    rw [e]
theorem write_D (a b M : List UInt8) (w : World) (hM : wtT a b = M) :
    Calls Tryz.prog 32 #[cubeV a, cubeV b] w fun e w' => e = .returned (cubeV M) ∧ Below w.heap.size w w' := by
  subst hM; exact write_any a b w

end Go.Proofs.YtcmajlianphoaaaGreatDoor
