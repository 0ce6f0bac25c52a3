import Derived.Test.YtdgglglemdbgcaaW11
import Derived.Test.YtdgglglemdbgcaaW12
import Derived.Test.YtdgglglemdbgcaaM3
namespace Go.Proofs.Ytdgglglemdbgcaa
open Go.RowKit

set_option maxHeartbeats 400000 in
theorem write_no (a b : List UInt8) (w : World) (hq0 : fitB a b = false) :
    Calls Try.prog 16 #[cubeV a, cubeV b] w fun e w' => e = .returned (cubeV []) ∧ Below w.heap.size w w' := by
  have hq : Hid (fitB a b = false) := hq0
  clear hq0
  rw [cubeV_nil]
  unfold cubeV cv
  go_enter Try.func16, Try.ntmps16
  go_wp2_with (go_at_call 30; refine (fits_D a b false _ hq.out).mono ?_; rintro e w1 ⟨rfl, hb1⟩; obtain ⟨hc1, hf1⟩ := bcell hb1)
  have hk : w1.heap[w.heap.size + 2]? = some (.cells #[.int .i64 0, .int .u64 0, .int .u64 0, .int .u64 0, .int .u64 0, .int .u64 0, .int .u64 0, .int .u64 0, .int .u64 0] 26 (0, 0)) := by
    rw [hb1.block _ (by simp)]
    exact alloc_get2 _ _ _ _
  refine bodyPost_ret (v := cv 0 0 0 0 0 0 0 0 0) ?_ rfl ⟨rfl, ?_⟩
  · exact res_cube1 _ _ (w.heap.size + 2) _ _ _ _ _ _ _ _ _ Try.results16 rfl (put9_get _ _ _ _ _ _ _ _ _ hk)
  · exact put9_below _ _ _ _ _ _ _ _ _ (bel1 (bel1 (bel1 hb1))) (by omega)

set_option maxHeartbeats 400000 in
theorem before_no (a b : List UInt8) (w : World) (ha : good a = true) (hq0 : agB a b = false) :
    Calls Try.prog 15 #[cubeV a, cubeV b] w fun e w' => e = .returned (.tuple #[cubeV [], .bool false]) ∧ Below w.heap.size w w' := by
  have hq : Hid (agB a b = false) := hq0
  clear hq0
  rw [cubeV_nil]
  unfold cubeV cv
  go_enter Try.func15, Try.ntmps15
  go_wp2_with (go_at_call 26; refine (agrees_D a b false _ ha hq.out).mono ?_; rintro e w1 ⟨rfl, hb1⟩; obtain ⟨hc1, hf1⟩ := bcell hb1)
  have hk : w1.heap[w.heap.size + 2]? = some (.cells #[.int .i64 0, .int .u64 0, .int .u64 0, .int .u64 0, .int .u64 0, .int .u64 0, .int .u64 0, .int .u64 0, .int .u64 0] 26 (0, 0)) := by
    rw [hb1.block _ (by simp)]
    exact alloc_get2 _ _ _ _
  refine bodyPost_ret (v := .tuple #[cv 0 0 0 0 0 0 0 0 0, .bool false]) ?_ rfl ⟨rfl, ?_⟩
  · exact res_cube2 _ _ (w.heap.size + 2) _ _ _ _ _ _ _ _ _ Try.results15 rfl (put9_get _ _ _ _ _ _ _ _ _ hk)
  · exact put9_below _ _ _ _ _ _ _ _ _ (bel1 (bel1 (bel1 hb1))) (by omega)

theorem write_any (a b : List UInt8) (w : World) :
    Calls Try.prog 16 #[cubeV a, cubeV b] w fun e w' => e = .returned (cubeV (wtT a b)) ∧ Below w.heap.size w w' := by
  unfold wtT
  cases hq : fitB a b
  · exact write_no a b w hq
  · have hl := fitB_len hq
    refine (write_raw _ _ _ _ _ _ _ _ _ _ _ _ _ _ _ _ _ _ w (fun W => fits_D a b true W hq)).mono ?_
    rintro e w' ⟨rfl, hb⟩
    refine ⟨?_, hb⟩
    rw [FW_wr a b hl, FW_wr a b hl, FW_wr a b hl, FW_wr a b hl, OW_wr a b hl, OW_wr a b hl, OW_wr a b hl, OW_wr a b hl, if_pos rfl]
    have e : (wrT a b).length = a.length := zip_len _ a b hl
    unfold cubeV
    rw [e]
theorem write_D (a b M : List UInt8) (w : World) (hM : wtT a b = M) :
    Calls Try.prog 16 #[cubeV a, cubeV b] w fun e w' => e = .returned (cubeV M) ∧ Below w.heap.size w w' := by
  subst hM; exact write_any a b w

theorem before_any (a b : List UInt8) (w : World) (ha : good a = true) :
    Calls Try.prog 15 #[cubeV a, cubeV b] w fun e w' => e = .returned (.tuple #[cubeV (beT a b), .bool (agB a b)]) ∧ Below w.heap.size w w' := by
  unfold beT
  cases hq : agB a b
  · exact before_no a b w ha hq
  · have hl := fitB_len (agB_fit hq)
    refine (before_raw _ _ _ _ _ _ _ _ _ _ _ _ _ _ _ _ _ _ w (fun W => agrees_D a b true W ha hq)).mono ?_
    rintro e w' ⟨rfl, hb⟩
    refine ⟨?_, hb⟩
    rw [FW_bf a b hl, FW_bf a b hl, FW_bf a b hl, FW_bf a b hl, OW_bf a b hl, OW_bf a b hl, OW_bf a b hl, OW_bf a b hl, if_pos rfl]
    have e : (bfT a b).length = a.length := zip_len _ a b hl
    unfold cubeV
    rw [e]
theorem before_D (a b M : List UInt8) (q : Bool) (w : World) (ha : good a = true) (hM : beT a b = M) (hq : agB a b = q) :
    Calls Try.prog 15 #[cubeV a, cubeV b] w fun e w' => e = .returned (.tuple #[cubeV M, .bool q]) ∧ Below w.heap.size w w' := by
  subst hM hq; exact before_any a b w ha
end Go.Proofs.Ytdgglglemdbgcaa
