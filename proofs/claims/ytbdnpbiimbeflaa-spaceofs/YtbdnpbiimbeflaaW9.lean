import Derived.Test.YtbdnpbiimbeflaaW5
import Derived.Test.YtbdnpbiimbeflaaM2
import Derived.RegionTactic
import Derived.LoopN
namespace Go.Proofs.Ytbdnpbiimbeflaa
open Go.RowKit

theorem alloc_get2 (w : World) (o1 o2 o3 : Obj) : (((w.alloc o1).alloc o2).alloc o3).heap[w.heap.size + 2]? = some o3 := by
  have := alloc_get ((w.alloc o1).alloc o2) o3
  simpa using this

set_option maxHeartbeats 400000 in
theorem fits_any (a b : List UInt8) (w : World) : Calls Try.prog 23 #[cubeV a, cubeV b] w fun e w' => e = .returned (.bool (fitB a b)) ∧ Below w.heap.size w w' := by
  have hfin : Hid (fitB a b = (((a.length : Int) != 0) && ((a.length : Int) == (b.length : Int)))) := by
    unfold Hid fitB
    cases a with
    | nil => simp
    | cons x l =>
      rw [Bool.eq_iff_iff]
      simp
      omega
  unfold cubeV cv
  cases h0 : ((a.length : Int) != 0)
  all_goals
    go_enter Try.func23, Try.ntmps23
    go_wp2
    go_ret
    refine ⟨?_, ((Below.refl _ _).alloc (Nat.le_refl _) _).alloc (by simp) _⟩
    rw [hfin.out, h0]
    rfl

theorem fits_D (a b : List UInt8) (q : Bool) (w : World) (h : fitB a b = q) : Calls Try.prog 23 #[cubeV a, cubeV b] w fun e w' => e = .returned (.bool q) ∧ Below w.heap.size w w' := by
  subst h; exact fits_any a b w

set_option maxHeartbeats 1000000 in
theorem agrees_walk (a b : List UInt8) (q q0 q1 q2 q3 : Bool) (w : World) (hq0 : fitB a b = q) (h0 : cw a b 0 = q0) (h1 : cw a b 1 = q1) (h2 : cw a b 2 = q2) (h3 : cw a b 3 = q3) :
    Calls Try.prog 53 #[cubeV a, cubeV b] w fun e w' => e = .returned (.bool (q && (!q0 && !q1 && !q2 && !q3))) ∧ Below w.heap.size w w' := by
  have hq : Hid (fitB a b = q) := hq0
  clear hq0
  unfold cw at h0 h1 h2 h3
  unfold cubeV cv
  cases q
  · go_enter Try.func53, Try.ntmps53
    go_wp2_with (go_at_call 23; refine (fits_D a b false _ hq.out).mono ?_; rintro e w1 ⟨rfl, hb1⟩)
    go_ret
    exact ⟨rfl, bel1 (bel1 hb1)⟩
  · go_enter Try.func53, Try.ntmps53
    go_wp2_with (go_at_call 23; refine (fits_D a b true _ hq.out).mono ?_; rintro e w1 ⟨rfl, hb1⟩; obtain ⟨hc1, hf1⟩ := bcell hb1)
    refine wp_loop_rounds 5 ?_
    rw [rounds_succ]
    go_wp2
    go_quiet (fail)
    cases q0
    rotate_left
    · go_wp2
      go_ret
      exact ⟨rfl, by first | exact (bel1 (bel1 hb1)).trans (below_drewN _ _ _) | exact ((bel1 (bel1 hb1)).trans (below_drewN _ _ _)).trans (below_drewN _ _ _)⟩
    go_wp2
    rw [rounds_succ]
    go_wp2
    go_quiet (fail)
    cases q1
    rotate_left
    · go_wp2
      go_ret
      exact ⟨rfl, by first | exact (bel1 (bel1 hb1)).trans (below_drewN _ _ _) | exact ((bel1 (bel1 hb1)).trans (below_drewN _ _ _)).trans (below_drewN _ _ _)⟩
    go_wp2
    rw [rounds_succ]
    go_wp2
    go_quiet (fail)
    cases q2
    rotate_left
    · go_wp2
      go_ret
      exact ⟨rfl, by first | exact (bel1 (bel1 hb1)).trans (below_drewN _ _ _) | exact ((bel1 (bel1 hb1)).trans (below_drewN _ _ _)).trans (below_drewN _ _ _)⟩
    go_wp2
    rw [rounds_succ]
    go_wp2
    go_quiet (fail)
    cases q3
    rotate_left
    · go_wp2
      go_ret
      exact ⟨rfl, by first | exact (bel1 (bel1 hb1)).trans (below_drewN _ _ _) | exact ((bel1 (bel1 hb1)).trans (below_drewN _ _ _)).trans (below_drewN _ _ _)⟩
    go_wp2
    rw [rounds_succ]
    go_wp2
    go_ret
    exact ⟨rfl, (bel1 (bel1 hb1)).trans (below_drewN _ _ _)⟩

theorem agrees_any (a b : List UInt8) (w : World) (ha : good a = true) : Calls Try.prog 53 #[cubeV a, cubeV b] w fun e w' => e = .returned (.bool (agB a b)) ∧ Below w.heap.size w w' := by
  refine (agrees_walk a b _ _ _ _ _ w rfl rfl rfl rfl rfl).mono ?_
  rintro e w' ⟨rfl, hb⟩
  exact ⟨by unfold agB; rw [ag_words a b ha], hb⟩

theorem agrees_D (a b : List UInt8) (q : Bool) (w : World) (ha : good a = true) (h : agB a b = q) : Calls Try.prog 53 #[cubeV a, cubeV b] w fun e w' => e = .returned (.bool q) ∧ Below w.heap.size w w' := by
  subst h; exact agrees_any a b w ha

set_option maxHeartbeats 400000 in
theorem meet_no (a b : List UInt8) (w : World) (ha : good a = true) (hq0 : agB a b = false) :
    Calls Try.prog 36 #[cubeV a, cubeV b] w fun e w' => e = .returned (.tuple #[cubeV [], .bool false]) ∧ Below w.heap.size w w' := by
  have hq : Hid (agB a b = false) := hq0
  clear hq0
  rw [cubeV_nil]
  unfold cubeV cv
  go_enter Try.func36, Try.ntmps36
  go_wp2_with (go_at_call 53; refine (agrees_D a b false _ ha hq.out).mono ?_; rintro e w1 ⟨rfl, hb1⟩; obtain ⟨hc1, hf1⟩ := bcell hb1)
  have hk : w1.heap[w.heap.size + 2]? = some (.cells #[.int .i64 0, .int .u64 0, .int .u64 0, .int .u64 0, .int .u64 0, .int .u64 0, .int .u64 0, .int .u64 0, .int .u64 0] 28 (0, 0)) := by
    rw [hb1.block _ (by simp)]
    exact alloc_get2 _ _ _ _
  refine bodyPost_ret (v := .tuple #[cv 0 0 0 0 0 0 0 0 0, .bool false]) ?_ rfl ⟨rfl, ?_⟩
  · exact res_cube2 _ _ (w.heap.size + 2) _ _ _ _ _ _ _ _ _ Try.results36 rfl (put9_get _ _ _ _ _ _ _ _ _ hk)
  · exact put9_below _ _ _ _ _ _ _ _ _ (bel1 (bel1 (bel1 hb1))) (by omega)
end Go.Proofs.Ytbdnpbiimbeflaa
