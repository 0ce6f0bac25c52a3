import Derived.RangeFuncNested
import Derived.RangeFuncBound
import Derived.RangeFuncCalls
import Derived.RangeFuncLeaves
import Derived.RangeFuncBox
import Derived.Shelf.Abstract
import Derived.Shelf.RegionOpen
import Derived.WalkKit
import Derived.OwnWalkIn
import Derived.TacticsInMore
import Derived.LoopNIn
import Derived.LoopIn
import Derived.Maps.AppendAt
import Derived.Test.YtdgglglemdbgcaaW9
namespace Go.Proofs.Ytdgglglemdbgcaa
open Go.RowKit Go.Shelf

attribute [local go_sem] Oper.semAt_some

/-- the zero cube's cells -/
def zC : Obj := .cells #[.int .i64 0, .int .u64 0, .int .u64 0, .int .u64 0, .int .u64 0, .int .u64 0, .int .u64 0, .int .u64 0, .int .u64 0] 26

/-- Members boxes the cube and answers a closure over the box -/
theorem members_in (n a b c d e f g h : Int) (w : World) : Calls Try.prog 31 #[cv n a b c d e f g h] w fun r w' => r = .returned (.func (.func 35) #[] #[.pointer (some ⟨w.heap.size, 0, none⟩)]) ∧ w' = w.alloc (.cells #[.int .i64 n, .int .u64 a, .int .u64 b, .int .u64 c, .int .u64 d, .int .u64 e, .int .u64 f, .int .u64 g, .int .u64 h] 26) := by
  unfold cv
  go_enter Try.func31, Try.ntmps31
  go_wp2
  go_ret
  exact ⟨rfl, rfl⟩

theorem seq_nil (lb : Array Value) (w : World) : (binOp .eql 54 (.func (.func 35) #[] lb) .nilFunc).run Try.prog w = .ok (.bool false) w := by kernel_rfl

theorem alloc_get4 (w : World) (o1 o2 o3 o4 : Obj) : ((((w.alloc o1).alloc o2).alloc o3).alloc o4).heap[w.heap.size + 1 + 1 + 1]? = some o4 := by
  have := alloc_get (((w.alloc o1).alloc o2).alloc o3) o4
  simpa using this
theorem boxed_mid (w : World) (o1 o2 o4 : Obj) (t : TypeId) (v : Value) : Boxed ((((w.alloc o1).alloc o2).alloc (.cells #[v] t)).alloc o4) (w.heap.size + 1 + 1) t v := by
  have := (Boxed.new ((w.alloc o1).alloc o2) t v).alloc o4
  simpa using this
/-- the closure of the zero cube calls yield not once -/
theorem zero_calls (F : Fence) (n Bn l : Nat) (h6 : F.fn 35) (hro : F.round = none) (W : World) (hk0 : W.heap[Bn]? = some zC) :
    CallsIn F n Try.prog 35 #[.func (.yield l) #[] #[], .pointer (some ⟨Bn, 0, none⟩)] W fun e W' => (∃ v, e = .returned v) ∧ W' = W := by
  have hk := hk0
  unfold zC at hk
  have hcell := (cells_block hk).1
  refine callsIn_of_wp Try.func35 rfl h6 ?_ hro
  simp only [Try.ntmps35, List.size_toArray, List.length_cons, List.length_nil, Nat.reduceAdd, Nat.reduceSub, Array.replicate_succ, Array.replicate_zero, List.push_toArray, List.append_toArray, List.nil_append, List.cons_append]
  gi_wp2
  refine bodyPost_ret (results_none rfl _ _ _) rfl ?_
  exact ⟨⟨_, rfl⟩, rfl⟩
theorem zero_stops (F : Fence) (n Bn : Nat) (h6 : F.fn 35) (hro : F.round = none) (w : World) (hc : w.heap[Bn]? = some zC) :
    SeqStopsK F n Try.prog 35 #[.pointer (some ⟨Bn, 0, none⟩)] (fun x : ByteArray => #[Value.string x]) (Below 0) (fun ys => ys = []) (fun _ => False) 0 w := by
  intro l J Jx W hW _ _ _ h0
  have hk : W.heap[Bn]? = some zC := (hW.block Bn (lt_of_get hc)).trans hc
  refine (zero_calls F n Bn l h6 hro W hk).mono ?_
  rintro e W' ⟨hv, rfl⟩
  exact ⟨hv, .inl ⟨[], rfl, h0⟩⟩

set_option maxRecDepth 100000 in
set_option maxHeartbeats 1000000 in
theorem some_zero (w : World) : Calls Try.prog 19 #[cv 0 0 0 0 0 0 0 0 0, .int .i64 3] w fun e w' => e = .returned (.slice none 0 0) ∧ Below w.heap.size w w' := by
  refine (callsIn_wide (n := 4)).1 ?_
  unfold cv
  refine callsIn_of_wp_marks Try.func19 rfl trivial ?_ rfl
  simp only [Try.ntmps19, List.size_toArray, List.length_cons, List.length_nil, Nat.reduceAdd, Nat.reduceSub, Array.replicate_succ, Array.replicate_zero, List.push_toArray, List.append_toArray, List.nil_append, List.cons_append]
  have hn := seq_nil
  gi_wp2_with (refine ⟨trivial, ?_⟩; gi_at_call 31; refine (callsIn_wide.2 (members_in 0 0 0 0 0 0 0 0 0 _)).mono ?_; rintro e w' ⟨rfl, rfl⟩)
  refine wpIn_rangeFunc_ownG rfl (by omega) (gf := 35) (lb := #[.pointer (some ⟨w.heap.size + 1 + 1 + 1, 0, none⟩)]) rfl trivial (enters_of Try.func35 (by kernel_rfl) rfl)
    (zero_stops Fence.wide _ (w.heap.size + 1 + 1 + 1) trivial rfl _ ?hz) belowK_t (belowK_b (by omega)) (Below.refl _ _) (fun _ => rfl)
    (fun _ W => Boxed W (w.heap.size + 1 + 1) 41 (.slice none 0 0) ∧ Below w.heap.size w W)
    (fun _ _ _ => False)
    (OwnFrom.and (Own.from (boxed_own _ _ _) _) (ownFrom_below (Nat.le_refl _) (by simp; omega)))
    (fun _ _ _ _ _ hs _ _ => hs)
    ?h0
    ?a1 ?assign ?body ?done ?stop
  case assign =>
    intro l x W K hK
    gi_wp2
    exact hK
  case hz => exact alloc_get4 _ _ _ _ _
  case h0 => exact ⟨boxed_mid _ _ _ _ _ _, belA (belA (belA (belA (Below.refl _ _) _) _) _) _⟩
  case body =>
    rintro l pre x W _ hlt
    exact absurd hlt (by omega)
  case done =>
    rintro D ys W hD rfl ⟨hv, hB⟩ hK
    have hc := hv.cell
    gi_wp2
    refine ⟨by simp, .inl ⟨_, _, rfl, run_takeDeferred hK, ?_⟩⟩
    exact ⟨_, results_tmp rfl _ _ _, rfl, hB.trans (belowK_b (w := w) (Nat.le_refl _) W D _ _ (by simp at hD; omega) hK rfl rfl)⟩
  case stop =>
    rintro D c pre W _ _ h _
    exact h.elim
end Go.Proofs.Ytdgglglemdbgcaa
