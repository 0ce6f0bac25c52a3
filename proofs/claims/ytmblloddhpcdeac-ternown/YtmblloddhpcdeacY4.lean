import Derived.Test.YtmblloddhpcdeacY1
import Derived.Test.YtmblloddhpcdeacY3
namespace Go.Proofs.Ytmblloddhpcdeac
open Go.RowKit Go.Shelf

attribute [local go_sem] Oper.semAt_some

set_option maxRecDepth 100000 in
set_option maxHeartbeats 1000000 in
/-- slices.Backward's closure: from the last to the first, J told by how many are left -/
theorem back_in (F : Fence) (n : Nat) (hf : F.fn 58) (hro : F.round = none) (hn : 1 ≤ n) (l Bs gF cF : Nat) (q : Option Addr) (fs : List Nat) (hfl : fs.length ≤ 256) (hq : ∀ j, j < fs.length → q = some ⟨gF, 0, none⟩) (J : Nat → World → Prop) (Jx : World → Prop)
    (hbox : ∀ j W, J j W → W.cell? ⟨Bs, 0, none⟩ = some (.slice q fs.length cF) ∧ ∀ i (h : i < fs.length), W.cell? ⟨gF, i, none⟩ = some (.int .i64 (fs[i] : Int)))
    (hY : ∀ j W (hj : j < fs.length), J (j + 1) W → YieldAt F (n - 1) Try.prog l #[.int .i64 (j : Int), .int .i64 (fs[j] : Int)] W fun e W' =>
      (e = .returned (.bool true) ∧ J j W') ∨ (e = .returned (.bool false) ∧ Jx W'))
    (W : World) (h0 : J fs.length W) :
    CallsIn F n Try.prog 58 #[.func (.yield l) #[] #[], .pointer (some ⟨Bs, 0, none⟩)] W fun e W' => (∃ v, e = .returned v) ∧ (J 0 W' ∨ Jx W') := by
  have hc0 := (hbox _ _ h0).1
  refine callsIn_of_wp Try.func58 rfl hf ?_ hro
  simp only [Try.ntmps58, List.size_toArray, List.length_cons, List.length_nil, Nat.reduceAdd, Nat.reduceSub, Array.replicate_succ, Array.replicate_zero, List.push_toArray, List.append_toArray, List.nil_append, List.cons_append]
  have hw0 : IntKind.i64.wrap ((fs.length : Int) - 1) = (fs.length : Int) - 1 := by rw [IntKind.wrap_i64]; omega
  gi_wp2
  gi_loopw [3] (fun i wr => ∃ j : Nat, j ≤ fs.length ∧ i = .int .i64 ((j : Int) - 1) ∧ J j wr) (fun i _ => (intOf i + 1).toNat)
  case atStart => exact ⟨fs.length, Nat.le_refl _, rfl, h0⟩
  case round =>
    obtain ⟨j, hj, rfl, hJ⟩ := hrel
    cases j with
    | zero =>
      have i1 : ¬ (0 : Int) ≤ ((0 : Nat) : Int) - 1 := by omega
      gi_wp2
      go_end0
      exact ⟨⟨_, rfl⟩, .inl hJ⟩
    | succ j =>
      have hlt : j < fs.length := by omega
      obtain ⟨fn, tmps, assign, body, hy, hR⟩ := hY j wr hlt hJ
      obtain ⟨hc, hi⟩ := hbox _ _ hJ
      have hci := hi j hlt
      obtain rfl := hq j hlt
      have e1 : (((j + 1 : Nat) : Int) - 1) = (j : Int) := by omega
      have i0 : (0 : Int) ≤ (j : Int) := by omega
      have i1 : (j : Int) < (fs.length : Int) := by omega
      rw [e1]
      gi_wp2
      refine hR.mono ?_
      rintro e W3 (⟨rfl, hJ3⟩ | ⟨rfl, hJx3⟩)
      · have hw1 : IntKind.i64.wrap ((j : Int) - 1) = (j : Int) - 1 := by rw [IntKind.wrap_i64]; omega
        gi_wp2
        go_roundw
        case rel => exact ⟨j, by omega, rfl, hJ3⟩
        case measure => simp [intOf]
      · gi_wp2
        refine bodyPost_ret (results_none rfl _ _ _) rfl ?_
        exact ⟨⟨_, rfl⟩, .inr hJx3⟩

theorem backward_in (q : Option Addr) (k c : Nat) (w : World) : Calls Try.prog 55 #[.slice q k c] w fun r w' => r = .returned (.func (.func 58) #[] #[.pointer (some ⟨w.heap.size, 0, none⟩)]) ∧ w' = w.alloc (.cells #[.slice q k c] 78) := by
  go_enter Try.func55, Try.ntmps55
  go_wp2
  go_ret
  exact ⟨rfl, rfl⟩
end Go.Proofs.Ytmblloddhpcdeac
