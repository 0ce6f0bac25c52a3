import Derived.Test.YtccbfaembcefjaaGreatDoorXE1
import Derived.Defers
import Derived.Recover
import Derived.Laws.Pointers
namespace Go.Proofs.YtccbfaembcefjaaGreatDoor
open Go.RowKit Go.Shelf
set_option maxRecDepth 100000 in
theorem eq_overE (w : World) : (binOp BinOp.eql 20 (.iface 103 (.agg #[])) (.iface 103 (.agg #[]))).run Tryz.prog w = .ok (.bool true) w := by
  first | rfl | kernel_rfl | simp [go_sem]
set_option maxRecDepth 100000 in
theorem caughtC (b : Nat) (x : Int) (older : List PanicEntry) (w : World) (hc : w.cell? ⟨b, 0, none⟩ = some (.int .i64 x)) (hz : w.frozen? ⟨b, 0, none⟩ = false) :
    CallsD Tryz.prog 53 #[.pointer (some ⟨b, 0, none⟩)] (.panicking ({ v := .iface 103 (.agg #[]), recovered := false } :: older)) w fun e u' w' =>
      e = .returned (.tuple #[]) ∧ u' = .panicking ({ v := .iface 103 (.agg #[]), recovered := true } :: older) ∧ w' = w.setCell ⟨b, 0, none⟩ (.int .i64 3) := by
  refine callsD_of_wpS Tryz.func53 rfl fun c₀ cs hu => ?_
  apply wpS_seq
  apply wpS_region
  simp [wpOpsS, go_sem, recoverD, hu, Tryz.ntmps53, Exit.thenS]
  refine wpS_of_wp ?_
  have hE := eq_overE
  go_wp2_with fail
  simp [bodyPostS, results, Tryz.results53]
theorem idleC (b : Nat) (w : World) :
    CallsD Tryz.prog 53 #[.pointer (some ⟨b, 0, none⟩)] .returning w fun e u' w' => e = .returned (.tuple #[]) ∧ u' = .returning ∧ w' = w := by
  refine callsD_of_wpS Tryz.func53 rfl fun c₀ cs hu => ?_
  apply wpS_seq
  apply wpS_region
  simp [wpOpsS, go_sem, recoverD, hu, Tryz.ntmps53, Exit.thenS]
  refine wpS_of_wp ?_
  go_wp2_with fail
  cases c₀
  simp_all [bodyPostS, results, Tryz.results53]
set_option maxRecDepth 100000 in
set_option maxHeartbeats 4000000 in
theorem giveC (R : List (List UInt8)) (ok : Bool) (c1 c2 : Nat) (w : World) (HO : ∀ W, Below w.heap.size w W → Calls Tryz.prog 25 #[.pointer (some ⟨c1, 0, none⟩), .pointer (some ⟨c2, 0, none⟩)] W fun e w' => Below W.heap.size W w' ∧ ((ok = true ∧ ∃ v, e = .returned v ∧ w'.ownsRow W.heap.size 50 9 v R.length (ces R)) ∨ (ok = false ∧ e = .panicked [{ v := .iface 103 (.agg #[]), recovered := false }]))) :
    Calls Tryz.prog 24 #[.func (.func 25) #[] #[.pointer (some ⟨c1, 0, none⟩), .pointer (some ⟨c2, 0, none⟩)]] w fun e w' => ∃ v, e = .returned (.tuple #[v, .int .i64 (if ok = true then 0 else 3)]) ∧ w'.ownsRow w.heap.size 50 9 v (if ok = true then R else []).length (ces (if ok = true then R else [])) ∧ Below w.heap.size w w' := by
  have hmf : ∀ (fn : Fn) (first cap : Array Value) (w : World), (Instr.makeFunc fn first cap).run Tryz.prog w = .ok (.func fn first cap) w := fun _ _ _ _ => rfl
  obtain ⟨w2, hw2⟩ : ∃ w2, w.alloc (.cells #[.int .i64 0] 31 (0, 0)) = w2 := ⟨_, rfl⟩
  have hE : w2.heap[w.heap.size]? = some (.cells #[.int .i64 0] 31 (0, 0)) := by rw [← hw2]; exact alloc_get _ _
  have hB2 : Below w.heap.size w w2 := by rw [← hw2]; exact belA (Below.refl _ _) _
  have HO2 := HO w2 hB2
  have HA : Hid (w2.heap[w.heap.size]? = some (.cells #[.int .i64 0] 31 (0, 0)) ∧ Below w.heap.size w w2) := ⟨hE, hB2⟩
  clear hE hB2 HO
  cases ok with
  | true =>
    have HO3 : Hid (Calls Tryz.prog 25 #[.pointer (some ⟨c1, 0, none⟩), .pointer (some ⟨c2, 0, none⟩)] w2 fun e w' => ∃ v, e = .returned v ∧ w'.ownsRow w2.heap.size 50 9 v R.length (ces R) ∧ Below w2.heap.size w2 w') := by
      refine HO2.mono ?_
      rintro e w' ⟨h1, ⟨-, v, rfl, h2⟩ | ⟨h2, -⟩⟩
      · exact ⟨v, rfl, h2, h1⟩
      · cases h2
    clear HO2
    simp only [if_true]
    go_enter_defers Tryz.func24, Tryz.ntmps24
    go_wp2_with fail
    refine HO3.out.mono ?_
    rintro e W1 ⟨v, rfl, o8, hb1⟩
    obtain ⟨p8, c8, rfl⟩ := shapeQ1 o8
    clear HO3 hw2
    obtain ⟨hcE, hfE⟩ := cells_block (keepblk3 hb1 HA.out.1)
    go_wp2_with fail
    obtain ⟨X, hX⟩ : ∃ X, W1.setCell ⟨w.heap.size, 0, none⟩ (.int .i64 0) = X := ⟨_, rfl⟩
    have hXE : X.heap[w.heap.size]? = some (.cells #[.int .i64 0] 31 (0, 0)) := by
      rw [← hX]
      exact set_oneE _ (keepblk3 hb1 HA.out.1)
    have hXB : Below w.heap.size w X := by
      rw [← hX]
      exact (bel0 HA.out.2 hb1).setCell (Nat.le_refl _) _
    have l2 := lt_of_get3 HA.out.1
    have hXO : X.ownsRow w.heap.size 50 9 (.slice p8 R.length c8) R.length (ces R) := by
      rw [← hX]
      exact own_base (o8.kept (set_grE _ w.heap.size 0 _) (.inr (fun e => by have := (o8.lt _ e).1; omega))) (by omega)
    have HXX : Hid (X.ownsRow w.heap.size 50 9 (.slice p8 R.length c8) R.length (ces R) ∧ Below w.heap.size w X) := ⟨hXO, hXB⟩
    rw [hX]
    clear o8 hcE hfE hX hXO hXB
    refine leaves_cons (f := 53) (args := #[.pointer (some ⟨w.heap.size, 0, none⟩)]) (by simp) (by simp [go_sem]) ?_
    refine (idleC w.heap.size _).mono ?_
    rintro e u' w'' ⟨rfl, rfl, rfl⟩
    have cE := (cells_block hXE).1
    simp [Leaves, settle, results, Tryz.results24, go_sem, cE]
    exact HXX.out
  | false =>
    have HO3 : Hid (Calls Tryz.prog 25 #[.pointer (some ⟨c1, 0, none⟩), .pointer (some ⟨c2, 0, none⟩)] w2 fun e w' => e = .panicked [{ v := .iface 103 (.agg #[]), recovered := false }] ∧ Below w2.heap.size w2 w') := by
      refine HO2.mono ?_
      rintro e w' ⟨h1, ⟨h2, -⟩ | ⟨-, rfl⟩⟩
      · cases h2
      · exact ⟨rfl, h1⟩
    clear HO2
    simp only [Bool.false_eq_true, if_false]
    go_enter_defers Tryz.func24, Tryz.ntmps24
    go_wp2_with fail
    refine HO3.out.mono ?_
    rintro e W1 ⟨rfl, hb1⟩
    clear HO3 hw2
    have hEE := keepblk3 hb1 HA.out.1
    obtain ⟨hcE, hfE⟩ := cells_block hEE
    refine leaves_cons (f := 53) (args := #[.pointer (some ⟨w.heap.size, 0, none⟩)]) (by simp) (by simp [go_sem]) ?_
    refine (caughtC w.heap.size 0 [] W1 (hcE 0) (hfE 0)).mono ?_
    rintro e u' w'' ⟨rfl, rfl, rfl⟩
    have hX0 : (W1.setCell ⟨w.heap.size, 0, none⟩ (.int .i64 3)).heap[w.heap.size]? = some (.cells #[.int .i64 3] 31 (0, 0)) := set_oneE _ hEE
    have hXB : Below w.heap.size w (W1.setCell ⟨w.heap.size, 0, none⟩ (.int .i64 3)) := (bel0 HA.out.2 hb1).setCell (Nat.le_refl _) _
    have cE := (cells_block hX0).1
    have HXX : Hid ((W1.setCell ⟨w.heap.size, 0, none⟩ (.int .i64 3)).ownsRow w.heap.size 50 9 (.slice none 0 0) 0 [] ∧ Below w.heap.size w (W1.setCell ⟨w.heap.size, 0, none⟩ (.int .i64 3))) := ⟨World.ownsRow_nil _ _ _ _, hXB⟩
    clear hcE hfE hXB
    simp [Leaves, settle, results, Tryz.results24, go_sem, cE]
    exact HXX.out
def rfE (b lim : Int) : Int := if b = 0 then 11 else if lim < 0 ∨ 2048 < lim then 1 else 0
set_option maxRecDepth 100000 in
theorem refusal_any (b lim : Int) (p : Option Addr) (n cp : Nat) (w : World) : Calls Tryz.prog 23 #[.agg #[.int .i64 b, .slice p n cp, .bool false], .int .i64 lim] w fun e w' => e = .returned (.int .i64 (rfE b lim)) ∧ Below w.heap.size w w' := by
  obtain ⟨w2, hw2⟩ : ∃ w2, w.alloc (.cells #[.int .i64 b, .slice p n cp, .bool false] 24 (0, 0)) = w2 := ⟨_, rfl⟩
  have h0 : w2.heap[w.heap.size]? = some (.cells #[.int .i64 b, .slice p n cp, .bool false] 24 (0, 0)) := by rw [← hw2]; exact alloc_get _ _
  have hB : Below w.heap.size w w2 := by rw [← hw2]; exact belA (Below.refl _ _) _
  obtain ⟨hc, -⟩ := cells_block h0
  have HB : Hid (Below w.heap.size w w2) := hB
  clear h0 hB
  by_cases hb : b = 0
  · have HE : Hid (rfE b lim = 11) := by unfold Hid rfE; rw [if_pos hb]
    subst hb
    go_enter Tryz.func23, Tryz.ntmps23
    go_wp2_with fail
    go_ret
    rw [HE.out]
    exact ⟨rfl, HB.out⟩
  have e0 : (b == 0) = false := by simpa using hb
  by_cases hl0 : lim < 0
  · have HE : Hid (rfE b lim = 1) := by unfold Hid rfE; rw [if_neg hb, if_pos (.inl hl0)]
    clear hb
    go_enter Tryz.func23, Tryz.ntmps23
    go_wp2_with fail
    go_ret
    rw [HE.out]
    exact ⟨rfl, HB.out⟩
  by_cases hl1 : lim > 2048
  · have HE : Hid (rfE b lim = 1) := by unfold Hid rfE; rw [if_neg hb, if_pos (.inr hl1)]
    clear hb
    go_enter Tryz.func23, Tryz.ntmps23
    go_wp2_with fail
    go_ret
    rw [HE.out]
    exact ⟨rfl, HB.out⟩
  · have HE : Hid (rfE b lim = 0) := by unfold Hid rfE; rw [if_neg hb, if_neg (by omega)]
    clear hb
    go_enter Tryz.func23, Tryz.ntmps23
    go_wp2_with fail
    go_ret
    rw [HE.out]
    exact ⟨rfl, HB.out⟩
end Go.Proofs.YtccbfaembcefjaaGreatDoor
