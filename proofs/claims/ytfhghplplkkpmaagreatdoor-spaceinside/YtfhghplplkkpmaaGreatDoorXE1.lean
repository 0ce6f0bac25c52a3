import Derived.Test.YtfhghplplkkpmaaGreatDoorXAV
import Derived.Test.YtfhghplplkkpmaaGreatDoorXBF
import Derived.Test.YtfhghplplkkpmaaGreatDoorXAN
import Derived.Test.YtfhghplplkkpmaaGreatDoorXAT
import Derived.Test.YtfhghplplkkpmaaGreatDoorXAC
import Derived.BigQuiet
namespace Go.Proofs.YtfhghplplkkpmaaGreatDoor
open Go.RowKit Go.Shelf
theorem res_sG {fn : Func} {p u : Tmp} {m : Nat × Nat} (tmps : Array Value) (W : World) (b : Nat) (v0 v1 v2 : Value) (hr : fn.results = #[.cell p 26, .tmp u]) (hp : tmps.getD p undef = .pointer (some ⟨b, 0, none⟩)) (h : W.heap[b]? = some (.cells #[v0, v1, v2] 26 m)) :
    (results fn tmps).run Tryz.prog W = .ok (.tuple #[.agg #[v0, v1, v2], tmps.getD u undef]) W := by
  have hc : ∀ j, W.cell? ⟨b, j, none⟩ = (#[v0, v1, v2] : Array Value)[j]? := by
    intro j; unfold World.cell?; rw [h]; simp
  rw [results_cell_tmp hr, hp]
  simp [go_sem, hc]
theorem gr3G (X : World) (b : Nat) (u0 u1 u2 : Value) : X.grownBy (((X.setCell ⟨b, 0, none⟩ u0).setCell ⟨b, 1, none⟩ u1).setCell ⟨b, 2, none⟩ u2) (some b) := ⟨rfl, rfl, rfl, by simp, fun j _ hj => by
  rw [heap_setCell_other _ _ _ _ (fun e => hj (by rw [e])), heap_setCell_other _ _ _ _ (fun e => hj (by rw [e])), heap_setCell_other _ _ _ _ (fun e => hj (by rw [e]))]⟩
theorem far3G {W : World} {a b : Nat} {x : Option Value} {i : Nat} (v0 v1 v2 : Value) (hne : a ≠ b) (h : W.cell? ⟨a, i, none⟩ = x) : (((W.setCell ⟨b, 0, none⟩ v0).setCell ⟨b, 1, none⟩ v1).setCell ⟨b, 2, none⟩ v2).cell? ⟨a, i, none⟩ = x := by
  have ne2 : ∀ k : Nat, (⟨b, k, none⟩ : Addr) ≠ ⟨a, i, none⟩ := fun k e => hne (by injection e with e; exact e.symm)
  iterate 3 rw [World.cell?_setCell_other _ _ _ _ (ne2 _)]
  exact h
/-- what Of's closure holds -/
def OQ (W : World) (bc bl : Nat) (c : List UInt8) (q : Option Addr) (m k : Nat) : Prop := W.heap[bc]? = some (.cells #[.int .i64 (c.length : Int), .int .u64 (FW c 0 : Int), .int .u64 (FW c 1 : Int), .int .u64 (FW c 2 : Int), .int .u64 (FW c 3 : Int), .int .u64 (OW c 0 : Int), .int .u64 (OW c 1 : Int), .int .u64 (OW c 2 : Int), .int .u64 (OW c 3 : Int)] 40 (0, 0)) ∧ W.heap[bl]? = some (.cells #[.slice q m k] 53 (0, 0))
set_option maxRecDepth 100000 in
theorem widthG (c : List UInt8) (w : World) (gc : good c = true) : Calls Tryz.prog 28 #[.agg #[.int .i64 (c.length : Int), .int .u64 (FW c 0 : Int), .int .u64 (FW c 1 : Int), .int .u64 (FW c 2 : Int), .int .u64 (FW c 3 : Int), .int .u64 (OW c 0 : Int), .int .u64 (OW c 1 : Int), .int .u64 (OW c 2 : Int), .int .u64 (OW c 3 : Int)]] w fun e w' => e = .returned (.int .i64 (c.length : Int)) ∧ Below w.heap.size w w' := by
  obtain ⟨w2, hw2⟩ : ∃ w2, w.alloc (.cells #[.int .i64 (c.length : Int), .int .u64 (FW c 0 : Int), .int .u64 (FW c 1 : Int), .int .u64 (FW c 2 : Int), .int .u64 (FW c 3 : Int), .int .u64 (OW c 0 : Int), .int .u64 (OW c 1 : Int), .int .u64 (OW c 2 : Int), .int .u64 (OW c 3 : Int)] 40 (0, 0)) = w2 := ⟨_, rfl⟩
  have hA : w2.heap[w.heap.size]? = some (.cells #[.int .i64 (c.length : Int), .int .u64 (FW c 0 : Int), .int .u64 (FW c 1 : Int), .int .u64 (FW c 2 : Int), .int .u64 (FW c 3 : Int), .int .u64 (OW c 0 : Int), .int .u64 (OW c 1 : Int), .int .u64 (OW c 2 : Int), .int .u64 (OW c 3 : Int)] 40 (0, 0)) := by rw [← hw2]; exact alloc_get _ _
  have hB2 : Below w.heap.size w w2 := by rw [← hw2]; exact belA (Below.refl _ _) _
  obtain ⟨hcT, -⟩ := cells_block hA
  have hl : c.length ≤ 256 := by
    have := gc
    unfold good at this
    simp at this
    exact this.1
  have H1 : Calls Tryz.prog 37 #[.agg #[.int .i64 (c.length : Int), .int .u64 (FW c 0 : Int), .int .u64 (FW c 1 : Int), .int .u64 (FW c 2 : Int), .int .u64 (FW c 3 : Int), .int .u64 (OW c 0 : Int), .int .u64 (OW c 1 : Int), .int .u64 (OW c 2 : Int), .int .u64 (OW c 3 : Int)]] w2 fun e w' => e = .returned (.string ⟨c.toArray⟩) ∧ Below w2.heap.size w2 w' := text_any c w2 gc
  have h2 : (⟨c.toArray⟩ : ByteArray).size = c.length := by simp [ByteArray.size]
  clear hA
  go_enter Tryz.func28, Tryz.ntmps28
  go_wp2_with fail
  refine H1.mono ?_
  rintro e W1 ⟨rfl, hb1⟩
  go_wp2_with fail
  go_ret
  exact ⟨by simp, bel0 hB2 hb1⟩
set_option maxRecDepth 100000 in
set_option maxHeartbeats 4000000 in
theorem giveO (b : Int) (Ts : List (List UInt8 × List (List UInt8))) (ok : Bool) (c1 c2 : Nat) (w : World) (HO : ∀ W, Below w.heap.size w W → Calls Tryz.prog 27 #[.pointer (some ⟨c1, 0, none⟩), .pointer (some ⟨c2, 0, none⟩)] W fun e w' => Below W.heap.size W w' ∧ ((ok = true ∧ ∃ V, e = .returned (.agg #[.int .i64 b, V, .bool false]) ∧ SPL w' W.heap.size V Ts) ∨ (ok = false ∧ e = .panicked [{ v := .iface 89 (.agg #[]), recovered := false }]))) :
    Calls Tryz.prog 26 #[.func (.func 27) #[] #[.pointer (some ⟨c1, 0, none⟩), .pointer (some ⟨c2, 0, none⟩)]] w fun e w' => ∃ V, e = .returned (.tuple #[.agg #[.int .i64 (if ok = true then b else 0), V, .bool false], .int .i64 (if ok = true then 0 else 3)]) ∧ SPL w' w.heap.size V (if ok = true then Ts else []) ∧ Below w.heap.size w w' := by
  have hmf : ∀ (fn : Fn) (first cap : Array Value) (w : World), (Instr.makeFunc fn first cap).run Tryz.prog w = .ok (.func fn first cap) w := fun _ _ _ _ => rfl
  obtain ⟨w2, hw2⟩ : ∃ w2, (w.alloc (.cells #[.int .i64 0, .slice none 0 0, .bool false] 26 (0, 0))).alloc (.cells #[.int .i64 0] 27 (0, 0)) = w2 := ⟨_, rfl⟩
  have hA : w2.heap[w.heap.size]? = some (.cells #[.int .i64 0, .slice none 0 0, .bool false] 26 (0, 0)) := by rw [← hw2]; exact alw_0 _ _ _
  have hE : w2.heap[w.heap.size + 1]? = some (.cells #[.int .i64 0] 27 (0, 0)) := by rw [← hw2]; exact alw_1 _ _ _
  have hB2 : Below w.heap.size w w2 := by rw [← hw2]; exact belA (belA (Below.refl _ _) _) _
  have HO2 := HO w2 hB2
  have HA : Hid (w2.heap[w.heap.size]? = some (.cells #[.int .i64 0, .slice none 0 0, .bool false] 26 (0, 0)) ∧ w2.heap[w.heap.size + 1]? = some (.cells #[.int .i64 0] 27 (0, 0)) ∧ Below w.heap.size w w2) := ⟨hA, hE, hB2⟩
  clear hA hE hB2 HO
  cases ok with
  | true =>
    have HO3 : Hid (Calls Tryz.prog 27 #[.pointer (some ⟨c1, 0, none⟩), .pointer (some ⟨c2, 0, none⟩)] w2 fun e w' => ∃ V, e = .returned (.agg #[.int .i64 b, V, .bool false]) ∧ SPL w' w2.heap.size V Ts ∧ Below w2.heap.size w2 w') := by
      refine HO2.mono ?_
      rintro e w' ⟨h1, ⟨-, V, rfl, h2⟩ | ⟨h2, -⟩⟩
      · exact ⟨V, rfl, h2, h1⟩
      · cases h2
    clear HO2
    simp only [if_true]
    go_enter_defers Tryz.func26, Tryz.ntmps26
    go_wp2_with fail
    refine HO3.out.mono ?_
    rintro e W1 ⟨V, rfl, o8, hb1⟩
    obtain ⟨p8, c8, rfl⟩ := o8.shape
    clear HO3 hw2
    obtain ⟨hcA, hfA⟩ := cells_block (keepblk3 hb1 HA.out.1)
    obtain ⟨hcE, hfE⟩ := cells_block (keepblk3 hb1 HA.out.2.1)
    go_wp2_with fail
    obtain ⟨X, hX⟩ : ∃ X, (((W1.setCell ⟨w.heap.size, 0, none⟩ (.int .i64 b)).setCell ⟨w.heap.size, 1, none⟩ (.slice p8 Ts.length c8)).setCell ⟨w.heap.size, 2, none⟩ (.bool false)).setCell ⟨w.heap.size + 1, 0, none⟩ (.int .i64 0) = X := ⟨_, rfl⟩
    have hXA : X.heap[w.heap.size]? = some (.cells #[.int .i64 b, .slice p8 Ts.length c8, .bool false] 26 (0, 0)) := by
      rw [← hX, heap_setCell_other _ ⟨w.heap.size + 1, 0, none⟩ _ _ (by simp)]
      exact put3_get _ _ _ (keepblk3 hb1 HA.out.1)
    have hXE : X.heap[w.heap.size + 1]? = some (.cells #[.int .i64 0] 27 (0, 0)) := by
      have h0 : (((W1.setCell ⟨w.heap.size, 0, none⟩ (.int .i64 b)).setCell ⟨w.heap.size, 1, none⟩ (.slice p8 Ts.length c8)).setCell ⟨w.heap.size, 2, none⟩ (.bool false)).heap[w.heap.size + 1]? = some (.cells #[.int .i64 0] 27 (0, 0)) := by
        rw [far3h _ _ _ (by omega)]
        exact keepblk3 hb1 HA.out.2.1
      have h1 := set_get (j := 0) (.int .i64 0) h0
      rw [← hX, h1]
      simp
    have hXB : Below w.heap.size w X := by
      rw [← hX]
      exact ((((bel0 HA.out.2.2 hb1).setCell (Nat.le_refl _) _).setCell (Nat.le_refl _) _).setCell (Nat.le_refl _) _).setCell (Nat.le_succ _) _
    have hXO : SPL X w.heap.size (.slice p8 Ts.length c8) Ts := by
      have l2 := lt_of_get3 HA.out.2.1
      rw [← hX]
      exact ((o8.kept (gr3 _ _ _ _ _) (by omega)).kept (set_grS _ (w.heap.size + 1) 0 _) l2).base (by omega)
    have HXX : Hid (SPL X w.heap.size (.slice p8 Ts.length c8) Ts ∧ Below w.heap.size w X) := ⟨hXO, hXB⟩
    rw [hX]
    clear o8 hcA hfA hcE hfE hX hXO hXB
    refine leaves_cons (f := 48) (args := #[.pointer (some ⟨w.heap.size + 1, 0, none⟩)]) (by simp) (by simp [go_sem]) ?_
    refine (idle (w.heap.size + 1) _).mono ?_
    rintro e u' w'' ⟨rfl, rfl, rfl⟩
    have cA := (cells_block hXA).1
    have cE := (cells_block hXE).1
    simp [Leaves, settle, results, Tryz.results26, go_sem, cA, cE]
    exact HXX.out
  | false =>
    have HO3 : Hid (Calls Tryz.prog 27 #[.pointer (some ⟨c1, 0, none⟩), .pointer (some ⟨c2, 0, none⟩)] w2 fun e w' => e = .panicked [{ v := .iface 89 (.agg #[]), recovered := false }] ∧ Below w2.heap.size w2 w') := by
      refine HO2.mono ?_
      rintro e w' ⟨h1, ⟨h2, -⟩ | ⟨-, rfl⟩⟩
      · cases h2
      · exact ⟨rfl, h1⟩
    clear HO2
    simp only [Bool.false_eq_true, if_false]
    go_enter_defers Tryz.func26, Tryz.ntmps26
    go_wp2_with fail
    refine HO3.out.mono ?_
    rintro e W1 ⟨rfl, hb1⟩
    clear HO3 hw2
    have hEE := keepblk3 hb1 HA.out.2.1
    have hAA := keepblk3 hb1 HA.out.1
    obtain ⟨hcE, hfE⟩ := cells_block hEE
    refine leaves_cons (f := 48) (args := #[.pointer (some ⟨w.heap.size + 1, 0, none⟩)]) (by simp) (by simp [go_sem]) ?_
    refine (caught (w.heap.size + 1) 0 [] W1 (hcE 0) (hfE 0)).mono ?_
    rintro e u' w'' ⟨rfl, rfl, rfl⟩
    have hX0 : (W1.setCell ⟨w.heap.size + 1, 0, none⟩ (.int .i64 3)).heap[w.heap.size + 1]? = some (.cells #[.int .i64 3] 27 (0, 0)) := by
      have h1 := set_get (j := 0) (.int .i64 3) hEE
      rw [h1]
      simp
    have hX1 : (W1.setCell ⟨w.heap.size + 1, 0, none⟩ (.int .i64 3)).heap[w.heap.size]? = some (.cells #[.int .i64 0, .slice none 0 0, .bool false] 26 (0, 0)) := by
      rw [heap_setCell_other _ ⟨w.heap.size + 1, 0, none⟩ _ _ (by simp)]
      exact hAA
    have hXB : Below w.heap.size w (W1.setCell ⟨w.heap.size + 1, 0, none⟩ (.int .i64 3)) := (bel0 HA.out.2.2 hb1).setCell (Nat.le_succ _) _
    have cA := (cells_block hX1).1
    have cE := (cells_block hX0).1
    have HXX : Hid (SPL (W1.setCell ⟨w.heap.size + 1, 0, none⟩ (.int .i64 3)) w.heap.size (.slice none 0 0) [] ∧ Below w.heap.size w (W1.setCell ⟨w.heap.size + 1, 0, none⟩ (.int .i64 3))) := ⟨SPL_nil _ _, hXB⟩
    clear hcE hfE hXB
    simp [Leaves, settle, results, Tryz.results26, go_sem, cA, cE]
    exact HXX.out

theorem one_form (c : List UInt8) : stl [(c, [])] = [(c, [])] ∧ topC [(c, ([] : List (List UInt8)))] = [(c, [])] ∧ ordT [(c, [])] = [(c, [])] ∧ szC [(c, [])] = 1 := by
  have h1 : setO c [] = some [] := rfl
  have h0 : srtT [] = [] := (srtT_perm []).eq_nil
  have h2 : sof (c, []) = (c, []) := by unfold sof; rw [h0]
  refine ⟨?_, rfl, ?_, rfl⟩
  · unfold stl
    rw [List.filterMap_cons, h1]
    rfl
  · have h := ordT_perm [(c, ([] : List (List UInt8)))]
    rw [List.map_cons, List.map_nil, h2] at h
    exact List.perm_singleton.1 h
theorem IRK_nilG (w : World) (p : Option Addr) : IRK w p [] := fun _ _ k t h => by cases h
set_option maxRecDepth 100000 in
set_option maxHeartbeats 4000000 in
theorem of1G (c : List UInt8) (bc bl : Nat) (w : World) (gc : good c = true) (d1 : w.heap[bc]? = some (.cells #[.int .i64 (c.length : Int), .int .u64 (FW c 0 : Int), .int .u64 (FW c 1 : Int), .int .u64 (FW c 2 : Int), .int .u64 (FW c 3 : Int), .int .u64 (OW c 0 : Int), .int .u64 (OW c 1 : Int), .int .u64 (OW c 2 : Int), .int .u64 (OW c 3 : Int)] 40 (0, 0))) (d2 : w.heap[bl]? = some (.cells #[.slice none 0 0] 53 (0, 0))) :
    Calls Tryz.prog 27 #[.pointer (some ⟨bc, 0, none⟩), .pointer (some ⟨bl, 0, none⟩)] w fun e w' => Below w.heap.size w w' ∧ ∃ V, e = .returned (.agg #[.int .i64 (c.length : Int), V, .bool false]) ∧ SPL w' w.heap.size V [(c, [])] := by
  obtain ⟨w2, hw2⟩ : ∃ w2, w.alloc (.cells #[.int .i64 0, .slice none 0 0, .bool false] 26 (0, 0)) = w2 := ⟨_, rfl⟩
  have hA : w2.heap[w.heap.size]? = some (.cells #[.int .i64 0, .slice none 0 0, .bool false] 26 (0, 0)) := by rw [← hw2]; exact alloc_get _ _
  have hB2 : Below w.heap.size w w2 := by rw [← hw2]; exact belA (Below.refl _ _) _
  have HA : Hid (w2.heap[w.heap.size]? = some (.cells #[.int .i64 0, .slice none 0 0, .bool false] 26 (0, 0)) ∧ Below w.heap.size w w2 ∧ w.heap.size < w2.heap.size) := ⟨hA, hB2, lt_of_get3 hA⟩
  have HK : Hid (∀ W, Below w2.heap.size w2 W → (∀ j, W.cell? ⟨bc, j, none⟩ = (#[.int .i64 (c.length : Int), .int .u64 (FW c 0 : Int), .int .u64 (FW c 1 : Int), .int .u64 (FW c 2 : Int), .int .u64 (FW c 3 : Int), .int .u64 (OW c 0 : Int), .int .u64 (OW c 1 : Int), .int .u64 (OW c 2 : Int), .int .u64 (OW c 3 : Int)] : Array Value)[j]?) ∧ W.cell? ⟨bl, 0, none⟩ = some (.slice none 0 0)) := fun W hW => ⟨(cells_block (keepblk3 (bel0 hB2 hW) d1)).1, (cells_block (keepblk3 (bel0 hB2 hW) d2)).1 0⟩
  have HWI : Hid (∀ W, Calls Tryz.prog 28 #[.agg #[.int .i64 (c.length : Int), .int .u64 (FW c 0 : Int), .int .u64 (FW c 1 : Int), .int .u64 (FW c 2 : Int), .int .u64 (FW c 3 : Int), .int .u64 (OW c 0 : Int), .int .u64 (OW c 1 : Int), .int .u64 (OW c 2 : Int), .int .u64 (OW c 3 : Int)]] W fun e w' => e = .returned (.int .i64 (c.length : Int)) ∧ Below W.heap.size W w') := fun W => widthG c W gc
  have HF : Hid (∀ (W : World) (g : Nat), Below w2.heap.size w2 W → W.heap[g]? = some (.cells #[.int .i64 (c.length : Int), .int .u64 (FW c 0 : Int), .int .u64 (FW c 1 : Int), .int .u64 (FW c 2 : Int), .int .u64 (FW c 3 : Int), .int .u64 (OW c 0 : Int), .int .u64 (OW c 1 : Int), .int .u64 (OW c 2 : Int), .int .u64 (OW c 3 : Int), .slice none 0 0] 62 (0, 0)) → Calls Tryz.prog 19 #[.int .i64 (c.length : Int), .slice (some ⟨g, 0, none⟩) 1 1] W fun e w' => Below W.heap.size W w' ∧ ∃ p8 c8, e = .returned (.agg #[.int .i64 (c.length : Int), .slice p8 1 c8, .bool false]) ∧ SPL w' W.heap.size (.slice p8 1 c8) [(c, [])]) := fun W g hW hg => by
    have ho : W.ownsRow 0 62 10 (.slice (some ⟨g, 0, none⟩) 1 1) 1 (tes [⟨c, none, 0, []⟩]) := ⟨rfl, .inr ⟨g, 1, _, rfl, Nat.zero_le _, hg, by omega, by unfold maxLen; omega, rfl, rfl⟩⟩
    refine (formed_any (c.length : Int) [⟨c, none, 0, []⟩] 1 (some ⟨g, 0, none⟩) 1 W rfl (by omega) (IRZ_own ho rfl) (fun z hz => by
      rw [List.mem_singleton] at hz
      subst hz
      exact ⟨IRK_nilG _ _, Nat.zero_le _, gc, fun x hx => by cases hx⟩)).mono ?_
    obtain ⟨f1, f2, f3, f4⟩ := one_form c
    have ec : ([⟨c, none, 0, []⟩] : List ZT).map ZT.cont = [(c, [])] := rfl
    unfold FRL
    rw [ec, f1, f2, f3, f4]
    rintro e w' ⟨hb, ⟨-, V, rfl, sv⟩ | ⟨h, -⟩⟩
    · obtain ⟨p8, c8, rfl⟩ := sv.shape
      exact ⟨hb, p8, c8, rfl, sv⟩
    · omega
  have hne1 : bc ≠ w.heap.size := Nat.ne_of_lt (lt_of_get3 d1)
  have hne2 : bl ≠ w.heap.size := Nat.ne_of_lt (lt_of_get3 d2)
  have hk0 := HK.out w2 (Below.refl _ _)
  have hk0d : (∀ j, w2.drew.cell? ⟨bc, j, none⟩ = (#[.int .i64 (c.length : Int), .int .u64 (FW c 0 : Int), .int .u64 (FW c 1 : Int), .int .u64 (FW c 2 : Int), .int .u64 (FW c 3 : Int), .int .u64 (OW c 0 : Int), .int .u64 (OW c 1 : Int), .int .u64 (OW c 2 : Int), .int .u64 (OW c 3 : Int)] : Array Value)[j]?) ∧ w2.drew.cell? ⟨bl, 0, none⟩ = some (.slice none 0 0) := hk0
  have hk0a := HK.out (w2.alloc (.cells #[.int .i64 (c.length : Int), .int .u64 (FW c 0 : Int), .int .u64 (FW c 1 : Int), .int .u64 (FW c 2 : Int), .int .u64 (FW c 3 : Int), .int .u64 (OW c 0 : Int), .int .u64 (OW c 1 : Int), .int .u64 (OW c 2 : Int), .int .u64 (OW c 3 : Int), .slice none 0 0] 62 (0, 0))).drew (belA (Below.refl _ _) _).drew
  clear hA hB2 d1 d2 gc
  go_enter Tryz.func27, Tryz.ntmps27
  go_upto_region 1 with fail
  go_region_held3 (fun W => (∀ j, W.cell? ⟨bc, j, none⟩ = (#[.int .i64 (c.length : Int), .int .u64 (FW c 0 : Int), .int .u64 (FW c 1 : Int), .int .u64 (FW c 2 : Int), .int .u64 (FW c 3 : Int), .int .u64 (OW c 0 : Int), .int .u64 (OW c 1 : Int), .int .u64 (OW c 2 : Int), .int .u64 (OW c 3 : Int)] : Array Value)[j]?) ∧ W.cell? ⟨bl, 0, none⟩ = some (.slice none 0 0)) (with_reducible assumption) (first | (go_at_call 28; refine (HWI.out _).mono ?_; rintro e w5 ⟨rfl, hb5⟩; have hb5' : Below w2.heap.size w2 w5 := (by first | exact hb5 | exact und hb5 | exact bel0 (belA (Below.refl _ _) _).drew hb5); have hk5 := HK.out w5 hb5'; have hk6 := HK.out (w5.alloc (.cells #[.int .i64 (c.length : Int), .int .u64 (FW c 0 : Int), .int .u64 (FW c 1 : Int), .int .u64 (FW c 2 : Int), .int .u64 (FW c 3 : Int), .int .u64 (OW c 0 : Int), .int .u64 (OW c 1 : Int), .int .u64 (OW c 2 : Int), .int .u64 (OW c 3 : Int), .slice none 0 0] 62 (0, 0))) (belA hb5' _)) | (go_at_call 19; refine (HF.out _ _ (by first | exact hb5' | exact belA hb5' _) (by first | exact alloc_get _ _ | exact keepblk3 hb5 (alloc_get w2 _))).mono ?_; rintro e w8 ⟨hb8, p8, c8, rfl, sv8⟩; have hb9 : Below w2.heap.size w2 w8 := (by first | exact bel0 hb5' hb8 | exact bel0 (belA hb5' _) hb8); have hk8 := HK.out w8 hb9; obtain ⟨hcR, hfR⟩ := cells_block (keepblk3 hb9 HA.out.1); have hk9 := (And.intro (fun j => far3G (.int .i64 (c.length : Int)) (.slice p8 1 c8) (.bool false) hne1 (hk8.1 j)) (far3G (.int .i64 (c.length : Int)) (.slice p8 1 c8) (.bool false) hne2 hk8.2))))
  all_goals
    have hs5 := hb5'.size
    have hlt3 := HA.out.2.2
    have HP : Hid (Below w.heap.size w (((w8.setCell ⟨w.heap.size, 0, none⟩ (.int .i64 (c.length : Int))).setCell ⟨w.heap.size, 1, none⟩ (.slice p8 1 c8)).setCell ⟨w.heap.size, 2, none⟩ (.bool false)) ∧ (((w8.setCell ⟨w.heap.size, 0, none⟩ (.int .i64 (c.length : Int))).setCell ⟨w.heap.size, 1, none⟩ (.slice p8 1 c8)).setCell ⟨w.heap.size, 2, none⟩ (.bool false)).heap[w.heap.size]? = some (.cells #[.int .i64 (c.length : Int), .slice p8 1 c8, .bool false] 26 (0, 0)) ∧ SPL (((w8.setCell ⟨w.heap.size, 0, none⟩ (.int .i64 (c.length : Int))).setCell ⟨w.heap.size, 1, none⟩ (.slice p8 1 c8)).setCell ⟨w.heap.size, 2, none⟩ (.bool false)) w.heap.size (.slice p8 1 c8) [(c, [])]) := ⟨(((bel0 HA.out.2.1 hb9).setCell (Nat.le_refl _) _).setCell (Nat.le_refl _) _).setCell (Nat.le_refl _) _, put3w _ _ _ (keepblk3 hb9 HA.out.1), (sv8.kept (gr3G _ _ _ _ _) (by first | omega | (simp; omega))).base (by first | omega | (simp; omega))⟩
    clear hk9 hk8 hcR hfR sv8
    go_wp2_with fail
    refine bodyPost_ret (v := .agg #[.int .i64 (c.length : Int), .slice p8 1 c8, .bool false]) (res_space _ _ w.heap.size _ _ _ Tryz.results27 rfl HP.out.2.1) rfl ?_
    exact ⟨HP.out.1, _, rfl, HP.out.2.2⟩
set_option maxRecDepth 100000 in
set_option maxHeartbeats 4000000 in
theorem sOfG (c : List UInt8) (w : World) (gc : good c = true) (hc : c ≠ []) :
    Calls Tryz.prog 10 #[.agg #[.int .i64 (c.length : Int), .int .u64 (FW c 0 : Int), .int .u64 (FW c 1 : Int), .int .u64 (FW c 2 : Int), .int .u64 (FW c 3 : Int), .int .u64 (OW c 0 : Int), .int .u64 (OW c 1 : Int), .int .u64 (OW c 2 : Int), .int .u64 (OW c 3 : Int)], .slice none 0 0] w fun e w' => ∃ p k, e = .returned (.tuple #[.agg #[.int .i64 (c.length : Int), .slice p 1 k, .bool false], .int .i64 0]) ∧ SPL w' 0 (.slice p 1 k) [(c, [])] ∧ Below w.heap.size w w' := by
  obtain ⟨w1, hw1⟩ : ∃ w1, (w.alloc (.cells #[.int .i64 (c.length : Int), .int .u64 (FW c 0 : Int), .int .u64 (FW c 1 : Int), .int .u64 (FW c 2 : Int), .int .u64 (FW c 3 : Int), .int .u64 (OW c 0 : Int), .int .u64 (OW c 1 : Int), .int .u64 (OW c 2 : Int), .int .u64 (OW c 3 : Int)] 40 (0, 0))).alloc (.cells #[.slice none 0 0] 53 (0, 0)) = w1 := ⟨_, rfl⟩
  obtain ⟨w2, hw2⟩ : ∃ w2, w1.alloc (.cells #[.int .i64 0, .slice none 0 0, .bool false] 26 (0, 0)) = w2 := ⟨_, rfl⟩
  have hs1 : w1.heap.size = w.heap.size + 2 := by rw [← hw1]; simp
  have h1a : w1.heap[w.heap.size]? = some (.cells #[.int .i64 (c.length : Int), .int .u64 (FW c 0 : Int), .int .u64 (FW c 1 : Int), .int .u64 (FW c 2 : Int), .int .u64 (FW c 3 : Int), .int .u64 (OW c 0 : Int), .int .u64 (OW c 1 : Int), .int .u64 (OW c 2 : Int), .int .u64 (OW c 3 : Int)] 40 (0, 0)) := by rw [← hw1]; exact alw_0 _ _ _
  have h1b : w1.heap[w.heap.size + 1]? = some (.cells #[.slice none 0 0] 53 (0, 0)) := by rw [← hw1]; exact alw_1 _ _ _
  have hB1 : Below w.heap.size w w1 := by rw [← hw1]; exact belA (belA (Below.refl _ _) _) _
  have hB2 : Below w1.heap.size w1 w2 := by rw [← hw2]; exact belA (Below.refl _ _) _
  have h2s : w2.heap[w.heap.size + 2]? = some (.cells #[.int .i64 0, .slice none 0 0, .bool false] 26 (0, 0)) := by rw [← hs1, ← hw2]; exact alloc_get _ _
  have h2a := keepblk3 hB2 h1a
  have h2b := keepblk3 hB2 h1b
  have hBw2 : Below w.heap.size w w2 := bel0 hB1 hB2
  obtain ⟨hca, -⟩ := cells_block h2a
  obtain ⟨hcb, -⟩ := cells_block h2b
  obtain ⟨hcs, hfs⟩ := cells_block h2s
  have HA : Hid (w2.heap[w.heap.size + 2]? = some (.cells #[.int .i64 0, .slice none 0 0, .bool false] 26 (0, 0)) ∧ Below w.heap.size w w2 ∧ w2.heap[w.heap.size]? = some (.cells #[.int .i64 (c.length : Int), .int .u64 (FW c 0 : Int), .int .u64 (FW c 1 : Int), .int .u64 (FW c 2 : Int), .int .u64 (FW c 3 : Int), .int .u64 (OW c 0 : Int), .int .u64 (OW c 1 : Int), .int .u64 (OW c 2 : Int), .int .u64 (OW c 3 : Int)] 40 (0, 0)) ∧ w2.heap[w.heap.size + 1]? = some (.cells #[.slice none 0 0] 53 (0, 0)) ∧ good c = true) := ⟨h2s, hBw2, h2a, h2b, gc⟩
  have hull : Calls Tryz.prog 25 #[cubeV c, .slice none 0 0] w2 fun e w' => e = .returned (hulV (hulF c [])) ∧ Below w2.heap.size w2 w' := hull_any c [] _ 0 w2 gc (fun x hx => by cases hx) (by simp) (World.ownsRow_nil _ _ _ _)
  have hh : hulF c [] = some c := by unfold hulF; rw [if_neg hc]; rfl
  rw [hh] at hull
  have HU : Hid (Calls Tryz.prog 25 #[cubeV c, .slice none 0 0] w2 fun e w' => e = .returned (hulV (some c)) ∧ Below w2.heap.size w2 w') := hull
  clear h1a h1b hB1 hB2 h2s h2a h2b hBw2 hull gc hc hh
  go_enter Tryz.func10, Tryz.ntmps10
  go_wp2_with fail
  refine HU.out.mono ?_
  rintro e W1 ⟨rfl, hb1⟩
  unfold hulV cubeV cv
  have hz1 := keepblk3 hb1 HA.out.1
  have BW1 := bel0 HA.out.2.1 hb1
  have GV : Hid (∀ W, Below W1.heap.size W1 W → Calls Tryz.prog 26 #[.func (.func 27) #[] #[.pointer (some ⟨w.heap.size, 0, none⟩), .pointer (some ⟨w.heap.size + 1, 0, none⟩)]] W fun e w' => ∃ p k, e = .returned (.tuple #[.agg #[.int .i64 (c.length : Int), .slice p 1 k, .bool false], .int .i64 0]) ∧ SPL w' W.heap.size (.slice p 1 k) [(c, [])] ∧ Below W.heap.size W w') := fun W hW => by
    have h := giveO (c.length : Int) [(c, [])] true w.heap.size (w.heap.size + 1) W (fun X hX => by
      refine (of1G c w.heap.size (w.heap.size + 1) X HA.out.2.2.2.2 (keepblk3 hX (keepblk3 hW (keepblk3 hb1 HA.out.2.2.1))) (keepblk3 hX (keepblk3 hW (keepblk3 hb1 HA.out.2.2.2.1)))).mono ?_
      rintro e w' ⟨h1, V, h2, h3⟩
      exact ⟨h1, .inl ⟨rfl, V, h2, h3⟩⟩)
    simp only [if_true] at h
    refine h.mono ?_
    rintro e w' ⟨V, rfl, sv, hb⟩
    obtain ⟨p, k, rfl⟩ := sv.shape
    exact ⟨p, k, rfl, sv, hb⟩
  have HW : Hid (W1.heap[w.heap.size + 2]? = some (.cells #[.int .i64 0, .slice none 0 0, .bool false] 26 (0, 0)) ∧ Below w.heap.size w W1) := ⟨hz1, BW1⟩
  clear hz1 BW1 hca hcb hcs hfs HU hb1 hw1 hw2 hs1 HA
  go_wp2_with (go_at_call 26; refine (GV.out _ (belA (Below.refl _ _) _)).mono ?_)
  rintro e W2 ⟨p3, c3, rfl, sv, hb2⟩
  have hblk := keepblk3 hb2 (allocblk3 HW.out.1 _)
  obtain ⟨hcR, hfR⟩ := cells_block hblk
  have bw2 : Below w.heap.size w W2 := bel0 (belA HW.out.2 _) hb2
  have hlt := lt_of_get3 (allocblk3 HW.out.1 (.cells #[.int .i64 (c.length : Int), .int .u64 (FW c 0 : Int), .int .u64 (FW c 1 : Int), .int .u64 (FW c 2 : Int), .int .u64 (FW c 3 : Int), .int .u64 (OW c 0 : Int), .int .u64 (OW c 1 : Int), .int .u64 (OW c 2 : Int), .int .u64 (OW c 3 : Int)] 40 (0, 0)))
  have HF : Hid (Below w.heap.size w (((W2.setCell ⟨w.heap.size + 2, 0, none⟩ (.int .i64 (c.length : Int))).setCell ⟨w.heap.size + 2, 1, none⟩ (.slice p3 1 c3)).setCell ⟨w.heap.size + 2, 2, none⟩ (.bool false)) ∧ (((W2.setCell ⟨w.heap.size + 2, 0, none⟩ (.int .i64 (c.length : Int))).setCell ⟨w.heap.size + 2, 1, none⟩ (.slice p3 1 c3)).setCell ⟨w.heap.size + 2, 2, none⟩ (.bool false)).heap[w.heap.size + 2]? = some (.cells #[.int .i64 (c.length : Int), .slice p3 1 c3, .bool false] 26 (0, 0)) ∧ SPL (((W2.setCell ⟨w.heap.size + 2, 0, none⟩ (.int .i64 (c.length : Int))).setCell ⟨w.heap.size + 2, 1, none⟩ (.slice p3 1 c3)).setCell ⟨w.heap.size + 2, 2, none⟩ (.bool false)) 0 (.slice p3 1 c3) [(c, [])]) := ⟨((bw2.setCell (by show w.heap.size ≤ w.heap.size + 2; omega) _).setCell (by show w.heap.size ≤ w.heap.size + 2; omega) _).setCell (by show w.heap.size ≤ w.heap.size + 2; omega) _, put3w _ _ _ hblk, (sv.kept (gr3G _ _ _ _ _) hlt).base (Nat.zero_le _)⟩
  clear hblk sv hb2 bw2 HW GV hlt
  go_wp2_with fail
  refine bodyPost_ret (v := .tuple #[.agg #[.int .i64 (c.length : Int), .slice p3 1 c3, .bool false], .int .i64 0]) (res_sG _ _ (w.heap.size + 2) _ _ _ Tryz.results10 rfl HF.out.2.1) rfl ?_
  exact ⟨p3, c3, rfl, HF.out.2.2, HF.out.1⟩
end Go.Proofs.YtfhghplplkkpmaaGreatDoor
