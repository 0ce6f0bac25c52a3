import Derived.Test.YtbdnpbiimbeflaaQP
namespace Go.Proofs.Ytbdnpbiimbeflaa
open Go.RowKit Go.Shelf
set_option maxRecDepth 100000 in
set_option maxHeartbeats 2000000 in
theorem give_none (srt : List (List UInt8) → List (List UInt8)) (hso : SortOK srt) (hsl : ∀ L, (srt L).length = L.length) (c : List UInt8) (L : List (List UInt8)) (q : Option Addr) (m k bc bl : Nat) (w : World) (hm : L.length = m) (hm2 : m ≤ 1000000) (gc : good c = true) (gL : ∀ x ∈ L, good x = true) (hq : IRC w q L) (ho : OQ w bc bl c q m k) (hN : setO c L = none) :
    Calls Try.prog 14 #[.func (.func 15) #[] #[.pointer (some ⟨bc, 0, none⟩), .pointer (some ⟨bl, 0, none⟩)]] w fun e w' => e = .returned (.tuple #[.agg #[.int .i64 (c.length : Int), .slice none 0 0, .bool false], .int .i64 0]) ∧ Below w.heap.size w w' := by
  have hmf : ∀ (fn : Fn) (first cap : Array Value) (w : World), (Instr.makeFunc fn first cap).run Try.prog w = .ok (.func fn first cap) w := fun _ _ _ _ => rfl
  obtain ⟨w2, hw2⟩ : ∃ w2, (w.alloc (.cells #[.int .i64 0, .slice none 0 0, .bool false] 34 (0, 0))).alloc (.cells #[.int .i64 0] 35 (0, 0)) = w2 := ⟨_, rfl⟩
  have hA : w2.heap[w.heap.size]? = some (.cells #[.int .i64 0, .slice none 0 0, .bool false] 34 (0, 0)) := by rw [← hw2]; exact alw_0 _ _ _
  have hE : w2.heap[w.heap.size + 1]? = some (.cells #[.int .i64 0] 35 (0, 0)) := by rw [← hw2]; exact alw_1 _ _ _
  have hB2 : Below w.heap.size w w2 := by rw [← hw2]; exact belA (belA (Below.refl _ _) _) _
  have HO := of1_none srt hso hsl c L q m k bc bl w2 hm hm2 gc gL (hq.later hB2) ⟨keepblk3 hB2 ho.1, keepblk3 hB2 ho.2⟩ hN
  have HA : Hid (w2.heap[w.heap.size]? = some (.cells #[.int .i64 0, .slice none 0 0, .bool false] 34 (0, 0)) ∧ w2.heap[w.heap.size + 1]? = some (.cells #[.int .i64 0] 35 (0, 0)) ∧ Below w.heap.size w w2) := ⟨hA, hE, hB2⟩
  clear hA hE hB2 ho hq gL gc hm hso hsl hN
  go_enter_defers Try.func14, Try.ntmps14
  go_wp2_with fail
  refine HO.mono ?_
  rintro e W1 ⟨hb1, rfl⟩
  clear HO hw2
  obtain ⟨hcA, hfA⟩ := cells_block (keepblk3 hb1 HA.out.1)
  obtain ⟨hcE, hfE⟩ := cells_block (keepblk3 hb1 HA.out.2.1)
  go_wp2_with fail
  obtain ⟨X, hX⟩ : ∃ X, ((((W1.setCell ⟨w.heap.size, 0, none⟩ (.int .i64 (c.length : Int))).setCell ⟨w.heap.size, 1, none⟩ (.slice none 0 0)).setCell ⟨w.heap.size, 2, none⟩ (.bool false)).setCell ⟨w.heap.size + 1, 0, none⟩ (.int .i64 0)) = X := ⟨_, rfl⟩
  have hXA : X.heap[w.heap.size]? = some (.cells #[.int .i64 (c.length : Int), .slice none 0 0, .bool false] 34 (0, 0)) := by
    have h0 := set_get (j := 0) (.int .i64 (c.length : Int)) (keepblk3 hb1 HA.out.1)
    have h1 := set_get (j := 1) (.slice none 0 0) h0
    have h2 := set_get (j := 2) (.bool false) h1
    rw [← hX, heap_setCell_other _ ⟨w.heap.size + 1, 0, none⟩ _ _ (by simp), h2]
    simp
  have hXE : X.heap[w.heap.size + 1]? = some (.cells #[.int .i64 0] 35 (0, 0)) := by
    have h0 : ((((W1.setCell ⟨w.heap.size, 0, none⟩ (.int .i64 (c.length : Int))).setCell ⟨w.heap.size, 1, none⟩ (.slice none 0 0)).setCell ⟨w.heap.size, 2, none⟩ (.bool false))).heap[w.heap.size + 1]? = some (.cells #[.int .i64 0] 35 (0, 0)) := by
      rw [heap_setCell_other _ ⟨w.heap.size, 2, none⟩ _ _ (by simp), heap_setCell_other _ ⟨w.heap.size, 1, none⟩ _ _ (by simp), heap_setCell_other _ ⟨w.heap.size, 0, none⟩ _ _ (by simp)]
      exact keepblk3 hb1 HA.out.2.1
    have h1 := set_get (j := 0) (.int .i64 0) h0
    rw [← hX, h1]
    simp
  have hXB : Below w.heap.size w X := by
    rw [← hX]
    exact ((((bel0 HA.out.2.2 hb1).setCell (Nat.le_refl _) _).setCell (Nat.le_refl _) _).setCell (Nat.le_refl _) _).setCell (Nat.le_succ _) _
  rw [hX]
  clear hcA hfA hcE hfE hX
  refine leaves_cons (f := 24) (args := #[.pointer (some ⟨w.heap.size + 1, 0, none⟩)]) (by simp) (by simp [go_sem]) ?_
  refine (idle (w.heap.size + 1) _).mono ?_
  rintro e u' w'' ⟨rfl, rfl, rfl⟩
  have cA := (cells_block hXA).1
  have cE := (cells_block hXE).1
  simp [Leaves, settle, results, Try.results14, go_sem, cA, cE, hXB]
set_option maxRecDepth 100000 in
set_option maxHeartbeats 2000000 in
theorem give_some (srt : List (List UInt8) → List (List UInt8)) (hso : SortOK srt) (hsl : ∀ L, (srt L).length = L.length) (c : List UInt8) (L : List (List UInt8)) (q : Option Addr) (m k bc bl : Nat) (w : World) (hm : L.length = m) (hm2 : m ≤ 1000000) (gc : good c = true) (gL : ∀ x ∈ L, good x = true) (hq : IRC w q L) (ho : OQ w bc bl c q m k) (R : List (List UInt8)) (hN : setO c L = some R) (hle : 1 + R.length ≤ 128) :
    Calls Try.prog 14 #[.func (.func 15) #[] #[.pointer (some ⟨bc, 0, none⟩), .pointer (some ⟨bl, 0, none⟩)]] w fun e w' => ∃ V v, e = .returned (.tuple #[.agg #[.int .i64 (c.length : Int), V, .bool false], .int .i64 0]) ∧ w'.ownsRow w.heap.size 54 10 V 1 ([.int .i64 (c.length : Int), .int .u64 (FW c 0 : Int), .int .u64 (FW c 1 : Int), .int .u64 (FW c 2 : Int), .int .u64 (FW c 3 : Int), .int .u64 (OW c 0 : Int), .int .u64 (OW c 1 : Int), .int .u64 (OW c 2 : Int), .int .u64 (OW c 3 : Int), v]) ∧ w'.ownsRow w.heap.size 28 9 v R.length (ces (srt R)) ∧ Below w.heap.size w w' := by
  have hmf : ∀ (fn : Fn) (first cap : Array Value) (w : World), (Instr.makeFunc fn first cap).run Try.prog w = .ok (.func fn first cap) w := fun _ _ _ _ => rfl
  obtain ⟨w2, hw2⟩ : ∃ w2, (w.alloc (.cells #[.int .i64 0, .slice none 0 0, .bool false] 34 (0, 0))).alloc (.cells #[.int .i64 0] 35 (0, 0)) = w2 := ⟨_, rfl⟩
  have hA : w2.heap[w.heap.size]? = some (.cells #[.int .i64 0, .slice none 0 0, .bool false] 34 (0, 0)) := by rw [← hw2]; exact alw_0 _ _ _
  have hE : w2.heap[w.heap.size + 1]? = some (.cells #[.int .i64 0] 35 (0, 0)) := by rw [← hw2]; exact alw_1 _ _ _
  have hB2 : Below w.heap.size w w2 := by rw [← hw2]; exact belA (belA (Below.refl _ _) _) _
  have HO := of1_some srt hso hsl c L q m k bc bl w2 hm hm2 gc gL (hq.later hB2) ⟨keepblk3 hB2 ho.1, keepblk3 hB2 ho.2⟩ R hN hle
  have HA : Hid (w2.heap[w.heap.size]? = some (.cells #[.int .i64 0, .slice none 0 0, .bool false] 34 (0, 0)) ∧ w2.heap[w.heap.size + 1]? = some (.cells #[.int .i64 0] 35 (0, 0)) ∧ Below w.heap.size w w2) := ⟨hA, hE, hB2⟩
  clear hA hE hB2 ho hq gL gc hm hso hsl hN hle
  go_enter_defers Try.func14, Try.ntmps14
  go_wp2_with fail
  refine HO.mono ?_
  rintro e W1 ⟨hb1, V, v, rfl, o8, oc⟩
  obtain ⟨p8, c8, rfl⟩ := shapeQ1 o8
  clear HO hw2
  obtain ⟨hcA, hfA⟩ := cells_block (keepblk3 hb1 HA.out.1)
  obtain ⟨hcE, hfE⟩ := cells_block (keepblk3 hb1 HA.out.2.1)
  go_wp2_with fail
  obtain ⟨X, hX⟩ : ∃ X, ((((W1.setCell ⟨w.heap.size, 0, none⟩ (.int .i64 (c.length : Int))).setCell ⟨w.heap.size, 1, none⟩ (.slice p8 1 c8)).setCell ⟨w.heap.size, 2, none⟩ (.bool false)).setCell ⟨w.heap.size + 1, 0, none⟩ (.int .i64 0)) = X := ⟨_, rfl⟩
  have hXA : X.heap[w.heap.size]? = some (.cells #[.int .i64 (c.length : Int), .slice p8 1 c8, .bool false] 34 (0, 0)) := by
    have h0 := set_get (j := 0) (.int .i64 (c.length : Int)) (keepblk3 hb1 HA.out.1)
    have h1 := set_get (j := 1) (.slice p8 1 c8) h0
    have h2 := set_get (j := 2) (.bool false) h1
    rw [← hX, heap_setCell_other _ ⟨w.heap.size + 1, 0, none⟩ _ _ (by simp), h2]
    simp
  have hXE : X.heap[w.heap.size + 1]? = some (.cells #[.int .i64 0] 35 (0, 0)) := by
    have h0 : ((((W1.setCell ⟨w.heap.size, 0, none⟩ (.int .i64 (c.length : Int))).setCell ⟨w.heap.size, 1, none⟩ (.slice p8 1 c8)).setCell ⟨w.heap.size, 2, none⟩ (.bool false))).heap[w.heap.size + 1]? = some (.cells #[.int .i64 0] 35 (0, 0)) := by
      rw [heap_setCell_other _ ⟨w.heap.size, 2, none⟩ _ _ (by simp), heap_setCell_other _ ⟨w.heap.size, 1, none⟩ _ _ (by simp), heap_setCell_other _ ⟨w.heap.size, 0, none⟩ _ _ (by simp)]
      exact keepblk3 hb1 HA.out.2.1
    have h1 := set_get (j := 0) (.int .i64 0) h0
    rw [← hX, h1]
    simp
  have hXB : Below w.heap.size w X := by
    rw [← hX]
    exact ((((bel0 HA.out.2.2 hb1).setCell (Nat.le_refl _) _).setCell (Nat.le_refl _) _).setCell (Nat.le_refl _) _).setCell (Nat.le_succ _) _
  have hXO : X.ownsRow w.heap.size 54 10 (.slice p8 1 c8) 1 ([.int .i64 (c.length : Int), .int .u64 (FW c 0 : Int), .int .u64 (FW c 1 : Int), .int .u64 (FW c 2 : Int), .int .u64 (FW c 3 : Int), .int .u64 (OW c 0 : Int), .int .u64 (OW c 1 : Int), .int .u64 (OW c 2 : Int), .int .u64 (OW c 3 : Int), v]) ∧ X.ownsRow w.heap.size 28 9 v R.length (ces (srt R)) := by
    have one : ∀ (Y : World) (b k : Nat) (u : Value), Y.grownBy (Y.setCell ⟨b, k, none⟩ u) (some b) := fun Y b k u => ⟨rfl, rfl, rfl, by simp, fun j _ hj => heap_setCell_other Y ⟨b, k, none⟩ j u (fun e => hj (by simp [e]))⟩
    have l1 := lt_of_get3 HA.out.1
    have l2 := lt_of_get3 HA.out.2.1
    have keep : ∀ {Y : World} {e : TypeId} {sz n : Nat} {u : Value} {xs : List Value}, W1.ownsRow w2.heap.size e sz u n xs → W1.grownBy Y (some w.heap.size) → Y.ownsRow w2.heap.size e sz u n xs := fun h hg => h.kept hg (.inr (fun e => by have := (h.lt _ e).1; omega))
    have hg3 := grown_trans (one W1 w.heap.size 0 (.int .i64 (c.length : Int))) (grown_trans (one _ w.heap.size 1 (.slice p8 1 c8)) (one _ w.heap.size 2 (.bool false)))
    have k1 := keep o8 hg3
    have k2 := keep oc hg3
    rw [← hX]
    exact ⟨own_base (k1.kept (one _ (w.heap.size + 1) 0 (.int .i64 0)) (.inr (fun e => by have := (k1.lt _ e).1; omega))) HA.out.2.2.size, own_base (k2.kept (one _ (w.heap.size + 1) 0 (.int .i64 0)) (.inr (fun e => by have := (k2.lt _ e).1; omega))) HA.out.2.2.size⟩
  rw [hX]
  clear o8 oc hcA hfA hcE hfE hX
  refine leaves_cons (f := 24) (args := #[.pointer (some ⟨w.heap.size + 1, 0, none⟩)]) (by simp) (by simp [go_sem]) ?_
  refine (idle (w.heap.size + 1) _).mono ?_
  rintro e u' w'' ⟨rfl, rfl, rfl⟩
  have cA := (cells_block hXA).1
  have cE := (cells_block hXE).1
  simp [Leaves, settle, results, Try.results14, go_sem, cA, cE]
  exact ⟨v, hXO.1, hXO.2, hXB⟩
end Go.Proofs.Ytbdnpbiimbeflaa
