import Derived.Test.YtbdnpbiimbeflaaQT
namespace Go.Proofs.Ytbdnpbiimbeflaa
open Go.RowKit Go.Shelf
set_option maxRecDepth 100000 in
set_option maxHeartbeats 2000000 in
theorem give_over (srt : List (List UInt8) → List (List UInt8)) (hso : SortOK srt) (hsl : ∀ L, (srt L).length = L.length) (c : List UInt8) (L : List (List UInt8)) (q : Option Addr) (m k bc bl : Nat) (w : World) (hm : L.length = m) (hm2 : m ≤ 1000000) (gc : good c = true) (gL : ∀ x ∈ L, good x = true) (hq : IRC w q L) (ho : OQ w bc bl c q m k) (R : List (List UInt8)) (hN : setO c L = some R) (hgt : 128 < 1 + R.length) :
    Calls Try.prog 14 #[.func (.func 15) #[] #[.pointer (some ⟨bc, 0, none⟩), .pointer (some ⟨bl, 0, none⟩)]] w fun e w' => e = .returned (.tuple #[.agg #[.int .i64 0, .slice none 0 0, .bool false], .int .i64 3]) ∧ Below w.heap.size w w' := by
  have hmf : ∀ (fn : Fn) (first cap : Array Value) (w : World), (Instr.makeFunc fn first cap).run Try.prog w = .ok (.func fn first cap) w := fun _ _ _ _ => rfl
  obtain ⟨w2, hw2⟩ : ∃ w2, (w.alloc (.cells #[.int .i64 0, .slice none 0 0, .bool false] 34 (0, 0))).alloc (.cells #[.int .i64 0] 35 (0, 0)) = w2 := ⟨_, rfl⟩
  have hA : w2.heap[w.heap.size]? = some (.cells #[.int .i64 0, .slice none 0 0, .bool false] 34 (0, 0)) := by rw [← hw2]; exact alw_0 _ _ _
  have hE : w2.heap[w.heap.size + 1]? = some (.cells #[.int .i64 0] 35 (0, 0)) := by rw [← hw2]; exact alw_1 _ _ _
  have hB2 : Below w.heap.size w w2 := by rw [← hw2]; exact belA (belA (Below.refl _ _) _) _
  have HO := of1_over srt hso hsl c L q m k bc bl w2 hm hm2 gc gL (hq.later hB2) ⟨keepblk3 hB2 ho.1, keepblk3 hB2 ho.2⟩ R hN hgt
  have HA : Hid (w2.heap[w.heap.size]? = some (.cells #[.int .i64 0, .slice none 0 0, .bool false] 34 (0, 0)) ∧ w2.heap[w.heap.size + 1]? = some (.cells #[.int .i64 0] 35 (0, 0)) ∧ Below w.heap.size w w2) := ⟨hA, hE, hB2⟩
  clear hA hE hB2 ho hq gL gc hm hso hsl hN
  go_enter_defers Try.func14, Try.ntmps14
  go_wp2_with fail
  refine HO.mono ?_
  rintro e W1 ⟨hb1, rfl⟩
  clear HO hw2
  have hEE := keepblk3 hb1 HA.out.2.1
  have hAA := keepblk3 hb1 HA.out.1
  obtain ⟨hcE, hfE⟩ := cells_block hEE
  refine leaves_cons (f := 24) (args := #[.pointer (some ⟨w.heap.size + 1, 0, none⟩)]) (by simp) (by simp [go_sem]) ?_
  refine (caught (w.heap.size + 1) 0 [] W1 (hcE 0) (hfE 0)).mono ?_
  rintro e u' w'' ⟨rfl, rfl, rfl⟩
  have hX0 : (W1.setCell ⟨w.heap.size + 1, 0, none⟩ (.int .i64 3)).heap[w.heap.size + 1]? = some (.cells #[.int .i64 3] 35 (0, 0)) := by
    have h1 := set_get (j := 0) (.int .i64 3) hEE
    rw [h1]
    simp
  have hX1 : (W1.setCell ⟨w.heap.size + 1, 0, none⟩ (.int .i64 3)).heap[w.heap.size]? = some (.cells #[.int .i64 0, .slice none 0 0, .bool false] 34 (0, 0)) := by
    rw [heap_setCell_other _ ⟨w.heap.size + 1, 0, none⟩ _ _ (by simp)]
    exact hAA
  have hXB : Below w.heap.size w (W1.setCell ⟨w.heap.size + 1, 0, none⟩ (.int .i64 3)) := (bel0 HA.out.2.2 hb1).setCell (Nat.le_succ _) _
  have cA := (cells_block hX1).1
  have cE := (cells_block hX0).1
  clear hcE hfE
  simp [Leaves, settle, results, Try.results14, go_sem, cA, cE, hXB]
/-- the one term of a space, if there is one -/
def SPV (W : World) (B : Nat) (V : Value) : Option (List UInt8 × List (List UInt8)) → Prop
  | none => V = .slice none 0 0
  | some (c, R) => ∃ v, W.ownsRow B 54 10 V 1 ([.int .i64 (c.length : Int), .int .u64 (FW c 0 : Int), .int .u64 (FW c 1 : Int), .int .u64 (FW c 2 : Int), .int .u64 (FW c 3 : Int), .int .u64 (OW c 0 : Int), .int .u64 (OW c 1 : Int), .int .u64 (OW c 2 : Int), .int .u64 (OW c 3 : Int), v]) ∧ W.ownsRow B 28 9 v R.length (ces R)
def gE (c : List UInt8) (L : List (List UInt8)) : Int := match setO c L with
  | none => 0
  | some R => if 128 < 1 + R.length then 3 else 0
def gB (c : List UInt8) (L : List (List UInt8)) : Int := if gE c L = 0 then (c.length : Int) else 0
def gT (srt : List (List UInt8) → List (List UInt8)) (c : List UInt8) (L : List (List UInt8)) : Option (List UInt8 × List (List UInt8)) := match setO c L with
  | none => none
  | some R => if 128 < 1 + R.length then none else some (c, srt R)
theorem give_any (srt : List (List UInt8) → List (List UInt8)) (hso : SortOK srt) (hsl : ∀ L, (srt L).length = L.length) (c : List UInt8) (L : List (List UInt8)) (q : Option Addr) (m k bc bl : Nat) (w : World) (hm : L.length = m) (hm2 : m ≤ 1000000) (gc : good c = true) (gL : ∀ x ∈ L, good x = true) (hq : IRC w q L) (ho : OQ w bc bl c q m k) :
    Calls Try.prog 14 #[.func (.func 15) #[] #[.pointer (some ⟨bc, 0, none⟩), .pointer (some ⟨bl, 0, none⟩)]] w fun e w' => ∃ V, e = .returned (.tuple #[.agg #[.int .i64 (gB c L), V, .bool false], .int .i64 (gE c L)]) ∧ SPV w' w.heap.size V (gT srt c L) ∧ Below w.heap.size w w' := by
  cases hN : setO c L with
  | none =>
    have h1 : gE c L = 0 := by unfold gE; rw [hN]
    have h2 : gB c L = (c.length : Int) := by unfold gB; rw [h1]; rfl
    have h3 : gT srt c L = none := by unfold gT; rw [hN]
    rw [h1, h2, h3]
    refine (give_none srt hso hsl c L q m k bc bl w hm hm2 gc gL hq ho hN).mono ?_
    rintro e w' ⟨rfl, hb⟩
    exact ⟨_, rfl, rfl, hb⟩
  | some R =>
    by_cases hgt : 128 < 1 + R.length
    · have h1 : gE c L = 3 := by unfold gE; rw [hN]; exact if_pos hgt
      have h2 : gB c L = 0 := by unfold gB; rw [h1]; rfl
      have h3 : gT srt c L = none := by unfold gT; rw [hN]; exact if_pos hgt
      rw [h1, h2, h3]
      refine (give_over srt hso hsl c L q m k bc bl w hm hm2 gc gL hq ho R hN hgt).mono ?_
      rintro e w' ⟨rfl, hb⟩
      exact ⟨_, rfl, rfl, hb⟩
    · have h1 : gE c L = 0 := by unfold gE; rw [hN]; exact if_neg hgt
      have h2 : gB c L = (c.length : Int) := by unfold gB; rw [h1]; rfl
      have h3 : gT srt c L = some (c, srt R) := by unfold gT; rw [hN]; exact if_neg hgt
      rw [h1, h2, h3]
      refine (give_some srt hso hsl c L q m k bc bl w hm hm2 gc gL hq ho R hN (by omega)).mono ?_
      rintro e w' ⟨V, v, rfl, o1, o2, hb⟩
      refine ⟨V, rfl, ⟨v, o1, ?_⟩, hb⟩
      rw [hsl]
      exact o2
end Go.Proofs.Ytbdnpbiimbeflaa
