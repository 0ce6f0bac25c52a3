import Derived.Test.YtbdnpbiimbeflaaQU
namespace Go.Proofs.Ytbdnpbiimbeflaa
open Go.RowKit Go.Shelf
theorem res_space2 {fn : Func} {p u : Tmp} {m : Nat × Nat} (tmps : Array Value) (W : World) (b : Nat) (v0 v1 v2 : Value) (hr : fn.results = #[.cell p 34, .tmp u]) (hp : tmps.getD p undef = .pointer (some ⟨b, 0, none⟩)) (h : W.heap[b]? = some (.cells #[v0, v1, v2] 34 m)) :
    (results fn tmps).run Try.prog W = .ok (.tuple #[.agg #[v0, v1, v2], tmps.getD u undef]) W := by
  have hc : ∀ j, W.cell? ⟨b, j, none⟩ = (#[v0, v1, v2] : Array Value)[j]? := by
    intro j; unfold World.cell?; rw [h]; simp
  rw [results_cell_tmp hr, hp]
  simp [go_sem, hc]
theorem SPV.below {W X : World} {B : Nat} {V : Value} {o : Option (List UInt8 × List (List UInt8))} (h : SPV W B V o) (hb : Below W.heap.size W X) : SPV X B V o := by
  match o, h with
  | none, h => exact h
  | some (c, R), ⟨v, o1, o2⟩ => exact ⟨v, own_belQ o1 hb, own_belQ o2 hb⟩
theorem SPV.base {W : World} {A B : Nat} {V : Value} {o : Option (List UInt8 × List (List UInt8))} (h : SPV W B V o) (hA : A ≤ B) : SPV W A V o := by
  match o, h with
  | none, h => exact h
  | some (c, R), ⟨v, o1, o2⟩ => exact ⟨v, own_base o1 hA, own_base o2 hA⟩
theorem SPV.kept {W X : World} {B b : Nat} {V : Value} {o : Option (List UInt8 × List (List UInt8))} (h : SPV W B V o) (hg : W.grownBy X (some b)) (hb : b < B) : SPV X B V o := by
  match o, h with
  | none, h => exact h
  | some (c, R), ⟨v, o1, o2⟩ => exact ⟨v, o1.kept hg (.inr (fun e => by have := (o1.lt _ e).1; omega)), o2.kept hg (.inr (fun e => by have := (o2.lt _ e).1; omega))⟩
theorem SPV.shape {W : World} {B : Nat} {V : Value} {o : Option (List UInt8 × List (List UInt8))} (h : SPV W B V o) : ∃ p n c, V = .slice p n c := by
  match o, h with
  | none, h => exact ⟨_, _, _, h⟩
  | some (c, R), ⟨v, o1, _⟩ => obtain ⟨p, k, e⟩ := shapeQ1 o1; exact ⟨p, 1, k, e⟩
theorem set_gr3 (X : World) (b k : Nat) (u : Value) : X.grownBy (X.setCell ⟨b, k, none⟩ u) (some b) := ⟨rfl, rfl, rfl, by simp, fun j _ hj => heap_setCell_other X ⟨b, k, none⟩ j u (fun e => hj (by simp [e]))⟩
theorem keep3 {W : World} {b t : Nat} {x0 x1 x2 : Value} (h : W.heap[b]? = some (.cells #[x0, x1, x2] t (0, 0))) (v0 : Int) (v1 : Value) (v2 : Bool) : (((W.setCell ⟨b, 0, none⟩ (.int .i64 v0)).setCell ⟨b, 1, none⟩ v1).setCell ⟨b, 2, none⟩ (.bool v2)).heap[b]? = some (.cells #[.int .i64 v0, v1, .bool v2] t (0, 0)) := by
  have h0 := set_get (j := 0) (.int .i64 v0) h
  have h1 := set_get (j := 1) v1 h0
  have h2 := set_get (j := 2) (.bool v2) h1
  rw [h2]
  simp
def ofE (c : List UInt8) (L : List (List UInt8)) : Int := if 2048 < L.length then 2 else if hulF c L = none then 11 else gE c L
def ofB (c : List UInt8) (L : List (List UInt8)) : Int := if 2048 < L.length then 0 else if hulF c L = none then 0 else gB c L
def ofT (srt : List (List UInt8) → List (List UInt8)) (c : List UInt8) (L : List (List UInt8)) : Option (List UInt8 × List (List UInt8)) := if 2048 < L.length then none else if hulF c L = none then none else gT srt c L
set_option maxRecDepth 100000 in
set_option maxHeartbeats 4000000 in
theorem of_any (srt : List (List UInt8) → List (List UInt8)) (hso : SortOK srt) (hsl : ∀ L, (srt L).length = L.length) (c : List UInt8) (L : List (List UInt8)) (q : Option Addr) (m k B : Nat) (w : World) (hm : L.length = m) (hm2 : m ≤ 1000000) (gc : good c = true) (gL : ∀ x ∈ L, good x = true) (hq : w.ownsRow B 28 9 (.slice q m k) m (ces L)) :
    Calls Try.prog 7 #[.agg #[.int .i64 (c.length : Int), .int .u64 (FW c 0 : Int), .int .u64 (FW c 1 : Int), .int .u64 (FW c 2 : Int), .int .u64 (FW c 3 : Int), .int .u64 (OW c 0 : Int), .int .u64 (OW c 1 : Int), .int .u64 (OW c 2 : Int), .int .u64 (OW c 3 : Int)], .slice q m k] w fun e w' => ∃ V, e = .returned (.tuple #[.agg #[.int .i64 (ofB c L), V, .bool false], .int .i64 (ofE c L)]) ∧ SPV w' w.heap.size V (ofT srt c L) ∧ Below w.heap.size w w' := by
  obtain ⟨w1, hw1⟩ : ∃ w1, (w.alloc (.cells #[.int .i64 (c.length : Int), .int .u64 (FW c 0 : Int), .int .u64 (FW c 1 : Int), .int .u64 (FW c 2 : Int), .int .u64 (FW c 3 : Int), .int .u64 (OW c 0 : Int), .int .u64 (OW c 1 : Int), .int .u64 (OW c 2 : Int), .int .u64 (OW c 3 : Int)] 28 (0, 0))).alloc (.cells #[.slice q m k] 23 (0, 0)) = w1 := ⟨_, rfl⟩
  obtain ⟨w2, hw2⟩ : ∃ w2, w1.alloc (.cells #[.int .i64 0, .slice none 0 0, .bool false] 34 (0, 0)) = w2 := ⟨_, rfl⟩
  have hs1 : w1.heap.size = w.heap.size + 2 := by rw [← hw1]; simp
  have h1a : w1.heap[w.heap.size]? = some (.cells #[.int .i64 (c.length : Int), .int .u64 (FW c 0 : Int), .int .u64 (FW c 1 : Int), .int .u64 (FW c 2 : Int), .int .u64 (FW c 3 : Int), .int .u64 (OW c 0 : Int), .int .u64 (OW c 1 : Int), .int .u64 (OW c 2 : Int), .int .u64 (OW c 3 : Int)] 28 (0, 0)) := by rw [← hw1]; exact alw_0 _ _ _
  have h1b : w1.heap[w.heap.size + 1]? = some (.cells #[.slice q m k] 23 (0, 0)) := by rw [← hw1]; exact alw_1 _ _ _
  have hB1 : Below w.heap.size w w1 := by rw [← hw1]; exact belA (belA (Below.refl _ _) _) _
  have hB2 : Below w1.heap.size w1 w2 := by rw [← hw2]; exact belA (Below.refl _ _) _
  have h2s : w2.heap[w.heap.size + 2]? = some (.cells #[.int .i64 0, .slice none 0 0, .bool false] 34 (0, 0)) := by rw [← hs1, ← hw2]; exact alloc_get _ _
  have h2a := keepblk3 hB2 h1a
  have h2b := keepblk3 hB2 h1b
  have hBw2 : Below w.heap.size w w2 := bel0 hB1 hB2
  obtain ⟨hca, -⟩ := cells_block h2a
  obtain ⟨hcb, -⟩ := cells_block h2b
  obtain ⟨hcs, hfs⟩ := cells_block h2s
  have HA : Hid (w2.heap[w.heap.size + 2]? = some (.cells #[.int .i64 0, .slice none 0 0, .bool false] 34 (0, 0)) ∧ OQ w2 w.heap.size (w.heap.size + 1) c q m k ∧ Below w.heap.size w w2) := ⟨h2s, ⟨h2a, h2b⟩, hBw2⟩
  have hull : Calls Try.prog 13 #[cubeV c, .slice q m k] w2 fun e w' => e = .returned (hulV (hulF c L)) ∧ Below w2.heap.size w2 w' := hull_any c L _ B w2 gc gL (by omega) (by rw [hm]; exact own_belQ hq hBw2)
  have HU : Hid (Calls Try.prog 13 #[cubeV c, .slice q m k] w2 fun e w' => e = .returned (hulV (hulF c L)) ∧ Below w2.heap.size w2 w') := hull
  have HQ : Hid (IRC w q L) := IRC_own hq hm
  have HM : Hid (L.length = m) := hm
  have HSO : Hid (SortOK srt ∧ (∀ L, (srt L).length = L.length) ∧ good c = true ∧ ∀ x ∈ L, good x = true) := ⟨hso, hsl, gc, gL⟩
  clear h1a h1b hB1 hB2 h2s h2a h2b hBw2 hull hso hsl gc gL hq hm
  by_cases hlong : (2048 : Int) < (m : Int)
  · have e1 : Hid (ofE c L = 2 ∧ ofB c L = 0 ∧ ofT srt c L = none) := by
      have h : 2048 < L.length := by rw [HM.out]; omega
      refine ⟨?_, ?_, ?_⟩
      · unfold ofE; rw [if_pos h]
      · unfold ofB; rw [if_pos h]
      · unfold ofT; rw [if_pos h]
    have hF := keep3 HA.out.1 0 (.slice none 0 0) false
    have HF : Hid (Below w.heap.size w (((w2.setCell ⟨w.heap.size + 2, 0, none⟩ (.int .i64 0)).setCell ⟨w.heap.size + 2, 1, none⟩ (.slice none 0 0)).setCell ⟨w.heap.size + 2, 2, none⟩ (.bool false))) := ((HA.out.2.2.setCell (by show w.heap.size ≤ w.heap.size + 2; omega) _).setCell (by show w.heap.size ≤ w.heap.size + 2; omega) _).setCell (by show w.heap.size ≤ w.heap.size + 2; omega) _
    have HF1 : Hid (_ = _) := hF
    clear hF HU HQ
    go_enter Try.func7, Try.ntmps7
    go_wp2_with fail
    refine bodyPost_ret (v := .tuple #[.agg #[.int .i64 0, .slice none 0 0, .bool false], .int .i64 2]) (res_space2 _ _ (w.heap.size + 2) _ _ _ Try.results7 rfl HF1.out) rfl ?_
    exact ⟨_, by rw [e1.out.1, e1.out.2.1], by rw [e1.out.2.2]; rfl, HF.out⟩
  · have hnl : ¬ 2048 < L.length := by rw [HM.out]; omega
    cases hh : hulF c L with
    | none =>
      have e1 : Hid (ofE c L = 11 ∧ ofB c L = 0 ∧ ofT srt c L = none) := by
        refine ⟨?_, ?_, ?_⟩
        · unfold ofE; rw [if_neg hnl, if_pos hh]
        · unfold ofB; rw [if_neg hnl, if_pos hh]
        · unfold ofT; rw [if_neg hnl, if_pos hh]
      rw [hh] at HU
      clear hh hnl HQ
      go_enter Try.func7, Try.ntmps7
      go_wp2_with fail
      refine HU.out.mono ?_
      rintro e W1 ⟨rfl, hb1⟩
      unfold hulV cubeV cv
      have hz1 := keepblk3 hb1 HA.out.1
      obtain ⟨hcR, hfR⟩ := cells_block hz1
      have BW1 := bel0 HA.out.2.2 hb1
      have hcR2 : ∀ (o : Obj) j, (W1.alloc o).cell? ⟨w.heap.size + 2, j, none⟩ = (#[.int .i64 0, .slice none 0 0, .bool false] : Array Value)[j]? := fun o => (cells_block (allocblk3 hz1 o)).1
      have hfR2 : ∀ (o : Obj) j, (W1.alloc o).frozen? ⟨w.heap.size + 2, j, none⟩ = false := fun o => (cells_block (allocblk3 hz1 o)).2
      have HF1 : Hid (∀ o : Obj, ((((W1.alloc o).setCell ⟨w.heap.size + 2, 0, none⟩ (.int .i64 0)).setCell ⟨w.heap.size + 2, 1, none⟩ (.slice none 0 0)).setCell ⟨w.heap.size + 2, 2, none⟩ (.bool false)).heap[w.heap.size + 2]? = some (.cells #[.int .i64 0, .slice none 0 0, .bool false] 34 (0, 0)) ∧ Below w.heap.size w ((((W1.alloc o).setCell ⟨w.heap.size + 2, 0, none⟩ (.int .i64 0)).setCell ⟨w.heap.size + 2, 1, none⟩ (.slice none 0 0)).setCell ⟨w.heap.size + 2, 2, none⟩ (.bool false))) := fun o => ⟨keep3 (allocblk3 hz1 o) 0 (.slice none 0 0) false, (((belA BW1 o).setCell (by show w.heap.size ≤ w.heap.size + 2; omega) _).setCell (by show w.heap.size ≤ w.heap.size + 2; omega) _).setCell (by show w.heap.size ≤ w.heap.size + 2; omega) _⟩
      clear hz1 hca hcb hcs hfs HU HA hb1 hw1 hw2 hs1 hcR hfR
      go_wp2_with fail
      refine bodyPost_ret (v := .tuple #[.agg #[.int .i64 0, .slice none 0 0, .bool false], .int .i64 11]) (res_space2 _ _ (w.heap.size + 2) _ _ _ Try.results7 rfl (HF1.out _).1) rfl ?_
      exact ⟨_, by rw [e1.out.1, e1.out.2.1], by rw [e1.out.2.2]; rfl, (HF1.out _).2⟩
    | some H =>
      have e1 : Hid (ofE c L = gE c L ∧ ofB c L = gB c L ∧ ofT srt c L = gT srt c L) := by
        refine ⟨?_, ?_, ?_⟩
        · unfold ofE; rw [if_neg hnl, if_neg (by rw [hh]; simp)]
        · unfold ofB; rw [if_neg hnl, if_neg (by rw [hh]; simp)]
        · unfold ofT; rw [if_neg hnl, if_neg (by rw [hh]; simp)]
      rw [hh] at HU
      clear hh hnl
      go_enter Try.func7, Try.ntmps7
      go_wp2_with fail
      refine HU.out.mono ?_
      rintro e W1 ⟨rfl, hb1⟩
      unfold hulV cubeV cv
      have hz1 := keepblk3 hb1 HA.out.1
      have BW1 := bel0 HA.out.2.2 hb1
      have GV : Hid (∀ W, Below W1.heap.size W1 W → Calls Try.prog 14 #[.func (.func 15) #[] #[.pointer (some ⟨w.heap.size, 0, none⟩), .pointer (some ⟨w.heap.size + 1, 0, none⟩)]] W fun e w' => ∃ V, e = .returned (.tuple #[.agg #[.int .i64 (gB c L), V, .bool false], .int .i64 (gE c L)]) ∧ SPV w' W.heap.size V (gT srt c L) ∧ Below W.heap.size W w') := fun W hW => give_any srt HSO.out.1 HSO.out.2.1 c L q m k w.heap.size (w.heap.size + 1) W HM.out hm2 HSO.out.2.2.1 HSO.out.2.2.2 (HQ.out.later (bel0 BW1 hW)) ⟨keepblk3 hW (keepblk3 hb1 HA.out.2.1.1), keepblk3 hW (keepblk3 hb1 HA.out.2.1.2)⟩
      have HW : Hid (W1.heap[w.heap.size + 2]? = some (.cells #[.int .i64 0, .slice none 0 0, .bool false] 34 (0, 0)) ∧ Below w.heap.size w W1) := ⟨hz1, BW1⟩
      clear hz1 BW1 hca hcb hcs hfs HU HQ HSO hb1 hw1 hw2 hs1 HA
      go_wp2_with (go_at_call 14; refine (GV.out _ (belA (Below.refl _ _) _)).mono ?_)
      rintro e W2 ⟨V, rfl, sv, hb2⟩
      obtain ⟨p3, n3, c3, rfl⟩ := sv.shape
      have hblk := keepblk3 hb2 (allocblk3 HW.out.1 _)
      obtain ⟨hcR, hfR⟩ := cells_block hblk
      have HF1 : Hid (_ = _) := keep3 hblk (gB c L) (.slice p3 n3 c3) false
      have bw2 : Below w.heap.size w W2 := bel0 (belA HW.out.2 _) hb2
      have HF : Hid (Below w.heap.size w (((W2.setCell ⟨w.heap.size + 2, 0, none⟩ (.int .i64 (gB c L))).setCell ⟨w.heap.size + 2, 1, none⟩ (.slice p3 n3 c3)).setCell ⟨w.heap.size + 2, 2, none⟩ (.bool false)) ∧ SPV (((W2.setCell ⟨w.heap.size + 2, 0, none⟩ (.int .i64 (gB c L))).setCell ⟨w.heap.size + 2, 1, none⟩ (.slice p3 n3 c3)).setCell ⟨w.heap.size + 2, 2, none⟩ (.bool false)) w.heap.size (.slice p3 n3 c3) (gT srt c L)) := by
        have hlt := lt_of_get3 (allocblk3 HW.out.1 (.cells #[.int .i64 (H.length : Int), .int .u64 (FW H 0 : Int), .int .u64 (FW H 1 : Int), .int .u64 (FW H 2 : Int), .int .u64 (FW H 3 : Int), .int .u64 (OW H 0 : Int), .int .u64 (OW H 1 : Int), .int .u64 (OW H 2 : Int), .int .u64 (OW H 3 : Int)] 28 (0, 0)))
        refine ⟨((bw2.setCell (by show w.heap.size ≤ w.heap.size + 2; omega) _).setCell (by show w.heap.size ≤ w.heap.size + 2; omega) _).setCell (by show w.heap.size ≤ w.heap.size + 2; omega) _, ?_⟩
        exact (((sv.kept (set_gr3 _ (w.heap.size + 2) 0 _) hlt).kept (set_gr3 _ (w.heap.size + 2) 1 _) hlt).kept (set_gr3 _ (w.heap.size + 2) 2 _) hlt).base (by omega)
      clear hblk sv hb2 bw2 HW GV
      go_wp2_with fail
      refine bodyPost_ret (v := .tuple #[.agg #[.int .i64 (gB c L), .slice p3 n3 c3, .bool false], .int .i64 (gE c L)]) (res_space2 _ _ (w.heap.size + 2) _ _ _ Try.results7 rfl HF1.out) rfl ?_
      exact ⟨_, by rw [e1.out.1, e1.out.2.1], by rw [e1.out.2.2]; exact HF.out.2, HF.out.1⟩
end Go.Proofs.Ytbdnpbiimbeflaa
