import Derived.Test.YtfcdaljhbeogeaaRX
namespace Go.Proofs.Ytfcdaljhbeogeaa
open Go.RowKit
theorem IRR_blk {W : World} {g : Nat} {T : TypeId} {cs : Array Value} (L : List IRt) (h : W.heap[g]? = some (.cells cs T (0, 0))) (hc : cs.toList = rels L) : IRR W (some ⟨g, 0, none⟩) L := fun W' hW k r hr => by
  have h' := keepblk hW h
  have e : ∀ j : Nat, cs[j]? = (rels L)[j]? := fun j => by rw [← hc, Array.getElem?_toList]
  have c := fun m (hm : m < 4) => ((rblk_cells h').1 (k * 4 + m)).trans ((e _).trans (rels_get L k m hm))
  simp only [hr, Option.bind_some] at c
  exact ⟨g, 0, rfl, by rw [Nat.zero_add]; exact c 0 (by decide), by rw [Nat.zero_add]; exact c 1 (by decide), by rw [Nat.zero_add]; exact c 2 (by decide), by rw [Nat.zero_add]; exact c 3 (by decide)⟩
theorem IRI_blk {W : World} {g : Nat} {T : TypeId} {cs : Array Value} (V : List Int) (h : W.heap[g]? = some (.cells cs T (0, 0))) (hc : cs.toList = iv V) : IRI W (some ⟨g, 0, none⟩) V := fun W' hW k r hr => by
  have h' := keepblk hW h
  have c := (rblk_cells h').1 k
  rw [← Array.getElem?_toList, hc, iv, List.getElem?_map, hr] at c
  exact ⟨g, 0, rfl, by rw [Nat.zero_add]; exact c⟩
theorem aw_order {W : World} {g : Nat} (h : IRR W (some ⟨g, 0, none⟩) [(2, 8, 1, 2), (3, 8, 2, 3), (1, 8, 1, 1), (2, 0, 0, 5), (2, 8, 1, 4)]) : Calls Try.prog 16 #[.int .i64 4, .slice (some ⟨g, 0, none⟩) 5 5] W fun e w' => ∃ k c : Nat, e = .returned (.tuple #[.slice (some ⟨k, 0, none⟩) 3 c, .int .i64 0]) ∧ w'.ownsRow W.heap.size 59 4 (.slice (some ⟨k, 0, none⟩) 3 c) 3 (rels [(3, 8, 2, 3), (1, 8, 1, 1), (2, 0, 0, 5)]) ∧ Below W.heap.size W w' := by
  refine (bord_any 4 [(2, 8, 1, 2), (3, 8, 2, 3), (1, 8, 1, 1), (2, 0, 0, 5), (2, 8, 1, 4)] (some ⟨g, 0, none⟩) 5 W (by decide) h).mono ?_
  rintro e w' ⟨O, v, rfl, hO, ov, hb⟩
  obtain rfl := ordR_uniq aw_ord hO
  obtain ⟨q, c, rfl⟩ := shapeP ov
  obtain ⟨k, rfl⟩ := rown_at ov (by decide)
  exact ⟨k, c, by rw [aw_fit]; rfl, ov, hb⟩
theorem aw_lookup {W : World} {g : Nat} (h : IRR W (some ⟨g, 0, none⟩) [(2, 8, 1, 2), (3, 8, 2, 3), (1, 8, 1, 1), (2, 0, 0, 5), (2, 8, 1, 4)]) : Calls Try.prog 26 #[.int .i64 4, .slice (some ⟨g, 0, none⟩) 5 5, .int .i64 12] W fun e w' => e = .returned (.tuple #[.int .i64 2, .int .i64 0]) ∧ Below W.heap.size W w' := by
  have := blook_any 4 [(2, 8, 1, 2), (3, 8, 2, 3), (1, 8, 1, 1), (2, 0, 0, 5), (2, 8, 1, 4)] (some ⟨g, 0, none⟩) 5 12 W (by decide) h
  rw [aw_look] at this
  exact this
theorem aw_slimmed {W : World} {g : Nat} (h : IRR W (some ⟨g, 0, none⟩) [(2, 0, 0, 3), (2, 8, 1, 3)]) : Calls Try.prog 28 #[.int .i64 4, .slice (some ⟨g, 0, none⟩) 2 2] W fun e w' => ∃ k c : Nat, e = .returned (.tuple #[.slice (some ⟨k, 0, none⟩) 1 c, .int .i64 0]) ∧ w'.ownsRow W.heap.size 59 4 (.slice (some ⟨k, 0, none⟩) 1 c) 1 (rels [(2, 0, 0, 3)]) ∧ Below W.heap.size W w' := by
  refine (bslim_any 4 [(2, 0, 0, 3), (2, 8, 1, 3)] (some ⟨g, 0, none⟩) 2 W (by decide) h).mono ?_
  rintro e w' ⟨O, v, rfl, hO, ov, hb⟩
  obtain rfl := slimR_uniq aw_slim hO
  obtain ⟨q, c, rfl⟩ := shapeP ov
  obtain ⟨k, rfl⟩ := rown_at ov (by decide)
  exact ⟨k, c, by rw [aw_fit2]; rfl, ov, hb⟩
theorem aw_shortest {W : World} {g h : Nat} (hE : IRR W (some ⟨g, 0, none⟩) [(0, 1, 7, 4)]) (hD : IRI W (some ⟨h, 0, none⟩) [1]) : Calls Try.prog 10 #[.int .i64 2, .slice (some ⟨g, 0, none⟩) 1 1, .slice (some ⟨h, 0, none⟩) 1 1] W fun e w' => ∃ k c j d : Nat, e = .returned (.tuple #[.slice (some ⟨k, 0, none⟩) 2 c, .slice (some ⟨j, 0, none⟩) 2 d, .int .i64 0]) ∧ w'.ownsRow W.heap.size 3 1 (.slice (some ⟨k, 0, none⟩) 2 c) 2 (iv [7, 0]) ∧ w'.ownsRow W.heap.size 3 1 (.slice (some ⟨j, 0, none⟩) 2 d) 2 (iv [0, -1]) ∧ Below W.heap.size W w' := by
  refine (bshort_any 2 [(0, 1, 7, 4)] [1] (some ⟨g, 0, none⟩) (some ⟨h, 0, none⟩) 1 1 1 1 W rfl rfl hE hD).mono ?_
  rintro e w' ⟨A, B, va, vb, rfl, hs, oa, ob, hb⟩
  obtain ⟨rfl, rfl⟩ := shortR_uniq aw_short hs
  obtain ⟨q, c, rfl⟩ := shapeP oa
  obtain ⟨k, rfl⟩ := rown_at oa (by decide)
  obtain ⟨q, d, rfl⟩ := shapeP ob
  obtain ⟨j, rfl⟩ := rown_at ob (by decide)
  exact ⟨k, c, j, d, by rw [aw_gfit]; rfl, oa, ob, hb⟩
set_option maxRecDepth 100000 in
set_option maxHeartbeats 1000000 in
theorem example_any (w : World) : Calls Try.prog 39 #[] w fun e w' => ∃ g : Nat, e = .returned (.slice (some ⟨g, 0, none⟩) 5 5) ∧ IRR w' (some ⟨g, 0, none⟩) [(2, 8, 1, 2), (3, 8, 2, 3), (1, 8, 1, 1), (2, 0, 0, 5), (2, 8, 1, 4)] ∧ Below w.heap.size w w' := by
  go_enter Try.func39, Try.ntmps39
  go_wp2_with fail
  go_ret
  exact ⟨w.heap.size, rfl, IRR_blk _ (alloc_get _ _) rfl, (Below.refl _ _).alloc (Nat.le_refl _) _⟩
set_option maxRecDepth 100000 in
set_option maxHeartbeats 1000000 in
theorem awake_any (w : World) : Calls Try.prog 22 #[] w fun e w' => e = .returned (.bool true) ∧ Below w.heap.size w w' := by
  have HX : Hid (∀ w : World, Calls Try.prog 39 #[] w fun e w' => ∃ g : Nat, e = .returned (.slice (some ⟨g, 0, none⟩) 5 5) ∧ IRR w' (some ⟨g, 0, none⟩) [(2, 8, 1, 2), (3, 8, 2, 3), (1, 8, 1, 1), (2, 0, 0, 5), (2, 8, 1, 4)] ∧ Below w.heap.size w w') := example_any
  have HO : Hid (∀ (W : World) (g : Nat), IRR W (some ⟨g, 0, none⟩) [(2, 8, 1, 2), (3, 8, 2, 3), (1, 8, 1, 1), (2, 0, 0, 5), (2, 8, 1, 4)] → Calls Try.prog 16 #[.int .i64 4, .slice (some ⟨g, 0, none⟩) 5 5] W fun e w' => ∃ k c : Nat, e = .returned (.tuple #[.slice (some ⟨k, 0, none⟩) 3 c, .int .i64 0]) ∧ w'.ownsRow W.heap.size 59 4 (.slice (some ⟨k, 0, none⟩) 3 c) 3 (rels [(3, 8, 2, 3), (1, 8, 1, 1), (2, 0, 0, 5)]) ∧ Below W.heap.size W w') := fun _ _ h => aw_order h
  have HL : Hid (∀ (W : World) (g : Nat), IRR W (some ⟨g, 0, none⟩) [(2, 8, 1, 2), (3, 8, 2, 3), (1, 8, 1, 1), (2, 0, 0, 5), (2, 8, 1, 4)] → Calls Try.prog 26 #[.int .i64 4, .slice (some ⟨g, 0, none⟩) 5 5, .int .i64 12] W fun e w' => e = .returned (.tuple #[.int .i64 2, .int .i64 0]) ∧ Below W.heap.size W w') := fun _ _ h => aw_lookup h
  have HS : Hid (∀ (W : World) (g : Nat), IRR W (some ⟨g, 0, none⟩) [(2, 0, 0, 3), (2, 8, 1, 3)] → Calls Try.prog 28 #[.int .i64 4, .slice (some ⟨g, 0, none⟩) 2 2] W fun e w' => ∃ k c : Nat, e = .returned (.tuple #[.slice (some ⟨k, 0, none⟩) 1 c, .int .i64 0]) ∧ w'.ownsRow W.heap.size 59 4 (.slice (some ⟨k, 0, none⟩) 1 c) 1 (rels [(2, 0, 0, 3)]) ∧ Below W.heap.size W w') := fun _ _ h => aw_slimmed h
  have HH : Hid (∀ (W : World) (g h : Nat), IRR W (some ⟨g, 0, none⟩) [(0, 1, 7, 4)] → IRI W (some ⟨h, 0, none⟩) [1] → Calls Try.prog 10 #[.int .i64 2, .slice (some ⟨g, 0, none⟩) 1 1, .slice (some ⟨h, 0, none⟩) 1 1] W fun e w' => ∃ k c j d : Nat, e = .returned (.tuple #[.slice (some ⟨k, 0, none⟩) 2 c, .slice (some ⟨j, 0, none⟩) 2 d, .int .i64 0]) ∧ w'.ownsRow W.heap.size 3 1 (.slice (some ⟨k, 0, none⟩) 2 c) 2 (iv [7, 0]) ∧ w'.ownsRow W.heap.size 3 1 (.slice (some ⟨j, 0, none⟩) 2 d) 2 (iv [0, -1]) ∧ Below W.heap.size W w') := fun _ _ _ h1 h2 => aw_shortest h1 h2
  go_enter Try.func22, Try.ntmps22
  go_wp2_with fail
  refine (HX.out _).mono ?_
  rintro e W1 ⟨g1, rfl, ir1, hb1⟩
  have HO1 : Hid (Calls Try.prog 16 #[.int .i64 4, .slice (some ⟨g1, 0, none⟩) 5 5] W1 fun e w' => ∃ k c : Nat, e = .returned (.tuple #[.slice (some ⟨k, 0, none⟩) 3 c, .int .i64 0]) ∧ w'.ownsRow W1.heap.size 59 4 (.slice (some ⟨k, 0, none⟩) 3 c) 3 (rels [(3, 8, 2, 3), (1, 8, 1, 1), (2, 0, 0, 5)]) ∧ Below W1.heap.size W1 w') := HO.out W1 g1 ir1
  clear ir1 HO
  go_wp2_with fail
  refine HO1.out.mono ?_
  rintro e W2 ⟨gl, cl, rfl, ol, hb2⟩
  have HOL : Hid (W2.ownsRow W1.heap.size 59 4 (.slice (some ⟨gl, 0, none⟩) 3 cl) 3 (rels [(3, 8, 2, 3), (1, 8, 1, 1), (2, 0, 0, 5)])) := ol
  clear ol HO1
  go_wp2_with fail
  refine (HX.out _).mono ?_
  rintro e W3 ⟨g3, rfl, ir3, hb3⟩
  have HL3 : Hid (Calls Try.prog 26 #[.int .i64 4, .slice (some ⟨g3, 0, none⟩) 5 5, .int .i64 12] W3 fun e w' => e = .returned (.tuple #[.int .i64 2, .int .i64 0]) ∧ Below W3.heap.size W3 w') := HL.out W3 g3 ir3
  clear ir3 HL
  go_wp2_with fail
  refine HL3.out.mono ?_
  rintro e W4 ⟨rfl, hb4⟩
  clear HL3
  have hB4 := bel0 hb1 (bel0 hb2 (bel0 hb3 hb4))
  have hC4 := bel0 hb3 hb4
  clear hb1 hb2 hb3 hb4
  go_wp2_with fail
  refine (HS.out _ _ (IRR_blk _ (alloc_get _ _) rfl)).mono ?_
  rintro e W5 ⟨gs, cs, rfl, os, hb5⟩
  have hb5' := bel0 ((Below.refl W4.heap.size W4).alloc (Nat.le_refl _) _) hb5
  have HOS : Hid (∃ B, W5.ownsRow B 59 4 (.slice (some ⟨gs, 0, none⟩) 1 cs) 1 (rels [(2, 0, 0, 3)])) := ⟨_, os⟩
  have hB5 := bel0 hB4 hb5'
  have hC5 := bel0 hC4 hb5'
  clear os hb5 hb5' hB4 hC4 HS
  go_wp2_with fail
  refine (HH.out _ _ _ (IRR_blk _ (allocblk (alloc_get _ _) _) rfl) (IRI_blk _ (ralloc_two _ _ _) rfl)).mono ?_
  rintro e W6 ⟨gf, cf, gt, ct, rfl, of, ot, hb6⟩
  have hb6' := bel0 (bel0 ((Below.refl W5.heap.size W5).alloc (Nat.le_refl _) _) ((Below.refl _ _).alloc (Nat.le_refl _) _)) hb6
  have a1 := (rel_at (owns_below HOL.out (bel0 hC5 hb6')) (k := 1) (t := (1, 8, 1, 1)) rfl).1
  have a2 : W6.cell? ⟨gs, 2, none⟩ = some (.int .i64 0) := by
    obtain ⟨B, os⟩ := HOS.out
    exact (rel_at (owns_below os hb6') (k := 0) (t := (2, 0, 0, 3)) rfl).2.2.1
  have a3 : W6.cell? ⟨gf, 0, none⟩ = some (.int .i64 7) := iv_at of rfl
  have a4 : W6.cell? ⟨gt, 0, none⟩ = some (.int .i64 0) := iv_at ot rfl
  have hB6 := bel0 hB5 hb6'
  clear of ot hb6 hb6' HOL HOS HH HX
  replace a1 : W6.cell? ⟨gl, 4, none⟩ = some (.int .i64 1) := a1
  go_wp2_with fail
  go_ret
  exact ⟨rfl, hB6⟩
end Go.Proofs.Ytfcdaljhbeogeaa
