import Derived.Test.YtbdnpbiimbeflaaQR
namespace Go.Proofs.Ytbdnpbiimbeflaa
open Go.RowKit Go.Shelf
/-- an operation that ends the region leaves nothing to walk -/
theorem dummyQ {X : Prop} {P : Program} {md : Region.Mode} {a : Act} {w : World} (hx : X) (_ : wpAny P md #[] (fun _ _ _ => True) 0 #[] a w) : X := hx
set_option maxRecDepth 100000 in
set_option maxHeartbeats 4000000 in
theorem of1_over (srt : List (List UInt8) → List (List UInt8)) (hso : SortOK srt) (hsl : ∀ L, (srt L).length = L.length) (c : List UInt8) (L : List (List UInt8)) (q : Option Addr) (m k bc bl : Nat) (w : World) (hm : L.length = m) (hm2 : m ≤ 1000000) (gc : good c = true) (gL : ∀ x ∈ L, good x = true) (hq : IRC w q L) (ho : OQ w bc bl c q m k) (R : List (List UInt8)) (hN : setO c L = some R) (hgt : 128 < 1 + R.length) : Calls Try.prog 15 #[.pointer (some ⟨bc, 0, none⟩), .pointer (some ⟨bl, 0, none⟩)] w fun e w' => Below w.heap.size w w' ∧ e = .panicked [{ v := .iface 67 (.agg #[]), recovered := false }] := by
  obtain ⟨w2, hw2⟩ : ∃ w2, w.alloc (.cells #[.int .i64 0, .slice none 0 0, .bool false] 34 (0, 0)) = w2 := ⟨_, rfl⟩
  have hA : w2.heap[w.heap.size]? = some (.cells #[.int .i64 0, .slice none 0 0, .bool false] 34 (0, 0)) := by rw [← hw2]; exact alloc_get _ _
  have hB2 : Below w.heap.size w w2 := by rw [← hw2]; exact belA (Below.refl _ _) _
  have HA : Hid (w2.heap[w.heap.size]? = some (.cells #[.int .i64 0, .slice none 0 0, .bool false] 34 (0, 0)) ∧ Below w.heap.size w w2) := ⟨hA, hB2⟩
  have HK : Hid (∀ W, Below w2.heap.size w2 W → (∀ j, W.cell? ⟨bc, j, none⟩ = (#[.int .i64 (c.length : Int), .int .u64 (FW c 0 : Int), .int .u64 (FW c 1 : Int), .int .u64 (FW c 2 : Int), .int .u64 (FW c 3 : Int), .int .u64 (OW c 0 : Int), .int .u64 (OW c 1 : Int), .int .u64 (OW c 2 : Int), .int .u64 (OW c 3 : Int)] : Array Value)[j]?) ∧ W.cell? ⟨bl, 0, none⟩ = some (.slice q m k)) := fun W hW => ⟨(cells_block (keepblk3 (bel0 hB2 hW) ho.1)).1, (cells_block (keepblk3 (bel0 hB2 hW) ho.2)).1 0⟩
  have HWI : Hid (∀ W, Calls Try.prog 17 #[.agg #[.int .i64 (c.length : Int), .int .u64 (FW c 0 : Int), .int .u64 (FW c 1 : Int), .int .u64 (FW c 2 : Int), .int .u64 (FW c 3 : Int), .int .u64 (OW c 0 : Int), .int .u64 (OW c 1 : Int), .int .u64 (OW c 2 : Int), .int .u64 (OW c 3 : Int)]] W fun e w' => e = .returned (.int .i64 (c.length : Int)) ∧ Below W.heap.size W w') := fun W => width_any c W gc
  have HF : Hid (∀ (W : World) (g : Nat), Below w2.heap.size w2 W → W.heap[g]? = some (.cells #[.int .i64 (c.length : Int), .int .u64 (FW c 0 : Int), .int .u64 (FW c 1 : Int), .int .u64 (FW c 2 : Int), .int .u64 (FW c 3 : Int), .int .u64 (OW c 0 : Int), .int .u64 (OW c 1 : Int), .int .u64 (OW c 2 : Int), .int .u64 (OW c 3 : Int), .slice q m k] 54 (0, 0)) → Calls Try.prog 16 #[.int .i64 (c.length : Int), .slice (some ⟨g, 0, none⟩) 1 1] W fun e w' => Below W.heap.size W w' ∧ e = .panicked [{ v := .iface 67 (.agg #[]), recovered := false }]) := fun W g hW hg => formed_over srt hso hsl c L q m k w hm hm2 gc gL hq R hN hgt _ _ _ (bel0 hB2 hW) (IRT_one (B := 0) (t := ⟨c, q, m, k⟩) ⟨rfl, .inr ⟨g, 1, _, rfl, Nat.zero_le _, hg, by omega, by unfold maxLen; omega, rfl, rfl⟩⟩)
  have hne1 : bc ≠ w.heap.size := Nat.ne_of_lt (lt_of_get3 ho.1)
  have hne2 : bl ≠ w.heap.size := Nat.ne_of_lt (lt_of_get3 ho.2)
  obtain ⟨k0a, k0b⟩ := HK.out w2 (Below.refl _ _)
  obtain ⟨k1a, k1b⟩ := HK.out w2.drew (Below.refl _ _).drew
  obtain ⟨k2a, k2b⟩ := HK.out (w2.alloc (.cells #[.int .i64 (c.length : Int), .int .u64 (FW c 0 : Int), .int .u64 (FW c 1 : Int), .int .u64 (FW c 2 : Int), .int .u64 (FW c 3 : Int), .int .u64 (OW c 0 : Int), .int .u64 (OW c 1 : Int), .int .u64 (OW c 2 : Int), .int .u64 (OW c 3 : Int), .slice q m k] 54 (0, 0))).drew (belA (Below.refl _ _) _).drew
  clear hA hB2 ho hq gL gc hm hso hsl
  go_enter Try.func15, Try.ntmps15
  go_upto_region 1 with fail
  clear hw2
  go_region_with (first | (go_at_call 17; refine (HWI.out _).mono ?_; rintro e w5 ⟨rfl, hb5⟩; have hb5' : Below w2.heap.size w2 w5 := (by first | exact hb5 | exact und hb5 | exact bel0 (belA (Below.refl _ _) _).drew hb5); obtain ⟨k5a, k5b⟩ := HK.out w5 hb5'; obtain ⟨k6a, k6b⟩ := HK.out (w5.alloc (.cells #[.int .i64 (c.length : Int), .int .u64 (FW c 0 : Int), .int .u64 (FW c 1 : Int), .int .u64 (FW c 2 : Int), .int .u64 (FW c 3 : Int), .int .u64 (OW c 0 : Int), .int .u64 (OW c 1 : Int), .int .u64 (OW c 2 : Int), .int .u64 (OW c 3 : Int), .slice q m k] 54 (0, 0))) (belA hb5' _)) | (go_at_call 16; refine (HF.out _ _ (by first | exact hb5' | exact belA hb5' _) (by first | exact alloc_get _ _ | exact keepblk3 hb5 (alloc_get w2 _))).mono ?_; rintro e w8 ⟨hb8, rfl⟩; have hb9 : Below w2.heap.size w2 w8 := (by first | exact bel0 hb5' hb8 | exact bel0 (belA hb5' _) hb8); refine dummyQ (P := Try.prog) (md := default) (a := ⟨#[], []⟩) (w := w8) ⟨rfl, bel0 HA.out.2 hb9, rfl⟩ ?_))
  all_goals trivial
end Go.Proofs.Ytbdnpbiimbeflaa
