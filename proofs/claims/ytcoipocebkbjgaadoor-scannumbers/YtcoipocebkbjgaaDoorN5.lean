import Derived.Test.YtcoipocebkbjgaaDoorN4
namespace Go.Proofs.YtcoipocebkbjgaaDoor
open Go.RowKit
theorem numL_258 : numL 258 true = [48, 46, 48, 46, 49, 46, 50] := by
  have d : ∀ k, k < 10 → Lib.decDigits k = [UInt8.ofNat (48 + k)] := fun k hk => by rw [Lib.decDigits, dif_pos hk]
  unfold numL quadL
  rw [if_neg (by decide), if_pos rfl]
  show Lib.decDigits 0 ++ [46] ++ Lib.decDigits 0 ++ [46] ++ Lib.decDigits 1 ++ [46] ++ Lib.decDigits 2 = _
  rw [d 0 (by decide), d 1 (by decide), d 2 (by decide)]
  rfl
set_option maxRecDepth 100000 in
theorem scanNumbers_walk (v : Int) (d : Bool) (w : World) (htab0 : Lib.TabIs Tryd.prog w "internal/strconv.uint64pow10" .u64 Lib.pow10Tab) :
    Calls Tryd.prog 3 #[.int .i64 v, .bool d] w fun e w' => e = .returned (.bool true) ∧ Below w.heap.size w w' := by
  have htab : Hid (Lib.TabIs Tryd.prog w "internal/strconv.uint64pow10" .u64 Lib.pow10Tab) := htab0
  clear htab0
  obtain ⟨L, hL⟩ : ∃ L, numL v d = L := ⟨_, rfl⟩
  obtain ⟨E, hE⟩ : ∃ E, numE v = E := ⟨_, rfl⟩
  have c1 : Hid (∀ W, Below w.heap.size w W → Calls Tryd.prog 9 #[.int .i64 v, .bool d] W fun e w' => e = .returned (.tuple #[.string ⟨L.toArray⟩, .int .i64 E]) ∧ Below w.heap.size w w') := fun W hW => by
    rw [← hL, ← hE]
    exact (number_any v d W (tab_below htab.out hW)).mono (fun e w' h => ⟨h.1, bel0 hW h.2⟩)
  have c2 : Hid (∀ W, Below w.heap.size w W → Calls Tryd.prog 10 #[.int .i64 v, .bool d] W fun e w' => e = .returned (.tuple #[.string ⟨L.toArray⟩, .int .i64 E]) ∧ Below w.heap.size w w') := fun W hW => by
    rw [← hL, ← hE]
    exact (refNumber_any v d W).mono (fun e w' h => ⟨h.1, bel0 hW h.2⟩)
  have c3 : Hid (∀ W, Below w.heap.size w W → Calls Tryd.prog 9 #[.int .i64 258, .bool true] W fun e w' => e = .returned (.tuple #[.string ⟨#[48, 46, 48, 46, 49, 46, 50]⟩, .int .i64 0]) ∧ Below w.heap.size w w') := fun W hW => by
    have h := number_any 258 true W (tab_below htab.out hW)
    rw [numL_258] at h
    exact h.mono (fun e w' h => ⟨h.1, bel0 hW h.2⟩)
  clear hL hE
  go_enter Tryd.func3, Tryd.ntmps3
  go_wp2_with fail
  refine (c1.out _ (Below.refl _ _)).mono ?_
  rintro e W1 ⟨rfl, hb1⟩
  go_wp2_with fail
  refine (c2.out _ hb1).mono ?_
  rintro e W2 ⟨rfl, hb2⟩
  go_wp2_with fail
  refine (c3.out _ hb2).mono ?_
  rintro e W3 ⟨rfl, hb3⟩
  go_wp2
  go_ret
  exact ⟨rfl, hb3⟩
end Go.Proofs.YtcoipocebkbjgaaDoor
