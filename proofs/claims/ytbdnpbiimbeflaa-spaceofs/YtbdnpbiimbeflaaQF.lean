import Derived.Test.YtbdnpbiimbeflaaQE
namespace Go.Proofs.Ytbdnpbiimbeflaa
open Go.RowKit
theorem IRT_one {W : World} {B c : Nat} {p : Option Addr} {t : TRM} (h : W.ownsRow B 54 10 (.slice p 1 c) 1 ([.int .i64 (t.c.length : Int), .int .u64 (FW t.c 0 : Int), .int .u64 (FW t.c 1 : Int), .int .u64 (FW t.c 2 : Int), .int .u64 (FW t.c 3 : Int), .int .u64 (OW t.c 0 : Int), .int .u64 (OW t.c 1 : Int), .int .u64 (OW t.c 2 : Int), .int .u64 (OW t.c 3 : Int), .slice t.q t.m t.k])) : IRT W p [t] := fun X hX k u hu => by
  cases k with
  | succ k => simp at hu
  | zero =>
    obtain rfl : t = u := by simpa using hu
    rcases h.2 with ⟨e, h0⟩ | ⟨g, cap, cur, e, _⟩
    · omega
    · injection e with e1 _ _
      subst e1
      have cc : ∀ j, j < 10 → W.cell? ⟨g, j, none⟩ = ([.int .i64 (t.c.length : Int), .int .u64 (FW t.c 0 : Int), .int .u64 (FW t.c 1 : Int), .int .u64 (FW t.c 2 : Int), .int .u64 (FW t.c 3 : Int), .int .u64 (OW t.c 0 : Int), .int .u64 (OW t.c 1 : Int), .int .u64 (OW t.c 2 : Int), .int .u64 (OW t.c 3 : Int), .slice t.q t.m t.k] : List Value)[j]? := fun j hj => h.cellAt j (by omega)
      have hk : ∀ {p : Addr} {v : Value}, W.cell? p = some v → X.cell? p = some v := fun h => (hX.cell (World.block_lt_of_cell? W _ h)).trans h
      refine ⟨g, 0, rfl, ⟨hk (cc 0 (by omega)), hk (cc 1 (by omega)), hk (cc 2 (by omega)), hk (cc 3 (by omega)), hk (cc 4 (by omega)), hk (cc 5 (by omega)), hk (cc 6 (by omega)), hk (cc 7 (by omega)), hk (cc 8 (by omega))⟩, hk (cc 9 (by omega))⟩
set_option maxRecDepth 100000 in
theorem greatT_nil (w : World) : Calls Try.prog 44 #[.slice none 0 0, .func (.func 45) #[] #[]] w fun e w' => e = .returned (.slice none 0 0) ∧ Below w.heap.size w w' := by
  go_enter Try.func44, Try.ntmps44
  go_wp2_with fail
  go_loopw [5, 10] (fun v5 v10 wr => v5 = .slice none 0 0 ∧ v10 = .int .i64 0 ∧ Below w.heap.size w wr) (fun _ _ _ => 0)
  case atStart => exact ⟨rfl, rfl, belA (Below.refl _ _) _⟩
  case round =>
    obtain ⟨rfl, rfl, hB⟩ := hrel
    go_wp2_with fail
    go_ret
    exact ⟨rfl, hB⟩
set_option maxRecDepth 100000 in
set_option maxHeartbeats 1000000 in
theorem topmost_nil (w : World) : Calls Try.prog 27 #[.slice none 0 0] w fun e w' => e = .returned (.slice none 0 0) ∧ Below w.heap.size w w' := by
  have H1 := greatT_nil w
  go_enter Try.func27, Try.ntmps27
  go_wp2_with fail
  refine H1.mono ?_
  rintro e W1 ⟨rfl, hb1⟩
  clear H1
  have H2 := size_any [] 0 none 0 W1 rfl (by omega) (by simp [szT]) (fun W hW k t ht => by simp at ht)
  go_wp2_with fail
  refine H2.mono ?_
  rintro e W2 ⟨rfl, hb2⟩
  clear H2
  go_wp2_with fail
  refine (spend_ok (szT [] : Int) 128 W2 (by simp [szT])).mono ?_
  rintro e W3 ⟨rfl, rfl⟩
  go_wp2_with fail
  go_ret
  exact ⟨rfl, bel0 hb1 hb2⟩
set_option maxRecDepth 100000 in
set_option maxHeartbeats 1000000 in
theorem topmost_one (t : TRM) (p : Option Addr) (c : Nat) (w : World) (hr : IRT w p [t]) (hm : t.m ≤ 1000000) :
    Calls Try.prog 27 #[.slice p 1 c] w fun e w' => Below w.heap.size w w' ∧ ((1 + t.m ≤ 128 ∧ ∃ v, e = .returned v ∧ w'.ownsRow w.heap.size 54 10 v 1 ([.int .i64 (t.c.length : Int), .int .u64 (FW t.c 0 : Int), .int .u64 (FW t.c 1 : Int), .int .u64 (FW t.c 2 : Int), .int .u64 (FW t.c 3 : Int), .int .u64 (OW t.c 0 : Int), .int .u64 (OW t.c 1 : Int), .int .u64 (OW t.c 2 : Int), .int .u64 (OW t.c 3 : Int), .slice t.q t.m t.k])) ∨ (128 < 1 + t.m ∧ e = .panicked [{ v := .iface 67 (.agg #[]), recovered := false }])) := by
  have H1 := greatT_one t p c w hr
  have HM : Hid (t.m ≤ 1000000) := hm
  clear hr hm
  go_enter Try.func27, Try.ntmps27
  go_wp2_with fail
  refine H1.mono ?_
  rintro e W1 ⟨v, rfl, ho, hb1⟩
  clear H1
  obtain ⟨p1, c1, rfl⟩ := shapeQ1 ho
  have hz : szT [t] = 1 + t.m := by simp [szT]
  have H2 := size_any [t] 1 p1 c1 W1 rfl (by omega) (by rw [hz]; have := HM.out; omega) (IRT_one ho)
  rw [hz] at H2
  have HO : Hid (W1.ownsRow w.heap.size 54 10 (.slice p1 1 c1) 1 ([.int .i64 (t.c.length : Int), .int .u64 (FW t.c 0 : Int), .int .u64 (FW t.c 1 : Int), .int .u64 (FW t.c 2 : Int), .int .u64 (FW t.c 3 : Int), .int .u64 (OW t.c 0 : Int), .int .u64 (OW t.c 1 : Int), .int .u64 (OW t.c 2 : Int), .int .u64 (OW t.c 3 : Int), .slice t.q t.m t.k])) := ho
  clear ho hz
  go_wp2_with fail
  refine H2.mono ?_
  rintro e W2 ⟨rfl, hb2⟩
  clear H2
  go_wp2_with fail
  by_cases hle : 1 + t.m ≤ 128
  · refine (spend_ok ((1 + t.m : Nat) : Int) 128 W2 (by omega)).mono ?_
    rintro e W3 ⟨rfl, rfl⟩
    go_wp2_with fail
    go_ret
    exact ⟨bel0 hb1 hb2, .inl ⟨hle, _, rfl, own_belQ HO.out hb2⟩⟩
  · refine (spend_over ((1 + t.m : Nat) : Int) 128 W2 (by omega)).mono ?_
    rintro e W3 ⟨rfl, rfl⟩
    have HB : Hid (Below w.heap.size w W3) := bel0 hb1 hb2
    go_wp2_with fail
    exact ⟨rfl, HB.out, .inr ⟨by omega, rfl⟩⟩
end Go.Proofs.Ytbdnpbiimbeflaa
