import Derived.Test.YtbdnpbiimbeflaaQJ
namespace Go.Proofs.Ytbdnpbiimbeflaa
open Go.RowKit Go.Shelf
set_option maxRecDepth 100000 in
theorem width_any (c : List UInt8) (w : World) (gc : good c = true) : Calls Try.prog 17 #[.agg #[.int .i64 (c.length : Int), .int .u64 (FW c 0 : Int), .int .u64 (FW c 1 : Int), .int .u64 (FW c 2 : Int), .int .u64 (FW c 3 : Int), .int .u64 (OW c 0 : Int), .int .u64 (OW c 1 : Int), .int .u64 (OW c 2 : Int), .int .u64 (OW c 3 : Int)]] w fun e w' => e = .returned (.int .i64 (c.length : Int)) ∧ Below w.heap.size w w' := by
  obtain ⟨w2, hw2⟩ : ∃ w2, w.alloc (.cells #[.int .i64 (c.length : Int), .int .u64 (FW c 0 : Int), .int .u64 (FW c 1 : Int), .int .u64 (FW c 2 : Int), .int .u64 (FW c 3 : Int), .int .u64 (OW c 0 : Int), .int .u64 (OW c 1 : Int), .int .u64 (OW c 2 : Int), .int .u64 (OW c 3 : Int)] 28 (0, 0)) = w2 := ⟨_, rfl⟩
  have hA : w2.heap[w.heap.size]? = some (.cells #[.int .i64 (c.length : Int), .int .u64 (FW c 0 : Int), .int .u64 (FW c 1 : Int), .int .u64 (FW c 2 : Int), .int .u64 (FW c 3 : Int), .int .u64 (OW c 0 : Int), .int .u64 (OW c 1 : Int), .int .u64 (OW c 2 : Int), .int .u64 (OW c 3 : Int)] 28 (0, 0)) := by rw [← hw2]; exact alloc_get _ _
  have hB2 : Below w.heap.size w w2 := by rw [← hw2]; exact belA (Below.refl _ _) _
  obtain ⟨hcT, -⟩ := cells_block hA
  have hl : c.length ≤ 256 := by
    have := gc
    unfold good at this
    simp at this
    exact this.1
  have H1 : Calls Try.prog 28 #[.agg #[.int .i64 (c.length : Int), .int .u64 (FW c 0 : Int), .int .u64 (FW c 1 : Int), .int .u64 (FW c 2 : Int), .int .u64 (FW c 3 : Int), .int .u64 (OW c 0 : Int), .int .u64 (OW c 1 : Int), .int .u64 (OW c 2 : Int), .int .u64 (OW c 3 : Int)]] w2 fun e w' => e = .returned (.string ⟨c.toArray⟩) ∧ Below w2.heap.size w2 w' := text_any c w2 gc
  have h2 : (⟨c.toArray⟩ : ByteArray).size = c.length := by simp [ByteArray.size]
  clear hA
  go_enter Try.func17, Try.ntmps17
  go_wp2_with fail
  refine H1.mono ?_
  rintro e W1 ⟨rfl, hb1⟩
  go_wp2_with fail
  go_ret
  exact ⟨by simp, bel0 hB2 hb1⟩
theorem far3 {W : World} {a b : Nat} {x : Option Value} {i : Nat} (v0 v1 v2 : Value) (hne : a ≠ b) (h : W.cell? ⟨a, i, none⟩ = x) : (((W.setCell ⟨b, 0, none⟩ v0).setCell ⟨b, 1, none⟩ v1).setCell ⟨b, 2, none⟩ v2).cell? ⟨a, i, none⟩ = x := by
  have ne2 : ∀ k : Nat, (⟨b, k, none⟩ : Addr) ≠ ⟨a, i, none⟩ := fun k e => hne (by injection e with e; exact e.symm)
  iterate 3 rw [World.cell?_setCell_other _ _ _ _ (ne2 _)]
  exact h
/-- what Of's closure holds -/
def OQ (W : World) (bc bl : Nat) (c : List UInt8) (q : Option Addr) (m k : Nat) : Prop := W.heap[bc]? = some (.cells #[.int .i64 (c.length : Int), .int .u64 (FW c 0 : Int), .int .u64 (FW c 1 : Int), .int .u64 (FW c 2 : Int), .int .u64 (FW c 3 : Int), .int .u64 (OW c 0 : Int), .int .u64 (OW c 1 : Int), .int .u64 (OW c 2 : Int), .int .u64 (OW c 3 : Int)] 28 (0, 0)) ∧ W.heap[bl]? = some (.cells #[.slice q m k] 23 (0, 0))
theorem formed_none (srt : List (List UInt8) → List (List UInt8)) (hso : SortOK srt) (hsl : ∀ L, (srt L).length = L.length) (c : List UInt8) (L : List (List UInt8)) (q : Option Addr) (m k : Nat) (w : World) (hm : L.length = m) (hm2 : m ≤ 1000000) (gc : good c = true) (gL : ∀ x ∈ L, good x = true) (hq : IRC w q L) (hN : setO c L = none) (p : Option Addr) (cp : Nat) (W : World) (hW : Below w.heap.size w W) (hr : IRT W p [⟨c, q, m, k⟩]) : Calls Try.prog 16 #[.int .i64 (c.length : Int), .slice p 1 cp] W fun e w' => Below W.heap.size W w' ∧ e = .returned (.agg #[.int .i64 (c.length : Int), .slice none 0 0, .bool false]) := by
  refine (formed_one srt hso hsl (c.length : Int) ⟨c, q, m, k⟩ L p cp W hm hm2 gc gL hr (hq.later hW)).mono ?_
  rintro e w' ⟨hb, h⟩
  refine ⟨hb, ?_⟩
  rcases h with ⟨h1, h2⟩ | ⟨R1, h1, h2, h3⟩ | ⟨R1, h1, h2, h3⟩
  · exact h2
  · rw [hN] at h1; cases h1
  · rw [hN] at h1; cases h1
theorem formed_some (srt : List (List UInt8) → List (List UInt8)) (hso : SortOK srt) (hsl : ∀ L, (srt L).length = L.length) (c : List UInt8) (L : List (List UInt8)) (q : Option Addr) (m k : Nat) (w : World) (hm : L.length = m) (hm2 : m ≤ 1000000) (gc : good c = true) (gL : ∀ x ∈ L, good x = true) (hq : IRC w q L) (R : List (List UInt8)) (hN : setO c L = some R) (hle : 1 + R.length ≤ 128) (p : Option Addr) (cp : Nat) (W : World) (hW : Below w.heap.size w W) (hr : IRT W p [⟨c, q, m, k⟩]) : Calls Try.prog 16 #[.int .i64 (c.length : Int), .slice p 1 cp] W fun e w' => Below W.heap.size W w' ∧ ∃ V v, e = .returned (.agg #[.int .i64 (c.length : Int), V, .bool false]) ∧ w'.ownsRow W.heap.size 54 10 V 1 ([.int .i64 (c.length : Int), .int .u64 (FW c 0 : Int), .int .u64 (FW c 1 : Int), .int .u64 (FW c 2 : Int), .int .u64 (FW c 3 : Int), .int .u64 (OW c 0 : Int), .int .u64 (OW c 1 : Int), .int .u64 (OW c 2 : Int), .int .u64 (OW c 3 : Int), v]) ∧ w'.ownsRow W.heap.size 28 9 v R.length (ces (srt R)) := by
  refine (formed_one srt hso hsl (c.length : Int) ⟨c, q, m, k⟩ L p cp W hm hm2 gc gL hr (hq.later hW)).mono ?_
  rintro e w' ⟨hb, h⟩
  refine ⟨hb, ?_⟩
  rcases h with ⟨h1, h2⟩ | ⟨R1, h1, h2, h3⟩ | ⟨R1, h1, h2, h3⟩
  · rw [hN] at h1; cases h1
  · rw [hN] at h1
    obtain rfl := Option.some.inj h1
    exact h3
  · rw [hN] at h1
    obtain rfl := Option.some.inj h1
    omega
theorem formed_over (srt : List (List UInt8) → List (List UInt8)) (hso : SortOK srt) (hsl : ∀ L, (srt L).length = L.length) (c : List UInt8) (L : List (List UInt8)) (q : Option Addr) (m k : Nat) (w : World) (hm : L.length = m) (hm2 : m ≤ 1000000) (gc : good c = true) (gL : ∀ x ∈ L, good x = true) (hq : IRC w q L) (R : List (List UInt8)) (hN : setO c L = some R) (hgt : 128 < 1 + R.length) (p : Option Addr) (cp : Nat) (W : World) (hW : Below w.heap.size w W) (hr : IRT W p [⟨c, q, m, k⟩]) : Calls Try.prog 16 #[.int .i64 (c.length : Int), .slice p 1 cp] W fun e w' => Below W.heap.size W w' ∧ e = .panicked [{ v := .iface 67 (.agg #[]), recovered := false }] := by
  refine (formed_one srt hso hsl (c.length : Int) ⟨c, q, m, k⟩ L p cp W hm hm2 gc gL hr (hq.later hW)).mono ?_
  rintro e w' ⟨hb, h⟩
  refine ⟨hb, ?_⟩
  rcases h with ⟨h1, h2⟩ | ⟨R1, h1, h2, h3⟩ | ⟨R1, h1, h2, h3⟩
  · rw [hN] at h1; cases h1
  · rw [hN] at h1
    obtain rfl := Option.some.inj h1
    omega
  · exact h3
end Go.Proofs.Ytbdnpbiimbeflaa
