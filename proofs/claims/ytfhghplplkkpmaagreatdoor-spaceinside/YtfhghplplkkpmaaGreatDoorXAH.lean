import Derived.Test.YtfhghplplkkpmaaGreatDoorXAG
import Derived.Shelf.Small.Strs
import Derived.Ground.NamesProg
import Derived.Test.YtfhghplplkkpmaaGreatDoorProg
import Derived.Shelf.Small.Bits
namespace Go.Proofs.YtfhghplplkkpmaaGreatDoor
open Go.RowKit
theorem IRT_one {W : World} {B c : Nat} {p : Option Addr} {t : TRM} (h : W.ownsRow B 62 10 (.slice p 1 c) 1 ([.int .i64 (t.c.length : Int), .int .u64 (FW t.c 0 : Int), .int .u64 (FW t.c 1 : Int), .int .u64 (FW t.c 2 : Int), .int .u64 (FW t.c 3 : Int), .int .u64 (OW t.c 0 : Int), .int .u64 (OW t.c 1 : Int), .int .u64 (OW t.c 2 : Int), .int .u64 (OW t.c 3 : Int), .slice t.q t.m t.k])) : IRT W p [t] := fun X hX k u hu => by
  cases k with
  | succ k => simp at hu
  | zero =>
    obtain rfl : t = u := by simpa using hu
    rcases h.2 with ⟨e, h0⟩ | ⟨g, cap, cur, e, _⟩
    · omega
    · injection e with e1 _ _
      subst e1
      have cc : ∀ j, j < 10 → W.cell? ⟨g, j, none⟩ = ([.int .i64 (t.c.length : Int), .int .u64 (FW t.c 0 : Int), .int .u64 (FW t.c 1 : Int), .int .u64 (FW t.c 2 : Int), .int .u64 (FW t.c 3 : Int), .int .u64 (OW t.c 0 : Int), .int .u64 (OW t.c 1 : Int), .int .u64 (OW t.c 2 : Int), .int .u64 (OW t.c 3 : Int), .slice t.q t.m t.k] : List Value)[j]? := fun j hj => h.cellAt j (by omega)
      have hk : ∀ {p : Addr} {v : Value}, W.cell? p = some v → X.cell? p = some v := fun h => (hX.cell (World.block_lt_of_cell? W _ h)).trans h
      refine ⟨g, 0, rfl, ⟨hk (cc 0 (by omega)), hk (cc 1 (by omega)), hk (cc 2 (by omega)), hk (cc 3 (by omega)), hk (cc 4 (by omega)), hk (cc 5 (by omega)), hk (cc 6 (by omega)), hk (cc 7 (by omega)), hk (cc 8 (by omega))⟩, hk (cc 9 (by omega))⟩
set_option maxRecDepth 100000 in
theorem greatT_nil (w : World) : Calls Tryz.prog 54 #[.slice none 0 0, .func (.func 55) #[] #[]] w fun e w' => e = .returned (.slice none 0 0) ∧ Below w.heap.size w w' := by
  go_enter Tryz.func54, Tryz.ntmps54
  go_wp2_with fail
  go_loopw [5, 10] (fun v5 v10 wr => v5 = .slice none 0 0 ∧ v10 = .int .i64 0 ∧ Below w.heap.size w wr) (fun _ _ _ => 0)
  case atStart => exact ⟨rfl, rfl, belA (Below.refl _ _) _⟩
  case round =>
    obtain ⟨rfl, rfl, hB⟩ := hrel
    go_wp2_with fail
    go_ret
    exact ⟨rfl, hB⟩
set_option maxRecDepth 100000 in
set_option maxHeartbeats 1000000 in
theorem topmost_nil (w : World) : Calls Tryz.prog 34 #[.slice none 0 0] w fun e w' => e = .returned (.slice none 0 0) ∧ Below w.heap.size w w' := by
  have H1 := greatT_nil w
  go_enter Tryz.func34, Tryz.ntmps34
  go_wp2_with fail
  refine H1.mono ?_
  rintro e W1 ⟨rfl, hb1⟩
  clear H1
  have H2 := size_any [] 0 none 0 W1 rfl (by omega) (by simp [szT]) (fun W hW k t ht => by simp at ht)
  go_wp2_with fail
  refine H2.mono ?_
  rintro e W2 ⟨rfl, hb2⟩
  clear H2
  go_wp2_with fail
  refine (spend_ok (szT [] : Int) 128 W2 (by simp [szT])).mono ?_
  rintro e W3 ⟨rfl, rfl⟩
  go_wp2_with fail
  go_ret
  exact ⟨rfl, bel0 hb1 hb2⟩
set_option maxRecDepth 100000 in
set_option maxHeartbeats 1000000 in
theorem topmost_one (t : TRM) (p : Option Addr) (c : Nat) (w : World) (hr : IRT w p [t]) (hm : t.m ≤ 1000000) :
    Calls Tryz.prog 34 #[.slice p 1 c] w fun e w' => Below w.heap.size w w' ∧ ((1 + t.m ≤ 128 ∧ ∃ v, e = .returned v ∧ w'.ownsRow w.heap.size 62 10 v 1 ([.int .i64 (t.c.length : Int), .int .u64 (FW t.c 0 : Int), .int .u64 (FW t.c 1 : Int), .int .u64 (FW t.c 2 : Int), .int .u64 (FW t.c 3 : Int), .int .u64 (OW t.c 0 : Int), .int .u64 (OW t.c 1 : Int), .int .u64 (OW t.c 2 : Int), .int .u64 (OW t.c 3 : Int), .slice t.q t.m t.k])) ∨ (128 < 1 + t.m ∧ e = .panicked [{ v := .iface 89 (.agg #[]), recovered := false }])) := by
  have H1 := greatT_one t p c w hr
  have HM : Hid (t.m ≤ 1000000) := hm
  clear hr hm
  go_enter Tryz.func34, Tryz.ntmps34
  go_wp2_with fail
  refine H1.mono ?_
  rintro e W1 ⟨v, rfl, ho, hb1⟩
  clear H1
  obtain ⟨p1, c1, rfl⟩ := shapeQ1 ho
  have hz : szT [t] = 1 + t.m := by simp [szT]
  have H2 := size_any [t] 1 p1 c1 W1 rfl (by omega) (by rw [hz]; have := HM.out; omega) (IRT_one ho)
  rw [hz] at H2
  have HO : Hid (W1.ownsRow w.heap.size 62 10 (.slice p1 1 c1) 1 ([.int .i64 (t.c.length : Int), .int .u64 (FW t.c 0 : Int), .int .u64 (FW t.c 1 : Int), .int .u64 (FW t.c 2 : Int), .int .u64 (FW t.c 3 : Int), .int .u64 (OW t.c 0 : Int), .int .u64 (OW t.c 1 : Int), .int .u64 (OW t.c 2 : Int), .int .u64 (OW t.c 3 : Int), .slice t.q t.m t.k])) := ho
  clear ho hz
  go_wp2_with fail
  refine H2.mono ?_
  rintro e W2 ⟨rfl, hb2⟩
  clear H2
  go_wp2_with fail
  by_cases hle : 1 + t.m ≤ 128
  · refine (spend_ok ((1 + t.m : Nat) : Int) 128 W2 (by omega)).mono ?_
    rintro e W3 ⟨rfl, rfl⟩
    go_wp2_with fail
    go_ret
    exact ⟨bel0 hb1 hb2, .inl ⟨hle, _, rfl, own_belQ HO.out hb2⟩⟩
  · refine (spend_over ((1 + t.m : Nat) : Int) 128 W2 (by omega)).mono ?_
    rintro e W3 ⟨rfl, rfl⟩
    have HB : Hid (Below w.heap.size w W3) := bel0 hb1 hb2
    go_wp2_with fail
    exact ⟨rfl, HB.out, .inr ⟨by omega, rfl⟩⟩
end Go.Proofs.YtfhghplplkkpmaaGreatDoor
namespace Go.Proofs
open Go.Shelf
def Tryz.l106_ren : Go.Shelf.Ren := ⟨fun | 106 => 70 | 213 => 100 | 265 => 119 | n => n, fun | 9 => 9 | 3 => 3 | n => n, fun | n => n⟩
theorem Tryz.l106 : Go.Proofs.Lays.n106 Tryz.prog Tryz.l106_ren := {
  mixed := by kernel_rfl
  f106 := Tryz.func70.trans (congrArg some (by kernel_rfl))
  f213 := Tryz.func100.trans (congrArg some (by kernel_rfl))
  f265 := Tryz.func119.trans (congrArg some (by kernel_rfl))
  t3 := Tryz.underlying3
  a3 := Tryz.isAgg3
  z3 := Tryz.sizeOf3
  v3 := Tryz.zeroValue3
  t9 := Tryz.underlying9
  a9 := Tryz.isAgg9
  z9 := Tryz.sizeOf9
  v9 := Tryz.zeroValue9 }
end Go.Proofs
namespace Go.Proofs.YtfhghplplkkpmaaGreatDoor
open Go.RowKit Go.Shelf
/-- a cube with its text -/
def nm (t : List UInt8) : List Value := [.string ⟨t.toArray⟩, .int .i64 (t.length : Int), .int .u64 (FW t 0 : Int), .int .u64 (FW t 1 : Int), .int .u64 (FW t 2 : Int), .int .u64 (FW t 3 : Int), .int .u64 (OW t 0 : Int), .int .u64 (OW t 1 : Int), .int .u64 (OW t 2 : Int), .int .u64 (OW t 3 : Int)]
def nms (l : List (List UInt8)) : List Value := l.flatMap nm
theorem nms_snoc (l : List (List UInt8)) (t : List UInt8) : nms (l ++ [t]) = nms l ++ nm t := by simp [nms]
theorem nms_len (l : List (List UInt8)) : (nms l).length = l.length * 10 := by
  induction l with
  | nil => rfl
  | cons t l ih => simp only [nms, List.flatMap_cons, List.length_append, List.length_cons] at ih ⊢; rw [ih]; simp [nm]; omega
theorem info_named : (Tryz.prog.info? 96).map (fun i => (i.zero, i.size, i.bytes)) = some (some (.agg #[.string ⟨#[]⟩, .int .i64 0, .int .u64 0, .int .u64 0, .int .u64 0, .int .u64 0, .int .u64 0, .int .u64 0, .int .u64 0, .int .u64 0]), 10, 88) := by kernel_rfl
set_option maxRecDepth 100000 in
set_option maxHeartbeats 1000000 in
theorem byText_any (a b : List UInt8) (w : World) : Calls Tryz.prog 53 #[.agg #[.string ⟨a.toArray⟩, .int .i64 (a.length : Int), .int .u64 (FW a 0 : Int), .int .u64 (FW a 1 : Int), .int .u64 (FW a 2 : Int), .int .u64 (FW a 3 : Int), .int .u64 (OW a 0 : Int), .int .u64 (OW a 1 : Int), .int .u64 (OW a 2 : Int), .int .u64 (OW a 3 : Int)], .agg #[.string ⟨b.toArray⟩, .int .i64 (b.length : Int), .int .u64 (FW b 0 : Int), .int .u64 (FW b 1 : Int), .int .u64 (FW b 2 : Int), .int .u64 (FW b 3 : Int), .int .u64 (OW b 0 : Int), .int .u64 (OW b 1 : Int), .int .u64 (OW b 2 : Int), .int .u64 (OW b 3 : Int)]] w fun e w' => e = .returned (.int .i64 (Lib.compareBytes a b)) ∧ w' = (w.alloc (.cells #[.string ⟨a.toArray⟩, .int .i64 (a.length : Int), .int .u64 (FW a 0 : Int), .int .u64 (FW a 1 : Int), .int .u64 (FW a 2 : Int), .int .u64 (FW a 3 : Int), .int .u64 (OW a 0 : Int), .int .u64 (OW a 1 : Int), .int .u64 (OW a 2 : Int), .int .u64 (OW a 3 : Int)] 96 (0, 0))).alloc (.cells #[.string ⟨b.toArray⟩, .int .i64 (b.length : Int), .int .u64 (FW b 0 : Int), .int .u64 (FW b 1 : Int), .int .u64 (FW b 2 : Int), .int .u64 (FW b 3 : Int), .int .u64 (OW b 0 : Int), .int .u64 (OW b 1 : Int), .int .u64 (OW b 2 : Int), .int .u64 (OW b 3 : Int)] 96 (0, 0)) := by
  have H1 : ∀ W', Calls Tryz.prog 70 #[.string ⟨a.toArray⟩, .string ⟨b.toArray⟩] W' fun e w' => e = .returned (.int .i64 (Lib.compareBytes a b)) ∧ w' = W' := fun W' => Any.strings_Compare Tryz.l106 ⟨a.toArray⟩ ⟨b.toArray⟩ W'
  generalize Lib.compareBytes a b = r at H1 ⊢
  go_enter Tryz.func53, Tryz.ntmps53
  go_wp2_with (go_at_call 70; refine (H1 _).mono ?_; rintro e w' ⟨rfl, rfl⟩)
  go_ret
  exact ⟨rfl, rfl⟩
/-- the sort of the line behind its first, as it is asked for -/
def SortOK (srt : List (List UInt8) → List (List UInt8)) : Prop := ∀ (L : List (List UInt8)) (x : List UInt8) (n g c B : Nat) (ad : Addr) (W : World), L.length = n → n ≤ 1000000 → W.ownsRow B 96 10 (.slice (some ⟨g, 0, none⟩) (n + 1) c) (n + 1) (nms (x :: L)) → ((n = 0 ∧ ad = ⟨g, 0, none⟩) ∨ ad = ⟨g, 10, none⟩) → Calls Tryz.prog 67 #[.slice (some ad) n (c - 1), .func (.func 53) #[] #[]] W fun e w' => e = .returned (.tuple #[]) ∧ w'.ownsRow B 96 10 (.slice (some ⟨g, 0, none⟩) (n + 1) c) (n + 1) (nms (x :: srt L)) ∧ W.grownBy w' (some g)
set_option maxRecDepth 100000 in
set_option maxHeartbeats 4000000 in
theorem inLine_any (srt : List (List UInt8) → List (List UInt8)) (hso : SortOK srt) (c : List UInt8) (L : List (List UInt8)) (m k : Nat) (q : Option Addr) (w : World) (hm : L.length = m) (hm2 : m ≤ 1000000) (gc : good c = true) (gL : ∀ t ∈ L, good t = true) (hr : IRC w q L) :
    Calls Tryz.prog 49 #[.agg #[.int .i64 (c.length : Int), .int .u64 (FW c 0 : Int), .int .u64 (FW c 1 : Int), .int .u64 (FW c 2 : Int), .int .u64 (FW c 3 : Int), .int .u64 (OW c 0 : Int), .int .u64 (OW c 1 : Int), .int .u64 (OW c 2 : Int), .int .u64 (OW c 3 : Int), .slice q m k]] w fun e w' => ∃ v, e = .returned v ∧ w'.ownsRow w.heap.size 96 10 v (m + 1) (nms (c :: srt L)) ∧ Below w.heap.size w w' := by
  obtain ⟨i0, hi, hz0, hz1, hz2⟩ := info_parts info_named
  obtain ⟨w2, hw2⟩ : ∃ w2, w.alloc (.cells #[.int .i64 (c.length : Int), .int .u64 (FW c 0 : Int), .int .u64 (FW c 1 : Int), .int .u64 (FW c 2 : Int), .int .u64 (FW c 3 : Int), .int .u64 (OW c 0 : Int), .int .u64 (OW c 1 : Int), .int .u64 (OW c 2 : Int), .int .u64 (OW c 3 : Int), .slice q m k] 62 (0, 0)) = w2 := ⟨_, rfl⟩
  have hA : w2.heap[w.heap.size]? = some (.cells #[.int .i64 (c.length : Int), .int .u64 (FW c 0 : Int), .int .u64 (FW c 1 : Int), .int .u64 (FW c 2 : Int), .int .u64 (FW c 3 : Int), .int .u64 (OW c 0 : Int), .int .u64 (OW c 1 : Int), .int .u64 (OW c 2 : Int), .int .u64 (OW c 3 : Int), .slice q m k] 62 (0, 0)) := by rw [← hw2]; exact alloc_get _ _
  have hB2 : Below w.heap.size w w2 := by rw [← hw2]; exact belA (Below.refl _ _) _
  have HA : Hid (∀ W, Below w2.heap.size w2 W → ∀ j, W.cell? ⟨w.heap.size, j, none⟩ = (#[.int .i64 (c.length : Int), .int .u64 (FW c 0 : Int), .int .u64 (FW c 1 : Int), .int .u64 (FW c 2 : Int), .int .u64 (FW c 3 : Int), .int .u64 (OW c 0 : Int), .int .u64 (OW c 1 : Int), .int .u64 (OW c 2 : Int), .int .u64 (OW c 3 : Int), .slice q m k] : Array Value)[j]?) := fun W hW => (cells_block (keepblk3 hW hA)).1
  have HT : Hid (∀ t, good t = true → ∀ W, Calls Tryz.prog 37 #[.agg #[.int .i64 (t.length : Int), .int .u64 (FW t 0 : Int), .int .u64 (FW t 1 : Int), .int .u64 (FW t 2 : Int), .int .u64 (FW t 3 : Int), .int .u64 (OW t 0 : Int), .int .u64 (OW t 1 : Int), .int .u64 (OW t 2 : Int), .int .u64 (OW t 3 : Int)]] W fun e w' => e = .returned (.string ⟨t.toArray⟩) ∧ Below W.heap.size W w') := fun t gt W => text_any t W gt
  have HR : Hid (IRC w2 q L) := hr.later hB2
  have HN : Hid (L.length = m ∧ (∀ t ∈ L, good t = true) ∧ good c = true ∧ Below w.heap.size w w2) := ⟨hm, gL, gc, hB2⟩
  have HSO : Hid (SortOK srt) := hso
  have hA6 := HA.out w2 (Below.refl _ _)
  have hA6d : ∀ j, w2.drew.cell? ⟨w.heap.size, j, none⟩ = (#[.int .i64 (c.length : Int), .int .u64 (FW c 0 : Int), .int .u64 (FW c 1 : Int), .int .u64 (FW c 2 : Int), .int .u64 (FW c 3 : Int), .int .u64 (OW c 0 : Int), .int .u64 (OW c 1 : Int), .int .u64 (OW c 2 : Int), .int .u64 (OW c 3 : Int), .slice q m k] : Array Value)[j]? := hA6
  clear hA hB2 hr hm gL gc hso
  go_enter Tryz.func49, Tryz.ntmps49
  go_upto_region 1 with fail
  go_region_held3 (fun W => ∀ j, W.cell? ⟨w.heap.size, j, none⟩ = (#[.int .i64 (c.length : Int), .int .u64 (FW c 0 : Int), .int .u64 (FW c 1 : Int), .int .u64 (FW c 2 : Int), .int .u64 (FW c 3 : Int), .int .u64 (OW c 0 : Int), .int .u64 (OW c 1 : Int), .int .u64 (OW c 2 : Int), .int .u64 (OW c 3 : Int), .slice q m k] : Array Value)[j]?) (first | with_reducible exact hA6 | with_reducible exact hA6d | with_reducible exact hk5 | with_reducible exact hk6) (first | (go_at_call 37; refine (HT.out c HN.out.2.2.1 _).mono ?_; rintro e w5 ⟨rfl, hb5⟩; have hb5' : Below w2.heap.size w2 w5 := (by first | exact hb5 | exact und hb5); have hk5 := HA.out w5 hb5'; have hk6 := HA.out (w5.alloc (.cells #[.string ⟨c.toArray⟩, .int .i64 (c.length : Int), .int .u64 (FW c 0 : Int), .int .u64 (FW c 1 : Int), .int .u64 (FW c 2 : Int), .int .u64 (FW c 3 : Int), .int .u64 (OW c 0 : Int), .int .u64 (OW c 1 : Int), .int .u64 (OW c 2 : Int), .int .u64 (OW c 3 : Int)] 96 (0, 0))) (belA hb5' _)))
  have hB5 : Below w2.heap.size w2 (w5.alloc (.cells #[.string ⟨c.toArray⟩, .int .i64 (c.length : Int), .int .u64 (FW c 0 : Int), .int .u64 (FW c 1 : Int), .int .u64 (FW c 2 : Int), .int .u64 (FW c 3 : Int), .int .u64 (OW c 0 : Int), .int .u64 (OW c 1 : Int), .int .u64 (OW c 2 : Int), .int .u64 (OW c 3 : Int)] 96 (0, 0))) := belA hb5' _
  have o1 : (w5.alloc (.cells #[.string ⟨c.toArray⟩, .int .i64 (c.length : Int), .int .u64 (FW c 0 : Int), .int .u64 (FW c 1 : Int), .int .u64 (FW c 2 : Int), .int .u64 (FW c 3 : Int), .int .u64 (OW c 0 : Int), .int .u64 (OW c 1 : Int), .int .u64 (OW c 2 : Int), .int .u64 (OW c 3 : Int)] 96 (0, 0))).ownsRow w2.heap.size 96 10 (.slice (some ⟨w5.heap.size, 0, none⟩) 1 1) 1 (nms [c]) := ⟨rfl, .inr ⟨w5.heap.size, 1, _, rfl, hb5'.size, alloc_get _ _, by omega, by unfold maxLen; omega, rfl, rfl⟩⟩
  have HO1 : Hid ((w5.alloc (.cells #[.string ⟨c.toArray⟩, .int .i64 (c.length : Int), .int .u64 (FW c 0 : Int), .int .u64 (FW c 1 : Int), .int .u64 (FW c 2 : Int), .int .u64 (FW c 3 : Int), .int .u64 (OW c 0 : Int), .int .u64 (OW c 1 : Int), .int .u64 (OW c 2 : Int), .int .u64 (OW c 3 : Int)] 96 (0, 0))).ownsRow w2.heap.size 96 10 (.slice (some ⟨w5.heap.size, 0, none⟩) 1 1) 1 (nms [c]) ∧ Below w2.heap.size w2 (w5.alloc (.cells #[.string ⟨c.toArray⟩, .int .i64 (c.length : Int), .int .u64 (FW c 0 : Int), .int .u64 (FW c 1 : Int), .int .u64 (FW c 2 : Int), .int .u64 (FW c 3 : Int), .int .u64 (OW c 0 : Int), .int .u64 (OW c 1 : Int), .int .u64 (OW c 2 : Int), .int .u64 (OW c 3 : Int)] 96 (0, 0)))) := ⟨o1, hB5⟩
  clear o1 hk5 hA6 hA6d hw2
  go_wp2_with fail
  go_loopw [3, 16] (fun v3 v16 wr => ∃ j : Nat, v16 = .int .i64 (j : Int) ∧ j ≤ m ∧ wr.ownsRow w2.heap.size 96 10 v3 (j + 1) (nms (c :: L.take j)) ∧ Below w2.heap.size w2 wr) (fun _ v16 _ => m - (intOf v16).toNat)
  case atStart => exact ⟨0, rfl, Nat.zero_le _, HO1.out.1, HO1.out.2⟩
  case round =>
    clear HO1 hb5 hb5' hk6 hB5
    obtain ⟨j, rfl, hj, oR, hB⟩ := hrel
    by_cases hlt : j < m
    · have j1 : (j : Int) < (m : Int) := by omega
      have j0 : (0 : Int) ≤ (j : Int) := by omega
      obtain ⟨x, hx⟩ : ∃ x, L[j]? = some x := ⟨_, List.getElem?_eq_getElem (by rw [HN.out.1]; exact hlt)⟩
      obtain ⟨g, o0, rfl, p0, p1, p2, p3, p4, p5, p6, p7, p8⟩ := HR.out wr hB j x hx
      have HST : Hid (nms (c :: L.take (j + 1)) = nms (c :: L.take j) ++ nm x ∧ good x = true) := ⟨by rw [List.take_add_one, hx, ← List.cons_append]; exact nms_snoc _ _, HN.out.2.1 x (List.mem_of_getElem? hx)⟩
      obtain ⟨wa, hwa⟩ : ∃ wa, wr.alloc (.cells #[.int .i64 (x.length : Int), .int .u64 (FW x 0 : Int), .int .u64 (FW x 1 : Int), .int .u64 (FW x 2 : Int), .int .u64 (FW x 3 : Int), .int .u64 (OW x 0 : Int), .int .u64 (OW x 1 : Int), .int .u64 (OW x 2 : Int), .int .u64 (OW x 3 : Int)] 40 (0, 0)) = wa := ⟨_, rfl⟩
      have hal : Below wr.heap.size wr wa := by rw [← hwa]; exact belA (Below.refl _ _) _
      have hgt : wa.heap[wr.heap.size]? = some (.cells #[.int .i64 (x.length : Int), .int .u64 (FW x 0 : Int), .int .u64 (FW x 1 : Int), .int .u64 (FW x 2 : Int), .int .u64 (FW x 3 : Int), .int .u64 (OW x 0 : Int), .int .u64 (OW x 1 : Int), .int .u64 (OW x 2 : Int), .int .u64 (OW x 3 : Int)] 40 (0, 0)) := by rw [← hwa]; exact alloc_get _ _
      have HX : Hid (∀ W, Below wa.heap.size wa W → ∀ j, W.cell? ⟨wr.heap.size, j, none⟩ = (#[.int .i64 (x.length : Int), .int .u64 (FW x 0 : Int), .int .u64 (FW x 1 : Int), .int .u64 (FW x 2 : Int), .int .u64 (FW x 3 : Int), .int .u64 (OW x 0 : Int), .int .u64 (OW x 1 : Int), .int .u64 (OW x 2 : Int), .int .u64 (OW x 3 : Int)] : Array Value)[j]?) := fun W hW => (cells_block (keepblk3 hW hgt)).1
      have hX6 := HX.out wa (Below.refl _ _)
      have hX6d : ∀ j, wa.drew.cell? ⟨wr.heap.size, j, none⟩ = (#[.int .i64 (x.length : Int), .int .u64 (FW x 0 : Int), .int .u64 (FW x 1 : Int), .int .u64 (FW x 2 : Int), .int .u64 (FW x 3 : Int), .int .u64 (OW x 0 : Int), .int .u64 (OW x 1 : Int), .int .u64 (OW x 2 : Int), .int .u64 (OW x 3 : Int)] : Array Value)[j]? := hX6
      have HOR : Hid (wa.ownsRow w2.heap.size 96 10 u3 (j + 1) (nms (c :: L.take j)) ∧ Below w2.heap.size w2 wa) := ⟨own_belQ oR hal, bel0 hB hal⟩
      have HXG : Hid (∀ W X, Below wa.heap.size wa W → W.grownBy X u3.ownBlock → ∀ j, X.cell? ⟨wr.heap.size, j, none⟩ = (#[.int .i64 (x.length : Int), .int .u64 (FW x 0 : Int), .int .u64 (FW x 1 : Int), .int .u64 (FW x 2 : Int), .int .u64 (FW x 3 : Int), .int .u64 (OW x 0 : Int), .int .u64 (OW x 1 : Int), .int .u64 (OW x 2 : Int), .int .u64 (OW x 3 : Int)] : Array Value)[j]?) := fun W X hW hg => by
        have hb := keepblk3 hW hgt
        refine (cells_block ((hg.block _ (lt_of_get3 hb) (fun e => ?_)).trans hb)).1
        have := (oR.lt _ e.symm).2
        omega
      clear hx hgt oR
      go_upto_region 5 with fail
      go_region_held3 (fun W => ∀ j, W.cell? ⟨wr.heap.size, j, none⟩ = (#[.int .i64 (x.length : Int), .int .u64 (FW x 0 : Int), .int .u64 (FW x 1 : Int), .int .u64 (FW x 2 : Int), .int .u64 (FW x 3 : Int), .int .u64 (OW x 0 : Int), .int .u64 (OW x 1 : Int), .int .u64 (OW x 2 : Int), .int .u64 (OW x 3 : Int)] : Array Value)[j]?) (first | with_reducible exact hX6 | with_reducible exact hX6d | with_reducible exact hk5 | with_reducible exact hk6 | with_reducible exact hk7) (first | (go_at_call 37; refine (HT.out x HST.out.2 _).mono ?_; rintro e w5 ⟨rfl, hb5⟩; have hb5' : Below wa.heap.size wa w5 := (by first | exact hb5 | exact und hb5); have hk5 := HX.out w5 hb5'; have hb6 : Below wa.heap.size wa (w5.alloc (.cells #[.string ⟨x.toArray⟩, .int .i64 (x.length : Int), .int .u64 (FW x 0 : Int), .int .u64 (FW x 1 : Int), .int .u64 (FW x 2 : Int), .int .u64 (FW x 3 : Int), .int .u64 (OW x 0 : Int), .int .u64 (OW x 1 : Int), .int .u64 (OW x 2 : Int), .int .u64 (OW x 3 : Int)] 96 (0, 0))) := belA hb5' _; have hk6 := HX.out _ hb6; have o5 := own_belQ HOR.out.1 hb5'; have hs5 := (bel0 HOR.out.2 hb5').size) | (refine step_append_lies _ (by rfl) _ _ _ (by rfl) w2.heap.size 96 i0 _ 10 88 Tryz.underlying91 hi hz0 hz1 hz2 rfl (by decide) u3 (j + 1) (nms (c :: L.take j)) (by rfl) (World.ownsRow.alloc o5 _) ⟨_, 0, none⟩ 1 1 (nm x) (by rfl) (by rfl) (World.news_of_block (cs := #[.string ⟨x.toArray⟩, .int .i64 (x.length : Int), .int .u64 (FW x 0 : Int), .int .u64 (FW x 1 : Int), .int .u64 (FW x 2 : Int), .int .u64 (FW x 3 : Int), .int .u64 (OW x 0 : Int), .int .u64 (OW x 1 : Int), .int .u64 (OW x 2 : Int), .int .u64 (OW x 3 : Int)]) (t := 96) (fr := (0, 0)) (alloc_get w5 _)) (by simp [nm, Value.oneCell']) (by omega) (by unfold maxLen; omega) (by omega) (by simp; omega) _ rfl ?_; intro g9 c9 w7 o7 g7 _ _; have hk7 := HXG.out _ _ hb6 g7))
      have HE : Hid (w7.ownsRow w2.heap.size 96 10 (.slice (some ⟨g9, 0, none⟩) (j + 1 + 1) c9) (j + 1 + 1) (nms (c :: L.take (j + 1))) ∧ Below w2.heap.size w2 w7) := by
        refine ⟨by rw [HST.out.1]; exact o7, (bel0 HOR.out.2 hb6).grown g7 (by simp; omega) (fun b e => (HOR.out.1.lt b e).1)⟩
      clear o7 g7 hk5 hk6 hk7 o5
      go_wp2_with fail
      go_roundw
      case rel => exact ⟨j + 1, by go_num, by omega, HE.out.1, HE.out.2⟩
      case measure => simp [intOf]; omega
    · have j1 : ¬ (j : Int) < (m : Int) := by omega
      obtain rfl : j = m := by omega
      have eL : L.take j = L := List.take_of_length_le (by rw [HN.out.1]; exact Nat.le_refl _)
      rw [eL] at oR
      rcases own_shapeQ oR with ⟨-, h0⟩ | ⟨g, c9, rfl, hc9, -, -, -⟩
      · omega
      have HFI : Hid (∀ W, W.ownsRow w2.heap.size 96 10 (.slice (some ⟨g, 0, none⟩) (j + 1) c9) (j + 1) (nms (c :: srt L)) → wr.grownBy W (some g) → W.ownsRow w.heap.size 96 10 (.slice (some ⟨g, 0, none⟩) (j + 1) c9) (j + 1) (nms (c :: srt L)) ∧ Below w.heap.size w W) := fun W h1 h2 => ⟨own_base h1 HN.out.2.2.2.size, bel0 HN.out.2.2.2 (hB.grown h2 hB.size (fun b e => (oR.lt b e).1))⟩
      have k1 : (1 : Int) ≤ (c9 : Int) := by omega
      have k2 : (j : Int) + 1 ≤ (c9 : Int) := by omega
      have k3 : 1 ≤ c9 := by omega
      by_cases hc1 : c9 = 1
      · have H1 := HSO.out L c j g c9 w2.heap.size ⟨g, 0, none⟩ wr HN.out.1 hm2 oR (.inl ⟨by omega, rfl⟩)
        subst hc1
        obtain rfl : j = 0 := by omega
        clear oR eL
        go_wp2_with fail
        refine H1.mono ?_
        rintro e W1 ⟨rfl, o9, g9⟩
        have HZ := HFI.out W1 o9 g9
        go_wp2_with fail
        go_ret
        exact ⟨_, rfl, HZ.1, HZ.2⟩
      · have H1 := HSO.out L c j g c9 w2.heap.size ⟨g, 10, none⟩ wr HN.out.1 hm2 oR (.inr rfl)
        clear oR eL
        go_wp2_with fail
        refine H1.mono ?_
        rintro e W1 ⟨rfl, o9, g9⟩
        have HZ := HFI.out W1 o9 g9
        go_wp2_with fail
        go_ret
        exact ⟨_, rfl, HZ.1, HZ.2⟩
end Go.Proofs.YtfhghplplkkpmaaGreatDoor
namespace Go.Proofs
open Go.Shelf
def Tryz.l125_ren : Go.Shelf.Ren := ⟨fun | 125 => 69 | 128 => 98 | 129 => 99 | n => n, fun | 46 => 119 | 3 => 3 | 51 => 145 | 53 => 36 | 4 => 4 | 5 => 5 | 9 => 9 | n => n, fun | n => n⟩
theorem Tryz.l125 : Go.Proofs.Lays.n125 Tryz.prog Tryz.l125_ren := {
  mixed := by kernel_rfl
  f125 := Tryz.func69.trans (congrArg some (by kernel_rfl))
  f128 := Tryz.func98.trans (congrArg some (by kernel_rfl))
  f129 := Tryz.func99.trans (congrArg some (by kernel_rfl))
  t3 := Tryz.underlying3
  a3 := Tryz.isAgg3
  z3 := Tryz.sizeOf3
  v3 := Tryz.zeroValue3
  t4 := Tryz.underlying4
  a4 := Tryz.isAgg4
  z4 := Tryz.sizeOf4
  v4 := Tryz.zeroValue4
  t5 := Tryz.underlying5
  a5 := Tryz.isAgg5
  z5 := Tryz.sizeOf5
  v5 := Tryz.zeroValue5
  t9 := Tryz.underlying9
  a9 := Tryz.isAgg9
  z9 := Tryz.sizeOf9
  v9 := Tryz.zeroValue9
  t46 := Tryz.underlying119
  a46 := Tryz.isAgg119
  z46 := Tryz.sizeOf119
  v46 := Tryz.zeroValue119
  t51 := Tryz.underlying145
  a51 := Tryz.isAgg145
  z51 := Tryz.sizeOf145
  v51 := Tryz.zeroValue145
  t53 := Tryz.underlying36
  a53 := Tryz.isAgg36
  z53 := Tryz.sizeOf36
  v53 := Tryz.zeroValue36 }
end Go.Proofs
namespace Go.Proofs.YtfhghplplkkpmaaGreatDoor
open Go.RowKit Go.Shelf
set_option maxRecDepth 100000 in
set_option maxHeartbeats 1000000 in
theorem ins_le1 (n : Nat) (hn : n ≤ 1) (p : Option Addr) (c : Nat) (w : World) : Calls Tryz.prog 90 #[.slice p n c, .int .i64 0, .int .i64 (n : Int), .func (.func 51) #[] #[]] w fun e w' => e = .returned (.tuple #[]) ∧ Below w.heap.size w w' := by
  have h1 : ¬ (1 : Int) < (n : Int) := by omega
  go_enter Tryz.func90, Tryz.ntmps90
  go_wp2_with fail
  go_loopw [8] (fun v wr => v = .int .i64 1 ∧ Below w.heap.size w wr) (fun _ _ => 0)
  case atStart => exact ⟨rfl, Below.refl _ _⟩
  case round =>
    obtain ⟨rfl, hB⟩ := hrel
    go_wp2_with fail
    exact ⟨rfl, .tuple #[], by simp [results, Tryz.results90], rfl, hB⟩
set_option maxRecDepth 100000 in
set_option maxHeartbeats 2000000 in
theorem pdq_le1 (n : Nat) (hn : n ≤ 1) (p : Option Addr) (c : Nat) (l : Int) (w : World) : Calls Tryz.prog 68 #[.slice p n c, .int .i64 0, .int .i64 (n : Int), .int .i64 l, .func (.func 51) #[] #[]] w fun e w' => e = .returned (.tuple #[]) ∧ Below w.heap.size w w' := by
  have h1 : (n : Int) ≤ 12 := by omega
  have h2 : (0 : Int) ≤ (n : Int) := by omega
  have HI : Hid (∀ W, Calls Tryz.prog 90 #[.slice p n c, .int .i64 0, .int .i64 (n : Int), .func (.func 51) #[] #[]] W fun e w' => e = .returned (.tuple #[]) ∧ Below W.heap.size W w') := fun W => ins_le1 n hn p c W
  go_enter Tryz.func68, Tryz.ntmps68
  go_wp2_with fail
  go_loopw [1, 2, 3] (fun v1 v2 _ wr => v1 = .int .i64 0 ∧ v2 = .int .i64 (n : Int) ∧ Below w.heap.size w wr) (fun _ _ _ _ => 0)
  case atStart => exact ⟨rfl, rfl, Below.refl _ _⟩
  case round =>
    obtain ⟨rfl, rfl, hB⟩ := hrel
    go_wp2_with fail
    refine (HI.out _).mono ?_
    rintro e W1 ⟨rfl, hb1⟩
    go_wp2_with fail
    exact ⟨rfl, .tuple #[], by simp [results, Tryz.results68], rfl, bel0 hB hb1⟩
set_option maxRecDepth 100000 in
set_option maxHeartbeats 1000000 in
theorem sort_le1 (n : Nat) (hn : n ≤ 1) (p : Option Addr) (c : Nat) (w : World) : Calls Tryz.prog 50 #[.slice p n c, .func (.func 51) #[] #[]] w fun e w' => e = .returned (.tuple #[]) ∧ Below w.heap.size w w' := by
  have HL : Hid (∀ W, Calls Tryz.prog 69 #[.int .u64 (n : Int)] W fun e w' => (∃ l : Int, e = .returned (.int .i64 l)) ∧ w' = W) := fun W => (Any.bits_Len Tryz.l125 n W (by omega) (by omega)).mono fun _ _ ⟨he, hw⟩ => ⟨⟨_, he⟩, hw⟩
  have HP : Hid (∀ (l : Int) (W : World), Calls Tryz.prog 68 #[.slice p n c, .int .i64 0, .int .i64 (n : Int), .int .i64 l, .func (.func 51) #[] #[]] W fun e w' => e = .returned (.tuple #[]) ∧ Below W.heap.size W w') := fun l W => pdq_le1 n hn p c l W
  have h3 : IntKind.u64.wrap (n : Int) = (n : Int) := by unfold IntKind.wrap; simp [IntKind.bits]; omega
  go_enter Tryz.func50, Tryz.ntmps50
  go_wp2_with fail
  refine (HL.out _).mono ?_
  rintro e W1 ⟨⟨l, rfl⟩, rfl⟩
  go_wp2_with fail
  refine (HP.out _ _).mono ?_
  rintro e W2 ⟨rfl, hb2⟩
  go_wp2_with fail
  exact ⟨rfl, .tuple #[], by simp [results, Tryz.results50], rfl, hb2⟩
end Go.Proofs.YtfhghplplkkpmaaGreatDoor
