import Derived.Test.YtmblloddhpcdeacO3
import Derived.Deep.RegionWith
import Derived.Deep.Onto
namespace Go.Proofs.Ytmblloddhpcdeac
open Go.RowKit

macro "belw" : tactic => `(tactic| (repeat (first | assumption | exact Below.refl _ _ | refine Below.drew ?_)))
macro "ownw" : tactic => `(tactic| (repeat (first | assumption | refine World.ownsRow.drew ?_)))
set_option maxRecDepth 100000 in
set_option maxHeartbeats 2000000 in
theorem pair_raw (ad : Addr) (len cap k k1 : Nat) (a b : ByteArray) (A B : List UInt8) (L : List (List UInt8)) (w : World) (ha : a.size ≤ maxLen) (hb : b.size ≤ maxLen) (gA : good A = true) (gB : good B = true)
    (hA0 : cubeT a.data.toList = A) (hB0 : cubeT b.data.toList = B) (hL0 : splT A B = L) (gL0 : ∀ x ∈ L, good x = true) (hLl : L.length ≤ 256)
    (hk1 : (k : Int) + 1 = (k1 : Int)) (hlt : k1 < len) (hlen : len ≤ 200) (ca0 : w.cell? (ad.add k) = some (.string a)) (cb0 : w.cell? (ad.add k1) = some (.string b)) :
    Calls Try.prog 34 #[.slice (some ad) len cap, .int .i64 (k : Int)] w fun e w' => ∃ V, e = .returned (.tuple #[V, .bool true]) ∧ w'.ownsRow w.heap.size 26 9 V L.length (cels L) ∧ Below w.heap.size w w' := by
  have hA : Hid (cubeT a.data.toList = A) := hA0
  have hB : Hid (cubeT b.data.toList = B) := hB0
  have hL : Hid (splT A B = L) := hL0
  have gL : Hid (∀ x ∈ L, good x = true) := gL0
  have ca : Hid (w.cell? (ad.add k) = some (.string a)) := ca0
  have cb : Hid (w.cell? (ad.add k1) = some (.string b)) := cb0
  have ka : (ad.add k).block < w.heap.size := World.block_lt_of_cell? w _ ca0
  have kb : (ad.add k1).block < w.heap.size := World.block_lt_of_cell? w _ cb0
  have j0 : (0 : Int) ≤ (k : Int) := by omega
  have j1 : (k : Int) < (len : Int) := by omega
  have j2 : (0 : Int) ≤ (k1 : Int) := by omega
  have j3 : (k1 : Int) < (len : Int) := by omega
  clear hA0 hB0 hL0 gL0 hlt
  go_enter Try.func34, Try.ntmps34
  go_wp2_with fail
  refine (made_D a A _ ha hA.out).mono ?_
  rintro e w1 ⟨rfl, hb1⟩
  clear ca0 cb0
  have B1 := hb1
  have cb1 : (w1.alloc (.cells #[.int .i64 (A.length : Int), .int .u64 (FW A 0 : Int), .int .u64 (FW A 1 : Int), .int .u64 (FW A 2 : Int), .int .u64 (FW A 3 : Int), .int .u64 (OW A 0 : Int), .int .u64 (OW A 1 : Int), .int .u64 (OW A 2 : Int), .int .u64 (OW A 3 : Int)] 26)).cell? (ad.add k1) = some (.string b) := ((belA B1 _).cell kb).trans cb.out
  unfold cubeV cv
  go_wp2_with fail
  refine (made_D b B _ hb hB.out).mono ?_
  rintro e w2 ⟨rfl, hb2⟩
  have kX : w2.heap[w1.heap.size]? = some (.cells (#[.int .i64 (A.length : Int), .int .u64 (FW A 0 : Int), .int .u64 (FW A 1 : Int), .int .u64 (FW A 2 : Int), .int .u64 (FW A 3 : Int), .int .u64 (OW A 0 : Int), .int .u64 (OW A 1 : Int), .int .u64 (OW A 2 : Int), .int .u64 (OW A 3 : Int)]) 26 (0, 0)) := keepblk hb2 (alloc_get _ _)
  have cX_2 := (cells_block kX).1
  have zX_2 := lt_of_get kX
  have B2 := bel0 (belA B1 _) hb2
  unfold cubeV cv
  go_wp2_with fail
  refine (split_any A B L _ gA gB hL.out).mono ?_
  rintro e w3 ⟨V1, rfl, hown1, hb3⟩
  have B3 := bel0 (belA B2 _) hb3
  have ca3 : w3.cell? (ad.add k) = some (.string a) := (B3.cell ka).trans ca.out
  have cb3 : w3.cell? (ad.add k1) = some (.string b) := (B3.cell kb).trans cb.out
  clear kX cX_2 zX_2 hb1 hb2 hb3 B1 cb1
  have z3 := B2.size
  have own3 : Hid (w3.ownsRow w.heap.size 26 9 V1 L.length (cels L)) := hown1.mono (by simp; omega)
  have HS : Hid (∀ W, Below w3.heap.size w3 W → Calls Try.prog 26 #[.string ⟨A.toArray⟩, .string ⟨B.toArray⟩] W fun e w' => ∃ V2, e = .returned V2 ∧ w'.ownsRow w3.heap.size 9 1 V2 L.length (sts L) ∧ Below w3.heap.size w3 w') := by
    intro W hW
    refine (rSplit_D A B L W gA gB hL.out).mono ?_
    rintro e w4 ⟨V2, rfl, hown2, hb4⟩
    exact ⟨V2, rfl, hown2.mono hW.size, bel0 hW hb4⟩
  have HT : Hid (∀ W V2, Below w3.heap.size w3 W → W.ownsRow w3.heap.size 9 1 V2 L.length (sts L) → Calls Try.prog 24 #[V1, V2] W fun e w' => e = .returned (.bool true) ∧ Below w3.heap.size w3 w') := by
    intro W V2 hW hV
    refine (texts_D L V1 V2 _ _ W gL.out hLl (owns_below own3.out hW) hV).mono ?_
    rintro e w5 ⟨rfl, hb5⟩
    exact ⟨rfl, bel0 hW hb5⟩
  have HA : Hid (∀ W, Calls Try.prog 20 #[.string a] W fun e w' => e = .returned (.string ⟨A.toArray⟩) ∧ W = w') := fun W => refC_T a A W ha hA.out
  have HB : Hid (∀ W, Calls Try.prog 20 #[.string b] W fun e w' => e = .returned (.string ⟨B.toArray⟩) ∧ W = w') := fun W => refC_T b B W hb hB.out
  have wk : IntKind.i64.wrap (k1 : Int) = (k1 : Int) := by rw [IntKind.wrap_i64]; omega
  have PB : Hid (Below w.heap.size w w3) := B3
  clear hown1 z3 B2 B3 hA hB hL gL ca cb gA gB hLl ha hb
  go_wp2_with fail
  go_region_with (first
    | (go_at_call 20; (first | refine (HA.out _).mono ?_ | refine (HB.out _).mono ?_); rintro e w' ⟨rfl, rfl⟩)
    | (go_at_call 26; refine (HS.out _ (by belw)).mono ?_; rintro e w4 ⟨V2, rfl, hown2, hb4⟩)
    | (go_at_call 24; refine (HT.out _ _ (by belw) (by ownw)).mono ?_; rintro e w5 ⟨rfl, hb5⟩))
  all_goals
    go_wp2
    go_ret2
    exact ⟨_, rfl, owns_below own3.out (by belw), bel0 PB.out (by belw)⟩
end Go.Proofs.Ytmblloddhpcdeac
