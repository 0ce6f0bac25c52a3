import Derived.Test.YtpbbmmkhlpkkbaaGreatDoorXAG
namespace Go.Proofs.YtpbbmmkhlpkkbaaGreatDoor
open Go.RowKit
set_option maxRecDepth 100000 in
set_option maxHeartbeats 8000000 in
theorem edges_core (Q : World → Option Addr → Nat → Prop) (xE : Int → Int → Int) (x1 : xE 0 (-1) = 11) (x2 : xE 1 (-1) = 1) (x3 : xE 1 2049 = 1) (x4 : xE 1 0 = 0)
    (hAw : ∀ (W : World), Calls Tryz.prog 4 #[] W fun e w' => e = .returned (.bool true) ∧ Below W.heap.size W w')
    (hPa : ∀ (W : World), Calls Tryz.prog 5 #[.int .i64 1, .string ⟨#[110, 111, 110, 101]⟩] W fun e w' => ∃ p c, e = .returned (.tuple #[.agg #[.int .i64 1, .slice p 0 c, .bool false], .int .i64 0]) ∧ Q w' p c ∧ Below W.heap.size W w')
    (hQ : ∀ (W W' : World) p c, Q W p c → Below W.heap.size W W' → Q W' p c)
    (hQ0 : ∀ (W : World), Q W none 0)
    (hBi : ∀ (b : Int) (p : Option Addr) (c : Nat) (W : World), Calls Tryz.prog 6 #[.agg #[.int .i64 b, .slice p 0 c, .bool false]] W fun e w' => e = .returned (.int .i64 b) ∧ Below W.heap.size W w')
    (hTx : ∀ (b : Int) (p : Option Addr) (c : Nat) (W : World), Q W p c → Calls Tryz.prog 7 #[.agg #[.int .i64 b, .slice p 0 c, .bool false]] W fun e w' => e = .returned (.string ⟨#[110, 111, 110, 101]⟩) ∧ Below W.heap.size W w')
    (hSz : ∀ (b : Int) (p : Option Addr) (c : Nat) (W : World), Q W p c → Calls Tryz.prog 8 #[.agg #[.int .i64 b, .slice p 0 c, .bool false]] W fun e w' => e = .returned (.int .i64 0) ∧ Below W.heap.size W w')
    (hHs : ∀ (b : Int) (p : Option Addr) (c : Nat) (s : ByteArray) (W : World), Q W p c → s.size ≤ 10 → Calls Tryz.prog 9 #[.agg #[.int .i64 b, .slice p 0 c, .bool false], .string s] W fun e w' => e = .returned (.bool false) ∧ Below W.heap.size W w')
    (hJo : ∀ (b b2 : Int) (p1 p2 : Option Addr) (c1 c2 : Nat) (W : World), (!(b == 0) && (b == b2)) = false → Calls Tryz.prog 10 #[.agg #[.int .i64 b, .slice p1 0 c1, .bool false], .agg #[.int .i64 b2, .slice p2 0 c2, .bool false]] W fun e w' => e = .returned (.tuple #[.agg #[.int .i64 0, .slice none 0 0, .bool false], .int .i64 11]) ∧ Below W.heap.size W w')
    (hMe : ∀ (b b2 : Int) (p1 p2 : Option Addr) (c1 c2 : Nat) (W : World), (!(b == 0) && (b == b2)) = false → Calls Tryz.prog 11 #[.agg #[.int .i64 b, .slice p1 0 c1, .bool false], .agg #[.int .i64 b2, .slice p2 0 c2, .bool false]] W fun e w' => e = .returned (.tuple #[.agg #[.int .i64 0, .slice none 0 0, .bool false], .int .i64 11]) ∧ Below W.heap.size W w')
    (hMi : ∀ (b b2 : Int) (p1 p2 : Option Addr) (c1 c2 : Nat) (W : World), (!(b == 0) && (b == b2)) = false → Calls Tryz.prog 12 #[.agg #[.int .i64 b, .slice p1 0 c1, .bool false], .agg #[.int .i64 b2, .slice p2 0 c2, .bool false]] W fun e w' => e = .returned (.tuple #[.agg #[.int .i64 0, .slice none 0 0, .bool false], .int .i64 11]) ∧ Below W.heap.size W w')
    (hBe : ∀ (b : Int) (p : Option Addr) (c : Nat) (W : World), Calls Tryz.prog 13 #[.agg #[.int .i64 b, .slice p 0 c, .bool false], .agg #[.int .i64 0, .int .u64 0, .int .u64 0, .int .u64 0, .int .u64 0, .int .u64 0, .int .u64 0, .int .u64 0, .int .u64 0]] W fun e w' => e = .returned (.tuple #[.agg #[.int .i64 0, .slice none 0 0, .bool false], .int .i64 11]) ∧ Below W.heap.size W w')
    (hAf : ∀ (b lim : Int) (p : Option Addr) (c : Nat) (W : World), Calls Tryz.prog 14 #[.agg #[.int .i64 b, .slice p 0 c, .bool false], .agg #[.int .i64 0, .int .u64 0, .int .u64 0, .int .u64 0, .int .u64 0, .int .u64 0, .int .u64 0, .int .u64 0, .int .u64 0], .int .i64 lim] W fun e w' => e = .returned (.tuple #[.agg #[.int .i64 0, .slice none 0 0, .bool false], .int .i64 11]) ∧ Below W.heap.size W w')
    (hWi : ∀ (b b2 lim : Int) (p1 p2 : Option Addr) (c1 c2 : Nat) (W : World), (!(b == 0) && (b == b2)) = false → Calls Tryz.prog 15 #[.agg #[.int .i64 b, .slice p1 0 c1, .bool false], .agg #[.int .i64 b2, .slice p2 0 c2, .bool false], .int .i64 lim] W fun e w' => e = .returned (.tuple #[.bool false, .int .i64 11]) ∧ Below W.heap.size W w')
    (hEx : ∀ (b lim E : Int) (p : Option Addr) (c : Nat) (W : World), Q W p c → xE b lim = E → Calls Tryz.prog 16 #[.agg #[.int .i64 b, .slice p 0 c, .bool false], .int .i64 lim] W fun e w' => ∃ q k, e = .returned (.tuple #[.slice q 0 k, .int .i64 E]) ∧ Below W.heap.size W w')
    (hLe : ∀ (lim : Int) (p : Option Addr) (c : Nat) (W : World), Calls Tryz.prog 17 #[.agg #[.int .i64 0, .slice p 0 c, .bool false], .int .i64 lim] W fun e w' => e = .returned (.tuple #[.string ⟨#[]⟩, .bool false, .int .i64 11]) ∧ Below W.heap.size W w')
    (hO1 : ∀ (W : World), Calls Tryz.prog 18 #[.agg #[.int .i64 0, .int .u64 0, .int .u64 0, .int .u64 0, .int .u64 0, .int .u64 0, .int .u64 0, .int .u64 0, .int .u64 0], .slice none 0 0] W fun e w' => e = .returned (.tuple #[.agg #[.int .i64 0, .slice none 0 0, .bool false], .int .i64 11]) ∧ Below W.heap.size W w')
    (hA3 : ∀ (W : World), Calls Tryz.prog 19 #[.int .i64 3] W fun e w' => e = .returned (.agg #[.int .i64 3, .int .u64 0, .int .u64 0, .int .u64 0, .int .u64 0, .int .u64 0, .int .u64 0, .int .u64 0, .int .u64 0]) ∧ Below W.heap.size W w')
    (hA4 : ∀ (W : World), Calls Tryz.prog 19 #[.int .i64 4] W fun e w' => e = .returned (.agg #[.int .i64 4, .int .u64 0, .int .u64 0, .int .u64 0, .int .u64 0, .int .u64 0, .int .u64 0, .int .u64 0, .int .u64 0]) ∧ Below W.heap.size W w')
    (hO2 : ∀ (g : Nat) (W : World), W.heap[g]? = some (.cells #[.int .i64 4, .int .u64 0, .int .u64 0, .int .u64 0, .int .u64 0, .int .u64 0, .int .u64 0, .int .u64 0, .int .u64 0] 38 (0, 0)) → Calls Tryz.prog 18 #[.agg #[.int .i64 3, .int .u64 0, .int .u64 0, .int .u64 0, .int .u64 0, .int .u64 0, .int .u64 0, .int .u64 0, .int .u64 0], .slice (some ⟨g, 0, none⟩) 1 1] W fun e w' => e = .returned (.tuple #[.agg #[.int .i64 0, .slice none 0 0, .bool false], .int .i64 11]) ∧ Below W.heap.size W w')
    (hP2 : ∀ (W : World), Calls Tryz.prog 5 #[.int .i64 257, .string ⟨#[110, 111, 110, 101]⟩] W fun e w' => ∃ p k c, e = .returned (.tuple #[.agg #[.int .i64 0, .slice p k c, .bool false], .int .i64 1]) ∧ Below W.heap.size W w')
    (hP3 : ∀ (W : World), Calls Tryz.prog 5 #[.int .i64 0, .string ⟨#[63]⟩] W fun e w' => ∃ p k c, e = .returned (.tuple #[.agg #[.int .i64 0, .slice p k c, .bool false], .int .i64 1]) ∧ Below W.heap.size W w')
    (hN1 : ∀ (W : World), Calls Tryz.prog 20 #[.int .i64 (-1)] W fun e w' => e = .returned (.agg #[.int .i64 0, .slice none 0 0, .bool false]) ∧ Below W.heap.size W w')
    (hN2 : ∀ (W : World), Calls Tryz.prog 20 #[.int .i64 256] W fun e w' => e = .returned (.agg #[.int .i64 256, .slice none 0 0, .bool false]) ∧ Below W.heap.size W w')
    (hN3 : ∀ (W : World), Calls Tryz.prog 20 #[.int .i64 257] W fun e w' => e = .returned (.agg #[.int .i64 0, .slice none 0 0, .bool false]) ∧ Below W.heap.size W w')
    (w : World) : Calls Tryz.prog 3 #[] w fun e w' => e = .returned (.bool true) ∧ Below w.heap.size w w' := by
  have HAw : Hid _ := hAw
  have HPa : Hid _ := hPa
  have HQ : Hid _ := hQ
  have HQ0 : Hid _ := hQ0
  have HBi : Hid _ := hBi
  have HTx : Hid _ := hTx
  have HSz : Hid _ := hSz
  have HHs : Hid _ := hHs
  have HJo : Hid _ := hJo
  have HMe : Hid _ := hMe
  have HMi : Hid _ := hMi
  have HBe : Hid _ := hBe
  have HAf : Hid _ := hAf
  have HWi : Hid _ := hWi
  have HEx : Hid _ := hEx
  have HLe : Hid _ := hLe
  have HO1 : Hid _ := hO1
  have HA3 : Hid _ := hA3
  have HA4 : Hid _ := hA4
  have HO2 : Hid _ := hO2
  have HP2 : Hid _ := hP2
  have HP3 : Hid _ := hP3
  have HN1 : Hid _ := hN1
  have HN2 : Hid _ := hN2
  have HN3 : Hid _ := hN3
  clear hAw hPa hQ hQ0 hBi hTx hSz hHs hJo hMe hMi hBe hAf hWi hEx hLe hO1 hA3 hA4 hO2 hP2 hP3 hN1 hN2 hN3
  go_enter Tryz.func3, Tryz.ntmps3
  go_wp2_with fail
  refine (HAw.out _).mono ?_
  rintro e w1 ⟨rfl, hb1⟩
  go_wp2_with fail
  refine (HPa.out _).mono ?_
  rintro e w2 ⟨p, c, rfl, hq2, hb2⟩
  have HF : Hid (∀ W, Below (w2.alloc (.cells #[.int .i64 1, .slice p 0 c, .bool false] 25 (0, 0))).heap.size (w2.alloc (.cells #[.int .i64 1, .slice p 0 c, .bool false] 25 (0, 0))) W → ((∀ j, W.cell? ⟨w1.heap.size, j, none⟩ = (#[.int .i64 0, .slice none 0 0, .bool false] : Array Value)[j]?) ∧ (∀ j, W.cell? ⟨w2.heap.size, j, none⟩ = (#[.int .i64 1, .slice p 0 c, .bool false] : Array Value)[j]?) ∧ Q W p c ∧ Below w.heap.size w W)) := fun W hW => by
    have h2 : Below w2.heap.size w2 W := bel0 (belA (Below.refl _ _) _) hW
    have hz : W.heap[w1.heap.size]? = some (.cells #[.int .i64 0, .slice none 0 0, .bool false] 25 (0, 0)) := keepblk3 h2 (keepblk3 hb2 (alloc_get _ _))
    exact ⟨(cells_block hz).1, (cells_block (keepblk3 hW (alloc_get _ _))).1, HQ.out _ _ _ _ hq2 h2, bel0 hb1 (bel0 (belA (Below.refl _ _) _) (bel0 hb2 h2))⟩
  obtain ⟨f2, g2, -⟩ := HF.out (w2.alloc (.cells #[.int .i64 1, .slice p 0 c, .bool false] 25 (0, 0))) (Below.refl _ _)
  have B2 : Hid (Below (w2.alloc (.cells #[.int .i64 1, .slice p 0 c, .bool false] 25 (0, 0))).heap.size (w2.alloc (.cells #[.int .i64 1, .slice p 0 c, .bool false] 25 (0, 0))) (w2.alloc (.cells #[.int .i64 1, .slice p 0 c, .bool false] 25 (0, 0)))) := Below.refl _ _
  clear hq2 hb2 hb1 HPa HAw
  go_wp2_with fail
  refine (HBi.out 1 p c _).mono ?_
  rintro e w3 ⟨rfl, hb3⟩
  have B3 : Hid (Below (w2.alloc (.cells #[.int .i64 1, .slice p 0 c, .bool false] 25 (0, 0))).heap.size (w2.alloc (.cells #[.int .i64 1, .slice p 0 c, .bool false] 25 (0, 0))) w3) := bel0 B2.out hb3
  obtain ⟨f3, g3, -⟩ := HF.out _ B3.out
  clear f2 g2 hb3 B2
  go_wp2_with fail
  refine (HTx.out 1 p c _ (HF.out _ B3.out).2.2.1).mono ?_
  rintro e w4 ⟨rfl, hb4⟩
  have B4 : Hid (Below (w2.alloc (.cells #[.int .i64 1, .slice p 0 c, .bool false] 25 (0, 0))).heap.size (w2.alloc (.cells #[.int .i64 1, .slice p 0 c, .bool false] 25 (0, 0))) w4) := bel0 B3.out hb4
  obtain ⟨f4, g4, -⟩ := HF.out _ B4.out
  clear f3 g3 hb4 B3
  go_wp2_with fail
  refine (HSz.out 1 p c _ (HF.out _ B4.out).2.2.1).mono ?_
  rintro e w5 ⟨rfl, hb5⟩
  have B5 : Hid (Below (w2.alloc (.cells #[.int .i64 1, .slice p 0 c, .bool false] 25 (0, 0))).heap.size (w2.alloc (.cells #[.int .i64 1, .slice p 0 c, .bool false] 25 (0, 0))) w5) := bel0 B4.out hb5
  obtain ⟨f5, g5, -⟩ := HF.out _ B5.out
  clear f4 g4 hb5 B4
  go_wp2_with fail
  refine (HTx.out 0 none 0 _ (HQ0.out _)).mono ?_
  rintro e w6 ⟨rfl, hb6⟩
  have B6 : Hid (Below (w2.alloc (.cells #[.int .i64 1, .slice p 0 c, .bool false] 25 (0, 0))).heap.size (w2.alloc (.cells #[.int .i64 1, .slice p 0 c, .bool false] 25 (0, 0))) w6) := bel0 B5.out hb6
  obtain ⟨f6, g6, -⟩ := HF.out _ B6.out
  clear f5 g5 hb6 B5
  go_wp2_with fail
  refine (HBi.out 0 none 0 _).mono ?_
  rintro e w7 ⟨rfl, hb7⟩
  have B7 : Hid (Below (w2.alloc (.cells #[.int .i64 1, .slice p 0 c, .bool false] 25 (0, 0))).heap.size (w2.alloc (.cells #[.int .i64 1, .slice p 0 c, .bool false] 25 (0, 0))) w7) := bel0 B6.out hb7
  obtain ⟨f7, g7, -⟩ := HF.out _ B7.out
  clear f6 g6 hb7 B6
  go_wp2_with fail
  refine (HSz.out 0 none 0 _ (HQ0.out _)).mono ?_
  rintro e w8 ⟨rfl, hb8⟩
  have B8 : Hid (Below (w2.alloc (.cells #[.int .i64 1, .slice p 0 c, .bool false] 25 (0, 0))).heap.size (w2.alloc (.cells #[.int .i64 1, .slice p 0 c, .bool false] 25 (0, 0))) w8) := bel0 B7.out hb8
  obtain ⟨f8, g8, -⟩ := HF.out _ B8.out
  clear f7 g7 hb8 B7
  go_wp2_with fail
  refine (HHs.out 0 none 0 _ _ (HQ0.out _) (by decide)).mono ?_
  rintro e w9 ⟨rfl, hb9⟩
  have B9 : Hid (Below (w2.alloc (.cells #[.int .i64 1, .slice p 0 c, .bool false] 25 (0, 0))).heap.size (w2.alloc (.cells #[.int .i64 1, .slice p 0 c, .bool false] 25 (0, 0))) w9) := bel0 B8.out hb9
  obtain ⟨f9, g9, -⟩ := HF.out _ B9.out
  clear f8 g8 hb9 B8
  go_wp2_with fail
  refine (HHs.out 0 none 0 _ _ (HQ0.out _) (by decide)).mono ?_
  rintro e w10 ⟨rfl, hb10⟩
  have B10 : Hid (Below (w2.alloc (.cells #[.int .i64 1, .slice p 0 c, .bool false] 25 (0, 0))).heap.size (w2.alloc (.cells #[.int .i64 1, .slice p 0 c, .bool false] 25 (0, 0))) w10) := bel0 B9.out hb10
  obtain ⟨f10, g10, -⟩ := HF.out _ B10.out
  clear f9 g9 hb10 B9
  go_wp2_with fail
  refine (HHs.out 1 p c _ _ (HF.out _ B10.out).2.2.1 (by decide)).mono ?_
  rintro e w11 ⟨rfl, hb11⟩
  have B11 : Hid (Below (w2.alloc (.cells #[.int .i64 1, .slice p 0 c, .bool false] 25 (0, 0))).heap.size (w2.alloc (.cells #[.int .i64 1, .slice p 0 c, .bool false] 25 (0, 0))) w11) := bel0 B10.out hb11
  obtain ⟨f11, g11, -⟩ := HF.out _ B11.out
  clear f10 g10 hb11 B10
  go_wp2_with fail
  refine (HJo.out 0 0 none none 0 0 _ rfl).mono ?_
  rintro e w12 ⟨rfl, hb12⟩
  have B12 : Hid (Below (w2.alloc (.cells #[.int .i64 1, .slice p 0 c, .bool false] 25 (0, 0))).heap.size (w2.alloc (.cells #[.int .i64 1, .slice p 0 c, .bool false] 25 (0, 0))) (w12.alloc (.cells #[.int .i64 0, .slice none 0 0, .bool false] 25 (0, 0)))) := bel0 B11.out (bel0 hb12 (belA (Below.refl _ _) _))
  obtain ⟨f12, g12, -⟩ := HF.out _ B12.out
  clear f11 g11 hb12 B11
  go_wp2_with fail
  refine (HMe.out 0 1 none p 0 c _ rfl).mono ?_
  rintro e w13 ⟨rfl, hb13⟩
  have B13 : Hid (Below (w2.alloc (.cells #[.int .i64 1, .slice p 0 c, .bool false] 25 (0, 0))).heap.size (w2.alloc (.cells #[.int .i64 1, .slice p 0 c, .bool false] 25 (0, 0))) (w13.alloc (.cells #[.int .i64 0, .slice none 0 0, .bool false] 25 (0, 0)))) := bel0 B12.out (bel0 hb13 (belA (Below.refl _ _) _))
  obtain ⟨f13, g13, -⟩ := HF.out _ B13.out
  clear f12 g12 hb13 B12
  go_wp2_with fail
  refine (HMi.out 1 0 p none c 0 _ rfl).mono ?_
  rintro e w14 ⟨rfl, hb14⟩
  have B14 : Hid (Below (w2.alloc (.cells #[.int .i64 1, .slice p 0 c, .bool false] 25 (0, 0))).heap.size (w2.alloc (.cells #[.int .i64 1, .slice p 0 c, .bool false] 25 (0, 0))) (w14.alloc (.cells #[.int .i64 0, .slice none 0 0, .bool false] 25 (0, 0)))) := bel0 B13.out (bel0 hb14 (belA (Below.refl _ _) _))
  obtain ⟨f14, g14, -⟩ := HF.out _ B14.out
  clear f13 g13 hb14 B13
  go_wp2_with fail
  refine (HBe.out 0 none 0 _).mono ?_
  rintro e w15 ⟨rfl, hb15⟩
  have B15 : Hid (Below (w2.alloc (.cells #[.int .i64 1, .slice p 0 c, .bool false] 25 (0, 0))).heap.size (w2.alloc (.cells #[.int .i64 1, .slice p 0 c, .bool false] 25 (0, 0))) (w15.alloc (.cells #[.int .i64 0, .slice none 0 0, .bool false] 25 (0, 0)))) := bel0 B14.out (bel0 hb15 (belA (Below.refl _ _) _))
  obtain ⟨f15, g15, -⟩ := HF.out _ B15.out
  clear f14 g14 hb15 B14
  go_wp2_with fail
  refine (HAf.out 1 (-1) p c _).mono ?_
  rintro e w16 ⟨rfl, hb16⟩
  have B16 : Hid (Below (w2.alloc (.cells #[.int .i64 1, .slice p 0 c, .bool false] 25 (0, 0))).heap.size (w2.alloc (.cells #[.int .i64 1, .slice p 0 c, .bool false] 25 (0, 0))) (w16.alloc (.cells #[.int .i64 0, .slice none 0 0, .bool false] 25 (0, 0)))) := bel0 B15.out (bel0 hb16 (belA (Below.refl _ _) _))
  obtain ⟨f16, g16, -⟩ := HF.out _ B16.out
  clear f15 g15 hb16 B15
  go_wp2_with fail
  refine (HWi.out 0 0 (-1) none none 0 0 _ rfl).mono ?_
  rintro e w17 ⟨rfl, hb17⟩
  have B17 : Hid (Below (w2.alloc (.cells #[.int .i64 1, .slice p 0 c, .bool false] 25 (0, 0))).heap.size (w2.alloc (.cells #[.int .i64 1, .slice p 0 c, .bool false] 25 (0, 0))) w17) := bel0 B16.out hb17
  obtain ⟨f17, g17, -⟩ := HF.out _ B17.out
  clear f16 g16 hb17 B16
  go_wp2_with fail
  refine (HEx.out 0 (-1) 11 none 0 _ (HQ0.out _) x1).mono ?_
  rintro e w18 ⟨q7, k7, rfl, hb18⟩
  have B18 : Hid (Below (w2.alloc (.cells #[.int .i64 1, .slice p 0 c, .bool false] 25 (0, 0))).heap.size (w2.alloc (.cells #[.int .i64 1, .slice p 0 c, .bool false] 25 (0, 0))) w18) := bel0 B17.out hb18
  obtain ⟨f18, g18, -⟩ := HF.out _ B18.out
  clear f17 g17 hb18 B17
  go_wp2_with fail
  refine (HLe.out (-1) none 0 _).mono ?_
  rintro e w19 ⟨rfl, hb19⟩
  have B19 : Hid (Below (w2.alloc (.cells #[.int .i64 1, .slice p 0 c, .bool false] 25 (0, 0))).heap.size (w2.alloc (.cells #[.int .i64 1, .slice p 0 c, .bool false] 25 (0, 0))) w19) := bel0 B18.out hb19
  obtain ⟨f19, g19, -⟩ := HF.out _ B19.out
  clear f18 g18 hb19 B18
  go_wp2_with fail
  refine (HEx.out 1 (-1) 1 p c _ (HF.out _ B19.out).2.2.1 x2).mono ?_
  rintro e w20 ⟨q8, k8, rfl, hb20⟩
  have B20 : Hid (Below (w2.alloc (.cells #[.int .i64 1, .slice p 0 c, .bool false] 25 (0, 0))).heap.size (w2.alloc (.cells #[.int .i64 1, .slice p 0 c, .bool false] 25 (0, 0))) w20) := bel0 B19.out hb20
  obtain ⟨f20, g20, -⟩ := HF.out _ B20.out
  clear f19 g19 hb20 B19
  go_wp2_with fail
  refine (HEx.out 1 2049 1 p c _ (HF.out _ B20.out).2.2.1 x3).mono ?_
  rintro e w21 ⟨q9, k9, rfl, hb21⟩
  have B21 : Hid (Below (w2.alloc (.cells #[.int .i64 1, .slice p 0 c, .bool false] 25 (0, 0))).heap.size (w2.alloc (.cells #[.int .i64 1, .slice p 0 c, .bool false] 25 (0, 0))) w21) := bel0 B20.out hb21
  obtain ⟨f21, g21, -⟩ := HF.out _ B21.out
  clear f20 g20 hb21 B20
  go_wp2_with fail
  refine (HEx.out 1 0 0 p c _ (HF.out _ B21.out).2.2.1 x4).mono ?_
  rintro e w22 ⟨q10, k10, rfl, hb22⟩
  have B22 : Hid (Below (w2.alloc (.cells #[.int .i64 1, .slice p 0 c, .bool false] 25 (0, 0))).heap.size (w2.alloc (.cells #[.int .i64 1, .slice p 0 c, .bool false] 25 (0, 0))) w22) := bel0 B21.out hb22
  obtain ⟨f22, g22, -⟩ := HF.out _ B22.out
  clear f21 g21 hb22 B21
  go_wp2_with fail
  refine (HO1.out _).mono ?_
  rintro e w23 ⟨rfl, hb23⟩
  have B23 : Hid (Below (w2.alloc (.cells #[.int .i64 1, .slice p 0 c, .bool false] 25 (0, 0))).heap.size (w2.alloc (.cells #[.int .i64 1, .slice p 0 c, .bool false] 25 (0, 0))) w23) := bel0 B22.out hb23
  obtain ⟨f23, g23, -⟩ := HF.out _ B23.out
  clear f22 g22 hb23 B22
  go_wp2_with fail
  refine (HA3.out _).mono ?_
  rintro e w24 ⟨rfl, hb24⟩
  have B24 : Hid (Below (w2.alloc (.cells #[.int .i64 1, .slice p 0 c, .bool false] 25 (0, 0))).heap.size (w2.alloc (.cells #[.int .i64 1, .slice p 0 c, .bool false] 25 (0, 0))) w24) := bel0 B23.out hb24
  obtain ⟨f24, g24, -⟩ := HF.out _ B24.out
  clear f23 g23 hb24 B23
  go_wp2_with fail
  refine (HA4.out _).mono ?_
  rintro e w25 ⟨rfl, hb25⟩
  have B25 : Hid (Below (w2.alloc (.cells #[.int .i64 1, .slice p 0 c, .bool false] 25 (0, 0))).heap.size (w2.alloc (.cells #[.int .i64 1, .slice p 0 c, .bool false] 25 (0, 0))) w25) := bel0 B24.out hb25
  obtain ⟨f25, g25, -⟩ := HF.out _ B25.out
  clear f24 g24 hb25 B24
  go_wp2_with fail
  refine (HO2.out _ _ (alloc_get _ _)).mono ?_
  rintro e w26 ⟨rfl, hb26⟩
  have B26 : Hid (Below (w2.alloc (.cells #[.int .i64 1, .slice p 0 c, .bool false] 25 (0, 0))).heap.size (w2.alloc (.cells #[.int .i64 1, .slice p 0 c, .bool false] 25 (0, 0))) w26) := bel0 B25.out (bel0 (belA (Below.refl _ _) _) hb26)
  clear f25 g25 hb26 B25
  go_wp2_with fail
  refine (HP2.out _).mono ?_
  rintro e w27 ⟨q27, m27, k27, rfl, hb27⟩
  have B27 : Hid (Below (w2.alloc (.cells #[.int .i64 1, .slice p 0 c, .bool false] 25 (0, 0))).heap.size (w2.alloc (.cells #[.int .i64 1, .slice p 0 c, .bool false] 25 (0, 0))) w27) := bel0 B26.out hb27
  clear hb27 B26
  go_wp2_with fail
  refine (HP3.out _).mono ?_
  rintro e w28 ⟨q28, m28, k28, rfl, hb28⟩
  have B28 : Hid (Below (w2.alloc (.cells #[.int .i64 1, .slice p 0 c, .bool false] 25 (0, 0))).heap.size (w2.alloc (.cells #[.int .i64 1, .slice p 0 c, .bool false] 25 (0, 0))) w28) := bel0 B27.out hb28
  clear hb28 B27
  go_wp2_with fail
  refine (HN1.out _).mono ?_
  rintro e w29 ⟨rfl, hb29⟩
  have B29 : Hid (Below (w2.alloc (.cells #[.int .i64 1, .slice p 0 c, .bool false] 25 (0, 0))).heap.size (w2.alloc (.cells #[.int .i64 1, .slice p 0 c, .bool false] 25 (0, 0))) w29) := bel0 B28.out hb29
  clear hb29 B28
  go_wp2_with fail
  refine (HBi.out 0 none 0 _).mono ?_
  rintro e w30 ⟨rfl, hb30⟩
  have B30 : Hid (Below (w2.alloc (.cells #[.int .i64 1, .slice p 0 c, .bool false] 25 (0, 0))).heap.size (w2.alloc (.cells #[.int .i64 1, .slice p 0 c, .bool false] 25 (0, 0))) w30) := bel0 B29.out hb30
  clear hb30 B29
  go_wp2_with fail
  refine (HN2.out _).mono ?_
  rintro e w31 ⟨rfl, hb31⟩
  have B31 : Hid (Below (w2.alloc (.cells #[.int .i64 1, .slice p 0 c, .bool false] 25 (0, 0))).heap.size (w2.alloc (.cells #[.int .i64 1, .slice p 0 c, .bool false] 25 (0, 0))) w31) := bel0 B30.out hb31
  clear hb31 B30
  go_wp2_with fail
  refine (HBi.out 256 none 0 _).mono ?_
  rintro e w32 ⟨rfl, hb32⟩
  have B32 : Hid (Below (w2.alloc (.cells #[.int .i64 1, .slice p 0 c, .bool false] 25 (0, 0))).heap.size (w2.alloc (.cells #[.int .i64 1, .slice p 0 c, .bool false] 25 (0, 0))) w32) := bel0 B31.out hb32
  clear hb32 B31
  go_wp2_with fail
  refine (HN3.out _).mono ?_
  rintro e w33 ⟨rfl, hb33⟩
  have B33 : Hid (Below (w2.alloc (.cells #[.int .i64 1, .slice p 0 c, .bool false] 25 (0, 0))).heap.size (w2.alloc (.cells #[.int .i64 1, .slice p 0 c, .bool false] 25 (0, 0))) w33) := bel0 B32.out hb33
  clear hb33 B32
  go_wp2_with fail
  refine (HBi.out 0 none 0 _).mono ?_
  rintro e w34 ⟨rfl, hb34⟩
  have B34 : Hid (Below (w2.alloc (.cells #[.int .i64 1, .slice p 0 c, .bool false] 25 (0, 0))).heap.size (w2.alloc (.cells #[.int .i64 1, .slice p 0 c, .bool false] 25 (0, 0))) w34) := bel0 B33.out hb34
  clear hb34 B33
  have HZ : Hid (Below w.heap.size w w34) := (HF.out _ B34.out).2.2.2
  go_wp2_with fail
  go_ret
  exact ⟨rfl, HZ.out⟩
end Go.Proofs.YtpbbmmkhlpkkbaaGreatDoor
