import Derived.Test.YtfhghplplkkpmaaGreatDoorXAZ
import Derived.Test.YtfhghplplkkpmaaGreatDoorXBI
namespace Go.Proofs.YtfhghplplkkpmaaGreatDoor
open Go.RowKit Go.Shelf
set_option maxRecDepth 100000 in
set_option maxHeartbeats 4000000 in
theorem meet1_ok (b b2 : Int) (A C : List (List UInt8 × List (List UInt8))) (B1 B2 : Nat) (p1 p2 : Option Addr) (n1 n2 k1 k2 c1 c2 : Nat) (w : World) (h1 : SPL w B1 (.slice p1 n1 k1) A) (h2 : SPL w B2 (.slice p2 n2 k2) C) (d1 : w.heap[c1]? = some (.cells #[.int .i64 b, .slice p1 n1 k1, .bool false] 26 (0, 0))) (d2 : w.heap[c2]? = some (.cells #[.int .i64 b2, .slice p2 n2 k2, .bool false] 26 (0, 0))) (hs1 : szC A ≤ 128) (hs2 : szC C ≤ 128) (hg1 : gdC A) (hg2 : gdC C) (hml : n1 * n2 ≤ 2048) (hle : szC (topC (stl (cmN A C))) ≤ 128) :
    Calls Tryz.prog 31 #[.pointer (some ⟨c1, 0, none⟩), .pointer (some ⟨c2, 0, none⟩)] w fun e w' => Below w.heap.size w w' ∧ ∃ V, e = .returned (.agg #[.int .i64 b, V, .bool false]) ∧ SPL w' w.heap.size V (ordT (topC (stl (cmN A C)))) := by
  obtain ⟨Z1, rfl, r1, l1⟩ := h1
  obtain ⟨Z2, rfl, r2, l2⟩ := h2
  have hq1 := szC_len (Z1.map ZT.cont)
  have hq2 := szC_len (Z2.map ZT.cont)
  rw [List.length_map] at hq1 hq2
  have hn1 : Z1.length = n1 := by
    rcases own_shapeQ r1 with ⟨e1, e2⟩ | ⟨g, c, e1, -⟩
    · injection e1 with _ e3 _; omega
    · injection e1 with _ e3 _; omega
  have hn2 : Z2.length = n2 := by
    rcases own_shapeQ r2 with ⟨e1, e2⟩ | ⟨g, c, e1, -⟩
    · injection e1 with _ e3 _; omega
    · injection e1 with _ e3 _; omega
  rw [hn1] at r1 hq1
  rw [hn2] at r2 hq2
  have HZ1 : Hid (∀ W, Below w.heap.size w W → IRZ W p1 Z1 ∧ ∀ z ∈ Z1, ZOK W z ∧ z.L.length ≤ 128) := fun W hW => ⟨(IRZ_own r1 hn1).later hW, fun z hz => by
    have hm := szC_mem z.cont (List.mem_map_of_mem (f := ZT.cont) hz)
    have e : z.cont.2 = z.L := rfl
    rw [e] at hm
    exact ⟨⟨IRK_own (own_belQ (l1 z hz) hW) rfl, by omega, hg1 z.cont (List.mem_map_of_mem (f := ZT.cont) hz)⟩, by omega⟩⟩
  have HZ2 : Hid (∀ W, Below w.heap.size w W → IRZ W p2 Z2 ∧ ∀ z ∈ Z2, ZOK W z ∧ z.L.length ≤ 128) := fun W hW => ⟨(IRZ_own r2 hn2).later hW, fun z hz => by
    have hm := szC_mem z.cont (List.mem_map_of_mem (f := ZT.cont) hz)
    have e : z.cont.2 = z.L := rfl
    rw [e] at hm
    exact ⟨⟨IRK_own (own_belQ (l2 z hz) hW) rfl, by omega, hg2 z.cont (List.mem_map_of_mem (f := ZT.cont) hz)⟩, by omega⟩⟩
  obtain ⟨X, hX⟩ : ∃ X, cmN (Z1.map ZT.cont) (Z2.map ZT.cont) = X := ⟨_, rfl⟩
  rw [hX] at hle ⊢
  obtain ⟨w2, hw2⟩ : ∃ w2, w.alloc (.cells #[.int .i64 0, .slice none 0 0, .bool false] 26 (0, 0)) = w2 := ⟨_, rfl⟩
  have hA : w2.heap[w.heap.size]? = some (.cells #[.int .i64 0, .slice none 0 0, .bool false] 26 (0, 0)) := by rw [← hw2]; exact alloc_get _ _
  have hB2 : Below w.heap.size w w2 := by rw [← hw2]; exact belA (Below.refl _ _) _
  have HA : Hid (w2.heap[w.heap.size]? = some (.cells #[.int .i64 0, .slice none 0 0, .bool false] 26 (0, 0)) ∧ Below w.heap.size w w2 ∧ w.heap.size < w2.heap.size ∧ c1 ≠ w.heap.size ∧ c2 ≠ w.heap.size) := ⟨hA, hB2, lt_of_get3 hA, Nat.ne_of_lt (lt_of_get3 d1), Nat.ne_of_lt (lt_of_get3 d2)⟩
  have HK : Hid (∀ W, Below w2.heap.size w2 W → (∀ j, W.cell? ⟨c1, j, none⟩ = (#[.int .i64 b, .slice p1 n1 k1, .bool false] : Array Value)[j]?) ∧ (∀ j, W.cell? ⟨c2, j, none⟩ = (#[.int .i64 b2, .slice p2 n2 k2, .bool false] : Array Value)[j]?)) := fun W hW => ⟨(cells_block (keepblk3 (bel0 hB2 hW) d1)).1, (cells_block (keepblk3 (bel0 hB2 hW) d2)).1⟩
  have HAC : Hid (∀ W, Below w2.heap.size w2 W → Calls Tryz.prog 35 #[.slice p1 n1 k1, .slice p2 n2 k2] W fun e w' => ∃ ZZ v, e = .returned v ∧ Below W.heap.size W w' ∧ ZZ.map ZT.cont = stl X ∧ ZZ.length ≤ 20000 ∧ w'.ownsRow W.heap.size 62 10 v ZZ.length (tes ZZ) ∧ ∀ z ∈ ZZ, ZOK w' z) := fun W hW => by
    obtain ⟨i1, g1⟩ := HZ1.out W (bel0 hB2 hW)
    obtain ⟨i2, g2⟩ := HZ2.out W (bel0 hB2 hW)
    refine (common_list Z1 Z2 n1 n2 p1 p2 k1 k2 W hn1 hn2 (by omega) (by omega) i1 i2 g1 g2).mono ?_
    rintro e w' ⟨v, rfl, hb, ZZ, e1, e2, e3, e4⟩
    rw [hX] at e1
    exact ⟨ZZ, v, rfl, hb, e1, e2, e3, e4⟩
  have HTP : Hid (∀ (W : World) (ZZ : List ZT) (p : Option Addr) (c B : Nat), ZZ.map ZT.cont = stl X → ZZ.length ≤ 20000 → (∀ z ∈ ZZ, ZOK W z) → W.ownsRow B 62 10 (.slice p ZZ.length c) ZZ.length (tes ZZ) → Calls Tryz.prog 34 #[.slice p ZZ.length c] W fun e w' => ∃ v, e = .returned v ∧ w'.ownsRow W.heap.size 62 10 v (topZL ZZ).length (tes (topZL ZZ)) ∧ Below W.heap.size W w') := fun W ZZ p c B e1 e2 e4 ho => by
    have hT1 := topC_map ZZ
    have hT2 := szC_map (topZL ZZ)
    rw [hT1, e1] at hT2
    have hTl := topZL_len ZZ
    have hTs := szZ_le (topZL ZZ) (fun z hz => (e4 z (topZL_mem hz)).2.1)
    have h := topmost_any ZZ ZZ.length p c W rfl (by omega) (IRZ_own ho rfl) e4 (by
      have : (topZL ZZ).length * 1000001 ≤ 20000 * 1000001 := Nat.mul_le_mul_right _ (by omega)
      omega)
    rw [hT2] at h
    refine h.mono ?_
    rintro e w' ⟨hb, ⟨hle', v, rfl, ov⟩ | ⟨hgt', rfl⟩⟩
    · exact ⟨v, rfl, ov, hb⟩
    · omega
  have HIO : Hid (∀ (W W' : World) (ZZ : List ZT) (p : Option Addr) (c B : Nat), ZZ.map ZT.cont = stl X → ZZ.length ≤ 20000 → (∀ z ∈ ZZ, ZOK W z) → Below W.heap.size W W' → W'.ownsRow B 62 10 (.slice p (topZL ZZ).length c) (topZL ZZ).length (tes (topZL ZZ)) → Calls Tryz.prog 33 #[.int .i64 b, .slice p (topZL ZZ).length c] W' fun e w' => ∃ V, e = .returned (.agg #[.int .i64 b, V, .bool false]) ∧ SPL w' W'.heap.size V (ordT (topC (stl X))) ∧ Below W'.heap.size W' w') := fun W W' ZZ p c B e1 e2 e4 hb ho => by
    have hT1 := topC_map ZZ
    rw [e1] at hT1
    have h := inOrder_any b (topZL ZZ) (topZL ZZ).length p c W' rfl (by have := topZL_len ZZ; omega) (IRZ_own ho rfl) (fun z hz => (e4 z (topZL_mem hz)).later (KC_below hb))
    rw [hT1] at h
    exact h
  obtain ⟨XX, hXX⟩ : ∃ Y, ordT (topC (stl X)) = Y := ⟨_, rfl⟩
  rw [hXX] at HIO ⊢
  obtain ⟨m8, hm8⟩ : ∃ m, XX.length = m := ⟨_, rfl⟩
  obtain ⟨N, hN⟩ : ∃ N, n1 * n2 = N := ⟨_, rfl⟩
  have hNb : N ≤ 16384 := by
    have : n1 * n2 ≤ 128 * 128 := Nat.mul_le_mul (by omega) (by omega)
    omega
  have hmul : (n1 : Int) * (n2 : Int) = (N : Int) := by rw [← hN]; simp
  have jl : ¬ (N : Int) > 2048 := by omega
  have HSP : Hid (∀ W, Calls Tryz.prog 32 #[.int .i64 (N : Int), .int .i64 2048] W fun e w' => e = .returned (.tuple #[]) ∧ w' = W) := fun W => spend_ok (N : Int) 2048 W (by omega)
  have hk0 := HK.out w2 (Below.refl _ _)
  have hk0d : (∀ j, w2.drew.cell? ⟨c1, j, none⟩ = (#[.int .i64 b, .slice p1 n1 k1, .bool false] : Array Value)[j]?) ∧ (∀ j, w2.drew.cell? ⟨c2, j, none⟩ = (#[.int .i64 b2, .slice p2 n2 k2, .bool false] : Array Value)[j]?) := hk0
  obtain ⟨hka, hkb⟩ := hk0
  have hk0 : (∀ j, w2.cell? ⟨c1, j, none⟩ = (#[.int .i64 b, .slice p1 n1 k1, .bool false] : Array Value)[j]?) ∧ (∀ j, w2.cell? ⟨c2, j, none⟩ = (#[.int .i64 b2, .slice p2 n2 k2, .bool false] : Array Value)[j]?) := ⟨hka, hkb⟩
  clear hA hB2 d1 d2 r1 r2 l1 l2 hq1 hq2 hn1 hn2 hs1 hs2 hg1 hg2 hX hXX hle hN hml HZ1 HZ2
  go_enter Tryz.func31, Tryz.ntmps31
  go_wp2_with fail
  refine (HSP.out _).mono ?_
  rintro e w2 ⟨rfl, rfl⟩
  go_upto_region 4 with fail
  clear hw2 hka hkb
  go_region_held3 (fun W => (∀ j, W.cell? ⟨c1, j, none⟩ = (#[.int .i64 b, .slice p1 n1 k1, .bool false] : Array Value)[j]?) ∧ (∀ j, W.cell? ⟨c2, j, none⟩ = (#[.int .i64 b2, .slice p2 n2 k2, .bool false] : Array Value)[j]?)) (first | with_reducible exact hk0 | with_reducible exact hk0d | with_reducible exact hk5 | with_reducible exact hk9 | with_reducible exact hk10 | with_reducible exact hk11) (first | (go_at_call 35; refine (HAC.out _ (by first | exact Below.refl _ _ | exact (Below.refl _ _).drew)).mono ?_; rintro e w5 ⟨ZZ, v5, rfl, hb5, e1, e2, o5, e4⟩; obtain ⟨pv, cv, rfl⟩ := shapeQ1 o5; have hb5' : Below w2.heap.size w2 w5 := (by first | exact hb5 | exact und hb5); have hk5 := HK.out w5 hb5') | (go_at_call 34; refine (HTP.out _ ZZ _ _ _ e1 e2 e4 o5).mono ?_; rintro e w9 ⟨v9, rfl, o9, hb9⟩; obtain ⟨pw, cw, rfl⟩ := shapeQ1 o9; have hb9' : Below w2.heap.size w2 w9 := bel0 hb5' hb9; have hk9 := HK.out w9 hb9') | (go_at_call 33; refine (HIO.out w5 w9 ZZ _ _ _ e1 e2 e4 hb9 o9).mono ?_; rintro e w10 ⟨V10, rfl, s10, hb10⟩; obtain ⟨p8, c8, rfl⟩ := s10.shape; rw [hm8] at s10; have hb10' : Below w2.heap.size w2 w10 := bel0 hb9' hb10; have hk10 := HK.out w10 hb10'; have hg10 := keepblk3 hb10' HA.out.1; obtain ⟨hcR, hfR⟩ := cells_block hg10; have hk11 : (∀ j, (((w10.setCell ⟨w.heap.size, 0, none⟩ (.int .i64 b)).setCell ⟨w.heap.size, 1, none⟩ (.slice p8 m8 c8)).setCell ⟨w.heap.size, 2, none⟩ (.bool false)).cell? ⟨c1, j, none⟩ = (#[.int .i64 b, .slice p1 n1 k1, .bool false] : Array Value)[j]?) ∧ (∀ j, (((w10.setCell ⟨w.heap.size, 0, none⟩ (.int .i64 b)).setCell ⟨w.heap.size, 1, none⟩ (.slice p8 m8 c8)).setCell ⟨w.heap.size, 2, none⟩ (.bool false)).cell? ⟨c2, j, none⟩ = (#[.int .i64 b2, .slice p2 n2 k2, .bool false] : Array Value)[j]?) := ⟨far3c _ _ _ HA.out.2.2.2.1 hk10.1, far3c _ _ _ HA.out.2.2.2.2 hk10.2⟩))
  have hlt : w.heap.size < w9.heap.size := Nat.lt_of_lt_of_le HA.out.2.2.1 hb9'.size
  have HP : Hid (Below w.heap.size w (((w10.setCell ⟨w.heap.size, 0, none⟩ (.int .i64 b)).setCell ⟨w.heap.size, 1, none⟩ (.slice p8 m8 c8)).setCell ⟨w.heap.size, 2, none⟩ (.bool false)) ∧ (((w10.setCell ⟨w.heap.size, 0, none⟩ (.int .i64 b)).setCell ⟨w.heap.size, 1, none⟩ (.slice p8 m8 c8)).setCell ⟨w.heap.size, 2, none⟩ (.bool false)).heap[w.heap.size]? = some (.cells #[.int .i64 b, .slice p8 m8 c8, .bool false] 26 (0, 0)) ∧ SPL (((w10.setCell ⟨w.heap.size, 0, none⟩ (.int .i64 b)).setCell ⟨w.heap.size, 1, none⟩ (.slice p8 m8 c8)).setCell ⟨w.heap.size, 2, none⟩ (.bool false)) w.heap.size (.slice p8 m8 c8) XX) := ⟨(((bel0 HA.out.2.1 hb10').setCell (Nat.le_refl _) _).setCell (Nat.le_refl _) _).setCell (Nat.le_refl _) _, put3_get _ _ _ hg10, (s10.kept (gr3 _ _ _ _ _) hlt).base (Nat.le_of_lt hlt)⟩
  clear hk0 hk0d hk5 hk9 hk10 hk11 hcR hfR hg10 s10 o5 o9
  go_wp2_with fail
  refine bodyPost_ret (v := .agg #[.int .i64 b, .slice p8 m8 c8, .bool false]) (res_space _ _ w.heap.size _ _ _ Tryz.results31 rfl HP.out.2.1) rfl ?_
  exact ⟨HP.out.1, _, rfl, HP.out.2.2⟩
set_option maxRecDepth 100000 in
set_option maxHeartbeats 4000000 in
theorem meet1_over (b b2 : Int) (A C : List (List UInt8 × List (List UInt8))) (B1 B2 : Nat) (p1 p2 : Option Addr) (n1 n2 k1 k2 c1 c2 : Nat) (w : World) (h1 : SPL w B1 (.slice p1 n1 k1) A) (h2 : SPL w B2 (.slice p2 n2 k2) C) (d1 : w.heap[c1]? = some (.cells #[.int .i64 b, .slice p1 n1 k1, .bool false] 26 (0, 0))) (d2 : w.heap[c2]? = some (.cells #[.int .i64 b2, .slice p2 n2 k2, .bool false] 26 (0, 0))) (hs1 : szC A ≤ 128) (hs2 : szC C ≤ 128) (hg1 : gdC A) (hg2 : gdC C) (hml : n1 * n2 ≤ 2048) (hgt : 128 < szC (topC (stl (cmN A C)))) :
    Calls Tryz.prog 31 #[.pointer (some ⟨c1, 0, none⟩), .pointer (some ⟨c2, 0, none⟩)] w fun e w' => Below w.heap.size w w' ∧ e = .panicked [{ v := .iface 89 (.agg #[]), recovered := false }] := by
  obtain ⟨Z1, rfl, r1, l1⟩ := h1
  obtain ⟨Z2, rfl, r2, l2⟩ := h2
  have hq1 := szC_len (Z1.map ZT.cont)
  have hq2 := szC_len (Z2.map ZT.cont)
  rw [List.length_map] at hq1 hq2
  have hn1 : Z1.length = n1 := by
    rcases own_shapeQ r1 with ⟨e1, e2⟩ | ⟨g, c, e1, -⟩
    · injection e1 with _ e3 _; omega
    · injection e1 with _ e3 _; omega
  have hn2 : Z2.length = n2 := by
    rcases own_shapeQ r2 with ⟨e1, e2⟩ | ⟨g, c, e1, -⟩
    · injection e1 with _ e3 _; omega
    · injection e1 with _ e3 _; omega
  rw [hn1] at r1 hq1
  rw [hn2] at r2 hq2
  have HZ1 : Hid (∀ W, Below w.heap.size w W → IRZ W p1 Z1 ∧ ∀ z ∈ Z1, ZOK W z ∧ z.L.length ≤ 128) := fun W hW => ⟨(IRZ_own r1 hn1).later hW, fun z hz => by
    have hm := szC_mem z.cont (List.mem_map_of_mem (f := ZT.cont) hz)
    have e : z.cont.2 = z.L := rfl
    rw [e] at hm
    exact ⟨⟨IRK_own (own_belQ (l1 z hz) hW) rfl, by omega, hg1 z.cont (List.mem_map_of_mem (f := ZT.cont) hz)⟩, by omega⟩⟩
  have HZ2 : Hid (∀ W, Below w.heap.size w W → IRZ W p2 Z2 ∧ ∀ z ∈ Z2, ZOK W z ∧ z.L.length ≤ 128) := fun W hW => ⟨(IRZ_own r2 hn2).later hW, fun z hz => by
    have hm := szC_mem z.cont (List.mem_map_of_mem (f := ZT.cont) hz)
    have e : z.cont.2 = z.L := rfl
    rw [e] at hm
    exact ⟨⟨IRK_own (own_belQ (l2 z hz) hW) rfl, by omega, hg2 z.cont (List.mem_map_of_mem (f := ZT.cont) hz)⟩, by omega⟩⟩
  obtain ⟨X, hX⟩ : ∃ X, cmN (Z1.map ZT.cont) (Z2.map ZT.cont) = X := ⟨_, rfl⟩
  rw [hX] at hgt
  obtain ⟨w2, hw2⟩ : ∃ w2, w.alloc (.cells #[.int .i64 0, .slice none 0 0, .bool false] 26 (0, 0)) = w2 := ⟨_, rfl⟩
  have hA : w2.heap[w.heap.size]? = some (.cells #[.int .i64 0, .slice none 0 0, .bool false] 26 (0, 0)) := by rw [← hw2]; exact alloc_get _ _
  have hB2 : Below w.heap.size w w2 := by rw [← hw2]; exact belA (Below.refl _ _) _
  have HA : Hid (w2.heap[w.heap.size]? = some (.cells #[.int .i64 0, .slice none 0 0, .bool false] 26 (0, 0)) ∧ Below w.heap.size w w2 ∧ w.heap.size < w2.heap.size ∧ c1 ≠ w.heap.size ∧ c2 ≠ w.heap.size) := ⟨hA, hB2, lt_of_get3 hA, Nat.ne_of_lt (lt_of_get3 d1), Nat.ne_of_lt (lt_of_get3 d2)⟩
  have HK : Hid (∀ W, Below w2.heap.size w2 W → (∀ j, W.cell? ⟨c1, j, none⟩ = (#[.int .i64 b, .slice p1 n1 k1, .bool false] : Array Value)[j]?) ∧ (∀ j, W.cell? ⟨c2, j, none⟩ = (#[.int .i64 b2, .slice p2 n2 k2, .bool false] : Array Value)[j]?)) := fun W hW => ⟨(cells_block (keepblk3 (bel0 hB2 hW) d1)).1, (cells_block (keepblk3 (bel0 hB2 hW) d2)).1⟩
  have HAC : Hid (∀ W, Below w2.heap.size w2 W → Calls Tryz.prog 35 #[.slice p1 n1 k1, .slice p2 n2 k2] W fun e w' => ∃ ZZ v, e = .returned v ∧ Below W.heap.size W w' ∧ ZZ.map ZT.cont = stl X ∧ ZZ.length ≤ 20000 ∧ w'.ownsRow W.heap.size 62 10 v ZZ.length (tes ZZ) ∧ ∀ z ∈ ZZ, ZOK w' z) := fun W hW => by
    obtain ⟨i1, g1⟩ := HZ1.out W (bel0 hB2 hW)
    obtain ⟨i2, g2⟩ := HZ2.out W (bel0 hB2 hW)
    refine (common_list Z1 Z2 n1 n2 p1 p2 k1 k2 W hn1 hn2 (by omega) (by omega) i1 i2 g1 g2).mono ?_
    rintro e w' ⟨v, rfl, hb, ZZ, e1, e2, e3, e4⟩
    rw [hX] at e1
    exact ⟨ZZ, v, rfl, hb, e1, e2, e3, e4⟩
  have HTP : Hid (∀ (W : World) (ZZ : List ZT) (p : Option Addr) (c B : Nat), ZZ.map ZT.cont = stl X → ZZ.length ≤ 20000 → (∀ z ∈ ZZ, ZOK W z) → W.ownsRow B 62 10 (.slice p ZZ.length c) ZZ.length (tes ZZ) → Calls Tryz.prog 34 #[.slice p ZZ.length c] W fun e w' => e = .panicked [{ v := .iface 89 (.agg #[]), recovered := false }] ∧ Below W.heap.size W w') := fun W ZZ p c B e1 e2 e4 ho => by
    have hT1 := topC_map ZZ
    have hT2 := szC_map (topZL ZZ)
    rw [hT1, e1] at hT2
    have hTl := topZL_len ZZ
    have hTs := szZ_le (topZL ZZ) (fun z hz => (e4 z (topZL_mem hz)).2.1)
    have h := topmost_any ZZ ZZ.length p c W rfl (by omega) (IRZ_own ho rfl) e4 (by
      have : (topZL ZZ).length * 1000001 ≤ 20000 * 1000001 := Nat.mul_le_mul_right _ (by omega)
      omega)
    rw [hT2] at h
    refine h.mono ?_
    rintro e w' ⟨hb, ⟨hle', v, rfl, ov⟩ | ⟨hgt', rfl⟩⟩
    · omega
    · exact ⟨rfl, hb⟩
  obtain ⟨N, hN⟩ : ∃ N, n1 * n2 = N := ⟨_, rfl⟩
  have hNb : N ≤ 16384 := by
    have : n1 * n2 ≤ 128 * 128 := Nat.mul_le_mul (by omega) (by omega)
    omega
  have hmul : (n1 : Int) * (n2 : Int) = (N : Int) := by rw [← hN]; simp
  have jl : ¬ (N : Int) > 2048 := by omega
  have HSP : Hid (∀ W, Calls Tryz.prog 32 #[.int .i64 (N : Int), .int .i64 2048] W fun e w' => e = .returned (.tuple #[]) ∧ w' = W) := fun W => spend_ok (N : Int) 2048 W (by omega)
  have hk0 := HK.out w2 (Below.refl _ _)
  have hk0d : (∀ j, w2.drew.cell? ⟨c1, j, none⟩ = (#[.int .i64 b, .slice p1 n1 k1, .bool false] : Array Value)[j]?) ∧ (∀ j, w2.drew.cell? ⟨c2, j, none⟩ = (#[.int .i64 b2, .slice p2 n2 k2, .bool false] : Array Value)[j]?) := hk0
  obtain ⟨hka, hkb⟩ := hk0
  clear hA hB2 d1 d2 r1 r2 l1 l2 hq1 hq2 hn1 hn2 hs1 hs2 hg1 hg2 hX hgt hN hml HZ1 HZ2
  go_enter Tryz.func31, Tryz.ntmps31
  go_wp2_with fail
  refine (HSP.out _).mono ?_
  rintro e w2 ⟨rfl, rfl⟩
  go_upto_region 4 with fail
  clear hw2 hka hkb
  refine wp_region_held_drew (S := fun W => (∀ j, W.cell? ⟨c1, j, none⟩ = (#[.int .i64 b, .slice p1 n1 k1, .bool false] : Array Value)[j]?) ∧ (∀ j, W.cell? ⟨c2, j, none⟩ = (#[.int .i64 b2, .slice p2 n2 k2, .bool false] : Array Value)[j]?)) (by kernel_rfl) hk0d (fun _ => ?_)
  refine wpAnyH_take (i := 0) (v := .pointer (some ⟨c1, 0, none⟩)) rfl (by kernel_rfl) (by kernel_rfl) (by kernel_rfl) (fun _ _ _ h => h) (Or.inl ⟨by rfl, ?_⟩) hk0d ?_
  · rintro w ⟨s1, s2⟩; go_simp
  refine wpAnyH_take (i := 1) (v := .int .i64 b) rfl (by kernel_rfl) (by kernel_rfl) (by kernel_rfl) (fun _ _ _ h => h) (Or.inl ⟨by rfl, ?_⟩) hk0d ?_
  · rintro w ⟨s1, s2⟩; go_simp
  refine wpAnyH_take (i := 2) (v := .pointer (some ⟨c1, 1, none⟩)) rfl (by kernel_rfl) (by kernel_rfl) (by kernel_rfl) (fun _ _ _ h => h) (Or.inl ⟨by rfl, ?_⟩) hk0d ?_
  · rintro w ⟨s1, s2⟩; go_simp
  refine wpAnyH_take (i := 3) (v := .slice p1 n1 k1) rfl (by kernel_rfl) (by kernel_rfl) (by kernel_rfl) (fun _ _ _ h => h) (Or.inl ⟨by rfl, ?_⟩) hk0d ?_
  · rintro w ⟨s1, s2⟩; go_simp
  refine wpAnyH_take (i := 4) (v := .pointer (some ⟨c2, 1, none⟩)) rfl (by kernel_rfl) (by kernel_rfl) (by kernel_rfl) (fun _ _ _ h => h) (Or.inl ⟨by rfl, ?_⟩) hk0d ?_
  · rintro w ⟨s1, s2⟩; go_simp
  refine wpAnyH_take (i := 5) (v := .slice p2 n2 k2) rfl (by kernel_rfl) (by kernel_rfl) (by kernel_rfl) (fun _ _ _ h => h) (Or.inl ⟨by rfl, ?_⟩) hk0d ?_
  · rintro w ⟨s1, s2⟩; go_simp
  refine wpAnyH_ready (rs := [6]) (by kernel_rfl) (by simp) ?_
  refine AllReadyH.cons rfl (fun K hK => ?_) AllReadyH.nil
  go_simp
  refine (HAC.out _ (Below.refl _ _).drew).mono ?_
  rintro e w5 ⟨ZZ, v5, rfl, hb5, e1, e2, o5, e4⟩
  obtain ⟨pv, cv, rfl⟩ := shapeQ1 o5
  have hb5' : Below w2.heap.size w2 w5 := und hb5
  have hk5 := HK.out w5 hb5'
  go_simp
  refine hK.out _ _ hk5 (fun _ => ?_)
  clear hK K
  refine wpAnyH_ready (rs := [7]) (by kernel_rfl) (by simp) ?_
  refine AllReadyH.cons rfl (fun K hK => ?_) AllReadyH.nil
  go_simp
  refine (HTP.out _ ZZ _ _ _ e1 e2 e4 o5).mono ?_
  rintro e w9 ⟨rfl, hb9⟩
  have hb9' : Below w2.heap.size w2 w9 := bel0 hb5' hb9
  exact ⟨rfl, bel0 HA.out.2.1 hb9', rfl⟩
theorem below_same3 {B : Nat} {w W : World} {c : Nat} {v0 v1 v2 : Value} {T : TypeId} {m : Nat × Nat} (h : Below B w W) (hc : W.heap[c]? = some (.cells #[v0, v1, v2] T m)) : Below B w (((W.setCell ⟨c, 0, none⟩ v0).setCell ⟨c, 1, none⟩ v1).setCell ⟨c, 2, none⟩ v2) := by
  refine ⟨h.os, h.tape, h.output, by simp; exact h.size, fun k hk => ?_⟩
  by_cases e : k = c
  · subst e
    rw [put3_get _ _ _ hc, ← hc]
    exact h.block k hk
  · rw [far3h _ _ _ e]
    exact h.block k hk
set_option maxRecDepth 100000 in
set_option maxHeartbeats 4000000 in
theorem meet1_many (b b2 : Int) (A C : List (List UInt8 × List (List UInt8))) (B1 B2 : Nat) (p1 p2 : Option Addr) (n1 n2 k1 k2 c1 c2 : Nat) (w : World) (h1 : SPL w B1 (.slice p1 n1 k1) A) (h2 : SPL w B2 (.slice p2 n2 k2) C) (d1 : w.heap[c1]? = some (.cells #[.int .i64 b, .slice p1 n1 k1, .bool false] 26 (0, 0))) (d2 : w.heap[c2]? = some (.cells #[.int .i64 b2, .slice p2 n2 k2, .bool false] 26 (0, 0))) (hs1 : szC A ≤ 128) (hs2 : szC C ≤ 128) (hg1 : gdC A) (hg2 : gdC C) (hne : c1 ≠ c2) (hml : 2048 < n1 * n2) :
    Calls Tryz.prog 31 #[.pointer (some ⟨c1, 0, none⟩), .pointer (some ⟨c2, 0, none⟩)] w fun e w' => Below w.heap.size w w' ∧ e = .panicked [{ v := .iface 89 (.agg #[]), recovered := false }] := by
  obtain ⟨Z1, rfl, r1, l1⟩ := h1
  obtain ⟨Z2, rfl, r2, l2⟩ := h2
  have hq1 := szC_len (Z1.map ZT.cont)
  have hq2 := szC_len (Z2.map ZT.cont)
  rw [List.length_map] at hq1 hq2
  have hn1 : Z1.length = n1 := by
    rcases own_shapeQ r1 with ⟨e1, e2⟩ | ⟨g, c, e1, -⟩
    · injection e1 with _ e3 _; omega
    · injection e1 with _ e3 _; omega
  have hn2 : Z2.length = n2 := by
    rcases own_shapeQ r2 with ⟨e1, e2⟩ | ⟨g, c, e1, -⟩
    · injection e1 with _ e3 _; omega
    · injection e1 with _ e3 _; omega
  rw [hn1] at r1 hq1
  rw [hn2] at r2 hq2
  obtain ⟨w2, hw2⟩ : ∃ w2, w.alloc (.cells #[.int .i64 0, .slice none 0 0, .bool false] 26 (0, 0)) = w2 := ⟨_, rfl⟩
  have hB2 : Below w.heap.size w w2 := by rw [← hw2]; exact belA (Below.refl _ _) _
  have HA : Hid (Below w.heap.size w w2) := hB2
  have HNE : Hid (c1 ≠ c2) := hne
  have HBK : Hid (∀ W, Below w2.heap.size w2 W → W.heap[c1]? = some (.cells #[.int .i64 b, .slice p1 n1 k1, .bool false] 26 (0, 0)) ∧ W.heap[c2]? = some (.cells #[.int .i64 b2, .slice p2 n2 k2, .bool false] 26 (0, 0))) := fun W hW => ⟨keepblk3 (bel0 hB2 hW) d1, keepblk3 (bel0 hB2 hW) d2⟩
  have HK : Hid (∀ W, Below w2.heap.size w2 W → (∀ j, W.cell? ⟨c1, j, none⟩ = (#[.int .i64 b, .slice p1 n1 k1, .bool false] : Array Value)[j]?) ∧ (∀ j, W.cell? ⟨c2, j, none⟩ = (#[.int .i64 b2, .slice p2 n2 k2, .bool false] : Array Value)[j]?)) := fun W hW => ⟨(cells_block (HBK.out W hW).1).1, (cells_block (HBK.out W hW).2).1⟩
  obtain ⟨N, hN⟩ : ∃ N, n1 * n2 = N := ⟨_, rfl⟩
  have hNb : N ≤ 16384 := by
    have : n1 * n2 ≤ 128 * 128 := Nat.mul_le_mul (by omega) (by omega)
    omega
  have hmul : (n1 : Int) * (n2 : Int) = (N : Int) := by rw [← hN]; simp
  have jl : (N : Int) > 2048 := by omega
  have HSP : Hid (∀ W, Calls Tryz.prog 32 #[.int .i64 (N : Int), .int .i64 2048] W fun e w' => e = .panicked [{ v := .iface 89 (.agg #[]), recovered := false }] ∧ w' = W) := fun W => spend_over (N : Int) 2048 W (by omega)
  have hk0 := HK.out w2 (Below.refl _ _)
  have hk0d : (∀ j, w2.drew.cell? ⟨c1, j, none⟩ = (#[.int .i64 b, .slice p1 n1 k1, .bool false] : Array Value)[j]?) ∧ (∀ j, w2.drew.cell? ⟨c2, j, none⟩ = (#[.int .i64 b2, .slice p2 n2 k2, .bool false] : Array Value)[j]?) := hk0
  obtain ⟨hka, hkb⟩ := hk0
  have hk0 : (∀ j, w2.cell? ⟨c1, j, none⟩ = (#[.int .i64 b, .slice p1 n1 k1, .bool false] : Array Value)[j]?) ∧ (∀ j, w2.cell? ⟨c2, j, none⟩ = (#[.int .i64 b2, .slice p2 n2 k2, .bool false] : Array Value)[j]?) := ⟨hka, hkb⟩
  clear hB2 d1 d2 r1 r2 l1 l2 hq1 hq2 hn1 hn2 hs1 hs2 hg1 hg2 hN hml hne
  go_enter Tryz.func31, Tryz.ntmps31
  go_upto_region 2 with fail
  clear hw2 hka hkb
  go_region_held3 (fun W => (∀ j, W.cell? ⟨c1, j, none⟩ = (#[.int .i64 b, .slice p1 n1 k1, .bool false] : Array Value)[j]?) ∧ (∀ j, W.cell? ⟨c2, j, none⟩ = (#[.int .i64 b2, .slice p2 n2 k2, .bool false] : Array Value)[j]?)) (first | with_reducible exact hk0 | with_reducible exact hk0d | with_reducible exact hk5 | with_reducible exact hk6 | with_reducible exact hk7 | with_reducible exact hk8) (first | (go_at_call 30; have chk := hb5'; refine (inForm_any _ _ _ _ _).mono ?_; rintro e w6 ⟨rfl, hb6⟩; have hb6' : Below w2.heap.size w2 w6 := bel0 hb5' hb6; have hk6 := HK.out w6 hb6'; obtain ⟨bk1, bk2⟩ := HBK.out w6 hb6'; obtain ⟨hcc1, hff1⟩ := cells_block bk1; have bk2' : (((w6.setCell ⟨c1, 0, none⟩ (.int .i64 b)).setCell ⟨c1, 1, none⟩ (.slice p1 n1 k1)).setCell ⟨c1, 2, none⟩ (.bool false)).heap[c2]? = some (.cells #[.int .i64 b2, .slice p2 n2 k2, .bool false] 26 (0, 0)) := (far3h _ _ _ HNE.out.symm).trans bk2; obtain ⟨hcc2, hff2⟩ := cells_block bk2'; have hk7 : (∀ j, (((w6.setCell ⟨c1, 0, none⟩ (.int .i64 b)).setCell ⟨c1, 1, none⟩ (.slice p1 n1 k1)).setCell ⟨c1, 2, none⟩ (.bool false)).cell? ⟨c1, j, none⟩ = (#[.int .i64 b, .slice p1 n1 k1, .bool false] : Array Value)[j]?) ∧ (∀ j, (((w6.setCell ⟨c1, 0, none⟩ (.int .i64 b)).setCell ⟨c1, 1, none⟩ (.slice p1 n1 k1)).setCell ⟨c1, 2, none⟩ (.bool false)).cell? ⟨c2, j, none⟩ = (#[.int .i64 b2, .slice p2 n2 k2, .bool false] : Array Value)[j]?) := ⟨(cells_block (put3_get _ _ _ bk1)).1, hcc2⟩; have hk8 : (∀ j, ((((((w6.setCell ⟨c1, 0, none⟩ (.int .i64 b)).setCell ⟨c1, 1, none⟩ (.slice p1 n1 k1)).setCell ⟨c1, 2, none⟩ (.bool false)).setCell ⟨c2, 0, none⟩ (.int .i64 b2)).setCell ⟨c2, 1, none⟩ (.slice p2 n2 k2)).setCell ⟨c2, 2, none⟩ (.bool false)).cell? ⟨c1, j, none⟩ = (#[.int .i64 b, .slice p1 n1 k1, .bool false] : Array Value)[j]?) ∧ (∀ j, ((((((w6.setCell ⟨c1, 0, none⟩ (.int .i64 b)).setCell ⟨c1, 1, none⟩ (.slice p1 n1 k1)).setCell ⟨c1, 2, none⟩ (.bool false)).setCell ⟨c2, 0, none⟩ (.int .i64 b2)).setCell ⟨c2, 1, none⟩ (.slice p2 n2 k2)).setCell ⟨c2, 2, none⟩ (.bool false)).cell? ⟨c2, j, none⟩ = (#[.int .i64 b2, .slice p2 n2 k2, .bool false] : Array Value)[j]?) := ⟨far3c _ _ _ HNE.out hk7.1, (cells_block (put3_get _ _ _ bk2')).1⟩) | (go_at_call 30; refine (inForm_any _ _ _ _ _).mono ?_; rintro e w5 ⟨rfl, hb5⟩; have hb5' : Below w2.heap.size w2 w5 := (by first | exact hb5 | exact und hb5); have hk5 := HK.out w5 hb5'))
  have HXB : Hid (Below w.heap.size w ((((((w6.setCell ⟨c1, 0, none⟩ (.int .i64 b)).setCell ⟨c1, 1, none⟩ (.slice p1 n1 k1)).setCell ⟨c1, 2, none⟩ (.bool false)).setCell ⟨c2, 0, none⟩ (.int .i64 b2)).setCell ⟨c2, 1, none⟩ (.slice p2 n2 k2)).setCell ⟨c2, 2, none⟩ (.bool false))) := below_same3 (below_same3 (bel0 HA.out hb6') bk1) bk2'
  obtain ⟨hx1, hx2⟩ := hk8
  obtain ⟨X, hX⟩ : ∃ X, ((((((w6.setCell ⟨c1, 0, none⟩ (.int .i64 b)).setCell ⟨c1, 1, none⟩ (.slice p1 n1 k1)).setCell ⟨c1, 2, none⟩ (.bool false)).setCell ⟨c2, 0, none⟩ (.int .i64 b2)).setCell ⟨c2, 1, none⟩ (.slice p2 n2 k2)).setCell ⟨c2, 2, none⟩ (.bool false)) = X := ⟨_, rfl⟩
  rw [hX] at HXB hx1 hx2 ⊢
  clear hk0 hk0d hk5 hk6 hk7 hcc1 hff1 hcc2 hff2 bk1 bk2 bk2' hb5 hb6 hX
  go_wp2_with fail
  refine (HSP.out _).mono ?_
  rintro e X ⟨rfl, rfl⟩
  go_wp2_with fail
  exact ⟨rfl, HXB.out, rfl⟩
end Go.Proofs.YtfhghplplkkpmaaGreatDoor
