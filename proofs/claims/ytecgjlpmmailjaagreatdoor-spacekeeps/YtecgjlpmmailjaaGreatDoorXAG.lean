import Derived.Test.YtecgjlpmmailjaaGreatDoorXAF
namespace Go.Proofs.YtecgjlpmmailjaaGreatDoor
open Go.RowKit
/-- a row of rows of cubes lies there -/
def IRL (w : World) (p : Option Addr) (LL : List (List (List UInt8))) : Prop := ∀ W : World, Below w.heap.size w W → ∀ k L, LL[k]? = some L → ∃ g o0 q c, p = some ⟨g, o0, none⟩ ∧ W.cell? ⟨g, o0 + k, none⟩ = some (.slice q L.length c) ∧ IRC W q L
theorem IRL.later {w W : World} {p : Option Addr} {LL : List (List (List UInt8))} (h : IRL w p LL) (hb : Below w.heap.size w W) : IRL W p LL := fun X hX k L hL => h X (bel0 hb hX) k L hL
def put10 (W : World) (b : Nat) (v0 v1 v2 v3 v4 v5 v6 v7 v8 v9 : Value) : World := ((((((((((W.setCell ⟨b, 0, none⟩ v0).setCell ⟨b, 1, none⟩ v1).setCell ⟨b, 2, none⟩ v2).setCell ⟨b, 3, none⟩ v3).setCell ⟨b, 4, none⟩ v4).setCell ⟨b, 5, none⟩ v5).setCell ⟨b, 6, none⟩ v6).setCell ⟨b, 7, none⟩ v7).setCell ⟨b, 8, none⟩ v8).setCell ⟨b, 9, none⟩ v9)
theorem put10_get {W : World} {b : Nat} {t : TypeId} {x0 x1 x2 x3 x4 x5 x6 x7 x8 x9 : Value} (v0 v1 v2 v3 v4 v5 v6 v7 v8 v9 : Value) (h : W.heap[b]? = some (.cells #[x0, x1, x2, x3, x4, x5, x6, x7, x8, x9] t (0, 0))) : (put10 W b v0 v1 v2 v3 v4 v5 v6 v7 v8 v9).heap[b]? = some (.cells #[v0, v1, v2, v3, v4, v5, v6, v7, v8, v9] t (0, 0)) := by
  unfold put10
  have h0 := set_get (j := 0) v0 h
  have h1 := set_get (j := 1) v1 h0
  have h2 := set_get (j := 2) v2 h1
  have h3 := set_get (j := 3) v3 h2
  have h4 := set_get (j := 4) v4 h3
  have h5 := set_get (j := 5) v5 h4
  have h6 := set_get (j := 6) v6 h5
  have h7 := set_get (j := 7) v7 h6
  have h8 := set_get (j := 8) v8 h7
  have h9 := set_get (j := 9) v9 h8
  rw [h9]
  simp
theorem put10_below {B : Nat} {a W : World} {b : Nat} (v0 v1 v2 v3 v4 v5 v6 v7 v8 v9 : Value) (h : Below B a W) (hb : B ≤ b) : Below B a (put10 W b v0 v1 v2 v3 v4 v5 v6 v7 v8 v9) := by
  unfold put10
  exact (((((((((h.setCell hb _).setCell hb _).setCell hb _).setCell hb _).setCell hb _).setCell hb _).setCell hb _).setCell hb _).setCell hb _).setCell hb _
theorem put10_own {W : World} {b B n : Nat} {e : TypeId} {sz : Nat} {v : Value} {xs : List Value} (v0 v1 v2 v3 v4 v5 v6 v7 v8 v9 : Value) (h : W.ownsRow B e sz v n xs) (hne : v.ownBlock ≠ some b) : (put10 W b v0 v1 v2 v3 v4 v5 v6 v7 v8 v9).ownsRow B e sz v n xs := by
  have one : ∀ (X : World) (k : Nat) (u : Value), X.grownBy (X.setCell ⟨b, k, none⟩ u) (some b) := fun X k u => ⟨rfl, rfl, rfl, by simp, fun j _ hj => heap_setCell_other X ⟨b, k, none⟩ j u (fun e => hj (by simp [e]))⟩
  unfold put10
  exact h.kept (grown_trans (one _ 0 _) (grown_trans (one _ 1 _) (grown_trans (one _ 2 _) (grown_trans (one _ 3 _) (grown_trans (one _ 4 _) (grown_trans (one _ 5 _) (grown_trans (one _ 6 _) (grown_trans (one _ 7 _) (grown_trans (one _ 8 _) (one _ 9 _)))))))))) (.inr hne)
theorem far10 {W : World} {a b : Nat} {cs : Array Value} (v0 v1 v2 v3 v4 v5 v6 v7 v8 v9 : Value) (hne : a ≠ b) (h : ∀ j, W.cell? ⟨a, j, none⟩ = cs[j]?) : ∀ j, (((((((((((W.setCell ⟨b, 0, none⟩ v0).setCell ⟨b, 1, none⟩ v1).setCell ⟨b, 2, none⟩ v2).setCell ⟨b, 3, none⟩ v3).setCell ⟨b, 4, none⟩ v4).setCell ⟨b, 5, none⟩ v5).setCell ⟨b, 6, none⟩ v6).setCell ⟨b, 7, none⟩ v7).setCell ⟨b, 8, none⟩ v8).setCell ⟨b, 9, none⟩ v9)).cell? ⟨a, j, none⟩ = cs[j]? := fun j => by
  have ne : ∀ k : Nat, (⟨a, j, none⟩ : Addr) ≠ ⟨b, k, none⟩ := fun k e => hne (by injection e)
  have ne2 : ∀ k : Nat, (⟨b, k, none⟩ : Addr) ≠ ⟨a, j, none⟩ := fun k e => hne (by injection e with e; exact e.symm)
  iterate 10 rw [World.cell?_setCell_other _ _ _ _ (by first | exact ne _ | exact ne2 _)]
  exact h j
theorem res_term2 {fn : Func} {p u : Tmp} {m : Nat × Nat} (tmps : Array Value) (W : World) (b : Nat) (v0 v1 v2 v3 v4 v5 v6 v7 v8 v9 : Value) (hr : fn.results = #[.cell p 67, .tmp u]) (hp : tmps.getD p undef = .pointer (some ⟨b, 0, none⟩)) (h : W.heap[b]? = some (.cells #[v0, v1, v2, v3, v4, v5, v6, v7, v8, v9] 67 m)) :
    (results fn tmps).run Tryz.prog W = .ok (.tuple #[.agg #[v0, v1, v2, v3, v4, v5, v6, v7, v8, v9], tmps.getD u undef]) W := by
  have hc : ∀ j, W.cell? ⟨b, j, none⟩ = (#[v0, v1, v2, v3, v4, v5, v6, v7, v8, v9] : Array Value)[j]? := by
    intro j; unfold World.cell?; rw [h]; simp
  rw [results_cell_tmp hr, hp]
  simp [go_sem, hc]
theorem shapeQ1 {W : World} {B n : Nat} {e : TypeId} {sz : Nat} {v : Value} {xs : List Value} (h : W.ownsRow B e sz v n xs) : ∃ p c, v = .slice p n c := by
  rcases own_shapeQ h with ⟨e, h0⟩ | ⟨g, c, e, _⟩
  · exact ⟨none, 0, by rw [h0]; exact e⟩
  · exact ⟨_, _, e⟩
theorem own_base {W : World} {A B n : Nat} {e : TypeId} {sz : Nat} {v : Value} {xs : List Value} (h : W.ownsRow B e sz v n xs) (hA : A ≤ B) : W.ownsRow A e sz v n xs := by
  rcases h.2 with h' | ⟨g, cap, cur, h', hb, r⟩
  · exact ⟨h.1, .inl h'⟩
  · exact ⟨h.1, .inr ⟨g, cap, cur, h', Nat.le_trans hA hb, r⟩⟩
/-- what is taken away of a cube, as it comes -/
def lesL (c : List UInt8) (M : List (List UInt8)) : List (List UInt8) := M.filterMap fun m => if agB m c = true then some (mtT m c) else none
/-- a settled term's list; none: the term is void -/
def setO (c : List UInt8) (M : List (List UInt8)) : Option (List (List UInt8)) := if (lesL c M).any (fun t => t == c) = true then none else some (topL (lesL c M))
theorem lesL_snoc (c : List UInt8) (M : List (List UInt8)) (m : List UInt8) : lesL c (M ++ [m]) = lesL c M ++ (if agB m c = true then [mtT m c] else []) := by
  unfold lesL
  rw [List.filterMap_append]
  congr 1
  simp only [List.filterMap_cons, List.filterMap_nil]
  split <;> rename_i h <;> split at h <;> simp_all
theorem lesL_app (c : List UInt8) (A B : List (List UInt8)) : lesL c (A ++ B) = lesL c A ++ lesL c B := by unfold lesL; rw [List.filterMap_append]
theorem lesL_len (c : List UInt8) (M : List (List UInt8)) : (lesL c M).length ≤ M.length := List.length_filterMap_le _ _
theorem lesL_good {c : List UInt8} {M : List (List UInt8)} (gc : good c = true) (gM : ∀ m ∈ M, good m = true) : ∀ t ∈ lesL c M, good t = true := fun t ht => by
  unfold lesL at ht
  obtain ⟨m, hm, he⟩ := List.mem_filterMap.1 ht
  split at he
  · obtain rfl := Option.some.inj he
    exact good_mtT m c (gM m hm) gc
  · cases he
theorem flat_step {LL : List (List (List UInt8))} {k : Nat} {L : List (List UInt8)} (h : LL[k]? = some L) : (LL.take (k + 1)).flatten = (LL.take k).flatten ++ L := by
  rw [List.take_add_one, h]
  simp
/-- what stands between the rounds of settled -/
def SD (w2 wr : World) (c : List UInt8) (v : Value) (M : List (List UInt8)) : Prop := wr.ownsRow w2.heap.size 58 9 v (lesL c M).length (ces (lesL c M)) ∧ (lesL c M).any (fun t => t == c) = false ∧ Below w2.heap.size w2 wr
set_option maxRecDepth 100000 in
set_option maxHeartbeats 8000000 in
theorem settled_any (c : List UInt8) (LL : List (List (List UInt8))) (n : Nat) (p : Option Addr) (cp : Nat) (w : World) (hn : LL.length = n) (hN : LL.flatten.length ≤ 1000000) (hn2 : n ≤ 1000000) (gc : good c = true) (hr : IRL w p LL) (gL : ∀ m ∈ LL.flatten, good m = true) :
    Calls Tryz.prog 30 #[cubeV c, .slice p n cp] w fun e w' => Below w.heap.size w w' ∧ ((setO c LL.flatten = none ∧ e = .returned (.tuple #[.agg #[.int .i64 0, .int .u64 0, .int .u64 0, .int .u64 0, .int .u64 0, .int .u64 0, .int .u64 0, .int .u64 0, .int .u64 0, .slice none 0 0], .bool false])) ∨ ∃ R v, setO c LL.flatten = some R ∧ e = .returned (.tuple #[.agg #[.int .i64 (c.length : Int), .int .u64 (FW c 0 : Int), .int .u64 (FW c 1 : Int), .int .u64 (FW c 2 : Int), .int .u64 (FW c 3 : Int), .int .u64 (OW c 0 : Int), .int .u64 (OW c 1 : Int), .int .u64 (OW c 2 : Int), .int .u64 (OW c 3 : Int), v], .bool true]) ∧ w'.ownsRow w.heap.size 58 9 v R.length (ces R)) := by
  obtain ⟨i0, hi, hz0, hz1, hz2⟩ := info_parts info_cubeQ
  obtain ⟨w2, hw2⟩ : ∃ w2, (w.alloc (.cells #[.int .i64 (c.length : Int), .int .u64 (FW c 0 : Int), .int .u64 (FW c 1 : Int), .int .u64 (FW c 2 : Int), .int .u64 (FW c 3 : Int), .int .u64 (OW c 0 : Int), .int .u64 (OW c 1 : Int), .int .u64 (OW c 2 : Int), .int .u64 (OW c 3 : Int)] 58 (0, 0))).alloc (.cells #[.int .i64 0, .int .u64 0, .int .u64 0, .int .u64 0, .int .u64 0, .int .u64 0, .int .u64 0, .int .u64 0, .int .u64 0, .slice none 0 0] 67 (0, 0)) = w2 := ⟨_, rfl⟩
  have hA : w2.heap[w.heap.size]? = some (.cells #[.int .i64 (c.length : Int), .int .u64 (FW c 0 : Int), .int .u64 (FW c 1 : Int), .int .u64 (FW c 2 : Int), .int .u64 (FW c 3 : Int), .int .u64 (OW c 0 : Int), .int .u64 (OW c 1 : Int), .int .u64 (OW c 2 : Int), .int .u64 (OW c 3 : Int)] 58 (0, 0)) := by rw [← hw2]; exact alw_0 _ _ _
  have hR : w2.heap[w.heap.size + 1]? = some (.cells #[.int .i64 0, .int .u64 0, .int .u64 0, .int .u64 0, .int .u64 0, .int .u64 0, .int .u64 0, .int .u64 0, .int .u64 0, .slice none 0 0] 67 (0, 0)) := by rw [← hw2]; exact alw_1 _ _ _
  have hB2 : Below w.heap.size w w2 := by rw [← hw2]; exact belA (belA (Below.refl _ _) _) _
  have HA : Hid (w2.heap[w.heap.size]? = some (.cells #[.int .i64 (c.length : Int), .int .u64 (FW c 0 : Int), .int .u64 (FW c 1 : Int), .int .u64 (FW c 2 : Int), .int .u64 (FW c 3 : Int), .int .u64 (OW c 0 : Int), .int .u64 (OW c 1 : Int), .int .u64 (OW c 2 : Int), .int .u64 (OW c 3 : Int)] 58 (0, 0)) ∧ w2.heap[w.heap.size + 1]? = some (.cells #[.int .i64 0, .int .u64 0, .int .u64 0, .int .u64 0, .int .u64 0, .int .u64 0, .int .u64 0, .int .u64 0, .int .u64 0, .slice none 0 0] 67 (0, 0)) ∧ Below w.heap.size w w2) := ⟨hA, hR, hB2⟩
  have HR : Hid (IRL w2 p LL) := hr.later hB2
  have HN : Hid (LL.length = n ∧ LL.flatten.length ≤ 1000000) := ⟨hn, hN⟩
  have HG : Hid (∀ m ∈ LL.flatten, good m = true) := gL
  have HGC : Hid (good c = true) := gc
  clear hA hR hB2 hr hn hN gL gc
  unfold cubeV cv
  go_enter Tryz.func30, Tryz.ntmps30
  go_wp2_with fail
  clear hw2
  go_loopw [6, 15] (fun v6 v15 wr => ∃ k : Nat, v15 = .int .i64 (k : Int) ∧ k ≤ n ∧ SD w2 wr c v6 (LL.take k).flatten) (fun _ v15 _ => n - (intOf v15).toNat)
  case atStart => exact ⟨0, rfl, Nat.zero_le _, World.ownsRow_nil _ _ _ _, rfl, Below.refl _ _⟩
  case round =>
    obtain ⟨k, rfl, hk, hS⟩ := hrel
    by_cases hlt : k < n
    · have j1 : (k : Int) < (n : Int) := by omega
      have j0 : (0 : Int) ≤ (k : Int) := by omega
      obtain ⟨L, hL⟩ : ∃ L, LL[k]? = some L := ⟨_, List.getElem?_eq_getElem (by rw [HN.out.1]; exact hlt)⟩
      obtain ⟨g, o0, q, cq, rfl, p0, hq⟩ := HR.out w2 (Below.refl _ _) k L hL
      have p0 : wr.cell? ⟨g, o0 + k, none⟩ = some (.slice q L.length cq) := (hS.2.2.cell (World.block_lt_of_cell? w2 _ p0)).trans p0
      obtain ⟨m, hm⟩ : ∃ m, L.length = m := ⟨_, rfl⟩
      have hfl := flat_step hL
      obtain ⟨M0, hM0⟩ : ∃ M, (LL.take k).flatten = M := ⟨_, rfl⟩
      rw [hM0] at hS hfl
      have hsub : ∀ x, x ∈ M0 ++ L → x ∈ LL.flatten := fun x hx => by
        rw [← hfl] at hx
        obtain ⟨l, hl, hx⟩ := List.mem_flatten.1 hx
        exact List.mem_flatten.2 ⟨l, List.mem_of_mem_take hl, hx⟩
      have hlen : (M0 ++ L).length ≤ 1000000 := by
        have e : LL.flatten = (LL.take (k + 1)).flatten ++ (LL.drop (k + 1)).flatten := by rw [← List.flatten_append, List.take_append_drop]
        have h1 := HN.out.2
        rw [e, List.length_append, hfl] at h1
        omega
      have HL : Hid (IRC w2 q L ∧ L.length = m ∧ (LL.take (k + 1)).flatten = M0 ++ L ∧ (∀ x ∈ M0 ++ L, good x = true) ∧ (M0 ++ L).length ≤ 1000000) := ⟨hq, hm, hfl, fun x hx => HG.out x (hsub x hx), hlen⟩
      have hml : m ≤ 1000000 := by rw [List.length_append] at hlen; omega
      rw [hm] at p0
      have HS0 : Hid (SD w2 wr c u6 (M0 ++ L.take 0)) := by
        unfold Hid
        rw [List.take_zero, List.append_nil]
        exact hS
      clear hL hq hm hfl hM0 hsub hlen hS
      obtain ⟨wl, rfl⟩ : ∃ wl, wl = wr := ⟨wr, rfl⟩
      go_wp2_with fail
      go_loopw [6, 21] (fun v6 v21 wr => ∃ j : Nat, v21 = .int .i64 (j : Int) ∧ j ≤ m ∧ SD w2 wr c v6 (M0 ++ L.take j)) (fun _ v21 _ => m - (intOf v21).toNat)
      case atStart => exact ⟨0, rfl, Nat.zero_le _, HS0.out⟩
      case round =>
        clear HS0 p0
        obtain ⟨j, rfl, hj, hS⟩ := hrel
        by_cases hjm : j < m
        · have r1 : (j : Int) < (m : Int) := by omega
          have r0 : (0 : Int) ≤ (j : Int) := by omega
          obtain ⟨x, hx⟩ : ∃ x, L[j]? = some x := ⟨_, List.getElem?_eq_getElem (by rw [HL.out.2.1]; exact hjm)⟩
          obtain ⟨gq, oq, rfl, p0, p1, p2, p3, p4, p5, p6, p7, p8⟩ := HL.out.1 wr hS.2.2 j x hx
          have gx : good x = true := HL.out.2.2.2.1 x (List.mem_append_right _ (List.mem_of_getElem? hx))
          have hstep : M0 ++ L.take (j + 1) = (M0 ++ L.take j) ++ [x] := by rw [List.take_add_one, hx, List.append_assoc]; rfl
          have hlm : (M0 ++ L.take j).length ≤ 1000000 := by
            have h1 := HL.out.2.2.2.2
            rw [List.length_append] at h1 ⊢
            rw [List.length_take]
            omega
          obtain ⟨Mj, hMj⟩ : ∃ M, M0 ++ L.take j = M := ⟨_, rfl⟩
          rw [hMj] at hS hstep hlm
          obtain ⟨Lj, hLj⟩ : ∃ l, lesL c Mj = l := ⟨_, rfl⟩
          have hLl : Lj.length ≤ 1000000 := by rw [← hLj]; have := lesL_len c Mj; omega
          have HST : Hid (M0 ++ L.take (j + 1) = Mj ++ [x] ∧ lesL c Mj = Lj ∧ Lj.any (fun t => t == c) = false ∧ wr.ownsRow w2.heap.size 58 9 u6 Lj.length (ces Lj)) := ⟨hstep, hLj, by rw [← hLj]; exact hS.2.1, by rw [← hLj]; exact hS.1⟩
          have hBr := hS.2.2
          obtain ⟨wa, hwa⟩ : ∃ wa, wr.alloc (.cells #[.int .i64 (x.length : Int), .int .u64 (FW x 0 : Int), .int .u64 (FW x 1 : Int), .int .u64 (FW x 2 : Int), .int .u64 (FW x 3 : Int), .int .u64 (OW x 0 : Int), .int .u64 (OW x 1 : Int), .int .u64 (OW x 2 : Int), .int .u64 (OW x 3 : Int)] 58 (0, 0)) = wa := ⟨_, rfl⟩
          have hal : Below wr.heap.size wr wa := by rw [← hwa]; exact belA (Below.refl _ _) _
          have hBa := bel0 hBr hal
          obtain ⟨d0, d1, d2, d3, d4, d5, d6, d7, d8⟩ : CB wa wr.heap.size 0 x := CB_of (by rw [← hwa]; exact alloc_get _ _)
          obtain ⟨e0, e1, e2, e3, e4, e5, e6, e7, e8⟩ : CB wa w.heap.size 0 c := CB_of (keepblk3 hBa HA.out.1)
          obtain ⟨D, hD⟩ : ∃ D, mtT x c = D := ⟨_, rfl⟩
          have gD : good D = true := by rw [← hD]; exact good_mtT x c gx HGC.out
          have hE := eql_cube D c gD HGC.out
          have HM := meet_any x c wa gx
          rw [hD] at HM
          obtain ⟨b, hb⟩ : ∃ b, agB x c = b := ⟨_, rfl⟩
          rw [hb] at HM
          unfold cubeV cv at HM
          have HMM : Hid (Calls Tryz.prog 41 #[.agg #[.int .i64 (x.length : Int), .int .u64 (FW x 0 : Int), .int .u64 (FW x 1 : Int), .int .u64 (FW x 2 : Int), .int .u64 (FW x 3 : Int), .int .u64 (OW x 0 : Int), .int .u64 (OW x 1 : Int), .int .u64 (OW x 2 : Int), .int .u64 (OW x 3 : Int)], .agg #[.int .i64 (c.length : Int), .int .u64 (FW c 0 : Int), .int .u64 (FW c 1 : Int), .int .u64 (FW c 2 : Int), .int .u64 (FW c 3 : Int), .int .u64 (OW c 0 : Int), .int .u64 (OW c 1 : Int), .int .u64 (OW c 2 : Int), .int .u64 (OW c 3 : Int)]] wa fun e w' => e = .returned (.tuple #[.agg #[.int .i64 (D.length : Int), .int .u64 (FW D 0 : Int), .int .u64 (FW D 1 : Int), .int .u64 (FW D 2 : Int), .int .u64 (FW D 3 : Int), .int .u64 (OW D 0 : Int), .int .u64 (OW D 1 : Int), .int .u64 (OW D 2 : Int), .int .u64 (OW D 3 : Int)], .bool b]) ∧ Below wa.heap.size wa w') := HM
          have HLS : Hid (lesL c (M0 ++ L.take (j + 1)) = Lj ++ (if b = true then [D] else [])) := by
            unfold Hid
            rw [HST.out.1, lesL_snoc, HST.out.2.1, hb, hD]
          clear hx gx hstep hlm hMj hLj hS hD HM hb
          go_wp2_with fail
          refine HMM.out.mono ?_
          rintro e W1 ⟨rfl, hb1⟩
          clear HMM hwa d0 d1 d2 d3 d4 d5 d6 d7 d8 e0 e1 e2 e3 e4 e5 e6 e7 e8 p0 p1 p2 p3 p4 p5 p6 p7 p8
          have hB1 := bel0 hBa hb1
          have o1 : W1.ownsRow w2.heap.size 58 9 u6 Lj.length (ces Lj) := own_belQ HST.out.2.2.2 (bel0 hal hb1)
          cases b with
          | false =>
            have HE : Hid (SD w2 (W1.alloc (.cells #[.int .i64 (D.length : Int), .int .u64 (FW D 0 : Int), .int .u64 (FW D 1 : Int), .int .u64 (FW D 2 : Int), .int .u64 (FW D 3 : Int), .int .u64 (OW D 0 : Int), .int .u64 (OW D 1 : Int), .int .u64 (OW D 2 : Int), .int .u64 (OW D 3 : Int)] 58 (0, 0))) c u6 (M0 ++ L.take (j + 1))) := by
              unfold Hid SD
              rw [HLS.out, if_neg (by simp), List.append_nil]
              exact ⟨o1.alloc _, HST.out.2.2.1, belA hB1 _⟩
            clear o1 hE
            go_wp2_with fail
            go_roundw
            case rel => exact ⟨j + 1, by go_num, by omega, HE.out⟩
            case measure => simp [intOf]; omega
          | true =>
            have hB9 : Below w2.heap.size w2 (W1.alloc (.cells #[.int .i64 (D.length : Int), .int .u64 (FW D 0 : Int), .int .u64 (FW D 1 : Int), .int .u64 (FW D 2 : Int), .int .u64 (FW D 3 : Int), .int .u64 (OW D 0 : Int), .int .u64 (OW D 1 : Int), .int .u64 (OW D 2 : Int), .int .u64 (OW D 3 : Int)] 58 (0, 0))) := belA hB1 _
            obtain ⟨W9, hW9⟩ : ∃ W9, W1.alloc (.cells #[.int .i64 (D.length : Int), .int .u64 (FW D 0 : Int), .int .u64 (FW D 1 : Int), .int .u64 (FW D 2 : Int), .int .u64 (FW D 3 : Int), .int .u64 (OW D 0 : Int), .int .u64 (OW D 1 : Int), .int .u64 (OW D 2 : Int), .int .u64 (OW D 3 : Int)] 58 (0, 0)) = W9 := ⟨_, rfl⟩
            rw [hW9] at hB9
            have o9 : W9.ownsRow w2.heap.size 58 9 u6 Lj.length (ces Lj) := by rw [← hW9]; exact o1.alloc _
            obtain ⟨d0, d1, d2, d3, d4, d5, d6, d7, d8⟩ : CB W9 W1.heap.size 0 D := CB_of (by rw [← hW9]; exact alloc_get _ _)
            obtain ⟨e0, e1, e2, e3, e4, e5, e6, e7, e8⟩ : CB W9 w.heap.size 0 c := CB_of (keepblk3 hB9 HA.out.1)
            have HO9 : Hid (W9.ownsRow w2.heap.size 58 9 u6 Lj.length (ces Lj)) := o9
            clear o1 o9
            cases hdc : (D == c) with
            | true =>
              rw [hdc] at hE
              obtain ⟨hcR, hfR⟩ := cells_block (keepblk3 hB9 HA.out.2.1)
              have hbr : w2.heap.size = w.heap.size + 1 + 1 ∨ True := .inr trivial
              have HV : Hid (setO c LL.flatten = none) := by
                have e : LL.flatten = (M0 ++ L.take (j + 1)) ++ (L.drop (j + 1) ++ (LL.drop (k + 1)).flatten) := by
                  have h1 : LL.flatten = (LL.take (k + 1)).flatten ++ (LL.drop (k + 1)).flatten := by rw [← List.flatten_append, List.take_append_drop]
                  rw [h1, HL.out.2.2.1, List.append_assoc, List.append_assoc, ← List.append_assoc (L.take (j + 1)), List.take_append_drop]
                unfold Hid setO
                rw [e, lesL_app, HLS.out, if_pos]
                rw [if_pos rfl, List.any_append, List.any_append]
                simp [hdc]
              have HP : Hid (Below w.heap.size w (put10 W9 (w.heap.size + 1) (.int .i64 0) (.int .u64 0) (.int .u64 0) (.int .u64 0) (.int .u64 0) (.int .u64 0) (.int .u64 0) (.int .u64 0) (.int .u64 0) (.slice none 0 0)) ∧ (put10 W9 (w.heap.size + 1) (.int .i64 0) (.int .u64 0) (.int .u64 0) (.int .u64 0) (.int .u64 0) (.int .u64 0) (.int .u64 0) (.int .u64 0) (.int .u64 0) (.slice none 0 0)).heap[w.heap.size + 1]? = some (.cells #[.int .i64 0, .int .u64 0, .int .u64 0, .int .u64 0, .int .u64 0, .int .u64 0, .int .u64 0, .int .u64 0, .int .u64 0, .slice none 0 0] 67 (0, 0))) := ⟨put10_below _ _ _ _ _ _ _ _ _ _ (bel0 HA.out.2.2 hB9) (by omega), put10_get _ _ _ _ _ _ _ _ _ _ (keepblk3 hB9 HA.out.2.1)⟩
              clear hbr HO9 HLS HST
              go_wp2_with fail
              refine bodyPost_ret (res_term2 _ _ (w.heap.size + 1) _ _ _ _ _ _ _ _ _ _ Tryz.results30 rfl HP.out.2) rfl ?_
              exact ⟨HP.out.1, .inl ⟨HV.out, rfl⟩⟩
            | false =>
              rw [hdc] at hE
              have hs9 := hB9.size
              have o9 := HO9.out
              go_wp2_with (at_builtin; refine wpList_append_own _ rfl _ _ 32 rfl w2.heap.size 58 i0 _ 9 72 Tryz.underlying32 hi hz0 hz1 hz2 rfl (by decide) _ _ _ rfl (o9.alloc _) ⟨_, 0, none⟩ 1 1 (ce9 D) rfl rfl (World.news_of_block (cs := #[.int .i64 (D.length : Int), .int .u64 (FW D 0 : Int), .int .u64 (FW D 1 : Int), .int .u64 (FW D 2 : Int), .int .u64 (FW D 3 : Int), .int .u64 (OW D 0 : Int), .int .u64 (OW D 1 : Int), .int .u64 (OW D 2 : Int), .int .u64 (OW D 3 : Int)]) (t := 58) (fr := (0, 0)) (alloc_get _ _)) (by simp [ce9, Value.oneCell']) (by unfold maxLen; omega) (by omega) (by simp; omega) ?_; intro v4 w4 o4 g4 _)
              have HE : Hid (SD w2 w4 c v4 (M0 ++ L.take (j + 1))) := by
                have e : lesL c (M0 ++ L.take (j + 1)) = Lj ++ [D] := by
                  rw [HLS.out]
                  simp
                unfold Hid SD
                rw [e]
                refine ⟨?_, ?_, (belA hB9 _).grown g4 (by simp; omega) (fun b e => (o9.lt b e).1)⟩
                · rw [List.length_append, ces_snoc]
                  exact o4
                · rw [List.any_append, HST.out.2.2.1]
                  simp [hdc]
              clear o9 o4 g4 hE hdc
              go_wp2_with fail
              go_roundw
              case rel => exact ⟨j + 1, by go_num, by omega, HE.out⟩
              case measure => simp [intOf]; omega
        · have r1 : ¬ (j : Int) < (m : Int) := by omega
          obtain rfl : j = m := by omega
          have HE : Hid (SD w2 wr c u6 (LL.take (k + 1)).flatten) := by
            unfold Hid
            rw [HL.out.2.2.1]
            rw [List.take_of_length_le (by rw [HL.out.2.1]; exact Nat.le_refl _)] at hS
            exact hS
          clear hS
          go_wp2_with fail
          go_roundw
          case rel => exact ⟨k + 1, by go_num, by omega, HE.out⟩
          case measure => simp [intOf]; omega
    · have j1 : ¬ (k : Int) < (n : Int) := by omega
      obtain rfl : k = n := by omega
      have hS2 : SD w2 wr c u6 LL.flatten := by
        rw [List.take_of_length_le (by rw [HN.out.1]; exact Nat.le_refl _)] at hS
        exact hS
      clear hS
      obtain ⟨Lf, hLf⟩ : ∃ l, lesL c LL.flatten = l := ⟨_, rfl⟩
      obtain ⟨o6, a6, hB6⟩ := hS2
      rw [hLf] at o6 a6
      have gLf : ∀ t ∈ Lf, good t = true := by rw [← hLf]; exact lesL_good HGC.out HG.out
      have hl6 : Lf.length ≤ 1000000 := by rw [← hLf]; have := lesL_len c LL.flatten; have := HN.out.2; omega
      obtain ⟨p6, c6, rfl⟩ : ∃ p c2, u6 = .slice p Lf.length c2 := by
        rcases own_shapeQ o6 with ⟨e, h0⟩ | ⟨g, c, e, _⟩
        · exact ⟨none, 0, by rw [h0]; exact e⟩
        · exact ⟨_, _, e⟩
      have HSO : Hid (setO c LL.flatten = some (topL Lf)) := by
        unfold Hid setO
        rw [hLf, a6, if_neg (by simp)]
      have HGA : Hid (∀ W, Below wr.heap.size wr W → Calls Tryz.prog 42 #[.slice p6 Lf.length c6, .func (.func 43) #[] #[]] W fun e w' => ∃ v, e = .returned v ∧ w'.ownsRow W.heap.size 58 9 v (topL Lf).length (ces (topL Lf)) ∧ Below W.heap.size W w') := fun W hW => great_any Lf Lf.length p6 c6 W rfl hl6 ((IRC_own o6 rfl).later hW) gLf
      have hA6 : ∀ j, wr.cell? ⟨w.heap.size, j, none⟩ = (#[.int .i64 (c.length : Int), .int .u64 (FW c 0 : Int), .int .u64 (FW c 1 : Int), .int .u64 (FW c 2 : Int), .int .u64 (FW c 3 : Int), .int .u64 (OW c 0 : Int), .int .u64 (OW c 1 : Int), .int .u64 (OW c 2 : Int), .int .u64 (OW c 3 : Int)] : Array Value)[j]? := (cells_block (keepblk3 hB6 HA.out.1)).1
      have HAL : Hid (∀ W, Below wr.heap.size wr W → (∀ j, W.cell? ⟨w.heap.size, j, none⟩ = (#[.int .i64 (c.length : Int), .int .u64 (FW c 0 : Int), .int .u64 (FW c 1 : Int), .int .u64 (FW c 2 : Int), .int .u64 (FW c 3 : Int), .int .u64 (OW c 0 : Int), .int .u64 (OW c 1 : Int), .int .u64 (OW c 2 : Int), .int .u64 (OW c 3 : Int)] : Array Value)[j]?) ∧ W.heap[w.heap.size + 1]? = some (.cells #[.int .i64 0, .int .u64 0, .int .u64 0, .int .u64 0, .int .u64 0, .int .u64 0, .int .u64 0, .int .u64 0, .int .u64 0, .slice none 0 0] 67 (0, 0)) ∧ Below w2.heap.size w2 W) := fun W hW => ⟨(cells_block (keepblk3 (bel0 hB6 hW) HA.out.1)).1, keepblk3 (bel0 hB6 hW) HA.out.2.1, bel0 hB6 hW⟩
      have hA6d : ∀ j, wr.drew.cell? ⟨w.heap.size, j, none⟩ = (#[.int .i64 (c.length : Int), .int .u64 (FW c 0 : Int), .int .u64 (FW c 1 : Int), .int .u64 (FW c 2 : Int), .int .u64 (FW c 3 : Int), .int .u64 (OW c 0 : Int), .int .u64 (OW c 1 : Int), .int .u64 (OW c 2 : Int), .int .u64 (OW c 3 : Int)] : Array Value)[j]? := hA6
      clear o6 a6 gLf hLf
      go_upto_region 15 with fail
      go_region_held3 (fun W => ∀ j, W.cell? ⟨w.heap.size, j, none⟩ = (#[.int .i64 (c.length : Int), .int .u64 (FW c 0 : Int), .int .u64 (FW c 1 : Int), .int .u64 (FW c 2 : Int), .int .u64 (FW c 3 : Int), .int .u64 (OW c 0 : Int), .int .u64 (OW c 1 : Int), .int .u64 (OW c 2 : Int), .int .u64 (OW c 3 : Int)] : Array Value)[j]?) (first | with_reducible exact hA6 | with_reducible exact hA6d | with_reducible exact hk5 | with_reducible exact hkP) (first | (go_at_call 42; refine (HGA.out _ (by first | exact Below.refl _ _ | exact (Below.refl _ _).drew)).mono ?_; rintro e w5 ⟨v5, rfl, o5, hb5⟩; have hb5' : Below wr.heap.size wr w5 := (by first | exact hb5 | exact und hb5); obtain ⟨hk5, hr5, hB5⟩ := HAL.out w5 hb5'; obtain ⟨hcR, hfR⟩ := cells_block hr5; obtain ⟨p5, c5, rfl⟩ := shapeQ1 o5; have hkP := far10 (b := w.heap.size + 1) (.int .i64 (c.length : Int)) (.int .u64 (FW c 0 : Int)) (.int .u64 (FW c 1 : Int)) (.int .u64 (FW c 2 : Int)) (.int .u64 (FW c 3 : Int)) (.int .u64 (OW c 0 : Int)) (.int .u64 (OW c 1 : Int)) (.int .u64 (OW c 2 : Int)) (.int .u64 (OW c 3 : Int)) (.slice p5 (topL Lf).length c5) (by omega) hk5))
      have HP : Hid (Below w.heap.size w (put10 w5 (w.heap.size + 1) (.int .i64 (c.length : Int)) (.int .u64 (FW c 0 : Int)) (.int .u64 (FW c 1 : Int)) (.int .u64 (FW c 2 : Int)) (.int .u64 (FW c 3 : Int)) (.int .u64 (OW c 0 : Int)) (.int .u64 (OW c 1 : Int)) (.int .u64 (OW c 2 : Int)) (.int .u64 (OW c 3 : Int)) (.slice p5 (topL Lf).length c5)) ∧ (put10 w5 (w.heap.size + 1) (.int .i64 (c.length : Int)) (.int .u64 (FW c 0 : Int)) (.int .u64 (FW c 1 : Int)) (.int .u64 (FW c 2 : Int)) (.int .u64 (FW c 3 : Int)) (.int .u64 (OW c 0 : Int)) (.int .u64 (OW c 1 : Int)) (.int .u64 (OW c 2 : Int)) (.int .u64 (OW c 3 : Int)) (.slice p5 (topL Lf).length c5)).heap[w.heap.size + 1]? = some (.cells #[.int .i64 (c.length : Int), .int .u64 (FW c 0 : Int), .int .u64 (FW c 1 : Int), .int .u64 (FW c 2 : Int), .int .u64 (FW c 3 : Int), .int .u64 (OW c 0 : Int), .int .u64 (OW c 1 : Int), .int .u64 (OW c 2 : Int), .int .u64 (OW c 3 : Int), .slice p5 (topL Lf).length c5] 67 (0, 0)) ∧ (put10 w5 (w.heap.size + 1) (.int .i64 (c.length : Int)) (.int .u64 (FW c 0 : Int)) (.int .u64 (FW c 1 : Int)) (.int .u64 (FW c 2 : Int)) (.int .u64 (FW c 3 : Int)) (.int .u64 (OW c 0 : Int)) (.int .u64 (OW c 1 : Int)) (.int .u64 (OW c 2 : Int)) (.int .u64 (OW c 3 : Int)) (.slice p5 (topL Lf).length c5)).ownsRow w.heap.size 58 9 (.slice p5 (topL Lf).length c5) (topL Lf).length (ces (topL Lf))) := by
        refine ⟨put10_below _ _ _ _ _ _ _ _ _ _ (bel0 HA.out.2.2 hB5) (by omega), put10_get _ _ _ _ _ _ _ _ _ _ hr5, put10_own _ _ _ _ _ _ _ _ _ _ (own_base o5 ?_) (fun e => ?_)⟩
        · have := HA.out.2.2.size
          have := hB6.size
          first | omega | (simp; omega)
        · have h1 := (o5.lt _ e).1
          have h2 := lt_of_get3 HA.out.2.1
          have h3 := hB6.size
          first | omega | (simp at h1; omega)
      clear hkP hk5 hr5 hcR hfR o5
      go_wp2_with fail
      refine bodyPost_ret (res_term2 _ _ (w.heap.size + 1) _ _ _ _ _ _ _ _ _ _ Tryz.results30 rfl HP.out.2.1) rfl ?_
      exact ⟨HP.out.1, .inr ⟨_, _, HSO.out, rfl, HP.out.2.2⟩⟩
end Go.Proofs.YtecgjlpmmailjaaGreatDoor
namespace Go.Proofs.YtecgjlpmmailjaaGreatDoor
open Go.RowKit
/-- a term as it lies: its cube, and where its list lies -/
structure TRM where
  c : List UInt8
  q : Option Addr
  m : Nat
  k : Nat
def TRM.v (t : TRM) : Value := .slice t.q t.m t.k
/-- a row of terms lies there -/
def IRT (w : World) (p : Option Addr) (Ts : List TRM) : Prop := ∀ W : World, Below w.heap.size w W → ∀ k t, Ts[k]? = some t → ∃ g o0, p = some ⟨g, o0, none⟩ ∧ CB W g (o0 + k * 10) t.c ∧ W.cell? ⟨g, o0 + k * 10 + 9, none⟩ = some (.slice t.q t.m t.k)
theorem IRT.later {w W : World} {p : Option Addr} {L : List TRM} (h : IRT w p L) (hb : Below w.heap.size w W) : IRT W p L := fun X hX k t ht => h X (bel0 hb hX) k t ht
def szT : List TRM → Nat
  | [] => 0
  | t :: r => (1 + t.m) + szT r
theorem szT_app (a b : List TRM) : szT (a ++ b) = szT a + szT b := by
  induction a with
  | nil => simp [szT]
  | cons t a ih => rw [List.cons_append, szT, szT, ih]; omega
theorem szT_take {L : List TRM} {k : Nat} {t : TRM} (h : L[k]? = some t) : szT (L.take (k + 1)) = szT (L.take k) + (1 + t.m) := by
  rw [List.take_add_one, h, szT_app]
  simp [szT]
theorem szT_le (L : List TRM) (k : Nat) : szT (L.take k) ≤ szT L := by
  have e : szT L = szT (L.take k) + szT (L.drop k) := by rw [← szT_app, List.take_append_drop]
  omega
set_option maxRecDepth 100000 in
set_option maxHeartbeats 2000000 in
theorem size_any (Ts : List TRM) (n : Nat) (p : Option Addr) (c : Nat) (w : World) (hn : Ts.length = n) (hN : n ≤ 281474976710656) (hz : szT Ts ≤ 281474976710656) (hr : IRT w p Ts) :
    Calls Tryz.prog 17 #[.slice p n c] w fun e w' => e = .returned (.int .i64 (szT Ts : Int)) ∧ Below w.heap.size w w' := by
  have HR : Hid (IRT w p Ts) := hr
  have HN : Hid (Ts.length = n ∧ szT Ts ≤ 281474976710656) := ⟨hn, hz⟩
  clear hr hn hz
  go_enter Tryz.func17, Tryz.ntmps17
  go_wp2_with fail
  go_loopw [3, 8] (fun v3 v8 wr => ∃ k : Nat, v8 = .int .i64 (k : Int) ∧ k ≤ n ∧ v3 = .int .i64 (szT (Ts.take k) : Int) ∧ Below w.heap.size w wr) (fun _ v8 _ => n - (intOf v8).toNat)
  case atStart => exact ⟨0, rfl, Nat.zero_le _, rfl, Below.refl _ _⟩
  case round =>
    obtain ⟨k, rfl, hk, rfl, hB⟩ := hrel
    by_cases hlt : k < n
    · have j1 : (k : Int) < (n : Int) := by omega
      have j0 : (0 : Int) ≤ (k : Int) := by omega
      obtain ⟨t, ht⟩ : ∃ t, Ts[k]? = some t := ⟨_, List.getElem?_eq_getElem (by rw [HN.out.1]; exact hlt)⟩
      obtain ⟨g, o0, rfl, ⟨p0, p1, p2, p3, p4, p5, p6, p7, p8⟩, p9⟩ := HR.out wr hB k t ht
      have h1 := szT_take ht
      have h2 := szT_le Ts (k + 1)
      have h3 := HN.out.2
      obtain ⟨z, hz⟩ : ∃ z, szT (Ts.take k) = z := ⟨_, rfl⟩
      obtain ⟨tc, tq, tm, tk⟩ := t
      simp only at p0 p1 p2 p3 p4 p5 p6 p7 p8 p9 h1
      rw [hz] at h1 ⊢
      have HS : Hid (szT (Ts.take (k + 1)) = z + (1 + tm)) := h1
      have hb1 : z + (1 + tm) ≤ 281474976710656 := by omega
      obtain ⟨wa, hwa⟩ : ∃ wa, wr.alloc (.cells #[.int .i64 (tc.length : Int), .int .u64 (FW tc 0 : Int), .int .u64 (FW tc 1 : Int), .int .u64 (FW tc 2 : Int), .int .u64 (FW tc 3 : Int), .int .u64 (OW tc 0 : Int), .int .u64 (OW tc 1 : Int), .int .u64 (OW tc 2 : Int), .int .u64 (OW tc 3 : Int), .slice tq tm tk] 67 (0, 0)) = wa := ⟨_, rfl⟩
      have hal : Below wr.heap.size wr wa := by rw [← hwa]; exact belA (Below.refl _ _) _
      have hgt : wa.heap[wr.heap.size]? = some (.cells #[.int .i64 (tc.length : Int), .int .u64 (FW tc 0 : Int), .int .u64 (FW tc 1 : Int), .int .u64 (FW tc 2 : Int), .int .u64 (FW tc 3 : Int), .int .u64 (OW tc 0 : Int), .int .u64 (OW tc 1 : Int), .int .u64 (OW tc 2 : Int), .int .u64 (OW tc 3 : Int), .slice tq tm tk] 67 (0, 0)) := by rw [← hwa]; exact alloc_get _ _
      have d9 : wa.cell? ⟨wr.heap.size, 9, none⟩ = some (.slice tq tm tk) := (cells_block hgt).1 9
      clear hgt
      clear ht h1 h2 h3 hz
      go_wp2_with fail
      go_roundw
      case rel => exact ⟨k + 1, by go_num, by omega, by rw [HS.out]; go_num, bel0 hB hal⟩
      case measure => simp [intOf]; omega
    · have j1 : ¬ (k : Int) < (n : Int) := by omega
      obtain rfl : k = n := by omega
      have e : Ts.take k = Ts := List.take_of_length_le (by rw [HN.out.1]; exact Nat.le_refl _)
      rw [e]
      go_wp2_with fail
      go_ret
      exact ⟨rfl, hB⟩
set_option maxRecDepth 100000 in
theorem spend_ok (a b : Int) (w : World) (h : a ≤ b) : Calls Tryz.prog 51 #[.int .i64 a, .int .i64 b] w fun e w' => e = .returned (.tuple #[]) ∧ w' = w := by
  have h1 : ¬ b < a := by omega
  go_enter Tryz.func51, Tryz.ntmps51
  go_wp2_with fail
  simp [bodyPost, results, Tryz.results51]
set_option maxRecDepth 100000 in
theorem spend_over (a b : Int) (w : World) (h : b < a) : Calls Tryz.prog 51 #[.int .i64 a, .int .i64 b] w fun e w' => e = .panicked [{ v := .iface 81 (.agg #[]), recovered := false }] ∧ w' = w := by
  go_enter Tryz.func51, Tryz.ntmps51
  go_wp2_with fail
  simp [bodyPost]
set_option maxRecDepth 100000 in
theorem idxt1_nil (bw bx : Nat) (w : World) : Calls Tryz.prog 89 #[.slice none 0 0, .func (.func 69) #[] #[.pointer (some ⟨bw, 0, none⟩), .pointer (some ⟨bx, 0, none⟩)]] w fun e w' => e = .returned (.int .i64 (-1)) ∧ Below w.heap.size w w' := by
  go_enter Tryz.func89, Tryz.ntmps89
  go_wp2_with fail
  go_loopw [8] (fun vk wr => vk = .int .i64 0 ∧ Below w.heap.size w wr) (fun _ _ => 0)
  case atStart => exact ⟨rfl, Below.refl _ _⟩
  case round =>
    obtain ⟨rfl, hB⟩ := hrel
    go_wp2_with fail
    go_ret
    exact ⟨rfl, hB⟩
set_option maxRecDepth 100000 in
theorem idxt2_nil (bw bx : Nat) (w : World) : Calls Tryz.prog 89 #[.slice none 0 0, .func (.func 71) #[] #[.pointer (some ⟨bw, 0, none⟩), .pointer (some ⟨bx, 0, none⟩)]] w fun e w' => e = .returned (.int .i64 (-1)) ∧ Below w.heap.size w w' := by
  go_enter Tryz.func89, Tryz.ntmps89
  go_wp2_with fail
  go_loopw [8] (fun vk wr => vk = .int .i64 0 ∧ Below w.heap.size w wr) (fun _ _ => 0)
  case atStart => exact ⟨rfl, Below.refl _ _⟩
  case round =>
    obtain ⟨rfl, hB⟩ := hrel
    go_wp2_with fail
    go_ret
    exact ⟨rfl, hB⟩
set_option maxRecDepth 100000 in
theorem contt_nil (bw bx : Nat) (w : World) : Calls Tryz.prog 68 #[.slice none 0 0, .func (.func 69) #[] #[.pointer (some ⟨bw, 0, none⟩), .pointer (some ⟨bx, 0, none⟩)]] w fun e w' => e = .returned (.bool false) ∧ Below w.heap.size w w' := by
  have H1 := idxt1_nil bw bx w
  go_enter Tryz.func68, Tryz.ntmps68
  go_wp2_with fail
  refine H1.mono ?_
  rintro e W1 ⟨rfl, hb1⟩
  go_wp2_with fail
  go_ret
  exact ⟨rfl, hb1⟩
set_option maxRecDepth 100000 in
theorem delt_nil (bw bx : Nat) (w : World) : Calls Tryz.prog 70 #[.slice none 0 0, .func (.func 71) #[] #[.pointer (some ⟨bw, 0, none⟩), .pointer (some ⟨bx, 0, none⟩)]] w fun e w' => e = .returned (.slice none 0 0) ∧ Below w.heap.size w w' := by
  have H1 := idxt2_nil bw bx w
  go_enter Tryz.func70, Tryz.ntmps70
  go_wp2_with fail
  refine H1.mono ?_
  rintro e W0 ⟨rfl, hb0⟩
  clear H1
  go_wp2_with fail
  go_ret
  exact ⟨rfl, hb0⟩
theorem info_term : (Tryz.prog.info? 67).map (fun i => (i.zero, i.size, i.bytes)) = some (some (.agg #[.int .i64 0, .int .u64 0, .int .u64 0, .int .u64 0, .int .u64 0, .int .u64 0, .int .u64 0, .int .u64 0, .int .u64 0, .slice none 0 0]), 10, 96) := by kernel_rfl
set_option maxRecDepth 100000 in
set_option maxHeartbeats 2000000 in
theorem greatT_one (t : TRM) (p : Option Addr) (c : Nat) (w : World) (hr : IRT w p [t]) :
    Calls Tryz.prog 49 #[.slice p 1 c, .func (.func 50) #[] #[]] w fun e w' => ∃ v, e = .returned v ∧ w'.ownsRow w.heap.size 67 10 v 1 ([.int .i64 (t.c.length : Int), .int .u64 (FW t.c 0 : Int), .int .u64 (FW t.c 1 : Int), .int .u64 (FW t.c 2 : Int), .int .u64 (FW t.c 3 : Int), .int .u64 (OW t.c 0 : Int), .int .u64 (OW t.c 1 : Int), .int .u64 (OW t.c 2 : Int), .int .u64 (OW t.c 3 : Int), .slice t.q t.m t.k]) ∧ Below w.heap.size w w' := by
  obtain ⟨i0, hi, hz0, hz1, hz2⟩ := info_parts info_term
  have HR : Hid (IRT w p [t]) := hr
  clear hr
  go_enter Tryz.func49, Tryz.ntmps49
  go_wp2_with fail
  go_loopw [5, 10] (fun v5 v10 wr => Below w.heap.size w wr ∧ ((v5 = .slice none 0 0 ∧ v10 = .int .i64 0) ∨ (v10 = .int .i64 1 ∧ wr.ownsRow w.heap.size 67 10 v5 1 ([.int .i64 (t.c.length : Int), .int .u64 (FW t.c 0 : Int), .int .u64 (FW t.c 1 : Int), .int .u64 (FW t.c 2 : Int), .int .u64 (FW t.c 3 : Int), .int .u64 (OW t.c 0 : Int), .int .u64 (OW t.c 1 : Int), .int .u64 (OW t.c 2 : Int), .int .u64 (OW t.c 3 : Int), .slice t.q t.m t.k])))) (fun _ v10 _ => 1 - (intOf v10).toNat)
  case atStart => exact ⟨belA (Below.refl _ _) _, .inl ⟨rfl, rfl⟩⟩
  case round =>
    obtain ⟨hB, ⟨rfl, rfl⟩ | ⟨rfl, ho⟩⟩ := hrel
    · obtain ⟨g, o0, rfl, ⟨p0, p1, p2, p3, p4, p5, p6, p7, p8⟩, p9⟩ := HR.out wr hB 0 t rfl
      obtain ⟨tc, tq, tm, tk⟩ := t
      simp only at p0 p1 p2 p3 p4 p5 p6 p7 p8 p9
      rw [Nat.zero_mul, Nat.add_zero] at p0 p1 p2 p3 p4 p5 p6 p7 p8 p9
      obtain ⟨wa, hwa⟩ : ∃ wa, wr.alloc (.cells #[.int .i64 (tc.length : Int), .int .u64 (FW tc 0 : Int), .int .u64 (FW tc 1 : Int), .int .u64 (FW tc 2 : Int), .int .u64 (FW tc 3 : Int), .int .u64 (OW tc 0 : Int), .int .u64 (OW tc 1 : Int), .int .u64 (OW tc 2 : Int), .int .u64 (OW tc 3 : Int), .slice tq tm tk] 67 (0, 0)) = wa := ⟨_, rfl⟩
      have hal : Below wr.heap.size wr wa := by rw [← hwa]; exact belA (Below.refl _ _) _
      have hgt : wa.heap[wr.heap.size]? = some (.cells #[.int .i64 (tc.length : Int), .int .u64 (FW tc 0 : Int), .int .u64 (FW tc 1 : Int), .int .u64 (FW tc 2 : Int), .int .u64 (FW tc 3 : Int), .int .u64 (OW tc 0 : Int), .int .u64 (OW tc 1 : Int), .int .u64 (OW tc 2 : Int), .int .u64 (OW tc 3 : Int), .slice tq tm tk] 67 (0, 0)) := by rw [← hwa]; exact alloc_get _ _
      have HGT : Hid (wa.heap[wr.heap.size]? = some (.cells #[.int .i64 (tc.length : Int), .int .u64 (FW tc 0 : Int), .int .u64 (FW tc 1 : Int), .int .u64 (FW tc 2 : Int), .int .u64 (FW tc 3 : Int), .int .u64 (OW tc 0 : Int), .int .u64 (OW tc 1 : Int), .int .u64 (OW tc 2 : Int), .int .u64 (OW tc 3 : Int), .slice tq tm tk] 67 (0, 0))) := hgt
      clear hgt
      go_wp2_with fail
      refine (contt_nil _ _ _).mono ?_
      rintro e W1 ⟨rfl, hb1⟩
      go_wp2_with fail
      refine (delt_nil _ _ _).mono ?_
      rintro e W2 ⟨rfl, hb2⟩
      have hB2 := bel0 hal (bel0 hb1 hb2)
      obtain ⟨hc2, -⟩ := cells_block (keepblk3 (bel0 hb1 hb2) HGT.out)
      have hBw := bel0 hB hB2
      have hsz := hBw.size
      go_wp2_with (at_builtin; refine wpList_append_own _ rfl _ _ 26 rfl w.heap.size 67 i0 _ 10 96 Tryz.underlying26 hi hz0 hz1 hz2 rfl (by decide) _ _ _ rfl (World.ownsRow_nil _ _ _ _) ⟨_, 0, none⟩ 1 1 ([.int .i64 (tc.length : Int), .int .u64 (FW tc 0 : Int), .int .u64 (FW tc 1 : Int), .int .u64 (FW tc 2 : Int), .int .u64 (FW tc 3 : Int), .int .u64 (OW tc 0 : Int), .int .u64 (OW tc 1 : Int), .int .u64 (OW tc 2 : Int), .int .u64 (OW tc 3 : Int), .slice tq tm tk]) rfl rfl (World.news_of_block (cs := #[.int .i64 (tc.length : Int), .int .u64 (FW tc 0 : Int), .int .u64 (FW tc 1 : Int), .int .u64 (FW tc 2 : Int), .int .u64 (FW tc 3 : Int), .int .u64 (OW tc 0 : Int), .int .u64 (OW tc 1 : Int), .int .u64 (OW tc 2 : Int), .int .u64 (OW tc 3 : Int), .slice tq tm tk]) (t := 67) (fr := (0, 0)) (alloc_get _ _)) (by simp [Value.oneCell']) (by unfold maxLen; omega) (by omega) (by simp; omega) ?_; intro v4 w4 o4 g4 _)
      have HE : Hid (Below w.heap.size w w4 ∧ w4.ownsRow w.heap.size 67 10 v4 1 ([.int .i64 (tc.length : Int), .int .u64 (FW tc 0 : Int), .int .u64 (FW tc 1 : Int), .int .u64 (FW tc 2 : Int), .int .u64 (FW tc 3 : Int), .int .u64 (OW tc 0 : Int), .int .u64 (OW tc 1 : Int), .int .u64 (OW tc 2 : Int), .int .u64 (OW tc 3 : Int), .slice tq tm tk])) := ⟨(belA hBw _).grown g4 (by simp; omega) (fun b e => by cases e), by simpa using o4⟩
      clear o4 g4 hc2
      go_wp2_with fail
      go_roundw
      case rel => exact ⟨HE.out.1, .inr ⟨by go_num, HE.out.2⟩⟩
      case measure => simp [intOf]
    · have HO : Hid (wr.ownsRow w.heap.size 67 10 u5 1 ([.int .i64 (t.c.length : Int), .int .u64 (FW t.c 0 : Int), .int .u64 (FW t.c 1 : Int), .int .u64 (FW t.c 2 : Int), .int .u64 (FW t.c 3 : Int), .int .u64 (OW t.c 0 : Int), .int .u64 (OW t.c 1 : Int), .int .u64 (OW t.c 2 : Int), .int .u64 (OW t.c 3 : Int), .slice t.q t.m t.k])) := ho
      clear ho
      go_wp2_with fail
      go_ret
      exact ⟨_, rfl, HO.out, hB⟩
end Go.Proofs.YtecgjlpmmailjaaGreatDoor
