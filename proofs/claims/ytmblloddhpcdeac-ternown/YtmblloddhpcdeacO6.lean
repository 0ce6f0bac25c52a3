import Derived.Test.YtmblloddhpcdeacO5
namespace Go.Proofs.Ytmblloddhpcdeac
open Go.RowKit

/-- what goes on from a list: in its own block, or in a block of its own -/
def KG (W : World) (p : Option Addr) (c k j B b2 : Nat) (M : List UInt8) (G : Value) : Prop :=
  (∃ g, p = some ⟨g, 0, none⟩ ∧ G = .slice p (k + j) c ∧ W.ownsRow B 26 9 G (k + j) (cels (List.replicate (k + j) M))) ∨
  (W.ownsRow b2 26 9 G (k + j) (cels (List.replicate (k + j) M)) ∧ W.ownsRow B 26 9 (.slice p k c) k (cels (List.replicate k M)))
theorem KG_start {W : World} {p : Option Addr} {c k B b2 : Nat} {M : List UInt8} (h : W.ownsRow B 26 9 (.slice p k c) k (cels (List.replicate k M))) : KG W p c k 0 B b2 M (.slice p k c) := by
  rcases shapeO h with ⟨e, hk⟩ | ⟨g, c', e⟩
  · subst hk
    injection e with e1 _ e3
    subst e1 e3
    exact .inr ⟨World.ownsRow_nil _ _ _ _, h⟩
  · injection e with e1 _ e3
    subst e1 e3
    exact .inl ⟨g, rfl, rfl, h⟩
theorem setK {W : World} {b : Nat} {V G M0 M1 M2 M3 M4 M5 M6 M7 M8 : Value} (u : Value) (h : W.heap[b]? = some (.cells #[V, G, M0, M1, M2, M3, M4, M5, M6, M7, M8] 65 (0, 0))) :
    (W.setCell ⟨b, 1, none⟩ u).heap[b]? = some (.cells #[V, u, M0, M1, M2, M3, M4, M5, M6, M7, M8] 65 (0, 0)) ∧ W.grownBy (W.setCell ⟨b, 1, none⟩ u) (some b) :=
  ⟨heap_setCell_same W b 1 _ _ u h, ⟨rfl, rfl, rfl, by simp, fun k _ hk => heap_setCell_other W ⟨b, 1, none⟩ k u (fun e => hk (by simp [e]))⟩⟩
theorem rep_pre (k j : Nat) (M : List UInt8) : cels (List.replicate (k + j) M) = cels (List.replicate k M) ++ cels (List.replicate j M) := by
  rw [← List.replicate_append_replicate]; exact List.flatMap_append
theorem repO_len (k : Nat) (M : List UInt8) : (cels (List.replicate k M)).length = k * 9 := by rw [celsO_len]; simp

def put11 (W : World) (b : Nat) (v0 v1 v2 v3 v4 v5 v6 v7 v8 v9 v10 : Value) : World :=
  (((((((((((W.setCell ⟨b, 0, none⟩ v0).setCell ⟨b, 1, none⟩ v1).setCell ⟨b, 2, none⟩ v2).setCell ⟨b, 3, none⟩ v3).setCell ⟨b, 4, none⟩ v4).setCell ⟨b, 5, none⟩ v5).setCell ⟨b, 6, none⟩ v6).setCell ⟨b, 7, none⟩ v7).setCell ⟨b, 8, none⟩ v8).setCell ⟨b, 9, none⟩ v9).setCell ⟨b, 10, none⟩ v10)
theorem put11_get {W : World} {b T : Nat} {m : Nat × Nat} {x0 x1 x2 x3 x4 x5 x6 x7 x8 x9 x10 : Value} (v0 v1 v2 v3 v4 v5 v6 v7 v8 v9 v10 : Value) (h : W.heap[b]? = some (.cells #[x0, x1, x2, x3, x4, x5, x6, x7, x8, x9, x10] T m)) :
    (put11 W b v0 v1 v2 v3 v4 v5 v6 v7 v8 v9 v10).heap[b]? = some (.cells #[v0, v1, v2, v3, v4, v5, v6, v7, v8, v9, v10] T m) := by
  unfold put11
  have h0 := set_get (j := 0) v0 h
  have h1 := set_get (j := 1) v1 h0
  have h2 := set_get (j := 2) v2 h1
  have h3 := set_get (j := 3) v3 h2
  have h4 := set_get (j := 4) v4 h3
  have h5 := set_get (j := 5) v5 h4
  have h6 := set_get (j := 6) v6 h5
  have h7 := set_get (j := 7) v7 h6
  have h8 := set_get (j := 8) v8 h7
  have h9 := set_get (j := 9) v9 h8
  have h10 := set_get (j := 10) v10 h9
  simpa using h10
theorem setg {W X : World} (b i : Nat) (u : Value) (h : W.grownBy X (some b)) : W.grownBy (X.setCell ⟨b, i, none⟩ u) (some b) :=
  grown_trans h ⟨rfl, rfl, rfl, by simp, fun k _ hk => heap_setCell_other X ⟨b, i, none⟩ k u (fun e => hk (by simp [e]))⟩
theorem put11_grown (W : World) (b : Nat) (v0 v1 v2 v3 v4 v5 v6 v7 v8 v9 v10 : Value) : W.grownBy (put11 W b v0 v1 v2 v3 v4 v5 v6 v7 v8 v9 v10) (some b) :=
  (setg b 10 v10 (setg b 9 v9 (setg b 8 v8 (setg b 7 v7 (setg b 6 v6 (setg b 5 v5 (setg b 4 v4 (setg b 3 v3 (setg b 2 v2 (setg b 1 v1 (setg b 0 v0 (World.grownBy.refl _ _))))))))))))
theorem KG_kept {W X : World} {p : Option Addr} {c k j B b2 b : Nat} {M : List UInt8} {G : Value} (h : KG W p c k j B b2 M G) (hg : W.grownBy X (some b)) (hp : ∀ g, p = some ⟨g, 0, none⟩ → g ≠ b) (hb : b < b2) : KG X p c k j B b2 M G := by
  have hV : ∀ n, (Value.slice p n c).ownBlock = none ∨ (Value.slice p n c).ownBlock ≠ some b ∨ ¬ ∃ g, p = some ⟨g, 0, none⟩ := by
    intro n
    by_cases hq : ∃ g, p = some ⟨g, 0, none⟩
    · obtain ⟨g, rfl⟩ := hq
      exact .inr (.inl (fun e => by injection e with e; exact hp g rfl e))
    · exact .inr (.inr hq)
  rcases h with ⟨g, rfl, rfl, o⟩ | ⟨o, v⟩
  · exact .inl ⟨g, rfl, rfl, o.kept hg (.inr (fun e => by injection e with e; exact hp g rfl e))⟩
  · refine .inr ⟨o.kept hg (.inr (fun e => by have := (o.lt _ e).1; omega)), v.kept hg ?_⟩
    rcases shapeO v with ⟨e, _⟩ | ⟨g, c', e⟩
    · rw [e]; exact .inl rfl
    · injection e with e1 _ _
      subst e1
      exact .inr (fun e => by injection e with e; exact hp g rfl e)
theorem KG_mono {W : World} {p : Option Addr} {c k j B b2 b3 : Nat} {M : List UInt8} {G : Value} (h : KG W p c k j B b2 M G) (hb : b3 ≤ b2) : KG W p c k j B b3 M G := by
  rcases h with h | ⟨o, v⟩
  · exact .inl h
  · exact .inr ⟨o.mono hb, v⟩
theorem KG_shape {W : World} {p : Option Addr} {c k j B b2 : Nat} {M : List UInt8} {G : Value} (h : KG W p c k j B b2 M G) : ∃ q c', G = .slice q (k + j) c' := by
  rcases h with ⟨g, _, rfl, _⟩ | ⟨o, v⟩
  · exact ⟨_, _, rfl⟩
  · exact shapeP o
theorem res_kept {fn : Func} {p : Tmp} {m : Nat × Nat} (tmps : Array Value) (W : World) (b : Nat) (p1 p2 : Option Addr) (l1 c1 l2 c2 : Nat) (n a1 a2 a3 a4 o1 o2 o3 o4 : Int) (hr : fn.results = #[.cell p 65]) (hp : tmps.getD p undef = .pointer (some ⟨b, 0, none⟩))
    (h : W.heap[b]? = some (.cells #[.slice p1 l1 c1, .slice p2 l2 c2, .int .i64 n, .int .u64 a1, .int .u64 a2, .int .u64 a3, .int .u64 a4, .int .u64 o1, .int .u64 o2, .int .u64 o3, .int .u64 o4] 65 m)) :
    (results fn tmps).run Try.prog W = .ok (.agg #[.slice p1 l1 c1, .slice p2 l2 c2, .int .i64 n, .int .u64 a1, .int .u64 a2, .int .u64 a3, .int .u64 a4, .int .u64 o1, .int .u64 o2, .int .u64 o3, .int .u64 o4]) W := by
  have hc : ∀ j, W.cell? ⟨b, j, none⟩ = (#[.slice p1 l1 c1, .slice p2 l2 c2, .int .i64 n, .int .u64 a1, .int .u64 a2, .int .u64 a3, .int .u64 a4, .int .u64 o1, .int .u64 o2, .int .u64 o3, .int .u64 o4] : Array Value)[j]? := by
    intro j; unfold World.cell?; rw [h]; simp
  have hp' : tmps[p]?.getD undef = .pointer (some ⟨b, 0, none⟩) := by simpa using hp
  simp [results, hr, hp', go_sem, hc]

set_option maxRecDepth 100000 in
set_option maxHeartbeats 2000000 in
theorem kept_raw (L : List (List UInt8)) (V : Value) (B n : Nat) (M : List UInt8) (w : World) (hM : mkT n = M) (hn : n < 65536) (hl : L.length ≤ 1000) (h1 : w.ownsRow B 26 9 V L.length (cels L)) :
    Calls Try.prog 36 #[V, .int .i64 (n : Int)] w fun e w' => ∃ G p c, V = .slice p L.length c ∧ e = .returned (.agg (#[V, G] ++ #[.int .i64 (M.length : Int), .int .u64 (FW M 0 : Int), .int .u64 (FW M 1 : Int), .int .u64 (FW M 2 : Int), .int .u64 (FW M 3 : Int), .int .u64 (OW M 0 : Int), .int .u64 (OW M 1 : Int), .int .u64 (OW M 2 : Int), .int .u64 (OW M 3 : Int)])) ∧ KG w' p c L.length 64 B w.heap.size M G ∧ w.grownBy w' V.ownBlock := by
  obtain ⟨i0, hi, hz0, hz1, hz2⟩ := info_parts info_cube
  obtain ⟨p, c, rfl⟩ := shapeP h1
  have HM : Hid (mkT n = M) := hM
  have hgw : Hid (∀ g, p = some ⟨g, 0, none⟩ → g < w.heap.size) := fun g e => (h1.lt g (by rw [e]; rfl)).2
  obtain ⟨n0, hn0⟩ : ∃ n0, L.length = n0 := ⟨_, rfl⟩
  have Hn0 : Hid (L.length = n0) := hn0
  rw [hn0] at hl h1 ⊢
  have HO : Hid (w.ownsRow B 26 9 (.slice p n0 c) n0 (cels L)) := h1
  clear hn0 h1
  go_enter Try.func36, Try.ntmps36
  go_wp2_with fail
  refine (marks_any n _ hn).mono ?_
  rintro e w1 ⟨rfl, hb1⟩
  rw [hM]
  clear hM
  unfold cubeV cv
  have kK : w1.heap[w.heap.size]? = some (.cells #[.slice none 0 0, .slice none 0 0, .int .i64 0, .int .u64 0, .int .u64 0, .int .u64 0, .int .u64 0, .int .u64 0, .int .u64 0, .int .u64 0, .int .u64 0] 65 (0, 0)) := keepblk hb1 (alloc_get _ _)
  have hzw : w.heap.size < w1.heap.size := by have := hb1.size; simp at this; omega
  have G1 : Hid (w.grownBy w1 (Value.slice p n0 c).ownBlock) := grown_of_below (bel1 hb1) _
  have O1 : Hid (w1.ownsRow B 26 9 (.slice p n0 c) n0 (cels L)) := owns_below HO.out (bel1 hb1)
  clear hb1 HO
  go_wp2
  go_loopw [6] (fun i wr => ∃ k : Nat, k ≤ n0 ∧ i = .int .i64 k ∧ wr.ownsRow B 26 9 (.slice p n0 c) n0 (cels (List.replicate k M ++ L.drop k)) ∧ wr.heap[w1.heap.size]? = some (.cells (#[.int .i64 (M.length : Int), .int .u64 (FW M 0 : Int), .int .u64 (FW M 1 : Int), .int .u64 (FW M 2 : Int), .int .u64 (FW M 3 : Int), .int .u64 (OW M 0 : Int), .int .u64 (OW M 1 : Int), .int .u64 (OW M 2 : Int), .int .u64 (OW M 3 : Int)]) 26 (0, 0)) ∧ wr.heap[w.heap.size]? = some (.cells #[.slice none 0 0, .slice none 0 0, .int .i64 0, .int .u64 0, .int .u64 0, .int .u64 0, .int .u64 0, .int .u64 0, .int .u64 0, .int .u64 0, .int .u64 0] 65 (0, 0)) ∧ w.grownBy wr (Value.slice p n0 c).ownBlock) (fun i _ => n0 - (intOf i).toNat)
  case atStart => exact ⟨0, Nat.zero_le _, rfl, O1.out.alloc _, alloc_get _ _, allocblk kK _, grown_new G1.out (World.grownBy_alloc _ _ none) (fun k e => by cases e)⟩
  case round =>
    clear kK
    obtain ⟨k, hk, rfl, hown, kX, kK, hG⟩ := hrel
    by_cases hlt : k < n0
    · have j0 : (0 : Int) ≤ (k : Int) := by omega
      have j1 : (k : Int) < (n0 : Int) := by omega
      obtain ⟨g, rfl⟩ : ∃ g, p = some ⟨g, 0, none⟩ := by
        rcases shapeO hown with ⟨_, h⟩ | ⟨g, c', h⟩
        · omega
        · exact ⟨g, by injection h⟩
      have cX := (cells_block kX).1
      obtain ⟨K, hK⟩ : ∃ K, List.replicate k M ++ L.drop k = K := ⟨_, rfl⟩
      have hKl : Hid (K.length = n0) := by unfold Hid; rw [← hK]; simp [Hn0.out]; omega
      have hKs : Hid (K.set k M = List.replicate (k + 1) M ++ L.drop (k + 1)) := by unfold Hid; rw [← hK]; exact rep_set L M k (by rw [Hn0.out]; exact hlt)
      obtain ⟨P, hP⟩ : ∃ P, K[k]'(by rw [hKl.out]; exact hlt) = P := ⟨_, rfl⟩
      rw [hK] at hown
      have hown' : wr.ownsRow B 26 9 (.slice (some ⟨g, 0, none⟩) K.length c) K.length (cels K) := by rw [hKl.out]; exact hown
      obtain ⟨x0, x1, x2, x3, x4, x5, x6, x7, x8⟩ := cub_at hown' (by rw [hKl.out]; exact hlt) hP
      have fr : ∀ j, wr.frozen? ⟨g, j, none⟩ = false := hown.frozenAt
      clear hP hown' hK
      go_wp2
      have hp := put9k_own (k := k) M hown (by rw [hKl.out]; exact hlt)
      have hg := hgw.out g rfl
      go_roundw
      case rel => exact ⟨k + 1, by omega, by go_num, by rw [← hKs.out]; exact hp.1, growM hp.2 kX (fun e => by injection e with e; omega), growM hp.2 kK (fun e => by injection e with e; omega), grown_trans hG hp.2⟩
      case measure => simp [intOf]; omega
    · rename World => wq
      have j1 : ¬ (k : Int) < (n0 : Int) := by omega
      have cX := (cells_block kX).1
      have cK := (cells_block kK).1
      have fK := (cells_block kK).2
      obtain rfl : k = n0 := by omega
      rw [List.drop_eq_nil_of_le (by rw [Hn0.out]; omega), List.append_nil] at hown
      go_wp2
      go_loopw [8] (fun i wr => ∃ (j : Nat) (G : Value), j ≤ 64 ∧ i = .int .i64 j ∧ wr.heap[wq.heap.size]? = some (.cells (#[.slice p k c, G, .int .i64 (M.length : Int), .int .u64 (FW M 0 : Int), .int .u64 (FW M 1 : Int), .int .u64 (FW M 2 : Int), .int .u64 (FW M 3 : Int), .int .u64 (OW M 0 : Int), .int .u64 (OW M 1 : Int), .int .u64 (OW M 2 : Int), .int .u64 (OW M 3 : Int)]) 65 (0, 0)) ∧ wr.heap[w1.heap.size]? = some (.cells (#[.int .i64 (M.length : Int), .int .u64 (FW M 0 : Int), .int .u64 (FW M 1 : Int), .int .u64 (FW M 2 : Int), .int .u64 (FW M 3 : Int), .int .u64 (OW M 0 : Int), .int .u64 (OW M 1 : Int), .int .u64 (OW M 2 : Int), .int .u64 (OW M 3 : Int)]) 26 (0, 0)) ∧ wr.heap[w.heap.size]? = some (.cells #[.slice none 0 0, .slice none 0 0, .int .i64 0, .int .u64 0, .int .u64 0, .int .u64 0, .int .u64 0, .int .u64 0, .int .u64 0, .int .u64 0, .int .u64 0] 65 (0, 0)) ∧ KG wr p c k j B (wq.heap.size + 1) M G ∧ w.grownBy wr (Value.slice p k c).ownBlock) (fun i _ => 64 - (intOf i).toNat)
      case atStart => exact ⟨0, _, by omega, rfl, alloc_get _ _, allocblk kX _, allocblk kK _, KG_start (hown.alloc _), grown_new hG (World.grownBy_alloc _ _ none) (fun k e => by cases e)⟩
      case round =>
        have hz2r : w1.heap.size < wq.heap.size := lt_of_get kX
        clear kX kK cX cK fK hown hG
        obtain ⟨j, G, hj, rfl, kB, kX, kK, hKG, hG⟩ := hrel
        have hzx : wq.heap.size < wr.heap.size := lt_of_get kB
        by_cases hlt2 : j < 64
        · have j2 : (j : Int) < 64 := by omega
          have cX := (cells_block kX).1
          have cB := (cells_block kB).1
          have HG : Hid (w.grownBy wr (Value.slice p k c).ownBlock) := hG
          clear hG
          rcases hKG with ⟨g, rfl, rfl, oG⟩ | ⟨oG, oV⟩
          · have hgl := hgw.out g rfl
            by_cases room : k + j + 1 ≤ c
            · go_wp2_with (at_builtin; refine wpList_append_fits _ rfl _ _ 51 rfl B 26 i0 9 Try.underlying51 hi hz1 g (k + j) c _ rfl (oG.alloc _) ⟨wr.heap.size, 0, none⟩ 1 1 (cel M) rfl rfl (World.news_of_block (cs := #[.int .i64 (M.length : Int), .int .u64 (FW M 0 : Int), .int .u64 (FW M 1 : Int), .int .u64 (FW M 2 : Int), .int .u64 (FW M 3 : Int), .int .u64 (OW M 0 : Int), .int .u64 (OW M 1 : Int), .int .u64 (OW M 2 : Int), .int .u64 (OW M 3 : Int)]) (t := 26) (fr := (0, 0)) (alloc1O _ _)) (by simp [cel, Value.oneCell']) room ?_; intro w2 oG2 hgrow; have kB2 := growM hgrow (allocblk kB _) (fun e => by injection e with e; omega); have cB2 := (cells_block kB2).1; have fB2 := (cells_block kB2).2)
              have kX2 := growM hgrow (allocblk kX _) (fun e => by injection e with e; omega)
              have kK2 := growM hgrow (allocblk kK _) (fun e => by injection e with e; omega)
              have hs := setK (.slice (some ⟨g, 0, none⟩) (k + j + 1) c) kB2
              go_roundw
              case rel => exact ⟨j + 1, _, by omega, by go_num, hs.1, growM hs.2 kX2 (fun e => by injection e with e; omega), growM hs.2 kK2 (fun e => by injection e with e; omega), .inl ⟨g, rfl, rfl, by rw [← Nat.add_assoc, cels_rep_succ]; exact oG2.kept hs.2 (.inr (fun e => by injection e with e; simp at e; omega))⟩, grown_new (grown_trans HG.out (grown_trans (World.grownBy_alloc _ _ _) hgrow)) hs.2 (fun m e => by injection e with e; omega)⟩
              case measure => simp [intOf]; omega
            · have oP : wr.ownsRow B 26 9 (.slice (some ⟨g, 0, none⟩) k c) k (cels (List.replicate k M)) := own_preO (m := j) (by rw [← rep_pre]; exact oG) (repO_len _ _)
              go_wp2_with (at_builtin; refine wpList_append_grows _ rfl _ _ 51 rfl 26 i0 _ 9 72 Try.underlying51 hi hz0 hz1 hz2 rfl (by decide) (some ⟨g, 0, none⟩) (k + j) c (cels (List.replicate (k + j) M)) rfl (by intro e; cases e) (repO_len _ _) (by intro b e; injection e with e; subst e; exact (oG.alloc _).cells rfl) ⟨wr.heap.size, 0, none⟩ 1 1 (cel M) rfl rfl (World.news_of_block (cs := #[.int .i64 (M.length : Int), .int .u64 (FW M 0 : Int), .int .u64 (FW M 1 : Int), .int .u64 (FW M 2 : Int), .int .u64 (FW M 3 : Int), .int .u64 (OW M 0 : Int), .int .u64 (OW M 1 : Int), .int .u64 (OW M 2 : Int), .int .u64 (OW M 3 : Int)]) (t := 26) (fr := (0, 0)) (alloc1O _ _)) (by simp [cel, Value.oneCell']) (by omega) (by unfold maxLen; omega) (by omega) ?_; intro v' w2 oG2 hgrow; obtain ⟨q, c', rfl⟩ := shapeP oG2; have kB2 := growM hgrow (allocblk kB _) (fun e => by cases e); have cB2 := (cells_block kB2).1; have fB2 := (cells_block kB2).2)
              have kX2 := growM hgrow (allocblk kX _) (fun e => by cases e)
              have kK2 := growM hgrow (allocblk kK _) (fun e => by cases e)
              have hs := setK (.slice q (k + j + 1) c') kB2
              have oG3 : w2.ownsRow (wq.heap.size + 1) 26 9 (.slice q (k + j + 1) c') (k + j + 1) (cels (List.replicate (k + j + 1) M)) := by rw [cels_rep_succ]; exact oG2.mono (by simp; omega)
              go_roundw
              case rel => exact ⟨j + 1, _, by omega, by go_num, hs.1, growM hs.2 kX2 (fun e => by injection e with e; omega), growM hs.2 kK2 (fun e => by injection e with e; omega), .inr ⟨oG3.kept hs.2 (.inr (fun e => by have := (oG3.lt _ e).1; omega)), ((oP.alloc _).kept hgrow (.inr (fun e => by cases e))).kept hs.2 (.inr (fun e => by injection e with e; simp at e; omega))⟩, grown_new (grown_new (grown_trans HG.out (World.grownBy_alloc _ _ _)) hgrow (fun m e => by cases e)) hs.2 (fun m e => by injection e with e; omega)⟩
              case measure => simp [intOf]; omega
          · go_wp2_with (at_builtin; refine wpList_append_own _ rfl _ _ 51 rfl (wq.heap.size + 1) 26 i0 _ 9 72 Try.underlying51 hi hz0 hz1 hz2 rfl (by decide) _ _ _ rfl (oG.alloc _) ⟨wr.heap.size, 0, none⟩ 1 1 (cel M) rfl rfl (World.news_of_block (cs := #[.int .i64 (M.length : Int), .int .u64 (FW M 0 : Int), .int .u64 (FW M 1 : Int), .int .u64 (FW M 2 : Int), .int .u64 (FW M 3 : Int), .int .u64 (OW M 0 : Int), .int .u64 (OW M 1 : Int), .int .u64 (OW M 2 : Int), .int .u64 (OW M 3 : Int)]) (t := 26) (fr := (0, 0)) (alloc1O _ _)) (by simp [cel, Value.oneCell']) (by unfold maxLen; omega) (by omega) (by simp; omega) ?_; intro v' w2 oG2 hgrow _; obtain ⟨q, c', rfl⟩ := shapeP oG2; have kB2 := growM hgrow (allocblk kB _) (fun e => by have := (oG.lt _ e.symm).1; omega); have cB2 := (cells_block kB2).1; have fB2 := (cells_block kB2).2)
            have kX2 := growM hgrow (allocblk kX _) (fun e => by have := (oG.lt _ e.symm).1; omega)
            have kK2 := growM hgrow (allocblk kK _) (fun e => by have := (oG.lt _ e.symm).1; omega)
            have hs := setK (.slice q (k + j + 1) c') kB2
            have oG3 : w2.ownsRow (wq.heap.size + 1) 26 9 (.slice q (k + j + 1) c') (k + j + 1) (cels (List.replicate (k + j + 1) M)) := by rw [cels_rep_succ]; exact oG2
            have hVb : ∀ b, w.heap.size ≤ b → (Value.slice p k c).ownBlock = none ∨ (Value.slice p k c).ownBlock ≠ some b := by
              intro b hb
              rcases shapeO oV with ⟨e, _⟩ | ⟨g, c', e⟩
              · rw [e]; exact .inl rfl
              · injection e with e1 _ _
                subst e1
                have := hgw.out g rfl
                exact .inr (fun e => by injection e with e; simp at e; omega)
            have hV1 : (Value.slice p k c).ownBlock = none ∨ (Value.slice p k c).ownBlock ≠ G.ownBlock := by
              cases hGb : G.ownBlock with
              | none => cases hv : (Value.slice p k c).ownBlock with
                | none => exact .inl rfl
                | some x => exact .inr (fun e => by cases e)
              | some b => exact hVb b (by have := (oG.lt b hGb).1; omega)
            go_roundw
            case rel => exact ⟨j + 1, _, by omega, by go_num, hs.1, growM hs.2 kX2 (fun e => by injection e with e; omega), growM hs.2 kK2 (fun e => by injection e with e; omega), .inr ⟨oG3.kept hs.2 (.inr (fun e => by have := (oG3.lt _ e).1; omega)), ((oV.alloc _).kept hgrow hV1).kept hs.2 (hVb _ (by omega))⟩, grown_new (grown_new (grown_trans HG.out (World.grownBy_alloc _ _ _)) hgrow (fun m e => by have := (oG.lt m e).1; omega)) hs.2 (fun m e => by injection e with e; omega)⟩
            case measure => simp [intOf]; omega
        · have j2 : ¬ (j : Int) < 64 := by omega
          obtain rfl : j = 64 := by omega
          have cB := (cells_block kB).1
          have cK := (cells_block kK).1
          have fK := (cells_block kK).2
          obtain ⟨q, c', rfl⟩ := KG_shape hKG
          go_wp2
          have hr := put11_get (.slice p k c) (.slice q (k + 64) c') (.int .i64 (M.length : Int)) (.int .u64 (FW M 0 : Int)) (.int .u64 (FW M 1 : Int)) (.int .u64 (FW M 2 : Int)) (.int .u64 (FW M 3 : Int)) (.int .u64 (OW M 0 : Int)) (.int .u64 (OW M 1 : Int)) (.int .u64 (OW M 2 : Int)) (.int .u64 (OW M 3 : Int)) kK
          have hgr := put11_grown wr w.heap.size (.slice p k c) (.slice q (k + 64) c') (.int .i64 (M.length : Int)) (.int .u64 (FW M 0 : Int)) (.int .u64 (FW M 1 : Int)) (.int .u64 (FW M 2 : Int)) (.int .u64 (FW M 3 : Int)) (.int .u64 (OW M 0 : Int)) (.int .u64 (OW M 1 : Int)) (.int .u64 (OW M 2 : Int)) (.int .u64 (OW M 3 : Int))
          refine bodyPost_ret (v := .agg #[.slice p k c, .slice q (k + 64) c', .int .i64 (M.length : Int), .int .u64 (FW M 0 : Int), .int .u64 (FW M 1 : Int), .int .u64 (FW M 2 : Int), .int .u64 (FW M 3 : Int), .int .u64 (OW M 0 : Int), .int .u64 (OW M 1 : Int), .int .u64 (OW M 2 : Int), .int .u64 (OW M 3 : Int)]) ?_ rfl ⟨_, p, c, ⟨rfl, rfl⟩, rfl, ?_, ?_⟩
          · exact res_kept _ _ w.heap.size _ _ _ _ _ _ _ _ _ _ _ _ _ _ _ Try.results36 rfl hr
          · exact KG_mono (KG_kept hKG hgr (fun g e => by have := hgw.out g e; omega) (by omega)) (by omega)
          · exact grown_new hG hgr (fun m e => by injection e with e; omega)
end Go.Proofs.Ytmblloddhpcdeac
