import Derived.Test.YtccbfaembcefjaaGreatDoorXH3
import Derived.Test.YtccbfaembcefjaaGreatDoorXBE
import Derived.Test.YtccbfaembcefjaaGreatDoorXF1
namespace Go.Proofs.YtccbfaembcefjaaGreatDoor
open Go.RowKit Go.Shelf
set_option maxRecDepth 100000 in
theorem lcubeA (s : ByteArray) (w : World) (hs : s.size ≤ maxLen) : Calls Tryz.prog 15 #[.string s] w fun e w' => e = .returned (cubeV (cubeT s.data.toList)) ∧ Below w.heap.size w w' := by
  obtain ⟨D, hD⟩ : ∃ D, cubeT s.data.toList = D := ⟨_, rfl⟩
  obtain ⟨E, hE⟩ : ∃ E, refP s.data.toList = E := ⟨_, rfl⟩
  rw [hD]
  obtain ⟨w1, hw1⟩ : ∃ w1, w.alloc (.cells #[.int .i64 0, .int .u64 0, .int .u64 0, .int .u64 0, .int .u64 0, .int .u64 0, .int .u64 0, .int .u64 0, .int .u64 0] 50 (0, 0)) = w1 := ⟨_, rfl⟩
  have h1 : w1.heap[w.heap.size]? = some (.cells #[.int .i64 0, .int .u64 0, .int .u64 0, .int .u64 0, .int .u64 0, .int .u64 0, .int .u64 0, .int .u64 0, .int .u64 0] 50 (0, 0)) := by rw [← hw1]; exact alloc_get _ _
  have hB1 : Below w.heap.size w w1 := by rw [← hw1]; exact belA (Below.refl _ _) _
  have HP : Hid (Calls Tryz.prog 31 #[.string s] w1 fun e w' => e = .returned (.tuple #[cubeV D, .int .i64 E]) ∧ Below w1.heap.size w1 w') := parse_D s w1 hs D E hD hE
  clear hD hE
  go_enter Tryz.func15, Tryz.ntmps15
  go_wp2_with fail
  refine HP.out.mono ?_
  rintro e W1 ⟨rfl, hb1⟩
  unfold cubeV cv
  have k1 := keepblk3 hb1 h1
  have k2 := allocblk3 k1 (.cells #[.int .i64 (D.length : Int), .int .u64 (FW D 0 : Int), .int .u64 (FW D 1 : Int), .int .u64 (FW D 2 : Int), .int .u64 (FW D 3 : Int), .int .u64 (OW D 0 : Int), .int .u64 (OW D 1 : Int), .int .u64 (OW D 2 : Int), .int .u64 (OW D 3 : Int)] 50 (0, 0))
  obtain ⟨hc2, hf2⟩ := cells_block k2
  have HF : Hid (_ = _) := put9_get (.int .i64 (D.length : Int)) (.int .u64 (FW D 0 : Int)) (.int .u64 (FW D 1 : Int)) (.int .u64 (FW D 2 : Int)) (.int .u64 (FW D 3 : Int)) (.int .u64 (OW D 0 : Int)) (.int .u64 (OW D 1 : Int)) (.int .u64 (OW D 2 : Int)) (.int .u64 (OW D 3 : Int)) k2
  have HB : Hid (Below w.heap.size w (put9 (W1.alloc (.cells #[.int .i64 (D.length : Int), .int .u64 (FW D 0 : Int), .int .u64 (FW D 1 : Int), .int .u64 (FW D 2 : Int), .int .u64 (FW D 3 : Int), .int .u64 (OW D 0 : Int), .int .u64 (OW D 1 : Int), .int .u64 (OW D 2 : Int), .int .u64 (OW D 3 : Int)] 50 (0, 0))) w.heap.size (.int .i64 (D.length : Int)) (.int .u64 (FW D 0 : Int)) (.int .u64 (FW D 1 : Int)) (.int .u64 (FW D 2 : Int)) (.int .u64 (FW D 3 : Int)) (.int .u64 (OW D 0 : Int)) (.int .u64 (OW D 1 : Int)) (.int .u64 (OW D 2 : Int)) (.int .u64 (OW D 3 : Int)))) := put9_below _ _ _ _ _ _ _ _ _ (belA (bel0 hB1 hb1) _) (Nat.le_refl _)
  clear k1 k2 h1 hB1 hb1 hw1
  go_wp2_with fail
  refine bodyPost_ret (v := .agg #[.int .i64 (D.length : Int), .int .u64 (FW D 0 : Int), .int .u64 (FW D 1 : Int), .int .u64 (FW D 2 : Int), .int .u64 (FW D 3 : Int), .int .u64 (OW D 0 : Int), .int .u64 (OW D 1 : Int), .int .u64 (OW D 2 : Int), .int .u64 (OW D 3 : Int)]) ?_ rfl ?_
  · exact res_cube1 _ _ w.heap.size _ _ _ _ _ _ _ _ _ Tryz.results15 rfl HF.out
  · exact ⟨rfl, HB.out⟩
theorem own_notA {W : World} {B g n : Nat} {e e2 : TypeId} {sz : Nat} {v : Value} {xs : List Value} {cs : Array Value} {m : Nat × Nat} (h : W.ownsRow B e sz v n xs) (hk : W.heap[g]? = some (.cells cs e2 m)) (hne : e ≠ e2) : v.ownBlock ≠ some g := by
  intro hb
  rcases h.2 with ⟨rfl, _⟩ | ⟨g2, c2, cur2, rfl, _, hg2, _⟩
  · cases hb
  · have : g2 = g := by injection hb
    subst this
    rw [hk] at hg2
    injection hg2 with h
    injection h with _ h _
    exact hne h.symm
theorem SPL.putA {W : World} {B b : Nat} {V : Value} {Ts : List (List UInt8 × List (List UInt8))} {cs : Array Value} {m : Nat × Nat} (h : SPL W B V Ts) (hb : W.heap[b]? = some (.cells cs 24 m)) (v0 v1 v2 : Value) : SPL (((W.setCell ⟨b, 0, none⟩ v0).setCell ⟨b, 1, none⟩ v1).setCell ⟨b, 2, none⟩ v2) B V Ts := by
  obtain ⟨Z, h1, h2, h3⟩ := h
  exact ⟨Z, h1, h2.kept (gr3 _ _ _ _ _) (.inr (own_notA h2 hb (by decide))), fun z hz => (h3 z hz).kept (gr3 _ _ _ _ _) (.inr (own_notA (h3 z hz) hb (by decide)))⟩
/-- an answer of After, as it lies -/
def ANA (w : World) (V : Value) (lo : Bool) (X : List (List UInt8 × List (List UInt8))) : Prop := lo = false ∧ SPL w 0 V X
theorem ANA.shape {w : World} {V : Value} {lo : Bool} {X : List (List UInt8 × List (List UInt8))} (h : ANA w V lo X) : ∃ p n c, V = .slice p n c := by
  obtain ⟨p, c, e⟩ := h.2.shape
  exact ⟨p, _, c, e⟩
theorem ANA.below {w W : World} {V : Value} {lo : Bool} {X : List (List UInt8 × List (List UInt8))} (h : ANA w V lo X) (hb : Below w.heap.size w W) : ANA W V lo X := ⟨h.1, h.2.below hb⟩
theorem ANA.putS {W : World} {b : Nat} {V : Value} {lo : Bool} {Ts : List (List UInt8 × List (List UInt8))} {cs : Array Value} {m : Nat × Nat} (h : ANA W V lo Ts) (hb : W.heap[b]? = some (.cells cs 24 m)) (v0 v1 v2 : Value) : ANA (((W.setCell ⟨b, 0, none⟩ v0).setCell ⟨b, 1, none⟩ v1).setCell ⟨b, 2, none⟩ v2) V lo Ts := ⟨h.1, h.2.putA hb v0 v1 v2⟩
theorem same_anA (B E : Int) (V1 V2 : Value) (lo : Bool) (X : List (List UInt8 × List (List UInt8))) (w : World) (h : ANA w V1 lo X) (h2 : RSR w V2 X) (hs : szC X ≤ 128) (hg : gdC X) : Calls Tryz.prog 18 #[.agg #[.int .i64 B, V1, .bool lo], .int .i64 E, .agg #[.int .i64 B, V2], .int .i64 E] w fun r w' => r = .returned (.bool true) ∧ Below w.heap.size w w' := by
  obtain ⟨rfl, h1⟩ := h
  exact same_any B E _ _ X 0 _ h1 h2 hs hg
theorem gdC_af {r : List UInt8} {L : List (List UInt8)} (gL : ∀ x ∈ L, good x = true) (gr : good r = true) : gdC (afX r L) := fun t ht => by
  unfold afX at ht
  obtain ⟨c, hc, rfl⟩ := List.mem_map.1 ht
  exact ⟨good_wtT c r (gL c hc) gr, fun x hx => by cases hx⟩
theorem af_gd {b lim : Int} {Ts : List (List UInt8 × List (List UInt8))} {r : List UInt8} (hg : gdS Ts) (gr : good r = true) : gdC (afT b lim Ts r) ∧ szC (afT b lim Ts r) ≤ 128 := by
  unfold afT
  split
  · rename_i h
    refine ⟨gdC_ord (gdC_top (gdC_stl (gdC_af (xpG hg).1 gr))), ?_⟩
    rw [szC_ord]
    unfold afE at h
    split at h
    · cases h
    · split at h
      · split at h
        · assumption
        · cases h
      · rename_i h2
        exact absurd h h2
  · exact ⟨(fun t ht => by cases ht), Nat.zero_le _⟩
theorem exA_wide {nb lim : Nat} : ∀ (Ts : List (List UInt8 × List (List UInt8))) (out R : List (List UInt8)), gdS Ts → (∀ t ∈ Ts, t.1.length = nb) → (∀ x ∈ out, x.length = nb) → exE splT lim out Ts = some R → ∀ x ∈ R, x.length = nb
  | [], out, R, _, _, g, e => by
    injection e with e
    subst e
    exact g
  | t :: r, out, R, gt, hw, g, e => by
    unfold exE at e
    split at e
    · obtain ⟨t1, t3⟩ := gt t List.mem_cons_self
      refine exA_wide r _ R (fun x hx => gt x (List.mem_cons_of_mem _ hx)) (fun x hx => hw x (List.mem_cons_of_mem _ hx)) (fun x hx => ?_) e
      rcases List.mem_append.1 hx with hx | hx
      · exact g x hx
      · exact ((gdW_exT t.2 [t.1] (fun y hy => by rw [List.mem_singleton] at hy; subst hy; exact ⟨t1, rfl⟩) t3 x hx).2).trans (hw t List.mem_cons_self)
    · cases e
theorem xpA_wide {nb : Nat} {b lim : Int} {Ts : List (List UInt8 × List (List UInt8))} (h : gdS Ts) (hw : ∀ t ∈ Ts, t.1.length = nb) : ∀ x ∈ xpL b lim Ts, x.length = nb := by
  unfold xpL
  split
  · exact fun x hx => by cases hx
  · split
    · exact fun x hx => by cases hx
    · cases hx : exE splT lim.toNat [] Ts with
      | none => exact fun x hx => by cases hx
      | some R => exact exA_wide Ts [] R h hw (fun x hx => by cases hx) hx
set_option maxRecDepth 100000 in
set_option maxHeartbeats 8000000 in
theorem afters_walk (b : Int) (l wd : List UInt8) (lim : Int) (w : World) (hl0 : l.length ≤ 281474976710656) (hl1 : wd.length ≤ 281474976710656) : Calls Tryz.prog 5 #[.int .i64 b, .string ⟨l.toArray⟩, .string ⟨wd.toArray⟩, .int .i64 lim] w fun e w' => e = .returned (.bool true) ∧ Below w.heap.size w w' := by
  have hla : l.length ≤ maxLen := by unfold maxLen; omega
  have hlb : (⟨wd.toArray⟩ : ByteArray).size ≤ maxLen := by
    have : (⟨wd.toArray⟩ : ByteArray).size = wd.length := by simp [ByteArray.size]
    unfold maxLen
    omega
  have ok1 := prT_ok b l
  have ft1 : ∀ t ∈ prT b l, FTm t ∧ (t.1.length : Int) = prB b l ∧ t.1 ≠ [] := fun t ht => by
    obtain ⟨h0, h1, h2, -, h4⟩ := prT_ft b l t ht
    refine ⟨h0, ?_, fun e => ?_⟩
    · unfold prB
      rw [if_pos h4]
      exact h1
    · rw [e] at h1
      simp at h1
      omega
  obtain ⟨B1, hB1⟩ : ∃ B, prB b l = B := ⟨_, rfl⟩
  obtain ⟨X1, hX1⟩ : ∃ X, prT b l = X := ⟨_, rfl⟩
  obtain ⟨r, hr⟩ : ∃ r, cubeT wd = r := ⟨_, rfl⟩
  have gr : good r = true := by rw [← hr]; exact good_cubeT _
  have HR1 : Hid (Calls Tryz.prog 7 #[.int .i64 b, .string ⟨l.toArray⟩] w fun e w' => ∃ V V2, e = .returned (.tuple #[.agg #[.int .i64 B1, V, .bool false], .agg #[.int .i64 B1, V2], .bool true]) ∧ SPL w' w.heap.size V X1 ∧ RSR w' V2 X1 ∧ Below w.heap.size w w') := by
    unfold Hid
    rw [← hB1, ← hX1]
    exact read_any b l w hla
  rw [hX1] at ok1 ft1
  rw [hB1] at ft1
  have HCU : Hid (∀ W, Calls Tryz.prog 15 #[.string ⟨wd.toArray⟩] W fun e w' => e = .returned (.agg #[.int .i64 (r.length : Int), .int .u64 (FW r 0 : Int), .int .u64 (FW r 1 : Int), .int .u64 (FW r 2 : Int), .int .u64 (FW r 3 : Int), .int .u64 (OW r 0 : Int), .int .u64 (OW r 1 : Int), .int .u64 (OW r 2 : Int), .int .u64 (OW r 3 : Int)]) ∧ Below W.heap.size W w') := fun W => by
    have h := lcubeA ⟨wd.toArray⟩ W hlb
    have e : cubeT (⟨wd.toArray⟩ : ByteArray).data.toList = r := hr
    rw [e] at h
    exact h
  have HZE : Hid (∀ W, Calls Tryz.prog 17 #[.string ⟨wd.toArray⟩] W fun e w' => e = .returned (.string ⟨r.toArray⟩) ∧ Below W.heap.size W w') := fun W => by
    have h := zeroed_any ⟨wd.toArray⟩ W hlb
    have e : cubeT (⟨wd.toArray⟩ : ByteArray).data.toList = r := hr
    rw [e] at h
    exact h
  have gt1 : gdS X1 := gdS_ft (fun t ht => (ft1 t ht).1)
  have HJO := af_gd (b := B1) (lim := lim) (Ts := X1) (r := r) gt1 gr
  have hwd0 : ∀ x ∈ xpL B1 lim X1, (x.length : Int) = B1 ∧ x ≠ [] ∧ x.length ≤ 256 := fun x hx => by
    have hge : 0 ≤ B1 := by
      rw [← hB1]
      exact prB_ge b l
    have hb0 : ¬ B1 = 0 := fun h => by
      unfold xpL at hx
      rw [if_pos h] at hx
      cases hx
    have h1 := xpA_wide (b := B1) (lim := lim) gt1 (nb := B1.toNat) (fun t ht => by have := (ft1 t ht).2.1; omega) x hx
    have hr0 : B1 ≤ 256 := by
      rw [← hB1]
      rw [← hB1] at hb0
      unfold prB at hb0 ⊢
      split at hb0
      · rename_i h0
        rw [if_pos h0]
        have := prE_zero h0
        omega
      · exact absurd rfl hb0
    refine ⟨by omega, fun e => ?_, by omega⟩
    rw [e] at h1
    simp at h1
    omega
  have HJ1 : Hid (∀ (W : World) (V : Value), SPL W 0 V X1 → Calls Tryz.prog 14 #[.agg #[.int .i64 B1, V, .bool false], .agg #[.int .i64 (r.length : Int), .int .u64 (FW r 0 : Int), .int .u64 (FW r 1 : Int), .int .u64 (FW r 2 : Int), .int .u64 (FW r 3 : Int), .int .u64 (OW r 0 : Int), .int .u64 (OW r 1 : Int), .int .u64 (OW r 2 : Int), .int .u64 (OW r 3 : Int)], .int .i64 lim] W fun e w' => ∃ V lo, e = .returned (.tuple #[.agg #[.int .i64 (afB B1 lim X1 r), V, .bool lo], .int .i64 (afE B1 lim X1 r)]) ∧ ANA w' V lo (afT B1 lim X1 r) ∧ Below W.heap.size W w') := fun W V h => by
    refine (sAfter_any B1 lim X1 r V W h ok1.2 gt1 gr).mono ?_
    rintro e w' ⟨V, rfl, h1, h2⟩
    exact ⟨V, false, rfl, ⟨rfl, h1⟩, h2⟩
  have HJ2 : Hid (∀ (W : World) (V : Value), RSR W V X1 → Calls Tryz.prog 16 #[.agg #[.int .i64 B1, V], .string ⟨r.toArray⟩, .int .i64 lim] W fun e w' => ∃ V, e = .returned (.tuple #[.agg #[.int .i64 (afB B1 lim X1 r), V], .int .i64 (afE B1 lim X1 r)]) ∧ RSR w' V (afT B1 lim X1 r) ∧ Below W.heap.size W w') := fun W V h => dAfter_any B1 lim X1 r V W h ok1.2 gt1 gr (by rw [← hB1]; exact prB_ge b l) hwd0
  obtain ⟨B3, hB3⟩ : ∃ B, afB B1 lim X1 r = B := ⟨_, rfl⟩
  obtain ⟨E3, hE3⟩ : ∃ B, afE B1 lim X1 r = B := ⟨_, rfl⟩
  obtain ⟨X3, hX3⟩ : ∃ B, afT B1 lim X1 r = B := ⟨_, rfl⟩
  rw [hB3, hE3, hX3] at HJ1 HJ2
  rw [hX3] at HJO
  have HJK : Hid (gdC X3 ∧ szC X3 ≤ 128) := HJO
  clear hB1 hX1 ok1 ft1 gt1 hwd0 hB3 hE3 hX3 HJO gr hr hlb hla
  obtain ⟨n1, hn1⟩ : ∃ n, X1.length = n := ⟨_, rfl⟩
  go_enter Tryz.func5, Tryz.ntmps5
  go_wp2_with fail
  refine HR1.out.mono ?_
  rintro e w1 ⟨V, V2, rfl, sv1, rv1, hb1⟩
  obtain ⟨p1, c1, rfl⟩ := sv1.shape
  obtain ⟨q1, d1, rfl⟩ := rv1.shape
  rw [hn1] at sv1 rv1 ⊢
  obtain ⟨wA, hwA⟩ : ∃ wA, ((w1.alloc (.cells #[.int .i64 B1, .slice p1 n1 c1, .bool false] 24 (0, 0))).alloc (.cells #[.int .i64 B1, .slice q1 n1 d1] 27 (0, 0))) = wA := ⟨_, rfl⟩
  have HF : Hid (∀ W, Below wA.heap.size wA W → ((∀ j, W.cell? ⟨w1.heap.size, j, none⟩ = (#[.int .i64 B1, .slice p1 n1 c1, .bool false] : Array Value)[j]?) ∧ (∀ j, W.cell? ⟨w1.heap.size + 1, j, none⟩ = (#[.int .i64 B1, .slice q1 n1 d1] : Array Value)[j]?) ∧ SPL W 0 (.slice p1 n1 c1) X1 ∧ RSR W (.slice q1 n1 d1) X1 ∧ Below w.heap.size w W)) := fun W hW => by
    rw [← hwA] at hW
    have h1 : Below w1.heap.size w1 W := bel0 (belA (belA (Below.refl _ _) _) _) hW
    exact ⟨(cells_block (keepblk3 hW (alw_0 _ _ _))).1, (cells_block (keepblk3 hW (alw_1 _ _ _))).1, (sv1.below h1).base (Nat.zero_le _), rv1.later h1, bel0 hb1 h1⟩
  have H5 : Hid (∀ W, Below wA.heap.size wA W → (∀ j, W.cell? ⟨w1.heap.size, j, none⟩ = (#[.int .i64 B1, .slice p1 n1 c1, .bool false] : Array Value)[j]?)) := fun W hW => (HF.out W hW).1
  obtain ⟨f1, f2, -⟩ := HF.out wA (Below.refl _ _)
  clear sv1 rv1 hb1 HR1
  go_upto_region 4 with fail
  clear f2 hwA
  go_cut [12, 13] (fun h e wc => ∃ b3 V3 lo, h = .pointer (some ⟨b3, 0, none⟩) ∧ e = .int .i64 E3 ∧ Hid (wc.heap[b3]? = some (.cells #[.int .i64 B3, V3, .bool lo] 24 (0, 0)) ∧ ANA wc V3 lo X3 ∧ Below wA.heap.size wA wc))
  case first =>
    clear HZE HJ2 HJK f1
    go_region_held3 (fun W => (∀ j, W.cell? ⟨w1.heap.size, j, none⟩ = (#[.int .i64 B1, .slice p1 n1 c1, .bool false] : Array Value)[j]?)) (first | with_reducible exact H5.out _ (Below.refl _ _) | with_reducible exact H5.out _ (Below.refl _ _).drew | with_reducible exact H5.out _ (belA (Below.refl _ _) _) | with_reducible exact H5.out _ (belA (Below.refl _ _).drew _) | with_reducible exact H5.out _ hb7' | with_reducible exact H5.out _ (belA hb7' _) | with_reducible exact H5.out _ hb9' | with_reducible exact H5.out _ (belA hb9' _) | with_reducible exact H5.out _ (((hb9'.setCell (Nat.le_refl _) _).setCell (Nat.le_refl _) _).setCell (Nat.le_refl _) _) | with_reducible exact H5.out _ (((hb9'.setCell hb7'.size _).setCell hb7'.size _).setCell hb7'.size _) | with_reducible exact H5.out _ ((((belA hb9' _).setCell hb9'.size _).setCell hb9'.size _).setCell hb9'.size _)) (first | (go_at_call 15; refine (HCU.out _).mono ?_; rintro e w7 ⟨rfl, hb7⟩; have hb7' : Below wA.heap.size wA w7 := (by first | exact und hb7 | exact bel1 (und hb7) | exact und (bel1 hb7) | exact hb7)) | (go_at_call 14; refine (HJ1.out _ _ (by first | exact (HF.out _ hb7').2.2.1 | exact (HF.out _ (belA hb7' _)).2.2.1)).mono ?_; rintro e w9 ⟨V3, lo, rfl, s9, hb9⟩; have hb9' : Below wA.heap.size wA w9 := (by first | exact bel0 hb7' hb9 | exact bel0 hb7' (bel1 hb9)); obtain ⟨p3, n3, c3, rfl⟩ := s9.shape; (first | (have hk9 := keepblk3 hb9 (keepblk3 (und hb7) (alloc_get wA (.cells #[.int .i64 0, .slice none 0 0, .bool false] 24 (0, 0)))); have hc9 := (cells_block hk9).1; have hf9 := (cells_block hk9).2) | (have hk9 := keepblk3 hb9 (keepblk3 hb7 (alloc_get wA.drew (.cells #[.int .i64 0, .slice none 0 0, .bool false] 24 (0, 0)))); have hc9 := (cells_block hk9).1; have hf9 := (cells_block hk9).2) | (have hk9 := keepblk3 hb9 (alloc_get w7 (.cells #[.int .i64 0, .slice none 0 0, .bool false] 24 (0, 0))); have hc9 := (cells_block hk9).1; have hf9 := (cells_block hk9).2) | skip)))
    all_goals go_wp2
    all_goals go_meet
    · exact ⟨_, _, _, rfl, rfl, alloc_get _ _, s9.below (belA (Below.refl _ _) _), belA hb9' _⟩
    · exact ⟨_, _, _, rfl, rfl, put3w _ _ _ hk9, s9.putS hk9 _ _ _, ((hb9'.setCell hb7'.size _).setCell hb7'.size _).setCell hb7'.size _⟩
    · exact ⟨_, _, _, rfl, rfl, put3w _ _ _ hk9, s9.putS hk9 _ _ _, ((hb9'.setCell (Nat.le_refl _) _).setCell (Nat.le_refl _) _).setCell (Nat.le_refl _) _⟩
  case rest =>
    obtain ⟨b3, V3, lo, rfl, rfl, HS⟩ := hcut
    rename World => wc
    obtain ⟨p3, n3, c3, rfl⟩ := HS.out.2.1.shape
    have H6 : Hid (∀ W, Below wc.heap.size wc W → (∀ j, W.cell? ⟨w1.heap.size + 1, j, none⟩ = (#[.int .i64 B1, .slice q1 n1 d1] : Array Value)[j]?)) := fun W hW => (HF.out W (bel0 HS.out.2.2 hW)).2.1
    have HG : Hid (∀ W, Below wc.heap.size wc W → RSR W (.slice q1 n1 d1) X1) := fun W hW => (HF.out W (bel0 HS.out.2.2 hW)).2.2.2.1
    have f2 := H6.out wc (Below.refl _ _)
    clear HCU HJ1 H5 f1
    go_upto_region 5 with fail
    go_cut [14, 15] (fun h e wd => ∃ b4 V4, h = .pointer (some ⟨b4, 0, none⟩) ∧ e = .int .i64 E3 ∧ Hid (wd.heap[b4]? = some (.cells #[.int .i64 B3, V4] 27 (0, 0)) ∧ RSR wd V4 X3 ∧ Below wc.heap.size wc wd))
    case first =>
      clear HJK f2 HF
      go_region_held3 (fun W => (∀ j, W.cell? ⟨w1.heap.size + 1, j, none⟩ = (#[.int .i64 B1, .slice q1 n1 d1] : Array Value)[j]?)) (first | with_reducible exact H6.out _ (Below.refl _ _) | with_reducible exact H6.out _ (Below.refl _ _).drew | with_reducible exact H6.out _ (belA (Below.refl _ _) _) | with_reducible exact H6.out _ (belA (Below.refl _ _).drew _) | with_reducible exact H6.out _ hb7' | with_reducible exact H6.out _ (belA hb7' _) | with_reducible exact H6.out _ hb9' | with_reducible exact H6.out _ (belA hb9' _) | with_reducible exact H6.out _ ((hb9'.setCell (Nat.le_refl _) _).setCell (Nat.le_refl _) _) | with_reducible exact H6.out _ ((hb9'.setCell hb7'.size _).setCell hb7'.size _) | with_reducible exact H6.out _ (((belA hb9' _).setCell hb9'.size _).setCell hb9'.size _)) (first | (go_at_call 17; refine (HZE.out _).mono ?_; rintro e w7 ⟨rfl, hb7⟩; have hb7' : Below wc.heap.size wc w7 := (by first | exact und hb7 | exact bel1 (und hb7) | exact und (bel1 hb7) | exact hb7)) | (go_at_call 16; refine (HJ2.out _ _ (by first | exact HG.out _ hb7' | exact HG.out _ (belA hb7' _))).mono ?_; rintro e w9 ⟨V4, rfl, s9, hb9⟩; have hb9' : Below wc.heap.size wc w9 := (by first | exact bel0 hb7' hb9 | exact bel0 hb7' (bel1 hb9)); obtain ⟨p4, c4, rfl⟩ := s9.shape; (first | (have hk9 := keepblk3 hb9 (keepblk3 (und hb7) (alloc_get wc (.cells #[.int .i64 0, .slice none 0 0] 27 (0, 0)))); have hc9 := (cells_block hk9).1; have hf9 := (cells_block hk9).2) | (have hk9 := keepblk3 hb9 (keepblk3 hb7 (alloc_get wc.drew (.cells #[.int .i64 0, .slice none 0 0] 27 (0, 0)))); have hc9 := (cells_block hk9).1; have hf9 := (cells_block hk9).2) | (have hk9 := keepblk3 hb9 (alloc_get w7 (.cells #[.int .i64 0, .slice none 0 0] 27 (0, 0))); have hc9 := (cells_block hk9).1; have hf9 := (cells_block hk9).2) | skip)))
      all_goals go_wp2
      all_goals go_meet
      · exact ⟨_, _, rfl, rfl, alloc_get _ _, s9.later (belA (Below.refl _ _) _), belA hb9' _⟩
      · exact ⟨_, _, rfl, rfl, set2_get _ _ hk9, s9.kept (gr2 _ _ _ _) (no_str2 hk9), (hb9'.setCell hb7'.size _).setCell hb7'.size _⟩
      · exact ⟨_, _, rfl, rfl, set2_get _ _ hk9, s9.kept (gr2 _ _ _ _) (no_str2 hk9), (hb9'.setCell (Nat.le_refl _) _).setCell (Nat.le_refl _) _⟩
    case rest =>
      obtain ⟨b4, V4, rfl, rfl, HT⟩ := hcut
      rename World => wd'
      obtain ⟨p4, c4, rfl⟩ := HT.out.2.1.shape
      have g1 := (cells_block (keepblk3 HT.out.2.2 HS.out.1)).1
      have g2 := (cells_block HT.out.1).1
      have HW : Hid (∀ W, Below wd'.heap.size wd' W → Below w.heap.size w W) := fun W hW => (HF.out W (bel0 HS.out.2.2 (bel0 HT.out.2.2 hW))).2.2.2.2
      have HSS := same_anA B3 E3 (.slice p3 n3 c3) (.slice p4 X3.length c4) lo X3 wd' (HS.out.2.1.below HT.out.2.2) HT.out.2.1 HJK.out.2 HJK.out.1
      obtain ⟨n4, hn4⟩ : ∃ n, X3.length = n := ⟨_, rfl⟩
      rw [hn4] at HSS g2
      have HSA : Hid (Calls Tryz.prog 18 #[.agg #[.int .i64 B3, .slice p3 n3 c3, .bool lo], .int .i64 E3, .agg #[.int .i64 B3, .slice p4 n4 c4], .int .i64 E3] wd' fun r w' => r = .returned (.bool true) ∧ Below wd'.heap.size wd' w') := HSS
      clear HF HS HT HSS H6 HG HZE HJ2 HJK f2 hn4
      go_wp2_with fail
      refine HSA.out.mono ?_
      rintro e w6 ⟨rfl, hb6⟩
      go_wp2_with fail
      go_ret
      exact ⟨rfl, HW.out w6 hb6⟩
end Go.Proofs.YtccbfaembcefjaaGreatDoor
