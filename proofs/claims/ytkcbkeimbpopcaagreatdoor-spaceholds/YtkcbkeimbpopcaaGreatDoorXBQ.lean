import Derived.Test.YtkcbkeimbpopcaaGreatDoorXBP
import Derived.Laws.AppendOwnNone
import Derived.Test.YtkcbkeimbpopcaaGreatDoorXAT
import Derived.Deep.RegionHeld3
namespace Go.Proofs.YtkcbkeimbpopcaaGreatDoor
open Go.RowKit Go.Shelf
/-- append of no elements, whatever room the slice says it has -/
theorem app_none0 {P : Program} {w : World} {ops : Array Oper} {rest : List Oper} {o : Oper} {a : Act} {Q : Exit → Act → World → Prop} (hgd : o.guard = none) (s x : Operand) (t : TypeId)
    (ho : o.op = .call { callee := .builtin .append, args := #[s, x], argTypes := #[t, t] })
    (base : Nat) (e : TypeId) (i : TypeInfo) (size : Nat) (ht : P.underlying t = some (.slice e)) (hi : P.info? e = some i)
    (v : Value) (n c : Nat) (xs : List Value) (hs : a.eval s = v) (hown : w.ownsRow base e size v n xs) (hx : a.eval x = .slice none 0 c)
    (h : wpList P ops Q rest (a.put o.dst v) w) : wpList P ops Q (o :: rest) a w := by
  refine wpList_plain hgd fun K hK => ?_
  have hrun : (Builtin.append_ #[t, t] o.type #[v, .slice none 0 c]).run P w = .ok v w := by
    rcases hown.2 with ⟨rfl, rfl⟩ | ⟨g, cap, cur, rfl, _, _, hnc, _⟩
    · simp [Builtin.append_, run_underlying ht, sizeOf, typeInfo, hi, Builtin.lenOf, Builtin.firstCells]
    · simp [Builtin.append_, run_underlying ht, sizeOf, typeInfo, hi, Builtin.lenOf, Builtin.firstCells, hnc, storeCells]
  unfold Oper.wp
  simp [execOp, ho, resolve, invoke, builtin, hs, hx, hrun, Result.andThen]
  exact hK _ _ h
theorem rts_one (L : List ZT) : ∀ v ∈ rts L, v.oneCell' = true := fun v hv => by
  obtain ⟨z, _, hz⟩ := List.mem_flatMap.1 hv
  simp only [rtc, List.mem_cons, List.not_mem_nil, or_false] at hz
  rcases hz with rfl | rfl <;> rfl
theorem rts_news {W : World} {ad : Addr} {Z : List ZT} (h : IRR W (some ad) Z) : ∀ j u, (rts Z)[j]? = some u → W.cell? (ad.add j) = some u := fun j u hu => by
  have hm : j % 2 < 2 := Nat.mod_lt _ (by omega)
  have e := rts_get Z (j / 2) (j % 2) hm
  rw [show j / 2 * 2 + j % 2 = j by omega, hu] at e
  cases hz : Z[j / 2]? with
  | none => rw [hz] at e; cases e
  | some z =>
    rw [hz] at e
    obtain ⟨g, o0, e1, c0, c1⟩ := h W (Below.refl _ _) _ z hz
    injection e1 with e1
    subst e1
    have ea : (⟨g, o0, none⟩ : Addr).add j = ⟨g, o0 + j, none⟩ := by simp [Addr.add]
    rw [ea]
    rcases (show j % 2 = 0 ∨ j % 2 = 1 by omega) with h0 | h0
    · rw [h0] at e
      rw [show o0 + j = o0 + j / 2 * 2 by omega, c0]
      exact e.symm
    · rw [h0] at e
      rw [show o0 + j = o0 + j / 2 * 2 + 1 by omega, c1]
      exact e.symm
set_option maxRecDepth 100000 in
set_option maxHeartbeats 2000000 in
theorem dbound2 (b : Int) (V : Value) (Ts : List (List UInt8 × List (List UInt8))) (w : World) (h : RSR w V Ts) (ho : szC Ts ≤ 1000000) : Calls Tryz.prog 51 #[.agg #[.int .i64 b, V]] w fun e w' => ((128 < szC Ts ∧ e = .returned (.tuple #[.agg #[.int .i64 0, .slice none 0 0], .int .i64 3])) ∨ (¬ 128 < szC Ts ∧ e = .returned (.tuple #[.agg #[.int .i64 b, V], .int .i64 0]))) ∧ Below w.heap.size w w' := by
  obtain ⟨p, cp, rfl⟩ := h.shape
  obtain ⟨w2, hw2⟩ : ∃ w2, (w.alloc (.cells #[.int .i64 b, .slice p (Ts.length) cp] 27 (0, 0))).alloc (.cells #[.int .i64 0, .slice none 0 0] 27 (0, 0)) = w2 := ⟨_, rfl⟩
  have h0 : w2.heap[w.heap.size]? = some (.cells #[.int .i64 b, .slice p (Ts.length) cp] 27 (0, 0)) := by rw [← hw2]; exact alw_0 _ _ _
  have h1 : w2.heap[w.heap.size + 1]? = some (.cells #[.int .i64 0, .slice none 0 0] 27 (0, 0)) := by rw [← hw2]; exact alw_1 _ _ _
  have hB : Below w.heap.size w w2 := by rw [← hw2]; exact belA (belA (Below.refl _ _) _) _
  obtain ⟨hc0, -⟩ := cells_block h0
  have HS : Hid (Calls Tryz.prog 32 #[.agg #[.int .i64 b, .slice p (Ts.length) cp]] w2 fun e w' => e = .returned (.int .i64 (szC Ts : Int)) ∧ Below w2.heap.size w2 w') := dSizeL_any b _ Ts w2 (h.later hB) ho
  have HA : Hid (w2.heap[w.heap.size]? = some (.cells #[.int .i64 b, .slice p (Ts.length) cp] 27 (0, 0)) ∧ w2.heap[w.heap.size + 1]? = some (.cells #[.int .i64 0, .slice none 0 0] 27 (0, 0)) ∧ Below w.heap.size w w2) := ⟨h0, h1, hB⟩
  clear h0 h1 hB h
  by_cases hgt : (128 : Int) < (szC Ts : Int)
  · go_enter Tryz.func51, Tryz.ntmps51
    go_wp2_with fail
    refine HS.out.mono ?_
    rintro e W1 ⟨rfl, hb1⟩
    have k1 := keepblk3 hb1 HA.out.2.1
    obtain ⟨hcE, hfE⟩ := cells_block k1
    have HF : Hid (_ = _) := set2_get (.int .i64 0) (.slice none 0 0) k1
    have HBB : Hid (Below w.heap.size w ((W1.setCell ⟨w.heap.size + 1, 0, none⟩ (.int .i64 0)).setCell ⟨w.heap.size + 1, 1, none⟩ (.slice none 0 0))) := ((bel0 HA.out.2.2 hb1).setCell (Nat.le_succ _) _).setCell (Nat.le_succ _) _
    clear k1 hb1 hc0 hw2
    go_wp2_with fail
    refine bodyPost_ret (v := .tuple #[.agg #[.int .i64 0, .slice none 0 0], .int .i64 3]) (res_rs2 _ _ (w.heap.size + 1) _ _ Tryz.results51 rfl HF.out) rfl ?_
    exact ⟨.inl ⟨by omega, rfl⟩, HBB.out⟩
  · go_enter Tryz.func51, Tryz.ntmps51
    go_wp2_with fail
    refine HS.out.mono ?_
    rintro e W1 ⟨rfl, hb1⟩
    have k1 := keepblk3 hb1 HA.out.2.1
    have k0 := keepblk3 hb1 HA.out.1
    obtain ⟨hcE, hfE⟩ := cells_block k1
    obtain ⟨hcD, -⟩ := cells_block k0
    have HF : Hid (_ = _) := set2_get (.int .i64 b) (.slice p (Ts.length) cp) k1
    have HBB : Hid (Below w.heap.size w ((W1.setCell ⟨w.heap.size + 1, 0, none⟩ (.int .i64 b)).setCell ⟨w.heap.size + 1, 1, none⟩ (.slice p (Ts.length) cp))) := ((bel0 HA.out.2.2 hb1).setCell (Nat.le_succ _) _).setCell (Nat.le_succ _) _
    clear k1 k0 hb1 hc0 hw2
    go_wp2_with fail
    refine bodyPost_ret (v := .tuple #[.agg #[.int .i64 b, .slice p (Ts.length) cp], .int .i64 0]) (res_rs2 _ _ (w.heap.size + 1) _ _ Tryz.results51 rfl HF.out) rfl ?_
    exact ⟨.inr ⟨by omega, rfl⟩, HBB.out⟩
theorem dfit_any (b b2 : Int) (p1 p2 : Option Addr) (n1 n2 k1 k2 : Nat) (w : World) (hb : 0 ≤ b) : Calls Tryz.prog 50 #[.agg #[.int .i64 b, .slice p1 n1 k1], .agg #[.int .i64 b2, .slice p2 n2 k2]] w fun e w' => e = .returned (.bool (!(b == 0) && (b == b2))) ∧ Below w.heap.size w w' := by
  obtain ⟨w2, hw2⟩ : ∃ w2, (w.alloc (.cells #[.int .i64 b, .slice p1 n1 k1] 27 (0, 0))).alloc (.cells #[.int .i64 b2, .slice p2 n2 k2] 27 (0, 0)) = w2 := ⟨_, rfl⟩
  have h0 : w2.heap[w.heap.size]? = some (.cells #[.int .i64 b, .slice p1 n1 k1] 27 (0, 0)) := by rw [← hw2]; exact alw_0 _ _ _
  have h1 : w2.heap[w.heap.size + 1]? = some (.cells #[.int .i64 b2, .slice p2 n2 k2] 27 (0, 0)) := by rw [← hw2]; exact alw_1 _ _ _
  have hB : Below w.heap.size w w2 := by rw [← hw2]; exact belA (belA (Below.refl _ _) _) _
  obtain ⟨hc0, -⟩ := cells_block h0
  obtain ⟨hc1, -⟩ := cells_block h1
  have HB : Hid (Below w.heap.size w w2) := hB
  clear h0 h1 hB
  by_cases hz : b = 0
  · have m1 : ¬ (b > 0) := by omega
    have HR : Hid ((!(b == 0) && (b == b2)) = false) := by unfold Hid; rw [show (b == 0) = true by simpa using hz]; rfl
    clear hz hb
    go_enter Tryz.func50, Tryz.ntmps50
    go_wp2_with fail
    go_ret
    exact ⟨by rw [HR.out]; rfl, HB.out⟩
  · have m1 : b > 0 := by omega
    obtain ⟨q, hq⟩ : ∃ q, (b == b2) = q := ⟨_, rfl⟩
    have HR : Hid ((!(b == 0) && (b == b2)) = q) := by unfold Hid; rw [show (b == 0) = false by simpa using hz, hq]; rfl
    clear hz hb
    go_enter Tryz.func50, Tryz.ntmps50
    go_wp2_with fail
    go_ret
    exact ⟨by rw [HR.out]; rfl, HB.out⟩
theorem frm_ord {X : List (List UInt8 × List (List UInt8))} (h : ∀ t ∈ X, t.2.Pairwise (fun a b => leB a b = true)) : frmD (topC X) = ordT (topC X) := by
  unfold frmD ordT
  congr 2
  refine List.map_congr_left (fun t ht => ?_)
  rcases topCF_mem X [] t ht with h1 | h1
  · cases h1
  · rw [srtT_id (h t h1)]
end Go.Proofs.YtkcbkeimbpopcaaGreatDoor
namespace Go.Proofs.YtkcbkeimbpopcaaGreatDoor
open Go.RowKit Go.Shelf
theorem app_rt {ops : Array Oper} {rest : List Oper} {o : Oper} {a : Act} {Q : Exit → Act → World → Prop} {w : World} (hgd : o.guard = none) (s x : Operand)
    (ho : o.op = .call { callee := .builtin .append, args := #[s, x], argTypes := #[25, 25] }) (base : Nat) (v : Value) (m : Nat) (xs : List Value) (hs : a.eval s = v) (hown : w.ownsRow base 80 2 v m xs)
    (p : Option Addr) (n k : Nat) (Z : List ZT) (hx : a.eval x = .slice p n k) (hZ : Z.length = n) (hr : IRR w p Z) (hm : m + n ≤ 100000) (hbase : base ≤ w.heap.size)
    (h : ∀ v' w', w'.ownsRow base 80 2 v' (m + n) (xs ++ rts Z) → w.grownBy w' v.ownBlock → wpList Tryz.prog ops Q rest (a.put o.dst v') w') : wpList Tryz.prog ops Q (o :: rest) a w := by
  obtain ⟨iT, hiT, hzT0, hzT1, hzT2⟩ := info_parts info_rtm
  cases p with
  | none =>
    have hz : Z = [] := by
      cases hc : Z with
      | nil => rfl
      | cons z l =>
        obtain ⟨g, o0, e, -⟩ := hr w (Below.refl _ _) 0 z (by rw [hc]; rfl)
        cases e
    subst hz
    have hn : n = 0 := hZ.symm
    subst hn
    refine app_none0 hgd s x 25 ho base 80 iT 2 Tryz.underlying25 hiT v m k xs hs hown hx (h v w ?_ ⟨rfl, rfl, rfl, Nat.le_refl _, fun _ _ _ => rfl⟩)
    have e : xs ++ rts [] = xs := by simp [rts]
    rw [e]
    exact hown
  | some ad =>
    exact wpList_append_own _ hgd s x 25 ho base 80 iT _ 2 40 Tryz.underlying25 hiT hzT0 hzT1 hzT2 rfl (by decide) v m xs hs hown ad n k (rts Z) hx (by rw [rts_len, hZ]) (rts_news hr) (rts_one Z) (by unfold maxLen; omega) (by omega) hbase (fun v' w' h1 h2 _ => h v' w' h1 h2)
set_option maxRecDepth 100000 in
set_option maxHeartbeats 4000000 in
theorem dJoin_any (b b2 : Int) (A C : List (List UInt8 × List (List UInt8))) (V1 V2 : Value) (w : World) (h1 : RSR w V1 A) (h2 : RSR w V2 C) (hs1 : szC A ≤ 128) (hs2 : szC C ≤ 128) (hg1 : gdC A) (hg2 : gdC C) (hb : 0 ≤ b) (hso : ∀ t ∈ A ++ C, t.2.Pairwise (fun a b => leB a b = true)) :
    Calls Tryz.prog 20 #[.agg #[.int .i64 b, V1], .agg #[.int .i64 b2, V2]] w fun e w' => ∃ V, e = .returned (.tuple #[.agg #[.int .i64 (jnB b b2 A C), V], .int .i64 (jnE b b2 A C)]) ∧ RSR w' V (jnT b b2 A C) ∧ Below w.heap.size w w' := by
  have hfo := frm_ord hso
  have hsz : szC (topC (A ++ C)) ≤ 256 := by
    have h := szC_topF (A ++ C) []
    have h' := szC_append A C
    have e : szC (topC (A ++ C)) ≤ szC [] + szC (A ++ C) := h
    have e0 : szC ([] : List (List UInt8 × List (List UInt8))) = 0 := rfl
    omega
  have hso2 := szC_ord (topC (A ++ C))
  have hl1 := szC_len A
  have hl2 := szC_len C
  obtain ⟨Z1, p1, k1, rfl, rfl, r1, t1⟩ := h1
  obtain ⟨Z2, p2, k2, rfl, rfl, r2, t2⟩ := h2
  rw [List.length_map] at hl1 hl2
  obtain ⟨n1, hn1⟩ : ∃ n, Z1.length = n := ⟨_, rfl⟩
  obtain ⟨n2, hn2⟩ : ∃ n, Z2.length = n := ⟨_, rfl⟩
  rw [hn1] at hl1 ⊢
  rw [hn2] at hl2 ⊢
  have hYO : ∀ W, Below w.heap.size w W → ∀ z ∈ Z1 ++ Z2, YOK W z := fun W hW z hz => by
    rcases List.mem_append.1 hz with hz | hz
    · have hm := szC_mem z.cont (List.mem_map_of_mem (f := ZT.cont) hz)
      have e : z.cont.2 = z.L := rfl
      rw [e] at hm
      exact ⟨(t1 z hz).later hW, by omega, hg1 z.cont (List.mem_map_of_mem (f := ZT.cont) hz)⟩
    · have hm := szC_mem z.cont (List.mem_map_of_mem (f := ZT.cont) hz)
      have e : z.cont.2 = z.L := rfl
      rw [e] at hm
      exact ⟨(t2 z hz).later hW, by omega, hg2 z.cont (List.mem_map_of_mem (f := ZT.cont) hz)⟩
  obtain ⟨X, hX⟩ : ∃ X, Z1.map ZT.cont ++ Z2.map ZT.cont = X := ⟨_, rfl⟩
  have hmp : (Z1 ++ Z2).map ZT.cont = X := by rw [List.map_append, hX]
  have HJ : Hid (∀ q, (!(b == 0) && (b == b2)) = q → (q = false → jnE b b2 (Z1.map ZT.cont) (Z2.map ZT.cont) = 11) ∧ (q = true → 128 < szC (topC X) → jnE b b2 (Z1.map ZT.cont) (Z2.map ZT.cont) = 3) ∧ (q = true → ¬ 128 < szC (topC X) → jnE b b2 (Z1.map ZT.cont) (Z2.map ZT.cont) = 0)) := fun q hq => by
    refine ⟨fun h => ?_, fun h h' => ?_, fun h h' => ?_⟩
    · unfold jnE; rw [if_pos (hq.trans h)]
    · unfold jnE; rw [if_neg (by rw [hq, h]; simp), hX, if_neg (by omega)]
    · unfold jnE; rw [if_neg (by rw [hq, h]; simp), hX, if_pos (by omega)]
  have HJB : Hid (jnB b b2 (Z1.map ZT.cont) (Z2.map ZT.cont) = if jnE b b2 (Z1.map ZT.cont) (Z2.map ZT.cont) = 0 then b else 0) := rfl
  have HJT : Hid (jnT b b2 (Z1.map ZT.cont) (Z2.map ZT.cont) = if jnE b b2 (Z1.map ZT.cont) (Z2.map ZT.cont) = 0 then ordT (topC X) else []) := by unfold Hid jnT; rw [hX]
  rw [hX] at hfo hsz hso2
  obtain ⟨jb, hjb⟩ : ∃ j, jnB b b2 (Z1.map ZT.cont) (Z2.map ZT.cont) = j := ⟨_, rfl⟩
  obtain ⟨je, hje⟩ : ∃ j, jnE b b2 (Z1.map ZT.cont) (Z2.map ZT.cont) = j := ⟨_, rfl⟩
  obtain ⟨jt, hjt⟩ : ∃ j, jnT b b2 (Z1.map ZT.cont) (Z2.map ZT.cont) = j := ⟨_, rfl⟩
  rw [hje] at HJ HJB HJT
  rw [hjb] at HJB
  rw [hjt] at HJT
  rw [hjb, hje, hjt]
  obtain ⟨wA, hwA⟩ : ∃ wA, (((w.alloc (.cells #[.int .i64 b, .slice p1 n1 k1] 27 (0, 0))).alloc (.cells #[.int .i64 b2, .slice p2 n2 k2] 27 (0, 0))).alloc (.cells #[.int .i64 0, .slice none 0 0] 27 (0, 0))) = wA := ⟨_, rfl⟩
  have hBA : Below w.heap.size w wA := by rw [← hwA]; exact belA (belA (belA (Below.refl _ _) _) _) _
  have d1 : wA.heap[w.heap.size]? = some (.cells #[.int .i64 b, .slice p1 n1 k1] 27 (0, 0)) := by rw [← hwA, Below.heap_alloc _ _ _ (by simp <;> omega)]; exact alw_0 _ _ _
  have d2 : wA.heap[w.heap.size + 1]? = some (.cells #[.int .i64 b2, .slice p2 n2 k2] 27 (0, 0)) := by rw [← hwA, Below.heap_alloc _ _ _ (by simp <;> omega)]; exact alw_1 _ _ _
  have d3 : wA.heap[w.heap.size + 1 + 1]? = some (.cells #[.int .i64 0, .slice none 0 0] 27 (0, 0)) := by rw [← hwA]; have := alloc_get ((w.alloc (.cells #[.int .i64 b, .slice p1 n1 k1] 27 (0, 0))).alloc (.cells #[.int .i64 b2, .slice p2 n2 k2] 27 (0, 0))) (.cells #[.int .i64 0, .slice none 0 0] 27 (0, 0)); simpa using this
  have HD : Hid (∀ W, Below wA.heap.size wA W → W.heap[w.heap.size]? = some (.cells #[.int .i64 b, .slice p1 n1 k1] 27 (0, 0)) ∧ W.heap[w.heap.size + 1]? = some (.cells #[.int .i64 b2, .slice p2 n2 k2] 27 (0, 0)) ∧ W.heap[w.heap.size + 1 + 1]? = some (.cells #[.int .i64 0, .slice none 0 0] 27 (0, 0)) ∧ IRR W p1 Z1 ∧ IRR W p2 Z2 ∧ Below w.heap.size w W) := fun W hW => ⟨keepblk3 hW d1, keepblk3 hW d2, keepblk3 hW d3, r1.later (bel0 hBA hW), r2.later (bel0 hBA hW), bel0 hBA hW⟩
  obtain ⟨hc1, -⟩ := cells_block d1
  obtain ⟨hc2, -⟩ := cells_block d2
  have HN : Hid (Z1.length = n1 ∧ Z2.length = n2 ∧ n1 ≤ 128 ∧ n2 ≤ 128) := ⟨hn1, hn2, by omega, by omega⟩
  have HFI : Hid (∀ q, (!(b == 0) && (b == b2)) = q → Calls Tryz.prog 50 #[.agg #[.int .i64 b, .slice p1 n1 k1], .agg #[.int .i64 b2, .slice p2 n2 k2]] wA fun e w' => e = .returned (.bool q) ∧ Below wA.heap.size wA w') := fun q hq => by
    rw [← hq]
    exact dfit_any b b2 p1 p2 n1 n2 k1 k2 wA hb
  have HFO : Hid (∀ (W : World) (p : Option Addr) (c B : Nat), Below wA.heap.size wA W → W.ownsRow B 80 2 (.slice p (n1 + n2) c) (n1 + n2) (rts (Z1 ++ Z2)) → Calls Tryz.prog 52 #[.int .i64 b, .slice p (n1 + n2) c] W fun e w' => ∃ V, e = .returned (.agg #[.int .i64 b, V]) ∧ RSR w' V (ordT (topC X)) ∧ Below W.heap.size W w') := fun W p c B hW ho => by
    have h := dform_any b (Z1 ++ Z2) (n1 + n2) p c W (by rw [List.length_append, hn1, hn2]) (by omega) (IRR_own ho (by rw [List.length_append, hn1, hn2])) (hYO W (bel0 hBA hW))
    rw [hmp, hfo] at h
    exact h
  have HBO : Hid (∀ (W : World) (V : Value), RSR W V (ordT (topC X)) → Calls Tryz.prog 51 #[.agg #[.int .i64 b, V]] W fun e w' => ((128 < szC (topC X) ∧ e = .returned (.tuple #[.agg #[.int .i64 0, .slice none 0 0], .int .i64 3])) ∨ (¬ 128 < szC (topC X) ∧ e = .returned (.tuple #[.agg #[.int .i64 b, V], .int .i64 0]))) ∧ Below W.heap.size W w') := fun W V h => by
    have h' := dbound2 b V (ordT (topC X)) W h (by omega)
    rw [hso2] at h'
    exact h'
  obtain ⟨q, hq⟩ : ∃ q, (!(b == 0) && (b == b2)) = q := ⟨_, rfl⟩
  have HF2 := HFI.out q hq
  obtain ⟨j1, j2, j3⟩ := HJ.out q hq
  have HFF : Hid (Calls Tryz.prog 50 #[.agg #[.int .i64 b, .slice p1 n1 k1], .agg #[.int .i64 b2, .slice p2 n2 k2]] wA fun e w' => e = .returned (.bool q) ∧ Below wA.heap.size wA w') := HF2
  have HJJ : Hid ((q = false → je = 11) ∧ (q = true → 128 < szC (topC X) → je = 3) ∧ (q = true → ¬ 128 < szC (topC X) → je = 0)) := ⟨j1, j2, j3⟩
  clear hBA d1 d2 d3 r1 r2 t1 t2 hs1 hs2 hg1 hg2 hn1 hn2 hl1 hl2 hYO hmp hX hfo hsz hso2 hso hb hjb hje hjt HJ HFI HF2 j1 j2 j3 hq
  cases q with
  | false =>
    have e1 : je = 11 := HJJ.out.1 rfl
    subst e1
    have e2 : jb = 0 := HJB.out
    subst e2
    have e3 : jt = [] := HJT.out
    subst e3
    clear HJB HJT HJJ
    go_enter Tryz.func20, Tryz.ntmps20
    go_wp2_with fail
    refine HFF.out.mono ?_
    rintro e W1 ⟨rfl, hb1⟩
    obtain ⟨-, -, k3, -, -, hB1⟩ := HD.out W1 hb1
    obtain ⟨hc3, hf3⟩ := cells_block k3
    have HP : Hid (((W1.setCell ⟨w.heap.size + 1 + 1, 0, none⟩ (.int .i64 0)).setCell ⟨w.heap.size + 1 + 1, 1, none⟩ (.slice none 0 0)).heap[w.heap.size + 1 + 1]? = some (.cells #[.int .i64 0, .slice none 0 0] 27 (0, 0)) ∧ Below w.heap.size w ((W1.setCell ⟨w.heap.size + 1 + 1, 0, none⟩ (.int .i64 0)).setCell ⟨w.heap.size + 1 + 1, 1, none⟩ (.slice none 0 0))) := ⟨set2_get _ _ k3, (hB1.setCell (by simp; omega) _).setCell (by simp; omega) _⟩
    clear hc1 hc2 k3 hwA hb1 hB1
    go_wp2_with fail
    refine bodyPost_ret (v := .tuple #[.agg #[.int .i64 0, .slice none 0 0], .int .i64 11]) (res_rs2 _ _ (w.heap.size + 1 + 1) _ _ Tryz.results20 rfl HP.out.1) rfl ?_
    exact ⟨_, rfl, RSR_nil _, HP.out.2⟩
  | true =>
    go_enter Tryz.func20, Tryz.ntmps20
    go_wp2_with fail
    refine HFF.out.mono ?_
    rintro e W1 ⟨rfl, hb1⟩
    obtain ⟨g1, g2, -, i1, -, -⟩ := HD.out W1 hb1
    have hc3 := (cells_block g1).1
    have hc4 := (cells_block g2).1
    have hbs := hb1.size
    have HB1 : Hid (Below wA.heap.size wA W1) := hb1
    clear hc1 hc2 hwA hb1 g1 g2
    go_wp2_with (at_builtin; refine app_rt rfl _ _ rfl wA.heap.size (.slice none 0 0) 0 [] rfl (World.ownsRow_nil _ _ _ _) p1 n1 k1 Z1 rfl HN.out.1 i1 (by have := HN.out.2.2; omega) hbs ?_)
    intro v8 w8 o8 g8
    have hB8 : Below wA.heap.size wA w8 := app_belC HB1.out (World.ownsRow_nil _ wA.heap.size 80 2) g8
    obtain ⟨pv, cv, rfl⟩ := shapeQ1 o8
    have O8 : Hid (w8.ownsRow wA.heap.size 80 2 (.slice pv n1 cv) n1 (rts Z1)) := o8
    obtain ⟨g1, g2, -, -, i2, -⟩ := HD.out w8 hB8
    have hc5 := (cells_block g1).1
    have hc6 := (cells_block g2).1
    have hbs8 := hB8.size
    clear hc3 hc4 o8 g8 g1 g2 hbs i1
    have HB8 : Hid (Below wA.heap.size wA w8) := hB8
    clear hB8
    go_wp2_with (at_builtin; refine app_rt rfl _ _ rfl wA.heap.size (.slice pv n1 cv) n1 (rts Z1) rfl O8.out p2 n2 k2 Z2 rfl HN.out.2.1 i2 (by have := HN.out.2.2; omega) hbs8 ?_)
    intro v9 w9 o9 g9
    have hB9 : Below wA.heap.size wA w9 := app_belC HB8.out O8.out g9
    obtain ⟨pw, cw, rfl⟩ := shapeQ1 o9
    have O9 : Hid (w9.ownsRow wA.heap.size 80 2 (.slice pw (n1 + n2) cw) (n1 + n2) (rts (Z1 ++ Z2))) := by
      have e : rts (Z1 ++ Z2) = rts Z1 ++ rts Z2 := by simp [rts]
      unfold Hid
      rw [e]
      exact o9
    obtain ⟨g1, -, -, -, -, -⟩ := HD.out w9 hB9
    have hc7 := (cells_block g1).1
    have HB9 : Hid (Below wA.heap.size wA w9) := hB9
    clear hc5 hc6 o9 g9 g1 hbs8 i2 hB9 O8 HB8 HB1
    go_wp2_with fail
    refine (HFO.out w9 pw cw _ HB9.out O9.out).mono ?_
    rintro e w10 ⟨V10, rfl, s10, hb10⟩
    obtain ⟨p8, c8, rfl⟩ := s10.shape
    obtain ⟨n8, hn8⟩ : ∃ n, (ordT (topC X)).length = n := ⟨_, rfl⟩
    rw [hn8] at s10 ⊢
    have HS10 : Hid (RSR w10 (.slice p8 n8 c8) (ordT (topC X)) ∧ Below wA.heap.size wA w10) := ⟨s10, bel0 HB9.out hb10⟩
    clear s10 hb10 hc7 O9 HB9
    go_wp2_with fail
    refine (HBO.out w10 _ HS10.out.1).mono ?_
    rintro e w11 ⟨⟨hgt, rfl⟩ | ⟨hle, rfl⟩, hb11⟩
    · have e1 : je = 3 := HJJ.out.2.1 (by first | rfl | trivial) hgt
      subst e1
      have e2 : jb = 0 := HJB.out
      subst e2
      have e3 : jt = [] := HJT.out
      subst e3
      obtain ⟨-, -, k3, -, -, hB1⟩ := HD.out w11 (bel0 HS10.out.2 hb11)
      obtain ⟨hc3, hf3⟩ := cells_block k3
      have HP : Hid (((w11.setCell ⟨w.heap.size + 1 + 1, 0, none⟩ (.int .i64 0)).setCell ⟨w.heap.size + 1 + 1, 1, none⟩ (.slice none 0 0)).heap[w.heap.size + 1 + 1]? = some (.cells #[.int .i64 0, .slice none 0 0] 27 (0, 0)) ∧ Below w.heap.size w ((w11.setCell ⟨w.heap.size + 1 + 1, 0, none⟩ (.int .i64 0)).setCell ⟨w.heap.size + 1 + 1, 1, none⟩ (.slice none 0 0))) := ⟨set2_get _ _ k3, (hB1.setCell (by simp; omega) _).setCell (by simp; omega) _⟩
      clear k3 hb11 hB1 hgt HJJ HJB HJT
      go_wp2_with fail
      refine bodyPost_ret (v := .tuple #[.agg #[.int .i64 0, .slice none 0 0], .int .i64 3]) (res_rs2 _ _ (w.heap.size + 1 + 1) _ _ Tryz.results20 rfl HP.out.1) rfl ?_
      exact ⟨_, rfl, RSR_nil _, HP.out.2⟩
    · have e1 : je = 0 := HJJ.out.2.2 (by first | rfl | trivial) hle
      subst e1
      have e2 : jb = b := HJB.out
      subst e2
      have e3 : jt = ordT (topC X) := HJT.out
      subst e3
      obtain ⟨-, -, k3, -, -, hB1⟩ := HD.out w11 (bel0 HS10.out.2 hb11)
      obtain ⟨hc3, hf3⟩ := cells_block k3
      have HP : Hid (((w11.setCell ⟨w.heap.size + 1 + 1, 0, none⟩ (.int .i64 jb)).setCell ⟨w.heap.size + 1 + 1, 1, none⟩ (.slice p8 n8 c8)).heap[w.heap.size + 1 + 1]? = some (.cells #[.int .i64 jb, .slice p8 n8 c8] 27 (0, 0)) ∧ RSR ((w11.setCell ⟨w.heap.size + 1 + 1, 0, none⟩ (.int .i64 jb)).setCell ⟨w.heap.size + 1 + 1, 1, none⟩ (.slice p8 n8 c8)) (.slice p8 n8 c8) (ordT (topC X)) ∧ Below w.heap.size w ((w11.setCell ⟨w.heap.size + 1 + 1, 0, none⟩ (.int .i64 jb)).setCell ⟨w.heap.size + 1 + 1, 1, none⟩ (.slice p8 n8 c8))) := ⟨set2_get _ _ k3, (HS10.out.1.later hb11).kept (gr2 _ _ _ _) (no_str2 k3), (hB1.setCell (by simp; omega) _).setCell (by simp; omega) _⟩
      clear k3 hb11 hB1 hle HJJ HJB HJT
      go_wp2_with fail
      refine bodyPost_ret (v := .tuple #[.agg #[.int .i64 jb, .slice p8 n8 c8], .int .i64 0]) (res_rs2 _ _ (w.heap.size + 1 + 1) _ _ Tryz.results20 rfl HP.out.1) rfl ?_
      exact ⟨_, rfl, HP.out.2⟩
end Go.Proofs.YtkcbkeimbpopcaaGreatDoor
namespace Go.Proofs.YtkcbkeimbpopcaaGreatDoor
open Go.RowKit

/-- place k of a header suits a cube's -/
def okH (t h : List UInt8) (k : Nat) : Bool := match t[k]?, h[k]? with | some x, some d => (d == 48 || d == 49) && (x == 120 || x == d) | _, _ => true
/-- P1.4 -/
def hasB (t h : List UInt8) : Bool := !t.isEmpty && (t.length == h.length) && allTo (okH t h) t.length

theorem byteH_bne (x : UInt8) (n : Nat) (hn : n < 256) : ((x.toNat : Int) != (n : Int)) = !(x == UInt8.ofNat n) := by
  unfold bne
  congr 1
  rw [Bool.eq_iff_iff, beq_iff_eq, beq_iff_eq]
  constructor
  · intro e
    have : x.toNat = n := by omega
    rw [← this]; simp
  · intro e; subst e
    simp [UInt8.toNat_ofNat', Nat.mod_eq_of_lt hn]

theorem byteH_bne2 (x y : UInt8) : ((x.toNat : Int) != (y.toNat : Int)) = !(x == y) := by
  unfold bne
  congr 1
  rw [Bool.eq_iff_iff, beq_iff_eq, beq_iff_eq]
  constructor
  · intro e; exact UInt8.toNat_inj.1 (by omega)
  · intro e; subst e; rfl

theorem okH_eq (t : List UInt8) (s : ByteArray) (k : Nat) (hk : k < t.length) (hks : k < s.size) (p1 p2 p3 p4 : Bool) (n1 : ((s[k].toNat : Int) != 48) = p1) (n2 : ((s[k].toNat : Int) != 49) = p2) (n3 : ((t[k].toNat : Int) != 120) = p3) (n4 : ((t[k].toNat : Int) != (s[k].toNat : Int)) = p4) :
    okH t s.data.toList k = !((p1 && p2) || (p3 && p4)) := by
  have e1 := byteH_bne s[k] 48 (by decide)
  have e2 := byteH_bne s[k] 49 (by decide)
  have e3 := byteH_bne t[k] 120 (by decide)
  have e4 := byteH_bne2 t[k] s[k]
  have hs : s.data.toList[k]? = some s[k] := by rw [List.getElem?_eq_getElem (by simpa using hks)]; rfl
  simp only [okH, hs, List.getElem?_eq_getElem hk]
  subst n1 n2 n3 n4
  have f1 : ((s[k].toNat : Int) != 48) = !(s[k] == 48) := e1
  have f2 : ((s[k].toNat : Int) != 49) = !(s[k] == 49) := e2
  have f3 : ((t[k].toNat : Int) != 120) = !(t[k] == 120) := e3
  rw [f1, f2, f3, e4]
  cases (s[k] == 48) <;> cases (s[k] == 49) <;> cases (t[k] == 120) <;> cases (t[k] == s[k]) <;> rfl

set_option maxHeartbeats 400000 in
theorem has_off (t : List UInt8) (s : ByteArray) (w : World) (hs : s.size ≤ maxLen) (h : t.length = 0 ∨ s.size ≠ t.length) :
    Calls Tryz.prog 76 #[cubeV t, .string s] w fun e w' => e = .returned (.bool false) ∧ Below w.heap.size w w' := by
  unfold maxLen at hs
  unfold cubeV cv
  by_cases h0 : t.length = 0
  · have b0 : ((t.length : Int) == 0) = true := by rw [h0]; rfl
    clear h h0
    go_enter Tryz.func76, Tryz.ntmps76
    go_wp2
    go_ret
    exact ⟨rfl, (Below.refl _ _).alloc (Nat.le_refl _) _⟩
  · have b0 : ((t.length : Int) == 0) = false := by simp; intro e; subst e; simp at h0
    have b1 : ((s.size : Int) != (t.length : Int)) = true := by simp; omega
    clear h h0
    go_enter Tryz.func76, Tryz.ntmps76
    go_wp2
    go_ret
    exact ⟨rfl, (Below.refl _ _).alloc (Nat.le_refl _) _⟩

theorem okH_succ {p : Nat → Bool} {k : Nat} {q : Bool} (h : ∀ j, j < k → p j = true) (hk : p k = q) (hq : q = true := by rfl) : ∀ j, j < k + 1 → p j = true := by
  intro j hj
  by_cases e : j = k
  · subst e; rw [hk, hq]
  · exact h j (by omega)

set_option maxHeartbeats 2000000 in
theorem has_loop (t : List UInt8) (s : ByteArray) (w : World) (hg : good t = true) (h0 : 1 ≤ t.length) (hsz : s.size = t.length) :
    Calls Tryz.prog 76 #[cubeV t, .string s] w fun e w' => e = .returned (.bool (allTo (okH t s.data.toList) t.length)) ∧ Below w.heap.size w w' := by
  have hl := good_len hg
  have HS : Hid (s.size = t.length) := hsz
  have b0 : ((t.length : Int) == 0) = false := by simp; intro e; subst e; simp at h0
  have b1 : ((s.size : Int) != (t.length : Int)) = false := by simp [hsz]
  clear hsz
  unfold cubeV cv
  go_enter Tryz.func76, Tryz.ntmps76
  go_wp2
  clear b0 b1
  go_loopw [20] (fun i wr => ∃ k : Nat, k ≤ t.length ∧ i = .int .i64 k ∧ Hid (∀ j, j < k → okH t s.data.toList j = true) ∧ Below (w.heap.size + 1) (w.alloc (.cells #[.int .i64 (t.length : Int), .int .u64 (FW t 0 : Int), .int .u64 (FW t 1 : Int), .int .u64 (FW t 2 : Int), .int .u64 (FW t 3 : Int), .int .u64 (OW t 0 : Int), .int .u64 (OW t 1 : Int), .int .u64 (OW t 2 : Int), .int .u64 (OW t 3 : Int)] 54)) wr) (fun i _ => t.length - (intOf i).toNat)
  case atStart => exact ⟨0, Nat.zero_le _, rfl, fun j h => by omega, Below.refl _ _⟩
  case round =>
    obtain ⟨k, hk, rfl, hok, hB⟩ := hrel
    have hsz1 : w.heap.size + 1 ≤ wr.heap.size := by have := hB.size; simpa using this
    by_cases hlt : k < t.length
    · have hc : ∀ b o, b < w.heap.size + 1 → wr.cell? ⟨b, o, none⟩ = (w.alloc (.cells #[.int .i64 (t.length : Int), .int .u64 (FW t 0 : Int), .int .u64 (FW t 1 : Int), .int .u64 (FW t 2 : Int), .int .u64 (FW t 3 : Int), .int .u64 (OW t 0 : Int), .int .u64 (OW t 1 : Int), .int .u64 (OW t 2 : Int), .int .u64 (OW t 3 : Int)] 54)).cell? ⟨b, o, none⟩ := fun b o h => hB.cell (p := ⟨b, o, none⟩) h
      have hks : k < s.size := by rw [HS.out]; exact hlt
      have i0 : (0 : Int) ≤ (k : Int) := by omega
      have i1 : (k : Int) < (s.size : Int) := by omega
      obtain ⟨p1, n1⟩ : ∃ p, ((s[k].toNat : Int) != 48) = p := ⟨_, rfl⟩
      obtain ⟨p2, n2⟩ : ∃ p, ((s[k].toNat : Int) != 49) = p := ⟨_, rfl⟩
      obtain ⟨p3, n3⟩ : ∃ p, ((t[k].toNat : Int) != 120) = p := ⟨_, rfl⟩
      obtain ⟨p4, n4⟩ : ∃ p, ((t[k].toNat : Int) != (s[k].toNat : Int)) = p := ⟨_, rfl⟩
      have hH : Hid (okH t s.data.toList k = !((p1 && p2) || (p3 && p4))) := okH_eq t s k hlt hks p1 p2 p3 p4 n1 n2 n3 n4
      go_wp2
      have hS : ∀ j, wr.cell? ⟨w.heap.size, j, none⟩ = (#[.int .i64 (t.length : Int), .int .u64 (FW t 0 : Int), .int .u64 (FW t 1 : Int), .int .u64 (FW t 2 : Int), .int .u64 (FW t 3 : Int), .int .u64 (OW t 0 : Int), .int .u64 (OW t 1 : Int), .int .u64 (OW t 2 : Int), .int .u64 (OW t 3 : Int)] : Array Value)[j]? := fun j => by rw [hc _ _ (by omega)]; simp
      go_region_held3 (fun W => ∀ j, W.cell? ⟨w.heap.size, j, none⟩ = (#[.int .i64 (t.length : Int), .int .u64 (FW t 0 : Int), .int .u64 (FW t 1 : Int), .int .u64 (FW t 2 : Int), .int .u64 (FW t 3 : Int), .int .u64 (OW t 0 : Int), .int .u64 (OW t 1 : Int), .int .u64 (OW t 2 : Int), .int .u64 (OW t 3 : Int)] : Array Value)[j]?) (first | exact hS | (intro j; exact (hb2.cell (p := ⟨w.heap.size, j, none⟩) (by simp; omega)).trans (hS j))) (first | (go_at_call 75; refine (at_any t _ k _ hg rfl hlt).mono ?_; rintro e w2 ⟨rfl, hb2⟩))
      all_goals
        have hB2 := hB.trans ((undrew hb2).mono hsz1)
        clear hS hc hb2 hB
        cases p1 <;> cases p2 <;> cases p3 <;> cases p4
        all_goals
          go_wp2
          first
            | (have hF : okH t s.data.toList k = false := hH.out
               have hF2 := allTo_false (n := t.length) k hlt hF
               go_ret
               refine ⟨?_, ((Below.refl _ _).alloc (Nat.le_refl _) _).trans (hB2.mono (by omega))⟩
               rw [hF2]
               rfl)
            | (have hF : okH t s.data.toList k = true := hH.out
               have hF2 := okH_succ hok.out hF
               go_roundw
               case rel => exact ⟨k + 1, by omega, by go_num, hF2, hB2⟩
               case measure => simp [intOf]; omega)
    · have hkn : k = t.length := by omega
      have hA : Hid (allTo (okH t s.data.toList) t.length = true) := (allTo_iff _ _).2 (fun j hj => hok.out j (by omega))
      clear hok
      go_wp2
      go_ret
      exact ⟨by rw [hA.out]; rfl, ((Below.refl _ _).alloc (Nat.le_refl _) _).trans (hB.mono (by omega))⟩

theorem has_any (t : List UInt8) (s : ByteArray) (w : World) (hg : good t = true) (hs : s.size ≤ maxLen) :
    Calls Tryz.prog 76 #[cubeV t, .string s] w fun e w' => e = .returned (.bool (hasB t s.data.toList)) ∧ Below w.heap.size w w' := by
  have hlen : s.data.toList.length = s.size := by simp
  unfold hasB
  by_cases h : t.length = 0 ∨ s.size ≠ t.length
  · have e : (!t.isEmpty && (t.length == s.data.toList.length)) = false := by
      rw [hlen]
      rcases h with h | h
      · have : t = [] := List.eq_nil_of_length_eq_zero h
        subst this; rfl
      · have : (t.length == s.size) = false := by simp; omega
        rw [this]; simp
    rw [e]
    exact has_off t s w hs h
  · have e : (!t.isEmpty && (t.length == s.data.toList.length)) = true := by
      rw [hlen]
      cases t with
      | nil => simp at h
      | cons x l => simp at h ⊢; omega
    rw [e, Bool.true_and]
    exact has_loop t s w hg (by omega) (by omega)
theorem has_D (t : List UInt8) (s : ByteArray) (q : Bool) (w : World) (hg : good t = true) (hs : s.size ≤ maxLen) (h : hasB t s.data.toList = q) :
    Calls Tryz.prog 76 #[cubeV t, .string s] w fun e w' => e = .returned (.bool q) ∧ Below w.heap.size w w' := by
  subst h; exact has_any t s w hg hs
end Go.Proofs.YtkcbkeimbpopcaaGreatDoor
