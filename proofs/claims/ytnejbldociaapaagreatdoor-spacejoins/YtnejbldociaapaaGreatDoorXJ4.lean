import Derived.Test.YtnejbldociaapaaGreatDoorXJ3
import Derived.Test.YtnejbldociaapaaGreatDoorXH6
namespace Go.Proofs.YtnejbldociaapaaGreatDoor
open Go.RowKit Go.Shelf
theorem app_rt {ops : Array Oper} {rest : List Oper} {o : Oper} {a : Act} {Q : Exit → Act → World → Prop} {w : World} (hgd : o.guard = none) (s x : Operand)
    (ho : o.op = .call { callee := .builtin .append, args := #[s, x], argTypes := #[25, 25] }) (base : Nat) (v : Value) (m : Nat) (xs : List Value) (hs : a.eval s = v) (hown : w.ownsRow base 75 2 v m xs)
    (p : Option Addr) (n k : Nat) (Z : List ZT) (hx : a.eval x = .slice p n k) (hZ : Z.length = n) (hr : IRR w p Z) (hm : m + n ≤ 100000) (hbase : base ≤ w.heap.size)
    (h : ∀ v' w', w'.ownsRow base 75 2 v' (m + n) (xs ++ rts Z) → w.grownBy w' v.ownBlock → wpList Tryz.prog ops Q rest (a.put o.dst v') w') : wpList Tryz.prog ops Q (o :: rest) a w := by
  obtain ⟨iT, hiT, hzT0, hzT1, hzT2⟩ := info_parts info_rtm
  cases p with
  | none =>
    have hz : Z = [] := by
      cases hc : Z with
      | nil => rfl
      | cons z l =>
        obtain ⟨g, o0, e, -⟩ := hr w (Below.refl _ _) 0 z (by rw [hc]; rfl)
        cases e
    subst hz
    have hn : n = 0 := hZ.symm
    subst hn
    refine app_none0 hgd s x 25 ho base 75 iT 2 Tryz.underlying25 hiT v m k xs hs hown hx (h v w ?_ ⟨rfl, rfl, rfl, Nat.le_refl _, fun _ _ _ => rfl⟩)
    have e : xs ++ rts [] = xs := by simp [rts]
    rw [e]
    exact hown
  | some ad =>
    exact wpList_append_own _ hgd s x 25 ho base 75 iT _ 2 40 Tryz.underlying25 hiT hzT0 hzT1 hzT2 rfl (by decide) v m xs hs hown ad n k (rts Z) hx (by rw [rts_len, hZ]) (rts_news hr) (rts_one Z) (by unfold maxLen; omega) (by omega) hbase (fun v' w' h1 h2 _ => h v' w' h1 h2)
set_option maxRecDepth 100000 in
set_option maxHeartbeats 4000000 in
theorem dJoin_any (b b2 : Int) (A C : List (List UInt8 × List (List UInt8))) (V1 V2 : Value) (w : World) (h1 : RSR w V1 A) (h2 : RSR w V2 C) (hs1 : szC A ≤ 128) (hs2 : szC C ≤ 128) (hg1 : gdC A) (hg2 : gdC C) (hb : 0 ≤ b) (hso : ∀ t ∈ A ++ C, t.2.Pairwise (fun a b => leB a b = true)) :
    Calls Tryz.prog 17 #[.agg #[.int .i64 b, V1], .agg #[.int .i64 b2, V2]] w fun e w' => ∃ V, e = .returned (.tuple #[.agg #[.int .i64 (jnB b b2 A C), V], .int .i64 (jnE b b2 A C)]) ∧ RSR w' V (jnT b b2 A C) ∧ Below w.heap.size w w' := by
  have hfo := frm_ord hso
  have hsz : szC (topC (A ++ C)) ≤ 256 := by
    have h := szC_topF (A ++ C) []
    have h' := szC_append A C
    have e : szC (topC (A ++ C)) ≤ szC [] + szC (A ++ C) := h
    have e0 : szC ([] : List (List UInt8 × List (List UInt8))) = 0 := rfl
    omega
  have hso2 := szC_ord (topC (A ++ C))
  have hl1 := szC_len A
  have hl2 := szC_len C
  obtain ⟨Z1, p1, k1, rfl, rfl, r1, t1⟩ := h1
  obtain ⟨Z2, p2, k2, rfl, rfl, r2, t2⟩ := h2
  rw [List.length_map] at hl1 hl2
  obtain ⟨n1, hn1⟩ : ∃ n, Z1.length = n := ⟨_, rfl⟩
  obtain ⟨n2, hn2⟩ : ∃ n, Z2.length = n := ⟨_, rfl⟩
  rw [hn1] at hl1 ⊢
  rw [hn2] at hl2 ⊢
  have hYO : ∀ W, Below w.heap.size w W → ∀ z ∈ Z1 ++ Z2, YOK W z := fun W hW z hz => by
    rcases List.mem_append.1 hz with hz | hz
    · have hm := szC_mem z.cont (List.mem_map_of_mem (f := ZT.cont) hz)
      have e : z.cont.2 = z.L := rfl
      rw [e] at hm
      exact ⟨(t1 z hz).later hW, by omega, hg1 z.cont (List.mem_map_of_mem (f := ZT.cont) hz)⟩
    · have hm := szC_mem z.cont (List.mem_map_of_mem (f := ZT.cont) hz)
      have e : z.cont.2 = z.L := rfl
      rw [e] at hm
      exact ⟨(t2 z hz).later hW, by omega, hg2 z.cont (List.mem_map_of_mem (f := ZT.cont) hz)⟩
  obtain ⟨X, hX⟩ : ∃ X, Z1.map ZT.cont ++ Z2.map ZT.cont = X := ⟨_, rfl⟩
  have hmp : (Z1 ++ Z2).map ZT.cont = X := by rw [List.map_append, hX]
  have HJ : Hid (∀ q, (!(b == 0) && (b == b2)) = q → (q = false → jnE b b2 (Z1.map ZT.cont) (Z2.map ZT.cont) = 11) ∧ (q = true → 128 < szC (topC X) → jnE b b2 (Z1.map ZT.cont) (Z2.map ZT.cont) = 3) ∧ (q = true → ¬ 128 < szC (topC X) → jnE b b2 (Z1.map ZT.cont) (Z2.map ZT.cont) = 0)) := fun q hq => by
    refine ⟨fun h => ?_, fun h h' => ?_, fun h h' => ?_⟩
    · unfold jnE; rw [if_pos (hq.trans h)]
    · unfold jnE; rw [if_neg (by rw [hq, h]; simp), hX, if_neg (by omega)]
    · unfold jnE; rw [if_neg (by rw [hq, h]; simp), hX, if_pos (by omega)]
  have HJB : Hid (jnB b b2 (Z1.map ZT.cont) (Z2.map ZT.cont) = if jnE b b2 (Z1.map ZT.cont) (Z2.map ZT.cont) = 0 then b else 0) := rfl
  have HJT : Hid (jnT b b2 (Z1.map ZT.cont) (Z2.map ZT.cont) = if jnE b b2 (Z1.map ZT.cont) (Z2.map ZT.cont) = 0 then ordT (topC X) else []) := by unfold Hid jnT; rw [hX]
  rw [hX] at hfo hsz hso2
  obtain ⟨jb, hjb⟩ : ∃ j, jnB b b2 (Z1.map ZT.cont) (Z2.map ZT.cont) = j := ⟨_, rfl⟩
  obtain ⟨je, hje⟩ : ∃ j, jnE b b2 (Z1.map ZT.cont) (Z2.map ZT.cont) = j := ⟨_, rfl⟩
  obtain ⟨jt, hjt⟩ : ∃ j, jnT b b2 (Z1.map ZT.cont) (Z2.map ZT.cont) = j := ⟨_, rfl⟩
  rw [hje] at HJ HJB HJT
  rw [hjb] at HJB
  rw [hjt] at HJT
  rw [hjb, hje, hjt]
  obtain ⟨wA, hwA⟩ : ∃ wA, (((w.alloc (.cells #[.int .i64 b, .slice p1 n1 k1] 27 (0, 0))).alloc (.cells #[.int .i64 b2, .slice p2 n2 k2] 27 (0, 0))).alloc (.cells #[.int .i64 0, .slice none 0 0] 27 (0, 0))) = wA := ⟨_, rfl⟩
  have hBA : Below w.heap.size w wA := by rw [← hwA]; exact belA (belA (belA (Below.refl _ _) _) _) _
  have d1 : wA.heap[w.heap.size]? = some (.cells #[.int .i64 b, .slice p1 n1 k1] 27 (0, 0)) := by rw [← hwA, Below.heap_alloc _ _ _ (by simp <;> omega)]; exact alw_0 _ _ _
  have d2 : wA.heap[w.heap.size + 1]? = some (.cells #[.int .i64 b2, .slice p2 n2 k2] 27 (0, 0)) := by rw [← hwA, Below.heap_alloc _ _ _ (by simp <;> omega)]; exact alw_1 _ _ _
  have d3 : wA.heap[w.heap.size + 1 + 1]? = some (.cells #[.int .i64 0, .slice none 0 0] 27 (0, 0)) := by rw [← hwA]; have := alloc_get ((w.alloc (.cells #[.int .i64 b, .slice p1 n1 k1] 27 (0, 0))).alloc (.cells #[.int .i64 b2, .slice p2 n2 k2] 27 (0, 0))) (.cells #[.int .i64 0, .slice none 0 0] 27 (0, 0)); simpa using this
  have HD : Hid (∀ W, Below wA.heap.size wA W → W.heap[w.heap.size]? = some (.cells #[.int .i64 b, .slice p1 n1 k1] 27 (0, 0)) ∧ W.heap[w.heap.size + 1]? = some (.cells #[.int .i64 b2, .slice p2 n2 k2] 27 (0, 0)) ∧ W.heap[w.heap.size + 1 + 1]? = some (.cells #[.int .i64 0, .slice none 0 0] 27 (0, 0)) ∧ IRR W p1 Z1 ∧ IRR W p2 Z2 ∧ Below w.heap.size w W) := fun W hW => ⟨keepblk3 hW d1, keepblk3 hW d2, keepblk3 hW d3, r1.later (bel0 hBA hW), r2.later (bel0 hBA hW), bel0 hBA hW⟩
  obtain ⟨hc1, -⟩ := cells_block d1
  obtain ⟨hc2, -⟩ := cells_block d2
  have HN : Hid (Z1.length = n1 ∧ Z2.length = n2 ∧ n1 ≤ 128 ∧ n2 ≤ 128) := ⟨hn1, hn2, by omega, by omega⟩
  have HFI : Hid (∀ q, (!(b == 0) && (b == b2)) = q → Calls Tryz.prog 39 #[.agg #[.int .i64 b, .slice p1 n1 k1], .agg #[.int .i64 b2, .slice p2 n2 k2]] wA fun e w' => e = .returned (.bool q) ∧ Below wA.heap.size wA w') := fun q hq => by
    rw [← hq]
    exact dfit_any b b2 p1 p2 n1 n2 k1 k2 wA hb
  have HFO : Hid (∀ (W : World) (p : Option Addr) (c B : Nat), Below wA.heap.size wA W → W.ownsRow B 75 2 (.slice p (n1 + n2) c) (n1 + n2) (rts (Z1 ++ Z2)) → Calls Tryz.prog 41 #[.int .i64 b, .slice p (n1 + n2) c] W fun e w' => ∃ V, e = .returned (.agg #[.int .i64 b, V]) ∧ RSR w' V (ordT (topC X)) ∧ Below W.heap.size W w') := fun W p c B hW ho => by
    have h := dform_any b (Z1 ++ Z2) (n1 + n2) p c W (by rw [List.length_append, hn1, hn2]) (by omega) (IRR_own ho (by rw [List.length_append, hn1, hn2])) (hYO W (bel0 hBA hW))
    rw [hmp, hfo] at h
    exact h
  have HBO : Hid (∀ (W : World) (V : Value), RSR W V (ordT (topC X)) → Calls Tryz.prog 40 #[.agg #[.int .i64 b, V]] W fun e w' => ((128 < szC (topC X) ∧ e = .returned (.tuple #[.agg #[.int .i64 0, .slice none 0 0], .int .i64 3])) ∨ (¬ 128 < szC (topC X) ∧ e = .returned (.tuple #[.agg #[.int .i64 b, V], .int .i64 0]))) ∧ Below W.heap.size W w') := fun W V h => by
    have h' := dbound2 b V (ordT (topC X)) W h (by omega)
    rw [hso2] at h'
    exact h'
  obtain ⟨q, hq⟩ : ∃ q, (!(b == 0) && (b == b2)) = q := ⟨_, rfl⟩
  have HF2 := HFI.out q hq
  obtain ⟨j1, j2, j3⟩ := HJ.out q hq
  have HFF : Hid (Calls Tryz.prog 39 #[.agg #[.int .i64 b, .slice p1 n1 k1], .agg #[.int .i64 b2, .slice p2 n2 k2]] wA fun e w' => e = .returned (.bool q) ∧ Below wA.heap.size wA w') := HF2
  have HJJ : Hid ((q = false → je = 11) ∧ (q = true → 128 < szC (topC X) → je = 3) ∧ (q = true → ¬ 128 < szC (topC X) → je = 0)) := ⟨j1, j2, j3⟩
  clear hBA d1 d2 d3 r1 r2 t1 t2 hs1 hs2 hg1 hg2 hn1 hn2 hl1 hl2 hYO hmp hX hfo hsz hso2 hso hb hjb hje hjt HJ HFI HF2 j1 j2 j3 hq
  cases q with
  | false =>
    have e1 : je = 11 := HJJ.out.1 rfl
    subst e1
    have e2 : jb = 0 := HJB.out
    subst e2
    have e3 : jt = [] := HJT.out
    subst e3
    clear HJB HJT HJJ
    go_enter Tryz.func17, Tryz.ntmps17
    go_wp2_with fail
    refine HFF.out.mono ?_
    rintro e W1 ⟨rfl, hb1⟩
    obtain ⟨-, -, k3, -, -, hB1⟩ := HD.out W1 hb1
    obtain ⟨hc3, hf3⟩ := cells_block k3
    have HP : Hid (((W1.setCell ⟨w.heap.size + 1 + 1, 0, none⟩ (.int .i64 0)).setCell ⟨w.heap.size + 1 + 1, 1, none⟩ (.slice none 0 0)).heap[w.heap.size + 1 + 1]? = some (.cells #[.int .i64 0, .slice none 0 0] 27 (0, 0)) ∧ Below w.heap.size w ((W1.setCell ⟨w.heap.size + 1 + 1, 0, none⟩ (.int .i64 0)).setCell ⟨w.heap.size + 1 + 1, 1, none⟩ (.slice none 0 0))) := ⟨set2_get _ _ k3, (hB1.setCell (by simp; omega) _).setCell (by simp; omega) _⟩
    clear hc1 hc2 k3 hwA hb1 hB1
    go_wp2_with fail
    refine bodyPost_ret (v := .tuple #[.agg #[.int .i64 0, .slice none 0 0], .int .i64 11]) (res_rs2 _ _ (w.heap.size + 1 + 1) _ _ Tryz.results17 rfl HP.out.1) rfl ?_
    exact ⟨_, rfl, RSR_nil _, HP.out.2⟩
  | true =>
    go_enter Tryz.func17, Tryz.ntmps17
    go_wp2_with fail
    refine HFF.out.mono ?_
    rintro e W1 ⟨rfl, hb1⟩
    obtain ⟨g1, g2, -, i1, -, -⟩ := HD.out W1 hb1
    have hc3 := (cells_block g1).1
    have hc4 := (cells_block g2).1
    have hbs := hb1.size
    have HB1 : Hid (Below wA.heap.size wA W1) := hb1
    clear hc1 hc2 hwA hb1 g1 g2
    go_wp2_with (at_builtin; refine app_rt rfl _ _ rfl wA.heap.size (.slice none 0 0) 0 [] rfl (World.ownsRow_nil _ _ _ _) p1 n1 k1 Z1 rfl HN.out.1 i1 (by have := HN.out.2.2; omega) hbs ?_)
    intro v8 w8 o8 g8
    have hB8 : Below wA.heap.size wA w8 := app_belC HB1.out (World.ownsRow_nil _ wA.heap.size 75 2) g8
    obtain ⟨pv, cv, rfl⟩ := shapeQ1 o8
    have O8 : Hid (w8.ownsRow wA.heap.size 75 2 (.slice pv n1 cv) n1 (rts Z1)) := o8
    obtain ⟨g1, g2, -, -, i2, -⟩ := HD.out w8 hB8
    have hc5 := (cells_block g1).1
    have hc6 := (cells_block g2).1
    have hbs8 := hB8.size
    clear hc3 hc4 o8 g8 g1 g2 hbs i1
    have HB8 : Hid (Below wA.heap.size wA w8) := hB8
    clear hB8
    go_wp2_with (at_builtin; refine app_rt rfl _ _ rfl wA.heap.size (.slice pv n1 cv) n1 (rts Z1) rfl O8.out p2 n2 k2 Z2 rfl HN.out.2.1 i2 (by have := HN.out.2.2; omega) hbs8 ?_)
    intro v9 w9 o9 g9
    have hB9 : Below wA.heap.size wA w9 := app_belC HB8.out O8.out g9
    obtain ⟨pw, cw, rfl⟩ := shapeQ1 o9
    have O9 : Hid (w9.ownsRow wA.heap.size 75 2 (.slice pw (n1 + n2) cw) (n1 + n2) (rts (Z1 ++ Z2))) := by
      have e : rts (Z1 ++ Z2) = rts Z1 ++ rts Z2 := by simp [rts]
      unfold Hid
      rw [e]
      exact o9
    obtain ⟨g1, -, -, -, -, -⟩ := HD.out w9 hB9
    have hc7 := (cells_block g1).1
    have HB9 : Hid (Below wA.heap.size wA w9) := hB9
    clear hc5 hc6 o9 g9 g1 hbs8 i2 hB9 O8 HB8 HB1
    go_wp2_with fail
    refine (HFO.out w9 pw cw _ HB9.out O9.out).mono ?_
    rintro e w10 ⟨V10, rfl, s10, hb10⟩
    obtain ⟨p8, c8, rfl⟩ := s10.shape
    obtain ⟨n8, hn8⟩ : ∃ n, (ordT (topC X)).length = n := ⟨_, rfl⟩
    rw [hn8] at s10 ⊢
    have HS10 : Hid (RSR w10 (.slice p8 n8 c8) (ordT (topC X)) ∧ Below wA.heap.size wA w10) := ⟨s10, bel0 HB9.out hb10⟩
    clear s10 hb10 hc7 O9 HB9
    go_wp2_with fail
    refine (HBO.out w10 _ HS10.out.1).mono ?_
    rintro e w11 ⟨⟨hgt, rfl⟩ | ⟨hle, rfl⟩, hb11⟩
    · have e1 : je = 3 := HJJ.out.2.1 (by first | rfl | trivial) hgt
      subst e1
      have e2 : jb = 0 := HJB.out
      subst e2
      have e3 : jt = [] := HJT.out
      subst e3
      obtain ⟨-, -, k3, -, -, hB1⟩ := HD.out w11 (bel0 HS10.out.2 hb11)
      obtain ⟨hc3, hf3⟩ := cells_block k3
      have HP : Hid (((w11.setCell ⟨w.heap.size + 1 + 1, 0, none⟩ (.int .i64 0)).setCell ⟨w.heap.size + 1 + 1, 1, none⟩ (.slice none 0 0)).heap[w.heap.size + 1 + 1]? = some (.cells #[.int .i64 0, .slice none 0 0] 27 (0, 0)) ∧ Below w.heap.size w ((w11.setCell ⟨w.heap.size + 1 + 1, 0, none⟩ (.int .i64 0)).setCell ⟨w.heap.size + 1 + 1, 1, none⟩ (.slice none 0 0))) := ⟨set2_get _ _ k3, (hB1.setCell (by simp; omega) _).setCell (by simp; omega) _⟩
      clear k3 hb11 hB1 hgt HJJ HJB HJT
      go_wp2_with fail
      refine bodyPost_ret (v := .tuple #[.agg #[.int .i64 0, .slice none 0 0], .int .i64 3]) (res_rs2 _ _ (w.heap.size + 1 + 1) _ _ Tryz.results17 rfl HP.out.1) rfl ?_
      exact ⟨_, rfl, RSR_nil _, HP.out.2⟩
    · have e1 : je = 0 := HJJ.out.2.2 (by first | rfl | trivial) hle
      subst e1
      have e2 : jb = b := HJB.out
      subst e2
      have e3 : jt = ordT (topC X) := HJT.out
      subst e3
      obtain ⟨-, -, k3, -, -, hB1⟩ := HD.out w11 (bel0 HS10.out.2 hb11)
      obtain ⟨hc3, hf3⟩ := cells_block k3
      have HP : Hid (((w11.setCell ⟨w.heap.size + 1 + 1, 0, none⟩ (.int .i64 jb)).setCell ⟨w.heap.size + 1 + 1, 1, none⟩ (.slice p8 n8 c8)).heap[w.heap.size + 1 + 1]? = some (.cells #[.int .i64 jb, .slice p8 n8 c8] 27 (0, 0)) ∧ RSR ((w11.setCell ⟨w.heap.size + 1 + 1, 0, none⟩ (.int .i64 jb)).setCell ⟨w.heap.size + 1 + 1, 1, none⟩ (.slice p8 n8 c8)) (.slice p8 n8 c8) (ordT (topC X)) ∧ Below w.heap.size w ((w11.setCell ⟨w.heap.size + 1 + 1, 0, none⟩ (.int .i64 jb)).setCell ⟨w.heap.size + 1 + 1, 1, none⟩ (.slice p8 n8 c8))) := ⟨set2_get _ _ k3, (HS10.out.1.later hb11).kept (gr2 _ _ _ _) (no_str2 k3), (hB1.setCell (by simp; omega) _).setCell (by simp; omega) _⟩
      clear k3 hb11 hB1 hle HJJ HJB HJT
      go_wp2_with fail
      refine bodyPost_ret (v := .tuple #[.agg #[.int .i64 jb, .slice p8 n8 c8], .int .i64 0]) (res_rs2 _ _ (w.heap.size + 1 + 1) _ _ Tryz.results17 rfl HP.out.1) rfl ?_
      exact ⟨_, rfl, HP.out.2⟩
end Go.Proofs.YtnejbldociaapaaGreatDoor
namespace Go.Proofs.YtnejbldociaapaaGreatDoor
open Go.RowKit Go.Shelf
theorem jn_ok (b b2 : Int) (A C : List (List UInt8 × List (List UInt8))) (hg1 : gdC A) (hg2 : gdC C) : gdC (jnT b b2 A C) ∧ szC (jnT b b2 A C) ≤ 128 := by
  unfold jnT
  split
  · rename_i h
    have h2 : szC (topC (A ++ C)) ≤ 128 := by
      unfold jnE at h
      split at h
      · exact absurd h (by decide)
      · split at h
        · assumption
        · exact absurd h (by decide)
    refine ⟨gdC_ord (gdC_top (fun t ht => ?_)), by rw [szC_ord]; exact h2⟩
    rcases List.mem_append.1 ht with ht | ht
    · exact hg1 t ht
    · exact hg2 t ht
  · exact ⟨(fun t h => by cases h), Nat.zero_le _⟩
theorem prB_ge (b : Int) (l : List UInt8) : 0 ≤ prB b l := by
  unfold prB
  split
  · rename_i h
    have := (prE_zero h).1
    omega
  · exact Int.le_refl _
set_option maxRecDepth 100000 in
set_option maxHeartbeats 4000000 in
theorem joins_walk (b : Int) (l : List UInt8) (b' : Int) (l' : List UInt8) (w : World) (hl0 : l.length ≤ 281474976710656) (hl1 : l'.length ≤ 281474976710656) : Calls Tryz.prog 5 #[.int .i64 b, .string ⟨l.toArray⟩, .int .i64 b', .string ⟨l'.toArray⟩] w fun e w' => e = .returned (.bool true) ∧ Below w.heap.size w w' := by
  have hla : l.length ≤ maxLen := by unfold maxLen; omega
  have hlb : l'.length ≤ maxLen := by unfold maxLen; omega
  have ok1 := prT_ok b l
  have ok2 := prT_ok b' l'
  have hge := prB_ge b l
  have hsrt : ∀ t ∈ prT b l ++ prT b' l', t.2.Pairwise (fun a b => leB a b = true) := fun t ht => by
    rcases List.mem_append.1 ht with ht | ht
    · exact (prT_ft b l t ht).1.so
    · exact (prT_ft b' l' t ht).1.so
  obtain ⟨B1, hB1⟩ : ∃ B, prB b l = B := ⟨_, rfl⟩
  obtain ⟨X1, hX1⟩ : ∃ X, prT b l = X := ⟨_, rfl⟩
  obtain ⟨B2, hB2⟩ : ∃ B, prB b' l' = B := ⟨_, rfl⟩
  obtain ⟨X2, hX2⟩ : ∃ X, prT b' l' = X := ⟨_, rfl⟩
  have HR1 : Hid (∀ W, Calls Tryz.prog 6 #[.int .i64 b, .string ⟨l.toArray⟩] W fun e w' => ∃ V V2, e = .returned (.tuple #[.agg #[.int .i64 B1, V, .bool false], .agg #[.int .i64 B1, V2], .bool true]) ∧ SPL w' W.heap.size V X1 ∧ RSR w' V2 X1 ∧ Below W.heap.size W w') := fun W => by
    rw [← hB1, ← hX1]
    exact read_any b l W hla
  have HR2 : Hid (∀ W, Calls Tryz.prog 6 #[.int .i64 b', .string ⟨l'.toArray⟩] W fun e w' => ∃ V V2, e = .returned (.tuple #[.agg #[.int .i64 B2, V, .bool false], .agg #[.int .i64 B2, V2], .bool true]) ∧ SPL w' W.heap.size V X2 ∧ RSR w' V2 X2 ∧ Below W.heap.size W w') := fun W => by
    rw [← hB2, ← hX2]
    exact read_any b' l' W hlb
  rw [hX1] at ok1 hsrt
  rw [hX2] at ok2 hsrt
  rw [hB1] at hge
  have HOK : Hid (gdC X1 ∧ szC X1 ≤ 128 ∧ gdC X2 ∧ szC X2 ≤ 128 ∧ 0 ≤ B1 ∧ ∀ t ∈ X1 ++ X2, t.2.Pairwise (fun a b => leB a b = true)) := ⟨ok1.1, ok1.2, ok2.1, ok2.2, hge, hsrt⟩
  have HJO := jn_ok B1 B2 X1 X2 ok1.1 ok2.1
  have HJ1 : Hid (∀ (W : World) (V V2 : Value), SPL W 0 V X1 → SPL W 0 V2 X2 → Calls Tryz.prog 16 #[.agg #[.int .i64 B1, V, .bool false], .agg #[.int .i64 B2, V2, .bool false]] W fun e w' => ∃ V, e = .returned (.tuple #[.agg #[.int .i64 (jnB B1 B2 X1 X2), V, .bool false], .int .i64 (jnE B1 B2 X1 X2)]) ∧ SPL w' W.heap.size V (jnT B1 B2 X1 X2) ∧ Below W.heap.size W w') := fun W V V2 h1 h2 => sJoin_any B1 B2 X1 X2 0 0 V V2 W h1 h2 ok1.2 ok2.2 ok1.1 ok2.1
  have HJ2 : Hid (∀ (W : World) (V V2 : Value), RSR W V X1 → RSR W V2 X2 → Calls Tryz.prog 17 #[.agg #[.int .i64 B1, V], .agg #[.int .i64 B2, V2]] W fun e w' => ∃ V, e = .returned (.tuple #[.agg #[.int .i64 (jnB B1 B2 X1 X2), V], .int .i64 (jnE B1 B2 X1 X2)]) ∧ RSR w' V (jnT B1 B2 X1 X2) ∧ Below W.heap.size W w') := fun W V V2 h1 h2 => dJoin_any B1 B2 X1 X2 V V2 W h1 h2 ok1.2 ok2.2 ok1.1 ok2.1 hge hsrt
  obtain ⟨B3, hB3⟩ : ∃ B, jnB B1 B2 X1 X2 = B := ⟨_, rfl⟩
  obtain ⟨E3, hE3⟩ : ∃ B, jnE B1 B2 X1 X2 = B := ⟨_, rfl⟩
  obtain ⟨X3, hX3⟩ : ∃ B, jnT B1 B2 X1 X2 = B := ⟨_, rfl⟩
  rw [hB3, hE3, hX3] at HJ1 HJ2
  rw [hX3] at HJO
  have HJK : Hid (gdC X3 ∧ szC X3 ≤ 128) := HJO
  clear hB1 hX1 hB2 hX2 ok1 ok2 hsrt hge hB3 hE3 hX3 HJO HOK
  obtain ⟨n1, hn1⟩ : ∃ n, X1.length = n := ⟨_, rfl⟩
  obtain ⟨n2, hn2⟩ : ∃ n, X2.length = n := ⟨_, rfl⟩
  obtain ⟨n3, hn3⟩ : ∃ n, X3.length = n := ⟨_, rfl⟩
  go_enter Tryz.func5, Tryz.ntmps5
  go_wp2_with fail
  refine (HR1.out _).mono ?_
  rintro e w1 ⟨V, V2, rfl, sv1, rv1, hb1⟩
  obtain ⟨p1, c1, rfl⟩ := sv1.shape
  obtain ⟨q1, d1, rfl⟩ := rv1.shape
  rw [hn1] at sv1 rv1 ⊢
  have HW1 : Hid (SPL w1 0 (.slice p1 n1 c1) X1 ∧ RSR w1 (.slice q1 n1 d1) X1 ∧ Below w.heap.size w w1) := ⟨sv1.base (Nat.zero_le _), rv1, hb1⟩
  clear sv1 rv1 hb1 HR1
  go_wp2_with fail
  refine (HR2.out _).mono ?_
  rintro e w2 ⟨V, V2, rfl, sv2, rv2, hb2⟩
  obtain ⟨p2, c2, rfl⟩ := sv2.shape
  obtain ⟨q2, d2, rfl⟩ := rv2.shape
  rw [hn2] at sv2 rv2 ⊢
  have HF : Hid (∀ W, Below ((w2.alloc (.cells #[.int .i64 B2, .slice p2 n2 c2, .bool false] 24 (0, 0))).alloc (.cells #[.int .i64 B2, .slice q2 n2 d2] 27 (0, 0))).heap.size ((w2.alloc (.cells #[.int .i64 B2, .slice p2 n2 c2, .bool false] 24 (0, 0))).alloc (.cells #[.int .i64 B2, .slice q2 n2 d2] 27 (0, 0))) W → ((∀ j, W.cell? ⟨w1.heap.size, j, none⟩ = (#[.int .i64 B1, .slice p1 n1 c1, .bool false] : Array Value)[j]?) ∧ (∀ j, W.cell? ⟨w1.heap.size + 1, j, none⟩ = (#[.int .i64 B1, .slice q1 n1 d1] : Array Value)[j]?) ∧ (∀ j, W.cell? ⟨w2.heap.size, j, none⟩ = (#[.int .i64 B2, .slice p2 n2 c2, .bool false] : Array Value)[j]?) ∧ (∀ j, W.cell? ⟨w2.heap.size + 1, j, none⟩ = (#[.int .i64 B2, .slice q2 n2 d2] : Array Value)[j]?) ∧ SPL W 0 (.slice p1 n1 c1) X1 ∧ RSR W (.slice q1 n1 d1) X1 ∧ SPL W 0 (.slice p2 n2 c2) X2 ∧ RSR W (.slice q2 n2 d2) X2 ∧ Below w.heap.size w W)) := fun W hW => by
    have h2 : Below w2.heap.size w2 W := bel0 (belA (belA (Below.refl _ _) _) _) hW
    have hA : Below ((w1.alloc (.cells #[.int .i64 B1, .slice p1 n1 c1, .bool false] 24 (0, 0))).alloc (.cells #[.int .i64 B1, .slice q1 n1 d1] 27 (0, 0))).heap.size ((w1.alloc (.cells #[.int .i64 B1, .slice p1 n1 c1, .bool false] 24 (0, 0))).alloc (.cells #[.int .i64 B1, .slice q1 n1 d1] 27 (0, 0))) W := bel0 hb2 h2
    have h1 : Below w1.heap.size w1 W := bel0 (belA (belA (Below.refl _ _) _) _) hA
    exact ⟨(cells_block (keepblk3 hA (alw_0 _ _ _))).1, (cells_block (keepblk3 hA (alw_1 _ _ _))).1, (cells_block (keepblk3 hW (alw_0 _ _ _))).1, (cells_block (keepblk3 hW (alw_1 _ _ _))).1, HW1.out.1.below h1, HW1.out.2.1.later h1, (sv2.below h2).base (Nat.zero_le _), rv2.later h2, bel0 HW1.out.2.2 h1⟩
  clear sv2 rv2 hb2 HR2 HW1
  obtain ⟨f1, f2, f3, f4, f5, f6, f7, f8, f9⟩ := HF.out _ (Below.refl _ _)
  have HS1 : Hid (SPL ((w2.alloc (.cells #[.int .i64 B2, .slice p2 n2 c2, .bool false] 24 (0, 0))).alloc (.cells #[.int .i64 B2, .slice q2 n2 d2] 27 (0, 0))) 0 (.slice p1 n1 c1) X1 ∧ SPL ((w2.alloc (.cells #[.int .i64 B2, .slice p2 n2 c2, .bool false] 24 (0, 0))).alloc (.cells #[.int .i64 B2, .slice q2 n2 d2] 27 (0, 0))) 0 (.slice p2 n2 c2) X2) := ⟨f5, f7⟩
  clear f2 f4 f5 f6 f7 f8 f9
  go_wp2_with fail
  refine (HJ1.out _ _ _ HS1.out.1 HS1.out.2).mono ?_
  rintro e w3 ⟨V, rfl, sv3, hb3⟩
  obtain ⟨p3, c3, rfl⟩ := sv3.shape
  rw [hn3] at sv3 ⊢
  have hal : Below w3.heap.size w3 (w3.alloc (.cells #[.int .i64 B3, .slice p3 n3 c3, .bool false] 24 (0, 0))) := belA (Below.refl _ _) _
  have hk4 : (w3.alloc (.cells #[.int .i64 B3, .slice p3 n3 c3, .bool false] 24 (0, 0))).heap[w3.heap.size]? = some (.cells #[.int .i64 B3, .slice p3 n3 c3, .bool false] 24 (0, 0)) := alloc_get _ _
  have hb4 : Below ((w2.alloc (.cells #[.int .i64 B2, .slice p2 n2 c2, .bool false] 24 (0, 0))).alloc (.cells #[.int .i64 B2, .slice q2 n2 d2] 27 (0, 0))).heap.size ((w2.alloc (.cells #[.int .i64 B2, .slice p2 n2 c2, .bool false] 24 (0, 0))).alloc (.cells #[.int .i64 B2, .slice q2 n2 d2] 27 (0, 0))) (w3.alloc (.cells #[.int .i64 B3, .slice p3 n3 c3, .bool false] 24 (0, 0))) := bel0 hb3 hal
  have HW4 : Hid (Below ((w2.alloc (.cells #[.int .i64 B2, .slice p2 n2 c2, .bool false] 24 (0, 0))).alloc (.cells #[.int .i64 B2, .slice q2 n2 d2] 27 (0, 0))).heap.size ((w2.alloc (.cells #[.int .i64 B2, .slice p2 n2 c2, .bool false] 24 (0, 0))).alloc (.cells #[.int .i64 B2, .slice q2 n2 d2] 27 (0, 0))) (w3.alloc (.cells #[.int .i64 B3, .slice p3 n3 c3, .bool false] 24 (0, 0))) ∧ SPL (w3.alloc (.cells #[.int .i64 B3, .slice p3 n3 c3, .bool false] 24 (0, 0))) 0 (.slice p3 n3 c3) X3 ∧ (w3.alloc (.cells #[.int .i64 B3, .slice p3 n3 c3, .bool false] 24 (0, 0))).heap[w3.heap.size]? = some (.cells #[.int .i64 B3, .slice p3 n3 c3, .bool false] 24 (0, 0))) := ⟨hb4, (sv3.below hal).base (Nat.zero_le _), hk4⟩
  obtain ⟨-, f2, -, f4, -, f6, -, f8, -⟩ := HF.out (w3.alloc (.cells #[.int .i64 B3, .slice p3 n3 c3, .bool false] 24 (0, 0))) hb4
  have HS2 : Hid (RSR (w3.alloc (.cells #[.int .i64 B3, .slice p3 n3 c3, .bool false] 24 (0, 0))) (.slice q1 n1 d1) X1 ∧ RSR (w3.alloc (.cells #[.int .i64 B3, .slice p3 n3 c3, .bool false] 24 (0, 0))) (.slice q2 n2 d2) X2) := ⟨f6, f8⟩
  clear f1 f3 f6 f8 sv3 hb3 hal hk4 hb4 HS1 HJ1
  go_wp2_with fail
  refine (HJ2.out _ _ _ HS2.out.1 HS2.out.2).mono ?_
  rintro e w5 ⟨V, rfl, rv3, hb5⟩
  obtain ⟨q3, d3, rfl⟩ := rv3.shape
  rw [hn3] at rv3 ⊢
  have HW5 : Hid (∀ W, Below (w5.alloc (.cells #[.int .i64 B3, .slice q3 n3 d3] 27 (0, 0))).heap.size (w5.alloc (.cells #[.int .i64 B3, .slice q3 n3 d3] 27 (0, 0))) W → (∀ j, W.cell? ⟨w3.heap.size, j, none⟩ = (#[.int .i64 B3, .slice p3 n3 c3, .bool false] : Array Value)[j]?) ∧ (∀ j, W.cell? ⟨w5.heap.size, j, none⟩ = (#[.int .i64 B3, .slice q3 n3 d3] : Array Value)[j]?) ∧ SPL W 0 (.slice p3 n3 c3) X3 ∧ RSR W (.slice q3 n3 d3) X3 ∧ Below w.heap.size w W) := fun W hW => by
    have h5 : Below w5.heap.size w5 W := bel0 (belA (Below.refl _ _) _) hW
    have h4 : Below (w3.alloc (.cells #[.int .i64 B3, .slice p3 n3 c3, .bool false] 24 (0, 0))).heap.size (w3.alloc (.cells #[.int .i64 B3, .slice p3 n3 c3, .bool false] 24 (0, 0))) W := bel0 hb5 h5
    exact ⟨(cells_block (keepblk3 h4 HW4.out.2.2)).1, (cells_block (keepblk3 hW (alloc_get _ _))).1, HW4.out.2.1.below h4, rv3.later h5, (HF.out W (bel0 HW4.out.1 h4)).2.2.2.2.2.2.2.2⟩
  obtain ⟨g1, g2, g3, g4, -⟩ := HW5.out _ (Below.refl _ _)
  have HSS : Hid (Calls Tryz.prog 18 #[.agg #[.int .i64 B3, .slice p3 n3 c3, .bool false], .int .i64 E3, .agg #[.int .i64 B3, .slice q3 n3 d3], .int .i64 E3] (w5.alloc (.cells #[.int .i64 B3, .slice q3 n3 d3] 27 (0, 0))) fun r w' => r = .returned (.bool true) ∧ Below (w5.alloc (.cells #[.int .i64 B3, .slice q3 n3 d3] 27 (0, 0))).heap.size (w5.alloc (.cells #[.int .i64 B3, .slice q3 n3 d3] 27 (0, 0))) w') := same_any B3 E3 _ _ X3 0 _ g3 g4 HJK.out.2 HJK.out.1
  clear g3 g4 rv3 hb5 HJ2 HS2 HW4 HF f2 f4
  go_wp2_with fail
  refine HSS.out.mono ?_
  rintro e w6 ⟨rfl, hb6⟩
  go_wp2_with fail
  go_ret
  exact ⟨rfl, (HW5.out w6 hb6).2.2.2.2⟩
end Go.Proofs.YtnejbldociaapaaGreatDoor
