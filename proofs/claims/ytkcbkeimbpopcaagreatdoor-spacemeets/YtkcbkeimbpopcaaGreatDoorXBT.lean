import Derived.Test.YtkcbkeimbpopcaaGreatDoorXBS
namespace Go.Proofs.YtkcbkeimbpopcaaGreatDoor
open Go.RowKit Go.Shelf
theorem info_strY : (Tryz.prog.info? 9).map (fun i => (i.zero, i.size, i.bytes)) = some (some (.string ⟨#[]⟩), 1, 16) := by kernel_rfl
theorem stx_one (L : List (List UInt8)) : ∀ v ∈ stx L, v.oneCell' = true := fun v hv => by
  obtain ⟨z, _, rfl⟩ := List.mem_map.1 hv
  rfl
theorem stx_news {W : World} {ad : Addr} {L : List (List UInt8)} (h : IRSt W (some ad) L) : ∀ j u, (stx L)[j]? = some u → W.cell? (ad.add j) = some u := fun j u hu => by
  unfold stx at hu
  rw [List.getElem?_map] at hu
  cases hz : L[j]? with
  | none => rw [hz] at hu; cases hu
  | some t =>
    rw [hz] at hu
    obtain ⟨g, o0, e1, c0⟩ := h W (Below.refl _ _) j t hz
    injection e1 with e1
    subst e1
    have ea : (⟨g, o0, none⟩ : Addr).add j = ⟨g, o0 + j, none⟩ := by simp [Addr.add]
    rw [ea, c0]
    exact hu
theorem app_st {ops : Array Oper} {rest : List Oper} {o : Oper} {a : Act} {Q : Exit → Act → World → Prop} {w : World} (hgd : o.guard = none) (s x : Operand)
    (ho : o.op = .call { callee := .builtin .append, args := #[s, x], argTypes := #[40, 40] }) (base : Nat) (v : Value) (m : Nat) (xs : List Value) (hs : a.eval s = v) (hown : w.ownsRow base 9 1 v m xs)
    (p : Option Addr) (n k : Nat) (L : List (List UInt8)) (hx : a.eval x = .slice p n k) (hL : L.length = n) (hr : IRSt w p L) (hm : m + n ≤ 10000000) (hbase : base ≤ w.heap.size)
    (h : ∀ v' w', w'.ownsRow base 9 1 v' (m + n) (xs ++ stx L) → w.grownBy w' v.ownBlock → wpList Tryz.prog ops Q rest (a.put o.dst v') w') : wpList Tryz.prog ops Q (o :: rest) a w := by
  obtain ⟨iT, hiT, hzT0, hzT1, hzT2⟩ := info_parts info_strY
  cases p with
  | none =>
    have hz : L = [] := by
      cases hc : L with
      | nil => rfl
      | cons z l =>
        obtain ⟨g, o0, e, -⟩ := hr w (Below.refl _ _) 0 z (by rw [hc]; rfl)
        cases e
    subst hz
    have hn : n = 0 := hL.symm
    subst hn
    refine app_none0 hgd s x 40 ho base 9 iT 1 Tryz.underlying40 hiT v m k xs hs hown hx (h v w ?_ ⟨rfl, rfl, rfl, Nat.le_refl _, fun _ _ _ => rfl⟩)
    have e : xs ++ stx [] = xs := by simp [stx]
    rw [e]
    exact hown
  | some ad =>
    exact wpList_append_own _ hgd s x 40 ho base 9 iT _ 1 16 Tryz.underlying40 hiT hzT0 hzT1 hzT2 rfl (by decide) v m xs hs hown ad n k (stx L) hx (by simp [stx, hL]) (stx_news hr) (stx_one L) (by unfold maxLen; omega) (by omega) hbase (fun v' w' h1 h2 _ => h v' w' h1 h2)
theorem dboth_any (L1 L2 : List (List UInt8)) (p1 p2 : Option Addr) (n1 n2 k1 k2 : Nat) (w : World) (h1 : L1.length = n1) (h2 : L2.length = n2) (hN1 : n1 ≤ 1000000) (hN2 : n2 ≤ 1000000) (r1 : IRSt w p1 L1) (r2 : IRSt w p2 L2) :
    Calls Tryz.prog 59 #[.slice p1 n1 k1, .slice p2 n2 k2] w fun e w' => ∃ v, e = .returned v ∧ w'.ownsRow w.heap.size 9 1 v (n1 + n2) (stx (L1 ++ L2)) ∧ Below w.heap.size w w' := by
  have HR : Hid (IRSt w p1 L1 ∧ IRSt w p2 L2 ∧ L1.length = n1 ∧ L2.length = n2) := ⟨r1, r2, h1, h2⟩
  clear r1 r2 h1 h2
  go_enter Tryz.func59, Tryz.ntmps59
  go_wp2_with (at_builtin; refine app_st rfl _ _ rfl w.heap.size (.slice none 0 0) 0 [] rfl (World.ownsRow_nil _ _ _ _) p1 n1 k1 L1 rfl HR.out.2.2.1 HR.out.1 (by omega) (Nat.le_refl _) ?_)
  intro v8 w8 o8 g8
  have hB8 : Below w.heap.size w w8 := app_belC (Below.refl _ _) (World.ownsRow_nil _ w.heap.size 9 1) g8
  obtain ⟨pv, cv, rfl⟩ := shapeQ1 o8
  have O8 : Hid (w8.ownsRow w.heap.size 9 1 (.slice pv n1 cv) n1 (stx L1)) := o8
  have hbs8 := hB8.size
  have HB8 : Hid (Below w.heap.size w w8) := hB8
  clear o8 g8 hB8
  go_wp2_with (at_builtin; refine app_st rfl _ _ rfl w.heap.size (.slice pv n1 cv) n1 (stx L1) rfl O8.out p2 n2 k2 L2 rfl HR.out.2.2.2 (HR.out.2.1.later HB8.out) (by omega) hbs8 ?_)
  intro v9 w9 o9 g9
  have hB9 : Below w.heap.size w w9 := app_belC HB8.out O8.out g9
  obtain ⟨pw, cw, rfl⟩ := shapeQ1 o9
  have O9 : Hid (w9.ownsRow w.heap.size 9 1 (.slice pw (n1 + n2) cw) (n1 + n2) (stx (L1 ++ L2)) ∧ Below w.heap.size w w9) := by
    have e : stx (L1 ++ L2) = stx L1 ++ stx L2 := by simp [stx]
    unfold Hid
    rw [e]
    exact ⟨o9, hB9⟩
  clear o9 g9 hB9
  go_wp2_with fail
  go_ret
  exact ⟨_, rfl, O9.out⟩
end Go.Proofs.YtkcbkeimbpopcaaGreatDoor
namespace Go.Proofs.YtkcbkeimbpopcaaGreatDoor
open Go.RowKit Go.Shelf
def mnE (b b2 : Int) (A C : List (List UInt8 × List (List UInt8))) : Int := if (!(b == 0) && (b == b2)) = false then 11 else if 2048 < A.length * C.length then 3 else if szC (topC (stl (cmN A C))) ≤ 128 then 0 else 3
def mnB (b b2 : Int) (A C : List (List UInt8 × List (List UInt8))) : Int := if mnE b b2 A C = 0 then b else 0
def mnT (b b2 : Int) (A C : List (List UInt8 × List (List UInt8))) : List (List UInt8 × List (List UInt8)) := if mnE b b2 A C = 0 then ordT (topC (stl (cmN A C))) else []
theorem stD_app (X Y : List (List UInt8 × List (List UInt8))) : stD (X ++ Y) = stD X ++ stD Y := by unfold stD; rw [List.filterMap_append]
theorem stD_sing (c : List UInt8) (L : List (List UInt8)) : stD [(c, L)] = match setO c L with | none => [] | some R => [(c, srtT R)] := by
  unfold stD
  cases h : setO c L <;> simp [h]
theorem stD_len (X : List (List UInt8 × List (List UInt8))) : (stD X).length ≤ X.length := List.length_filterMap_le _ _
theorem cmN_len2 (A C : List (List UInt8 × List (List UInt8))) : (cmN A C).length ≤ A.length * C.length := by
  induction A with
  | nil => simp [cmN]
  | cons a l ih =>
    have e : cmN (a :: l) C = cmN [a] C ++ cmN l C := by
      unfold cmN
      simp only [List.flatMap_cons, List.flatMap_nil, List.append_nil]
    have h1 : (cmN [a] C).length ≤ C.length := by rw [cmN_sing]; exact List.length_filterMap_le _ _
    rw [e, List.length_append, List.length_cons, Nat.succ_mul]
    omega
theorem cm_most (Z1 Z2 : List ZT) (k j : Nat) (x : List UInt8 × List (List UInt8)) (h1 : Z1.length ≤ 128) (h2 : Z2.length ≤ 128) : (stD (cmN ((Z1.take k).map ZT.cont) (Z2.map ZT.cont) ++ cmN [x] ((Z2.take j).map ZT.cont))).length ≤ 16512 := by
  have h3 := stD_len (cmN ((Z1.take k).map ZT.cont) (Z2.map ZT.cont) ++ cmN [x] ((Z2.take j).map ZT.cont))
  rw [List.length_append] at h3
  have h4 := cmN_len2 ((Z1.take k).map ZT.cont) (Z2.map ZT.cont)
  have h5 := cmN_len2 [x] ((Z2.take j).map ZT.cont)
  rw [List.length_map, List.length_take, List.length_map] at h4
  rw [List.length_map, List.length_take, List.length_singleton] at h5
  have h6 : min k Z1.length * Z2.length ≤ 128 * 128 := Nat.mul_le_mul (by omega) h2
  omega
end Go.Proofs.YtkcbkeimbpopcaaGreatDoor
namespace Go.Proofs.YtkcbkeimbpopcaaGreatDoor
open Go.RowKit Go.Shelf
/-- the cube of all headers of a width -/
def alT (b : Int) : List UInt8 := if 1 ≤ b ∧ b ≤ 256 then List.replicate b.toNat 120 else []
/-- the one term of all headers -/
def alB (b : Int) : List (List UInt8 × List (List UInt8)) → Bool
  | [(c, [])] => c == alT b
  | _ => false
theorem alT_good (b : Int) : good (alT b) = true := by
  unfold alT
  split
  · exact rep_good _ (by omega)
  · rfl
set_option maxRecDepth 100000 in
set_option maxHeartbeats 4000000 in
theorem isAll_any (b : Int) (V : Value) (A : List (List UInt8 × List (List UInt8))) (B : Nat) (w : World) (h : SPL w B V A) (hg : gdC A) (hs : szC A ≤ 128) : Calls Tryz.prog 53 #[.agg #[.int .i64 b, V, .bool false]] w fun e w' => e = .returned (.bool (alB b A)) ∧ Below w.heap.size w w' := by
  obtain ⟨Z, rfl, h2, -⟩ := h
  obtain ⟨p, cp, rfl⟩ := shapeQ1 h2
  have hl := szC_len (Z.map ZT.cont)
  rw [List.length_map] at hl
  by_cases hn : Z.length = 1
  · obtain ⟨z, rfl⟩ : ∃ z, Z = [z] := List.length_eq_one_iff.1 hn
    obtain ⟨zc, zq, zk, zL⟩ := z
    have gz := hg (zc, zL) (by simp [ZT.cont])
    have hsz : zL.length ≤ 128 := by
      have := szC_mem (Ts := [(zc, zL)]) (zc, zL) (by simp)
      have e : szC ([⟨zc, zq, zk, zL⟩].map ZT.cont) = szC [(zc, zL)] := rfl
      rw [e] at hs
      exact Nat.le_trans this hs
    have hIR := IRZ_own h2 rfl
    obtain ⟨g, o0, rfl, -⟩ := hIR w (Below.refl _ _) 0 _ rfl
    obtain ⟨w2, hw2⟩ : ∃ w2, w.alloc (.cells #[.int .i64 b, .slice (some ⟨g, o0, none⟩) 1 cp, .bool false] 24 (0, 0)) = w2 := ⟨_, rfl⟩
    have h0 : w2.heap[w.heap.size]? = some (.cells #[.int .i64 b, .slice (some ⟨g, o0, none⟩) 1 cp, .bool false] 24 (0, 0)) := by rw [← hw2]; exact alloc_get _ _
    have hB : Below w.heap.size w w2 := by rw [← hw2]; exact belA (Below.refl _ _) _
    obtain ⟨m, hm⟩ : ∃ m, zL.length = m := ⟨_, rfl⟩
    have HX : Hid (∀ W, Below w2.heap.size w2 W → W.cell? ⟨w.heap.size, 0, none⟩ = some (.int .i64 b) ∧ W.cell? ⟨w.heap.size, 1, none⟩ = some (.slice (some ⟨g, o0, none⟩) 1 cp) ∧ W.cell? ⟨g, o0, none⟩ = some (.int .i64 (zc.length : Int)) ∧ W.cell? ⟨g, o0 + 1, none⟩ = some (.int .u64 (FW zc 0 : Int)) ∧ W.cell? ⟨g, o0 + 2, none⟩ = some (.int .u64 (FW zc 1 : Int)) ∧ W.cell? ⟨g, o0 + 3, none⟩ = some (.int .u64 (FW zc 2 : Int)) ∧ W.cell? ⟨g, o0 + 4, none⟩ = some (.int .u64 (FW zc 3 : Int)) ∧ W.cell? ⟨g, o0 + 5, none⟩ = some (.int .u64 (OW zc 0 : Int)) ∧ W.cell? ⟨g, o0 + 6, none⟩ = some (.int .u64 (OW zc 1 : Int)) ∧ W.cell? ⟨g, o0 + 7, none⟩ = some (.int .u64 (OW zc 2 : Int)) ∧ W.cell? ⟨g, o0 + 8, none⟩ = some (.int .u64 (OW zc 3 : Int)) ∧ W.cell? ⟨g, o0 + 9, none⟩ = some (.slice zq m zk)) := fun W hW => by
      have hc := (cells_block (keepblk3 hW h0)).1
      obtain ⟨g', o', e, q0, q1, q2, q3, q4, q5, q6, q7, q8, q9⟩ := hIR W (bel0 hB hW) 0 _ rfl
      injection e with e
      injection e with e1 e2
      subst e1 e2
      simp only [Nat.zero_mul, Nat.add_zero] at q0 q1 q2 q3 q4 q5 q6 q7 q8 q9
      rw [hm] at q9
      exact ⟨hc 0, hc 1, q0, q1, q2, q3, q4, q5, q6, q7, q8, q9⟩
    have HB : Hid (Below w.heap.size w w2) := hB
    by_cases hm0 : m = 0
    · have hz : zL = [] := List.length_eq_zero_iff.1 (hm.trans hm0)
      subst hz
      subst hm0
      obtain ⟨D, hD⟩ : ∃ D, alT b = D := ⟨_, rfl⟩
      obtain ⟨q, hq⟩ : ∃ q, (zc == D) = q := ⟨_, rfl⟩
      have HR : Hid (alB b ([⟨zc, zq, zk, []⟩].map ZT.cont) = q) := by
        have e : alB b ([⟨zc, zq, zk, []⟩].map ZT.cont) = (zc == alT b) := rfl
        unfold Hid
        rw [e, hD, hq]
      have hE := eql_cube zc D gz.1 (by rw [← hD]; exact alT_good b)
      rw [hq] at hE
      have HAL : Hid (∀ W, Calls Tryz.prog 64 #[.int .i64 b] W fun e w' => e = .returned (.agg #[.int .i64 (D.length : Int), .int .u64 (FW D 0 : Int), .int .u64 (FW D 1 : Int), .int .u64 (FW D 2 : Int), .int .u64 (FW D 3 : Int), .int .u64 (OW D 0 : Int), .int .u64 (OW D 1 : Int), .int .u64 (OW D 2 : Int), .int .u64 (OW D 3 : Int)]) ∧ Below W.heap.size W w') := fun W => by
        have h := all_any b W
        have e : (if 1 ≤ b ∧ b ≤ 256 then List.replicate b.toNat 120 else []) = D := hD
        rw [e] at h
        exact h
      clear h0 hB hIR h2 hg hs hl hn hm gz hsz hD hq
      go_enter Tryz.func53, Tryz.ntmps53
      go_upto_region 1 with fail
      clear hw2
      refine quiet_lit3 (C := fun W => Below w2.heap.size w2 W) (by kernel_rfl) (by kernel_rfl) (show Below _ _ _ from (Below.refl _ _).drew) ?_
      go_big_quiet_want
      refine ⟨.pointer (some ⟨w.heap.size, 1, none⟩), fun W hW => ?_, ?_⟩
      · go_simp
      go_big_quiet_on
      simp only [Act.put, List.setIfInBounds_toArray, List.set_cons_zero, List.set_cons_succ]
      go_big_quiet_want
      refine ⟨.slice (some ⟨g, o0, none⟩) 1 cp, fun W hW => ?_, ?_⟩
      · obtain ⟨x0, x1, y0, y1, y2, y3, y4, y5, y6, y7, y8, y9⟩ := HX.out W hW
        go_simp
      go_big_quiet_on
      simp only [Act.put, List.setIfInBounds_toArray, List.set_cons_zero, List.set_cons_succ]
      go_big_quiet_want
      refine ⟨.int .i64 1, fun W hW => ?_, ?_⟩
      · go_simp
      go_big_quiet_on
      simp only [Act.put, List.setIfInBounds_toArray, List.set_cons_zero, List.set_cons_succ]
      go_big_quiet_want
      refine ⟨.bool true, fun W hW => ?_, ?_⟩
      · go_simp
      go_big_quiet_on
      simp only [Act.put, List.setIfInBounds_toArray, List.set_cons_zero, List.set_cons_succ]
      go_big_quiet_want
      go_big_quiet_op
      go_big_quiet_on
      go_big_quiet_want
      refine ⟨.pointer (some ⟨w.heap.size, 1, none⟩), fun W hW => ?_, ?_⟩
      · go_simp
      go_big_quiet_on
      simp only [Act.put, List.setIfInBounds_toArray, List.set_cons_zero, List.set_cons_succ]
      go_big_quiet_want
      refine ⟨.slice (some ⟨g, o0, none⟩) 1 cp, fun W hW => ?_, ?_⟩
      · obtain ⟨x0, x1, y0, y1, y2, y3, y4, y5, y6, y7, y8, y9⟩ := HX.out W hW
        go_simp
      go_big_quiet_on
      simp only [Act.put, List.setIfInBounds_toArray, List.set_cons_zero, List.set_cons_succ]
      go_big_quiet_want
      refine ⟨.pointer (some ⟨g, o0, none⟩), fun W hW => ?_, ?_⟩
      · go_simp
      go_big_quiet_on
      simp only [Act.put, List.setIfInBounds_toArray, List.set_cons_zero, List.set_cons_succ]
      go_big_quiet_want
      refine ⟨.pointer (some ⟨g, o0 + 9, none⟩), fun W hW => ?_, ?_⟩
      · go_simp
      go_big_quiet_on
      simp only [Act.put, List.setIfInBounds_toArray, List.set_cons_zero, List.set_cons_succ]
      go_big_quiet_want
      refine ⟨.slice zq 0 zk, fun W hW => ?_, ?_⟩
      · obtain ⟨x0, x1, y0, y1, y2, y3, y4, y5, y6, y7, y8, y9⟩ := HX.out W hW
        go_simp
      go_big_quiet_on
      simp only [Act.put, List.setIfInBounds_toArray, List.set_cons_zero, List.set_cons_succ]
      go_big_quiet_want
      refine ⟨.int .i64 0, fun W hW => ?_, ?_⟩
      · go_simp
      go_big_quiet_on
      simp only [Act.put, List.setIfInBounds_toArray, List.set_cons_zero, List.set_cons_succ]
      go_big_quiet_want
      refine ⟨.bool true, fun W hW => ?_, ?_⟩
      · go_simp
      go_big_quiet_on
      simp only [Act.put, List.setIfInBounds_toArray, List.set_cons_zero, List.set_cons_succ]
      go_big_quiet_want
      refine ⟨.bool true, fun W hW => ?_, ?_⟩
      · go_simp
      go_big_quiet_on
      simp only [Act.put, List.setIfInBounds_toArray, List.set_cons_zero, List.set_cons_succ]
      go_big_quiet_want
      go_big_quiet_op
      go_big_quiet_on
      go_big_quiet_want
      refine ⟨.pointer (some ⟨w.heap.size, 1, none⟩), fun W hW => ?_, ?_⟩
      · go_simp
      go_big_quiet_on
      simp only [Act.put, List.setIfInBounds_toArray, List.set_cons_zero, List.set_cons_succ]
      go_big_quiet_want
      refine ⟨.slice (some ⟨g, o0, none⟩) 1 cp, fun W hW => ?_, ?_⟩
      · obtain ⟨x0, x1, y0, y1, y2, y3, y4, y5, y6, y7, y8, y9⟩ := HX.out W hW
        go_simp
      go_big_quiet_on
      simp only [Act.put, List.setIfInBounds_toArray, List.set_cons_zero, List.set_cons_succ]
      go_big_quiet_want
      refine ⟨.pointer (some ⟨g, o0, none⟩), fun W hW => ?_, ?_⟩
      · go_simp
      go_big_quiet_on
      simp only [Act.put, List.setIfInBounds_toArray, List.set_cons_zero, List.set_cons_succ]
      go_big_quiet_want
      refine ⟨.pointer (some ⟨g, o0, none⟩), fun W hW => ?_, ?_⟩
      · go_simp
      go_big_quiet_on
      simp only [Act.put, List.setIfInBounds_toArray, List.set_cons_zero, List.set_cons_succ]
      go_big_quiet_want
      refine ⟨.agg #[.int .i64 (zc.length : Int), .int .u64 (FW zc 0 : Int), .int .u64 (FW zc 1 : Int), .int .u64 (FW zc 2 : Int), .int .u64 (FW zc 3 : Int), .int .u64 (OW zc 0 : Int), .int .u64 (OW zc 1 : Int), .int .u64 (OW zc 2 : Int), .int .u64 (OW zc 3 : Int)], fun W hW => ?_, ?_⟩
      · obtain ⟨x0, x1, y0, y1, y2, y3, y4, y5, y6, y7, y8, y9⟩ := HX.out W hW
        go_simp
      go_big_quiet_on
      simp only [Act.put, List.setIfInBounds_toArray, List.set_cons_zero, List.set_cons_succ]
      go_big_quiet_want
      refine ⟨.pointer (some ⟨w.heap.size, 0, none⟩), fun W hW => ?_, ?_⟩
      · go_simp
      go_big_quiet_on
      simp only [Act.put, List.setIfInBounds_toArray, List.set_cons_zero, List.set_cons_succ]
      go_big_quiet_want
      refine ⟨.int .i64 b, fun W hW => ?_, ?_⟩
      · obtain ⟨x0, x1, y0, y1, y2, y3, y4, y5, y6, y7, y8, y9⟩ := HX.out W hW
        go_simp
      go_big_quiet_on
      simp only [Act.put, List.setIfInBounds_toArray, List.set_cons_zero, List.set_cons_succ]
      go_big_quiet_want
      refine ⟨.agg #[.int .i64 (D.length : Int), .int .u64 (FW D 0 : Int), .int .u64 (FW D 1 : Int), .int .u64 (FW D 2 : Int), .int .u64 (FW D 3 : Int), .int .u64 (OW D 0 : Int), .int .u64 (OW D 1 : Int), .int .u64 (OW D 2 : Int), .int .u64 (OW D 3 : Int)], fun W hW => ?_, ?_⟩
      · go_simp
        refine (HAL.out W).mono ?_
        rintro e w7 ⟨rfl, hb⟩
        exact ⟨rfl, bel0 hW hb⟩
      go_big_quiet_on
      simp only [Act.put, List.setIfInBounds_toArray, List.set_cons_zero, List.set_cons_succ]
      go_big_quiet_want
      refine ⟨.bool q, fun W hW => ?_, ?_⟩
      · go_simp
      go_big_quiet_on
      simp only [Act.put, List.setIfInBounds_toArray, List.set_cons_zero, List.set_cons_succ]
      go_big_quiet_want
      refine ⟨.bool q, fun W hW => ?_, ?_⟩
      · go_simp
      go_big_quiet_on
      simp only [Act.put, List.setIfInBounds_toArray, List.set_cons_zero, List.set_cons_succ]
      go_big_quiet_want
      go_big_quiet_op
      go_big_quiet_on
      refine wpQuiet_nil ?_
      intro W hW
      go_wp2_with fail
      go_ret
      exact ⟨by rw [HR.out]; rfl, bel0 HB.out hW⟩
    · have jm : ((m : Int) == 0) = false := by simp; omega
      have HR : Hid (alB b ([⟨zc, zq, zk, zL⟩].map ZT.cont) = false) := by
        cases zL with
        | nil => exact absurd hm.symm hm0
        | cons x r => rfl
      clear h0 hB hIR h2 hg hs hl hn hm gz hsz hm0
      go_enter Tryz.func53, Tryz.ntmps53
      go_upto_region 1 with fail
      clear hw2
      refine quiet_lit3 (C := fun W => Below w2.heap.size w2 W) (by kernel_rfl) (by kernel_rfl) (show Below _ _ _ from (Below.refl _ _).drew) ?_
      go_big_quiet_want
      refine ⟨.pointer (some ⟨w.heap.size, 1, none⟩), fun W hW => ?_, ?_⟩
      · go_simp
      go_big_quiet_on
      simp only [Act.put, List.setIfInBounds_toArray, List.set_cons_zero, List.set_cons_succ]
      go_big_quiet_want
      refine ⟨.slice (some ⟨g, o0, none⟩) 1 cp, fun W hW => ?_, ?_⟩
      · obtain ⟨x0, x1, y0, y1, y2, y3, y4, y5, y6, y7, y8, y9⟩ := HX.out W hW
        go_simp
      go_big_quiet_on
      simp only [Act.put, List.setIfInBounds_toArray, List.set_cons_zero, List.set_cons_succ]
      go_big_quiet_want
      refine ⟨.int .i64 1, fun W hW => ?_, ?_⟩
      · go_simp
      go_big_quiet_on
      simp only [Act.put, List.setIfInBounds_toArray, List.set_cons_zero, List.set_cons_succ]
      go_big_quiet_want
      refine ⟨.bool true, fun W hW => ?_, ?_⟩
      · go_simp
      go_big_quiet_on
      simp only [Act.put, List.setIfInBounds_toArray, List.set_cons_zero, List.set_cons_succ]
      go_big_quiet_want
      go_big_quiet_op
      go_big_quiet_on
      go_big_quiet_want
      refine ⟨.pointer (some ⟨w.heap.size, 1, none⟩), fun W hW => ?_, ?_⟩
      · go_simp
      go_big_quiet_on
      simp only [Act.put, List.setIfInBounds_toArray, List.set_cons_zero, List.set_cons_succ]
      go_big_quiet_want
      refine ⟨.slice (some ⟨g, o0, none⟩) 1 cp, fun W hW => ?_, ?_⟩
      · obtain ⟨x0, x1, y0, y1, y2, y3, y4, y5, y6, y7, y8, y9⟩ := HX.out W hW
        go_simp
      go_big_quiet_on
      simp only [Act.put, List.setIfInBounds_toArray, List.set_cons_zero, List.set_cons_succ]
      go_big_quiet_want
      refine ⟨.pointer (some ⟨g, o0, none⟩), fun W hW => ?_, ?_⟩
      · go_simp
      go_big_quiet_on
      simp only [Act.put, List.setIfInBounds_toArray, List.set_cons_zero, List.set_cons_succ]
      go_big_quiet_want
      refine ⟨.pointer (some ⟨g, o0 + 9, none⟩), fun W hW => ?_, ?_⟩
      · go_simp
      go_big_quiet_on
      simp only [Act.put, List.setIfInBounds_toArray, List.set_cons_zero, List.set_cons_succ]
      go_big_quiet_want
      refine ⟨.slice zq m zk, fun W hW => ?_, ?_⟩
      · obtain ⟨x0, x1, y0, y1, y2, y3, y4, y5, y6, y7, y8, y9⟩ := HX.out W hW
        go_simp
      go_big_quiet_on
      simp only [Act.put, List.setIfInBounds_toArray, List.set_cons_zero, List.set_cons_succ]
      go_big_quiet_want
      refine ⟨.int .i64 (m : Int), fun W hW => ?_, ?_⟩
      · go_simp
      go_big_quiet_on
      simp only [Act.put, List.setIfInBounds_toArray, List.set_cons_zero, List.set_cons_succ]
      go_big_quiet_want
      refine ⟨.bool false, fun W hW => ?_, ?_⟩
      · go_simp
      go_big_quiet_on
      simp only [Act.put, List.setIfInBounds_toArray, List.set_cons_zero, List.set_cons_succ]
      go_big_quiet_want
      refine ⟨.bool false, fun W hW => ?_, ?_⟩
      · go_simp
      go_big_quiet_on
      simp only [Act.put, List.setIfInBounds_toArray, List.set_cons_zero, List.set_cons_succ]
      go_big_quiet_want
      go_big_quiet_op
      go_big_quiet_on
      go_big_quiet_skip
      go_big_quiet_skip
      go_big_quiet_skip
      go_big_quiet_skip
      go_big_quiet_skip
      go_big_quiet_skip
      go_big_quiet_skip
      go_big_quiet_skip
      go_big_quiet_skip
      go_big_quiet_want
      refine ⟨.bool false, fun W hW => ?_, ?_⟩
      · go_simp
      go_big_quiet_on
      simp only [Act.put, List.setIfInBounds_toArray, List.set_cons_zero, List.set_cons_succ]
      go_big_quiet_want
      go_big_quiet_op
      go_big_quiet_on
      refine wpQuiet_nil ?_
      intro W hW
      go_wp2_with fail
      go_ret
      exact ⟨by rw [HR.out]; rfl, bel0 HB.out hW⟩
  · obtain ⟨n, hnn⟩ : ∃ n, Z.length = n := ⟨_, rfl⟩
    rw [hnn] at hn ⊢
    obtain ⟨w2, hw2⟩ : ∃ w2, w.alloc (.cells #[.int .i64 b, .slice p n cp, .bool false] 24 (0, 0)) = w2 := ⟨_, rfl⟩
    have h0 : w2.heap[w.heap.size]? = some (.cells #[.int .i64 b, .slice p n cp, .bool false] 24 (0, 0)) := by rw [← hw2]; exact alloc_get _ _
    have hB : Below w.heap.size w w2 := by rw [← hw2]; exact belA (Below.refl _ _) _
    have HX : Hid (∀ W, Below w2.heap.size w2 W → W.cell? ⟨w.heap.size, 0, none⟩ = some (.int .i64 b) ∧ W.cell? ⟨w.heap.size, 1, none⟩ = some (.slice p n cp)) := fun W hW => ⟨(cells_block (keepblk3 hW h0)).1 0, (cells_block (keepblk3 hW h0)).1 1⟩
    have HB : Hid (Below w.heap.size w w2) := hB
    have jn : ((n : Int) == 1) = false := by simp; omega
    have HR : Hid (alB b (Z.map ZT.cont) = false) := by
      unfold Hid
      match Z, hnn with
      | [], _ => rfl
      | [z], h => exact absurd h.symm hn
      | x :: y :: l, _ =>
        show alB b ((x.c, x.L) :: (y.c, y.L) :: l.map ZT.cont) = false
        cases x.L <;> rfl
    clear h0 hB h2 hg hs hl hn hnn
    go_enter Tryz.func53, Tryz.ntmps53
    go_upto_region 1 with fail
    clear hw2
    refine quiet_lit3 (C := fun W => Below w2.heap.size w2 W) (by kernel_rfl) (by kernel_rfl) (show Below _ _ _ from (Below.refl _ _).drew) ?_
    go_big_quiet_want
    refine ⟨.pointer (some ⟨w.heap.size, 1, none⟩), fun W hW => ?_, ?_⟩
    · go_simp
    go_big_quiet_on
    simp only [Act.put, List.setIfInBounds_toArray, List.set_cons_zero, List.set_cons_succ]
    go_big_quiet_want
    refine ⟨.slice p n cp, fun W hW => ?_, ?_⟩
    · obtain ⟨x0, x1⟩ := HX.out W hW
      go_simp
    go_big_quiet_on
    simp only [Act.put, List.setIfInBounds_toArray, List.set_cons_zero, List.set_cons_succ]
    go_big_quiet_want
    refine ⟨.int .i64 (n : Int), fun W hW => ?_, ?_⟩
    · go_simp
    go_big_quiet_on
    simp only [Act.put, List.setIfInBounds_toArray, List.set_cons_zero, List.set_cons_succ]
    go_big_quiet_want
    refine ⟨.bool false, fun W hW => ?_, ?_⟩
    · go_simp
    go_big_quiet_on
    simp only [Act.put, List.setIfInBounds_toArray, List.set_cons_zero, List.set_cons_succ]
    go_big_quiet_want
    go_big_quiet_op
    go_big_quiet_on
    go_big_quiet_skip
    go_big_quiet_skip
    go_big_quiet_skip
    go_big_quiet_skip
    go_big_quiet_skip
    go_big_quiet_skip
    go_big_quiet_skip
    go_big_quiet_want
    refine ⟨.bool false, fun W hW => ?_, ?_⟩
    · go_simp
    go_big_quiet_on
    simp only [Act.put, List.setIfInBounds_toArray, List.set_cons_zero, List.set_cons_succ]
    go_big_quiet_want
    go_big_quiet_op
    go_big_quiet_on
    go_big_quiet_skip
    go_big_quiet_skip
    go_big_quiet_skip
    go_big_quiet_skip
    go_big_quiet_skip
    go_big_quiet_skip
    go_big_quiet_skip
    go_big_quiet_skip
    go_big_quiet_skip
    go_big_quiet_want
    refine ⟨.bool false, fun W hW => ?_, ?_⟩
    · go_simp
    go_big_quiet_on
    simp only [Act.put, List.setIfInBounds_toArray, List.set_cons_zero, List.set_cons_succ]
    go_big_quiet_want
    go_big_quiet_op
    go_big_quiet_on
    refine wpQuiet_nil ?_
    intro W hW
    go_wp2_with fail
    go_ret
    exact ⟨by rw [HR.out]; rfl, bel0 HB.out hW⟩
end Go.Proofs.YtkcbkeimbpopcaaGreatDoor
