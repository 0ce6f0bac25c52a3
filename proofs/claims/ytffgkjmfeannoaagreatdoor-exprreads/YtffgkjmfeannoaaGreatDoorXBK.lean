import Derived.Test.YtffgkjmfeannoaaGreatDoorXBJ
import Derived.Test.YtffgkjmfeannoaaGreatDoorXAR
import Derived.Test.YtffgkjmfeannoaaGreatDoorXAZ
import Derived.Test.YtffgkjmfeannoaaGreatDoorXAM
namespace Go.Proofs.YtffgkjmfeannoaaGreatDoor.Ex
open Go.RowKit
variable {w0 W X : World} {b : Nat} {pt : Option Addr} {ct : Nat} {L : List XTok} {i o m : Nat} {out : List Nd}
def ofB (k : Nat) (x : List UInt8) : Bool := match (scanM x).1 with
  | t :: _ => t.1 == k && t.2.1 == x
  | [] => false
def TAB (w0 : World) : Prop := ∀ U, Below w0.heap.size w0 U → SH U ∧ SG U ∧ VW U
def shT (L : List XTok) : Prop := ∀ t ∈ L, t.2.1.length ≤ 281474976710656
theorem shT.at {L : List XTok} (h : shT L) (i : Nat) : (tokAt L i).2.1.length ≤ 281474976710656 := by
  unfold tokAt
  rw [List.getD_eq_getElem?_getD]
  cases ht : L[i]? with
  | none => simp [tok0]
  | some t => exact h t (List.mem_of_getElem? ht)
set_option maxRecDepth 100000 in
set_option maxHeartbeats 8000000 in
theorem isOf_any (kd : Nat) (hX : XR w0 pt L) (hlen : L.length ≤ 100000) (hT : TAB w0) (hS : shT L) (h : ST w0 b pt ct L W i o m out) :
    Calls Tryz.prog 56 #[.pointer (some ⟨b, 0, none⟩), .int .i64 (kd : Int)] W fun e W' => e = .returned (.bool ((tokAt L i).1 == (kd : Int) && ofB kd (tokAt L i).2.1)) ∧ Below W.heap.size W W' := by
  have HT := token_any hX hlen h
  have HW : Hid (Below w0.heap.size w0 W) := h.2.1
  have hsz := hS.at i
  obtain ⟨⟨tk, tx, tl, tc⟩, ht⟩ : ∃ t, tokAt L i = t := ⟨_, rfl⟩
  rw [ht] at HT hsz ⊢
  have HTB : Hid (TAB w0) := hT
  clear h hX ht hT hS
  unfold tokV at HT
  simp only at HT hsz ⊢
  by_cases hk : tk = (kd : Int)
  · have HR : Hid ((tk == (kd : Int) && ofB kd tx) = ofB kd tx) := by show (_ && _) = _; simp [hk]
    rw [HR.out]
    have y1 : (tk == (kd : Int)) = true := beq_iff_eq.2 hk
    have y2 : (tk != (kd : Int)) = false := by simp only [bne, y1]; rfl
    subst hk
    go_enter Tryz.func56, Tryz.ntmps56
    go_wp2_with fail
    refine HT.mono ?_
    rintro e W1 ⟨rfl, b1⟩
    have HB1 : Hid (Below W.heap.size W W1) := b1
    have hbt := HTB.out (W1.alloc (.cells #[.int .i64 (kd : Int), .string ⟨tx.toArray⟩, .int .i64 tl, .int .i64 tc] 24 (0, 0))) (bel0Z HW.out (belAZ b1 _))
    have HSC := scan_any tx (W1.alloc (.cells #[.int .i64 (kd : Int), .string ⟨tx.toArray⟩, .int .i64 tl, .int .i64 tc] 24 (0, 0))) hsz hbt.1 hbt.2.1 (FOK_of hbt.2.2)
    have HBX : Hid ((W1.alloc (.cells #[.int .i64 (kd : Int), .string ⟨tx.toArray⟩, .int .i64 tl, .int .i64 tc] 24 (0, 0))).heap[W1.heap.size]? = some (.cells #[.int .i64 (kd : Int), .string ⟨tx.toArray⟩, .int .i64 tl, .int .i64 tc] 24 (0, 0))) := alloc_getZ _ _
    clear HT b1 hbt
    go_wp2_with fail
    refine HSC.mono ?_
    rintro e W2 ⟨v, rfl, o2, b2⟩
    obtain ⟨S, hS⟩ : ∃ S, scanM tx = S := ⟨_, rfl⟩
    have HOF : Hid (ofB kd tx = match S.1 with | t :: _ => t.1 == kd && t.2.1 == tx | [] => false) := by show ofB kd tx = _; unfold ofB; rw [hS]
    rw [hS] at o2 ⊢
    obtain ⟨l, s1, s2, s3⟩ := S
    simp only at o2 ⊢
    have hbx := keepZ b2 HBX.out
    have f1 := (cellsZ hbx).1
    have HB2 : Hid (Below W.heap.size W W2) := bel0Z (belAZ HB1.out _) b2
    clear hS HSC hbx HBX b2
    cases l with
    | nil =>
      obtain ⟨pv, cv, rfl⟩ := shapeZ o2
      simp only at HOF
      clear o2
      go_wp2_with fail
      go_quiet (fail)
      go_wp2_with fail
      go_ret
      exact ⟨by rw [HOF.out]; first | rfl | simp_all, bel_drewZ nq HB2.out⟩
    | cons t ls =>
      obtain ⟨t1, t2, t3, t4⟩ := t
      obtain ⟨pv, cv, rfl⟩ := shapeZ o2
      obtain ⟨g, rfl⟩ := own_someZ o2 (by simp)
      have k0 : W2.cell? ⟨g, 0, none⟩ = some (.int .i64 (t1 : Int)) := own_atZ o2 rfl
      have k1 : W2.cell? ⟨g, 1, none⟩ = some (.string ⟨t2.toArray⟩) := own_atZ o2 rfl
      obtain ⟨N, hN⟩ : ∃ N, ((t1, t2, t3, t4) :: ls).length = N := ⟨_, rfl⟩
      have j0 : (0 : Int) < (N : Int) := by rw [← hN]; simp only [List.length_cons]; omega
      have j00 : 0 < N := by omega
      have HKC : Hid (∀ U, Below W2.heap.size W2 U → U.cell? ⟨g, 0, none⟩ = some (.int .i64 (t1 : Int)) ∧ U.cell? ⟨g, 1, none⟩ = some (.string ⟨t2.toArray⟩) ∧ U.cell? ⟨W1.heap.size, 1, none⟩ = some (.string ⟨tx.toArray⟩)) := fun U hU => ⟨(hU.cell (World.block_lt_of_cell? W2 _ k0)).trans k0, (hU.cell (World.block_lt_of_cell? W2 _ k1)).trans k1, (hU.cell (World.block_lt_of_cell? W2 _ (show W2.cell? ⟨W1.heap.size, 1, none⟩ = some (.string ⟨tx.toArray⟩) by rw [f1]; rfl))).trans (by rw [f1]; rfl)⟩
      rw [hN]
      simp only at HOF
      clear o2 hN k0 k1 f1
      by_cases h1 : t1 = kd
      · subst h1
        by_cases h2 : t2 = tx
        · have y3 : (t2 == tx) = true := beq_iff_eq.2 h2
          subst h2
          go_wp2_with fail
          refine quiet_lit3 (C := fun U => Below W2.heap.size W2 U) (by kernel_rfl) (by kernel_rfl) (show Below _ _ _ from (Below.refl _ _).drew) ?_
          go_big_quiet_want
          go_big_quiet_op
          go_big_quiet_on
          go_big_quiet_want
          refine ⟨.int .i64 (N : Int), fun W hW => ?_, ?_⟩
          · go_simp
          go_big_quiet_on
          simp only [Act.put, List.setIfInBounds_toArray, List.set_cons_zero, List.set_cons_succ]
          go_big_quiet_want
          refine ⟨.bool true, fun W hW => ?_, ?_⟩
          · go_simp
          go_big_quiet_on
          simp only [Act.put, List.setIfInBounds_toArray, List.set_cons_zero, List.set_cons_succ]
          go_big_quiet_want
          go_big_quiet_op
          go_big_quiet_on
          go_big_quiet_want
          go_big_quiet_op
          go_big_quiet_on
          go_big_quiet_want
          refine ⟨.pointer (some ⟨g, 0, none⟩), fun W hW => ?_, ?_⟩
          · go_simp
          go_big_quiet_on
          simp only [Act.put, List.setIfInBounds_toArray, List.set_cons_zero, List.set_cons_succ]
          go_big_quiet_want
          refine ⟨.pointer (some ⟨g, 0, none⟩), fun W hW => ?_, ?_⟩
          · go_simp
          go_big_quiet_on
          simp only [Act.put, List.setIfInBounds_toArray, List.set_cons_zero, List.set_cons_succ]
          go_big_quiet_want
          refine ⟨.int .i64 (t1 : Int), fun W hW => ?_, ?_⟩
          · obtain ⟨q0, q1, q2⟩ := HKC.out W hW
            go_simp
          go_big_quiet_on
          simp only [Act.put, List.setIfInBounds_toArray, List.set_cons_zero, List.set_cons_succ]
          go_big_quiet_want
          go_big_quiet_op
          go_big_quiet_on
          go_big_quiet_want
          refine ⟨.bool true, fun W hW => ?_, ?_⟩
          · go_simp
          go_big_quiet_on
          simp only [Act.put, List.setIfInBounds_toArray, List.set_cons_zero, List.set_cons_succ]
          go_big_quiet_want
          refine ⟨.bool true, fun W hW => ?_, ?_⟩
          · go_simp
          go_big_quiet_on
          simp only [Act.put, List.setIfInBounds_toArray, List.set_cons_zero, List.set_cons_succ]
          go_big_quiet_want
          go_big_quiet_op
          go_big_quiet_on
          go_big_quiet_want
          go_big_quiet_op
          go_big_quiet_on
          go_big_quiet_want
          refine ⟨.pointer (some ⟨g, 0, none⟩), fun W hW => ?_, ?_⟩
          · go_simp
          go_big_quiet_on
          simp only [Act.put, List.setIfInBounds_toArray, List.set_cons_zero, List.set_cons_succ]
          go_big_quiet_want
          refine ⟨.pointer (some ⟨g, 1, none⟩), fun W hW => ?_, ?_⟩
          · go_simp
          go_big_quiet_on
          simp only [Act.put, List.setIfInBounds_toArray, List.set_cons_zero, List.set_cons_succ]
          go_big_quiet_want
          refine ⟨.string ⟨t2.toArray⟩, fun W hW => ?_, ?_⟩
          · obtain ⟨q0, q1, q2⟩ := HKC.out W hW
            go_simp
          go_big_quiet_on
          simp only [Act.put, List.setIfInBounds_toArray, List.set_cons_zero, List.set_cons_succ]
          go_big_quiet_want
          refine ⟨.pointer (some ⟨W1.heap.size, 1, none⟩), fun W hW => ?_, ?_⟩
          · go_simp
          go_big_quiet_on
          simp only [Act.put, List.setIfInBounds_toArray, List.set_cons_zero, List.set_cons_succ]
          go_big_quiet_want
          refine ⟨.string ⟨t2.toArray⟩, fun W hW => ?_, ?_⟩
          · obtain ⟨q0, q1, q2⟩ := HKC.out W hW
            go_simp
          go_big_quiet_on
          simp only [Act.put, List.setIfInBounds_toArray, List.set_cons_zero, List.set_cons_succ]
          go_big_quiet_want
          refine ⟨.bool true, fun W hW => ?_, ?_⟩
          · go_simp
          go_big_quiet_on
          simp only [Act.put, List.setIfInBounds_toArray, List.set_cons_zero, List.set_cons_succ]
          go_big_quiet_want
          refine ⟨.bool true, fun W hW => ?_, ?_⟩
          · go_simp
          go_big_quiet_on
          simp only [Act.put, List.setIfInBounds_toArray, List.set_cons_zero, List.set_cons_succ]
          go_big_quiet_want
          go_big_quiet_op
          go_big_quiet_on
          refine wpQuiet_nil ?_
          intro W5 hW5
          have HB5 : Hid (Below W.heap.size W W5) := bel0Z HB2.out hW5
          clear hW5 HKC
          go_wp2_with fail
          go_ret
          exact ⟨by rw [HOF.out]; first | rfl | simp_all, HB5.out⟩
        · have y3 : (t2 == tx) = false := beq_eq_false_iff_ne.2 h2
          go_wp2_with fail
          refine quiet_lit3 (C := fun U => Below W2.heap.size W2 U) (by kernel_rfl) (by kernel_rfl) (show Below _ _ _ from (Below.refl _ _).drew) ?_
          go_big_quiet_want
          go_big_quiet_op
          go_big_quiet_on
          go_big_quiet_want
          refine ⟨.int .i64 (N : Int), fun W hW => ?_, ?_⟩
          · go_simp
          go_big_quiet_on
          simp only [Act.put, List.setIfInBounds_toArray, List.set_cons_zero, List.set_cons_succ]
          go_big_quiet_want
          refine ⟨.bool true, fun W hW => ?_, ?_⟩
          · go_simp
          go_big_quiet_on
          simp only [Act.put, List.setIfInBounds_toArray, List.set_cons_zero, List.set_cons_succ]
          go_big_quiet_want
          go_big_quiet_op
          go_big_quiet_on
          go_big_quiet_want
          go_big_quiet_op
          go_big_quiet_on
          go_big_quiet_want
          refine ⟨.pointer (some ⟨g, 0, none⟩), fun W hW => ?_, ?_⟩
          · go_simp
          go_big_quiet_on
          simp only [Act.put, List.setIfInBounds_toArray, List.set_cons_zero, List.set_cons_succ]
          go_big_quiet_want
          refine ⟨.pointer (some ⟨g, 0, none⟩), fun W hW => ?_, ?_⟩
          · go_simp
          go_big_quiet_on
          simp only [Act.put, List.setIfInBounds_toArray, List.set_cons_zero, List.set_cons_succ]
          go_big_quiet_want
          refine ⟨.int .i64 (t1 : Int), fun W hW => ?_, ?_⟩
          · obtain ⟨q0, q1, q2⟩ := HKC.out W hW
            go_simp
          go_big_quiet_on
          simp only [Act.put, List.setIfInBounds_toArray, List.set_cons_zero, List.set_cons_succ]
          go_big_quiet_want
          go_big_quiet_op
          go_big_quiet_on
          go_big_quiet_want
          refine ⟨.bool true, fun W hW => ?_, ?_⟩
          · go_simp
          go_big_quiet_on
          simp only [Act.put, List.setIfInBounds_toArray, List.set_cons_zero, List.set_cons_succ]
          go_big_quiet_want
          refine ⟨.bool true, fun W hW => ?_, ?_⟩
          · go_simp
          go_big_quiet_on
          simp only [Act.put, List.setIfInBounds_toArray, List.set_cons_zero, List.set_cons_succ]
          go_big_quiet_want
          go_big_quiet_op
          go_big_quiet_on
          go_big_quiet_want
          go_big_quiet_op
          go_big_quiet_on
          go_big_quiet_want
          refine ⟨.pointer (some ⟨g, 0, none⟩), fun W hW => ?_, ?_⟩
          · go_simp
          go_big_quiet_on
          simp only [Act.put, List.setIfInBounds_toArray, List.set_cons_zero, List.set_cons_succ]
          go_big_quiet_want
          refine ⟨.pointer (some ⟨g, 1, none⟩), fun W hW => ?_, ?_⟩
          · go_simp
          go_big_quiet_on
          simp only [Act.put, List.setIfInBounds_toArray, List.set_cons_zero, List.set_cons_succ]
          go_big_quiet_want
          refine ⟨.string ⟨t2.toArray⟩, fun W hW => ?_, ?_⟩
          · obtain ⟨q0, q1, q2⟩ := HKC.out W hW
            go_simp
          go_big_quiet_on
          simp only [Act.put, List.setIfInBounds_toArray, List.set_cons_zero, List.set_cons_succ]
          go_big_quiet_want
          refine ⟨.pointer (some ⟨W1.heap.size, 1, none⟩), fun W hW => ?_, ?_⟩
          · go_simp
          go_big_quiet_on
          simp only [Act.put, List.setIfInBounds_toArray, List.set_cons_zero, List.set_cons_succ]
          go_big_quiet_want
          refine ⟨.string ⟨tx.toArray⟩, fun W hW => ?_, ?_⟩
          · obtain ⟨q0, q1, q2⟩ := HKC.out W hW
            go_simp
          go_big_quiet_on
          simp only [Act.put, List.setIfInBounds_toArray, List.set_cons_zero, List.set_cons_succ]
          go_big_quiet_want
          refine ⟨.bool false, fun W hW => ?_, ?_⟩
          · go_simp
          go_big_quiet_on
          simp only [Act.put, List.setIfInBounds_toArray, List.set_cons_zero, List.set_cons_succ]
          go_big_quiet_want
          refine ⟨.bool false, fun W hW => ?_, ?_⟩
          · go_simp
          go_big_quiet_on
          simp only [Act.put, List.setIfInBounds_toArray, List.set_cons_zero, List.set_cons_succ]
          go_big_quiet_want
          go_big_quiet_op
          go_big_quiet_on
          refine wpQuiet_nil ?_
          intro W5 hW5
          have HB5 : Hid (Below W.heap.size W W5) := bel0Z HB2.out hW5
          clear hW5 HKC
          go_wp2_with fail
          go_ret
          exact ⟨by rw [HOF.out]; first | rfl | simp_all, HB5.out⟩
      · have y3 : ((t1 : Int) == (kd : Int)) = false := beq_eq_false_iff_ne.2 (by omega)
        have y4 : (t1 == kd) = false := beq_eq_false_iff_ne.2 h1
        go_wp2_with fail
        refine quiet_lit3 (C := fun U => Below W2.heap.size W2 U) (by kernel_rfl) (by kernel_rfl) (show Below _ _ _ from (Below.refl _ _).drew) ?_
        go_big_quiet_want
        go_big_quiet_op
        go_big_quiet_on
        go_big_quiet_want
        refine ⟨.int .i64 (N : Int), fun W hW => ?_, ?_⟩
        · go_simp
        go_big_quiet_on
        simp only [Act.put, List.setIfInBounds_toArray, List.set_cons_zero, List.set_cons_succ]
        go_big_quiet_want
        refine ⟨.bool true, fun W hW => ?_, ?_⟩
        · go_simp
        go_big_quiet_on
        simp only [Act.put, List.setIfInBounds_toArray, List.set_cons_zero, List.set_cons_succ]
        go_big_quiet_want
        go_big_quiet_op
        go_big_quiet_on
        go_big_quiet_want
        go_big_quiet_op
        go_big_quiet_on
        go_big_quiet_want
        refine ⟨.pointer (some ⟨g, 0, none⟩), fun W hW => ?_, ?_⟩
        · go_simp
        go_big_quiet_on
        simp only [Act.put, List.setIfInBounds_toArray, List.set_cons_zero, List.set_cons_succ]
        go_big_quiet_want
        refine ⟨.pointer (some ⟨g, 0, none⟩), fun W hW => ?_, ?_⟩
        · go_simp
        go_big_quiet_on
        simp only [Act.put, List.setIfInBounds_toArray, List.set_cons_zero, List.set_cons_succ]
        go_big_quiet_want
        refine ⟨.int .i64 (t1 : Int), fun W hW => ?_, ?_⟩
        · obtain ⟨q0, q1, q2⟩ := HKC.out W hW
          go_simp
        go_big_quiet_on
        simp only [Act.put, List.setIfInBounds_toArray, List.set_cons_zero, List.set_cons_succ]
        go_big_quiet_want
        go_big_quiet_op
        go_big_quiet_on
        go_big_quiet_want
        refine ⟨.bool false, fun W hW => ?_, ?_⟩
        · go_simp
        go_big_quiet_on
        simp only [Act.put, List.setIfInBounds_toArray, List.set_cons_zero, List.set_cons_succ]
        go_big_quiet_want
        refine ⟨.bool false, fun W hW => ?_, ?_⟩
        · go_simp
        go_big_quiet_on
        simp only [Act.put, List.setIfInBounds_toArray, List.set_cons_zero, List.set_cons_succ]
        go_big_quiet_want
        go_big_quiet_op
        go_big_quiet_on
        go_big_quiet_skip
        go_big_quiet_skip
        go_big_quiet_skip
        go_big_quiet_skip
        go_big_quiet_skip
        go_big_quiet_skip
        go_big_quiet_skip
        go_big_quiet_want
        refine ⟨.bool false, fun W hW => ?_, ?_⟩
        · go_simp
        go_big_quiet_on
        simp only [Act.put, List.setIfInBounds_toArray, List.set_cons_zero, List.set_cons_succ]
        go_big_quiet_want
        go_big_quiet_op
        go_big_quiet_on
        refine wpQuiet_nil ?_
        intro W5 hW5
        have HB5 : Hid (Below W.heap.size W W5) := bel0Z HB2.out hW5
        clear hW5 HKC
        go_wp2_with fail
        go_ret
        exact ⟨by rw [HOF.out]; first | rfl | simp_all, HB5.out⟩
  · have HR : Hid ((tk == (kd : Int) && ofB kd tx) = false) := by show (_ && _) = _; simp [hk]
    rw [HR.out]
    have y1 : (tk == (kd : Int)) = false := beq_eq_false_iff_ne.2 hk
    have y2 : (tk != (kd : Int)) = true := by simp only [bne, y1]; rfl
    go_enter Tryz.func56, Tryz.ntmps56
    go_wp2_with fail
    refine HT.mono ?_
    rintro e W1 ⟨rfl, b1⟩
    clear HT
    go_wp2_with fail
    go_ret
    exact ⟨rfl, belAZ b1 _⟩
end Go.Proofs.YtffgkjmfeannoaaGreatDoor.Ex
namespace Go.Proofs.YtffgkjmfeannoaaGreatDoor.Ex
open Go.RowKit
variable {w0 W X : World} {b : Nat} {pt : Option Addr} {ct : Nat} {L : List XTok} {i o m : Nat} {out : List Nd}
def BT (W : World) (bt : Nat) (cs : Array Value) : Prop := W.heap[bt]? = some (.cells cs 48 (0, 0))
theorem BT.below {bt : Nat} {cs : Array Value} (h : BT W bt cs) (hb : Below W.heap.size W X) : BT X bt cs := keepZ hb h
theorem bt_ne {bt : Nat} {cs : Array Value} (h : BT W bt cs) (hs : ST w0 b pt ct L W i o m out) : bt ≠ b := by
  rintro rfl
  obtain ⟨⟨vn, h1, _⟩, _⟩ := hs
  unfold BT at h
  rw [h] at h1
  injection h1 with h1
  injection h1 with _ h1 _
  cases h1
theorem ST.other {bt j : Nat} {cs : Array Value} (hs : ST w0 b pt ct L W i o m out) (h : BT W bt cs) (hbt : w0.heap.size ≤ bt) (u : Value) : ST w0 b pt ct L (W.setCell ⟨bt, j, none⟩ u) i o m out := by
  have hne := bt_ne h hs
  obtain ⟨⟨vn, h1, h2⟩, h3, h4⟩ := hs
  exact ⟨⟨vn, (heap_setCell_other W ⟨bt, j, none⟩ b u (fun e => hne e.symm)).trans h1, World.ownsRow.kept h2 (gr_setZ _ _ _ _) (.inr (own_box_ne h2 h (by decide)))⟩, h3.setCell hbt _, h4⟩
theorem BT.set {bt j : Nat} {cs : Array Value} (h : BT W bt cs) (u : Value) : BT (W.setCell ⟨bt, j, none⟩ u) bt (cs.setIfInBounds j u) := set_getZ u h
theorem BT.other {bt j : Nat} {cs : Array Value} (h : BT W bt cs) (hne : bt ≠ b) (u : Value) : BT (W.setCell ⟨b, j, none⟩ u) bt cs := (heap_setCell_other W ⟨b, j, none⟩ bt u hne).trans h
def nvX (t : XTok) : Option Int := if t.1 = 4 then (if valE t.2.1 = 0 then some (valV t.2.1) else none) else none
set_option maxRecDepth 100000 in
set_option maxHeartbeats 8000000 in
theorem number_any (bt j : Nat) (cs : Array Value) (hX : XR w0 pt L) (hb : w0.heap.size ≤ b) (hlen : L.length ≤ 100000) (hT : TAB w0) (hS : shT L) (h : ST w0 b pt ct L W i o m out) (hB : BT W bt cs) (hbt : w0.heap.size ≤ bt) (z0 : Int) (hj : cs[j]? = some (.int .i64 z0)) (hil : i < L.length ∨ nvX (tokAt L i) = none) :
    Calls Tryz.prog 96 #[.pointer (some ⟨b, 0, none⟩), .pointer (some ⟨bt, j, none⟩)] W fun e W' => (nvX (tokAt L i) = none ∧ e = .returned (.bool false) ∧ ST w0 b pt ct L W' i o m out ∧ BT W' bt cs) ∨ (∃ v, nvX (tokAt L i) = some v ∧ e = .returned (.bool true) ∧ ST w0 b pt ct L W' (i + 1) o m out ∧ BT W' bt (cs.setIfInBounds j (.int .i64 v))) := by
  have HT := token_any hX hlen h
  have hsz := hS.at i
  obtain ⟨⟨tk, tx, tl, tc⟩, ht⟩ : ∃ t, tokAt L i = t := ⟨_, rfl⟩
  rw [ht] at HT hsz hil ⊢
  have HTB : Hid (TAB w0) := hT
  have HST : Hid (ST w0 b pt ct L W i o m out ∧ BT W bt cs ∧ w0.heap.size ≤ b ∧ w0.heap.size ≤ bt) := ⟨h, hB, hb, hbt⟩
  have HIL : Hid (i < L.length ∨ nvX (tk, tx, tl, tc) = none) := hil
  have HJ : Hid (cs[j]? = some (.int .i64 z0)) := hj
  clear h hX ht hT hS hB hb hbt hil hj
  unfold tokV at HT
  simp only at HT hsz
  obtain ⟨V, hV⟩ : ∃ V, valV tx = V := ⟨_, rfl⟩
  obtain ⟨E, hE⟩ : ∃ E, valE tx = E := ⟨_, rfl⟩
  have HNV : Hid (nvX (tk, tx, tl, tc) = if tk = 4 then (if E = 0 then some V else none) else none) := by show nvX _ = _; unfold nvX; rw [hV, hE]
  rw [HNV.out] at HIL ⊢
  have HVL : Hid (∀ U, Below w0.heap.size w0 U → Calls Tryz.prog 89 #[.string ⟨tx.toArray⟩] U fun e w' => e = .returned (.tuple #[.int .i64 V, .int .i64 E]) ∧ Below U.heap.size U w') := fun U hU => by
    have := value_any tx U hsz (HTB.out U hU).2.2
    rw [hV, hE] at this
    exact this
  clear hV hE HNV hsz
  by_cases hk : tk = 4
  · by_cases h0 : E = 0
    · rw [if_pos hk, if_pos h0] at HIL ⊢
      have hil : i < L.length := by rcases HIL.out with h | h; exact h; cases h
      have y1 : (tk == 4) = true := beq_iff_eq.2 hk
      subst h0 hk
      have y5 : IntKind.i64.wrap ((i : Int) + 1) = (i : Int) + 1 := by rw [IntKind.wrap_i64]; omega
      have HI : Hid (i < L.length) := hil
      clear hil HIL
      go_enter Tryz.func96, Tryz.ntmps96
      go_wp2_with fail
      refine HT.mono ?_
      rintro e W1 ⟨rfl, b1⟩
      have HB1 : Hid (Below W.heap.size W W1) := b1
      have HV1 := HVL.out (W1.alloc (.cells #[.int .i64 4, .string ⟨tx.toArray⟩, .int .i64 tl, .int .i64 tc] 24 (0, 0))) (bel0Z HST.out.1.2.1 (belAZ b1 _))
      have HBX : Hid ((W1.alloc (.cells #[.int .i64 4, .string ⟨tx.toArray⟩, .int .i64 tl, .int .i64 tc] 24 (0, 0))).heap[W1.heap.size]? = some (.cells #[.int .i64 4, .string ⟨tx.toArray⟩, .int .i64 tl, .int .i64 tc] 24 (0, 0))) := alloc_getZ _ _
      clear HT b1
      go_wp2_with fail
      refine HV1.mono ?_
      rintro e W2 ⟨rfl, b2⟩
      have f1 := (cellsZ (keepZ b2 HBX.out)).1
      have hst := HST.out.1.below (bel0Z (belAZ HB1.out _) b2)
      have hbt2 := HST.out.2.1.below (bel0Z (belAZ HB1.out _) b2)
      have hne := bt_ne hbt2 hst
      have g1 := (cellsZ hbt2).1 j
      rw [HJ.out] at g1
      have gf := (cellsZ hbt2).2 j
      have hst3 := hst.other (j := j) hbt2 HST.out.2.2.2 (.int .i64 V)
      obtain ⟨c0, c1, c2, c3, cf⟩ := hst3.cells
      have cf1 := cf 1
      have HF : Hid (ST w0 b pt ct L ((W2.setCell ⟨bt, j, none⟩ (.int .i64 V)).setCell ⟨b, 1, none⟩ (.int .i64 ((i : Int) + 1))) (i + 1) o m out ∧ BT ((W2.setCell ⟨bt, j, none⟩ (.int .i64 V)).setCell ⟨b, 1, none⟩ (.int .i64 ((i : Int) + 1))) bt (cs.setIfInBounds j (.int .i64 V))) := ⟨hst3.set HST.out.2.2.1 (i' := i + 1) (o' := o) (m' := m) 1 _ (by have := HI.out; omega) (fun vn => by simp), (hbt2.set _).other hne _⟩
      clear hst hst3 hbt2 hne cf HV1 b2 HBX c0 c2 c3
      go_wp2_with fail
      go_ret
      exact .inr ⟨V, rfl, rfl, HF.out.1, HF.out.2⟩
    · rw [if_pos hk, if_neg h0]
      have y1 : (tk == 4) = true := beq_iff_eq.2 hk
      have y2 : (E == 0) = false := beq_eq_false_iff_ne.2 h0
      have y3 : (E != 0) = true := by simp only [bne, y2]; rfl
      subst hk
      clear HIL h0
      go_enter Tryz.func96, Tryz.ntmps96
      go_wp2_with fail
      refine HT.mono ?_
      rintro e W1 ⟨rfl, b1⟩
      have HB1 : Hid (Below W.heap.size W W1) := b1
      have HV1 := HVL.out (W1.alloc (.cells #[.int .i64 4, .string ⟨tx.toArray⟩, .int .i64 tl, .int .i64 tc] 24 (0, 0))) (bel0Z HST.out.1.2.1 (belAZ b1 _))
      have HBX : Hid ((W1.alloc (.cells #[.int .i64 4, .string ⟨tx.toArray⟩, .int .i64 tl, .int .i64 tc] 24 (0, 0))).heap[W1.heap.size]? = some (.cells #[.int .i64 4, .string ⟨tx.toArray⟩, .int .i64 tl, .int .i64 tc] 24 (0, 0))) := alloc_getZ _ _
      clear HT b1
      go_wp2_with fail
      refine HV1.mono ?_
      rintro e W2 ⟨rfl, b2⟩
      have f1 := (cellsZ (keepZ b2 HBX.out)).1
      have HF : Hid (ST w0 b pt ct L W2 i o m out ∧ BT W2 bt cs) := ⟨HST.out.1.below (bel0Z (belAZ HB1.out _) b2), HST.out.2.1.below (bel0Z (belAZ HB1.out _) b2)⟩
      clear HV1 b2 HBX
      go_wp2_with fail
      go_ret
      exact .inl ⟨by trivial, rfl, HF.out.1, HF.out.2⟩
  · rw [if_neg hk]
    have y1 : (tk == 4) = false := beq_eq_false_iff_ne.2 hk
    have y3 : (tk != 4) = true := by simp only [bne, y1]; rfl
    clear HIL
    go_enter Tryz.func96, Tryz.ntmps96
    go_wp2_with fail
    refine HT.mono ?_
    rintro e W1 ⟨rfl, b1⟩
    have HB1 : Hid (Below W.heap.size W W1) := b1
    have HV1 := HVL.out (W1.alloc (.cells #[.int .i64 tk, .string ⟨tx.toArray⟩, .int .i64 tl, .int .i64 tc] 24 (0, 0))) (bel0Z HST.out.1.2.1 (belAZ b1 _))
    have HBX : Hid ((W1.alloc (.cells #[.int .i64 tk, .string ⟨tx.toArray⟩, .int .i64 tl, .int .i64 tc] 24 (0, 0))).heap[W1.heap.size]? = some (.cells #[.int .i64 tk, .string ⟨tx.toArray⟩, .int .i64 tl, .int .i64 tc] 24 (0, 0))) := alloc_getZ _ _
    clear HT b1
    go_wp2_with fail
    refine HV1.mono ?_
    rintro e W2 ⟨rfl, b2⟩
    have f1 := (cellsZ (keepZ b2 HBX.out)).1
    have HF : Hid (ST w0 b pt ct L W2 i o m out ∧ BT W2 bt cs) := ⟨HST.out.1.below (bel0Z (belAZ HB1.out _) b2), HST.out.2.1.below (bel0Z (belAZ HB1.out _) b2)⟩
    clear HV1 b2 HBX
    go_wp2_with fail
    go_ret
    exact .inl ⟨by trivial, rfl, HF.out.1, HF.out.2⟩
end Go.Proofs.YtffgkjmfeannoaaGreatDoor.Ex
