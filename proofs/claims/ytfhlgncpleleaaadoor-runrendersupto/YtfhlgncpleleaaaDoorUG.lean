import Derived.Test.YtfhlgncpleleaaaDoorUF
import Derived.Lib.ItoaLen
import Derived.Lib.AppendIntMem
namespace Go.Proofs.YtfhlgncpleleaaaDoor
open Go.RowKit Go.Shelf
theorem tab_belowZ {w W : World} (h : Lib.TabIs Tryd.prog w "internal/strconv.uint64pow10" .u64 Lib.pow10Tab) (hb : Below w.heap.size w W) : Lib.TabIs Tryd.prog W "internal/strconv.uint64pow10" .u64 Lib.pow10Tab := by
  unfold Lib.TabIs World.var? at h ⊢
  cases hg : Tryd.prog.globalNamed "internal/strconv.uint64pow10" with
  | none => rw [hg] at h; cases h
  | some g =>
    rw [hg] at h
    simp only [Option.bind_some] at h ⊢
    cases hw : w.heap[g]? with
    | none => rw [hw] at h; cases h
    | some o => rw [keepZ hb hw]; rw [hw] at h; exact h
structure TBL (w : World) : Prop where
  pow : Lib.TabIs Tryd.prog w "internal/strconv.uint64pow10" .u64 Lib.pow10Tab
  wd : TWD w
theorem TBL.below {w W : World} (h : TBL w) (hb : Below w.heap.size w W) : TBL W := ⟨tab_belowZ h.pow hb, fun j h1 h2 => (hb.cell (World.block_lt_of_cell? w _ (h.wd j h1 h2))).trans (h.wd j h1 h2)⟩
theorem itoaU (n : Int) (h0 : -9223372036854775808 ≤ n) (h1 : n ≤ 9223372036854775807) (w : World) (ht : TBL w) :
    Calls Tryd.prog 8 #[.int .i64 n] w fun e w' => e = .returned (.string ⟨(itL n).toArray⟩) ∧ Below w.heap.size w w' :=
  (Any.strconv_Itoa Tryd.l171 n h0 h1 w ht.pow).mono fun e w' ⟨he, k, os, hw⟩ => ⟨he, by rw [hw]; exact Lib.below_grow _ w (Nat.le_refl _) k os⟩
/-- a row of replies lies there, now and later -/
def RDR (W : World) (q : Option Addr) (Es : List VR) : Prop := ∀ X, Below W.heap.size W X → ∀ (i : Nat) (e : VR), Es[i]? = some e → (∃ g o0, q = some ⟨g, o0, none⟩ ∧ ∀ (j : Nat) (v : Value), e.vs[j]? = some v → X.cell? ⟨g, o0 + i * 9 + j, none⟩ = some v) ∧ VOK X e
theorem RDR.later {W X : World} {q : Option Addr} {Es : List VR} (h : RDR W q Es) (hb : Below W.heap.size W X) : RDR X q Es := fun Y hY => h Y (bel0Z hb hY)
def rps (Es : List VR) : List RP := Es.map (fun e => e.r)
def flR (Es : List VR) : List UInt8 := (rps Es).flatMap rnR
theorem flR_succ {Es : List VR} {i : Nat} {e : VR} (h : Es[i]? = some e) : flR (Es.take (i + 1)) = flR (Es.take i) ++ rnR e.r := by
  unfold flR rps
  rw [List.take_add_one, h, Option.toList_some, List.map_append, List.flatMap_append]
  simp
theorem flR_le (Es : List VR) (i : Nat) : (flR (Es.take i)).length ≤ (flR Es).length := by
  have : flR Es = flR (Es.take i) ++ flR (Es.drop i) := by
    unfold flR rps
    rw [← List.flatMap_append, ← List.map_append, List.take_append_drop]
  rw [this, List.length_append]
  omega
/-- the sizes that are met -/
structure BND (s : RS) (Es : List VR) : Prop where
  c0 : -9223372036854775808 ≤ s.c
  c1 : s.c ≤ 9223372036854775807
  l0 : -9223372036854775808 ≤ s.l
  l1 : s.l ≤ 9223372036854775807
  tot : (flR Es).length ≤ 100000000000
  cnt : Es.length ≤ 1000000000
  each : ∀ e ∈ Es, e.r.po.length ≤ 1000000000 ∧ e.r.en.length ≤ 1000000000 ∧ e.r.li.length ≤ 1000000000
set_option maxRecDepth 100000 in
set_option maxHeartbeats 16000000 in
theorem render_any (s : RS) (Es : List VR) (q : Option Addr) (n c : Nat) (w : World) (hn : Es.length = n) (hr : RDR w q Es) (ht : TBL w) (hB : BND s Es) :
    Calls Tryd.prog 5 #[.agg #[.int .i64 s.k, .int .i64 s.c, .int .i64 s.t, .int .i64 s.l, .slice q n c]] w fun e w' => e = .returned (.string ⟨(rnS s (rps Es)).toArray⟩) ∧ Below w.heap.size w w' := by
  obtain ⟨k, cd, tx, ln⟩ := s
  simp only
  obtain ⟨bb, hbb⟩ : ∃ bb, w.heap.size = bb := ⟨_, rfl⟩
  obtain ⟨cdT, hcd⟩ : ∃ T, itL cd = T := ⟨_, rfl⟩
  obtain ⟨lnT, hln⟩ : ∃ T, itL ln = T := ⟨_, rfl⟩
  have lc : cdT.length ≤ 21 := by rw [← hcd]; exact Lib.itoa_length_le cd hB.c0 hB.c1
  have ll : lnT.length ≤ 21 := by rw [← hln]; exact Lib.itoa_length_le ln hB.l0 hB.l1
  have HWA : Hid (Below w.heap.size w (w.alloc (.cells #[.int .i64 k, .int .i64 cd, .int .i64 tx, .int .i64 ln, .slice q n c] 25 (0, 0)))) := belAZ (Below.refl _ _) _
  have HCL : Hid (∀ U, BLZ (w.alloc (.cells #[.int .i64 k, .int .i64 cd, .int .i64 tx, .int .i64 ln, .slice q n c] 25 (0, 0))) U → ∀ j, U.cell? ⟨bb, j, none⟩ = (#[.int .i64 k, .int .i64 cd, .int .i64 tx, .int .i64 ln, .slice q n c] : Array Value)[j]?) := fun U hU => (cellsZ (keepZ (show Below _ _ _ from hU) (by rw [← hbb]; exact alloc_getZ _ _))).1
  have HI1 : Hid (∀ U, BLZ (w.alloc (.cells #[.int .i64 k, .int .i64 cd, .int .i64 tx, .int .i64 ln, .slice q n c] 25 (0, 0))) U → Calls Tryd.prog 8 #[.int .i64 cd] U fun e w' => e = .returned (.string ⟨cdT.toArray⟩) ∧ Below U.heap.size U w') := fun U hU => by rw [← hcd]; exact itoaU cd hB.c0 hB.c1 U (ht.below (bel0Z HWA.out hU))
  have HI2 : Hid (∀ U, BLZ (w.alloc (.cells #[.int .i64 k, .int .i64 cd, .int .i64 tx, .int .i64 ln, .slice q n c] 25 (0, 0))) U → Calls Tryd.prog 8 #[.int .i64 ln] U fun e w' => e = .returned (.string ⟨lnT.toArray⟩) ∧ Below U.heap.size U w') := fun U hU => by rw [← hln]; exact itoaU ln hB.l0 hB.l1 U (ht.below (bel0Z HWA.out hU))
  have HR : Hid (RDR w q Es ∧ TBL w ∧ BND ⟨k, cd, tx, ln⟩ Es ∧ Es.length = n) := ⟨hr, ht, hB, hn⟩
  clear hr ht hB hn
  go_enter Tryd.func5, Tryd.ntmps5
  go_wp2_with fail
  refine quiet_lit3 (C := fun U => BLZ (w.alloc (.cells #[.int .i64 k, .int .i64 cd, .int .i64 tx, .int .i64 ln, .slice q n c] 25 (0, 0))) U) (by kernel_rfl) (by kernel_rfl) (show BLZ _ _ from Below.drew (Below.refl _ _)) ?_
  go_big_quiet_want
  refine ⟨.pointer (some ⟨bb, 1, none⟩), fun W hW => ?_, ?_⟩
  · go_simp
  go_big_quiet_on
  simp only [Act.put, List.setIfInBounds_toArray, List.set_cons_zero, List.set_cons_succ]
  go_big_quiet_want
  refine ⟨.int .i64 cd, fun W hW => ?_, ?_⟩
  · have s1 := HCL.out W hW
    go_simp
  go_big_quiet_on
  simp only [Act.put, List.setIfInBounds_toArray, List.set_cons_zero, List.set_cons_succ]
  go_big_quiet_want
  refine ⟨.string ⟨cdT.toArray⟩, fun W hW => ?_, ?_⟩
  · go_simp
    refine (HI1.out W hW).mono ?_
    rintro e w7 ⟨rfl, hb⟩
    exact ⟨rfl, hW.trans hb⟩
  go_big_quiet_on
  simp only [Act.put, List.setIfInBounds_toArray, List.set_cons_zero, List.set_cons_succ]
  go_big_quiet_want
  refine ⟨.pointer (some ⟨bb, 3, none⟩), fun W hW => ?_, ?_⟩
  · go_simp
  go_big_quiet_on
  simp only [Act.put, List.setIfInBounds_toArray, List.set_cons_zero, List.set_cons_succ]
  go_big_quiet_want
  refine ⟨.int .i64 ln, fun W hW => ?_, ?_⟩
  · have s1 := HCL.out W hW
    go_simp
  go_big_quiet_on
  simp only [Act.put, List.setIfInBounds_toArray, List.set_cons_zero, List.set_cons_succ]
  go_big_quiet_want
  refine ⟨.string ⟨lnT.toArray⟩, fun W hW => ?_, ?_⟩
  · go_simp
    refine (HI2.out W hW).mono ?_
    rintro e w7 ⟨rfl, hb⟩
    exact ⟨rfl, hW.trans hb⟩
  go_big_quiet_on
  simp only [Act.put, List.setIfInBounds_toArray, List.set_cons_zero, List.set_cons_succ]
  go_big_quiet_want
  go_big_quiet_op
  go_big_quiet_on
  go_big_quiet_want
  go_big_quiet_op
  go_big_quiet_on
  refine wpQuiet_nil ?_
  intro w1 hw1
  have HW1 : Hid (BLZ (w.alloc (.cells #[.int .i64 k, .int .i64 cd, .int .i64 tx, .int .i64 ln, .slice q n c] 25 (0, 0))) w1) := hw1
  have cl := HCL.out w1 hw1
  clear hw1 HI1 HI2
  by_cases k2 : k = 2
  · subst k2
    by_cases t1 : tx = 1
    · subst t1
      have E1 : Hid ((⟨#[112, 97, 114, 115, 101, 32, 101, 114, 114, 111, 114, 32]⟩ : ByteArray) ++ ⟨cdT.toArray⟩ ++ ⟨#[32, 105, 110, 32, 116, 104, 101, 32, 99, 111, 110, 102, 105, 103, 117, 114, 97, 116, 105, 111, 110, 44, 32, 108, 105, 110, 101, 32]⟩ ++ ⟨lnT.toArray⟩ ++ ⟨#[10]⟩ = ⟨([112, 97, 114, 115, 101, 32, 101, 114, 114, 111, 114, 32] ++ cdT ++ [32, 105, 110, 32, 116, 104, 101, 32, 99, 111, 110, 102, 105, 103, 117, 114, 97, 116, 105, 111, 110, 44, 32, 108, 105, 110, 101, 32] ++ lnT ++ [10]).toArray⟩) := by
        unfold Hid
        rw [baA' ([112, 97, 114, 115, 101, 32, 101, 114, 114, 111, 114, 32]) (cdT), baA' ([112, 97, 114, 115, 101, 32, 101, 114, 114, 111, 114, 32] ++ cdT) ([32, 105, 110, 32, 116, 104, 101, 32, 99, 111, 110, 102, 105, 103, 117, 114, 97, 116, 105, 111, 110, 44, 32, 108, 105, 110, 101, 32]), baA' ([112, 97, 114, 115, 101, 32, 101, 114, 114, 111, 114, 32] ++ cdT ++ [32, 105, 110, 32, 116, 104, 101, 32, 99, 111, 110, 102, 105, 103, 117, 114, 97, 116, 105, 111, 110, 44, 32, 108, 105, 110, 101, 32]) (lnT), baA' ([112, 97, 114, 115, 101, 32, 101, 114, 114, 111, 114, 32] ++ cdT ++ [32, 105, 110, 32, 116, 104, 101, 32, 99, 111, 110, 102, 105, 103, 117, 114, 97, 116, 105, 111, 110, 44, 32, 108, 105, 110, 101, 32] ++ lnT) ([10])]
      have HE : Hid (rnS (RS.mk 2 cd 1 ln) (rps Es) = [112, 97, 114, 115, 101, 32, 101, 114, 114, 111, 114, 32] ++ cdT ++ [32, 105, 110, 32, 116, 104, 101, 32, 99, 111, 110, 102, 105, 103, 117, 114, 97, 116, 105, 111, 110, 44, 32, 108, 105, 110, 101, 32] ++ lnT ++ [10]) := by
        unfold Hid rnS
        rw [if_pos rfl, if_pos rfl]
        rw [show itL (RS.mk 2 cd 1 ln).c = cdT from hcd, show itL (RS.mk 2 cd 1 ln).l = lnT from hln]
      clear hcd hln HR
      have m0 : ¬ 9223372036854775807 < 12 + cdT.length := by omega
      have m1 : ¬ 9223372036854775807 < cdT.length + 12 + 28 := by omega
      have m2 : ¬ 9223372036854775807 < cdT.length + 12 + 28 + lnT.length := by omega
      have m3 : ¬ 9223372036854775807 < cdT.length + 12 + 28 + lnT.length + 1 := by omega
      go_wp2_with fail
      go_ret
      exact ⟨by rw [HE.out, ← E1.out]; rfl, bel0Z HWA.out HW1.out⟩
    · have t1b : (tx == 1) = false := by simpa using t1
      have E1 : Hid ((⟨#[112, 97, 114, 115, 101, 32, 101, 114, 114, 111, 114, 32]⟩ : ByteArray) ++ ⟨cdT.toArray⟩ ++ ⟨#[32, 105, 110, 32, 116, 104, 101, 32, 113, 117, 101, 114, 121, 44, 32, 108, 105, 110, 101, 32]⟩ ++ ⟨lnT.toArray⟩ ++ ⟨#[10]⟩ = ⟨([112, 97, 114, 115, 101, 32, 101, 114, 114, 111, 114, 32] ++ cdT ++ [32, 105, 110, 32, 116, 104, 101, 32, 113, 117, 101, 114, 121, 44, 32, 108, 105, 110, 101, 32] ++ lnT ++ [10]).toArray⟩) := by
        unfold Hid
        rw [baA' ([112, 97, 114, 115, 101, 32, 101, 114, 114, 111, 114, 32]) (cdT), baA' ([112, 97, 114, 115, 101, 32, 101, 114, 114, 111, 114, 32] ++ cdT) ([32, 105, 110, 32, 116, 104, 101, 32, 113, 117, 101, 114, 121, 44, 32, 108, 105, 110, 101, 32]), baA' ([112, 97, 114, 115, 101, 32, 101, 114, 114, 111, 114, 32] ++ cdT ++ [32, 105, 110, 32, 116, 104, 101, 32, 113, 117, 101, 114, 121, 44, 32, 108, 105, 110, 101, 32]) (lnT), baA' ([112, 97, 114, 115, 101, 32, 101, 114, 114, 111, 114, 32] ++ cdT ++ [32, 105, 110, 32, 116, 104, 101, 32, 113, 117, 101, 114, 121, 44, 32, 108, 105, 110, 101, 32] ++ lnT) ([10])]
      have HE : Hid (rnS (RS.mk 2 cd tx ln) (rps Es) = [112, 97, 114, 115, 101, 32, 101, 114, 114, 111, 114, 32] ++ cdT ++ [32, 105, 110, 32, 116, 104, 101, 32, 113, 117, 101, 114, 121, 44, 32, 108, 105, 110, 101, 32] ++ lnT ++ [10]) := by
        unfold Hid rnS
        rw [if_pos rfl, if_neg (show ¬ _ from t1)]
        rw [show itL (RS.mk 2 cd tx ln).c = cdT from hcd, show itL (RS.mk 2 cd tx ln).l = lnT from hln]
      clear hcd hln HR
      have m0 : ¬ 9223372036854775807 < 12 + cdT.length := by omega
      have m1 : ¬ 9223372036854775807 < cdT.length + 12 + 20 := by omega
      have m2 : ¬ 9223372036854775807 < cdT.length + 12 + 20 + lnT.length := by omega
      have m3 : ¬ 9223372036854775807 < cdT.length + 12 + 20 + lnT.length + 1 := by omega
      go_wp2_with fail
      go_ret
      exact ⟨by rw [HE.out, ← E1.out]; rfl, bel0Z HWA.out HW1.out⟩
  · have k2b : (k == 2) = false := by simpa using k2
    by_cases k3 : k = 3
    · subst k3
      by_cases t1 : tx = 1
      · subst t1
        have E1 : Hid ((⟨#[105, 108, 108, 45, 102, 111, 114, 109, 101, 100, 32]⟩ : ByteArray) ++ ⟨cdT.toArray⟩ ++ ⟨#[32, 105, 110, 32, 116, 104, 101, 32, 99, 111, 110, 102, 105, 103, 117, 114, 97, 116, 105, 111, 110, 10]⟩ = ⟨([105, 108, 108, 45, 102, 111, 114, 109, 101, 100, 32] ++ cdT ++ [32, 105, 110, 32, 116, 104, 101, 32, 99, 111, 110, 102, 105, 103, 117, 114, 97, 116, 105, 111, 110, 10]).toArray⟩) := by
          unfold Hid
          rw [baA' ([105, 108, 108, 45, 102, 111, 114, 109, 101, 100, 32]) (cdT), baA' ([105, 108, 108, 45, 102, 111, 114, 109, 101, 100, 32] ++ cdT) ([32, 105, 110, 32, 116, 104, 101, 32, 99, 111, 110, 102, 105, 103, 117, 114, 97, 116, 105, 111, 110, 10])]
        have HE : Hid (rnS (RS.mk 3 cd 1 ln) (rps Es) = [105, 108, 108, 45, 102, 111, 114, 109, 101, 100, 32] ++ cdT ++ [32, 105, 110, 32, 116, 104, 101, 32, 99, 111, 110, 102, 105, 103, 117, 114, 97, 116, 105, 111, 110, 10]) := by
          unfold Hid rnS
          rw [if_neg (show ¬ _ from k2), if_pos rfl, if_pos rfl]
          rw [show itL (RS.mk 3 cd 1 ln).c = cdT from hcd]
        clear hcd hln HR
        have m0 : ¬ 9223372036854775807 < 11 + cdT.length := by omega
        have m1 : ¬ 9223372036854775807 < cdT.length + 11 + 22 := by omega
        go_wp2_with fail
        go_ret
        exact ⟨by rw [HE.out, ← E1.out]; rfl, bel0Z HWA.out HW1.out⟩
      · have t1b : (tx == 1) = false := by simpa using t1
        have E1 : Hid ((⟨#[105, 108, 108, 45, 102, 111, 114, 109, 101, 100, 32]⟩ : ByteArray) ++ ⟨cdT.toArray⟩ ++ ⟨#[32, 105, 110, 32, 113, 117, 101, 114, 121, 32]⟩ ++ ⟨lnT.toArray⟩ ++ ⟨#[10]⟩ = ⟨([105, 108, 108, 45, 102, 111, 114, 109, 101, 100, 32] ++ cdT ++ [32, 105, 110, 32, 113, 117, 101, 114, 121, 32] ++ lnT ++ [10]).toArray⟩) := by
          unfold Hid
          rw [baA' ([105, 108, 108, 45, 102, 111, 114, 109, 101, 100, 32]) (cdT), baA' ([105, 108, 108, 45, 102, 111, 114, 109, 101, 100, 32] ++ cdT) ([32, 105, 110, 32, 113, 117, 101, 114, 121, 32]), baA' ([105, 108, 108, 45, 102, 111, 114, 109, 101, 100, 32] ++ cdT ++ [32, 105, 110, 32, 113, 117, 101, 114, 121, 32]) (lnT), baA' ([105, 108, 108, 45, 102, 111, 114, 109, 101, 100, 32] ++ cdT ++ [32, 105, 110, 32, 113, 117, 101, 114, 121, 32] ++ lnT) ([10])]
        have HE : Hid (rnS (RS.mk 3 cd tx ln) (rps Es) = [105, 108, 108, 45, 102, 111, 114, 109, 101, 100, 32] ++ cdT ++ [32, 105, 110, 32, 113, 117, 101, 114, 121, 32] ++ lnT ++ [10]) := by
          unfold Hid rnS
          rw [if_neg (show ¬ _ from k2), if_pos rfl, if_neg (show ¬ _ from t1)]
          rw [show itL (RS.mk 3 cd tx ln).c = cdT from hcd, show itL (RS.mk 3 cd tx ln).l = lnT from hln]
        clear hcd hln HR
        have m0 : ¬ 9223372036854775807 < 11 + cdT.length := by omega
        have m1 : ¬ 9223372036854775807 < cdT.length + 11 + 10 := by omega
        have m2 : ¬ 9223372036854775807 < cdT.length + 11 + 10 + lnT.length := by omega
        have m3 : ¬ 9223372036854775807 < cdT.length + 11 + 10 + lnT.length + 1 := by omega
        go_wp2_with fail
        go_ret
        exact ⟨by rw [HE.out, ← E1.out]; rfl, bel0Z HWA.out HW1.out⟩
    · have k3b : (k == 3) = false := by simpa using k3
      by_cases k4 : k = 4
      · subst k4
        have HE : Hid (rnS (RS.mk 4 cd tx ln) (rps Es) = [98, 117, 100, 103, 101, 116, 32, 101, 120, 99, 101, 101, 100, 101, 100, 10]) := by
          unfold Hid rnS
          rw [if_neg (show ¬ _ from k2), if_neg (show ¬ _ from k3), if_pos rfl]
        clear HR hcd hln
        go_wp2_with fail
        go_ret
        exact ⟨by rw [HE.out]; rfl, bel0Z HWA.out HW1.out⟩
      · have k4b : (k == 4) = false := by simpa using k4
        by_cases k1 : k = 1
        · subst k1
          have HE : Hid (rnS (RS.mk 1 cd tx ln) (rps Es) = flR Es) := by
            unfold Hid rnS
            rw [if_neg (show ¬ _ from k2), if_neg (show ¬ _ from k3), if_neg (show ¬ _ from k4), if_pos rfl]
            rfl
          obtain ⟨B, hBB⟩ : ∃ B, w1.heap.size = B := ⟨_, rfl⟩
          have hA2 := belAZ (Below.refl w1.heap.size w1) (.cells #[.pointer none, .slice none 0 0] 39 (0, 0))
          have cl2 := HCL.out (w1.alloc (.cells #[.pointer none, .slice none 0 0] 39 (0, 0))) (HW1.out.trans hA2)
          have H0 : Hid (WB B B (flR (Es.take 0)) (w1.alloc (.cells #[.pointer none, .slice none 0 0] 39 (0, 0))) ∧ BLZ w1 (w1.alloc (.cells #[.pointer none, .slice none 0 0] 39 (0, 0)))) := ⟨.inl ⟨rfl, Nat.le_refl _, by rw [← hBB]; exact alloc_getZ _ _⟩, hA2⟩
          have HBB : Hid (w1.heap.size = B) := hBB
          clear hA2 hcd hln lc ll k2 k3 k4 k2b k3b k4b
          go_wp2_with fail
          clear cl2 cl
          go_loopw [54] (fun v wr => ∃ i : Nat, v = .int .i64 (i : Int) ∧ i ≤ n ∧ Hid (WB B B (flR (Es.take i)) wr ∧ BLZ w1 wr)) (fun v _ => n - (intOf v).toNat)
          case atStart => exact ⟨0, rfl, Nat.zero_le _, H0⟩
          case round =>
            clear H0
            obtain ⟨i, rfl, hi, HL⟩ := hrel
            have hnn : n ≤ 1000000000 := by have := HR.out.2.2.1.cnt; rw [HR.out.2.2.2] at this; exact this
            by_cases hlt : i < n
            · have i0 : (0 : Int) ≤ (i : Int) := by omega
              have i1 : (i : Int) < (n : Int) := by omega
              obtain ⟨e, he⟩ : ∃ e, Es[i]? = some e := ⟨_, List.getElem?_eq_getElem (by rw [HR.out.2.2.2]; exact hlt)⟩
              have hX : ∀ X, BLZ w1 X → Below w.heap.size w X := fun X h => bel0Z HWA.out (bel0Z HW1.out h)
              obtain ⟨⟨g, o0, rfl, hcs⟩, -⟩ := HR.out.1 wr (hX wr HL.out.2) i e he
              have hsu := flR_succ he
              have hle := flR_le Es (i + 1)
              rw [hsu, List.length_append] at hle
              have htot := HR.out.2.2.1.tot
              have HU : ∀ X, Below B (wr.alloc (.cells (VR.vs e).toArray 30 (0, 0))) X → BLZ w1 X := fun X h => (show Below w1.heap.size w1 X by rw [HBB.out]; exact ((show Below w1.heap.size w1 (wr.alloc (.cells (VR.vs e).toArray 30 (0, 0))) from HL.out.2.trans (belAZ (Below.refl _ _) _)).mono (Nat.le_of_eq HBB.out.symm)).trans h)
              have HRP := reply_any B B (flR (Es.take i)) e (wr.alloc (.cells (VR.vs e).toArray 30 (0, 0))) (HL.out.1.below (belAZ (Below.refl _ _) _)) (fun X h => (HR.out.1 X (hX X (HU X h)) i e he).2) (fun X h => (HR.out.2.1.below (hX X (HU X h))).wd) (by omega) (by have := Below.size HL.out.2; rw [HBB.out] at this; simp; omega) (HR.out.2.2.1.each e (List.mem_of_getElem? he))
              have HSU : Hid (flR (Es.take (i + 1)) = flR (Es.take i) ++ rnR e.r) := hsu
              clear hsu hle htot he
              obtain ⟨⟨k1, fd, sp, wi, po, en, fi, li, mo⟩, p1, c1, p2, c2, p3, c3⟩ := e
              unfold VR.vs at HRP hcs
              simp only at HRP HSU hcs
              have x0 := hcs 0 _ rfl
              have x1 := hcs 1 _ rfl
              have x2 := hcs 2 _ rfl
              have x3 := hcs 3 _ rfl
              have x4 := hcs 4 _ rfl
              have x5 := hcs 5 _ rfl
              have x6 := hcs 6 _ rfl
              have x7 := hcs 7 _ rfl
              have x8 := hcs 8 _ rfl
              rw [Nat.add_zero] at x0
              have HUU : Hid (∀ X, Below B (wr.alloc (.cells #[.int .i64 k1, .bool fd, .string ⟨sp.toArray⟩, .string ⟨wi.toArray⟩, .slice p1 po.length c1, .slice p2 en.length c2, .string ⟨fi.toArray⟩, .slice p3 li.length c3, .bool mo] 30 (0, 0))) X → BLZ w1 X) := HU
              clear hcs HU hX
              go_wp2_with fail
              refine HRP.mono ?_
              rintro e w3 ⟨rfl, a3, b3, d3⟩
              have HX : Hid (WB B B (flR (Es.take (i + 1))) w3 ∧ BLZ w1 w3) := ⟨by rw [HSU.out]; exact a3, HUU.out w3 b3⟩
              clear HRP a3 b3 d3 x0 x1 x2 x3 x4 x5 x6 x7 x8 HUU HSU HL
              go_wp2_with fail
              go_roundw
              case rel => exact ⟨i + 1, by go_num, by omega, HX⟩
              case measure => simp [intOf]; omega
            · have i1 : ¬ (i : Int) < (n : Int) := by omega
              have HF : Hid (WB B B (flR Es) wr) := by
                have := HL.out.1
                rw [List.take_of_length_le (by rw [HR.out.2.2.2]; omega)] at this
                exact this
              have HSt := bstr_any B B (flR Es) wr HF.out
              go_wp2_with fail
              refine HSt.mono ?_
              rintro e w3 ⟨rfl, b3⟩
              have HX : Hid (Below w.heap.size w w3) := bel0Z HWA.out (bel0Z HW1.out (show Below w1.heap.size w1 w3 by rw [HBB.out]; exact ((show Below w1.heap.size w1 wr from HL.out.2).mono (Nat.le_of_eq HBB.out.symm)).trans b3))
              clear HSt b3
              go_wp2_with fail
              go_ret
              exact ⟨by rw [HE.out]; rfl, HX.out⟩
        · have k1b : (k == 1) = false := by simpa using k1
          have HE : Hid (rnS (RS.mk k cd tx ln) (rps Es) = []) := by
            unfold Hid rnS
            rw [if_neg (show ¬ _ from k2), if_neg (show ¬ _ from k3), if_neg (show ¬ _ from k4), if_neg (show ¬ _ from k1)]
          clear HR hcd hln
          go_wp2_with fail
          go_ret
          exact ⟨by rw [HE.out]; rfl, bel0Z HWA.out HW1.out⟩
end Go.Proofs.YtfhlgncpleleaaaDoor
