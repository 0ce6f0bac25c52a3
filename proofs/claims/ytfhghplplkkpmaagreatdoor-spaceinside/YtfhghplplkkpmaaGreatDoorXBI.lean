import Derived.Test.YtfhghplplkkpmaaGreatDoorXBH
import Derived.Test.YtfhghplplkkpmaaGreatDoorXAT
import Derived.Test.YtfhghplplkkpmaaGreatDoorXAV
import Derived.Test.YtfhghplplkkpmaaGreatDoorXBB
namespace Go.Proofs.YtfhghplplkkpmaaGreatDoor
open Go.RowKit Go.Shelf
/-- the terms of a space, good, each of one width -/
def gdS (Ts : List (List UInt8 × List (List UInt8))) : Prop := ∀ t ∈ Ts, good t.1 = true ∧ gdW t.1.length t.2
theorem gdS_ft {Ts : List (List UInt8 × List (List UInt8))} (h : ∀ t ∈ Ts, FTm t) : gdS Ts := fun t ht => by
  have h0 := h t ht
  refine ⟨h0.gc, fun x hx => ⟨h0.gl x hx, ?_⟩⟩
  have h3 := h0.wi x hx
  rw [wiB_eq, Bool.and_eq_true] at h3
  have h4 := h3.1
  simp [fitB] at h4
  omega
theorem gdS_pr (b : Int) (l : List UInt8) : gdS (prT b l) := gdS_ft (fun t ht => (prT_ft b l t ht).1)
theorem TRC_spl {W : World} {B n cp : Nat} {p : Option Addr} {Z : List ZT} (h : W.ownsRow B 62 10 (.slice p n cp) n (tes Z)) (hn : Z.length = n) (hz : ZL W B Z) : TRC W (fun _ => False) none p Z := fun i z hzi => by
  obtain ⟨g, o0, e, c⟩ := IRZ_own h hn W (Below.refl _ _) i z hzi
  have hL := hz z (List.mem_of_getElem? hzi)
  refine ⟨g, o0, e, c, fun h => h, by simp, fun j t ht => ?_, ?_⟩
  · obtain ⟨g2, o2, e2, c2⟩ := IRC_own hL rfl W (Below.refl _ _) j t ht
    exact ⟨g2, o2, e2, c2, fun h => h, by simp⟩
  · rcases own_shapeQ hL with ⟨_, e2⟩ | ⟨g3, c3, e3, e4, -⟩
    · omega
    · injection e3 with _ _ e5
      omega
set_option maxRecDepth 100000 in
set_option maxHeartbeats 4000000 in
theorem sExpand_any (b lim : Int) (Ts : List (List UInt8 × List (List UInt8))) (B : Nat) (V : Value) (w : World) (h : SPL w B V Ts) (hs : szC Ts ≤ 128) (hg : gdS Ts) :
    Calls Tryz.prog 23 #[.agg #[.int .i64 b, V, .bool false], .int .i64 lim] w fun e w' => ∃ v, e = .returned (.tuple #[v, .int .i64 (xpE b lim Ts)]) ∧ w'.ownsRow w.heap.size 40 9 v (xpL b lim Ts).length (ces (xpL b lim Ts)) ∧ Below w.heap.size w w' := by
  obtain ⟨Z, rfl, hrow, hzl⟩ := h
  obtain ⟨p, cp, rfl⟩ := shapeQ1 hrow
  have hq1 := szC_len (Z.map ZT.cont)
  rw [List.length_map] at hq1
  obtain ⟨n, hn⟩ : ∃ n, Z.length = n := ⟨_, rfl⟩
  rw [hn] at hrow hq1 ⊢
  have hzg : ∀ z ∈ Z, good z.c = true ∧ gdW z.c.length z.L ∧ z.L.length ≤ 128 := fun z hz => by
    have hm := List.mem_map_of_mem (f := ZT.cont) hz
    have h1 := szC_mem z.cont hm
    have e : z.cont.2 = z.L := rfl
    rw [e] at h1
    obtain ⟨g1, g2⟩ := hg z.cont hm
    exact ⟨g1, g2, by omega⟩
  have ht := TRC_spl hrow hn hzl
  obtain ⟨w2, hw2⟩ : ∃ w2, (w.alloc (.cells #[.int .i64 b, .slice p n cp, .bool false] 26 (0, 0))).alloc (.cells #[.int .i64 lim] 3 (0, 0)) = w2 := ⟨_, rfl⟩
  have b1 : w2.heap[w.heap.size]? = some (.cells #[.int .i64 b, .slice p n cp, .bool false] 26 (0, 0)) := by rw [← hw2]; exact alw_0 _ _ _
  have b2 : w2.heap[w.heap.size + 1]? = some (.cells #[.int .i64 lim] 3 (0, 0)) := by rw [← hw2]; exact alw_1 _ _ _
  have hB2 : Below w.heap.size w w2 := by rw [← hw2]; exact belA (belA (Below.refl _ _) _) _
  have hc1 := (cells_block b1).1
  have hc2 : w2.cell? ⟨w.heap.size + 1, 0, none⟩ = some (.int .i64 lim) := (cells_block b2).1 0
  have hmf : ∀ (fn : Fn) (first cap : Array Value) (w : World), (Instr.makeFunc fn first cap).run Tryz.prog w = .ok (.func fn first cap) w := fun _ _ _ _ => rfl
  have HRF := refusal_any b lim p n cp w2
  obtain ⟨E, hE⟩ : ∃ E, rfE b lim = E := ⟨_, rfl⟩
  rw [hE] at HRF
  have HB : Hid (Below w.heap.size w w2) := hB2
  have hsz2 : w.heap.size ≤ w2.heap.size := hB2.size
  by_cases hE0 : E = 0
  · have hb0 : ¬ b = 0 := fun h => by unfold rfE at hE; rw [if_pos h] at hE; omega
    have hl0 : ¬ (lim < 0 ∨ 2048 < lim) := fun h => by unfold rfE at hE; rw [if_neg hb0, if_pos h] at hE; omega
    obtain ⟨M, rfl⟩ : ∃ M : Nat, lim = M := ⟨lim.toNat, by omega⟩
    have hM : M ≤ 2048 := by omega
    obtain ⟨R, ok, hxp, HG⟩ : ∃ (R : List (List UInt8)) (ok : Bool), (XPD b (M : Int) (Z.map ZT.cont) (if ok = true then 0 else 3) (if ok = true then R else [])) ∧ ∀ W, Below w2.heap.size w2 W → Calls Tryz.prog 45 #[.pointer (some ⟨w.heap.size, 0, none⟩), .pointer (some ⟨w.heap.size + 1, 0, none⟩)] W fun e w' => Below W.heap.size W w' ∧ ((ok = true ∧ ∃ v, e = .returned v ∧ w'.ownsRow W.heap.size 40 9 v R.length (ces R)) ∨ (ok = false ∧ e = .panicked [{ v := .iface 89 (.agg #[]), recovered := false }])) := by
      have H1 : ∀ W, Below w2.heap.size w2 W → _ := fun W hW => expand1_any inForm_any b Z n p cp w.heap.size (w.heap.size + 1) M W hn (by omega) hM (keepblk3 hW b1) (keepblk3 hW b2) (ht.ofW (bel0 hB2 hW) (fun k h => h.elim)) hzg
      cases hx : exE splT M [] (Z.map ZT.cont) with
      | none =>
        refine ⟨[], false, xpd_n hb0 hM hx, fun W hW => (H1 W hW).mono ?_⟩
        rintro e w' ⟨h1, ⟨R, v, h2, -⟩ | ⟨-, h3⟩⟩
        · rw [show exE splT M [] (Z.map ctZ) = none from hx] at h2
          cases h2
        · exact ⟨h1, .inr ⟨rfl, h3⟩⟩
      | some R =>
        refine ⟨R, true, xpd_s hb0 hM hx, fun W hW => (H1 W hW).mono ?_⟩
        rintro e w' ⟨h1, ⟨R', v, h2, h3, h4⟩ | ⟨h3, -⟩⟩
        · rw [show exE splT M [] (Z.map ctZ) = some R from hx] at h2
          injection h2 with h2
          subst h2
          exact ⟨h1, .inl ⟨rfl, v, h3, h4⟩⟩
        · rw [show exE splT M [] (Z.map ctZ) = some R from hx] at h3
          cases h3
    rw [← hxp.1, ← hxp.2]
    have HGV : Hid (∀ W, Below w2.heap.size w2 W → Calls Tryz.prog 44 #[.func (.func 45) #[] #[.pointer (some ⟨w.heap.size, 0, none⟩), .pointer (some ⟨w.heap.size + 1, 0, none⟩)]] W fun e w' => ∃ v, e = .returned (.tuple #[v, .int .i64 (if ok = true then 0 else 3)]) ∧ w'.ownsRow W.heap.size 40 9 v (if ok = true then R else []).length (ces (if ok = true then R else [])) ∧ Below W.heap.size W w') := fun W hW => giveC R ok _ _ W (fun X hX => HG X (bel0 hW hX))
    obtain ⟨EE, hEE⟩ : ∃ E : Int, (if ok = true then 0 else 3) = E := ⟨_, rfl⟩
    obtain ⟨LL, hLL⟩ : ∃ E, (if ok = true then R else []) = E := ⟨_, rfl⟩
    rw [hEE, hLL] at HGV ⊢
    subst hE0
    clear hE hb0 hl0 HG hxp hEE hLL b1 b2 ht hzg hrow hzl hg hs hB2 hn hq1
    go_enter Tryz.func23, Tryz.ntmps23
    go_wp2_with fail
    refine HRF.mono ?_
    rintro e w3 ⟨rfl, hb3⟩
    clear HRF hc1 hc2 hw2
    have HB3 : Hid (Below w2.heap.size w2 w3) := hb3
    clear hb3
    go_wp2_with fail
    refine (HGV.out w3 HB3.out).mono ?_
    rintro e w4 ⟨v, rfl, o4, hb4⟩
    obtain ⟨p4, c4, rfl⟩ := shapeQ1 o4
    have hs3 := HB3.out.size
    have HZ : Hid (w4.ownsRow w.heap.size 40 9 (.slice p4 LL.length c4) LL.length (ces LL) ∧ Below w.heap.size w w4) := ⟨own_base o4 (by omega), bel0 HB.out (bel0 HB3.out hb4)⟩
    clear o4 hb4
    go_wp2_with fail
    go_ret2
    exact ⟨_, rfl, HZ.out.1, HZ.out.2⟩
  · have hxp : XPD b lim (Z.map ZT.cont) E [] := by
      unfold rfE at hE
      split at hE
      · rename_i h1
        subst h1
        rw [← hE]
        exact xpd_w _ _
      · rename_i h1
        split at hE
        · rename_i h2
          rw [← hE]
          exact xpd_a _ h1 h2
        · omega
    rw [← hxp.1, ← hxp.2]
    have e0 : (E != 0) = true := by rw [bne_iff_ne]; exact hE0
    clear hE hxp b1 b2 ht hzg hrow hzl hg hs hB2 hn hq1 hE0
    go_enter Tryz.func23, Tryz.ntmps23
    go_wp2_with fail
    refine HRF.mono ?_
    rintro e w3 ⟨rfl, hb3⟩
    have HZ : Hid (Below w.heap.size w w3) := bel0 HB.out hb3
    clear HRF hc1 hc2 hw2 hb3
    go_wp2_with fail
    go_ret2
    exact ⟨_, rfl, World.ownsRow_nil _ _ _ _, HZ.out⟩
end Go.Proofs.YtfhghplplkkpmaaGreatDoor
namespace Go.Proofs.YtfhghplplkkpmaaGreatDoor
open Go.RowKit Go.Shelf
theorem tkA_ft : ∀ (C X R : List (List UInt8 × List (List UInt8))), gdC X → gdC C → (∀ t ∈ X, FTm t) → tkA X C = some R → ∀ t ∈ R, FTm t
  | [], X, R, _, _, h, e => by
    injection e with e
    subst e
    exact h
  | u :: r, X, R, gX, gC, h, e => by
    unfold tkA at e
    split at e
    · rename_i h0
      have gu := gC u List.mem_cons_self
      refine tkA_ft r (tkT X u.1 u.2) R (tk_ok gX gu.1 gu.2).1 (fun x hx => gC x (List.mem_cons_of_mem _ hx)) (fun t ht => ?_) e
      unfold tkT at ht
      rw [if_pos h0] at ht
      exact (FTm_form (gdC_wt gX gu.1 gu.2) t ht).1
    · cases e
theorem mz_ft (b b2 : Int) {A C : List (List UInt8 × List (List UInt8))} (gA : gdC A) (gC : gdC C) (h : ∀ t ∈ A, FTm t) : ∀ t ∈ mzT b b2 A C, FTm t := fun t ht => by
  unfold mzT at ht
  split at ht
  · cases hx : tkA A C with
    | none => rw [hx] at ht; cases ht
    | some R => rw [hx] at ht; exact tkA_ft C A R gA gC h hx t ht
  · cases ht
def wnE (b b2 lim : Int) (A C : List (List UInt8 × List (List UInt8))) : Int := if (!(b == 0) && (b == b2)) = false then 11 else if lim < 0 ∨ 2048 < lim then 1 else if mzE b b2 A C = 0 then xpE (mzB b b2 A C) lim (mzT b b2 A C) else mzE b b2 A C
def wnB (b b2 lim : Int) (A C : List (List UInt8 × List (List UInt8))) : Bool := if (!(b == 0) && (b == b2)) = false then false else if lim < 0 ∨ 2048 < lim then false else if mzE b b2 A C = 0 then ((xpE (mzB b b2 A C) lim (mzT b b2 A C) == 0) && (((xpL (mzB b b2 A C) lim (mzT b b2 A C)).length : Int) == 0)) else false
theorem wn_fit (b b2 lim : Int) (A C : List (List UInt8 × List (List UInt8))) (h : (!(b == 0) && (b == b2)) = false) : wnB b b2 lim A C = false ∧ wnE b b2 lim A C = 11 := by
  unfold wnB wnE; rw [if_pos h, if_pos h]; exact ⟨rfl, rfl⟩
theorem wn_lim (b b2 lim : Int) (A C : List (List UInt8 × List (List UInt8))) (h : (!(b == 0) && (b == b2)) = true) (hl : lim < 0 ∨ 2048 < lim) : wnB b b2 lim A C = false ∧ wnE b b2 lim A C = 1 := by
  have hnf : ¬ ((!(b == 0) && (b == b2)) = false) := by rw [h]; simp
  unfold wnB wnE; rw [if_neg hnf, if_neg hnf, if_pos hl, if_pos hl]; exact ⟨rfl, rfl⟩
theorem wn_min (b b2 lim : Int) (A C : List (List UInt8 × List (List UInt8))) (h : (!(b == 0) && (b == b2)) = true) (hl : ¬ (lim < 0 ∨ 2048 < lim)) (hm : ¬ mzE b b2 A C = 0) : wnB b b2 lim A C = false ∧ wnE b b2 lim A C = mzE b b2 A C := by
  have hnf : ¬ ((!(b == 0) && (b == b2)) = false) := by rw [h]; simp
  unfold wnB wnE; rw [if_neg hnf, if_neg hnf, if_neg hl, if_neg hl, if_neg hm, if_neg hm]; exact ⟨rfl, rfl⟩
theorem wn_xp (b b2 lim : Int) (A C : List (List UInt8 × List (List UInt8))) (h : (!(b == 0) && (b == b2)) = true) (hl : ¬ (lim < 0 ∨ 2048 < lim)) (hm : mzE b b2 A C = 0) : wnB b b2 lim A C = ((xpE (mzB b b2 A C) lim (mzT b b2 A C) == 0) && (((xpL (mzB b b2 A C) lim (mzT b b2 A C)).length : Int) == 0)) ∧ wnE b b2 lim A C = xpE (mzB b b2 A C) lim (mzT b b2 A C) := by
  have hnf : ¬ ((!(b == 0) && (b == b2)) = false) := by rw [h]; simp
  unfold wnB wnE; rw [if_neg hnf, if_neg hnf, if_neg hl, if_neg hl, if_pos hm, if_pos hm]; exact ⟨rfl, rfl⟩
set_option maxRecDepth 100000 in
set_option maxHeartbeats 4000000 in
theorem sWithin_any (b b2 lim : Int) (A C : List (List UInt8 × List (List UInt8))) (V1 V2 : Value) (w : World) (h1 : SPL w 0 V1 A) (h2 : SPL w 0 V2 C) (hs1 : szC A ≤ 128) (hs2 : szC C ≤ 128) (hg1 : gdC A) (hg2 : gdC C) (hft : ∀ t ∈ A, FTm t) (hoA : ordT A = A) (hsd : ∀ y ∈ A, Sd y) :
    Calls Tryz.prog 6 #[.agg #[.int .i64 b, V1, .bool false], .agg #[.int .i64 b2, V2, .bool false], .int .i64 lim] w fun e w' => e = .returned (.tuple #[.bool (wnB b b2 lim A C), .int .i64 (wnE b b2 lim A C)]) ∧ Below w.heap.size w w' := by
  obtain ⟨p1, k1, rfl⟩ := h1.shape
  obtain ⟨p2, k2, rfl⟩ := h2.shape
  obtain ⟨n1, hn1⟩ : ∃ n, A.length = n := ⟨_, rfl⟩
  obtain ⟨n2, hn2⟩ : ∃ n, C.length = n := ⟨_, rfl⟩
  rw [hn1] at h1 ⊢
  rw [hn2] at h2 ⊢
  obtain ⟨w2, hw2⟩ : ∃ w2, (w.alloc (.cells #[.int .i64 b, .slice p1 n1 k1, .bool false] 26 (0, 0))).alloc (.cells #[.int .i64 b2, .slice p2 n2 k2, .bool false] 26 (0, 0)) = w2 := ⟨_, rfl⟩
  have e1 : w2.heap[w.heap.size]? = some (.cells #[.int .i64 b, .slice p1 n1 k1, .bool false] 26 (0, 0)) := by rw [← hw2]; exact alw_0 _ _ _
  have e2 : w2.heap[w.heap.size + 1]? = some (.cells #[.int .i64 b2, .slice p2 n2 k2, .bool false] 26 (0, 0)) := by rw [← hw2]; exact alw_1 _ _ _
  have hB : Below w.heap.size w w2 := by rw [← hw2]; exact belA (belA (Below.refl _ _) _) _
  have ok3 := mz_ok b b2 A C hg1 hg2 hs1
  have gt3 : gdS (mzT b b2 A C) := gdS_ft (mz_ft b b2 hg1 hg2 hft)
  have hwf := wn_fit b b2 lim A C
  have hwl := wn_lim b b2 lim A C
  have hwm := wn_min b b2 lim A C
  have hwx := wn_xp b b2 lim A C
  have HM0 : ∀ W, Below w2.heap.size w2 W → Calls Tryz.prog 22 #[.agg #[.int .i64 b, .slice p1 n1 k1, .bool false], .agg #[.int .i64 b2, .slice p2 n2 k2, .bool false]] W fun e w' => ∃ V, e = .returned (.tuple #[.agg #[.int .i64 (mzB b b2 A C), V, .bool false], .int .i64 (mzE b b2 A C)]) ∧ SPL w' 0 V (mzT b b2 A C) ∧ Below W.heap.size W w' := fun W hW => by
    have h1 := h1.below (bel0 hB hW)
    have h2 := h2.below (bel0 hB hW)
    exact sMinus_any b b2 A C 0 0 _ _ W h1 h2 hs1 hs2 hg1 hg2 hoA hsd
  have HF : Hid (∀ W, Below w2.heap.size w2 W → (∀ j, W.cell? ⟨w.heap.size, j, none⟩ = (#[.int .i64 b, .slice p1 n1 k1, .bool false] : Array Value)[j]?) ∧ (∀ j, W.cell? ⟨w.heap.size + 1, j, none⟩ = (#[.int .i64 b2, .slice p2 n2 k2, .bool false] : Array Value)[j]?) ∧ Below w.heap.size w W) := fun W hW => ⟨(cells_block (keepblk3 hW e1)).1, (cells_block (keepblk3 hW e2)).1, bel0 hB hW⟩
  have HFT := fits_any2 b b2 p1 n1 k1 w2
  obtain ⟨B3, hB3⟩ : ∃ B, mzB b b2 A C = B := ⟨_, rfl⟩
  obtain ⟨E3, hE3⟩ : ∃ B, mzE b b2 A C = B := ⟨_, rfl⟩
  obtain ⟨X3, hX3⟩ : ∃ B, mzT b b2 A C = B := ⟨_, rfl⟩
  rw [hB3, hE3, hX3] at HM0
  rw [hX3] at ok3 gt3
  rw [hE3] at hwm hwx
  rw [hB3, hX3] at hwx
  obtain ⟨n3, hn3⟩ : ∃ n, X3.length = n := ⟨_, rfl⟩
  have HX0 : ∀ (W : World) (V : Value), SPL W 0 V X3 → Calls Tryz.prog 23 #[.agg #[.int .i64 B3, V, .bool false], .int .i64 lim] W fun e w' => ∃ v, e = .returned (.tuple #[v, .int .i64 (xpE B3 lim X3)]) ∧ w'.ownsRow W.heap.size 40 9 v (xpL B3 lim X3).length (ces (xpL B3 lim X3)) ∧ Below W.heap.size W w' := fun W V h => sExpand_any B3 lim X3 0 V W h ok3.2 gt3
  obtain ⟨E4, hE4⟩ : ∃ B, xpE B3 lim X3 = B := ⟨_, rfl⟩
  obtain ⟨L4, hL4⟩ : ∃ B, xpL B3 lim X3 = B := ⟨_, rfl⟩
  rw [hE4, hL4] at HX0 hwx
  obtain ⟨n4, hn4⟩ : ∃ n, L4.length = n := ⟨_, rfl⟩
  rw [hn4] at HX0 hwx
  obtain ⟨qB, hqB⟩ : ∃ q, wnB b b2 lim A C = q := ⟨_, rfl⟩
  obtain ⟨qE, hqE⟩ : ∃ q, wnE b b2 lim A C = q := ⟨_, rfl⟩
  rw [hqB, hqE] at hwf hwl hwm hwx ⊢
  have HM : Hid (∀ W, Below w2.heap.size w2 W → Calls Tryz.prog 22 #[.agg #[.int .i64 b, .slice p1 n1 k1, .bool false], .agg #[.int .i64 b2, .slice p2 n2 k2, .bool false]] W fun e w' => ∃ V, e = .returned (.tuple #[.agg #[.int .i64 B3, V, .bool false], .int .i64 E3]) ∧ SPL w' 0 V X3 ∧ Below W.heap.size W w') := HM0
  have HX : Hid (∀ (W : World) (V : Value), SPL W 0 V X3 → Calls Tryz.prog 23 #[.agg #[.int .i64 B3, V, .bool false], .int .i64 lim] W fun e w' => ∃ v, e = .returned (.tuple #[v, .int .i64 E4]) ∧ w'.ownsRow W.heap.size 40 9 v n4 (ces L4) ∧ Below W.heap.size W w') := HX0
  have HWF : Hid ((!(b == 0) && (b == b2)) = false → qB = false ∧ qE = 11) := hwf
  have HWL : Hid ((!(b == 0) && (b == b2)) = true → (lim < 0 ∨ 2048 < lim) → qB = false ∧ qE = 1) := hwl
  have HWM : Hid ((!(b == 0) && (b == b2)) = true → ¬ (lim < 0 ∨ 2048 < lim) → ¬ E3 = 0 → qB = false ∧ qE = E3) := hwm
  have HWX : Hid ((!(b == 0) && (b == b2)) = true → ¬ (lim < 0 ∨ 2048 < lim) → E3 = 0 → qB = ((E4 == 0) && ((n4 : Int) == 0)) ∧ qE = E4) := hwx
  obtain ⟨hc1, hc2, -⟩ := HF.out w2 (Below.refl _ _)
  clear h1 h2 hs1 hs2 hg1 hg2 hft hoA hsd hn1 hn2 e1 e2 hB ok3 gt3 hwf hwl hwm hwx HM0 hB3 hE3 hX3 HX0 hE4 hL4 hn4 hqB hqE
  cases hf : (!(b == 0) && (b == b2)) with
  | false =>
    rw [hf] at HFT
    rw [(HWF.out hf).1, (HWF.out hf).2]
    clear HWF HWL HWM HWX hf
    go_enter Tryz.func6, Tryz.ntmps6
    go_wp2_with fail
    refine HFT.mono ?_
    rintro e w3 ⟨rfl, hb3⟩
    have HZ : Hid (Below w.heap.size w w3) := (HF.out w3 hb3).2.2
    clear HFT hc1 hc2 hw2 hb3
    go_wp2_with fail
    go_ret2
    exact ⟨rfl, HZ.out⟩
  | true =>
    rw [hf] at HFT
    have hb0 : ¬ b = 0 := by
      rintro rfl
      simp at hf
    by_cases hl : lim < 0 ∨ 2048 < lim
    · rw [(HWL.out hf hl).1, (HWL.out hf hl).2]
      clear HWF HWL HWM HWX hf
      go_enter Tryz.func6, Tryz.ntmps6
      go_wp2_with fail
      refine HFT.mono ?_
      rintro e w3 ⟨rfl, hb3⟩
      obtain ⟨hc3, hc4, -⟩ := HF.out w3 hb3
      have HB3 : Hid (Below w2.heap.size w2 w3) := hb3
      clear HFT hc1 hc2 hw2 hb3
      go_wp2_with fail
      refine (refusal_any b lim p1 n1 k1 w3).mono ?_
      rw [show rfE b lim = 1 by unfold rfE; rw [if_neg hb0, if_pos hl]]
      rintro e w4 ⟨rfl, hb4⟩
      obtain ⟨hc5, hc6, -⟩ := HF.out w4 (bel0 HB3.out hb4)
      have HB4 : Hid (Below w2.heap.size w2 w4) := bel0 HB3.out hb4
      clear hc3 hc4 hb4
      have HZ : Hid (Below w.heap.size w w4) := (HF.out w4 HB4.out).2.2
      go_wp2_with fail
      go_ret2
      exact ⟨rfl, HZ.out⟩
    · by_cases hE : E3 = 0
      · rw [(HWX.out hf hl hE).1, (HWX.out hf hl hE).2]
        subst hE
        clear HWF HWL HWM HWX hf
        go_enter Tryz.func6, Tryz.ntmps6
        go_wp2_with fail
        refine HFT.mono ?_
        rintro e w3 ⟨rfl, hb3⟩
        obtain ⟨hc3, hc4, -⟩ := HF.out w3 hb3
        have HB3 : Hid (Below w2.heap.size w2 w3) := hb3
        clear HFT hc1 hc2 hw2 hb3
        go_wp2_with fail
        refine (refusal_any b lim p1 n1 k1 w3).mono ?_
        rw [show rfE b lim = 0 by unfold rfE; rw [if_neg hb0, if_neg hl]]
        rintro e w4 ⟨rfl, hb4⟩
        obtain ⟨hc5, hc6, -⟩ := HF.out w4 (bel0 HB3.out hb4)
        have HB4 : Hid (Below w2.heap.size w2 w4) := bel0 HB3.out hb4
        clear hc3 hc4 hb4
        go_wp2_with fail
        refine (HM.out w4 HB4.out).mono ?_
        rintro e w5 ⟨V5, rfl, sv, hb5⟩
        obtain ⟨p3, k3, rfl⟩ := sv.shape
        rw [hn3] at sv ⊢
        have HB5 : Hid (Below w2.heap.size w2 w5) := bel0 HB4.out hb5
        have HSV : Hid (SPL (w5.alloc (.cells #[.int .i64 B3, .slice p3 n3 k3, .bool false] 26 (0, 0))) 0 (.slice p3 n3 k3) X3 ∧ Below w2.heap.size w2 (w5.alloc (.cells #[.int .i64 B3, .slice p3 n3 k3, .bool false] 26 (0, 0)))) := ⟨sv.below (belA (Below.refl _ _) _), belA HB5.out _⟩
        clear sv hb5
        go_wp2_with fail
        refine (HX.out _ _ HSV.out.1).mono ?_
        rintro e w6 ⟨v6, rfl, o6, hb6⟩
        obtain ⟨p6, k6, rfl⟩ := shapeQ1 o6
        have HZ : Hid (Below w.heap.size w w6) := (HF.out w6 (bel0 HSV.out.2 hb6)).2.2
        clear o6 hb6
        obtain ⟨qq, hq4⟩ : ∃ q, (E4 == 0) = q := ⟨_, rfl⟩
        have HQ4 : Hid ((E4 == 0) = qq) := hq4
        cases qq with
        | true =>
          go_wp2_with fail
          go_ret2
          exact ⟨by rw [HQ4.out]; rfl, HZ.out⟩
        | false =>
          go_wp2_with fail
          go_ret2
          exact ⟨by rw [HQ4.out]; rfl, HZ.out⟩
      · rw [(HWM.out hf hl hE).1, (HWM.out hf hl hE).2]
        have hEn : (E3 != 0) = true := by rw [bne_iff_ne]; exact hE
        clear HWF HWL HWM HWX hf hE
        go_enter Tryz.func6, Tryz.ntmps6
        go_wp2_with fail
        refine HFT.mono ?_
        rintro e w3 ⟨rfl, hb3⟩
        obtain ⟨hc3, hc4, -⟩ := HF.out w3 hb3
        have HB3 : Hid (Below w2.heap.size w2 w3) := hb3
        clear HFT hc1 hc2 hw2 hb3
        go_wp2_with fail
        refine (refusal_any b lim p1 n1 k1 w3).mono ?_
        rw [show rfE b lim = 0 by unfold rfE; rw [if_neg hb0, if_neg hl]]
        rintro e w4 ⟨rfl, hb4⟩
        obtain ⟨hc5, hc6, -⟩ := HF.out w4 (bel0 HB3.out hb4)
        have HB4 : Hid (Below w2.heap.size w2 w4) := bel0 HB3.out hb4
        clear hc3 hc4 hb4
        go_wp2_with fail
        refine (HM.out w4 HB4.out).mono ?_
        rintro e w5 ⟨V5, rfl, sv, hb5⟩
        obtain ⟨p3, k3, rfl⟩ := sv.shape
        rw [hn3] at sv ⊢
        have HB5 : Hid (Below w2.heap.size w2 w5) := bel0 HB4.out hb5
        have HZ : Hid (Below w.heap.size w (w5.alloc (.cells #[.int .i64 B3, .slice p3 n3 k3, .bool false] 26 (0, 0)))) := (HF.out _ (belA HB5.out _)).2.2
        clear sv hb5
        go_wp2_with fail
        go_ret2
        exact ⟨rfl, HZ.out⟩
end Go.Proofs.YtfhghplplkkpmaaGreatDoor
namespace Go.Proofs.YtfhghplplkkpmaaGreatDoor
open Go.RowKit Go.Shelf
/-- the cube of all headers of a width -/
def alT (b : Int) : List UInt8 := if 1 ≤ b ∧ b ≤ 256 then List.replicate b.toNat 120 else []
/-- the one term of all headers -/
def alB (b : Int) : List (List UInt8 × List (List UInt8)) → Bool
  | [(c, [])] => c == alT b
  | _ => false
theorem alT_good (b : Int) : good (alT b) = true := by
  unfold alT
  split
  · exact rep_good _ (by omega)
  · rfl
set_option maxRecDepth 100000 in
set_option maxHeartbeats 4000000 in
theorem isAll_any (b : Int) (V : Value) (A : List (List UInt8 × List (List UInt8))) (B : Nat) (w : World) (h : SPL w B V A) (hg : gdC A) (hs : szC A ≤ 128) : Calls Tryz.prog 29 #[.agg #[.int .i64 b, V, .bool false]] w fun e w' => e = .returned (.bool (alB b A)) ∧ Below w.heap.size w w' := by
  obtain ⟨Z, rfl, h2, -⟩ := h
  obtain ⟨p, cp, rfl⟩ := shapeQ1 h2
  have hl := szC_len (Z.map ZT.cont)
  rw [List.length_map] at hl
  by_cases hn : Z.length = 1
  · obtain ⟨z, rfl⟩ : ∃ z, Z = [z] := List.length_eq_one_iff.1 hn
    obtain ⟨zc, zq, zk, zL⟩ := z
    have gz := hg (zc, zL) (by simp [ZT.cont])
    have hsz : zL.length ≤ 128 := by
      have := szC_mem (Ts := [(zc, zL)]) (zc, zL) (by simp)
      have e : szC ([⟨zc, zq, zk, zL⟩].map ZT.cont) = szC [(zc, zL)] := rfl
      rw [e] at hs
      exact Nat.le_trans this hs
    have hIR := IRZ_own h2 rfl
    obtain ⟨g, o0, rfl, -⟩ := hIR w (Below.refl _ _) 0 _ rfl
    obtain ⟨w2, hw2⟩ : ∃ w2, w.alloc (.cells #[.int .i64 b, .slice (some ⟨g, o0, none⟩) 1 cp, .bool false] 26 (0, 0)) = w2 := ⟨_, rfl⟩
    have h0 : w2.heap[w.heap.size]? = some (.cells #[.int .i64 b, .slice (some ⟨g, o0, none⟩) 1 cp, .bool false] 26 (0, 0)) := by rw [← hw2]; exact alloc_get _ _
    have hB : Below w.heap.size w w2 := by rw [← hw2]; exact belA (Below.refl _ _) _
    obtain ⟨m, hm⟩ : ∃ m, zL.length = m := ⟨_, rfl⟩
    have HX : Hid (∀ W, Below w2.heap.size w2 W → W.cell? ⟨w.heap.size, 0, none⟩ = some (.int .i64 b) ∧ W.cell? ⟨w.heap.size, 1, none⟩ = some (.slice (some ⟨g, o0, none⟩) 1 cp) ∧ W.cell? ⟨g, o0, none⟩ = some (.int .i64 (zc.length : Int)) ∧ W.cell? ⟨g, o0 + 1, none⟩ = some (.int .u64 (FW zc 0 : Int)) ∧ W.cell? ⟨g, o0 + 2, none⟩ = some (.int .u64 (FW zc 1 : Int)) ∧ W.cell? ⟨g, o0 + 3, none⟩ = some (.int .u64 (FW zc 2 : Int)) ∧ W.cell? ⟨g, o0 + 4, none⟩ = some (.int .u64 (FW zc 3 : Int)) ∧ W.cell? ⟨g, o0 + 5, none⟩ = some (.int .u64 (OW zc 0 : Int)) ∧ W.cell? ⟨g, o0 + 6, none⟩ = some (.int .u64 (OW zc 1 : Int)) ∧ W.cell? ⟨g, o0 + 7, none⟩ = some (.int .u64 (OW zc 2 : Int)) ∧ W.cell? ⟨g, o0 + 8, none⟩ = some (.int .u64 (OW zc 3 : Int)) ∧ W.cell? ⟨g, o0 + 9, none⟩ = some (.slice zq m zk)) := fun W hW => by
      have hc := (cells_block (keepblk3 hW h0)).1
      obtain ⟨g', o', e, q0, q1, q2, q3, q4, q5, q6, q7, q8, q9⟩ := hIR W (bel0 hB hW) 0 _ rfl
      injection e with e
      injection e with e1 e2
      subst e1 e2
      simp only [Nat.zero_mul, Nat.add_zero] at q0 q1 q2 q3 q4 q5 q6 q7 q8 q9
      rw [hm] at q9
      exact ⟨hc 0, hc 1, q0, q1, q2, q3, q4, q5, q6, q7, q8, q9⟩
    have HB : Hid (Below w.heap.size w w2) := hB
    by_cases hm0 : m = 0
    · have hz : zL = [] := List.length_eq_zero_iff.1 (hm.trans hm0)
      subst hz
      subst hm0
      obtain ⟨D, hD⟩ : ∃ D, alT b = D := ⟨_, rfl⟩
      obtain ⟨q, hq⟩ : ∃ q, (zc == D) = q := ⟨_, rfl⟩
      have HR : Hid (alB b ([⟨zc, zq, zk, []⟩].map ZT.cont) = q) := by
        have e : alB b ([⟨zc, zq, zk, []⟩].map ZT.cont) = (zc == alT b) := rfl
        unfold Hid
        rw [e, hD, hq]
      have hE := eql_cube zc D gz.1 (by rw [← hD]; exact alT_good b)
      rw [hq] at hE
      have HAL : Hid (∀ W, Calls Tryz.prog 11 #[.int .i64 b] W fun e w' => e = .returned (.agg #[.int .i64 (D.length : Int), .int .u64 (FW D 0 : Int), .int .u64 (FW D 1 : Int), .int .u64 (FW D 2 : Int), .int .u64 (FW D 3 : Int), .int .u64 (OW D 0 : Int), .int .u64 (OW D 1 : Int), .int .u64 (OW D 2 : Int), .int .u64 (OW D 3 : Int)]) ∧ Below W.heap.size W w') := fun W => by
        have h := all_any b W
        have e : (if 1 ≤ b ∧ b ≤ 256 then List.replicate b.toNat 120 else []) = D := hD
        rw [e] at h
        exact h
      clear h0 hB hIR h2 hg hs hl hn hm gz hsz hD hq
      go_enter Tryz.func29, Tryz.ntmps29
      go_upto_region 1 with fail
      clear hw2
      refine quiet_lit3 (C := fun W => Below w2.heap.size w2 W) (by kernel_rfl) (by kernel_rfl) (show Below _ _ _ from (Below.refl _ _).drew) ?_
      go_big_quiet_want
      refine ⟨.pointer (some ⟨w.heap.size, 1, none⟩), fun W hW => ?_, ?_⟩
      · go_simp
      go_big_quiet_on
      simp only [Act.put, List.setIfInBounds_toArray, List.set_cons_zero, List.set_cons_succ]
      go_big_quiet_want
      refine ⟨.slice (some ⟨g, o0, none⟩) 1 cp, fun W hW => ?_, ?_⟩
      · obtain ⟨x0, x1, y0, y1, y2, y3, y4, y5, y6, y7, y8, y9⟩ := HX.out W hW
        go_simp
      go_big_quiet_on
      simp only [Act.put, List.setIfInBounds_toArray, List.set_cons_zero, List.set_cons_succ]
      go_big_quiet_want
      refine ⟨.int .i64 1, fun W hW => ?_, ?_⟩
      · go_simp
      go_big_quiet_on
      simp only [Act.put, List.setIfInBounds_toArray, List.set_cons_zero, List.set_cons_succ]
      go_big_quiet_want
      refine ⟨.bool true, fun W hW => ?_, ?_⟩
      · go_simp
      go_big_quiet_on
      simp only [Act.put, List.setIfInBounds_toArray, List.set_cons_zero, List.set_cons_succ]
      go_big_quiet_want
      go_big_quiet_op
      go_big_quiet_on
      go_big_quiet_want
      refine ⟨.pointer (some ⟨w.heap.size, 1, none⟩), fun W hW => ?_, ?_⟩
      · go_simp
      go_big_quiet_on
      simp only [Act.put, List.setIfInBounds_toArray, List.set_cons_zero, List.set_cons_succ]
      go_big_quiet_want
      refine ⟨.slice (some ⟨g, o0, none⟩) 1 cp, fun W hW => ?_, ?_⟩
      · obtain ⟨x0, x1, y0, y1, y2, y3, y4, y5, y6, y7, y8, y9⟩ := HX.out W hW
        go_simp
      go_big_quiet_on
      simp only [Act.put, List.setIfInBounds_toArray, List.set_cons_zero, List.set_cons_succ]
      go_big_quiet_want
      refine ⟨.pointer (some ⟨g, o0, none⟩), fun W hW => ?_, ?_⟩
      · go_simp
      go_big_quiet_on
      simp only [Act.put, List.setIfInBounds_toArray, List.set_cons_zero, List.set_cons_succ]
      go_big_quiet_want
      refine ⟨.pointer (some ⟨g, o0 + 9, none⟩), fun W hW => ?_, ?_⟩
      · go_simp
      go_big_quiet_on
      simp only [Act.put, List.setIfInBounds_toArray, List.set_cons_zero, List.set_cons_succ]
      go_big_quiet_want
      refine ⟨.slice zq 0 zk, fun W hW => ?_, ?_⟩
      · obtain ⟨x0, x1, y0, y1, y2, y3, y4, y5, y6, y7, y8, y9⟩ := HX.out W hW
        go_simp
      go_big_quiet_on
      simp only [Act.put, List.setIfInBounds_toArray, List.set_cons_zero, List.set_cons_succ]
      go_big_quiet_want
      refine ⟨.int .i64 0, fun W hW => ?_, ?_⟩
      · go_simp
      go_big_quiet_on
      simp only [Act.put, List.setIfInBounds_toArray, List.set_cons_zero, List.set_cons_succ]
      go_big_quiet_want
      refine ⟨.bool true, fun W hW => ?_, ?_⟩
      · go_simp
      go_big_quiet_on
      simp only [Act.put, List.setIfInBounds_toArray, List.set_cons_zero, List.set_cons_succ]
      go_big_quiet_want
      refine ⟨.bool true, fun W hW => ?_, ?_⟩
      · go_simp
      go_big_quiet_on
      simp only [Act.put, List.setIfInBounds_toArray, List.set_cons_zero, List.set_cons_succ]
      go_big_quiet_want
      go_big_quiet_op
      go_big_quiet_on
      go_big_quiet_want
      refine ⟨.pointer (some ⟨w.heap.size, 1, none⟩), fun W hW => ?_, ?_⟩
      · go_simp
      go_big_quiet_on
      simp only [Act.put, List.setIfInBounds_toArray, List.set_cons_zero, List.set_cons_succ]
      go_big_quiet_want
      refine ⟨.slice (some ⟨g, o0, none⟩) 1 cp, fun W hW => ?_, ?_⟩
      · obtain ⟨x0, x1, y0, y1, y2, y3, y4, y5, y6, y7, y8, y9⟩ := HX.out W hW
        go_simp
      go_big_quiet_on
      simp only [Act.put, List.setIfInBounds_toArray, List.set_cons_zero, List.set_cons_succ]
      go_big_quiet_want
      refine ⟨.pointer (some ⟨g, o0, none⟩), fun W hW => ?_, ?_⟩
      · go_simp
      go_big_quiet_on
      simp only [Act.put, List.setIfInBounds_toArray, List.set_cons_zero, List.set_cons_succ]
      go_big_quiet_want
      refine ⟨.pointer (some ⟨g, o0, none⟩), fun W hW => ?_, ?_⟩
      · go_simp
      go_big_quiet_on
      simp only [Act.put, List.setIfInBounds_toArray, List.set_cons_zero, List.set_cons_succ]
      go_big_quiet_want
      refine ⟨.agg #[.int .i64 (zc.length : Int), .int .u64 (FW zc 0 : Int), .int .u64 (FW zc 1 : Int), .int .u64 (FW zc 2 : Int), .int .u64 (FW zc 3 : Int), .int .u64 (OW zc 0 : Int), .int .u64 (OW zc 1 : Int), .int .u64 (OW zc 2 : Int), .int .u64 (OW zc 3 : Int)], fun W hW => ?_, ?_⟩
      · obtain ⟨x0, x1, y0, y1, y2, y3, y4, y5, y6, y7, y8, y9⟩ := HX.out W hW
        go_simp
      go_big_quiet_on
      simp only [Act.put, List.setIfInBounds_toArray, List.set_cons_zero, List.set_cons_succ]
      go_big_quiet_want
      refine ⟨.pointer (some ⟨w.heap.size, 0, none⟩), fun W hW => ?_, ?_⟩
      · go_simp
      go_big_quiet_on
      simp only [Act.put, List.setIfInBounds_toArray, List.set_cons_zero, List.set_cons_succ]
      go_big_quiet_want
      refine ⟨.int .i64 b, fun W hW => ?_, ?_⟩
      · obtain ⟨x0, x1, y0, y1, y2, y3, y4, y5, y6, y7, y8, y9⟩ := HX.out W hW
        go_simp
      go_big_quiet_on
      simp only [Act.put, List.setIfInBounds_toArray, List.set_cons_zero, List.set_cons_succ]
      go_big_quiet_want
      refine ⟨.agg #[.int .i64 (D.length : Int), .int .u64 (FW D 0 : Int), .int .u64 (FW D 1 : Int), .int .u64 (FW D 2 : Int), .int .u64 (FW D 3 : Int), .int .u64 (OW D 0 : Int), .int .u64 (OW D 1 : Int), .int .u64 (OW D 2 : Int), .int .u64 (OW D 3 : Int)], fun W hW => ?_, ?_⟩
      · go_simp
        refine (HAL.out W).mono ?_
        rintro e w7 ⟨rfl, hb⟩
        exact ⟨rfl, bel0 hW hb⟩
      go_big_quiet_on
      simp only [Act.put, List.setIfInBounds_toArray, List.set_cons_zero, List.set_cons_succ]
      go_big_quiet_want
      refine ⟨.bool q, fun W hW => ?_, ?_⟩
      · go_simp
      go_big_quiet_on
      simp only [Act.put, List.setIfInBounds_toArray, List.set_cons_zero, List.set_cons_succ]
      go_big_quiet_want
      refine ⟨.bool q, fun W hW => ?_, ?_⟩
      · go_simp
      go_big_quiet_on
      simp only [Act.put, List.setIfInBounds_toArray, List.set_cons_zero, List.set_cons_succ]
      go_big_quiet_want
      go_big_quiet_op
      go_big_quiet_on
      refine wpQuiet_nil ?_
      intro W hW
      go_wp2_with fail
      go_ret
      exact ⟨by rw [HR.out]; rfl, bel0 HB.out hW⟩
    · have jm : ((m : Int) == 0) = false := by simp; omega
      have HR : Hid (alB b ([⟨zc, zq, zk, zL⟩].map ZT.cont) = false) := by
        cases zL with
        | nil => exact absurd hm.symm hm0
        | cons x r => rfl
      clear h0 hB hIR h2 hg hs hl hn hm gz hsz hm0
      go_enter Tryz.func29, Tryz.ntmps29
      go_upto_region 1 with fail
      clear hw2
      refine quiet_lit3 (C := fun W => Below w2.heap.size w2 W) (by kernel_rfl) (by kernel_rfl) (show Below _ _ _ from (Below.refl _ _).drew) ?_
      go_big_quiet_want
      refine ⟨.pointer (some ⟨w.heap.size, 1, none⟩), fun W hW => ?_, ?_⟩
      · go_simp
      go_big_quiet_on
      simp only [Act.put, List.setIfInBounds_toArray, List.set_cons_zero, List.set_cons_succ]
      go_big_quiet_want
      refine ⟨.slice (some ⟨g, o0, none⟩) 1 cp, fun W hW => ?_, ?_⟩
      · obtain ⟨x0, x1, y0, y1, y2, y3, y4, y5, y6, y7, y8, y9⟩ := HX.out W hW
        go_simp
      go_big_quiet_on
      simp only [Act.put, List.setIfInBounds_toArray, List.set_cons_zero, List.set_cons_succ]
      go_big_quiet_want
      refine ⟨.int .i64 1, fun W hW => ?_, ?_⟩
      · go_simp
      go_big_quiet_on
      simp only [Act.put, List.setIfInBounds_toArray, List.set_cons_zero, List.set_cons_succ]
      go_big_quiet_want
      refine ⟨.bool true, fun W hW => ?_, ?_⟩
      · go_simp
      go_big_quiet_on
      simp only [Act.put, List.setIfInBounds_toArray, List.set_cons_zero, List.set_cons_succ]
      go_big_quiet_want
      go_big_quiet_op
      go_big_quiet_on
      go_big_quiet_want
      refine ⟨.pointer (some ⟨w.heap.size, 1, none⟩), fun W hW => ?_, ?_⟩
      · go_simp
      go_big_quiet_on
      simp only [Act.put, List.setIfInBounds_toArray, List.set_cons_zero, List.set_cons_succ]
      go_big_quiet_want
      refine ⟨.slice (some ⟨g, o0, none⟩) 1 cp, fun W hW => ?_, ?_⟩
      · obtain ⟨x0, x1, y0, y1, y2, y3, y4, y5, y6, y7, y8, y9⟩ := HX.out W hW
        go_simp
      go_big_quiet_on
      simp only [Act.put, List.setIfInBounds_toArray, List.set_cons_zero, List.set_cons_succ]
      go_big_quiet_want
      refine ⟨.pointer (some ⟨g, o0, none⟩), fun W hW => ?_, ?_⟩
      · go_simp
      go_big_quiet_on
      simp only [Act.put, List.setIfInBounds_toArray, List.set_cons_zero, List.set_cons_succ]
      go_big_quiet_want
      refine ⟨.pointer (some ⟨g, o0 + 9, none⟩), fun W hW => ?_, ?_⟩
      · go_simp
      go_big_quiet_on
      simp only [Act.put, List.setIfInBounds_toArray, List.set_cons_zero, List.set_cons_succ]
      go_big_quiet_want
      refine ⟨.slice zq m zk, fun W hW => ?_, ?_⟩
      · obtain ⟨x0, x1, y0, y1, y2, y3, y4, y5, y6, y7, y8, y9⟩ := HX.out W hW
        go_simp
      go_big_quiet_on
      simp only [Act.put, List.setIfInBounds_toArray, List.set_cons_zero, List.set_cons_succ]
      go_big_quiet_want
      refine ⟨.int .i64 (m : Int), fun W hW => ?_, ?_⟩
      · go_simp
      go_big_quiet_on
      simp only [Act.put, List.setIfInBounds_toArray, List.set_cons_zero, List.set_cons_succ]
      go_big_quiet_want
      refine ⟨.bool false, fun W hW => ?_, ?_⟩
      · go_simp
      go_big_quiet_on
      simp only [Act.put, List.setIfInBounds_toArray, List.set_cons_zero, List.set_cons_succ]
      go_big_quiet_want
      refine ⟨.bool false, fun W hW => ?_, ?_⟩
      · go_simp
      go_big_quiet_on
      simp only [Act.put, List.setIfInBounds_toArray, List.set_cons_zero, List.set_cons_succ]
      go_big_quiet_want
      go_big_quiet_op
      go_big_quiet_on
      go_big_quiet_skip
      go_big_quiet_skip
      go_big_quiet_skip
      go_big_quiet_skip
      go_big_quiet_skip
      go_big_quiet_skip
      go_big_quiet_skip
      go_big_quiet_skip
      go_big_quiet_skip
      go_big_quiet_want
      refine ⟨.bool false, fun W hW => ?_, ?_⟩
      · go_simp
      go_big_quiet_on
      simp only [Act.put, List.setIfInBounds_toArray, List.set_cons_zero, List.set_cons_succ]
      go_big_quiet_want
      go_big_quiet_op
      go_big_quiet_on
      refine wpQuiet_nil ?_
      intro W hW
      go_wp2_with fail
      go_ret
      exact ⟨by rw [HR.out]; rfl, bel0 HB.out hW⟩
  · obtain ⟨n, hnn⟩ : ∃ n, Z.length = n := ⟨_, rfl⟩
    rw [hnn] at hn ⊢
    obtain ⟨w2, hw2⟩ : ∃ w2, w.alloc (.cells #[.int .i64 b, .slice p n cp, .bool false] 26 (0, 0)) = w2 := ⟨_, rfl⟩
    have h0 : w2.heap[w.heap.size]? = some (.cells #[.int .i64 b, .slice p n cp, .bool false] 26 (0, 0)) := by rw [← hw2]; exact alloc_get _ _
    have hB : Below w.heap.size w w2 := by rw [← hw2]; exact belA (Below.refl _ _) _
    have HX : Hid (∀ W, Below w2.heap.size w2 W → W.cell? ⟨w.heap.size, 0, none⟩ = some (.int .i64 b) ∧ W.cell? ⟨w.heap.size, 1, none⟩ = some (.slice p n cp)) := fun W hW => ⟨(cells_block (keepblk3 hW h0)).1 0, (cells_block (keepblk3 hW h0)).1 1⟩
    have HB : Hid (Below w.heap.size w w2) := hB
    have jn : ((n : Int) == 1) = false := by simp; omega
    have HR : Hid (alB b (Z.map ZT.cont) = false) := by
      unfold Hid
      match Z, hnn with
      | [], _ => rfl
      | [z], h => exact absurd h.symm hn
      | x :: y :: l, _ =>
        show alB b ((x.c, x.L) :: (y.c, y.L) :: l.map ZT.cont) = false
        cases x.L <;> rfl
    clear h0 hB h2 hg hs hl hn hnn
    go_enter Tryz.func29, Tryz.ntmps29
    go_upto_region 1 with fail
    clear hw2
    refine quiet_lit3 (C := fun W => Below w2.heap.size w2 W) (by kernel_rfl) (by kernel_rfl) (show Below _ _ _ from (Below.refl _ _).drew) ?_
    go_big_quiet_want
    refine ⟨.pointer (some ⟨w.heap.size, 1, none⟩), fun W hW => ?_, ?_⟩
    · go_simp
    go_big_quiet_on
    simp only [Act.put, List.setIfInBounds_toArray, List.set_cons_zero, List.set_cons_succ]
    go_big_quiet_want
    refine ⟨.slice p n cp, fun W hW => ?_, ?_⟩
    · obtain ⟨x0, x1⟩ := HX.out W hW
      go_simp
    go_big_quiet_on
    simp only [Act.put, List.setIfInBounds_toArray, List.set_cons_zero, List.set_cons_succ]
    go_big_quiet_want
    refine ⟨.int .i64 (n : Int), fun W hW => ?_, ?_⟩
    · go_simp
    go_big_quiet_on
    simp only [Act.put, List.setIfInBounds_toArray, List.set_cons_zero, List.set_cons_succ]
    go_big_quiet_want
    refine ⟨.bool false, fun W hW => ?_, ?_⟩
    · go_simp
    go_big_quiet_on
    simp only [Act.put, List.setIfInBounds_toArray, List.set_cons_zero, List.set_cons_succ]
    go_big_quiet_want
    go_big_quiet_op
    go_big_quiet_on
    go_big_quiet_skip
    go_big_quiet_skip
    go_big_quiet_skip
    go_big_quiet_skip
    go_big_quiet_skip
    go_big_quiet_skip
    go_big_quiet_skip
    go_big_quiet_want
    refine ⟨.bool false, fun W hW => ?_, ?_⟩
    · go_simp
    go_big_quiet_on
    simp only [Act.put, List.setIfInBounds_toArray, List.set_cons_zero, List.set_cons_succ]
    go_big_quiet_want
    go_big_quiet_op
    go_big_quiet_on
    go_big_quiet_skip
    go_big_quiet_skip
    go_big_quiet_skip
    go_big_quiet_skip
    go_big_quiet_skip
    go_big_quiet_skip
    go_big_quiet_skip
    go_big_quiet_skip
    go_big_quiet_skip
    go_big_quiet_want
    refine ⟨.bool false, fun W hW => ?_, ?_⟩
    · go_simp
    go_big_quiet_on
    simp only [Act.put, List.setIfInBounds_toArray, List.set_cons_zero, List.set_cons_succ]
    go_big_quiet_want
    go_big_quiet_op
    go_big_quiet_on
    refine wpQuiet_nil ?_
    intro W hW
    go_wp2_with fail
    go_ret
    exact ⟨by rw [HR.out]; rfl, bel0 HB.out hW⟩
end Go.Proofs.YtfhghplplkkpmaaGreatDoor
