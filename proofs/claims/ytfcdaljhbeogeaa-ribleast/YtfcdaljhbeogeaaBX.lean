import Derived.Test.YtfcdaljhbeogeaaBW
import Derived.Test.YtfcdaljhbeogeaaBU
namespace Go.Proofs.Ytfcdaljhbeogeaa
open Go.RowKit
def iv (V : List Int) : List Value := V.map (fun x => Value.int .i64 x)
theorem iv_set (V : List Int) (i : Nat) (z : Int) : (iv V).set i (.int .i64 z) = iv (V.set i z) := by unfold iv; rw [List.map_set]
theorem iv_at {W : World} {B g n c : Nat} {V : List Int} (h : W.ownsRow B 3 1 (.slice (some ⟨g, 0, none⟩) n c) n (iv V)) {i : Nat} {x : Int} (hx : V[i]? = some x) : W.cell? ⟨g, i, none⟩ = some (.int .i64 x) := by
  have hl : V.length = n := by
    have := h.1
    unfold iv at this
    rw [List.length_map] at this
    omega
  have := (List.getElem?_eq_some_iff.1 hx).1
  rw [h.cellAt i (by omega)]
  unfold iv
  rw [List.getElem?_map, hx]
  rfl
theorem iv_made (n : Nat) : (madeCells (Value.int .i64 0).cells (n * 1)).toList = iv (List.replicate n 0) := by
  rw [Nat.mul_one]
  unfold iv
  rw [List.map_replicate]
  exact toList_madeCells_one (.int .i64 0) n
def rowP (b : Nat) (S : List IRt) (n k : Nat) : List Int := (List.range n).map (fun j => if j < k then (par b S j : Int) - 1 else 0)
theorem rowP_len (b : Nat) (S : List IRt) (n k : Nat) : (rowP b S n k).length = n := by simp [rowP]
theorem rowP_zero (b : Nat) (S : List IRt) (n : Nat) : List.replicate n 0 = rowP b S n 0 := by
  apply List.ext_getElem?
  intro j
  unfold rowP
  by_cases h : j < n
  · simp [h]
  · simp [h]
theorem rowP_succ (b : Nat) (S : List IRt) (n k : Nat) : (rowP b S n k).set k ((par b S k : Int) - 1) = rowP b S n (k + 1) := by
  apply List.ext_getElem?
  intro j
  unfold rowP
  by_cases e : k = j
  · subst e
    by_cases h : k < n
    · rw [List.getElem?_set_self (by simpa using h)]
      simp [h]
    · rw [List.getElem?_eq_none (by simp; omega), List.getElem?_eq_none (by simp; omega)]
  · rw [List.getElem?_set_ne e, List.getElem?_map, List.getElem?_map]
    by_cases h : j < n
    · rw [List.getElem?_range h]
      simp only [Option.map_some]
      by_cases h1 : j < k
      · rw [if_pos h1, if_pos (by omega)]
      · rw [if_neg h1, if_neg (by omega)]
    · rw [List.getElem?_eq_none (by simp; omega)]
      rfl
theorem rowP_end {b : Nat} {S : List IRt} {n j : Nat} (h : j < n) : (rowP b S n n)[j]? = some ((par b S j : Int) - 1) := by
  unfold rowP
  rw [List.getElem?_map, List.getElem?_range h]
  simp [h]
set_option maxRecDepth 100000 in
set_option maxHeartbeats 2000000 in
theorem bparents_any (b : Nat) (S : List IRt) (o : Option Addr) (c n : Nat) (w : World) (hb : b ≤ 32) (hn : S.length = n) (hL : n ≤ 256) (hS : Srt b S) (hr : IRR w o S) :
    Calls Try.prog 56 #[.int .i64 (b : Int), .slice o n c] w fun e w' => ∃ g, e = .returned (.slice (some ⟨g, 0, none⟩) n n) ∧ w'.ownsRow w.heap.size 3 1 (.slice (some ⟨g, 0, none⟩) n n) n (iv (rowP b S n n)) ∧ Below w.heap.size w w' := by
  obtain ⟨i0, hi, hz0, hz1, hz2⟩ := info_parts info_int8
  have HI : Hid (IRR w o S) := hr
  have HN : Hid (S.length = n) := hn
  have HS : Hid (Srt b S) := hS
  have HH : Hid (∀ (r : IRt) (v : Nat) (W : World), rmay b r = true → v < 2 ^ b → Calls Try.prog 55 #[.int .i64 (b : Int), rv r, .int .i64 (v : Int)] W fun e w' => e = .returned (.bool (rhas b r v)) ∧ Below W.heap.size W w') := fun r v W h1 h2 => bhas_any b r v W hb h1 h2
  clear hr hn hS hb
  go_enter Try.func56, Try.ntmps56
  go_wp2_with (at_make; refine wpList_make_full _ rfl _ _ 23 rfl w.heap.size 3 i0 (.int .i64 0) 1 Try.underlying23 hi hz0 hz1 .i64 .i64 _ _ n rfl rfl rfl rfl (by rw [hz2]; omega) (by unfold maxLen; omega) (Nat.le_refl _) ?_; intro w5 hO5 hg5)
  rw [iv_made, rowP_zero b S n] at hO5
  have O5 : Hid (w5.ownsRow w.heap.size 3 1 (.slice (some ⟨w.heap.size, 0, none⟩) n n) n (iv (rowP b S n 0))) := hO5
  have B5 : Hid (Below w.heap.size w w5) := (Below.refl _ _).grown hg5 (Nat.le_refl _) (fun k e => by cases e)
  clear hO5 hg5 hz0 hz1 hz2 hi
  go_loopw [14] (fun vk wr => ∃ k : Nat, vk = .int .i64 (k : Int) ∧ k ≤ n ∧ Hid (wr.ownsRow w.heap.size 3 1 (.slice (some ⟨w.heap.size, 0, none⟩) n n) n (iv (rowP b S n k))) ∧ Below w.heap.size w wr) (fun vk _ => n - (intOf vk).toNat)
  case atStart => exact ⟨0, rfl, Nat.zero_le _, O5, B5.out⟩
  case round =>
    clear O5 B5
    obtain ⟨k, rfl, hk, hO, hB⟩ := hrel
    by_cases hlt : k < n
    · have j1 : (k : Int) < (n : Int) := by omega
      have j0 : (0 : Int) ≤ (k : Int) := by omega
      obtain ⟨r, hrk⟩ : ∃ r, S[k]? = some r := ⟨_, List.getElem?_eq_getElem (by rw [HN.out]; omega)⟩
      have hmr := may_ok (HS.out.may r (List.mem_of_getElem? hrk))
      obtain ⟨v, hv⟩ : ∃ v : Nat, r.2.1 = (v : Int) := ⟨r.2.1.toNat, by omega⟩
      have HV : Hid (v < 2 ^ b ∧ par b S k = fnd b v S (k + 1)) := by
        refine ⟨?_, ?_⟩
        · have := hmr.2.2.2.1
          rw [hv] at this
          exact Int.ofNat_lt.1 this
        · unfold par
          rw [show S.getD k (0, 0, 0, 0) = r by simp [List.getD, hrk], hv, Int.toNat_natCast]
      obtain ⟨g, o0, rfl, p0, p1, p2, p3⟩ := HI.out wr hB k r hrk
      obtain ⟨r0, r1, r2, r3⟩ := r
      simp only at p0 p1 p2 p3 hv
      subst hv
      obtain ⟨OB, hOB⟩ : ∃ OB : Obj, Obj.cells #[.int .i64 r0, .int .i64 (v : Int), .int .i64 r2, .int .i64 r3] 59 = OB := ⟨_, rfl⟩
      have hR : (wr.alloc OB).heap[wr.heap.size]? = some (.cells #[.int .i64 r0, .int .i64 (v : Int), .int .i64 r2, .int .i64 r3] 59 (0, 0)) := by rw [← hOB]; exact alloc_get _ _
      have hO2 := hO.out.alloc OB
      have hst := hO2.stored k (.int .i64 (-1))
      rw [iv_set] at hst
      have hxk : (rowP b S n k)[k]? = some 0 := by
        unfold rowP
        rw [List.getElem?_map, List.getElem?_range hlt]
        simp
      have q0 := iv_at hO2 hxk
      have zf := hO2.frozenAt k
      have hB2 : Below w.heap.size w (wr.alloc OB) := hB.alloc hB.size _
      have hne : wr.heap.size ≠ w.heap.size := fun e => by
        have := (hO.out.lt w.heap.size rfl).2
        omega
      have H3 : Hid (((wr.alloc OB).setCell ⟨w.heap.size, k, none⟩ (.int .i64 (-1))).ownsRow w.heap.size 3 1 (.slice (some ⟨w.heap.size, 0, none⟩) n n) n (iv ((rowP b S n k).set k (-1))) ∧ Below w.heap.size w ((wr.alloc OB).setCell ⟨w.heap.size, k, none⟩ (.int .i64 (-1))) ∧ ((wr.alloc OB).setCell ⟨w.heap.size, k, none⟩ (.int .i64 (-1))).heap[wr.heap.size]? = some (.cells #[.int .i64 r0, .int .i64 (v : Int), .int .i64 r2, .int .i64 r3] 59 (0, 0))) := ⟨hst.1, hB2.grown hst.2 hB2.size (fun j e => by injection e with e; omega), (heap_setCell_other _ ⟨w.heap.size, k, none⟩ wr.heap.size _ hne).trans hR⟩
      clear hst hxk hR hmr hrk hO hO2 hB2
      go_upto_region 6 with fail
      try rw [hOB]
      generalize (wr.alloc OB).setCell ⟨w.heap.size, k, none⟩ (.int .i64 (-1)) = w3 at H3 ⊢
      generalize wr.heap.size = R at H3 hne ⊢
      clear p0 p1 p2 p3 q0 zf hOB hne
      go_wp2_with fail
      go_loopw [8] (fun vj wi => ∃ j : Nat, vj = .int .i64 (j : Int) ∧ k + 1 ≤ j ∧ j ≤ n ∧ Hid (par b S k = fnd b v S j) ∧ Below w3.heap.size w3 wi) (fun vj _ => n - (intOf vj).toNat)
      case atStart => exact ⟨k + 1, by first | rfl | go_num, Nat.le_refl _, by omega, HV.out.2, Below.refl _ _⟩
      case round =>
        obtain ⟨j, rfl, hj1, hj2, hf, hBi⟩ := hrel
        have hBw := bel0 H3.out.2.1 hBi
        by_cases hjn : j < n
        · have i1 : (j : Int) < (n : Int) := by omega
          have i0' : (0 : Int) ≤ (j : Int) := by omega
          obtain ⟨t, ht⟩ : ∃ t, S[j]? = some t := ⟨_, List.getElem?_eq_getElem (by rw [HN.out]; omega)⟩
          have HL : Hid (∀ W, Below wr.heap.size wr W → (W.cell? ⟨g, o0 + j * 4, none⟩ = some (.int .i64 t.1) ∧ W.cell? ⟨g, o0 + j * 4 + 1, none⟩ = some (.int .i64 t.2.1) ∧ W.cell? ⟨g, o0 + j * 4 + 2, none⟩ = some (.int .i64 t.2.2.1) ∧ W.cell? ⟨g, o0 + j * 4 + 3, none⟩ = some (.int .i64 t.2.2.2)) ∧ W.cell? ⟨R, 1, none⟩ = some (.int .i64 (v : Int))) := fun W hW => by
            obtain ⟨g3, q3, e, hh⟩ := HI.out W (bel0 hBw hW) j t ht
            injection e with e
            injection e with e1 e2
            subst e1 e2
            exact ⟨hh, cell_of_row _ _ 1 _ _ _ (keepblk (bel0 hBi hW) H3.out.2.2)⟩
          have HQ := fun W => HH.out t v W (HS.out.may t (List.mem_of_getElem? ht)) HV.out.1
          have hst := fnd_some (b := b) (v := v) ht
          obtain ⟨D, hD⟩ : ∃ D, rhas b t v = D := ⟨_, rfl⟩
          simp only [hD] at HQ
          rw [hD] at hst
          obtain ⟨t0, t1, t2, t3⟩ := t
          simp only at HL
          have HQD : Hid (∀ W : World, Calls Try.prog 55 #[.int .i64 (b : Int), .agg #[.int .i64 t0, .int .i64 t1, .int .i64 t2, .int .i64 t3], .int .i64 (v : Int)] W fun e w' => e = .returned (.bool D) ∧ Below W.heap.size W w') := HQ
          clear HQ hD ht
          cases D with
          | false =>
            have HF : Hid (par b S k = fnd b v S (j + 1)) := by unfold Hid; rw [hf.out, hst]; rfl
            clear hst hf
            go_wp2_with fail
            refine quiet_lit3 (C := fun W => Below wr.heap.size wr W) (by kernel_rfl) (by kernel_rfl) (show Below _ _ _ from (Below.refl _ _).drew) ?_
            go_big_quiet_want
            go_big_quiet_op
            go_big_quiet_on
            go_big_quiet_want
            go_big_quiet_op
            go_big_quiet_on
            go_big_quiet_want
            go_big_quiet_op
            go_big_quiet_on
            go_big_quiet_want
            refine ⟨.pointer (some ⟨g, o0 + j * 4, none⟩), fun W hW => ?_, ?_⟩
            · go_simp
            go_big_quiet_on
            simp only [Act.put, List.setIfInBounds_toArray, List.set_cons_zero, List.set_cons_succ]
            go_big_quiet_want
            refine ⟨.agg #[.int .i64 t0, .int .i64 t1, .int .i64 t2, .int .i64 t3], fun W hW => ?_, ?_⟩
            · obtain ⟨⟨z0, z1, z2, z3⟩, n1⟩ := HL.out W hW
              go_simp
            go_big_quiet_on
            simp only [Act.put, List.setIfInBounds_toArray, List.set_cons_zero, List.set_cons_succ]
            go_big_quiet_want
            refine ⟨.pointer (some ⟨R, 1, none⟩), fun W hW => ?_, ?_⟩
            · go_simp
            go_big_quiet_on
            simp only [Act.put, List.setIfInBounds_toArray, List.set_cons_zero, List.set_cons_succ]
            go_big_quiet_want
            refine ⟨.int .i64 (v : Int), fun W hW => ?_, ?_⟩
            · obtain ⟨⟨z0, z1, z2, z3⟩, n1⟩ := HL.out W hW
              go_simp
            go_big_quiet_on
            simp only [Act.put, List.setIfInBounds_toArray, List.set_cons_zero, List.set_cons_succ]
            go_big_quiet_want
            refine ⟨.bool false, fun W hW => ?_, ?_⟩
            · go_simp
              refine (HQD.out W).mono ?_
              rintro e w7 ⟨rfl, hb⟩
              exact ⟨rfl, bel0 hW hb⟩
            go_big_quiet_on
            simp only [Act.put, List.setIfInBounds_toArray, List.set_cons_zero, List.set_cons_succ]
            refine wpQuiet_nil ?_
            intro W hW
            go_wp2_with fail
            go_roundw
            case rel => exact ⟨j + 1, by go_num, by omega, by omega, HF, bel0 hBi hW⟩
            case measure => simp [intOf]; omega
          | true =>
            have HF : Hid (par b S k = j + 1) := by unfold Hid; rw [hf.out, hst]; rfl
            clear hst hf
            go_wp2_with fail
            refine quiet_lit3 (C := fun W => Below wr.heap.size wr W) (by kernel_rfl) (by kernel_rfl) (show Below _ _ _ from (Below.refl _ _).drew) ?_
            go_big_quiet_want
            go_big_quiet_op
            go_big_quiet_on
            go_big_quiet_want
            go_big_quiet_op
            go_big_quiet_on
            go_big_quiet_want
            go_big_quiet_op
            go_big_quiet_on
            go_big_quiet_want
            refine ⟨.pointer (some ⟨g, o0 + j * 4, none⟩), fun W hW => ?_, ?_⟩
            · go_simp
            go_big_quiet_on
            simp only [Act.put, List.setIfInBounds_toArray, List.set_cons_zero, List.set_cons_succ]
            go_big_quiet_want
            refine ⟨.agg #[.int .i64 t0, .int .i64 t1, .int .i64 t2, .int .i64 t3], fun W hW => ?_, ?_⟩
            · obtain ⟨⟨z0, z1, z2, z3⟩, n1⟩ := HL.out W hW
              go_simp
            go_big_quiet_on
            simp only [Act.put, List.setIfInBounds_toArray, List.set_cons_zero, List.set_cons_succ]
            go_big_quiet_want
            refine ⟨.pointer (some ⟨R, 1, none⟩), fun W hW => ?_, ?_⟩
            · go_simp
            go_big_quiet_on
            simp only [Act.put, List.setIfInBounds_toArray, List.set_cons_zero, List.set_cons_succ]
            go_big_quiet_want
            refine ⟨.int .i64 (v : Int), fun W hW => ?_, ?_⟩
            · obtain ⟨⟨z0, z1, z2, z3⟩, n1⟩ := HL.out W hW
              go_simp
            go_big_quiet_on
            simp only [Act.put, List.setIfInBounds_toArray, List.set_cons_zero, List.set_cons_succ]
            go_big_quiet_want
            refine ⟨.bool true, fun W hW => ?_, ?_⟩
            · go_simp
              refine (HQD.out W).mono ?_
              rintro e w7 ⟨rfl, hb⟩
              exact ⟨rfl, bel0 hW hb⟩
            go_big_quiet_on
            simp only [Act.put, List.setIfInBounds_toArray, List.set_cons_zero, List.set_cons_succ]
            refine wpQuiet_nil ?_
            intro W hW
            have o4 := owns_below H3.out.1 (bel0 hBi hW)
            have hB4 := bel0 hBw hW
            have q4 := iv_at o4 (i := k) (x := -1) (by rw [List.getElem?_set_self (by rw [rowP_len]; exact hlt)])
            have z4 := o4.frozenAt k
            have hs4 := o4.stored k (.int .i64 (j : Int))
            rw [iv_set, List.set_set, show (j : Int) = (par b S k : Int) - 1 by rw [HF.out]; omega, rowP_succ] at hs4
            have H5 : Hid ((W.setCell ⟨w.heap.size, k, none⟩ (.int .i64 (j : Int))).ownsRow w.heap.size 3 1 (.slice (some ⟨w.heap.size, 0, none⟩) n n) n (iv (rowP b S n (k + 1))) ∧ Below w.heap.size w (W.setCell ⟨w.heap.size, k, none⟩ (.int .i64 (j : Int)))) := by
              rw [show (j : Int) = (par b S k : Int) - 1 by rw [HF.out]; omega]
              exact ⟨hs4.1, hB4.grown hs4.2 hB4.size (fun j e => by injection e with e; omega)⟩
            clear hs4 o4 HF
            go_wp2_with fail
            go_roundw
            case rel => exact ⟨k + 1, by go_num, by omega, H5.out.1, H5.out.2⟩
            case measure => simp [intOf]; omega
        · have i1 : ¬ (j : Int) < (n : Int) := by omega
          have HF : Hid (par b S k = 0) := by unfold Hid; rw [hf.out, fnd_none (List.getElem?_eq_none (by rw [HN.out]; omega))]
          have o4 := owns_below H3.out.1 hBi
          have H5 : Hid (wr.ownsRow w.heap.size 3 1 (.slice (some ⟨w.heap.size, 0, none⟩) n n) n (iv (rowP b S n (k + 1)))) := by
            unfold Hid
            rw [← rowP_succ, HF.out]
            exact o4
          clear o4 hf
          go_wp2_with fail
          go_roundw
          case rel => exact ⟨k + 1, by go_num, by omega, H5, hBw⟩
          case measure => simp [intOf]; omega
    · have j1 : ¬ (k : Int) < (n : Int) := by omega
      obtain rfl : k = n := by omega
      go_wp2_with fail
      go_ret
      exact ⟨_, rfl, hO.out, hB⟩
end Go.Proofs.Ytfcdaljhbeogeaa
