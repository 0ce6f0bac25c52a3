import Derived.Test.YthonobihcahfiaaGreatDoorXAQ
namespace Go.Proofs.YthonobihcahfiaaGreatDoor.Nt
open Go.RowKit Go.Shelf
theorem sumG_take {g : List NG} {k : Nat} {x : NG} (h : g[k]? = some x) : sumG (g.take (k + 1)) = sumG (g.take k) + x.cubes.length := by
  unfold sumG
  rw [List.take_add_one, h]
  simp
theorem sumE_take {g : List NE} {k : Nat} {x : NE} (h : g[k]? = some x) : sumE (g.take (k + 1)) = sumE (g.take k) + x.cubes.length := by
  unfold sumE
  rw [List.take_add_one, h]
  simp
theorem tot_take {α : Type} {L : List (List α)} {k : Nat} {x : List α} (h : L[k]? = some x) : ((L.take (k + 1)).map (·.length)).sum = ((L.take k).map (·.length)).sum + x.length := by
  rw [List.take_add_one, h]
  simp
theorem all_take {α : Type} {P : α → Prop} {L : List α} {k : Nat} {x : α} (h : L[k]? = some x) (h1 : ∀ y ∈ L.take k, P y) (h2 : P x) : ∀ y ∈ L.take (k + 1), P y := fun y hy => by
  rw [List.take_add_one, h] at hy
  rcases List.mem_append.1 hy with h3 | h3
  · exact h1 y h3
  · simp at h3
    rw [h3]
    exact h2
set_option maxRecDepth 100000 in
set_option maxHeartbeats 8000000 in
theorem yguards_any (n : NN) (v : NV) (w : World) (hN : LN w n v) (hS : SizeP n) (hO : okN n) :
    Calls Tryz.prog 17 #[.agg (nnA n v)] w (BQ ((∀ g ∈ n.grds, LinesP n.bits g) ∧ totG n ≤ 64) w) := by
  obtain ⟨pp, cp, pt, ct, pg, cg⟩ := v
  unfold nnA
  simp only at hN ⊢
  obtain ⟨W1, hW1⟩ : ∃ W1, w.alloc (Obj.cells #[.int .i64 n.bits, .slice pp n.ports.length cp, .slice pt n.tabs.length ct, .slice pg n.grds.length cg] 26) = W1 := ⟨_, rfl⟩
  have b1 : Below w.heap.size w W1 := by rw [← hW1]; exact belAZ (Below.refl _ _) _
  obtain ⟨B, hB⟩ : ∃ B, w.heap.size = B := ⟨_, rfl⟩
  have k1 : W1.heap[B]? = some (.cells #[.int .i64 n.bits, .slice pp n.ports.length cp, .slice pt n.tabs.length ct, .slice pg n.grds.length cg] 26 (0, 0)) := by rw [← hW1, ← hB]; exact alloc_getZ _ _
  have HC : Hid (∀ U, Below W1.heap.size W1 U → U.cell? ⟨B, 0, none⟩ = some (.int .i64 n.bits) ∧ U.cell? ⟨B, 1, none⟩ = some (.slice pp n.ports.length cp) ∧ U.cell? ⟨B, 2, none⟩ = some (.slice pt n.tabs.length ct) ∧ U.cell? ⟨B, 3, none⟩ = some (.slice pg n.grds.length cg)) := fun U hU => by
    have := (cellsZ (keepZ hU k1)).1
    exact ⟨by rw [this]; rfl, by rw [this]; rfl, by rw [this]; rfl, by rw [this]; rfl⟩
  have HNN : Hid (∀ U, Below W1.heap.size W1 U → LN U n ⟨pp, cp, pt, ct, pg, cg⟩) := fun U hU => hN.below (bel0Z b1 hU)
  have HB1 := hideL b1
  have HBB := hideL hB
  have HW := hideL hW1
  clear k1 b1 hB hW1 hN
  have HZ : Hid (SizeP n ∧ okN n) := ⟨hS, hO⟩
  have HQT : Hid (∀ U, Below W1.heap.size W1 U → ((∀ g ∈ n.grds, LinesP n.bits g) ∧ totG n ≤ 64) → BQ ((∀ g ∈ n.grds, LinesP n.bits g) ∧ totG n ≤ 64) w (.returned (.bool true)) U) := fun U hU h => BQ.yes h (bel0Z HB1.out hU)
  have HQF : Hid (∀ U, Below W1.heap.size W1 U → ¬ ((∀ g ∈ n.grds, LinesP n.bits g) ∧ totG n ≤ 64) → BQ ((∀ g ∈ n.grds, LinesP n.bits g) ∧ totG n ≤ 64) w (.returned (.bool false)) U) := fun U hU h => BQ.no h (bel0Z HB1.out hU)
  obtain ⟨ng, hng⟩ : ∃ ng, n.grds.length = ng := ⟨_, rfl⟩
  have hng48 : ng ≤ 48 := by have := hS.2.2.2.1; have := hS.2.2.2.2; omega
  have HNG := hideL hng
  rw [hng] at HC HW ⊢
  clear hS hO hng
  go_enter Tryz.func17, Tryz.ntmps17
  go_wp2_with fail
  rw [HW.out, HBB.out]
  go_loopw [3, 4] (fun v3 v4 wr => ∃ k t : Nat, v3 = .int .i64 (t : Int) ∧ v4 = .int .i64 (k : Int) ∧ k ≤ ng ∧ t ≤ k * 4398046510976 ∧ Hid (((n.grds.take k).map (·.length)).sum = t ∧ ∀ g ∈ n.grds.take k, LinesP n.bits g) ∧ Hid (Below W1.heap.size W1 wr)) (fun _ v4 _ => ng - (intOf v4).toNat)
  case atStart => exact ⟨0, 0, rfl, rfl, Nat.zero_le _, Nat.zero_le _, ⟨rfl, fun g hg => by simp at hg⟩, Below.refl _ _⟩
  case round =>
    obtain ⟨wo, rfl⟩ : ∃ wo, wo = wr := ⟨wr, rfl⟩
    obtain ⟨k, t, rfl, rfl, hk, htk, HSO, HB⟩ := hrel
    obtain ⟨q0, q1, q2, q3⟩ := HC.out wo HB.out
    by_cases hlt : k < ng
    · obtain ⟨gl, hx⟩ : ∃ gl, n.grds[k]? = some gl := ⟨_, List.getElem?_eq_getElem (by have := HNG.out; omega)⟩
      obtain ⟨g0, o0, p5, c5, e5, e0, hG, hcl⟩ := (HNN.out wo HB.out).2.2.2.2.1 k gl hx
      simp only at e5
      subst e5
      have hok := HZ.out.2.2.2.2.2.2 gl (List.mem_of_getElem? hx)
      obtain ⟨m, hm⟩ : ∃ m, gl.length = m := ⟨_, rfl⟩
      have hm43 : m ≤ 4398046510976 := by have := hok.1; omega
      rw [hm] at e0
      have HX : Hid (n.grds[k]? = some gl ∧ gl.length = m ∧ okGl gl) := ⟨hx, hm, hok⟩
      have HG : Hid (∀ U, Below wo.heap.size wo U → U.cell? ⟨g0, o0 + k, none⟩ = some (.slice p5 m c5) ∧ LG U p5 gl ∧ (U.cell? ⟨B, 0, none⟩ = some (.int .i64 n.bits) ∧ U.cell? ⟨B, 3, none⟩ = some (.slice (some ⟨g0, o0, none⟩) ng cg))) := fun U hU => ⟨keepC hU e0, hG.below hU, keepC hU q0, keepC hU q3⟩
      have j1 : (0 : Int) ≤ (k : Int) := by omega
      have j2 : (k : Int) < (ng : Int) := by omega
      clear hx hG hcl hok hm q0 q1 q2 e0 HNN HC
      go_wp2_with fail
      clear q3
      go_loopw [3, 5, 6] (fun v3 v5 v6 wr => ∃ i a s : Nat, v3 = .int .i64 (s : Int) ∧ v5 = .int .i64 (a : Int) ∧ v6 = .int .i64 (i : Int) ∧ i ≤ m ∧ a ≤ i * 64 ∧ s ≤ 211106232526848 + i ∧ Hid (s = t + i) ∧ Hid (sumG (gl.take i) = a ∧ ∀ l ∈ gl.take i, CubesP n.bits l.cubes) ∧ Hid (Below wo.heap.size wo wr)) (fun _ _ v6 _ => m - (intOf v6).toNat)
      case atStart => exact ⟨0, 0, t, rfl, rfl, rfl, Nat.zero_le _, Nat.zero_le _, by omega, rfl, ⟨rfl, fun g hg => by simp at hg⟩, Below.refl _ _⟩
      case round =>
        obtain ⟨i, a, s, rfl, rfl, rfl, hi, hai, hsi, HS, HSI, HBI⟩ := hrel
        obtain ⟨e0, hG, q0, q3⟩ := HG.out _ HBI.out
        by_cases hlt2 : i < m
        · obtain ⟨l, hl⟩ : ∃ l, gl[i]? = some l := ⟨_, List.getElem?_eq_getElem (by have := HX.out.2.1; omega)⟩
          obtain ⟨g2, o2, pc, cc, e5, e1, e2, hLS, hcc⟩ := hG i l hl
          subst e5
          have hokl := HX.out.2.2.2 l (List.mem_of_getElem? hl)
          obtain ⟨lc, hlc⟩ : ∃ lc, l.cubes.length = lc := ⟨_, rfl⟩
          rw [hlc] at e2
          obtain ⟨W3, hW3⟩ : ∃ W3, wr.alloc (Obj.cells #[.bool l.pm, .slice pc lc cc] 50) = W3 := ⟨_, rfl⟩
          have b3 : Below wr.heap.size wr W3 := by rw [← hW3]; exact belAZ (Below.refl _ _) _
          obtain ⟨b7, hb7⟩ : ∃ b7, wr.heap.size = b7 := ⟨_, rfl⟩
          have k3 : W3.heap[b7]? = some (.cells #[.bool l.pm, .slice pc lc cc] 50 (0, 0)) := by rw [← hW3, ← hb7]; exact alloc_getZ _ _
          have HK7 : Hid (∀ U, Below W3.heap.size W3 U → U.cell? ⟨b7, 1, none⟩ = some (.slice pc lc cc) ∧ U.cell? ⟨B, 0, none⟩ = some (.int .i64 n.bits) ∧ Below wo.heap.size wo U) := fun U hU => ⟨by rw [(cellsZ (keepZ hU k3)).1]; rfl, keepC hU (keepC b3 q0), bel0Z (bel0Z HBI.out b3) hU⟩
          have HCU := ycubes_any n.bits l.cubes pc lc cc 64 W3 hlc (hLS.below b3) ⟨HZ.out.1.1, HZ.out.1.2.1⟩ hokl
          have HLL : Hid (gl[i]? = some l ∧ l.cubes.length = lc) := ⟨hl, hlc⟩
          have j3 : (0 : Int) ≤ (i : Int) := by omega
          have j4 : (i : Int) < (m : Int) := by omega
          have HW3 := hideL hW3
          have HB7 := hideL hb7
          obtain ⟨u1, u0, -⟩ := HK7.out W3 (Below.refl _ _)
          clear hl hlc hokl hLS hcc hG hW3 hb7 k3 b3 HG
          go_upto_region 10 with fail
          rw [HW3.out, HB7.out]
          clear e0 e1 e2 q0 q3
          go_wp2_with fail
          refine HCU.mono ?_
          rintro en W4 ⟨rfl, b4⟩
          obtain ⟨c1, c0, hb4⟩ := HK7.out W4 b4
          have HB4 : Hid (Below W1.heap.size W1 W4) := bel0Z HB.out hb4
          have HB5 : Hid (Below wo.heap.size wo W4) := hb4
          clear HCU b4 hb4 u0 u1
          cases hp : pb (l.cubes.length ≤ 64 ∧ ∀ c ∈ l.cubes, CubeP n.bits c) with
          | false =>
            have HQ := hideL (HQF.out W4 HB4.out (fun h => pb_not hp ((h.1 gl (List.mem_of_getElem? HX.out.1)).1 l (List.mem_of_getElem? HLL.out.1))))
            clear hp
            go_wp2_with fail
            go_ret
            exact HQ.out
          | true =>
            have hcp := pb_iff.1 hp
            have hl64 : lc ≤ 64 := by have := hcp.1; have := HLL.out.2; omega
            have HN1 : Hid (sumG (gl.take (i + 1)) = a + lc ∧ ∀ l ∈ gl.take (i + 1), CubesP n.bits l.cubes) := ⟨by rw [sumG_take HLL.out.1, HSI.out.1, HLL.out.2], all_take HLL.out.1 HSI.out.2 hcp⟩
            have HS1 : Hid (s + 1 = t + (i + 1)) := by have := HS.out; show _ = _; omega
            clear hp hcp HSI HS
            go_wp2_with fail
            go_roundw
            case rel => exact ⟨i + 1, a + lc, s + 1, by go_num, by go_num, by go_num, by omega, by omega, by omega, HS1, HN1, HB5⟩
            case measure => simp [intOf]; omega
        · obtain rfl : i = m := by omega
          have j4 : ¬ (i : Int) < (i : Int) := by omega
          have HE : Hid (sumG gl = a ∧ ∀ l ∈ gl, CubesP n.bits l.cubes) := by
            have h1 := HSI.out
            rw [List.take_of_length_le (by have := HX.out.2.1; omega)] at h1
            exact h1
          have HB4 : Hid (Below W1.heap.size W1 wr) := bel0Z HB.out HBI.out
          by_cases h512 : 512 < a
          · have j5 : (512 : Int) < (a : Int) := by omega
            have HQ := hideL (HQF.out wr HB4.out (fun h => by have h9 := (h.1 gl (List.mem_of_getElem? HX.out.1)).2; have := HE.out.1; omega))
            clear hG HG HSI HS h512
            go_wp2_with fail
            go_ret
            exact HQ.out
          · have j5 : ¬ (512 : Int) < (a : Int) := by omega
            have HN1 : Hid (((n.grds.take (k + 1)).map (·.length)).sum = s ∧ ∀ g ∈ n.grds.take (k + 1), LinesP n.bits g) := ⟨by rw [tot_take HX.out.1, HSO.out.1, HX.out.2.1, HS.out], all_take HX.out.1 HSO.out.2 ⟨HE.out.2, by have := HE.out.1; omega⟩⟩
            have hs9 : s ≤ (k + 1) * 4398046510976 := by have := HS.out; omega
            clear hG HG HSI HS h512 HE HSO
            go_wp2_with fail
            go_roundw
            case rel => exact ⟨k + 1, s, rfl, by go_num, by omega, hs9, HN1, HB4⟩
            case measure => simp [intOf]; omega
    · obtain rfl : k = ng := by omega
      have j2 : ¬ (k : Int) < (k : Int) := by omega
      have HE : Hid (totG n = t ∧ ∀ g ∈ n.grds, LinesP n.bits g) := by
        have h1 := HSO.out
        rw [List.take_of_length_le (by have := HNG.out; omega)] at h1
        exact h1
      by_cases h64 : t ≤ 64
      · have j5 : (t : Int) ≤ 64 := by omega
        have HQ := hideL (HQT.out wo HB.out ⟨HE.out.2, by have := HE.out.1; omega⟩)
        clear HSO HE h64 HNN HC
        go_wp2_with fail
        go_ret
        exact HQ.out
      · have j5 : ¬ (t : Int) ≤ 64 := by omega
        have HQ := hideL (HQF.out wo HB.out (fun h => by have := h.2; have := HE.out.1; omega))
        clear HSO HE h64 HNN HC
        go_wp2_with fail
        go_ret
        exact HQ.out
end Go.Proofs.YthonobihcahfiaaGreatDoor.Nt
namespace Go.Proofs.YthonobihcahfiaaGreatDoor.Nt
open Go.RowKit Go.Shelf
theorem pw_take {L : List Int} {k : Nat} {x : Int} (h : (L.take k).Pairwise (· < ·)) (hx : L[k]? = some x) (hp : k = 0 ∨ ∃ y, L[k - 1]? = some y ∧ y < x) : (L.take (k + 1)).Pairwise (· < ·) := by
  rw [List.take_add_one, hx]
  refine List.pairwise_append.2 ⟨h, List.pairwise_singleton _ _, fun a ha b hb => ?_⟩
  have hb : b = x := by simpa using hb
  subst hb
  obtain ⟨j, hj, rfl⟩ := List.getElem_of_mem ha
  rw [List.length_take] at hj
  rcases hp with h0 | ⟨y, hy, hlt⟩
  · omega
  · rw [List.getElem_take]
    rcases Nat.lt_or_ge j (k - 1) with h1 | h1
    · have e2 : (L.take k)[k - 1]? = some y := by rw [List.getElem?_take, if_pos (by omega)]; exact hy
      obtain ⟨h3, h4⟩ := List.getElem?_eq_some_iff.1 e2
      have := List.pairwise_iff_getElem.1 h j (k - 1) (by rw [List.length_take]; omega) h3 h1
      rw [List.getElem_take, h4] at this
      omega
    · have : j = k - 1 := by omega
      subst this
      obtain ⟨h3, h4⟩ := List.getElem?_eq_some_iff.1 hy
      rw [h4]
      exact hlt
theorem pw_bad {L : List Int} {k : Nat} {x y : Int} (h : L.Pairwise (· < ·)) (h0 : 0 < k) (hy : L[k - 1]? = some y) (hx : L[k]? = some x) : y < x := by
  obtain ⟨h1, rfl⟩ := List.getElem?_eq_some_iff.1 hx
  obtain ⟨h2, rfl⟩ := List.getElem?_eq_some_iff.1 hy
  exact List.pairwise_iff_getElem.1 h (k - 1) k h2 h1 (by omega)
theorem nd_take {α : Type} {L : List α} {i : Nat} {x : α} (h : (L.take i).Nodup) (hx : L[i]? = some x) (hp : ∀ j y, j < i → L[j]? = some y → y ≠ x) : (L.take (i + 1)).Nodup := by
  rw [List.take_add_one, hx]
  refine List.nodup_append.2 ⟨h, by simp, fun a ha b hb => ?_⟩
  have hb : b = x := by simpa using hb
  subst hb
  obtain ⟨j, hj, rfl⟩ := List.getElem_of_mem ha
  rw [List.length_take] at hj
  rw [List.getElem_take]
  exact hp j _ (by omega) (List.getElem?_eq_getElem (by omega))
theorem nd_bad {α : Type} {L : List α} {i j : Nat} {x : α} (h : L.Nodup) (hj : j < i) (h1 : L[j]? = some x) (h2 : L[i]? = some x) : False := by
  obtain ⟨h3, h4⟩ := List.getElem?_eq_some_iff.1 h1
  obtain ⟨h5, h6⟩ := List.getElem?_eq_some_iff.1 h2
  exact (List.pairwise_iff_getElem.1 h j i h3 h5 hj) (h4.trans h6.symm)
def neA (x : NE) (pi : Option Addr) (ci : Nat) (pc : Option Addr) (cc : Nat) (po : Option Addr) (co : Nat) : Array Value := #[.string ⟨x.nm.toArray⟩, .slice pi x.ins.length ci, .slice pc x.cubes.length cc, .string ⟨x.wr.toArray⟩, .slice po x.outs.length co]
theorem alloc2 (w : World) (o : Obj) : (w.alloc o).heap.size = w.heap.size + 1 := by simp
set_option maxRecDepth 100000 in
set_option maxHeartbeats 16000000 in
theorem yentry_any (n : NN) (v : NV) (box : Int) (x : NE) (pi : Option Addr) (ci : Nat) (pc : Option Addr) (cc : Nat) (po : Option Addr) (co : Nat) (w : World) (hN : LN w n v) (hE : LEL w x pi ci pc cc po co) (hS : SizeP n) (hO : okE x) :
    Calls Tryz.prog 32 #[.agg (nnA n v), .int .i64 box, .agg (neA x pi ci pc cc po co)] w (BQ (EntryP n box x) w) := by
  obtain ⟨pp, cp, pt, ct, pg, cg⟩ := v
  unfold nnA neA
  simp only at hN ⊢
  obtain ⟨ni, hni⟩ : ∃ ni, x.ins.length = ni := ⟨_, rfl⟩
  obtain ⟨nc, hnc⟩ : ∃ nc, x.cubes.length = nc := ⟨_, rfl⟩
  obtain ⟨no, hno⟩ : ∃ no, x.outs.length = no := ⟨_, rfl⟩
  rw [hni, hnc, hno]
  obtain ⟨W1, hW1⟩ : ∃ W1, (w.alloc (Obj.cells #[.int .i64 n.bits, .slice pp n.ports.length cp, .slice pt n.tabs.length ct, .slice pg n.grds.length cg] 26)).alloc (Obj.cells #[.string ⟨x.nm.toArray⟩, .slice pi ni ci, .slice pc nc cc, .string ⟨x.wr.toArray⟩, .slice po no co] 46) = W1 := ⟨_, rfl⟩
  have b1 : Below w.heap.size w W1 := by rw [← hW1]; exact belAZ (belAZ (Below.refl _ _) _) _
  obtain ⟨B, hB⟩ : ∃ B, w.heap.size = B := ⟨_, rfl⟩
  obtain ⟨E, hEB⟩ : ∃ E, B + 1 = E := ⟨_, rfl⟩
  have k1 : W1.heap[B]? = some (.cells #[.int .i64 n.bits, .slice pp n.ports.length cp, .slice pt n.tabs.length ct, .slice pg n.grds.length cg] 26 (0, 0)) := by rw [← hW1, ← hB]; exact keepZ (belAZ (Below.refl _ _) _) (alloc_getZ _ _)
  have k2 : W1.heap[E]? = some (.cells #[.string ⟨x.nm.toArray⟩, .slice pi ni ci, .slice pc nc cc, .string ⟨x.wr.toArray⟩, .slice po no co] 46 (0, 0)) := by
    have := alloc_getZ (w.alloc (Obj.cells #[.int .i64 n.bits, .slice pp n.ports.length cp, .slice pt n.tabs.length ct, .slice pg n.grds.length cg] 26)) (Obj.cells #[.string ⟨x.nm.toArray⟩, .slice pi ni ci, .slice pc nc cc, .string ⟨x.wr.toArray⟩, .slice po no co] 46)
    rw [alloc2, hB, hEB, hW1] at this
    exact this
  have HC : Hid (∀ U, Below W1.heap.size W1 U → U.cell? ⟨B, 0, none⟩ = some (.int .i64 n.bits) ∧ U.cell? ⟨B, 1, none⟩ = some (.slice pp n.ports.length cp) ∧ U.cell? ⟨B, 2, none⟩ = some (.slice pt n.tabs.length ct) ∧ U.cell? ⟨B, 3, none⟩ = some (.slice pg n.grds.length cg) ∧ U.cell? ⟨E, 0, none⟩ = some (.string ⟨x.nm.toArray⟩) ∧ U.cell? ⟨E, 1, none⟩ = some (.slice pi ni ci) ∧ U.cell? ⟨E, 2, none⟩ = some (.slice pc nc cc) ∧ U.cell? ⟨E, 3, none⟩ = some (.string ⟨x.wr.toArray⟩) ∧ U.cell? ⟨E, 4, none⟩ = some (.slice po no co)) := fun U hU => by
    have h1 := (cellsZ (keepZ hU k1)).1
    have h2 := (cellsZ (keepZ hU k2)).1
    exact ⟨by rw [h1]; rfl, by rw [h1]; rfl, by rw [h1]; rfl, by rw [h1]; rfl, by rw [h2]; rfl, by rw [h2]; rfl, by rw [h2]; rfl, by rw [h2]; rfl, by rw [h2]; rfl⟩
  have HL : Hid (∀ U, Below W1.heap.size W1 U → LEL U x pi ci pc cc po co) := fun U hU => hE.below (bel0Z b1 hU)
  have HSD : Hid (∀ U (z : Int) (b : Bool), Below W1.heap.size W1 U → Calls Tryz.prog 40 #[.agg #[.int .i64 n.bits, .slice pp n.ports.length cp, .slice pt n.tabs.length ct, .slice pg n.grds.length cg], .int .i64 z, .int .i64 box, .bool b] U (BQ (IsOfP n box z b) U)) := fun U z b hU => yside_any n ⟨pp, cp, pt, ct, pg, cg⟩ z box b U (hN.below (bel0Z b1 hU))
  have HZN : Hid (SizeP n ∧ okE x ∧ x.ins.length = ni ∧ x.cubes.length = nc ∧ x.outs.length = no) := ⟨hS, hO, hni, hnc, hno⟩
  have HQT : Hid (∀ U, Below W1.heap.size W1 U → EntryP n box x → BQ (EntryP n box x) w (.returned (.bool true)) U) := fun U hU h => BQ.yes h (bel0Z b1 hU)
  have HQF : Hid (∀ U, Below W1.heap.size W1 U → ¬ EntryP n box x → BQ (EntryP n box x) w (.returned (.bool false)) U) := fun U hU h => BQ.no h (bel0Z b1 hU)
  have hni9 : ni ≤ 17592186043904 := by have := hO.2.1; unfold okI at this; omega
  have hno9 : no ≤ 17592186043904 := by have := hO.2.2.2.2; unfold okI at this; omega
  have HBB : Hid (w.heap.size = B ∧ B + 1 = E) := ⟨hB, hEB⟩
  have HW := hideL hW1
  clear k1 k2 b1 hB hEB hW1 hN hE hS hO hni hnc hno
  obtain ⟨q0, q1, q2, q3, e0, e1, e2, e3, e4⟩ := HC.out W1 (Below.refl _ _)
  by_cases hnm : 256 < x.nm.length
  · have j0 : (256 : Int) < (x.nm.length : Int) := by omega
    have HQ := hideL (HQF.out W1 (Below.refl _ _) (fun h => by have := h.1; omega))
    clear HQT HQF HSD HL HZN hnm
    go_enter Tryz.func32, Tryz.ntmps32
    go_upto_region 1 with fail
    rw [HW.out, HBB.out.1, HBB.out.2]
    go_wp2_with fail
    go_ret
    exact HQ.out
  have j0 : ¬ (256 : Int) < (x.nm.length : Int) := by omega
  by_cases hn4 : 4 < no
  · have j1 : (4 : Int) < (no : Int) := by omega
    have HQ := hideL (HQF.out W1 (Below.refl _ _) (fun h => by have := h.2.2.2.2.1; have := HZN.out.2.2.2.2; omega))
    clear HQT HQF HSD HL HZN hn4
    go_enter Tryz.func32, Tryz.ntmps32
    go_upto_region 1 with fail
    rw [HW.out, HBB.out.1, HBB.out.2]
    go_wp2_with fail
    go_ret
    exact HQ.out
  have j1 : ¬ (4 : Int) < (no : Int) := by omega
  have HNM : Hid (x.nm.length ≤ 256 ∧ no ≤ 4) := ⟨by omega, by omega⟩
  go_enter Tryz.func32, Tryz.ntmps32
  go_upto_region 1 with fail
  rw [HW.out, HBB.out.1, HBB.out.2]
  clear hnm
  go_wp2_with fail
  clear q0 q1 q2 q3 e0 e1 e2 e3 e4
  go_loopw [7] (fun v7 wr => ∃ k : Nat, v7 = .int .i64 (k : Int) ∧ k ≤ ni ∧ Hid ((∀ p ∈ x.ins.take k, IsOfP n box p true) ∧ (x.ins.take k).Pairwise (· < ·)) ∧ Hid (Below W1.heap.size W1 wr)) (fun v7 _ => ni - (intOf v7).toNat)
  case atStart => exact ⟨0, rfl, Nat.zero_le _, ⟨fun p hp => by simp at hp, by simp⟩, Below.refl _ _⟩
  case round =>
    obtain ⟨k, rfl, hk, HIN, HBW⟩ := hrel
    obtain ⟨q0, q1, q2, q3, e0, e1, e2, e3, e4⟩ := HC.out wr HBW.out
    by_cases hlt : k < ni
    · obtain ⟨z, hz⟩ : ∃ z, x.ins[k]? = some z := ⟨_, List.getElem?_eq_getElem (by have := HZN.out.2.2.1; omega)⟩
      obtain ⟨gi, oi, rfl, i0⟩ := (HL.out wr HBW.out).1 k z hz
      have HZ : Hid (∀ U, Below W1.heap.size W1 U → U.cell? ⟨gi, oi + k, none⟩ = some (.int .i64 z)) := fun U hU => by
        obtain ⟨g9, o9, e9, c9⟩ := (HL.out U hU).1 k z hz
        have e9 := Option.some.inj e9
        injection e9 with e91 e92
        subst e91 e92
        exact c9
      have j2 : (0 : Int) ≤ (k : Int) := by omega
      have j3 : (k : Int) < (ni : Int) := by omega
      have HX := hideL hz
      clear hz
      go_wp2_with fail
      refine quiet_lit3 (C := fun U => Below wr.heap.size wr U) (by kernel_rfl) (by kernel_rfl) (show Below _ _ _ from (Below.refl _ _).drew) ?_
      go_big_quiet_want
      refine ⟨.agg #[.int .i64 n.bits, .slice pp n.ports.length cp, .slice pt n.tabs.length ct, .slice pg n.grds.length cg], fun W hW => ?_, ?_⟩
      · obtain ⟨q0, q1, q2, q3, e0, e1, e2, e3, e4⟩ := HC.out W (bel0Z HBW.out hW)
        go_simp
      go_big_quiet_on
      simp only [Act.put, List.setIfInBounds_toArray, List.set_cons_zero, List.set_cons_succ]
      go_big_quiet_want
      refine ⟨.pointer (some ⟨E, 1, none⟩), fun W hW => ?_, ?_⟩
      · go_simp
      go_big_quiet_on
      simp only [Act.put, List.setIfInBounds_toArray, List.set_cons_zero, List.set_cons_succ]
      go_big_quiet_want
      refine ⟨.slice (some ⟨gi, oi, none⟩) ni ci, fun W hW => ?_, ?_⟩
      · obtain ⟨q0, q1, q2, q3, e0, e1, e2, e3, e4⟩ := HC.out W (bel0Z HBW.out hW)
        go_simp
      go_big_quiet_on
      simp only [Act.put, List.setIfInBounds_toArray, List.set_cons_zero, List.set_cons_succ]
      go_big_quiet_want
      refine ⟨.int .i64 (k : Int), fun W hW => ?_, ?_⟩
      · go_simp
      go_big_quiet_on
      simp only [Act.put, List.setIfInBounds_toArray, List.set_cons_zero, List.set_cons_succ]
      go_big_quiet_want
      refine ⟨.pointer (some ⟨gi, oi + k, none⟩), fun W hW => ?_, ?_⟩
      · go_simp
      go_big_quiet_on
      simp only [Act.put, List.setIfInBounds_toArray, List.set_cons_zero, List.set_cons_succ]
      go_big_quiet_want
      refine ⟨.int .i64 z, fun W hW => ?_, ?_⟩
      · have i0 := HZ.out W (bel0Z HBW.out hW)
        go_simp
      go_big_quiet_on
      simp only [Act.put, List.setIfInBounds_toArray, List.set_cons_zero, List.set_cons_succ]
      go_big_quiet_want
      refine ⟨.int .i64 box, fun W hW => ?_, ?_⟩
      · go_simp
      go_big_quiet_on
      simp only [Act.put, List.setIfInBounds_toArray, List.set_cons_zero, List.set_cons_succ]
      go_big_quiet_want
      refine ⟨.bool (pb (IsOfP n box z true)), fun W hW => ?_, ?_⟩
      · go_simp
        refine (HSD.out W z true (bel0Z HBW.out hW)).mono ?_
        rintro e w7 ⟨rfl, hb⟩
        exact ⟨rfl, bel0Z hW hb⟩
      go_big_quiet_on
      simp only [Act.put, List.setIfInBounds_toArray, List.set_cons_zero, List.set_cons_succ]
      go_big_quiet_want
      go_big_quiet_op
      go_big_quiet_on
      refine wpQuiet_nil ?_
      intro W5 hW5
      have HB5 : Hid (Below W1.heap.size W1 W5) := bel0Z HBW.out hW5
      clear q0 q1 q2 q3 e0 e1 e2 e3 e4 i0 hW5
      obtain ⟨q0, q1, q2, q3, e0, e1, e2, e3, e4⟩ := HC.out W5 HB5.out
      have i0 := HZ.out W5 HB5.out
      cases hp : pb (IsOfP n box z true) with
      | false =>
        have HQ := hideL (HQF.out W5 HB5.out (fun h => pb_not hp (h.2.1.1 z (List.mem_of_getElem? HX.out))))
        clear hp HIN HQT HQF HX
        go_wp2_with fail
        go_quiet (fail)
        go_wp2_with fail
        go_ret
        exact ⟨HQ.out.1, bel_drewZ nq HQ.out.2⟩
      | true =>
        have HP1 := hideL (pb_iff.1 hp)
        clear hp
        rcases Nat.eq_zero_or_pos k with hk0 | hk0
        · subst hk0
          have HN1 : Hid ((∀ p ∈ x.ins.take (0 + 1), IsOfP n box p true) ∧ (x.ins.take (0 + 1)).Pairwise (· < ·)) := ⟨all_take HX.out HIN.out.1 HP1.out, pw_take HIN.out.2 HX.out (.inl rfl)⟩
          clear HIN HP1 HQT HQF
          go_wp2_with fail
          go_quiet (fail)
          go_wp2_with fail
          go_roundw
          case rel => exact ⟨0 + 1, by go_num, by omega, HN1, bel_drewZ nq HB5.out⟩
          case measure => simp [intOf]; omega
        · obtain ⟨m, hk9⟩ : ∃ m, k = m + 1 := ⟨k - 1, by omega⟩
          obtain ⟨z2, hz2⟩ : ∃ z2, x.ins[m]? = some z2 := ⟨_, List.getElem?_eq_getElem (by have := HZN.out.2.2.1; omega)⟩
          obtain ⟨g9, o9, e9, i1⟩ := (HL.out W5 HB5.out).1 m z2 hz2
          have e9 := Option.some.inj e9
          injection e9 with e91 e92
          subst e91 e92
          have y1 : IntKind.i64.wrap ((k : Int) - 1) = (m : Int) := by rw [IntKind.wrap_i64]; omega
          have j4 : (0 : Int) < (k : Int) := by omega
          have j5 : (0 : Int) ≤ (m : Int) := by omega
          have j6 : (m : Int) < (ni : Int) := by omega
          by_cases hle : z ≤ z2
          · have HQ := hideL (HQF.out W5 HB5.out (fun h => by have := pw_bad h.2.1.2 (show 0 < k by omega) (by rw [show k - 1 = m by omega]; exact hz2) HX.out; omega))
            clear HIN HP1 HQT HQF HX hk9 hz2
            go_wp2_with fail
            go_quiet (fail)
            go_wp2_with fail
            go_ret
            exact ⟨HQ.out.1, bel_drewZ nq HQ.out.2⟩
          · have HN1 : Hid ((∀ p ∈ x.ins.take (k + 1), IsOfP n box p true) ∧ (x.ins.take (k + 1)).Pairwise (· < ·)) := ⟨all_take HX.out HIN.out.1 HP1.out, pw_take HIN.out.2 HX.out (.inr ⟨z2, by rw [show k - 1 = m by omega]; exact hz2, by omega⟩)⟩
            clear HIN HP1 HQT HQF HX hk9 hz2
            go_wp2_with fail
            go_quiet (fail)
            go_wp2_with fail
            go_roundw
            case rel => exact ⟨k + 1, by go_num, by omega, HN1, bel_drewZ nq HB5.out⟩
            case measure => simp [intOf]; omega
    · obtain rfl : k = ni := by omega
      have j3 : ¬ (k : Int) < (k : Int) := by omega
      have HIN : Hid (InsP n box x.ins) := by
        have h1 := HIN.out
        rw [List.take_of_length_le (by have := HZN.out.2.2.1; omega)] at h1
        exact h1
      obtain ⟨wo, rfl⟩ : ∃ wo, wo = wr := ⟨wr, rfl⟩
      go_wp2_with fail
      clear q0 q1 q2 q3 e0 e1 e2 e3 e4
      go_loopw [9] (fun v9 wr => ∃ i : Nat, v9 = .int .i64 (i : Int) ∧ i ≤ no ∧ Hid ((∀ p ∈ x.outs.take i, IsOfP n box p false) ∧ (x.outs.take i).Nodup) ∧ Hid (Below W1.heap.size W1 wr)) (fun v9 _ => no - (intOf v9).toNat)
      case atStart => exact ⟨0, rfl, Nat.zero_le _, ⟨fun p hp => by simp at hp, by simp⟩, HBW⟩
      case round =>
        clear HBW
        obtain ⟨i, rfl, hi, HOU, HBW⟩ := hrel
        obtain ⟨q0, q1, q2, q3, e0, e1, e2, e3, e4⟩ := HC.out wr HBW.out
        by_cases hlt2 : i < no
        · obtain ⟨z, hz⟩ : ∃ z, x.outs[i]? = some z := ⟨_, List.getElem?_eq_getElem (by have := HZN.out.2.2.2.2; omega)⟩
          obtain ⟨gi, oi, rfl, i0⟩ := (HL.out wr HBW.out).2.2.2.2.1 i z hz
          have HZ : Hid (∀ U, Below W1.heap.size W1 U → U.cell? ⟨gi, oi + i, none⟩ = some (.int .i64 z)) := fun U hU => by
            obtain ⟨g9, o9, e9, c9⟩ := (HL.out U hU).2.2.2.2.1 i z hz
            have e9 := Option.some.inj e9
            injection e9 with e91 e92
            subst e91 e92
            exact c9
          have j2 : (0 : Int) ≤ (i : Int) := by omega
          have j4 : (i : Int) < (no : Int) := by omega
          have HX := hideL hz
          clear hz
          go_wp2_with fail
          refine quiet_lit3 (C := fun U => Below wr.heap.size wr U) (by kernel_rfl) (by kernel_rfl) (show Below _ _ _ from (Below.refl _ _).drew) ?_
          go_big_quiet_want
          refine ⟨.agg #[.int .i64 n.bits, .slice pp n.ports.length cp, .slice pt n.tabs.length ct, .slice pg n.grds.length cg], fun W hW => ?_, ?_⟩
          · obtain ⟨q0, q1, q2, q3, e0, e1, e2, e3, e4⟩ := HC.out W (bel0Z HBW.out hW)
            go_simp
          go_big_quiet_on
          simp only [Act.put, List.setIfInBounds_toArray, List.set_cons_zero, List.set_cons_succ]
          go_big_quiet_want
          refine ⟨.pointer (some ⟨E, 4, none⟩), fun W hW => ?_, ?_⟩
          · go_simp
          go_big_quiet_on
          simp only [Act.put, List.setIfInBounds_toArray, List.set_cons_zero, List.set_cons_succ]
          go_big_quiet_want
          refine ⟨.slice (some ⟨gi, oi, none⟩) no co, fun W hW => ?_, ?_⟩
          · obtain ⟨q0, q1, q2, q3, e0, e1, e2, e3, e4⟩ := HC.out W (bel0Z HBW.out hW)
            go_simp
          go_big_quiet_on
          simp only [Act.put, List.setIfInBounds_toArray, List.set_cons_zero, List.set_cons_succ]
          go_big_quiet_want
          refine ⟨.int .i64 (i : Int), fun W hW => ?_, ?_⟩
          · go_simp
          go_big_quiet_on
          simp only [Act.put, List.setIfInBounds_toArray, List.set_cons_zero, List.set_cons_succ]
          go_big_quiet_want
          refine ⟨.pointer (some ⟨gi, oi + i, none⟩), fun W hW => ?_, ?_⟩
          · go_simp
          go_big_quiet_on
          simp only [Act.put, List.setIfInBounds_toArray, List.set_cons_zero, List.set_cons_succ]
          go_big_quiet_want
          refine ⟨.int .i64 z, fun W hW => ?_, ?_⟩
          · have i0 := HZ.out W (bel0Z HBW.out hW)
            go_simp
          go_big_quiet_on
          simp only [Act.put, List.setIfInBounds_toArray, List.set_cons_zero, List.set_cons_succ]
          go_big_quiet_want
          refine ⟨.int .i64 box, fun W hW => ?_, ?_⟩
          · go_simp
          go_big_quiet_on
          simp only [Act.put, List.setIfInBounds_toArray, List.set_cons_zero, List.set_cons_succ]
          go_big_quiet_want
          refine ⟨.bool (pb (IsOfP n box z false)), fun W hW => ?_, ?_⟩
          · go_simp
            refine (HSD.out W z false (bel0Z HBW.out hW)).mono ?_
            rintro e w7 ⟨rfl, hb⟩
            exact ⟨rfl, bel0Z hW hb⟩
          go_big_quiet_on
          simp only [Act.put, List.setIfInBounds_toArray, List.set_cons_zero, List.set_cons_succ]
          go_big_quiet_want
          go_big_quiet_op
          go_big_quiet_on
          refine wpQuiet_nil ?_
          intro W5 hW5
          have HB5 : Hid (Below W1.heap.size W1 W5) := bel0Z HBW.out hW5
          clear q0 q1 q2 q3 e0 e1 e2 e3 e4 i0 hW5
          cases hp : pb (IsOfP n box z false) with
          | false =>
            have HQ := hideL (HQF.out W5 HB5.out (fun h => pb_not hp (h.2.2.2.2.2.1 z (List.mem_of_getElem? HX.out))))
            clear hp HIN HQT HQF HX
            go_wp2_with fail
            go_ret
            exact HQ.out
          | true =>
            have HP1 := hideL (pb_iff.1 hp)
            clear hp
            obtain ⟨w5, rfl⟩ : ∃ w5, w5 = W5 := ⟨W5, rfl⟩
            go_wp2_with fail
            go_loopw [11] (fun v11 wr => ∃ j : Nat, v11 = .int .i64 (j : Int) ∧ j ≤ i ∧ Hid (∀ j9 y, j9 < j → x.outs[j9]? = some y → y ≠ z) ∧ Hid (Below W1.heap.size W1 wr)) (fun v11 _ => i - (intOf v11).toNat)
            case atStart => exact ⟨0, rfl, Nat.zero_le _, fun j9 y h9 => by omega, HB5⟩
            case round =>
              clear HB5 HBW
              obtain ⟨j, rfl, hj, HDJ, HBW⟩ := hrel
              obtain ⟨q0, q1, q2, q3, e0, e1, e2, e3, e4⟩ := HC.out wr HBW.out
              by_cases hlt3 : j < i
              · obtain ⟨z2, hz2⟩ : ∃ z2, x.outs[j]? = some z2 := ⟨_, List.getElem?_eq_getElem (by have := HZN.out.2.2.2.2; omega)⟩
                obtain ⟨g9, o9, e9, i1⟩ := (HL.out wr HBW.out).2.2.2.2.1 j z2 hz2
                have e9 := Option.some.inj e9
                injection e9 with e91 e92
                subst e91 e92
                have i0 := HZ.out wr HBW.out
                have j5 : (0 : Int) ≤ (j : Int) := by omega
                have j6 : (j : Int) < (i : Int) := by omega
                have j7 : (j : Int) < (no : Int) := by omega
                by_cases heq : z2 = z
                · have y1 : (z2 == z) = true := beq_iff_eq.2 heq
                  have HQ := hideL (HQF.out wr HBW.out (fun h => nd_bad h.2.2.2.2.2.2 hlt3 (heq ▸ hz2) HX.out))
                  clear HDJ HQT HQF HX hz2 heq HP1 HOU HIN
                  go_wp2_with fail
                  go_quiet (fail)
                  go_wp2_with fail
                  go_ret
                  exact ⟨HQ.out.1, bel_drewZ nq HQ.out.2⟩
                · have y1 : (z2 == z) = false := beq_eq_false_iff_ne.2 heq
                  have HN1 : Hid (∀ j9 y, j9 < j + 1 → x.outs[j9]? = some y → y ≠ z) := fun j9 y h9 hy => by
                    rcases Nat.lt_or_ge j9 j with h1 | h1
                    · exact HDJ.out j9 y h1 hy
                    · obtain rfl : j9 = j := by omega
                      rw [hz2] at hy
                      rw [← Option.some.inj hy]
                      exact heq
                  clear HDJ HQT HQF HX hz2 heq HP1 HOU HIN
                  go_wp2_with fail
                  go_quiet (fail)
                  go_wp2_with fail
                  go_roundw
                  case rel => exact ⟨j + 1, by go_num, by omega, HN1, bel_drewZ nq HBW.out⟩
                  case measure => simp [intOf]; omega
              · obtain rfl : j = i := by omega
                have j6 : ¬ (j : Int) < (j : Int) := by omega
                have HN1 : Hid ((∀ p ∈ x.outs.take (j + 1), IsOfP n box p false) ∧ (x.outs.take (j + 1)).Nodup) := ⟨all_take HX.out HOU.out.1 HP1.out, nd_take HOU.out.2 HX.out HDJ.out⟩
                clear HDJ HQT HQF HX HP1 HOU HIN
                go_wp2_with fail
                go_roundw
                case rel => exact ⟨j + 1, by go_num, by omega, HN1, HBW⟩
                case measure => simp [intOf]; omega
        · obtain rfl : i = no := by omega
          have j4 : ¬ (i : Int) < (i : Int) := by omega
          have HOU : Hid (OutsP n box x.outs) := by
            have h1 := HOU.out
            rw [List.take_of_length_le (by have := HZN.out.2.2.2.2; omega)] at h1
            exact ⟨by have := HNM.out.2; have := HZN.out.2.2.2.2; omega, h1.1, h1.2⟩
          obtain ⟨W6, hW6⟩ : ∃ W6, wr.alloc (Obj.cells #[.string ⟨x.wr.toArray⟩] 9) = W6 := ⟨_, rfl⟩
          have b6 : Below wr.heap.size wr W6 := by rw [← hW6]; exact belAZ (Below.refl _ _) _
          have hls : LS W6 (some ⟨wr.heap.size, 0, none⟩) [x.wr] := fun k y hy => by
            have hk0 : k = 0 := by have := (List.getElem?_eq_some_iff.1 hy).1; simpa using this
            subst hk0
            have : y = x.wr := by simpa using hy.symm
            subst this
            refine ⟨wr.heap.size, 0, rfl, ?_⟩
            rw [← hW6, (cellsZ (alloc_getZ wr _)).1]
            rfl
          have HCW := ycubes_any n.bits [x.wr] (some ⟨wr.heap.size, 0, none⟩) 1 1 1 W6 rfl hls ⟨HZN.out.1.1, HZN.out.1.2.1⟩ ⟨by simp, fun y hy => by (have h9 : y = x.wr := (by simpa using hy)); rw [h9]; exact HZN.out.2.1.2.2.2.1⟩
          have HW6 := hideL hW6
          have HB6 : Hid (Below W1.heap.size W1 W6) := bel0Z HBW.out b6
          clear hW6 b6 hls
          go_wp2_with fail
          rw [HW6.out]
          refine HCW.mono ?_
          rintro en W7 ⟨rfl, b7⟩
          have HB7 : Hid (Below W1.heap.size W1 W7) := bel0Z HB6.out b7
          clear q0 q1 q2 q3 e0 e1 e2 e3 e4 b7 HCW
          obtain ⟨q0, q1, q2, q3, e0, e1, e2, e3, e4⟩ := HC.out W7 HB7.out
          cases hp : pb ([x.wr].length ≤ 1 ∧ ∀ c ∈ [x.wr], CubeP n.bits c) with
          | false =>
            have HQ := hideL (HQF.out W7 HB7.out (fun h => pb_not hp ⟨by simp, fun c hc => by (have h9 : c = x.wr := (by simpa using hc)); rw [h9]; exact h.2.2.2.1⟩))
            clear hp HQT HQF HIN HOU
            go_wp2_with fail
            go_ret
            exact HQ.out
          | true =>
            have hwr := (pb_iff.1 hp).2 x.wr (by simp)
            have HPB : Hid (pb (x.cubes.length ≤ 64 ∧ ∀ c ∈ x.cubes, CubeP n.bits c) = pb (EntryP n box x)) := by
              show pb _ = pb _
              cases h9 : pb (x.cubes.length ≤ 64 ∧ ∀ c ∈ x.cubes, CubeP n.bits c) with
              | true => exact (pb_yes ⟨HNM.out.1, HIN.out, pb_iff.1 h9, hwr, HOU.out⟩).symm
              | false => exact (pb_no (fun h => pb_not h9 h.2.2.1)).symm
            have HCC : Calls Tryz.prog 31 #[.int .i64 n.bits, .slice pc nc cc, .int .i64 64] W7 fun e w' => e = .returned (.bool (pb (EntryP n box x))) ∧ Below W7.heap.size W7 w' := by
              rw [← HPB.out]
              exact ycubes_any n.bits x.cubes pc nc cc 64 W7 HZN.out.2.2.2.1 (HL.out W7 HB7.out).2.2.1 ⟨HZN.out.1.1, HZN.out.1.2.1⟩ HZN.out.2.1.2.2.1
            have HBF : Hid (∀ U, Below W7.heap.size W7 U → Below w.heap.size w U) := fun U hU => (HQF.out U (bel0Z HB7.out hU)) |> fun f => by
              by_cases h9 : EntryP n box x
              · exact (HQT.out U (bel0Z HB7.out hU) h9).2
              · exact (f h9).2
            clear hp HQT HQF HIN HOU hwr
            go_wp2_with fail
            refine HCC.mono ?_
            rintro en W8 ⟨rfl, b8⟩
            have HB8 := hideL (HBF.out W8 b8)
            clear HCC b8
            go_wp2_with fail
            go_ret
            exact ⟨rfl, HB8.out⟩
end Go.Proofs.YthonobihcahfiaaGreatDoor.Nt
