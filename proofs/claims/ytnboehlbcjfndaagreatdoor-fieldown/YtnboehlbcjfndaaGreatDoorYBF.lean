import Derived.Test.YtnboehlbcjfndaaGreatDoorYBE
namespace Go.Proofs.YtnboehlbcjfndaaGreatDoor
open Go.RowKit Go.Shelf
def plN (L : List IFld) (i : Nat) : Nat := (sumB (L.take i)).toNat
def uvL (L : List IFld) (s : List UInt8) : List Int := (List.range L.length).map fun i => (valF 0 (subL s (plN L i) (plN L i + (L.getD i ([], 0)).2.toNat)) : Int)
def unM (L : List IFld) (s : List UInt8) : List Int × Int := if (chkM L).1 ≠ 0 then ([], (chkM L).1) else if hdB (sumB L).toNat s = false then ([], 46) else (uvL L s, 0)
theorem uvL_len (L : List IFld) (s : List UInt8) : (uvL L s).length = L.length := by simp [uvL]
theorem uvL_at {L : List IFld} {s : List UInt8} {k p b : Nat} {x : List UInt8} (hf : L[k]? = some (x, (b : Int))) (hp : sumB (L.take k) = (p : Int)) : (uvL L s)[k]? = some (valF 0 (subL s p (p + b)) : Int) := by
  have hk := (List.getElem?_eq_some_iff.1 hf).1
  unfold uvL plN
  rw [List.getElem?_map, List.getElem?_range hk, Option.map_some, hp, Int.toNat_natCast]
  simp [List.getD, hf]
def unR (w : World) (R : List Int × Int) (e : Ending) (w' : World) : Prop := ∃ v, e = .returned (.tuple #[v, .int .i64 R.2]) ∧ w'.ownsRow w.heap.size 3 1 v R.1.length (ivs R.1) ∧ Below w.heap.size w w'
theorem ivs_set (V : List Int) (k m : Nat) {v : Int} (hv : V[k]? = some v) : (ivs (V.take k ++ List.replicate (m + 1) 0)).set k (.int .i64 v) = ivs (V.take (k + 1) ++ List.replicate m 0) := by
  have hk := (List.getElem?_eq_some_iff.1 hv).1
  have hl : (V.take k).length = k := by rw [List.length_take]; omega
  unfold ivs
  rw [← List.map_set, List.set_append_right _ _ (by omega), hl, Nat.sub_self, List.replicate_succ, List.set_cons_zero, List.take_add_one, hv, List.append_assoc]
  rfl
theorem sub_all {s : List UInt8} {a b : Nat} (h : s.all dg01 = true) : (subL s a b).all dg01 = true := by
  rw [List.all_eq_true] at h ⊢
  intro c hc
  unfold subL at hc
  exact h c (List.mem_of_mem_drop (List.mem_of_mem_take hc))
set_option maxRecDepth 100000 in
set_option maxHeartbeats 8000000 in
theorem unpack_any (L : List IFld) (o : Option Addr) (c : Nat) (s : List UInt8) (w : World) (hL : L.length ≤ 281474976710656) (hc : L.length ≤ c) (hx : ∀ f ∈ L, f.1.length ≤ 281474976710656) (hr : IRF w o L) (hv1 : SH w) (hv4 : SG w) (hv5 : VW w) :
    Calls Tryz.prog 34 #[.slice o L.length c, .string ⟨s.toArray⟩] w fun e w' => unR w (unM L s) e w' := by
  have HC := check_any L o c w hL hc hx hr hv1 hv4 hv5
  obtain ⟨R, hR⟩ : ∃ R, unM L s = R := ⟨_, rfl⟩
  rw [hR]
  by_cases h0 : ¬ (chkM L).1 = 0
  · have hres : Hid (R = ([], (chkM L).1)) := by unfold Hid; rw [← hR]; unfold unM; rw [if_pos h0]
    obtain ⟨ce, hce⟩ : ∃ x, (chkM L).1 = x := ⟨_, rfl⟩
    rw [hce] at HC h0 hres
    have y1 : (ce != 0) = true := by simpa using h0
    clear hx hr hv1 hv4 hv5 hR hce
    go_enter Tryz.func34, Tryz.ntmps34
    go_wp2_with fail
    refine HC.mono ?_
    rintro e W1 ⟨rfl, hb1⟩
    go_wp2_with fail
    refine bodyPost_ret (results_tmp2 rfl _ _ _) rfl ?_
    refine ⟨.slice none 0 0, ?_, ?_, hb1⟩
    · rw [hres.out]
      rfl
    · rw [hres.out]
      exact World.ownsRow_nil _ _ _ _
  replace h0 := Classical.not_not.1 h0
  rw [h0] at HC
  obtain ⟨k1, k2, k3, k4⟩ := chk_ok h0
  have hb0 : ∀ f ∈ L, 0 ≤ f.2 ∧ f.2 ≤ 32 := fun f hf => by have := k3 f hf; omega
  obtain ⟨n, hn⟩ : ∃ n : Nat, sumB L = (n : Int) := ⟨(sumB L).toNat, by have := (sumB_bound L hb0).1; omega⟩
  have hn256 : n ≤ 256 := by omega
  have hn1 : 1 ≤ n := by
    obtain ⟨f0, hf0⟩ : ∃ f, L[0]? = some f := ⟨_, List.getElem?_eq_getElem k1⟩
    have h1 := sumB_take hf0
    have h2 := sumB_take_le hb0 (0 + 1)
    have h3 := k3 f0 (List.mem_of_getElem? hf0)
    have h4 : sumB (L.take 0) = 0 := rfl
    omega
  have HRR : Hid (unM L s = R) := hR
  have hun : unM L s = if hdB n s = false then ([], 46) else (uvL L s, 0) := by unfold unM; rw [if_neg (fun h => h h0), hn, Int.toNat_natCast]
  obtain ⟨f0, hf0⟩ : ∃ f, L[0]? = some f := ⟨_, List.getElem?_eq_getElem k1⟩
  obtain ⟨g, o0, rfl, -⟩ := hr w (Below.refl _ _) 0 f0 hf0
  have HR : Hid (IRF w (some ⟨g, o0, none⟩) L) := hr
  have HK3 : Hid (∀ f ∈ L, 1 ≤ f.2 ∧ f.2 ≤ 32) := k3
  have HB0 : Hid (∀ f ∈ L, 0 ≤ f.2 ∧ f.2 ≤ 32) := hb0
  have HN : Hid (sumB L = (n : Int)) := hn
  obtain ⟨i0, hi, hz0, hz1, hz2⟩ := info_parts info_int
  have HWD : Hid (∀ W : World, Below w.heap.size w W → Calls Tryz.prog 48 #[.slice (some ⟨g, o0, none⟩) L.length c] W fun e w' => e = .returned (.int .i64 (n : Int)) ∧ Below W.heap.size W w') := fun W hW => by
    have := widthOf_any L (some ⟨g, o0, none⟩) c W (by omega) hb0 (hr.later hW)
    rw [hn] at this
    exact this
  have HAL : Hid (∀ W : World, Calls Tryz.prog 59 #[.int .i64 (n : Int)] W fun e w' => e = .returned (.agg #[.int .i64 (n : Int), .int .u64 0, .int .u64 0, .int .u64 0, .int .u64 0, .int .u64 0, .int .u64 0, .int .u64 0, .int .u64 0]) ∧ Below W.heap.size W w') := fun W => all_yes n W (by omega) (by omega)
  have HHS : Hid (∀ W : World, Calls Tryz.prog 60 #[.agg #[.int .i64 (n : Int), .int .u64 0, .int .u64 0, .int .u64 0, .int .u64 0, .int .u64 0, .int .u64 0, .int .u64 0, .int .u64 0], .string ⟨s.toArray⟩] W fun e w' => e = .returned (.bool (hdB n s)) ∧ Below W.heap.size W w') := fun W => has_x n s W hn1 hn256
  cases hh : hdB n s with
  | false =>
    have hres : Hid (R = ([], 46)) := by unfold Hid; rw [← hR, hun, hh, if_pos rfl]
    simp only [hh] at HHS
    clear hx hr hv1 hv4 hv5 hR h0 k3 k4 hb0 hn hf0 hun hh
    go_enter Tryz.func34, Tryz.ntmps34
    go_wp2_with fail
    refine HC.mono ?_
    rintro e W1 ⟨rfl, hb1⟩
    go_wp2_with fail
    refine (HWD.out _ hb1).mono ?_
    rintro e W2 ⟨rfl, hb2⟩
    go_wp2_with fail
    refine (HAL.out _).mono ?_
    rintro e W3 ⟨rfl, hb3⟩
    go_wp2_with fail
    refine (HHS.out _).mono ?_
    rintro e W4 ⟨rfl, hb4⟩
    go_wp2_with fail
    refine bodyPost_ret (results_tmp2 rfl _ _ _) rfl ?_
    refine ⟨.slice none 0 0, ?_, ?_, bel0 (bel0 (bel0 hb1 hb2) hb3) hb4⟩
    · rw [hres.out]
      rfl
    · rw [hres.out]
      exact World.ownsRow_nil _ _ _ _
  | true =>
    have hres : Hid (R = (uvL L s, 0)) := by unfold Hid; rw [← hR, hun, hh, if_neg (by decide)]
    have hh2 := hh
    unfold hdB at hh2
    rw [Bool.and_eq_true, decide_eq_true_eq] at hh2
    have HSL : Hid (s.length = n) := hh2.1
    have HSA : Hid (s.all dg01 = true) := hh2.2
    simp only [hh] at HHS
    clear hx hr hv1 hv4 hv5 hR h0 k3 k4 hb0 hn hf0 hun hh hh2
    go_enter Tryz.func34, Tryz.ntmps34
    go_wp2_with fail
    refine HC.mono ?_
    rintro e W1 ⟨rfl, hb1⟩
    go_wp2_with fail
    refine (HWD.out _ hb1).mono ?_
    rintro e W2 ⟨rfl, hb2⟩
    go_wp2_with fail
    refine (HAL.out _).mono ?_
    rintro e W3 ⟨rfl, hb3⟩
    go_wp2_with fail
    refine (HHS.out _).mono ?_
    rintro e W4 ⟨rfl, hb4⟩
    have hB4 := bel0 (bel0 (bel0 hb1 hb2) hb3) hb4
    have hsz4 := hB4.size
    clear HC HWD HAL HHS hb1 hb2 hb3 hb4
    go_wp2_with (at_make; refine wpList_make_full _ rfl _ _ 22 rfl w.heap.size 3 i0 (.int .i64 0) 1 Tryz.underlying22 hi hz0 hz1 .i64 .i64 _ _ L.length rfl rfl rfl rfl (by rw [hz2]; omega) (by unfold maxLen; omega) hsz4 ?_; intro w5 hO5 hg5)
    have hz5 : (madeCells (Value.int .i64 0).cells (L.length * 1)).toList = ivs (List.replicate L.length 0) := by
      rw [Nat.mul_one]
      have := toList_madeCells_one (.int .i64 0) L.length
      unfold ivs
      rw [List.map_replicate]
      exact this
    rw [hz5] at hO5
    have O5 : Hid (w5.ownsRow w.heap.size 3 1 (.slice (some ⟨W4.heap.size, 0, none⟩) L.length L.length) L.length (ivs (List.replicate L.length 0))) := hO5
    have B5 : Hid (Below w.heap.size w w5) := hB4.grown hg5 hsz4 (fun k e => by cases e)
    clear hO5 hg5 hz5 hB4
    obtain ⟨G, hG⟩ : ∃ G, W4.heap.size = G := ⟨_, rfl⟩
    rw [hG] at O5 hsz4
    try rw [hG]
    go_loopw [29] (fun vk wr => ∃ k : Nat, k ≤ L.length ∧ vk = .int .i64 k ∧ wr.ownsRow w.heap.size 3 1 (.slice (some ⟨G, 0, none⟩) L.length L.length) L.length (ivs ((uvL L s).take k ++ List.replicate (L.length - k) 0)) ∧ Below w.heap.size w wr) (fun vk _ => L.length - (intOf vk).toNat)
    case atStart => exact ⟨0, Nat.zero_le _, rfl, O5.out, B5.out⟩
    case round =>
      clear O5 B5
      obtain ⟨k, hk, rfl, hown, hB⟩ := hrel
      by_cases hlt : k < L.length
      · have j1 : (k : Int) < (L.length : Int) := by omega
        have j0 : (0 : Int) ≤ (k : Int) := by omega
        obtain ⟨f, hf⟩ : ∃ f, L[k]? = some f := ⟨_, List.getElem?_eq_getElem hlt⟩
        have hbits := HK3.out f (List.mem_of_getElem? hf)
        have hst := sumB_take hf
        have hpb := (sumB_bound (L.take k) (fun f hf => HB0.out f (List.mem_of_mem_take hf))).1
        obtain ⟨p, hp⟩ : ∃ p : Nat, sumB (L.take k) = (p : Int) := ⟨(sumB (L.take k)).toNat, by omega⟩
        have hle := sumB_take_le HB0.out (k + 1)
        rw [hst, HN.out, hp] at hle
        obtain ⟨x, bi⟩ := f
        obtain ⟨b, rfl⟩ : ∃ b : Nat, bi = (b : Int) := ⟨bi.toNat, by simp only at hbits; omega⟩
        simp only at hbits hle
        have hU := uvL_at (s := s) hf hp
        have HPT : Hid (∀ W : World, Below w.heap.size w W → Calls Tryz.prog 62 #[.string ⟨s.toArray⟩, .slice (some ⟨g, o0, none⟩) L.length c, .int .i64 (k : Int)] W fun e w' => e = .returned (.string ⟨(subL s p (p + b)).toArray⟩) ∧ Below W.heap.size W w') := fun W hW => part_any s L g o0 c k x b p W hf hp (by rw [HSL.out]; omega) (by rw [HSL.out]; omega) hc (by omega) HB0.out (HR.out.later hW)
        have hYl : (subL s p (p + b)).length ≤ 32 := by unfold subL; rw [List.length_take]; omega
        have HVO : Hid (∀ W : World, Calls Tryz.prog 61 #[.string ⟨(subL s p (p + b)).toArray⟩] W fun e w' => e = .returned (.int .i64 (valF 0 (subL s p (p + b)) : Int)) ∧ Below W.heap.size W w') := fun W => fvalue_any _ W hYl (sub_all HSA.out)
        have e1 : L.length - k = (L.length - (k + 1)) + 1 := by omega
        have hset := ivs_set (uvL L s) k (L.length - (k + 1)) hU
        rw [← e1] at hset
        obtain ⟨Y, hY⟩ : ∃ Y, subL s p (p + b) = Y := ⟨_, rfl⟩
        obtain ⟨vv, hvv⟩ : ∃ v : Nat, valF 0 Y = v := ⟨_, rfl⟩
        simp only [hY] at HPT
        simp only [hY, hvv] at HVO
        rw [hY, hvv] at hset
        have HSET : Hid ((ivs ((uvL L s).take k ++ List.replicate (L.length - k) 0)).set k (.int .i64 (vv : Int)) = ivs ((uvL L s).take (k + 1) ++ List.replicate (L.length - (k + 1)) 0)) := hset
        have HLL : Hid ((ivs ((uvL L s).take k ++ List.replicate (L.length - k) 0)).length = L.length) := by
          unfold Hid ivs
          rw [List.length_map, List.length_append, List.length_take, List.length_replicate, uvL_len]
          omega
        have HO : Hid (wr.ownsRow w.heap.size 3 1 (.slice (some ⟨G, 0, none⟩) L.length L.length) L.length (ivs ((uvL L s).take k ++ List.replicate (L.length - k) 0))) := hown
        clear hf hst hpb hp hU hset hY hvv hown e1 hYl
        go_wp2_with fail
        refine (HPT.out _ hB).mono ?_
        rintro e W6 ⟨rfl, hb6⟩
        go_wp2_with fail
        refine (HVO.out _).mono ?_
        rintro e W7 ⟨rfl, hb7⟩
        have hb67 := bel0 hb6 hb7
        have hB7 := bel0 hB hb67
        have o7 := owns_below HO.out hb67
        have fr : ∀ j, W7.frozen? ⟨G, j, none⟩ = false := o7.frozenAt
        obtain ⟨z, hz⟩ : ∃ z, W7.cell? ⟨G, k, none⟩ = some z := ⟨_, (o7.cellAt k (by omega)).trans (List.getElem?_eq_getElem (by rw [HLL.out]; exact hlt))⟩
        have st := o7.stored k (.int .i64 (vv : Int))
        rw [HSET.out] at st
        have Q1 : Hid ((W7.setCell ⟨G, k, none⟩ (.int .i64 (vv : Int))).ownsRow w.heap.size 3 1 (.slice (some ⟨G, 0, none⟩) L.length L.length) L.length (ivs ((uvL L s).take (k + 1) ++ List.replicate (L.length - (k + 1)) 0))) := st.1
        have Q2 : Hid (Below w.heap.size w (W7.setCell ⟨G, k, none⟩ (.int .i64 (vv : Int)))) := hB7.setCell (p := ⟨G, k, none⟩) hsz4 _
        clear o7 st HPT HVO HO HSET HLL hb6 hb7 hb67 hB7 hB
        go_wp2_with fail
        go_roundw
        case rel => exact ⟨k + 1, by omega, by go_num, Q1.out, Q2.out⟩
        case measure => simp [intOf]; omega
      · have j1 : ¬ (k : Int) < (L.length : Int) := by omega
        obtain rfl : k = L.length := by omega
        rw [Nat.sub_self, List.replicate_zero, List.append_nil, List.take_of_length_le (by rw [uvL_len]; exact Nat.le_refl _)] at hown
        have HO : Hid (wr.ownsRow w.heap.size 3 1 (.slice (some ⟨G, 0, none⟩) L.length L.length) L.length (ivs (uvL L s))) := hown
        clear hown
        go_wp2_with fail
        refine bodyPost_ret (results_tmp2 rfl _ _ _) rfl ?_
        refine ⟨.slice (some ⟨G, 0, none⟩) L.length L.length, ?_, ?_, hB⟩
        · rw [hres.out]
          rfl
        · rw [hres.out]
          show wr.ownsRow _ _ _ _ (uvL L s).length _
          rw [uvL_len]
          exact HO.out
end Go.Proofs.YtnboehlbcjfndaaGreatDoor
