import Derived.Test.YtnboehlbcjfndaaGreatDoorYBA
namespace Go.Proofs.YtnboehlbcjfndaaGreatDoor
open Go.RowKit Go.Shelf
set_option maxRecDepth 100000 in
theorem set1_any (f : IFld) (x : List UInt8) (b : Nat) (w : World) (hb : w.heap[b]? = some (.cells #[.string ⟨x.toArray⟩] 9)) : Calls Tryz.prog 96 #[fagg f, .pointer (some ⟨b, 0, none⟩)] w fun e w' => e = .returned (.bool (f.1 == x)) ∧ Below w.heap.size w w' := by
  obtain ⟨y, n⟩ := f
  show Calls Tryz.prog 96 #[.agg #[.string ⟨y.toArray⟩, .int .i64 n], .pointer (some ⟨b, 0, none⟩)] w _
  have c0 : (w.alloc (Obj.cells #[.string ⟨y.toArray⟩, .int .i64 n] 75)).cell? ⟨b, 0, none⟩ = some (.string ⟨x.toArray⟩) := cell_of_row _ _ 0 _ _ _ (allocblk hb _)
  have n0 : (w.alloc (Obj.cells #[.string ⟨y.toArray⟩, .int .i64 n] 75)).cell? ⟨w.heap.size, 0, none⟩ = some (.string ⟨y.toArray⟩) := cell_of_row _ _ 0 _ _ _ (alloc_get _ _)
  obtain ⟨V, hV⟩ : ∃ V : World, w.alloc (Obj.cells #[.string ⟨y.toArray⟩, .int .i64 n] 75) = V := ⟨_, rfl⟩
  have vB : Below w.heap.size w V := by rw [← hV]; exact (Below.refl _ _).alloc (Nat.le_refl _) _
  rw [hV] at c0 n0
  clear hb
  go_enter Tryz.func96, Tryz.ntmps96
  go_wp2_with fail
  go_ret
  exact ⟨rfl, vB⟩
set_option maxRecDepth 100000 in
set_option maxHeartbeats 2000000 in
theorem sidx_any (L : List IFld) (o : Option Addr) (c : Nat) (x : List UInt8) (b : Nat) (w : World) (hL : L.length ≤ 281474976710656) (hr : IRF w o L) (hb : w.heap[b]? = some (.cells #[.string ⟨x.toArray⟩] 9)) :
    Calls Tryz.prog 122 #[.slice o L.length c, .func (.func 96) #[] #[.pointer (some ⟨b, 0, none⟩)]] w fun e w' => e = .returned (.int .i64 (idxF L x)) ∧ Below w.heap.size w w' := by
  have HR : Hid (IRF w o L) := hr
  have HB : Hid (w.heap[b]? = some (.cells #[.string ⟨x.toArray⟩] 9)) := hb
  obtain ⟨q, hq⟩ : ∃ q, idxF L x = q := ⟨_, rfl⟩
  rw [hq]
  have HQ : Hid (idxG 0 (L.drop 0) x = q) := hq
  clear hr hb hq
  go_enter Tryz.func122, Tryz.ntmps122
  go_wp2_with fail
  go_loopw [8] (fun vk wr => ∃ k : Nat, vk = .int .i64 k ∧ k ≤ L.length ∧ Hid (idxG k (L.drop k) x = q) ∧ Below w.heap.size w wr) (fun vk _ => L.length - (intOf vk).toNat)
  case atStart => exact ⟨0, rfl, Nat.zero_le _, HQ, Below.refl _ _⟩
  case round =>
    clear HQ
    obtain ⟨k, rfl, hk, hidx, hB⟩ := hrel
    by_cases hlt : k < L.length
    · have j1 : (k : Int) < (L.length : Int) := by omega
      have j0 : (0 : Int) ≤ (k : Int) := by omega
      obtain ⟨f, hf⟩ : ∃ f, L[k]? = some f := ⟨_, List.getElem?_eq_getElem hlt⟩
      obtain ⟨g, o0, rfl, p0, p1⟩ := HR.out wr hB k f hf
      have hx2 := hidx.out
      rw [idxG_step hf] at hx2
      have H1 : Calls Tryz.prog 96 #[fagg f, .pointer (some ⟨b, 0, none⟩)] wr fun e w' => e = .returned (.bool (f.1 == x)) ∧ Below wr.heap.size wr w' := set1_any f x b wr (keepblk hB HB.out)
      obtain ⟨y, n⟩ := f
      simp only at p0 p1 hx2 H1
      clear hf hidx
      by_cases hy : y = x
      · rw [if_pos hy] at hx2
        rw [beq_iff_eq.2 hy] at H1
        have HX2 : Hid ((k : Int) = q) := hx2
        clear hx2 hy
        go_wp2_with fail
        refine H1.mono ?_
        rintro e W1 ⟨rfl, hb1⟩
        go_wp2_with fail
        go_ret
        exact ⟨by rw [← HX2.out]; rfl, bel0 hB hb1⟩
      · rw [if_neg hy] at hx2
        rw [beq_eq_false_iff_ne.2 hy] at H1
        have HX : Hid (idxG (k + 1) (L.drop (k + 1)) x = q) := hx2
        clear hx2
        go_wp2_with fail
        refine H1.mono ?_
        rintro e W1 ⟨rfl, hb1⟩
        go_wp2_with fail
        go_roundw
        case rel => exact ⟨k + 1, by go_num, by omega, HX, bel0 hB hb1⟩
        case measure => simp [intOf]; omega
    · have j1 : ¬ (k : Int) < (L.length : Int) := by omega
      have HX2 : Hid (-1 = q) := by
        unfold Hid
        rw [← hidx.out, List.drop_eq_nil_of_le (by omega)]
        rfl
      clear hidx
      go_wp2_with fail
      go_ret
      exact ⟨by rw [← HX2.out]; rfl, hB⟩
set_option maxRecDepth 100000 in
theorem contains_any (L : List IFld) (o : Option Addr) (c : Nat) (x : List UInt8) (b : Nat) (w : World) (hL : L.length ≤ 281474976710656) (hr : IRF w o L) (hb : w.heap[b]? = some (.cells #[.string ⟨x.toArray⟩] 9)) :
    Calls Tryz.prog 95 #[.slice o L.length c, .func (.func 96) #[] #[.pointer (some ⟨b, 0, none⟩)]] w fun e w' => e = .returned (.bool (decide (0 ≤ idxF L x))) ∧ Below w.heap.size w w' := by
  have H1 := sidx_any L o c x b w hL hr hb
  obtain ⟨q, hq⟩ : ∃ q, idxF L x = q := ⟨_, rfl⟩
  rw [hq] at H1 ⊢
  clear hr hb hq
  go_enter Tryz.func95, Tryz.ntmps95
  go_wp2_with fail
  refine H1.mono ?_
  rintro e W1 ⟨rfl, hb1⟩
  go_wp2_with fail
  go_ret
  exact ⟨rfl, hb1⟩
set_option maxRecDepth 100000 in
theorem isSet_any (L : List IFld) (o : Option Addr) (c : Nat) (x : List UInt8) (w : World) (hL : L.length ≤ 281474976710656) (hr : IRF w o L) :
    Calls Tryz.prog 63 #[.slice o L.length c, .string ⟨x.toArray⟩] w fun e w' => e = .returned (.bool (decide (0 ≤ idxF L x))) ∧ Below w.heap.size w w' := by
  have vB : Below w.heap.size w (w.alloc (Obj.cells #[.string ⟨x.toArray⟩] 9)) := (Below.refl _ _).alloc (Nat.le_refl _) _
  have H1 := contains_any L o c x w.heap.size (w.alloc (Obj.cells #[.string ⟨x.toArray⟩] 9)) hL (hr.later vB) (alloc_get _ _)
  obtain ⟨q, hq⟩ : ∃ q, decide (0 ≤ idxF L x) = q := ⟨_, rfl⟩
  rw [hq] at H1 ⊢
  clear hr hq
  go_enter Tryz.func63, Tryz.ntmps63
  go_wp2_with fail
  refine H1.mono ?_
  rintro e W1 ⟨rfl, hb1⟩
  go_wp2_with fail
  go_ret
  exact ⟨rfl, bel0 vB hb1⟩
def wdF (L : List IFld) : List IFld → List IFld → List UInt8 → List UInt8 × Int
  | _, [], acc => (acc, 0)
  | seen, s :: r, acc =>
    if idxF L s.1 < 0 then ([], 41)
    else if 0 ≤ idxF seen s.1 then ([], 45)
    else if 0 ≤ s.2 ∧ s.2 ≤ ((2 ^ (L.getD (idxF L s.1).toNat ([], 0)).2.toNat - 1 : Nat) : Int) then wdF L (seen ++ [s]) r (putL acc (sumB (L.take (idxF L s.1).toNat)).toNat (digL (L.getD (idxF L s.1).toNat ([], 0)).2.toNat s.2.toNat 0))
    else ([], 42)
def wdM (L S : List IFld) : List UInt8 × Int := if 12 < S.length then ([], 2) else if (chkM L).1 ≠ 0 then ([], (chkM L).1) else wdF L [] S (List.replicate (sumB L).toNat 120)
theorem wdF_step {L S : List IFld} {k : Nat} {s : IFld} (hs : S[k]? = some s) (acc : List UInt8) : wdF L (S.take k) (S.drop k) acc =
    if idxF L s.1 < 0 then ([], 41)
    else if 0 ≤ idxF (S.take k) s.1 then ([], 45)
    else if 0 ≤ s.2 ∧ s.2 ≤ ((2 ^ (L.getD (idxF L s.1).toNat ([], 0)).2.toNat - 1 : Nat) : Int) then wdF L (S.take (k + 1)) (S.drop (k + 1)) (putL acc (sumB (L.take (idxF L s.1).toNat)).toNat (digL (L.getD (idxF L s.1).toNat ([], 0)).2.toNat s.2.toNat 0))
    else ([], 42) := by
  obtain ⟨h1, e1⟩ := List.getElem?_eq_some_iff.1 hs
  rw [List.drop_eq_getElem_cons h1, e1, wdF, take_snoc hs]
set_option maxRecDepth 100000 in
set_option maxHeartbeats 8000000 in
theorem word_any (L : List IFld) (o : Option Addr) (c : Nat) (S : List IFld) (o2 : Option Addr) (c2 : Nat) (w : World) (hL : L.length ≤ 281474976710656) (hc : L.length ≤ c) (hc2 : S.length ≤ c2) (hx : ∀ f ∈ L, f.1.length ≤ 281474976710656) (hr : IRF w o L) (hrs : IRF w o2 S) (hv1 : SH w) (hv4 : SG w) (hv5 : VW w) :
    Calls Tryz.prog 35 #[.slice o L.length c, .slice o2 S.length c2] w fun e w' => e = .returned (.tuple #[.string ⟨(wdM L S).1.toArray⟩, .int .i64 (wdM L S).2]) ∧ Below w.heap.size w w' := by
  obtain ⟨R, hR⟩ : ∃ R, wdM L S = R := ⟨_, rfl⟩
  rw [hR]
  by_cases hbig : 12 < S.length
  · have i1 : (12 : Int) < (S.length : Int) := by omega
    have hres : Hid (R = ([], 2)) := by unfold Hid; rw [← hR]; unfold wdM; rw [if_pos hbig]
    clear hx hr hrs hv1 hv4 hv5 hR
    go_enter Tryz.func35, Tryz.ntmps35
    go_wp2_with fail
    refine bodyPost_ret (results_tmp2 rfl _ _ _) rfl ?_
    exact ⟨by rw [hres.out]; rfl, Below.refl _ _⟩
  have i1 : ¬ (12 : Int) < (S.length : Int) := by omega
  have HC := check_any L o c w hL hc hx hr hv1 hv4 hv5
  by_cases h0 : ¬ (chkM L).1 = 0
  · have hres : Hid (R = ([], (chkM L).1)) := by unfold Hid; rw [← hR]; unfold wdM; rw [if_neg hbig, if_pos h0]
    obtain ⟨ce, hce⟩ : ∃ x, (chkM L).1 = x := ⟨_, rfl⟩
    rw [hce] at HC h0 hres
    have y1 : (ce != 0) = true := by simpa using h0
    clear hx hr hrs hv1 hv4 hv5 hR hce
    go_enter Tryz.func35, Tryz.ntmps35
    go_wp2_with fail
    refine HC.mono ?_
    rintro e W1 ⟨rfl, hb1⟩
    go_wp2_with fail
    refine bodyPost_ret (results_tmp2 rfl _ _ _) rfl ?_
    exact ⟨by rw [hres.out]; rfl, hb1⟩
  replace h0 := Classical.not_not.1 h0
  rw [h0] at HC
  obtain ⟨k1, k2, k3, k4⟩ := chk_ok h0
  have hb0 : ∀ f ∈ L, 0 ≤ f.2 ∧ f.2 ≤ 32 := fun f hf => by have := k3 f hf; omega
  obtain ⟨n, hn⟩ : ∃ n : Nat, sumB L = (n : Int) := ⟨(sumB L).toNat, by have := (sumB_bound L hb0).1; omega⟩
  have hn256 : n ≤ 256 := by omega
  have HRF : Hid (wdF L (S.take 0) (S.drop 0) (List.replicate n 120) = R) := by unfold Hid; rw [← hR]; unfold wdM; rw [if_neg hbig, if_neg (fun h => h h0), hn]; rfl
  obtain ⟨f0, hf0⟩ : ∃ f, L[0]? = some f := ⟨_, List.getElem?_eq_getElem k1⟩
  obtain ⟨g, o0, rfl, -⟩ := hr w (Below.refl _ _) 0 f0 hf0
  have HR : Hid (IRF w (some ⟨g, o0, none⟩) L) := hr
  have HRS : Hid (IRF w o2 S) := hrs
  have HK3 : Hid (∀ f ∈ L, 1 ≤ f.2 ∧ f.2 ≤ 32) := k3
  have HB0 : Hid (∀ f ∈ L, 0 ≤ f.2 ∧ f.2 ≤ 32) := hb0
  have HN : Hid (sumB L = (n : Int)) := hn
  have HBL : Hid (∀ W : World, Below w.heap.size w W → Calls Tryz.prog 30 #[.slice (some ⟨g, o0, none⟩) L.length c] W fun e w' => ∃ K z cp, e = .returned (.slice (some ⟨K, 0, none⟩) n cp) ∧ W.heap.size ≤ K ∧ n ≤ cp ∧ hdr w' K z (List.replicate n 120) ∧ Below W.heap.size W w') := fun W hW => blank_any L (some ⟨g, o0, none⟩) c n W hn hn256 (by omega) hb0 (hr.later hW)
  clear hx hr hrs hv1 hv4 hv5 hR h0 k3 k4 hb0 hn hf0
  go_enter Tryz.func35, Tryz.ntmps35
  go_wp2_with fail
  refine HC.mono ?_
  rintro e W1 ⟨rfl, hb1⟩
  go_wp2_with fail
  refine (HBL.out _ hb1).mono ?_
  rintro e W2 ⟨K, z, cp, rfl, hK1, hcp, hh2, hb2⟩
  have hB2 := bel0 hb1 hb2
  have hwK : w.heap.size ≤ K := Nat.le_trans hb1.size hK1
  clear HC HBL hb1 hb2 hK1
  go_wp2_with fail
  go_loopw [27] (fun vk wr => ∃ (k : Nat) (acc : List UInt8), vk = .int .i64 k ∧ k ≤ S.length ∧ Hid (acc.length = n) ∧ hdr wr K z acc ∧ Hid (wdF L (S.take k) (S.drop k) acc = R) ∧ Below w.heap.size w wr) (fun vk _ => S.length - (intOf vk).toNat)
  case atStart => exact ⟨0, _, rfl, Nat.zero_le _, List.length_replicate, hh2, HRF, hB2⟩
  case round =>
    clear HRF hh2 hB2
    obtain ⟨k, acc, rfl, hk, hal, hh, hrun, hB⟩ := hrel
    by_cases hlt : k < S.length
    · have j1 : (k : Int) < (S.length : Int) := by omega
      have j0 : (0 : Int) ≤ (k : Int) := by omega
      have j2 : (k : Int) ≤ (c2 : Int) := by omega
      obtain ⟨s, hs⟩ : ∃ s, S[k]? = some s := ⟨_, List.getElem?_eq_getElem hlt⟩
      obtain ⟨g2, q0, rfl, p0, p1⟩ := HRS.out wr hB k s hs
      have hstep := hrun.out
      rw [wdF_step hs] at hstep
      have htl : (S.take k).length = k := by rw [List.length_take]; omega
      have HIS : Hid (∀ W : World, Below w.heap.size w W → Calls Tryz.prog 63 #[.slice (some ⟨g2, q0, none⟩) k c2, .string ⟨s.1.toArray⟩] W fun e w' => e = .returned (.bool (decide (0 ≤ idxF (S.take k) s.1))) ∧ Below W.heap.size W w') := fun W hW => by
        have := isSet_any (S.take k) (some ⟨g2, q0, none⟩) c2 s.1 W (by omega) ((HRS.out.take k).later hW)
        rw [htl] at this
        exact this
      have HFD : Hid (∀ W : World, Below w.heap.size w W → Calls Tryz.prog 27 #[.slice (some ⟨g, o0, none⟩) L.length c, .string ⟨s.1.toArray⟩] W fun e w' => e = .returned (.int .i64 (idxF L s.1)) ∧ Below W.heap.size W w') := fun W hW => find_any L (some ⟨g, o0, none⟩) c s.1 W (by omega) (HR.out.later hW)
      have hix := idxG_ge L 0 s.1
      obtain ⟨x, sv⟩ := s
      simp only at p0 p1 hstep HIS HFD hix
      obtain ⟨O, hO⟩ : ∃ O : Obj, Obj.cells #[.string ⟨x.toArray⟩, .int .i64 sv] 75 = O := ⟨_, rfl⟩
      have hBs := hB.size
      have hB2 : Below w.heap.size w (wr.alloc O) := hB.alloc hBs O
      have hh2 : Hid (hdr (wr.alloc O) K z acc) := hdr_alloc hh O
      have hbx : (wr.alloc O).heap[wr.heap.size]? = some (.cells #[.string ⟨x.toArray⟩, .int .i64 sv] 75) := by rw [hO]; exact alloc_get _ _
      have n0 : (wr.alloc O).cell? ⟨wr.heap.size, 0, none⟩ = some (.string ⟨x.toArray⟩) := cell_of_row _ _ 0 _ _ _ hbx
      have XS : Hid (∀ W : World, Below (wr.alloc O).heap.size (wr.alloc O) W → W.cell? ⟨wr.heap.size, 0, none⟩ = some (.string ⟨x.toArray⟩) ∧ W.cell? ⟨wr.heap.size, 1, none⟩ = some (.int .i64 sv)) := fun W hW => by
        have hk := keepblk hW hbx
        exact ⟨cell_of_row W _ 0 _ _ _ hk, cell_of_row W _ 1 _ _ _ hk⟩
      obtain ⟨S0, hS0⟩ : ∃ S0, wr.heap.size = S0 := ⟨_, rfl⟩
      rw [hS0] at n0 XS
      rcases hix with hix | ⟨i, f, hix, hfi, hfx⟩
      · have hix2 : idxF L x = -1 := hix
        have hres : Hid (R = ([], 41)) := by unfold Hid; rw [← hstep, hix2, if_pos (by decide)]
        rw [hix2] at HFD
        clear hstep hix hix2 hrun hh hbx hs htl
        go_wp2_with fail
        refine (HFD.out _ (by first | exact hB2 | (rw [hO]; exact hB2))).mono ?_
        rintro e W3 ⟨rfl, hb3⟩
        go_wp2_with fail
        refine bodyPost_ret (results_tmp2 rfl _ _ _) rfl ?_
        exact ⟨by rw [hres.out]; rfl, bel0 hB2 (by first | exact hb3 | (rw [hO] at hb3; exact hb3))⟩
      have hix2 : idxF L x = (i : Int) := by
        unfold idxF
        rw [hix, Nat.zero_add]
      rw [hix2] at HFD hstep
      have hgd : L.getD i ([], 0) = f := by simp [List.getD, hfi]
      rw [if_neg (by omega), Int.toNat_natCast, hgd] at hstep
      have hil : i < L.length := (List.getElem?_eq_some_iff.1 hfi).1
      have l1 : (i : Int) < (L.length : Int) := by omega
      have l0 : (0 : Int) ≤ (i : Int) := by omega
      have l2 : ¬ (i : Int) < 0 := by omega
      have hbits := HK3.out f (List.mem_of_getElem? hfi)
      have hst := sumB_take hfi
      have hpb := (sumB_bound (L.take i) (fun f hf => HB0.out f (List.mem_of_mem_take hf))).1
      obtain ⟨p, hp⟩ : ∃ p : Nat, sumB (L.take i) = (p : Int) := ⟨(sumB (L.take i)).toNat, by omega⟩
      have hle := sumB_take_le HB0.out (i + 1)
      rw [hst, HN.out, hp] at hle
      rw [hp, Int.toNat_natCast] at hstep
      have XF : Hid (∀ W : World, Below w.heap.size w W → W.cell? ⟨g, o0 + i * 2 + 1, none⟩ = some (.int .i64 f.2)) := fun W hW => by
        obtain ⟨g3, q3, h1, -, h2⟩ := HR.out W hW i f hfi
        injection h1 with h1
        injection h1 with h1 h4
        subst h1 h4
        exact h2
      obtain ⟨fx, bi⟩ := f
      obtain ⟨b, rfl⟩ : ∃ b : Nat, bi = (b : Int) := ⟨bi.toNat, by simp only at hbits; omega⟩
      simp only [Int.toNat_natCast] at hstep hbits hle XF
      have hb1 : 1 ≤ b := by omega
      have hb32 : b ≤ 32 := by omega
      have HP : Hid (sumB (L.take i) = (p : Int)) := hp
      have HP2 : Hid (2 ^ b ≤ 2 ^ 32) := Nat.pow_le_pow_right (by decide) hb32
      obtain ⟨ib, hib⟩ : ∃ q, decide (0 ≤ idxF (S.take k) x) = q := ⟨_, rfl⟩
      simp only [hib] at HIS
      have HSTEP : Hid ((if 0 ≤ idxF (S.take k) x then ([], 45) else if 0 ≤ sv ∧ sv ≤ ((2 ^ b - 1 : Nat) : Int) then wdF L (S.take (k + 1)) (S.drop (k + 1)) (putL acc p (digL b sv.toNat 0)) else ([], 42)) = R) := hstep
      clear hstep hix hix2 hrun hh hbx hs htl hgd hst hpb hfi hfx hp
      go_wp2_with fail
      refine (HFD.out _ (by first | exact hB2 | (rw [hO]; exact hB2))).mono ?_
      rintro e W3 ⟨rfl, hb3⟩
      try rw [hO] at hb3
      go_wp2_with fail
      refine quiet_lit3 (C := fun W => Below (wr.alloc O).heap.size (wr.alloc O) W) (by kernel_rfl) (by kernel_rfl) (show Below _ _ _ from hb3.drew) ?_
      go_big_quiet_want
      go_big_quiet_op
      go_big_quiet_on
      go_big_quiet_want
      go_big_quiet_op
      go_big_quiet_on
      go_big_quiet_want
      refine ⟨.slice (some ⟨g2, q0, none⟩) k c2, fun W hW => ?_, ?_⟩
      · go_simp
      go_big_quiet_on
      simp only [Act.put, List.setIfInBounds_toArray, List.set_cons_zero, List.set_cons_succ]
      go_big_quiet_want
      refine ⟨.pointer (some ⟨S0, 0, none⟩), fun W hW => ?_, ?_⟩
      · go_simp
      go_big_quiet_on
      simp only [Act.put, List.setIfInBounds_toArray, List.set_cons_zero, List.set_cons_succ]
      go_big_quiet_want
      refine ⟨.string ⟨x.toArray⟩, fun W hW => ?_, ?_⟩
      · obtain ⟨z0, z1⟩ := XS.out W hW
        go_simp
      go_big_quiet_on
      simp only [Act.put, List.setIfInBounds_toArray, List.set_cons_zero, List.set_cons_succ]
      go_big_quiet_want
      refine ⟨.bool ib, fun W hW => ?_, ?_⟩
      · go_simp
        refine (HIS.out W (bel0 hB2 hW)).mono ?_
        rintro e w7 ⟨rfl, hb⟩
        exact ⟨rfl, by have := bel0 hW hb; simpa [hS0] using this⟩
      go_big_quiet_on
      simp only [Act.put, List.setIfInBounds_toArray, List.set_cons_zero, List.set_cons_succ]
      go_big_quiet_want
      go_big_quiet_op
      go_big_quiet_on
      refine wpQuiet_nil ?_
      intro W4 h4
      cases ib with
      | true =>
        have hres : Hid (R = ([], 45)) := by unfold Hid; rw [← HSTEP.out, if_pos (of_decide_eq_true hib)]
        clear HSTEP hib
        go_wp2_with fail
        refine bodyPost_ret (results_tmp2 rfl _ _ _) rfl ?_
        exact ⟨by rw [hres.out]; rfl, bel0 hB2 h4⟩
      | false =>
        have HST2 : Hid ((if 0 ≤ sv ∧ sv ≤ ((2 ^ b - 1 : Nat) : Int) then wdF L (S.take (k + 1)) (S.drop (k + 1)) (putL acc p (digL b sv.toNat 0)) else ([], 42)) = R) := by unfold Hid; rw [← HSTEP.out, if_neg (of_decide_eq_false hib)]
        have HFT : Hid (∀ W : World, Calls Tryz.prog 52 #[.int .i64 sv, .int .i64 (b : Int)] W fun e w' => e = .returned (.bool (decide (0 ≤ sv ∧ sv ≤ ((2 ^ b - 1 : Nat) : Int)))) ∧ w' = W) := fun W => fits_any sv b hb32 W
        obtain ⟨fb, hfb⟩ : ∃ q, decide (0 ≤ sv ∧ sv ≤ ((2 ^ b - 1 : Nat) : Int)) = q := ⟨_, rfl⟩
        simp only [hfb] at HFT
        clear HSTEP hib HIS HFD
        go_wp2_with fail
        refine quiet_lit3 (C := fun W => Below (wr.alloc O).heap.size (wr.alloc O) W) (by kernel_rfl) (by kernel_rfl) (show Below _ _ _ from Below.drew h4) ?_
        go_big_quiet_want
        refine ⟨.pointer (some ⟨S0, 1, none⟩), fun W hW => ?_, ?_⟩
        · go_simp
        go_big_quiet_on
        simp only [Act.put, List.setIfInBounds_toArray, List.set_cons_zero, List.set_cons_succ]
        go_big_quiet_want
        refine ⟨.int .i64 sv, fun W hW => ?_, ?_⟩
        · obtain ⟨z0, z1⟩ := XS.out W hW
          go_simp
        go_big_quiet_on
        simp only [Act.put, List.setIfInBounds_toArray, List.set_cons_zero, List.set_cons_succ]
        go_big_quiet_want
        go_big_quiet_op
        go_big_quiet_on
        go_big_quiet_want
        go_big_quiet_op
        go_big_quiet_on
        go_big_quiet_want
        refine ⟨.pointer (some ⟨g, o0 + i * 2, none⟩), fun W hW => ?_, ?_⟩
        · go_simp
        go_big_quiet_on
        simp only [Act.put, List.setIfInBounds_toArray, List.set_cons_zero, List.set_cons_succ]
        go_big_quiet_want
        refine ⟨.pointer (some ⟨g, o0 + i * 2 + 1, none⟩), fun W hW => ?_, ?_⟩
        · go_simp
        go_big_quiet_on
        simp only [Act.put, List.setIfInBounds_toArray, List.set_cons_zero, List.set_cons_succ]
        go_big_quiet_want
        refine ⟨.int .i64 (b : Int), fun W hW => ?_, ?_⟩
        · have z0 := XF.out W (bel0 hB2 hW)
          go_simp
        go_big_quiet_on
        simp only [Act.put, List.setIfInBounds_toArray, List.set_cons_zero, List.set_cons_succ]
        go_big_quiet_want
        refine ⟨.bool fb, fun W hW => ?_, ?_⟩
        · go_simp
          refine (HFT.out W).mono ?_
          rintro e w7 ⟨rfl, rfl⟩
          exact ⟨rfl, by simpa [hS0] using hW⟩
        go_big_quiet_on
        simp only [Act.put, List.setIfInBounds_toArray, List.set_cons_zero, List.set_cons_succ]
        go_big_quiet_want
        refine ⟨.bool (!fb), fun W hW => ?_, ?_⟩
        · go_simp
        go_big_quiet_on
        simp only [Act.put, List.setIfInBounds_toArray, List.set_cons_zero, List.set_cons_succ]
        go_big_quiet_want
        go_big_quiet_op
        go_big_quiet_on
        refine wpQuiet_nil ?_
        intro W5 h5
        have hBW := bel0 hB2 h5
        cases fb with
        | false =>
          have hres : Hid (R = ([], 42)) := by unfold Hid; rw [← HST2.out, if_neg (of_decide_eq_false hfb)]
          clear HST2 hfb
          go_wp2_with fail
          refine bodyPost_ret (results_tmp2 rfl _ _ _) rfl ?_
          exact ⟨by rw [hres.out]; rfl, hBW⟩
        | true =>
          have hvb := of_decide_eq_true hfb
          have hgo : Hid (wdF L (S.take (k + 1)) (S.drop (k + 1)) (putL acc p (digL b sv.toNat 0)) = R) := by unfold Hid; rw [← HST2.out, if_pos hvb]
          obtain ⟨vn, rfl⟩ : ∃ vn : Nat, sv = (vn : Int) := ⟨sv.toNat, by omega⟩
          have hvn : vn < 8589934592 := by have := HP2.out; omega
          rw [Int.toNat_natCast] at hgo
          have hDl : Hid ((digL b vn 0).length = b) := digL_len b vn 0 (Nat.zero_le _)
          have HDG : Hid (∀ W : World, Calls Tryz.prog 64 #[.int .i64 (b : Int), .int .i64 (vn : Int), .int .i64 0] W fun e w' => e = .returned (.string ⟨(digL b vn 0).toArray⟩) ∧ Below W.heap.size W w') := fun W => digits_any b vn 0 hb1 hb32 (Nat.zero_le _) hvn W
          obtain ⟨D, hD⟩ : ∃ D, digL b vn 0 = D := ⟨_, rfl⟩
          rw [hD] at hgo hDl
          simp only [hD] at HDG
          have HLY : Hid (∀ W' : World, Below (wr.alloc O).heap.size (wr.alloc O) W' → Calls Tryz.prog 31 #[.slice (some ⟨K, 0, none⟩) n cp, .slice (some ⟨g, o0, none⟩) L.length c, .int .i64 (i : Int), .string ⟨D.toArray⟩] W' fun e w' => (∃ v, e = .returned v) ∧ hdr w' K z (putL acc p D) ∧ Below w.heap.size W' w') := fun W' hW' =>
            lay_any L g o0 c i K cp z acc D n p w.heap.size W' hal.out hcp HP.out (by rw [hDl.out]; omega) (by rw [hDl.out]; omega) (by omega) hc (by omega) HB0.out (HR.out.later (bel0 hB2 hW')) (keepblk hW' hh2.out) hwK (bel0 hB2 hW').size
          have HAL : Hid ((putL acc p D).length = n) := by unfold Hid; rw [putL_len]; exact hal.out
          obtain ⟨acc2, ha2⟩ : ∃ a, putL acc p D = a := ⟨_, rfl⟩
          rw [ha2] at hgo HAL
          simp only [ha2] at HLY
          clear HST2 hfb hD ha2 hvb HFT
          simp only [Bool.not_true]
          go_wp2_with fail
          refine quiet_last (C := fun W => Below (wr.alloc O).heap.size (wr.alloc O) W) (by kernel_rfl) (by kernel_rfl) (by kernel_rfl) (by kernel_rfl) (show Below _ _ _ from Below.drew h5) ?_
          simp only [List.dropLast_cons_cons, List.dropLast_singleton]
          go_big_quiet_want
          go_big_quiet_op
          go_big_quiet_on
          go_big_quiet_want
          go_big_quiet_op
          go_big_quiet_on
          go_big_quiet_want
          go_big_quiet_op
          go_big_quiet_on
          go_big_quiet_want
          go_big_quiet_op
          go_big_quiet_on
          go_big_quiet_want
          go_big_quiet_op
          go_big_quiet_on
          go_big_quiet_want
          refine ⟨.pointer (some ⟨g, o0 + i * 2, none⟩), fun W hW => ?_, ?_⟩
          · go_simp
          go_big_quiet_on
          simp only [Act.put, List.setIfInBounds_toArray, List.set_cons_zero, List.set_cons_succ]
          go_big_quiet_want
          refine ⟨.pointer (some ⟨g, o0 + i * 2 + 1, none⟩), fun W hW => ?_, ?_⟩
          · go_simp
          go_big_quiet_on
          simp only [Act.put, List.setIfInBounds_toArray, List.set_cons_zero, List.set_cons_succ]
          go_big_quiet_want
          refine ⟨.int .i64 (b : Int), fun W hW => ?_, ?_⟩
          · have z0 := XF.out W (bel0 hB2 hW)
            go_simp
          go_big_quiet_on
          simp only [Act.put, List.setIfInBounds_toArray, List.set_cons_zero, List.set_cons_succ]
          go_big_quiet_want
          refine ⟨.pointer (some ⟨S0, 1, none⟩), fun W hW => ?_, ?_⟩
          · go_simp
          go_big_quiet_on
          simp only [Act.put, List.setIfInBounds_toArray, List.set_cons_zero, List.set_cons_succ]
          go_big_quiet_want
          refine ⟨.int .i64 (vn : Int), fun W hW => ?_, ?_⟩
          · obtain ⟨z0, z1⟩ := XS.out W hW
            go_simp
          go_big_quiet_on
          simp only [Act.put, List.setIfInBounds_toArray, List.set_cons_zero, List.set_cons_succ]
          go_big_quiet_want
          refine ⟨.string ⟨D.toArray⟩, fun W hW => ?_, ?_⟩
          · go_simp
            refine (HDG.out W).mono ?_
            rintro e w7 ⟨rfl, hb⟩
            exact ⟨rfl, by have := bel0 hW hb; simpa [hS0] using this⟩
          go_big_quiet_on
          simp only [Act.put, List.setIfInBounds_toArray, List.set_cons_zero, List.set_cons_succ]
          refine wpQuiet_nil ?_
          intro W6 h6
          refine wpOp_go rfl rfl ?_
          go_simp
          refine (HLY.out W6 h6).mono ?_
          rintro e W7 ⟨⟨v7, rfl⟩, hh7, hB7⟩
          have hB8 : Below w.heap.size w W7 := (bel0 hB2 h6).trans hB7
          clear HLY HDG
          go_wp2_with fail
          go_roundw
          case rel => exact ⟨k + 1, acc2, by go_num, by omega, HAL, hh7, hgo, hB8⟩
          case measure => simp [intOf]; omega
    · have j1 : ¬ (k : Int) < (S.length : Int) := by omega
      have hres : Hid (R = (acc, 0)) := by
        unfold Hid
        rw [← hrun.out, List.drop_eq_nil_of_le (by omega)]
        rfl
      have hcv := run_convert_bytes_back (P := Tryz.prog) wr 60 9 5 ⟨K, 0, none⟩ cp acc Tryz.underlying60 Tryz.underlying5 Tryz.underlying9 (fun j hj => by
        have := hdr_cell hh hj
        simp only [Addr.add]
        split
        · rename_i h; subst h; exact this
        · simpa using this)
      rw [hal.out] at hcv
      clear hrun hh
      go_wp2_with fail
      refine bodyPost_ret (results_tmp2 rfl _ _ _) rfl ?_
      exact ⟨by rw [hres.out]; rfl, hB⟩
end Go.Proofs.YtnboehlbcjfndaaGreatDoor
