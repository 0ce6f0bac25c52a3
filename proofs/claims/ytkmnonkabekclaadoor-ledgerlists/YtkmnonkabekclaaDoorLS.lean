import Derived.Test.YtkmnonkabekclaaDoorLQ
import Derived.Test.YtkmnonkabekclaaDoorLN
namespace Go.Proofs.YtkmnonkabekclaaDoor
open Go.RowKit
/-- what Whole answers -/
def WHD (D : List UInt8) (w : World) (e : Ending) (w' : World) : Prop :=
  ∃ v, e = .returned (.tuple #[v, .int .i64 (plc D (whL 1 D).length : Int), .int .i64 (whE 1 D : Int)]) ∧ OR w' w.heap.size v (whL 1 D) ∧ Below w.heap.size w w'
theorem res_dwh (tmps : Array Value) (W : World) (x y z : Value) (h : tmps[2]?.getD undef = x ∧ tmps[3]?.getD undef = y ∧ tmps[4]?.getD undef = z) : (results Tryd.f16 tmps).run Tryd.prog W = .ok (.tuple #[x, y, z]) W := by
  simp [results, h.1, h.2.1, h.2.2, go_sem]
set_option maxRecDepth 100000 in
set_option maxHeartbeats 8000000 in
theorem dwhole_any (D : List UInt8) (p : Option Addr) (n c : Nat) (w : World) (hn : D.length = n) (hL : n ≤ 200000) (hc : n ≤ c) (hr : BR w p D) :
    Calls Tryd.prog 16 #[.slice p n c] w (WHD D w) := by
  obtain ⟨i0, hi, hz0, hz1, hz2⟩ := info_parts info_rec
  have HN : Hid (D.length = n) := hn
  have HR : Hid (BR w p D) := hr
  clear hn hr
  go_enter Tryd.func16, Tryd.ntmps16
  go_wp2_with fail
  go_loopw [5, 6] (fun vl va wr => ∃ k a : Nat, va = .int .i64 a ∧ Hid (a = plc D k) ∧ k ≤ (whL 1 D).length ∧ a ≤ n ∧ Hid (OR wr w.heap.size vl ((whL 1 D).take k)) ∧ Hid (Below w.heap.size w wr)) (fun _ va _ => n - (intOf va).toNat)
  case atStart => exact ⟨0, 0, rfl, rfl, Nat.zero_le _, Nat.zero_le _, World.ownsRow_nil _ _ _ _, Below.refl _ _⟩
  case round =>
    obtain ⟨k, a, rfl, ha, hk, han, hO, hB⟩ := hrel
    have hltk : ((whL 1 D).take k).length = k := by rw [List.length_take]; omega
    obtain ⟨pl, cl, hvl⟩ := hO.out.shape
    rw [hltk] at hvl
    subst hvl
    have HLT : Hid (((whL 1 D).take k).length = k) := hltk
    clear hltk
    have HRD : Hid (Calls Tryd.prog 14 #[.slice p n c, .int .i64 a] wr (RDQ D a wr)) := dread_any D p n c a wr HN.out (by omega) hc (HR.out.below hB.out)
    have hkb : k ≤ 200000 := by have h5 := plc_len hk; have h6 := plc_le hk; rw [HN.out] at h6; omega
    by_cases hlt : k < (whL 1 D).length
    · obtain ⟨⟨hE, hS⟩, hr, hp⟩ := plc_on hlt
      have hrc := rc_at (D := D) (k := k) hk
      rw [← ha.out] at hE hS hr hp hrc
      rw [hE] at hrc
      have h20 : plc D (k + 1) ≤ n := by rw [← HN.out]; exact plc_le (by omega)
      obtain ⟨K, hK⟩ : ∃ K, rdK (D.drop a) = K := ⟨_, rfl⟩
      obtain ⟨T, hT⟩ : ∃ T, rdT (D.drop a) = T := ⟨_, rfl⟩
      have hr2 : (whL 1 D)[k]? = some ⟨k + 1, K, T⟩ := by rw [hr, rdR, hS, hK, hT]
      obtain ⟨a2, ha2⟩ : ∃ a2, plc D (k + 1) = a2 := ⟨_, rfl⟩
      have HRD2 : Hid (Calls Tryd.prog 14 #[.slice p n c, .int .i64 a] wr fun e w' => e = .returned (.tuple #[.agg #[.int .i64 ((k : Int) + 1), .int .i64 (K : Int), .string ⟨T.toArray⟩], .int .i64 (a2 : Int), .int .i64 0]) ∧ Below wr.heap.size wr w') := by
        refine HRD.out.mono ?_
        rintro e w' ⟨h1, h2⟩
        rw [rcR, rcN, hrc, if_pos rfl, if_pos rfl, Int.toNat_natCast, rdR, hS, hK, hT] at h1
        rw [show (a : Int) + (rdN (D.drop a) : Int) + 20 = (a2 : Int) by rw [← ha2, hp]; omega] at h1
        exact ⟨h1, h2⟩
      have haa : a + 20 ≤ a2 := by rw [← ha2, hp]; omega
      have HA2 : Hid (a2 = plc D (k + 1)) := ha2.symm
      have HTK : Hid ((whL 1 D).take (k + 1) = (whL 1 D).take k ++ [⟨k + 1, K, T⟩]) := by
        show (whL 1 D).take (k + 1) = _
        rw [List.take_add_one, hr2]; rfl
      rw [ha2] at h20
      clear hr2 ha2 hT hK hrc hE hS hr hp HRD
      have es : (((k : Int) + 1) != ((k : Int) + 1)) = false := by simp
      have en : ((a : Int) == (n : Int)) = false := by simp; omega
      go_wp2_with fail
      refine HRD2.out.mono ?_
      rintro e W2 ⟨rfl, b2⟩
      go_upto_region 6 with fail
      obtain ⟨W3, hW3⟩ : ∃ W3, W2.alloc (.cells #[.int .i64 ((k : Int) + 1), .int .i64 (K : Int), .string ⟨T.toArray⟩] 35 (0, 0)) = W3 := ⟨_, rfl⟩
      have b3 : Below W2.heap.size W2 W3 := by rw [← hW3]; exact (Below.refl _ _).alloc (Nat.le_refl _) _
      have hx3 : W3.heap[W2.heap.size]? = some (.cells #[.int .i64 ((k : Int) + 1), .int .i64 (K : Int), .string ⟨T.toArray⟩] 35 (0, 0)) := by rw [← hW3]; exact alloc_getZ _ _
      have r0 := (cellsZ hx3).1 0
      have r1 := (cellsZ hx3).1 1
      have r2 := (cellsZ hx3).1 2
      simp only [List.getElem?_toArray, List.getElem?_cons_zero, List.getElem?_cons_succ] at r0 r1 r2
      have hO3 : OR W3 w.heap.size (.slice pl k cl) ((whL 1 D).take k) := (hO.out.below b2).below b3
      have HB3 : Hid (Below w.heap.size w W3) := bel0Z (bel0Z hB.out b2) b3
      have ow3 : W3.ownsRow w.heap.size 35 3 (.slice pl k cl) k (rcs ((whL 1 D).take k)) := by
        have := hO3
        unfold OR at this
        rw [HLT.out] at this
        exact this
      rw [hW3]
      clear hW3 HRD2 b2 b3 hO3 hx3
      have hBs := HB3.out.size
      go_wp2_with (at_builtin; refine wpList_append_own_at _ rfl _ _ 40 rfl w.heap.size 35 i0 _ 3 32 Tryd.underlying40 hi hz0 hz1 hz2 rfl (by decide) _ _ _ rfl (ow3.alloc _) ⟨W3.heap.size, 0, none⟩ 1 1 [.int .i64 ((k : Int) + 1), .int .i64 (K : Int), .string ⟨T.toArray⟩] rfl rfl (World.news_of_block (cs := #[.int .i64 ((k : Int) + 1), .int .i64 (K : Int), .string ⟨T.toArray⟩]) (t := 35) (fr := (0, 0)) (alloc_getZ _ _)) (by simp [Value.oneCell']) (by unfold maxLen; omega) (by omega) (by simp; omega) ?_)
      intro v4 w4 o4 g4 _ _
      have HB4 : Hid (Below w.heap.size w w4) := bel_grZ (belAZ HB3.out _) g4 (fun j e => (World.ownsRow.lt ow3 j e).1)
      have HO4 : Hid (OR w4 w.heap.size v4 ((whL 1 D).take (k + 1))) := by
        show OR w4 w.heap.size v4 ((whL 1 D).take (k + 1))
        unfold OR
        rw [HTK.out, rcs_snoc, List.length_append, HLT.out]
        have e : rcC ⟨k + 1, K, T⟩ = [.int .i64 ((k : Int) + 1), .int .i64 (K : Int), .string ⟨T.toArray⟩] := rfl
        rw [e]
        exact o4
      clear o4 g4 ow3 HB3 r0 r1 r2
      go_wp2_with fail
      exact ⟨⟨k + 1, a2, rfl, HA2, by omega, h20, HO4, HB4⟩, by simp only [intOf]; omega⟩
    · obtain rfl : k = (whL 1 D).length := by omega
      have hEE := whE_at _ 1 D rfl
      have ep : whB (whL 1 D) = plc D (whL 1 D).length := by unfold plc; rw [List.take_length]
      have hrc := rc_at (D := D) (k := (whL 1 D).length) (Nat.le_refl _)
      have hoff := plc_off (D := D)
      rw [ep, ← ha.out, List.length_drop, HN.out] at hEE
      rw [← ha.out] at hrc hoff
      have hO2 : Hid (∀ X, Below wr.heap.size wr X → OR X w.heap.size (.slice pl (whL 1 D).length cl) (whL 1 D)) := fun X hX => by
        have := hO.out.below hX
        rw [List.take_length] at this
        exact this
      have hP : Hid ((a : Int) = (plc D (whL 1 D).length : Int)) := by show (a : Int) = _; rw [← ha.out]
      by_cases h0 : a = n
      · rw [if_pos (by omega)] at hEE
        have en : ((a : Int) == (n : Int)) = true := by simp [h0]
        clear HRD hrc hoff ep
        have HE0 : Hid (whE 1 D = 0) := hEE
        clear hEE
        go_wp2_with fail
        refine bodyPost_ret (res_dwh _ _ _ _ _ ⟨rfl, rfl, rfl⟩) rfl ?_
        exact ⟨_, by rw [HE0.out, ← hP.out]; rfl, hO2.out wr (Below.refl _ _), hB.out⟩
      · rw [if_neg (by omega), ← hrc] at hEE
        have en : ((a : Int) == (n : Int)) = false := by simp; omega
        obtain ⟨E, hE⟩ : ∃ E, rcE D a = E := ⟨_, rfl⟩
        obtain ⟨R, hR⟩ : ∃ R, rcR D a = R := ⟨_, rfl⟩
        obtain ⟨NX, hNX⟩ : ∃ NX, rcN D a = NX := ⟨_, rfl⟩
        have HQ : Hid (Calls Tryd.prog 14 #[.slice p n c, .int .i64 a] wr fun e w' => e = .returned (.tuple #[.agg #[.int .i64 (R.seq : Int), .int .i64 (R.kind : Int), .string ⟨R.text.toArray⟩], .int .i64 NX, .int .i64 (E : Int)]) ∧ Below wr.heap.size wr w') := by
          refine HRD.out.mono ?_
          rintro e w' ⟨h1, h2⟩
          rw [hR, hNX, hE] at h1
          exact ⟨h1, h2⟩
        have hs : E = 0 → R.seq ≠ (whL 1 D).length + 1 := fun h0 hs => hoff ⟨by rw [← hrc, hE, h0], by
          rw [← hR, rcR, hE, if_pos h0, Int.toNat_natCast] at hs
          exact hs⟩
        rw [hE] at hEE
        clear hoff hrc hE hR hNX HRD ep
        obtain ⟨rs, rk, rt⟩ := R
        simp only at HQ hs
        have HEE : Hid (whE 1 D = if E = 0 then 192 else E) := hEE
        clear hEE
        by_cases hE0 : E = 0
        · have e2 : ((rs : Int) != ((whL 1 D).length : Int) + 1) = true := by have := hs hE0; simp only [bne_iff_ne, ne_eq]; omega
          have HE2 : Hid (whE 1 D = 192) := by show whE 1 D = 192; rw [HEE.out, if_pos hE0]
          subst hE0
          clear hs HEE
          go_wp2_with fail
          refine HQ.out.mono ?_
          rintro e W2 ⟨rfl, b2⟩
          go_wp2_with fail
          refine bodyPost_ret (res_dwh _ _ _ _ _ ⟨rfl, rfl, rfl⟩) rfl ?_
          exact ⟨_, by rw [HE2.out, ← hP.out]; rfl, hO2.out _ (belAZ b2 _), belAZ (bel0Z hB.out b2) _⟩
        · have e1 : ((E : Int) != 0) = true := by simp only [bne_iff_ne, ne_eq]; omega
          have HE2 : Hid (whE 1 D = E) := by show whE 1 D = E; rw [HEE.out, if_neg hE0]
          clear hs HEE hE0
          go_wp2_with fail
          refine HQ.out.mono ?_
          rintro e W2 ⟨rfl, b2⟩
          go_wp2_with fail
          refine bodyPost_ret (res_dwh _ _ _ _ _ ⟨rfl, rfl, rfl⟩) rfl ?_
          exact ⟨_, by rw [HE2.out, ← hP.out]; rfl, hO2.out _ (belAZ b2 _), belAZ (bel0Z hB.out b2) _⟩
end Go.Proofs.YtkmnonkabekclaaDoor
