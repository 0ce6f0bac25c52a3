import Derived.Test.YtecgjlpmmailjaaGreatDoorXAK
import Derived.Laws.EntriesVeiled
namespace Go.Proofs.YtecgjlpmmailjaaGreatDoor
open Go.RowKit
set_option maxRecDepth 100000 in
theorem fldE (b : Int) (p : Option Addr) (n cp : Nat) (w : World) : (Instr.field 28 (.agg #[.int .i64 b, .slice p n cp, .bool false]) 1).run Tryz.prog w = .ok (.slice p n cp) w := by
  first | rfl | kernel_rfl | simp [Instr.field, go_sem, Tryz.underlying28]
set_option maxRecDepth 100000 in
set_option maxHeartbeats 16000000 in
theorem plain1_any {A : List (List UInt8)} {X : Nat → Prop} {J : List (List UInt8) → Option Nat → World → Prop} {Jx : World → Prop} {N0 l m : Nat} (hJ : JY X N0 J)
    (hin : ∀ (b : Int) (p : Option Addr) (n cp : Nat) (w : World), Calls Tryz.prog 25 #[.agg #[.int .i64 b, .slice p n cp, .bool false]] w fun e w' => e = .returned (.agg #[.int .i64 b, .slice p n cp, .bool false]) ∧ Below w.heap.size w w')
    (b : Int) (Z : List ZT) (n : Nat) (p : Option Addr) (cp bs bl Mx : Nat) (r : Option Nat) (W : World) (hA : flT (Z.map ctZ) <+: A) (hY : ∀ z ∈ Z, YLD A X J Jx l m z.c.length) (hZ : Z.length = n) (hn : n ≤ 128) (hMx : Mx ≤ 9223372036854775807) (hcap : Mx ≤ 2048 ∨ ∃ R, exE splT 2048 [] (Z.map ctZ) = some R)
    (h : J [] r W) (d1 : W.heap[bs]? = some (.cells #[.int .i64 b, .slice p n cp, .bool false] 28 (0, 0))) (d2 : W.heap[bl]? = some (.cells #[.int .i64 (Mx : Int)] 3 (0, 0))) (x2 : ¬ X bl) (y2 : some bl ≠ r) (ht : TRC W X r p Z) (hg : ∀ z ∈ Z, good z.c = true ∧ gdW z.c.length z.L ∧ z.L.length ≤ 128) :
    Calls Tryz.prog 34 #[.func (.yield l) #[] #[], .pointer (some ⟨bs, 0, none⟩), .pointer (some ⟨bl, 0, none⟩)] W (PP J Jx Mx (Z.map ctZ)) := by
  obtain ⟨Ts, hTs⟩ : ∃ Ts, Z.map ctZ = Ts := ⟨_, rfl⟩
  rw [hTs] at hcap hA ⊢
  have HAP : Hid (flT Ts <+: A) := hA
  clear hA
  have HT : Hid (Z.map ctZ = Ts ∧ Z.length = n) := ⟨hTs, hZ⟩
  have HW : Hid (J [] r W ∧ W.heap[bl]? = some (.cells #[.int .i64 (Mx : Int)] 3 (0, 0)) ∧ ¬ X bl ∧ some bl ≠ r ∧ TRC W X r p Z) := ⟨h, d2, x2, y2, ht⟩
  have HG : Hid (∀ z ∈ Z, good z.c = true ∧ gdW z.c.length z.L ∧ z.L.length ≤ 128) := hg
  have HY : Hid (∀ z ∈ Z, YLD A X J Jx l m z.c.length) := hY
  have HCP : Hid (Mx ≤ 2048 ∨ ∃ R, exE splT 2048 [] Ts = some R) := hcap
  have hc1 := (cells_block d1).1
  have HIN := hin b p n cp W
  have hfl := fldE
  clear h d1 d2 x2 y2 ht hg hcap hTs hZ hin hY
  go_enter Tryz.func34, Tryz.ntmps34
  go_wp2_with fail
  refine HIN.mono ?_
  rintro e W1 ⟨rfl, hb1⟩
  clear hc1 HIN
  have HB1 : Hid (YK X r W r W1 ∧ J [] r W1) := ⟨YK.below hb1, hJ.below _ _ _ _ HW.out.1 hb1⟩
  clear hb1
  go_wp2_with fail
  go_loopw [4, 12] (fun v4 v12 wr => ∃ (i nf : Nat), v12 = .int .i64 (i : Int) ∧ v4 = .int .i64 (nf : Int) ∧ i ≤ n ∧ nf ≤ Mx ∧ nf ≤ 2048 ∧ Hid (∃ r1 out, (out ++ flT (Ts.drop i)) <+: A ∧ out.length = nf ∧ J out r1 wr ∧ YK X r W r1 wr ∧ exE splT Mx [] Ts = exE splT Mx out (Ts.drop i) ∧ (Mx ≤ 2048 ∨ ∃ R, exE splT 2048 out (Ts.drop i) = some R))) (fun _ v12 _ => n - (intOf v12).toNat)
  case atStart => exact ⟨0, 0, rfl, rfl, Nat.zero_le _, Nat.zero_le _, Nat.zero_le _, r, [], HAP.out, rfl, HB1.out.2, HB1.out.1, rfl, HCP.out⟩
  case round =>
    obtain ⟨i, nf, rfl, rfl, hi, hnf, hnf2, hrel⟩ := hrel
    obtain ⟨r1, out, hpa, hol, hrel⟩ := hrel.out
    have HPA : Hid ((out ++ flT (Ts.drop i)) <+: A) := hpa
    clear hpa
    have HR : Hid (J out r1 wr ∧ YK X r W r1 wr ∧ exE splT Mx [] Ts = exE splT Mx out (Ts.drop i) ∧ (Mx ≤ 2048 ∨ ∃ R, exE splT 2048 out (Ts.drop i) = some R)) := hrel
    have HOL : Hid (out.length = nf) := hol
    clear hrel hol
    by_cases hlt : i < n
    · have i1 : (i : Int) < (n : Int) := by omega
      have i0 : (0 : Int) ≤ (i : Int) := by omega
      obtain ⟨z, hz⟩ : ∃ z, Z[i]? = some z := ⟨_, List.getElem?_eq_getElem (by rw [HT.out.2]; exact hlt)⟩
      have htr := HW.out.2.2.2.2.keep HR.out.2.1
      obtain ⟨g, o0, rfl, ⟨p0, p1, p2, p3, p4, p5, p6, p7, p8, p9⟩, -, -, hrc, hlk⟩ := htr i z hz
      obtain ⟨gc, hgL, hL1⟩ := HG.out z (List.mem_of_getElem? hz)
      have hyl := HY.out z (List.mem_of_getElem? hz)
      have HD : Hid (Ts.drop i = (z.c, z.L) :: Ts.drop (i + 1)) := by
        unfold Hid
        have hlz : i < Ts.length := by rw [← HT.out.1, List.length_map, HT.out.2]; exact hlt
        rw [List.drop_eq_getElem_cons hlz]
        congr 1
        have e1 : Ts[i]? = some (z.c, z.L) := by rw [← HT.out.1, List.getElem?_map, hz]; rfl
        exact (List.getElem?_eq_some_iff.1 e1).2
      obtain ⟨c, q, kl, L⟩ := z
      simp only at p0 p1 p2 p3 p4 p5 p6 p7 p8 p9 hrc hlk gc hgL hL1 hyl HD
      obtain ⟨nl, hnl⟩ : ∃ nl, L.length = nl := ⟨_, rfl⟩
      rw [hnl] at p9 hlk hL1
      obtain ⟨K, hK⟩ : ∃ K : Nat, 1 + nl = K := ⟨_, rfl⟩
      have hK1 : (1 : Int) + (nl : Int) = (K : Int) := by omega
      have hmk := make_ints K (by omega)
      have hwr1 : IntKind.i64.wrap ((Mx : Int) - (nf : Int)) = (Mx : Int) - (nf : Int) := by rw [IntKind.wrap_i64]; omega
      have hwr2 : IntKind.i64.wrap (K : Int) = (K : Int) := by rw [IntKind.wrap_i64]; omega
      have HL : Hid (L.length = nl ∧ 1 + nl = K ∧ good c = true ∧ YLD A X J Jx l m c.length ∧ gdW c.length L ∧ RC wr X r1 q L ∧ nl ≤ kl) := ⟨hnl, hK, gc, hyl, hgL, hrc, hlk⟩
      obtain ⟨wa, hwa⟩ : ∃ wa, wr.alloc (.cells #[.int .i64 (c.length : Int), .int .u64 (FW c 0 : Int), .int .u64 (FW c 1 : Int), .int .u64 (FW c 2 : Int), .int .u64 (FW c 3 : Int), .int .u64 (OW c 0 : Int), .int .u64 (OW c 1 : Int), .int .u64 (OW c 2 : Int), .int .u64 (OW c 3 : Int), .slice q nl kl] 67 (0, 0)) = wa := ⟨_, rfl⟩
      have hBa : Below wr.heap.size wr wa := by rw [← hwa]; exact belA (Below.refl _ _) _
      have hga : wa.heap[wr.heap.size]? = some (.cells #[.int .i64 (c.length : Int), .int .u64 (FW c 0 : Int), .int .u64 (FW c 1 : Int), .int .u64 (FW c 2 : Int), .int .u64 (FW c 3 : Int), .int .u64 (OW c 0 : Int), .int .u64 (OW c 1 : Int), .int .u64 (OW c 2 : Int), .int .u64 (OW c 3 : Int), .slice q nl kl] 67 (0, 0)) := by rw [← hwa]; exact alloc_get _ _
      have HA : Hid (Below wr.heap.size wr wa ∧ wa.heap[wr.heap.size]? = some (.cells #[.int .i64 (c.length : Int), .int .u64 (FW c 0 : Int), .int .u64 (FW c 1 : Int), .int .u64 (FW c 2 : Int), .int .u64 (FW c 3 : Int), .int .u64 (OW c 0 : Int), .int .u64 (OW c 1 : Int), .int .u64 (OW c 2 : Int), .int .u64 (OW c 3 : Int), .slice q nl kl] 67 (0, 0))) := ⟨hBa, hga⟩
      have hl4 : wa.cell? ⟨bl, 0, none⟩ = some (.int .i64 (Mx : Int)) := (cells_block (keepblk3 hBa (HR.out.2.1.blk HW.out.2.1 HW.out.2.2.1 HW.out.2.2.2.1))).1 0
      have hga4 := (cells_block hga).1
      have HK4 : Hid (∀ V, Below wa.heap.size wa V → V.cell? ⟨bl, 0, none⟩ = some (.int .i64 (Mx : Int)) ∧ (∀ j, V.cell? ⟨wr.heap.size, j, none⟩ = (#[.int .i64 (c.length : Int), .int .u64 (FW c 0 : Int), .int .u64 (FW c 1 : Int), .int .u64 (FW c 2 : Int), .int .u64 (FW c 3 : Int), .int .u64 (OW c 0 : Int), .int .u64 (OW c 1 : Int), .int .u64 (OW c 2 : Int), .int .u64 (OW c 3 : Int), .slice q nl kl] : Array Value)[j]?)) := fun V hV => ⟨(hV.cell (World.block_lt_of_cell? wa _ hl4)).trans hl4, (cells_block (keepblk3 hV hga)).1⟩
      clear hz htr hrc hlk gc hyl hgL hnl hK hBa hga
      go_upto_region 4 with fail
      clear hwa p0 p1 p2 p3 p4 p5 p6 p7 p8 p9
      go_cut [7] (fun v7 wc => ∃ bw bm : Nat, v7 = .pointer (some ⟨bw, 0, none⟩) ∧ Hid (wc.heap[bw]? = some (.cells #[.int .i64 ((Mx : Int) - (nf : Int)), .slice (some ⟨bm, 0, none⟩) K K, .func (.yield l) #[] #[]] 84 (0, 0)) ∧ MET wc bm K (fun _ => 0) ∧ Below wa.heap.size wa wc ∧ wa.heap.size ≤ bw ∧ wa.heap.size ≤ bm ∧ bw ≠ bm))
      case first =>
        have hs4 : wa.drew.cell? ⟨bl, 0, none⟩ = some (.int .i64 (Mx : Int)) ∧ (∀ j, wa.drew.cell? ⟨wr.heap.size, j, none⟩ = (#[.int .i64 (c.length : Int), .int .u64 (FW c 0 : Int), .int .u64 (FW c 1 : Int), .int .u64 (FW c 2 : Int), .int .u64 (FW c 3 : Int), .int .u64 (OW c 0 : Int), .int .u64 (OW c 1 : Int), .int .u64 (OW c 2 : Int), .int .u64 (OW c 3 : Int), .slice q nl kl] : Array Value)[j]?) := ⟨hl4, hga4⟩
        refine wp_region_held_drew (S := fun V => V.cell? ⟨bl, 0, none⟩ = some (.int .i64 (Mx : Int)) ∧ (∀ j, V.cell? ⟨wr.heap.size, j, none⟩ = (#[.int .i64 (c.length : Int), .int .u64 (FW c 0 : Int), .int .u64 (FW c 1 : Int), .int .u64 (FW c 2 : Int), .int .u64 (FW c 3 : Int), .int .u64 (OW c 0 : Int), .int .u64 (OW c 1 : Int), .int .u64 (OW c 2 : Int), .int .u64 (OW c 3 : Int), .slice q nl kl] : Array Value)[j]?)) (by kernel_rfl) hs4 (fun _ => ?_)
        refine wpAnyH_take (i := 0) (v := .int .i64 (Mx : Int)) rfl (by kernel_rfl) (by kernel_rfl) (by kernel_rfl) (fun _ _ _ h => h) (Or.inl ⟨by rfl, ?_⟩) hs4 ?_
        · rintro w ⟨s1, s2⟩; go_simp
        refine wpAnyH_take (i := 1) (v := .int .i64 (nf : Int)) rfl (by kernel_rfl) (by kernel_rfl) (by kernel_rfl) (fun _ _ _ h => h) (Or.inl ⟨by rfl, ?_⟩) hs4 ?_
        · rintro w ⟨s1, s2⟩; go_simp
        refine wpAnyH_take (i := 2) (v := .int .i64 ((Mx : Int) - (nf : Int))) rfl (by kernel_rfl) (by kernel_rfl) (by kernel_rfl) (fun _ _ _ h => h) (Or.inl ⟨by rfl, ?_⟩) hs4 ?_
        · rintro w ⟨s1, s2⟩; go_simp
        refine wpAnyH_take (i := 3) (v := .pointer (some ⟨wr.heap.size, 9, none⟩)) rfl (by kernel_rfl) (by kernel_rfl) (by kernel_rfl) (fun _ _ _ h => h) (Or.inl ⟨by rfl, ?_⟩) hs4 ?_
        · rintro w ⟨s1, s2⟩; go_simp
        refine wpAnyH_take (i := 4) (v := .slice q nl kl) rfl (by kernel_rfl) (by kernel_rfl) (by kernel_rfl) (fun _ _ _ h => h) (Or.inl ⟨by rfl, ?_⟩) hs4 ?_
        · rintro w ⟨s1, s2⟩; go_simp
        refine wpAnyH_take (i := 5) (v := .int .i64 (nl : Int)) rfl (by kernel_rfl) (by kernel_rfl) (by kernel_rfl) (fun _ _ _ h => h) (Or.inl ⟨by rfl, ?_⟩) hs4 ?_
        · rintro w ⟨s1, s2⟩; go_simp
        refine wpAnyH_take (i := 6) (v := .int .i64 (K : Int)) rfl (by kernel_rfl) (by kernel_rfl) (by kernel_rfl) (fun _ _ _ h => h) (Or.inl ⟨by rfl, ?_⟩) hs4 ?_
        · rintro w ⟨s1, s2⟩; go_simp
        refine wpAnyH_take (i := 8) (v := .func (.yield l) #[] #[]) rfl (by kernel_rfl) (by kernel_rfl) (by kernel_rfl) (fun _ _ _ h => h) (Or.inl ⟨by rfl, ?_⟩) hs4 ?_
        · rintro w ⟨s1, s2⟩; go_simp
        refine wpAnyH_ready (rs := [7, 10]) (by kernel_rfl) (by simp) ?_
        refine AllReadyH.cons rfl (fun KK hKK => ?_) (AllReadyH.cons rfl (fun KK hKK => ?_) AllReadyH.nil)
        · go_simp
          have hsA := HK4.out _ (belA (Below.refl wa.heap.size wa) (.cells (mtA K (fun _ => 0)) 3 (0, 0)))
          refine hKK.out _ _ hsA (fun _ => ?_)
          clear hKK KK
          refine wpAnyH_take (i := 9) (v := .agg #[.int .i64 ((Mx : Int) - (nf : Int)), .slice (some ⟨wa.heap.size, 0, none⟩) K K, .func (.yield l) #[] #[]]) rfl (by kernel_rfl) (by kernel_rfl) (by kernel_rfl) (fun _ _ _ h => h) (Or.inl ⟨by rfl, ?_⟩) hsA ?_
          · rintro w ⟨s1, s2⟩; go_simp
          refine wpAnyH_ready (rs := [10]) (by kernel_rfl) (by simp) ?_
          refine AllReadyH.cons rfl (fun KK hKK => ?_) AllReadyH.nil
          go_simp
          have hsB := HK4.out _ (belA (belA (Below.refl wa.heap.size wa) (.cells (mtA K (fun _ => 0)) 3 (0, 0))) (.cells #[.int .i64 0, .slice none 0 0, .nilFunc] 84 (0, 0)))
          refine hKK.out _ _ hsB (fun _ => ?_)
          clear hKK KK
          generalize hV : ((wa.alloc (.cells (mtA K (fun _ => 0)) 3 (0, 0))).alloc (.cells #[.int .i64 0, .slice none 0 0, .nilFunc] 84 (0, 0))).drew = V
          have hvb : V.heap[wa.heap.size + 1]? = some (.cells #[.int .i64 0, .slice none 0 0, .nilFunc] 84 (0, 0)) := by rw [← hV]; exact alw_1 _ _ _
          have hvm : MET V (wa.heap.size) K (fun _ => 0) := by rw [← hV]; exact alw_0 _ _ _
          have hvB : Below wa.heap.size wa V := by rw [← hV]; exact (belA (belA (Below.refl _ _) _) _).drew
          clear hV hsA hsB
          have hsV := HK4.out V hvB
          obtain ⟨hvc, hvf⟩ := cells_block hvb
          have hs11 := HK4.out _ (((hvB.setCell (p := ⟨wa.heap.size + 1, 0, none⟩) (by show wa.heap.size ≤ wa.heap.size + 1; omega) (.int .i64 ((Mx : Int) - (nf : Int)))).setCell (p := ⟨wa.heap.size + 1, 1, none⟩) (by show wa.heap.size ≤ wa.heap.size + 1; omega) (.slice (some ⟨wa.heap.size, 0, none⟩) K K)).setCell (p := ⟨wa.heap.size + 1, 2, none⟩) (by show wa.heap.size ≤ wa.heap.size + 1; omega) (.func (.yield l) #[] #[]))
          refine wpAnyH_ready (rs := [11]) (by kernel_rfl) (by simp) ?_
          refine AllReadyH.cons rfl (fun KK hKK => ?_) AllReadyH.nil
          go_simp
          refine hKK.out _ _ hs11 (fun _ => ?_)
          clear hKK KK
          refine wpAnyH_done (by kernel_rfl) ?_ _
          go_wp2_with fail
          go_meet
          exact ⟨wa.heap.size + 1, wa.heap.size, rfl, put3w _ _ _ hvb, far3w _ _ _ hvm (by omega), ((hvB.setCell (p := ⟨wa.heap.size + 1, 0, none⟩) (by show wa.heap.size ≤ wa.heap.size + 1; omega) _).setCell (p := ⟨wa.heap.size + 1, 1, none⟩) (by show wa.heap.size ≤ wa.heap.size + 1; omega) _).setCell (p := ⟨wa.heap.size + 1, 2, none⟩) (by show wa.heap.size ≤ wa.heap.size + 1; omega) _, by omega, by omega, by omega⟩
        · go_simp
          have hsA := HK4.out _ (belA (Below.refl wa.heap.size wa) (.cells #[.int .i64 0, .slice none 0 0, .nilFunc] 84 (0, 0)))
          refine hKK.out _ _ hsA (fun _ => ?_)
          clear hKK KK
          refine wpAnyH_ready (rs := [7]) (by kernel_rfl) (by simp) ?_
          refine AllReadyH.cons rfl (fun KK hKK => ?_) AllReadyH.nil
          go_simp
          have hsB := HK4.out _ (belA (belA (Below.refl wa.heap.size wa) (.cells #[.int .i64 0, .slice none 0 0, .nilFunc] 84 (0, 0))) (.cells (mtA K (fun _ => 0)) 3 (0, 0)))
          refine hKK.out _ _ hsB (fun _ => ?_)
          clear hKK KK
          generalize hV : ((wa.alloc (.cells #[.int .i64 0, .slice none 0 0, .nilFunc] 84 (0, 0))).alloc (.cells (mtA K (fun _ => 0)) 3 (0, 0))).drew = V
          have hvb : V.heap[wa.heap.size]? = some (.cells #[.int .i64 0, .slice none 0 0, .nilFunc] 84 (0, 0)) := by rw [← hV]; exact alw_0 _ _ _
          have hvm : MET V (wa.heap.size + 1) K (fun _ => 0) := by rw [← hV]; exact alw_1 _ _ _
          have hvB : Below wa.heap.size wa V := by rw [← hV]; exact (belA (belA (Below.refl _ _) _) _).drew
          clear hV hsA hsB
          have hsV := HK4.out V hvB
          obtain ⟨hvc, hvf⟩ := cells_block hvb
          have hs11 := HK4.out _ (((hvB.setCell (p := ⟨wa.heap.size, 0, none⟩) (by show wa.heap.size ≤ wa.heap.size; omega) (.int .i64 ((Mx : Int) - (nf : Int)))).setCell (p := ⟨wa.heap.size, 1, none⟩) (by show wa.heap.size ≤ wa.heap.size; omega) (.slice (some ⟨wa.heap.size + 1, 0, none⟩) K K)).setCell (p := ⟨wa.heap.size, 2, none⟩) (by show wa.heap.size ≤ wa.heap.size; omega) (.func (.yield l) #[] #[]))
          refine wpAnyH_take (i := 9) (v := .agg #[.int .i64 ((Mx : Int) - (nf : Int)), .slice (some ⟨wa.heap.size + 1, 0, none⟩) K K, .func (.yield l) #[] #[]]) rfl (by kernel_rfl) (by kernel_rfl) (by kernel_rfl) (fun _ _ _ h => h) (Or.inl ⟨by rfl, ?_⟩) hsV ?_
          · rintro w ⟨s1, s2⟩; go_simp
          refine wpAnyH_ready (rs := [11]) (by kernel_rfl) (by simp) ?_
          refine AllReadyH.cons rfl (fun KK hKK => ?_) AllReadyH.nil
          go_simp
          refine hKK.out _ _ hs11 (fun _ => ?_)
          clear hKK KK
          refine wpAnyH_done (by kernel_rfl) ?_ _
          go_wp2_with fail
          go_meet
          exact ⟨wa.heap.size, wa.heap.size + 1, rfl, put3w _ _ _ hvb, far3w _ _ _ hvm (by omega), ((hvB.setCell (p := ⟨wa.heap.size, 0, none⟩) (by show wa.heap.size ≤ wa.heap.size; omega) _).setCell (p := ⟨wa.heap.size, 1, none⟩) (by show wa.heap.size ≤ wa.heap.size; omega) _).setCell (p := ⟨wa.heap.size, 2, none⟩) (by show wa.heap.size ≤ wa.heap.size; omega) _, by omega, by omega, by omega⟩
      case rest =>
        obtain ⟨bw, bm, rfl, HC⟩ := hcut
        rename World => wc
        clear hl4 hga4 HK4 hmk hwr1 hwr2
        have hBc : Below wr.heap.size wr wc := bel0 HA.out.1 HC.out.2.2.1
        have hcw := (cells_block HC.out.1).1
        have hct := (cells_block (keepblk3 HC.out.2.2.1 HA.out.2)).1
        have hNs := hJ.size _ _ _ HR.out.1
        have hws : wr.heap.size ≤ wa.heap.size := HA.out.1.size
        obtain ⟨hk1, hk2, hk3, hk4, hk5, hk6⟩ := HC.out
        obtain ⟨hl1, hl2, hl3, hl5, hl6, hl7, hl8⟩ := HL.out
        have hrl : ∀ k, r1 = some k → k < wr.heap.size := fun k hk => hJ.row _ _ _ _ HR.out.1 hk
        have hxl : ∀ k, X k → k < wr.heap.size := fun k hk => by have := hJ.low _ hk; omega
        have hex : ∀ lim : Nat, exE splT lim out (Ts.drop i) = if exO splT nf lim [c] L = true then exE splT lim (out ++ exT splT [c] L) (Ts.drop (i + 1)) else none := fun lim => by
          rw [HD.out, ← HOL.out]
          rfl
        have hdk : ∀ lim : Nat, dok splT ((lim : Int) - (nf : Int)) (fun _ => 0) [c] L ↔ exO splT nf lim [c] L = true := fun lim => dok_exO splT [c] L
        have hcp : (Mx : Int) - (nf : Int) ≤ 4096 ∨ dok splT 4096 (fun _ => 0) [c] L := by
          rcases HR.out.2.2.2 with h1 | ⟨R, h1⟩
          · left; omega
          · right
            rw [hex] at h1
            split at h1
            · rename_i h2
              exact dok_up ((hdk 2048).2 h2) (by omega)
            · cases h1
        have DOWN := down_any (room := (Mx : Int) - (nf : Int)) (K := K) (nf := nf) hJ hl5 (bm := bm) (by omega) (by omega) (by omega) L hl6 (by omega) c (fun _ => 0) out r1 q kl wc hl3 rfl (hJ.below _ _ _ _ HR.out.1 hBc) hk2 (fun e => by have := hrl _ e.symm; omega) (fun j _ => by show ((0 : Nat) : Int) ≤ (Mx : Int) - (nf : Int); omega) hcp (hl7.ofW hBc (by omega)) (by omega) (by have := HOL.out; omega) (by have h9 := HPA.out; rw [HD.out, flT_cons, ← List.append_assoc] at h9; exact List.IsPrefix.trans (List.prefix_append _ _) h9)
        rw [hl1] at DOWN
        have HDN : Hid (Calls Tryz.prog 35 #[.agg #[.int .i64 ((Mx : Int) - (nf : Int)), .slice (some ⟨bm, 0, none⟩) K K, .func (.yield l) #[] #[]], .agg #[.int .i64 (c.length : Int), .int .u64 (FW c 0 : Int), .int .u64 (FW c 1 : Int), .int .u64 (FW c 2 : Int), .int .u64 (FW c 3 : Int), .int .u64 (OW c 0 : Int), .int .u64 (OW c 1 : Int), .int .u64 (OW c 2 : Int), .int .u64 (OW c 3 : Int)], .slice q nl kl] wc (DP X J Jx bm K ((Mx : Int) - (nf : Int)) (fun _ => 0) c L out r1 wc)) := DOWN
        have hbx : ¬ XB X bm bw := by
          rintro (h1 | h1)
          · have := hxl _ h1; omega
          · omega
        have hbr : some bw ≠ r1 := fun e => by have := hrl _ e.symm; omega
        have HF : Hid (Below wr.heap.size wr wc ∧ wr.heap.size ≤ bm ∧ ¬ XB X bm bw ∧ some bw ≠ r1 ∧ (∀ lim : Nat, exE splT lim out (Ts.drop i) = if exO splT nf lim [c] L = true then exE splT lim (out ++ exT splT [c] L) (Ts.drop (i + 1)) else none) ∧ (∀ lim : Nat, dok splT ((lim : Int) - (nf : Int)) (fun _ => 0) [c] L ↔ exO splT nf lim [c] L = true)) := ⟨hBc, by omega, hbx, hbr, hex, hdk⟩
        clear hBc hNs hws hk1 hk2 hk3 hk4 hk5 hk6 hl1 hl2 hl3 hl5 hl6 hl7 hl8 hrl hxl hex hdk hcp DOWN hbx hbr hK1
        go_wp2_with fail
        refine HDN.out.mono ?_
        rintro e W9 (⟨ok, r9, rfl, hbr9, hy9, ⟨rfl, hdk, hj9, hm9⟩ | ⟨rfl, hx9⟩⟩ | ⟨rfl, hnd, o9, r9, hj9⟩)
        · have hyr : YK X r1 wr r9 W9 := YK.fresh (YK.below HF.out.1) hy9 HF.out.2.1
          have hcw9 := (cells_block (hy9.blk HC.out.1 HF.out.2.2.1 HF.out.2.2.2.1)).1
          obtain ⟨ne, hne⟩ : ∃ ne, (exT splT [c] L).length = ne := ⟨_, rfl⟩
          have hm0 : W9.cell? ⟨bm, 0, none⟩ = some (.int .i64 (ne : Int)) := by
            have h1 := (hm9.cell (j := 0) (by have := HL.out.2.1; omega)).1
            rw [h1, ← hne, ← lvl_zero, Nat.zero_add]
          have hxo := (HF.out.2.2.2.2.2 Mx).1 hdk
          have hlen := exO_len splT hxo
          rw [hne] at hlen
          have hK0 : (0 : Int) < (K : Int) := by have := HL.out.2.1; omega
          have hwr3 : IntKind.i64.wrap ((nf : Int) + (ne : Int)) = (nf : Int) + (ne : Int) := by rw [IntKind.wrap_i64]; omega
          have hnf3 : nf + ne ≤ 2048 := by
            rcases HR.out.2.2.2 with h1 | ⟨R, h1⟩
            · omega
            · rw [HF.out.2.2.2.2.1] at h1
              split at h1
              · rename_i h2
                have := exO_len splT h2
                rw [hne] at this
                exact this
              · cases h1
          have HZ : Hid (∃ r1 o1, (o1 ++ flT (Ts.drop (i + 1))) <+: A ∧ o1.length = nf + ne ∧ J o1 r1 W9 ∧ YK X r W r1 W9 ∧ exE splT Mx [] Ts = exE splT Mx o1 (Ts.drop (i + 1)) ∧ (Mx ≤ 2048 ∨ ∃ R, exE splT 2048 o1 (Ts.drop (i + 1)) = some R)) := by
            refine ⟨r9, out ++ exT splT [c] L, (by have h9 := HPA.out; rw [HD.out, flT_cons, ← List.append_assoc] at h9; exact h9), ?_, hj9, HR.out.2.1.trans hyr, ?_, ?_⟩
            · rw [List.length_append, HOL.out, hne]
            · rw [HR.out.2.2.1, HF.out.2.2.2.2.1, if_pos hxo]
            · rcases HR.out.2.2.2 with h1 | ⟨R, h1⟩
              · exact .inl h1
              · right
                rw [HF.out.2.2.2.2.1] at h1
                split at h1
                · exact ⟨R, h1⟩
                · cases h1
          clear hyr hy9 hm9 hj9 hdk hxo hne hct hcw HDN HC HF HL HA HD HOL HR
          go_wp2_with fail
          go_roundw
          case rel => exact ⟨i + 1, nf + ne, by go_num, by go_num, by omega, hlen, hnf3, HZ⟩
          case measure => simp [intOf]; omega
        · clear hy9 hct hcw HDN HC HF HL HA HD HOL HR
          go_wp2_with fail
          refine bodyPost_ret (results_none rfl _ _ _) rfl ?_
          exact .inr (.inl ⟨_, rfl, hx9⟩)
        · refine ⟨rfl, .inr (.inr ⟨rfl, ?_, o9, r9, hj9⟩)⟩
          rw [HR.out.2.2.1, HF.out.2.2.2.2.1, if_neg (fun h1 => hnd ((HF.out.2.2.2.2.2 Mx).2 h1))]
    · have i1 : ¬ (i : Int) < (n : Int) := by omega
      obtain rfl : i = n := by omega
      have HZ : Hid (∃ R, exE splT Mx [] Ts = some R ∧ J R r1 wr) := by
        refine ⟨out, ?_, HR.out.1⟩
        have e : Ts.drop i = [] := List.drop_of_length_le (by rw [← HT.out.1, List.length_map, HT.out.2]; exact Nat.le_refl _)
        rw [HR.out.2.2.1, e]
        rfl
      go_wp2_with fail
      go_end0
      obtain ⟨R, h1, h2⟩ := HZ.out
      exact .inl ⟨_, r1, R, rfl, h1, h2⟩
end Go.Proofs.YtecgjlpmmailjaaGreatDoor
