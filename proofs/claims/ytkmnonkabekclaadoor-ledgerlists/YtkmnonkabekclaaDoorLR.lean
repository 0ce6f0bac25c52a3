import Derived.Test.YtkmnonkabekclaaDoorLQ
namespace Go.Proofs.YtkmnonkabekclaaDoor
open Go.RowKit Go.Shelf
theorem alw1 (w : World) (a b : Obj) : ((w.alloc a).alloc b).heap[w.heap.size]? = some a := by
  show ((w.heap.push a).push b)[w.heap.size]? = _
  simp [Array.getElem?_push]
theorem XW_start (w : World) (S : Nat) (D : List UInt8) (p : Option Addr) (n c : Nat) (R : Loop) (hS : w.heap.size = S) :
    XW w S D p n c R 0 (((((w.alloc (.cells #[.slice none 0 0] 40 (0, 0))).alloc (.cells #[.int .i64 0] 3 (0, 0))).alloc (.cells #[.slice p n c] 31 (0, 0))).alloc (.deferred (some []))).alloc (.loop R)) := by
  subst hS
  obtain ⟨w1, e1⟩ : ∃ w1, w.alloc (.cells #[.slice none 0 0] 40 (0, 0)) = w1 := ⟨_, rfl⟩
  have z1 : w1.heap.size = w.heap.size + 1 := by rw [← e1]; simp
  have g1 : w1.heap[w.heap.size]? = some (.cells #[.slice none 0 0] 40 (0, 0)) := by rw [← e1]; exact alloc_getZ _ _
  have b1 : Below w.heap.size w w1 := by rw [← e1]; exact belAZ (Below.refl _ _) _
  obtain ⟨w2, e2⟩ : ∃ w2, w1.alloc (.cells #[.int .i64 0] 3 (0, 0)) = w2 := ⟨_, rfl⟩
  have z2 : w2.heap.size = w.heap.size + 2 := by rw [← e2]; simp [z1]
  have g2 : w2.heap[w.heap.size + 1]? = some (.cells #[.int .i64 0] 3 (0, 0)) := by rw [← e2, ← z1]; exact alloc_getZ _ _
  have c2 : Below w1.heap.size w1 w2 := by rw [← e2]; exact belAZ (Below.refl _ _) _
  obtain ⟨w3, e3⟩ : ∃ w3, w2.alloc (.cells #[.slice p n c] 31 (0, 0)) = w3 := ⟨_, rfl⟩
  have z3 : w3.heap.size = w.heap.size + 3 := by rw [← e3]; simp [z2]
  have g3 : w3.heap[w.heap.size + 2]? = some (.cells #[.slice p n c] 31 (0, 0)) := by rw [← e3, ← z2]; exact alloc_getZ _ _
  have c3 : Below w2.heap.size w2 w3 := by rw [← e3]; exact belAZ (Below.refl _ _) _
  obtain ⟨w4, e4⟩ : ∃ w4, w3.alloc (.deferred (some [])) = w4 := ⟨_, rfl⟩
  have z4 : w4.heap.size = w.heap.size + 4 := by rw [← e4]; simp [z3]
  have g4 : w4.heap[w.heap.size + 3]? = some (.deferred (some [])) := by rw [← e4, ← z3]; exact alloc_getZ _ _
  have c4 : Below w3.heap.size w3 w4 := by rw [← e4]; exact belAZ (Below.refl _ _) _
  obtain ⟨w5, e5⟩ : ∃ w5, w4.alloc (.loop R) = w5 := ⟨_, rfl⟩
  have g5 : w5.heap[w.heap.size + 4]? = some (.loop R) := by rw [← e5, ← z4]; exact alloc_getZ _ _
  have c5 : Below w4.heap.size w4 w5 := by rw [← e5]; exact belAZ (Below.refl _ _) _
  rw [e1, e2, e3, e4, e5]
  refine ⟨⟨_, keepZ c5 (keepZ c4 (keepZ c3 (keepZ c2 g1))), World.ownsRow_nil _ _ _ _⟩, keepZ c5 (keepZ c4 (keepZ c3 g2)), keepZ c5 (keepZ c4 g3), keepZ c5 g4, g5, bel0Z (bel0Z (bel0Z (bel0Z b1 c2) c3) c4) c5, rfl⟩
theorem done_beZ {w W : World} {S : Nat} (hS : w.heap.size = S) (h : Below S w W) (k : Nat) (hk : S ≤ k) : Below w.heap.size w (W.putObj k (.deferred none)) := by
  subst hS
  exact h.grown (grownBy_putObj' W k _) h.size (fun x e => by cases e; exact hk)
/-- what Whole answers -/
def WHQ (D : List UInt8) (w : World) (e : Ending) (w' : World) : Prop :=
  ∃ v, e = .returned (.tuple #[v, .int .i64 (plc D (whL 1 D).length : Int), .int .i64 (whE 1 D : Int)]) ∧ OR w' w.heap.size v (whL 1 D) ∧ Below w.heap.size w w'
theorem res_wh (tmps : Array Value) (W : World) (x y z : Value) (h : tmps[2]?.getD undef = x ∧ tmps[3]?.getD undef = y ∧ tmps[4]?.getD undef = z) : (results Tryd.f15 tmps).run Tryd.prog W = .ok (.tuple #[x, y, z]) W := by
  simp [results, h.1, h.2.1, h.2.2, go_sem]
attribute [local go_sem] Oper.semAt_some
set_option maxRecDepth 100000 in
set_option maxHeartbeats 16000000 in
theorem whole_any (D : List UInt8) (p : Option Addr) (n c : Nat) (w : World) (hn : D.length = n) (hL : n ≤ 100000000) (hc : n ≤ c) (hr : BR w p D) :
    Calls Tryd.prog 15 #[.slice p n c] w (WHQ D w) := by
  obtain ⟨i0, hi, hz0, hz1, hz2⟩ := info_parts info_rec
  have HN : Hid (D.length = n) := hn
  have HR : Hid (BR w p D) := hr
  clear hn hr
  refine (callsIn_wide (n := 4)).1 ?_
  refine callsIn_of_wp_marks Tryd.func15 rfl trivial ?_ rfl
  simp only [Tryd.ntmps15, List.size_toArray, List.length_cons, List.length_nil, Nat.reduceAdd, Nat.reduceSub, Array.replicate_succ, Array.replicate_zero, List.push_toArray, List.append_toArray, List.nil_append, List.cons_append]
  gi_wp2_with (refine ⟨trivial, ?_⟩; gi_at_call 32; refine (callsIn_wide.2 (walk_any p n c _)).mono ?_; rintro e w' ⟨rfl, rfl⟩)
  refine range_by rfl (by omega) (gf := 40) (lb := #[.pointer (some ⟨w.heap.size + 1 + 1, 0, none⟩)]) rfl trivial (enters_of Tryd.func40 (by kernel_rfl) rfl) ?_
  intro fn hfn
  obtain ⟨S, hS⟩ : ∃ S, w.heap.size = S := ⟨_, rfl⟩
  have Hs : Hid (w.heap.size = S) := hS
  simp only [World.size_alloc, hS]
  generalize hR : recOf fn _ _ _ _ _ = R
  have rs : R.state = .ready := by rw [← hR]; rfl
  have rp : R.pending = none := by rw [← hR]; rfl
  have rf : R.fn = fn := by rw [← hR]; rfl
  have rq : R.params = #[11, 12] := by rw [← hR]; rfl
  have q0 := XW_start w S D p n c R hS
  obtain ⟨W0, hW0⟩ : ∃ W0, (((((w.alloc (.cells #[.slice none 0 0] 40 (0, 0))).alloc (.cells #[.int .i64 0] 3 (0, 0))).alloc (.cells #[.slice p n c] 31 (0, 0))).alloc (.deferred (some []))).alloc (.loop R)) = W0 := ⟨_, rfl⟩
  rw [hW0] at q0
  have HB : ∀ k r W, (whL 1 D)[k]? = some r → XW w S D p n c R k W → YieldAt Fence.wide 2 Tryd.prog (S + 1 + 1 + 1 + 1) #[.int .i64 (plc D k : Int), rcV r] W fun e W' => (e = .returned (.bool true) ∧ XW w S D p n c R (k + 1) W') ∨ (e = .returned (.bool false) ∧ False) := by
    intro k r W hkr q
    have hk : k < (whL 1 D).length := (List.getElem?_eq_some_iff.1 hkr).1
    have hpl : plc D (k + 1) = plc D k + (r.text.length + 20) := by
      unfold plc
      rw [List.take_add_one, hkr, whB_app]
      simp [whB]
    have hple := plc_le (D := D) (k := k + 1) (by omega)
    rw [HN.out] at hple
    have hkn : k ≤ 100000000 := by have h5 := plc_len (D := D) (k := k + 1) (by omega); omega
    have htk : (whL 1 D).take (k + 1) = (whL 1 D).take k ++ [r] := by rw [List.take_add_one, hkr]; rfl
    obtain ⟨rs1, rk1, rt1⟩ := r
    simp only [rcV]
    obtain ⟨W1, hW1⟩ : ∃ W1, W.alloc (.cells #[.int .i64 (rs1 : Int), .int .i64 (rk1 : Int), .string ⟨rt1.toArray⟩] 35 (0, 0)) = W1 := ⟨_, rfl⟩
    have hB1 : Below W.heap.size W W1 := by rw [← hW1]; exact belAZ (Below.refl _ _) _
    have hg1 : W1.heap[W.heap.size]? = some (.cells #[.int .i64 (rs1 : Int), .int .i64 (rk1 : Int), .string ⟨rt1.toArray⟩] 35 (0, 0)) := by rw [← hW1]; exact alloc_getZ _ _
    have q1 := q.below hB1
    have qb := q1.loop { R with state := .busy }
    refine (round_byA (F := Fence.wide) (m := 2) (In := fun W' => XW w S D p n c R (k + 1) W') (Out := fun _ _ => False) (by rw [rf]; exact hfn) q.a4 rs rp (by rw [rq]; rfl) ?a1 W1 q1.a4 ?has ?hb).mono ?_
    case has =>
      intro K hK
      rw [congrArg Loop.assign hR.symm, rq, congrArg Loop.tmps hR.symm]
      simp only [recOf]
      gi_wp2
      exact hK
    case hb =>
      have hlW : S + 1 + 1 + 1 + 1 < W.heap.size := lt_getZ q.a4
      have hgb : (W1.putObj (S + 1 + 1 + 1 + 1) (.loop { R with state := .busy })).heap[W.heap.size]? = some (.cells #[.int .i64 (rs1 : Int), .int .i64 (rk1 : Int), .string ⟨rt1.toArray⟩] 35 (0, 0)) := put_otherZ hg1 (by omega)
      obtain ⟨V, hV⟩ : ∃ V, W1.putObj (S + 1 + 1 + 1 + 1) (.loop { R with state := .busy }) = V := ⟨_, rfl⟩
      obtain ⟨v, e1W, owW⟩ := q.bx
      have hvW : ∀ j, v.ownBlock = some j → S + 1 + 1 + 1 + 1 + 1 ≤ j ∧ j < W.heap.size := fun j e => World.ownsRow.lt owW j e
      have e1 : V.heap[S]? = some (.cells #[v] 40 (0, 0)) := by rw [← hV]; exact put_otherZ (keepZ hB1 e1W) (by omega)
      have ow : OR V (S + 1 + 1 + 1 + 1 + 1) v ((whL 1 D).take k) := by
        rw [← hV]
        exact World.ownsRow.kept (owW.below hB1) (grownBy_putObj' _ _ _) (.inr (fun e => by have := (hvW _ e).1; omega))
      rw [hV] at qb hgb ⊢
      rw [congrArg Loop.body hR.symm]
      simp only [recOf]
      clear hV e1W owW
      obtain ⟨-, bn, bd, k3, k4, be, sz⟩ := qb
      have hltk : ((whL 1 D).take k).length = k := by rw [List.length_take]; omega
      obtain ⟨pv, cv, rfl⟩ := ow.shape
      unfold OR at ow
      rw [hltk] at ow e1 hvW
      have HTK : Hid (((whL 1 D).take k).length = k ∧ (whL 1 D).take (k + 1) = (whL 1 D).take k ++ [⟨rs1, rk1, rt1⟩]) := ⟨hltk, htk⟩
      clear hltk htk
      have hsV := lt_getZ k4
      have hWV : W.heap.size < V.heap.size := lt_getZ hgb
      have c5 := (cellsZ e1).1 0
      obtain ⟨d0, d1, d2⟩ := RBX_new hgb
      have HQ : Hid (V.heap[S]? = some (.cells #[.slice pv k cv] 40 (0, 0)) ∧ V.heap[S + 1]? = some (.cells #[.int .i64 (plc D k : Int)] 3 (0, 0)) ∧ V.heap[S + 1 + 1]? = some (.cells #[.slice p n c] 31 (0, 0)) ∧ V.heap[S + 1 + 1 + 1 + 1]? = some (.loop { R with state := .busy }) ∧ V.heap[S + 1 + 1 + 1]? = some (.deferred (some [])) ∧ Below S w V ∧ V.heap[W.heap.size]? = some (.cells #[.int .i64 (rs1 : Int), .int .i64 (rk1 : Int), .string ⟨rt1.toArray⟩] 35 (0, 0))) := ⟨e1, bn, bd, k4, k3, be, hgb⟩
      have HVW : Hid (∀ j, Value.ownBlock (.slice pv k cv) = some j → S + 1 + 1 + 1 + 1 + 1 ≤ j ∧ j < W.heap.size) := hvW
      clear e1 k4 k3 be bn bd hgb hvW
      obtain ⟨a, ha⟩ : ∃ a, plc D k = a := ⟨_, rfl⟩
      have HA : Hid (plc D k = a ∧ plc D (k + 1) = a + (rt1.length + 20)) := ⟨ha, by rw [hpl, ha]⟩
      have hab : a + (rt1.length + 20) ≤ n := by rw [← ha, ← hpl]; exact hple
      rw [ha] at HQ ⊢
      clear ha hpl hple
      gi_wp2_with (gi_at_builtin; refine wpListIn_append_own_at _ rfl _ _ 40 rfl (S + 1 + 1 + 1 + 1 + 1) 35 i0 _ 3 32 Tryd.underlying40 hi hz0 hz1 hz2 rfl (by decide) _ _ _ rfl (ow.alloc _) ⟨V.heap.size, 0, none⟩ 1 1 [.int .i64 (rs1 : Int), .int .i64 (rk1 : Int), .string ⟨rt1.toArray⟩] rfl rfl (World.news_of_block (cs := #[.int .i64 (rs1 : Int), .int .i64 (rk1 : Int), .string ⟨rt1.toArray⟩]) (t := 35) (fr := (0, 0)) (alloc_getZ _ _)) (by simp [Value.oneCell']) (by unfold maxLen; omega) (by omega) (by simp; omega) ?_)
      intro v4 w4 o4 g4 _ hob
      obtain ⟨p4, c4, rfl⟩ := shapeZ o4
      have hkeep : ∀ j, j < S + 1 + 1 + 1 + 1 + 1 ∨ j = W.heap.size → j < V.heap.size → w4.heap[j]? = V.heap[j]? := fun j hj hjV => (g4.block j (by simp; omega) (fun e => by have := HVW.out j e.symm; omega)).trans (Below.heap_alloc _ _ _ hjV)
      obtain ⟨f1, f2, f3, f4, f5, f6, f7⟩ := HQ.out
      have k1 := (hkeep S (.inl (by omega)) (by omega)).trans f1
      have k2 := (hkeep (S + 1) (.inl (by omega)) (by omega)).trans f2
      have k3 := (hkeep (S + 1 + 1) (.inl (by omega)) (by omega)).trans f3
      have k4 := (hkeep (S + 1 + 1 + 1 + 1) (.inl (by omega)) (by omega)).trans f4
      have k5 := (hkeep (S + 1 + 1 + 1) (.inl (by omega)) (by omega)).trans f5
      have k7 := (hkeep W.heap.size (.inr rfl) (by omega)).trans f7
      have k6 : Below S w w4 := (f6.alloc (by omega) _).grown g4 (by simp; omega) (fun j e => by have := HVW.out j e; omega)
      have k0 := (cellsZ k1).1 0
      have k0f := (cellsZ k1).2 0
      obtain ⟨w5, hw5⟩ : ∃ w5, w4.setCell ⟨S, 0, none⟩ (.slice p4 (k + 1) c4) = w5 := ⟨_, rfl⟩
      have ot5 : ∀ j, j ≠ S → w5.heap[j]? = w4.heap[j]? := fun j hj => by rw [← hw5]; exact Below.heap_setCell _ _ _ _ hj
      have m1 : w5.heap[S]? = some (.cells #[.slice p4 (k + 1) c4] 40 (0, 0)) := by rw [← hw5, set_getZ _ k1]; rfl
      have m2 := (ot5 (S + 1) (by omega)).trans k2
      have m7 := (ot5 W.heap.size (by omega)).trans k7
      have n1 := (cellsZ m2).1 0
      have n1f := (cellsZ m2).2 0
      obtain ⟨t0, t1, t2⟩ := RBX_new m7
      gi_wp2
      obtain ⟨w6, hw6⟩ : ∃ w6, w5.setCell ⟨S + 1, 0, none⟩ (.int .i64 ((a : Int) + 20 + (rt1.length : Int))) = w6 := ⟨_, rfl⟩
      have ot6 : ∀ j, j ≠ S + 1 → w6.heap[j]? = w5.heap[j]? := fun j hj => by rw [← hw6]; exact Below.heap_setCell _ _ _ _ hj
      have r2 : w6.heap[S + 1]? = some (.cells #[.int .i64 ((a : Int) + 20 + (rt1.length : Int))] 3 (0, 0)) := by rw [← hw6, set_getZ _ m2]; rfl
      have qx : XW w S D p n c { R with state := .busy } (k + 1) w6 := by
        refine ⟨⟨_, (ot6 S (by omega)).trans m1, ?_⟩, ?_, (ot6 _ (by omega)).trans ((ot5 _ (by omega)).trans k3), (ot6 _ (by omega)).trans ((ot5 _ (by omega)).trans k5), (ot6 _ (by omega)).trans ((ot5 _ (by omega)).trans k4), ?_, sz⟩
        · have h4 : OR w4 (S + 1 + 1 + 1 + 1 + 1) (.slice p4 (k + 1) c4) ((whL 1 D).take (k + 1)) := by
            unfold OR
            rw [HTK.out.2, rcs_snoc, List.length_append, HTK.out.1]
            exact o4
          have h5 : OR w5 (S + 1 + 1 + 1 + 1 + 1) (.slice p4 (k + 1) c4) ((whL 1 D).take (k + 1)) := by
            rw [← hw5]
            exact World.ownsRow.kept h4 (gr_setZ w4 S 0 _) (.inr (fun e => by have := (World.ownsRow.lt h4 _ e).1; omega))
          rw [← hw6]
          exact World.ownsRow.kept h5 (gr_setZ w5 (S + 1) 0 _) (.inr (fun e => by have := (World.ownsRow.lt h5 _ e).1; omega))
        · rw [r2, HA.out.2]
          rw [show ((a : Int) + 20 + (rt1.length : Int)) = ((a + (rt1.length + 20) : Nat) : Int) by omega]
        · rw [← hw6, ← hw5]
          exact (k6.setCell (p := ⟨S, 0, none⟩) (Nat.le_refl _) _).setCell (p := ⟨S + 1, 0, none⟩) (Nat.le_succ _) _
      rw [hw6]
      exact ⟨qx.a4, qx.loop R⟩
    rintro e W' (⟨he, h1⟩ | ⟨he, c, h⟩)
    · exact .inl ⟨he, h1⟩
    · exact h.elim
  have hgo := walk1_in 3 (by omega) (S + 1 + 1 + 1 + 1) (S + 1 + 1) D p n c HN.out hL hc (XW w S D p n c R) (fun _ => False) W0 (fun k W W' h hb => h.below hb) (fun k W h => ⟨(cellsZ h.bd).1 0, HR.out.below (by have := h.be; rw [← hS] at this; exact this)⟩) HB q0
  rw [hW0]
  refine hgo.mono ?_
  rintro e W ⟨⟨v, rfl⟩, q | hf⟩
  · refine ⟨⟨v, rfl⟩, R, q.a4, (fun e => by rw [rs] at e; cases e), .inl ⟨rp, ?_⟩⟩
    have q2 := q.loop { R with state := .exhausted }
    obtain ⟨V, hV⟩ : ∃ V, W.putObj (S + 1 + 1 + 1 + 1) (.loop { R with state := .exhausted }) = V := ⟨_, rfl⟩
    rw [hV] at q2 ⊢
    clear hV
    obtain ⟨⟨v2, e1, ow⟩, bn, bd, k3, k4, be, sz⟩ := q2
    rw [List.take_length] at ow
    obtain ⟨pv, cv, rfl⟩ := ow.shape
    have BV : Hid (Below w.heap.size w V) := by rw [hS]; exact be
    have HO : Hid (OR V (S + 1 + 1 + 1 + 1 + 1) (.slice pv (whL 1 D).length cv) (whL 1 D)) := ow
    have HWY : Hid (∀ U, Below V.heap.size V U → Calls Tryd.prog 33 #[.slice p n c, .int .i64 (plc D (whL 1 D).length : Int)] U fun e w' => e = .returned (.int .i64 (whE 1 D : Int)) ∧ Below U.heap.size U w') := fun U hU => why_any D p n c U HN.out hL hc (HR.out.below (bel0Z BV.out hU))
    have HCL : Hid (∀ U, Below V.heap.size V U → U.cell? ⟨S, 0, none⟩ = some (.slice pv (whL 1 D).length cv) ∧ U.cell? ⟨S + 1, 0, none⟩ = some (.int .i64 (plc D (whL 1 D).length : Int))) := fun U hU => ⟨(cellsZ (keepZ hU e1)).1 0, (cellsZ (keepZ hU bn)).1 0⟩
    have HK3 : Hid (V.heap[S + 1 + 1 + 1]? = some (.deferred (some []))) := k3
    have s0 : Below V.heap.size V V.drew := (Below.refl _ _).drew
    clear e1 ow bn bd k3 k4 be q hW0 q0 HB hgo
    gi_wp2
    refine (wpIn_wide (n := 4)).2 ?_
    refine wp_region_noPanic ?_
    refine wp_region_held_drew (S := fun U => Below V.heap.size V U) (by kernel_rfl) s0 (fun _ => ?_)
    refine wpAnyH_take (i := 0) (v := .slice pv (whL 1 D).length cv) rfl (by kernel_rfl) (by kernel_rfl) (by kernel_rfl) (fun _ _ _ h => h) (Or.inl ⟨by rfl, ?_⟩) s0 ?_
    · rintro w0 s9; have z0 := (HCL.out w0 s9).1; go_simp
    refine wpAnyH_take (i := 1) (v := .int .i64 (plc D (whL 1 D).length : Int)) rfl (by kernel_rfl) (by kernel_rfl) (by kernel_rfl) (fun _ _ _ h => h) (Or.inl ⟨by rfl, ?_⟩) s0 ?_
    · rintro w0 s9; have z0 := (HCL.out w0 s9).2; go_simp
    refine wpAnyH_take (i := 2) (v := .slice p n c) rfl (by kernel_rfl) (by kernel_rfl) (by kernel_rfl) (fun _ _ _ h => h) (Or.inl ⟨by rfl, ?_⟩) s0 ?_
    · rintro w0 s9; go_simp
    refine wpAnyH_take (i := 3) (v := .int .i64 (plc D (whL 1 D).length : Int)) rfl (by kernel_rfl) (by kernel_rfl) (by kernel_rfl) (fun _ _ _ h => h) (Or.inl ⟨by rfl, ?_⟩) s0 ?_
    · rintro w0 s9; have z0 := (HCL.out w0 s9).2; go_simp
    refine wpAnyH_ready (rs := [4]) (by kernel_rfl) (by simp) ?_
    refine AllReadyH.cons rfl (fun KK hKK => ?_) AllReadyH.nil
    go_simp
    refine (HWY.out _ s0).mono ?_
    rintro e w7 ⟨rfl, hb7⟩
    have hs7 : Below V.heap.size V w7 := bel0Z s0 hb7
    go_simp
    refine hKK.out _ _ hs7 (fun _ => ?_)
    clear hKK KK
    refine wpAnyH_take (i := 5) (v := .slice pv (whL 1 D).length cv) rfl (by kernel_rfl) (by kernel_rfl) (by kernel_rfl) (fun _ _ _ h => h) (Or.inl ⟨by rfl, ?_⟩) hs7 ?_
    · rintro w0 s9; go_simp
    refine wpAnyH_take (i := 6) (v := .int .i64 (plc D (whL 1 D).length : Int)) rfl (by kernel_rfl) (by kernel_rfl) (by kernel_rfl) (fun _ _ _ h => h) (Or.inl ⟨by rfl, ?_⟩) hs7 ?_
    · rintro w0 s9; go_simp
    refine wpAnyH_ready (rs := [7]) (by kernel_rfl) (by simp) ?_
    refine AllReadyH.cons rfl (fun KK hKK => ?_) AllReadyH.nil
    go_simp
    refine hKK.out _ _ hs7 (fun _ => ?_)
    clear hKK KK
    refine wpAnyH_done (by kernel_rfl) ?_ _
    refine NoPanic.normal ?_
    gi_wp2
    refine ⟨by simp, .inl ⟨_, _, rfl, run_takeDeferred (keepZ hs7 HK3.out), ?_⟩⟩
    refine ⟨_, res_wh _ _ _ _ _ ⟨rfl, rfl, rfl⟩, ?_⟩
    have hB7 : Below S w w7 := by have := bel0Z BV.out hs7; rw [hS] at this; exact this
    refine ⟨_, rfl, ?_, done_beZ Hs.out hB7 _ (by omega)⟩
    have h7 := HO.out.below hs7
    have h8 : OR (w7.putObj (S + 1 + 1 + 1) (.deferred none)) (S + 1 + 1 + 1 + 1 + 1) (.slice pv (whL 1 D).length cv) (whL 1 D) := World.ownsRow.kept h7 (grownBy_putObj' _ _ _) (.inr (fun e => by have := (World.ownsRow.lt h7 _ e).1; omega))
    exact h8.base (by have := Hs.out; omega)
  · exact hf.elim
end Go.Proofs.YtkmnonkabekclaaDoor
