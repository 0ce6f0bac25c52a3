import Derived.Test.YtecgjlpmmailjaaGreatDoorXE1
namespace Go.Proofs.YtecgjlpmmailjaaGreatDoor
open Go.RowKit
theorem off_box {W : World} {B b : Nat} {v : Value} {L : List (List UInt8)} {cs : Array Value} {m : Nat × Nat} (h : OWC W B v L) (hb : W.heap[b]? = some (.cells cs 39 m)) : v.ownBlock ≠ some b := by
  intro e
  rcases h.2 with ⟨rfl, _⟩ | ⟨g, c, cur, rfl, _, hg, _⟩
  · cases e
  · have : g = b := by injection e
    subst this
    rw [hb] at hg
    injection hg with hg
    injection hg with _ hg _
    exact absurd hg (by decide)
theorem GRK.off {W : World} {B N2 b : Nat} {v G : Value} {A S : List (List UInt8)} {cs : Array Value} {m : Nat × Nat} (h : GRK W B N2 v A G S) (hb : W.heap[b]? = some (.cells cs 39 m)) : G.ownBlock ≠ some b := by
  rcases h with ⟨g, c, rfl, rfl, o⟩ | ⟨o, -⟩
  · exact off_box o hb
  · exact off_box o hb
theorem mks_set (m : Nat) (A : List (List UInt8)) {k n : Nat} (hA : A.length = n) (hk : k < n) : (mks m k ++ A.drop k).set k (mkC m k) = mks m (k + 1) ++ A.drop (k + 1) := by
  have e : A.drop k = A[k]'(by omega) :: A.drop (k + 1) := List.drop_eq_getElem_cons (by omega)
  rw [e, List.set_append_right _ _ (by rw [mks_len]; exact Nat.le_refl _), mks_len, Nat.sub_self]
  have e2 : mks m (k + 1) = mks m k ++ [mkC m k] := by simp [mks, List.range_succ]
  rw [e2, List.append_assoc]
  rfl
set_option maxRecDepth 100000 in
set_option maxHeartbeats 8000000 in
theorem write_any (v : Value) (A : List (List UInt8)) (m n B : Nat) (sd : List UInt8) (W : World) (h : OWC W B v A) (hn : A.length = n) (hm : m ≤ 1000) (hn2 : n ≤ 4096) :
    Calls Tryz.prog 9 #[.agg #[v, .slice none 0 0, .int .i64 (m : Int), .string ⟨sd.toArray⟩]] W fun e w' => (∃ u, e = .returned u) ∧ OWC w' B v (mks m n) ∧ W.grownBy w' v.ownBlock := by
  obtain ⟨p, c, rfl⟩ := shapeQ1 h
  rw [hn] at h ⊢
  obtain ⟨b, hb⟩ : ∃ b, W.heap.size = b := ⟨_, rfl⟩
  have kB := alloc_get W (.cells #[.slice p n c, .slice none 0 0, .int .i64 (m : Int), .string ⟨sd.toArray⟩] 39 (0, 0))
  rw [hb] at kB
  have HS : Hid (OWC (W.alloc (.cells #[.slice p n c, .slice none 0 0, .int .i64 (m : Int), .string ⟨sd.toArray⟩] 39 (0, 0))) B (.slice p n c) (mks m 0 ++ A.drop 0) ∧ W.grownBy (W.alloc (.cells #[.slice p n c, .slice none 0 0, .int .i64 (m : Int), .string ⟨sd.toArray⟩] 39 (0, 0))) (Value.slice p n c).ownBlock) := ⟨OWC.below h (belA (Below.refl _ _) _), below_grown (belA (Below.refl _ _) _) _⟩
  have HL : Hid (A.length = n ∧ W.heap.size = b ∧ ∀ g, p = some ⟨g, 0, none⟩ → g < b) := ⟨hn, hb, fun g e => by rw [← hb]; exact (OWC.lt h g (by rw [e]; rfl)).2⟩
  have hc0 := (cells_block kB).1
  clear h hn
  go_enter Tryz.func9, Tryz.ntmps9
  go_wp2_with fail

  go_loopw [2] (fun v2 wr => ∃ (k : Nat), v2 = .int .i64 (k : Int) ∧ k ≤ n ∧ Hid (wr.heap[b]? = some (.cells #[.slice p n c, .slice none 0 0, .int .i64 (m : Int), .string ⟨sd.toArray⟩] 39 (0, 0)) ∧ OWC wr B (.slice p n c) (mks m k ++ A.drop k) ∧ W.grownBy wr (Value.slice p n c).ownBlock)) (fun v2 _ => n - (intOf v2).toNat)
  case atStart => exact ⟨0, rfl, Nat.zero_le _, kB, HS.out.1, HS.out.2⟩
  case round =>
    clear hc0 kB HS
    obtain ⟨k, rfl, hk, HR⟩ := hrel
    have hc0 := (cells_block HR.out.1).1
    by_cases hlt : k < n
    · have j1 : (k : Int) < (n : Int) := by omega
      have j0 : (0 : Int) ≤ (k : Int) := by omega
      obtain ⟨K, hK⟩ : ∃ K, mks m k ++ A.drop k = K := ⟨_, rfl⟩
      have hKl : K.length = n := by rw [← hK, List.length_append, mks_len, List.length_drop, HL.out.1]; omega
      have hKs := mks_set m A (k := k) HL.out.1 hlt
      obtain ⟨h1, h2, h3⟩ := HR.out
      rw [hK] at h2 hKs
      have h2' : wr.ownsRow B 58 9 (.slice p n c) n (ces K) := by
        have := h2
        unfold OWC at this
        rw [hKl] at this
        exact this
      obtain ⟨g, rfl⟩ : ∃ g, p = some ⟨g, 0, none⟩ := by
        rcases own_shapeQ h2' with ⟨e, hz⟩ | ⟨g, c', e, -⟩
        · omega
        · exact ⟨g, by injection e⟩
      have hgb := HL.out.2.2 g rfl
      obtain ⟨M, hM⟩ : ∃ M, mkC m k = M := ⟨_, rfl⟩
      rw [hM] at hKs
      have HMK : Hid (∀ U, Calls Tryz.prog 24 #[.int .i64 (m : Int), .int .i64 (k : Int)] U fun e w' => e = .returned (.agg #[.int .i64 (M.length : Int), .int .u64 (FW M 0 : Int), .int .u64 (FW M 1 : Int), .int .u64 (FW M 2 : Int), .int .u64 (FW M 3 : Int), .int .u64 (OW M 0 : Int), .int .u64 (OW M 1 : Int), .int .u64 (OW M 2 : Int), .int .u64 (OW M 3 : Int)]) ∧ Below U.heap.size U w') := fun U => by
        have := mark_any m k U hm (by omega)
        rw [hM] at this
        exact this
      have HO : Hid (wr.heap[b]? = some (.cells #[.slice (some ⟨g, 0, none⟩) n c, .slice none 0 0, .int .i64 (m : Int), .string ⟨sd.toArray⟩] 39 (0, 0)) ∧ wr.ownsRow B 58 9 (.slice (some ⟨g, 0, none⟩) n c) n (ces K) ∧ W.grownBy wr (some g) ∧ K.length = n ∧ K.set k M = mks m (k + 1) ++ A.drop (k + 1)) := ⟨h1, h2', h3, hKl, hKs⟩
      clear h1 h2 h2' h3 hKl hKs hM hK HR
      go_wp2_with fail
      have hs0 : ∀ j, wr.drew.cell? ⟨b, j, none⟩ = (#[.slice (some ⟨g, 0, none⟩) n c, .slice none 0 0, .int .i64 (m : Int), .string ⟨sd.toArray⟩] : Array Value)[j]? := hc0
      refine wp_region_held_drew (S := fun U => ∀ j, U.cell? ⟨b, j, none⟩ = (#[.slice (some ⟨g, 0, none⟩) n c, .slice none 0 0, .int .i64 (m : Int), .string ⟨sd.toArray⟩] : Array Value)[j]?) (by kernel_rfl) hs0 (fun _ => ?_)
      refine wpAnyH_take (i := 0) (v := .pointer (some ⟨b, 0, none⟩)) rfl (by kernel_rfl) (by kernel_rfl) (by kernel_rfl) (fun _ _ _ h => h) (Or.inl ⟨by rfl, ?_⟩) hs0 ?_
      · rintro w s1; go_simp
      refine wpAnyH_take (i := 1) (v := .slice (some ⟨g, 0, none⟩) n c) rfl (by kernel_rfl) (by kernel_rfl) (by kernel_rfl) (fun _ _ _ h => h) (Or.inl ⟨by rfl, ?_⟩) hs0 ?_
      · rintro w s1; go_simp
      refine wpAnyH_take (i := 2) (v := .int .i64 (k : Int)) rfl (by kernel_rfl) (by kernel_rfl) (by kernel_rfl) (fun _ _ _ h => h) (Or.inl ⟨by rfl, ?_⟩) hs0 ?_
      · rintro w s1; go_simp
      refine wpAnyH_take (i := 3) (v := .pointer (some ⟨b, 2, none⟩)) rfl (by kernel_rfl) (by kernel_rfl) (by kernel_rfl) (fun _ _ _ h => h) (Or.inl ⟨by rfl, ?_⟩) hs0 ?_
      · rintro w s1; go_simp
      refine wpAnyH_take (i := 4) (v := .int .i64 (m : Int)) rfl (by kernel_rfl) (by kernel_rfl) (by kernel_rfl) (fun _ _ _ h => h) (Or.inl ⟨by rfl, ?_⟩) hs0 ?_
      · rintro w s1; go_simp
      refine wpAnyH_take (i := 5) (v := .int .i64 (k : Int)) rfl (by kernel_rfl) (by kernel_rfl) (by kernel_rfl) (fun _ _ _ h => h) (Or.inl ⟨by rfl, ?_⟩) hs0 ?_
      · rintro w s1; go_simp
      refine wpAnyH_ready (rs := [6]) (by kernel_rfl) (by simp) ?_
      refine AllReadyH.cons rfl (fun KK hKK => ?_) AllReadyH.nil
      go_simp
      refine (HMK.out _).mono ?_
      rintro e W5 ⟨rfl, hb5⟩
      have hb5' : Below wr.heap.size wr W5 := und hb5
      obtain ⟨q1, q2, q3, q4, q5⟩ := HO.out
      have k5 := keepblk3 hb5' q1
      have o5 := own_belQ q2 hb5'
      have hs5 : ∀ j, W5.cell? ⟨b, j, none⟩ = (#[.slice (some ⟨g, 0, none⟩) n c, .slice none 0 0, .int .i64 (m : Int), .string ⟨sd.toArray⟩] : Array Value)[j]? := (cells_block k5).1
      go_simp
      refine hKK.out _ _ hs5 (fun _ => ?_)
      clear hKK KK
      have o5' : W5.ownsRow B 58 9 (.slice (some ⟨g, 0, none⟩) K.length c) K.length (ces K) := by rw [q4]; exact o5
      obtain ⟨P, hP⟩ : ∃ P, K[k]'(by rw [q4]; exact hlt) = P := ⟨_, rfl⟩
      obtain ⟨x0, x1, x2, x3, x4, x5, x6, x7, x8⟩ := ce_at o5' (k := k) (by rw [q4]; exact hlt) hP
      clear hP
      have fr : ∀ j, W5.frozen? ⟨g, j, none⟩ = false := o5.frozenAt
      have hp := put9k_own (k := k) M o5 (by rw [q4]; exact hlt)
      have k6 : (put9k W5 g k M).heap[b]? = some (.cells #[.slice (some ⟨g, 0, none⟩) n c, .slice none 0 0, .int .i64 (m : Int), .string ⟨sd.toArray⟩] 39 (0, 0)) := (hp.2.block b (lt_of_get3 k5) (by intro e; injection e with e; omega)).trans k5
      have HX : Hid ((put9k W5 g k M).heap[b]? = some (.cells #[.slice (some ⟨g, 0, none⟩) n c, .slice none 0 0, .int .i64 (m : Int), .string ⟨sd.toArray⟩] 39 (0, 0)) ∧ OWC (put9k W5 g k M) B (.slice (some ⟨g, 0, none⟩) n c) (mks m (k + 1) ++ A.drop (k + 1)) ∧ W.grownBy (put9k W5 g k M) (some g)) := by
        refine ⟨k6, ?_, grown_trans (grown_trans q3 (below_grown hb5' _)) hp.2⟩
        have h9 := hp.1
        rw [q5] at h9
        have e9 : (mks m (k + 1) ++ A.drop (k + 1)).length = n := by rw [← q5, List.length_set]; exact q4
        unfold OWC
        rw [e9]
        exact h9
      have hs6 : ∀ j, (put9k W5 g k M).cell? ⟨b, j, none⟩ = (#[.slice (some ⟨g, 0, none⟩) n c, .slice none 0 0, .int .i64 (m : Int), .string ⟨sd.toArray⟩] : Array Value)[j]? := (cells_block k6).1
      clear hp k6 o5 o5' k5 q1 q2 q3 q4 q5 hb5 hb5'
      refine wpAnyH_take (i := 7) (v := .pointer (some ⟨g, k * 9, none⟩)) rfl (by kernel_rfl) (by kernel_rfl) (by kernel_rfl) (fun _ _ _ h => h) (Or.inl ⟨by rfl, ?_⟩) hs5 ?_
      · rintro w s1; go_simp
      refine wpAnyH_ready (rs := [8]) (by kernel_rfl) (by simp) ?_
      refine AllReadyH.cons rfl (fun KK hKK => ?_) AllReadyH.nil
      go_simp
      refine hKK.out _ _ hs6 (fun _ => ?_)
      clear hKK KK
      refine wpAnyH_done (by kernel_rfl) ?_ _
      clear hs0 hs5 hs6 x0 x1 x2 x3 x4 x5 x6 x7 x8 fr hc0
      go_wp2_with fail
      go_roundw
      case rel => exact ⟨k + 1, by go_num, by omega, HX⟩
      case measure => simp [intOf]; omega
    · have j1 : ¬ (k : Int) < (n : Int) := by omega
      obtain rfl : k = n := by omega
      have HE : Hid (OWC wr B (.slice p k c) (mks m k) ∧ W.grownBy wr (Value.slice p k c).ownBlock) := by
        obtain ⟨-, h2, h3⟩ := HR.out
        rw [List.drop_eq_nil_of_le (by rw [HL.out.1]; exact Nat.le_refl _), List.append_nil] at h2
        exact ⟨h2, h3⟩
      go_wp2_with fail
      go_end0
      exact ⟨⟨_, rfl⟩, HE.out.1, HE.out.2⟩
end Go.Proofs.YtecgjlpmmailjaaGreatDoor
namespace Go.Proofs.YtecgjlpmmailjaaGreatDoor
open Go.RowKit
/-- an append in a region that draws, by its run -/
theorem step_run {P : Program} {ops : Array Oper} {o : Oper} {a : Act} {w w' : World} {K : Act → World → Prop} {Q : Exit → Act → World → Prop} {E : Prop} {v u v' : Value} (hgd : o.guard = none) (s x : Operand) (t : TypeId) (ho : o.op = .call { callee := .builtin .append, args := #[s, x], argTypes := #[t, t] }) (hs : a.eval s = v) (hx : a.eval x = u) (hr : (Builtin.append_ #[t, t] o.type #[v, u]).run P w = .ok v' w') (h : K (a.put o.dst v') w') : if Region.wanted o (yielded ops a.tmps) = true then Oper.wp P o a w K Q else E := by
  have hw : Region.wanted o (yielded ops a.tmps) = true := by simp [Region.wanted, hgd]
  rw [if_pos hw]
  unfold Oper.wp execOp
  simp only [ho, resolve, invoke, builtin, Sem.run_bind, Sem.run_pure, Result.andThen_ok, List.map_toArray, List.map_cons, List.map_nil, hs, hx, hr]
  exact h
theorem put4L {W : World} {b T : Nat} {m : Nat × Nat} {x0 x1 x2 x3 : Value} (v0 v1 v2 v3 : Value) (h : W.heap[b]? = some (.cells #[x0, x1, x2, x3] T m)) : ((((W.setCell ⟨b, 0, none⟩ v0).setCell ⟨b, 1, none⟩ v1).setCell ⟨b, 2, none⟩ v2).setCell ⟨b, 3, none⟩ v3).heap[b]? = some (.cells #[v0, v1, v2, v3] T m) := by
  have h0 := set_get (j := 0) v0 h
  have h1 := set_get (j := 1) v1 h0
  have h2 := set_get (j := 2) v2 h1
  have h3 := set_get (j := 3) v3 h2
  simpa using h3
theorem set1L {W : World} {b T : Nat} {m : Nat × Nat} {x0 x1 x2 x3 : Value} (v1 : Value) (h : W.heap[b]? = some (.cells #[x0, x1, x2, x3] T m)) : (W.setCell ⟨b, 1, none⟩ v1).heap[b]? = some (.cells #[x0, v1, x2, x3] T m) := by
  have h1 := set_get (j := 1) v1 h
  simpa using h1
theorem gr_set (W : World) (b j : Nat) (u : Value) : W.grownBy (W.setCell ⟨b, j, none⟩ u) (some b) := ⟨rfl, rfl, rfl, by simp, fun k _ hk => heap_setCell_other W ⟨b, j, none⟩ k u (fun e => hk (by simp [e]))⟩
/-- old blocks but one stand -/
theorem gr_new {W X Y : World} {row row2 : Option Nat} (h : W.grownBy X row) (g : X.grownBy Y row2) (hr : ∀ k, row2 = some k → row = some k ∨ W.heap.size ≤ k) : W.grownBy Y row :=
  ⟨g.1.trans h.1, g.2.trans h.2, g.3.trans h.3, Nat.le_trans h.4 g.4, fun k hk hne => (g.5 k (Nat.lt_of_lt_of_le hk h.4) (fun e => by rcases hr k e.symm with h1 | h1; exact hne h1.symm; omega)).trans (h.5 k hk hne)⟩
theorem gr_put4 (W : World) (b : Nat) (v0 v1 v2 v3 : Value) : W.grownBy ((((W.setCell ⟨b, 0, none⟩ v0).setCell ⟨b, 1, none⟩ v1).setCell ⟨b, 2, none⟩ v2).setCell ⟨b, 3, none⟩ v3) (some b) := grown_trans (gr_set W b 0 v0) (grown_trans (gr_set _ b 1 v1) (grown_trans (gr_set _ b 2 v2) (gr_set _ b 3 v3)))
theorem res_keptL {fn : Func} {p : Tmp} {mm : Nat × Nat} (tmps : Array Value) (W : World) (b : Nat) (p1 p2 : Option Addr) (l1 c1 l2 c2 : Nat) (z : Int) (s : ByteArray) (hr : fn.results = #[.cell p 39]) (hp : tmps.getD p undef = .pointer (some ⟨b, 0, none⟩)) (h : W.heap[b]? = some (.cells #[.slice p1 l1 c1, .slice p2 l2 c2, .int .i64 z, .string s] 39 mm)) :
    (results fn tmps).run Tryz.prog W = .ok (.agg #[.slice p1 l1 c1, .slice p2 l2 c2, .int .i64 z, .string s]) W := by
  have hc : ∀ j, W.cell? ⟨b, j, none⟩ = (#[.slice p1 l1 c1, .slice p2 l2 c2, .int .i64 z, .string s] : Array Value)[j]? := by
    intro j; unfold World.cell?; rw [h]; simp
  have hp' : tmps[p]?.getD undef = .pointer (some ⟨b, 0, none⟩) := by simpa using hp
  simp [results, hr, hp', go_sem, hc]
set_option maxRecDepth 100000 in
set_option maxHeartbeats 16000000 in
theorem grown_any (p : Option Addr) (c : Nat) (A : List (List UInt8)) (m n B : Nat) (sd : List UInt8) (W : World) (h : OWC W B (.slice p n c) A) (hn : A.length = n) (hm : m ≤ 1000) (hn2 : n ≤ 4096) :
    Calls Tryz.prog 10 #[.agg #[.slice p n c, .slice none 0 0, .int .i64 (m : Int), .string ⟨sd.toArray⟩]] W fun e w' => ∃ q c', e = .returned (.agg #[.slice p n c, .slice q (n + 96) c', .int .i64 (m : Int), .string ⟨sd.toArray⟩]) ∧ GRK w' B W.heap.size (.slice p n c) A (.slice q (n + 96) c') (mkG m 96) ∧ W.grownBy w' (Value.slice p n c).ownBlock := by
  obtain ⟨b, hb⟩ : ∃ b, W.heap.size = b := ⟨_, rfl⟩
  have HL : Hid (A.length = n ∧ W.heap.size = b ∧ ∀ g, (Value.slice p n c).ownBlock = some g → g < b) := ⟨hn, hb, fun g e => by rw [← hb]; exact (OWC.lt h g e).2⟩
  have k0 : ((W.alloc (.cells #[.slice p n c, .slice none 0 0, .int .i64 (m : Int), .string ⟨sd.toArray⟩] 39 (0, 0))).alloc (.cells #[.slice none 0 0, .slice none 0 0, .int .i64 0, .string ⟨#[]⟩] 39 (0, 0))).heap[b]? = some (.cells #[.slice p n c, .slice none 0 0, .int .i64 (m : Int), .string ⟨sd.toArray⟩] 39 (0, 0)) := by rw [← hb]; exact alw_0 _ _ _
  have k1 : ((W.alloc (.cells #[.slice p n c, .slice none 0 0, .int .i64 (m : Int), .string ⟨sd.toArray⟩] 39 (0, 0))).alloc (.cells #[.slice none 0 0, .slice none 0 0, .int .i64 0, .string ⟨#[]⟩] 39 (0, 0))).heap[b + 1]? = some (.cells #[.slice none 0 0, .slice none 0 0, .int .i64 0, .string ⟨#[]⟩] 39 (0, 0)) := by rw [← hb]; exact alw_1 _ _ _
  obtain ⟨W2, hW2⟩ : ∃ W2, ((W.alloc (.cells #[.slice p n c, .slice none 0 0, .int .i64 (m : Int), .string ⟨sd.toArray⟩] 39 (0, 0))).alloc (.cells #[.slice none 0 0, .slice none 0 0, .int .i64 0, .string ⟨#[]⟩] 39 (0, 0))).setCell ⟨b, 1, none⟩ (.slice p n c) = W2 := ⟨_, rfl⟩
  have HS : Hid (W2.heap[b]? = some (.cells #[.slice p n c, .slice p n c, .int .i64 (m : Int), .string ⟨sd.toArray⟩] 39 (0, 0)) ∧ W2.heap[b + 1]? = some (.cells #[.slice none 0 0, .slice none 0 0, .int .i64 0, .string ⟨#[]⟩] 39 (0, 0)) ∧ GRK W2 B b (.slice p n c) A (.slice p n c) (mkG m 0) ∧ W.grownBy W2 (Value.slice p n c).ownBlock) := by
    have g0 : W.grownBy ((W.alloc (.cells #[.slice p n c, .slice none 0 0, .int .i64 (m : Int), .string ⟨sd.toArray⟩] 39 (0, 0))).alloc (.cells #[.slice none 0 0, .slice none 0 0, .int .i64 0, .string ⟨#[]⟩] 39 (0, 0))) (Value.slice p n c).ownBlock := below_grown (belA (belA (Below.refl _ _) _) _) _
    have o1 : OWC ((W.alloc (.cells #[.slice p n c, .slice none 0 0, .int .i64 (m : Int), .string ⟨sd.toArray⟩] 39 (0, 0))).alloc (.cells #[.slice none 0 0, .slice none 0 0, .int .i64 0, .string ⟨#[]⟩] 39 (0, 0))) B (.slice p n c) A := OWC.below h (belA (belA (Below.refl _ _) _) _)
    rw [← hW2]
    refine ⟨set1L _ k0, (Below.heap_setCell _ _ _ _ (by show b + 1 ≠ b; omega)).trans k1, GRK.start (o1.kept (gr_set _ _ _ _) (.inr (off_box o1 k0))), gr_new g0 (gr_set _ _ _ _) (fun k e => by injection e with e; omega)⟩
  obtain ⟨c0, f0⟩ := cells_block k0
  clear h hn k0 k1
  go_enter Tryz.func10, Tryz.ntmps10
  go_wp2_with fail
  clear hW2 c0 f0
  go_loopw [3] (fun v3 wr => ∃ (j : Nat), v3 = .int .i64 (j : Int) ∧ j ≤ 96 ∧ Hid (∃ q c', wr.heap[b]? = some (.cells #[.slice p n c, .slice q (n + j) c', .int .i64 (m : Int), .string ⟨sd.toArray⟩] 39 (0, 0)) ∧ wr.heap[b + 1]? = some (.cells #[.slice none 0 0, .slice none 0 0, .int .i64 0, .string ⟨#[]⟩] 39 (0, 0)) ∧ GRK wr B b (.slice p n c) A (.slice q (n + j) c') (mkG m j) ∧ W.grownBy wr (Value.slice p n c).ownBlock)) (fun v3 _ => 96 - (intOf v3).toNat)
  case atStart => exact ⟨0, rfl, by omega, p, c, HS.out.1, HS.out.2.1, HS.out.2.2.1, HS.out.2.2.2⟩
  case round =>
    clear HS
    obtain ⟨j, rfl, hj, HR0⟩ := hrel
    obtain ⟨q, c', hr0⟩ := HR0.out
    have HR : Hid (wr.heap[b]? = some (.cells #[.slice p n c, .slice q (n + j) c', .int .i64 (m : Int), .string ⟨sd.toArray⟩] 39 (0, 0)) ∧ wr.heap[b + 1]? = some (.cells #[.slice none 0 0, .slice none 0 0, .int .i64 0, .string ⟨#[]⟩] 39 (0, 0)) ∧ GRK wr B b (.slice p n c) A (.slice q (n + j) c') (mkG m j) ∧ W.grownBy wr (Value.slice p n c).ownBlock) := hr0
    clear hr0 HR0
    by_cases hlt : j < 96
    · have j1 : (j : Int) < 96 := by omega
      obtain ⟨jj, hjj⟩ : ∃ jj : Nat, 131 + j = jj := ⟨_, rfl⟩
      have e5 : (131 : Int) + (j : Int) = (jj : Int) := by omega
      have e6 : IntKind.i64.wrap (jj : Int) = (jj : Int) := by rw [IntKind.wrap_i64]; omega
      obtain ⟨M, hM⟩ : ∃ M, mkC m jj = M := ⟨_, rfl⟩
      have HMK : Hid (∀ U, Calls Tryz.prog 24 #[.int .i64 (m : Int), .int .i64 (jj : Int)] U fun e w' => e = .returned (.agg #[.int .i64 (M.length : Int), .int .u64 (FW M 0 : Int), .int .u64 (FW M 1 : Int), .int .u64 (FW M 2 : Int), .int .u64 (FW M 3 : Int), .int .u64 (OW M 0 : Int), .int .u64 (OW M 1 : Int), .int .u64 (OW M 2 : Int), .int .u64 (OW M 3 : Int)]) ∧ Below U.heap.size U w') := fun U => by
        have := mark_any m jj U hm (by omega)
        rw [hM] at this
        exact this
      have HT : Hid (∀ W5, Below wr.heap.size wr W5 → ∃ q9 c9 W9, (Builtin.append_ #[32, 32] 32 #[.slice q (n + j) c', .slice (some ⟨W5.heap.size, 0, none⟩) 1 1]).run Tryz.prog (W5.alloc (.cells #[.int .i64 (M.length : Int), .int .u64 (FW M 0 : Int), .int .u64 (FW M 1 : Int), .int .u64 (FW M 2 : Int), .int .u64 (FW M 3 : Int), .int .u64 (OW M 0 : Int), .int .u64 (OW M 1 : Int), .int .u64 (OW M 2 : Int), .int .u64 (OW M 3 : Int)] 58 (0, 0))) = .ok (.slice q9 (n + (j + 1)) c9) W9 ∧ (∀ i, W9.cell? ⟨b, i, none⟩ = (#[.slice p n c, .slice q (n + j) c', .int .i64 (m : Int), .string ⟨sd.toArray⟩] : Array Value)[i]?) ∧ W9.frozen? ⟨b, 1, none⟩ = false ∧ (∀ i, (W9.setCell ⟨b, 1, none⟩ (.slice q9 (n + (j + 1)) c9)).cell? ⟨b, i, none⟩ = (#[.slice p n c, (.slice q9 (n + (j + 1)) c9), .int .i64 (m : Int), .string ⟨sd.toArray⟩] : Array Value)[i]?) ∧ Hid (∃ q c', (W9.setCell ⟨b, 1, none⟩ (.slice q9 (n + (j + 1)) c9)).heap[b]? = some (.cells #[.slice p n c, .slice q (n + (j + 1)) c', .int .i64 (m : Int), .string ⟨sd.toArray⟩] 39 (0, 0)) ∧ (W9.setCell ⟨b, 1, none⟩ (.slice q9 (n + (j + 1)) c9)).heap[b + 1]? = some (.cells #[.slice none 0 0, .slice none 0 0, .int .i64 0, .string ⟨#[]⟩] 39 (0, 0)) ∧ GRK (W9.setCell ⟨b, 1, none⟩ (.slice q9 (n + (j + 1)) c9)) B b (.slice p n c) A (.slice q (n + (j + 1)) c') (mkG m (j + 1)) ∧ W.grownBy (W9.setCell ⟨b, 1, none⟩ (.slice q9 (n + (j + 1)) c9)) (Value.slice p n c).ownBlock)) := fun W5 hW5 => by
        obtain ⟨r1, r2, r3, r4⟩ := HR.out
        have hW6 : Below wr.heap.size wr (W5.alloc (.cells #[.int .i64 (M.length : Int), .int .u64 (FW M 0 : Int), .int .u64 (FW M 1 : Int), .int .u64 (FW M 2 : Int), .int .u64 (FW M 3 : Int), .int .u64 (OW M 0 : Int), .int .u64 (OW M 1 : Int), .int .u64 (OW M 2 : Int), .int .u64 (OW M 3 : Int)] 58 (0, 0))) := belA hW5 _
        have s1 := keepblk3 hW6 r1
        have s2 := keepblk3 hW6 r2
        have s3 := r3.below hW6
        have hbz : b ≤ (W5.alloc (.cells #[.int .i64 (M.length : Int), .int .u64 (FW M 0 : Int), .int .u64 (FW M 1 : Int), .int .u64 (FW M 2 : Int), .int .u64 (FW M 3 : Int), .int .u64 (OW M 0 : Int), .int .u64 (OW M 1 : Int), .int .u64 (OW M 2 : Int), .int .u64 (OW M 3 : Int)] 58 (0, 0))).heap.size := Nat.le_of_lt (lt_of_get3 s1)
        have hlen : (A ++ mkG m j).length = n + j := by rw [List.length_append, HL.out.1, mkG_len]
        obtain ⟨G', W9, hr, g1, g2⟩ := grow1 M 32 s3 (alloc_get W5 _) hbz HL.out.2.2 (by omega)
        rw [← hM, ← hjj, ← mkG_succ] at g1
        obtain ⟨q9, c9, rfl⟩ := g1.shape
        have hlen2 : (A ++ mkG m (j + 1)).length = n + (j + 1) := by rw [List.length_append, HL.out.1, mkG_len]
        rw [hlen2] at g1 hr
        have t1 := (g2.block b (lt_of_get3 s1) (fun e => s3.off s1 e.symm)).trans s1
        have t2 := (g2.block (b + 1) (lt_of_get3 s2) (fun e => s3.off s2 e.symm)).trans s2
        have u1 := set1L (.slice q9 (n + (j + 1)) c9) t1
        have hvo : offK (some b) (.slice p n c) := by
          cases hv : (Value.slice p n c).ownBlock with
          | none => exact .inl hv
          | some x =>
            refine .inr (fun e => ?_)
            rw [hv] at e
            injection e with e
            have := HL.out.2.2 x hv
            omega
        refine ⟨q9, c9, W9, hr, (cells_block t1).1, (cells_block t1).2 1, (cells_block u1).1, q9, c9, u1, (Below.heap_setCell _ _ _ _ (by show b + 1 ≠ b; omega)).trans t2, g1.kept (gr_set _ _ _ _) hvo (.inr (g1.off t1)), ?_⟩
        refine gr_new (gr_new (gr_new r4 (below_grown hW6 none) (fun k e => by cases e)) g2 (fun k e => ?_)) (gr_set _ _ _ _) (fun k e => ?_)
        · rcases s3.blk with h1 | h1
          · exact .inl (by rw [← h1]; exact e)
          · exact .inr (by rw [HL.out.2.1]; exact h1 k e)
        · injection e with e
          exact .inr (by rw [HL.out.2.1]; omega)
      have hc0 := (cells_block HR.out.1).1
      clear hM hjj
      go_wp2_with fail
      have hs0 : wr.drew.cell? ⟨b, 2, none⟩ = some (.int .i64 (m : Int)) := hc0 2
      have hcg : ∀ U, Below wr.heap.size wr U → ∀ i, U.cell? ⟨b, i, none⟩ = (#[.slice p n c, .slice q (n + j) c', .int .i64 (m : Int), .string ⟨sd.toArray⟩] : Array Value)[i]? := fun U hU => (cells_block (keepblk3 hU HR.out.1)).1
      have HCG : Hid (∀ U, Below wr.heap.size wr U → ∀ i, U.cell? ⟨b, i, none⟩ = (#[.slice p n c, .slice q (n + j) c', .int .i64 (m : Int), .string ⟨sd.toArray⟩] : Array Value)[i]?) := hcg
      have hcd : ∀ i, wr.drew.cell? ⟨b, i, none⟩ = (#[.slice p n c, .slice q (n + j) c', .int .i64 (m : Int), .string ⟨sd.toArray⟩] : Array Value)[i]? := hc0
      clear hcg
      refine wp_region_held_drew (S := fun U => U.cell? ⟨b, 2, none⟩ = some (.int .i64 (m : Int))) (by kernel_rfl) hs0 (fun _ => ?_)
      refine wpAnyH_take (i := 0) (v := .pointer (some ⟨b, 1, none⟩)) rfl (by kernel_rfl) (by kernel_rfl) (by kernel_rfl) (fun _ _ _ h => h) (Or.inl ⟨by rfl, ?_⟩) hs0 ?_
      · rintro w s1; go_simp
      refine wpAnyH_take (i := 2) (v := .pointer (some ⟨b, 2, none⟩)) rfl (by kernel_rfl) (by kernel_rfl) (by kernel_rfl) (fun _ _ _ h => h) (Or.inl ⟨by rfl, ?_⟩) hs0 ?_
      · rintro w s1; go_simp
      refine wpAnyH_take (i := 3) (v := .int .i64 (m : Int)) rfl (by kernel_rfl) (by kernel_rfl) (by kernel_rfl) (fun _ _ _ h => h) (Or.inl ⟨by rfl, ?_⟩) hs0 ?_
      · rintro w s1; go_simp
      refine wpAnyH_take (i := 4) (v := .int .i64 (j : Int)) rfl (by kernel_rfl) (by kernel_rfl) (by kernel_rfl) (fun _ _ _ h => h) (Or.inl ⟨by rfl, ?_⟩) hs0 ?_
      · rintro w s1; go_simp
      refine wpAnyH_take (i := 5) (v := .int .i64 (jj : Int)) rfl (by kernel_rfl) (by kernel_rfl) (by kernel_rfl) (fun _ _ _ h => h) (Or.inl ⟨by rfl, ?_⟩) hs0 ?_
      · rintro w s1; go_simp
      refine wpAnyH_ready (rs := [1, 6]) (by kernel_rfl) (by simp) ?_
      refine AllReadyH.cons rfl (fun KK hKK => ?_) (AllReadyH.cons rfl (fun KK hKK => ?_) AllReadyH.nil)
      · go_simp
        refine hKK.out _ _ hs0 (fun _ => ?_)
        clear hKK KK
        refine wpAnyH_ready (rs := [6]) (by kernel_rfl) (by simp) ?_
        refine AllReadyH.cons rfl (fun KK hKK => ?_) AllReadyH.nil
        go_simp
        refine (HMK.out _).mono ?_
        rintro e W5 ⟨rfl, hb5⟩
        have hb5' : Below wr.heap.size wr W5 := und hb5
        have hc5 := HCG.out W5 hb5'
        have hc6 := HCG.out (W5.alloc (.cells #[.int .i64 (M.length : Int), .int .u64 (FW M 0 : Int), .int .u64 (FW M 1 : Int), .int .u64 (FW M 2 : Int), .int .u64 (FW M 3 : Int), .int .u64 (OW M 0 : Int), .int .u64 (OW M 1 : Int), .int .u64 (OW M 2 : Int), .int .u64 (OW M 3 : Int)] 58 (0, 0))) (belA hb5' _)
        go_simp
        refine hKK.out _ _ (hc5 2) (fun _ => ?_)
        clear hKK KK
        refine wpAnyH_ready (rs := [7]) (by kernel_rfl) (by simp) ?_
        refine AllReadyH.cons rfl (fun KK hKK => ?_) AllReadyH.nil
        go_simp
        refine hKK.out _ _ (hc6 2) (fun _ => ?_)
        clear hKK KK
        obtain ⟨q9, c9, W9, hr9, hc9, hf9, hcn, HX⟩ := HT.out W5 hb5'
        refine wpAnyH_ready (rs := [8]) (by kernel_rfl) (by simp) ?_
        refine AllReadyH.cons rfl (fun KK hKK => ?_) AllReadyH.nil
        refine step_run (by rfl) _ _ _ (by rfl) (by rfl) (by rfl) hr9 ?_
        refine hKK.out _ _ (hc9 2) (fun _ => ?_)
        clear hKK KK
        refine wpAnyH_take (i := 9) (v := .pointer (some ⟨b, 1, none⟩)) rfl (by kernel_rfl) (by kernel_rfl) (by kernel_rfl) (fun _ _ _ h => h) (Or.inl ⟨by rfl, ?_⟩) (hc9 2) ?_
        · rintro w s1; go_simp
        refine wpAnyH_ready (rs := [10]) (by kernel_rfl) (by simp) ?_
        refine AllReadyH.cons rfl (fun KK hKK => ?_) AllReadyH.nil
        go_simp
        refine hKK.out _ _ (hcn 2) (fun _ => ?_)
        clear hKK KK hr9 hc9 hf9 hcn
        refine wpAnyH_done (by kernel_rfl) ?_ _
        go_wp2_with fail
        go_roundw
        case rel => exact ⟨j + 1, by go_num, by omega, HX⟩
        case measure => simp [intOf]; omega
      · go_simp
        refine (HMK.out _).mono ?_
        rintro e W5 ⟨rfl, hb5⟩
        have hb5' : Below wr.heap.size wr W5 := und hb5
        have hc5 := HCG.out W5 hb5'
        have hc6 := HCG.out (W5.alloc (.cells #[.int .i64 (M.length : Int), .int .u64 (FW M 0 : Int), .int .u64 (FW M 1 : Int), .int .u64 (FW M 2 : Int), .int .u64 (FW M 3 : Int), .int .u64 (OW M 0 : Int), .int .u64 (OW M 1 : Int), .int .u64 (OW M 2 : Int), .int .u64 (OW M 3 : Int)] 58 (0, 0))) (belA hb5' _)
        go_simp
        refine hKK.out _ _ (hc5 2) (fun _ => ?_)
        clear hKK KK
        refine wpAnyH_ready (rs := [1, 7]) (by kernel_rfl) (by simp) ?_
        refine AllReadyH.cons rfl (fun KK hKK => ?_) (AllReadyH.cons rfl (fun KK hKK => ?_) AllReadyH.nil)
        · go_simp
          refine hKK.out _ _ (hc5 2) (fun _ => ?_)
          clear hKK KK
          refine wpAnyH_ready (rs := [7]) (by kernel_rfl) (by simp) ?_
          refine AllReadyH.cons rfl (fun KK hKK => ?_) AllReadyH.nil
          go_simp
          refine hKK.out _ _ (hc6 2) (fun _ => ?_)
          clear hKK KK
          obtain ⟨q9, c9, W9, hr9, hc9, hf9, hcn, HX⟩ := HT.out W5 hb5'
          refine wpAnyH_ready (rs := [8]) (by kernel_rfl) (by simp) ?_
          refine AllReadyH.cons rfl (fun KK hKK => ?_) AllReadyH.nil
          refine step_run (by rfl) _ _ _ (by rfl) (by rfl) (by rfl) hr9 ?_
          refine hKK.out _ _ (hc9 2) (fun _ => ?_)
          clear hKK KK
          refine wpAnyH_take (i := 9) (v := .pointer (some ⟨b, 1, none⟩)) rfl (by kernel_rfl) (by kernel_rfl) (by kernel_rfl) (fun _ _ _ h => h) (Or.inl ⟨by rfl, ?_⟩) (hc9 2) ?_
          · rintro w s1; go_simp
          refine wpAnyH_ready (rs := [10]) (by kernel_rfl) (by simp) ?_
          refine AllReadyH.cons rfl (fun KK hKK => ?_) AllReadyH.nil
          go_simp
          refine hKK.out _ _ (hcn 2) (fun _ => ?_)
          clear hKK KK hr9 hc9 hf9 hcn
          refine wpAnyH_done (by kernel_rfl) ?_ _
          go_wp2_with fail
          go_roundw
          case rel => exact ⟨j + 1, by go_num, by omega, HX⟩
          case measure => simp [intOf]; omega
        · go_simp
          refine hKK.out _ _ (hc6 2) (fun _ => ?_)
          clear hKK KK
          refine wpAnyH_ready (rs := [1]) (by kernel_rfl) (by simp) ?_
          refine AllReadyH.cons rfl (fun KK hKK => ?_) AllReadyH.nil
          go_simp
          refine hKK.out _ _ (hc6 2) (fun _ => ?_)
          clear hKK KK
          obtain ⟨q9, c9, W9, hr9, hc9, hf9, hcn, HX⟩ := HT.out W5 hb5'
          refine wpAnyH_ready (rs := [8]) (by kernel_rfl) (by simp) ?_
          refine AllReadyH.cons rfl (fun KK hKK => ?_) AllReadyH.nil
          refine step_run (by rfl) _ _ _ (by rfl) (by rfl) (by rfl) hr9 ?_
          refine hKK.out _ _ (hc9 2) (fun _ => ?_)
          clear hKK KK
          refine wpAnyH_take (i := 9) (v := .pointer (some ⟨b, 1, none⟩)) rfl (by kernel_rfl) (by kernel_rfl) (by kernel_rfl) (fun _ _ _ h => h) (Or.inl ⟨by rfl, ?_⟩) (hc9 2) ?_
          · rintro w s1; go_simp
          refine wpAnyH_ready (rs := [10]) (by kernel_rfl) (by simp) ?_
          refine AllReadyH.cons rfl (fun KK hKK => ?_) AllReadyH.nil
          go_simp
          refine hKK.out _ _ (hcn 2) (fun _ => ?_)
          clear hKK KK hr9 hc9 hf9 hcn
          refine wpAnyH_done (by kernel_rfl) ?_ _
          go_wp2_with fail
          go_roundw
          case rel => exact ⟨j + 1, by go_num, by omega, HX⟩
          case measure => simp [intOf]; omega
    · have j1 : ¬ (j : Int) < 96 := by omega
      obtain rfl : j = 96 := by omega
      obtain ⟨r1, r2, r3, r4⟩ := HR.out
      obtain ⟨c1, -⟩ := cells_block r1
      obtain ⟨c2, f2⟩ := cells_block r2
      have hp := put4L (.slice p n c) (.slice q (n + 96) c') (.int .i64 (m : Int)) (.string ⟨sd.toArray⟩) r2
      have hg := gr_put4 wr (b + 1) (.slice p n c) (.slice q (n + 96) c') (.int .i64 (m : Int)) (.string ⟨sd.toArray⟩)
      have hvo : offK (some (b + 1)) (.slice p n c) := by
        cases hv : (Value.slice p n c).ownBlock with
        | none => exact .inl hv
        | some x =>
          refine .inr (fun e => ?_)
          rw [hv] at e
          injection e with e
          have := HL.out.2.2 x hv
          omega
      have g9 := r3.kept hg hvo (.inr (r3.off r2))
      have g10 := gr_new r4 hg (fun k e => by injection e with e; exact .inr (by rw [HL.out.2.1]; omega))
      have HE : Hid (GRK _ B b (.slice p n c) A (.slice q (n + 96) c') (mkG m 96) ∧ W.grownBy _ (Value.slice p n c).ownBlock) := ⟨g9, g10⟩
      clear r1 r2 r3 r4 hg hvo g9 g10 HR
      go_wp2_with fail
      refine bodyPost_ret (v := .agg #[.slice p n c, .slice q (n + 96) c', .int .i64 (m : Int), .string ⟨sd.toArray⟩]) (res_keptL _ _ (b + 1) _ _ _ _ _ _ _ _ Tryz.results10 rfl hp) rfl ⟨q, c', rfl, HE.out.1, HE.out.2⟩
end Go.Proofs.YtecgjlpmmailjaaGreatDoor
