import Derived.Test.YthonobihcahfiaaGreatDoorXAN
import Derived.Test.YthonobihcahfiaaGreatDoorXAM
import Derived.Test.YthonobihcahfiaaGreatDoorXAK
import Derived.Test.YthonobihcahfiaaGreatDoorXAL
namespace Go.Proofs.YthonobihcahfiaaGreatDoor
open Go.RowKit Go.Shelf
def scanM (l : List UInt8) : Res := if 16384 < l.length then ([], 2, 0, 0) else runM (l.length + 1) l 0 1 0 []
def scR (l : List UInt8) (w : World) (e : Ending) (w' : World) : Prop :=
  ∃ v, e = .returned (.tuple #[v, .int .i64 ((scanM l).2.1 : Int), .int .i64 ((scanM l).2.2.1 : Int), .int .i64 ((scanM l).2.2.2 : Int)]) ∧ w'.ownsRow w.heap.size 75 4 v (scanM l).1.length (tcels (scanM l).1) ∧ Below w.heap.size w w'
theorem results_sc (tmps : Array Value) (W : World) : (results Tryz.f48 tmps).run Tryz.prog W = .ok (.tuple #[tmps.getD 2 undef, tmps.getD 3 undef, tmps.getD 4 undef, tmps.getD 5 undef]) W := by
  simp [results, go_sem]
theorem clone_any (l : List UInt8) (w : World) (h : l.length ≤ 16384) : Calls Tryz.prog 53 #[.string ⟨l.toArray⟩] w fun e w' => e = .returned (.string ⟨l.toArray⟩) ∧ Below w.heap.size w w' := by
  have H := Any.stringslite_Clone Tryz.l316 ⟨l.toArray⟩ w (by simp [ByteArray.size]; omega)
  go_enter Tryz.func53, Tryz.ntmps53
  go_wp2_with fail
  refine H.mono ?_
  rintro e w1 ⟨rfl, hb⟩
  go_wp2_with fail
  go_ret
  exact ⟨rfl, hb⟩
theorem row_blk {W : World} {B g cap n : Nat} {C : List (Int × Nat)} (h : W.ownsRow B 96 2 (.slice (some ⟨g, 0, none⟩) n cap) C.length (ccels C)) : ∃ gc gf, W.heap[g]? = some (.cells gc 96 gf) ∧ ∀ k c, C[k]? = some c → gc[k * 2]? = some (.int .i32 c.1) ∧ gc[k * 2 + 1]? = some (.int .i64 (c.2 : Int)) := by
  rcases h.2 with ⟨hh, _⟩ | ⟨g', c, cur, h1, _, h3, _⟩
  · cases hh
  · injection h1 with h1 _ _
    injection h1 with h1
    injection h1 with h1 _ _
    subst h1
    refine ⟨_, _, h3, fun k c hc => ?_⟩
    obtain ⟨a, b⟩ := ccels_at C k c hc
    have ca := h.cells rfl _ _ a
    have cb := h.cells rfl _ _ b
    rw [add0, cell_of_row W g _ _ _ _ h3] at ca cb
    exact ⟨ca, cb⟩
set_option maxRecDepth 100000 in
set_option maxHeartbeats 2000000 in
theorem scan_any (l : List UInt8) (w : World) (hm : l.length ≤ 281474976710656) (hsh : SH w) (hsg : SG w) (hF : FOK w) :
    Calls Tryz.prog 48 #[.string ⟨l.toArray⟩] w fun e w' => scR l w e w' := by
  by_cases h1 : 16384 < l.length
  · have hr : Hid (scanM l = ([], 2, 0, 0)) := if_pos h1
    have i1 : (16384 : Int) < (l.length : Int) := by omega
    go_enter Tryz.func48, Tryz.ntmps48
    go_wp2_with fail
    refine bodyPost_ret (results_sc _ _) rfl ?_
    unfold scR
    rw [hr.out]
    exact ⟨_, rfl, World.ownsRow_nil _ _ _ _, Below.refl _ _⟩
  · have i1 : ¬ (16384 : Int) < (l.length : Int) := by omega
    have hr : scanM l = runM (l.length + 1) l 0 1 0 [] := if_neg h1
    have HC := clone_any l w (by omega)
    have HCH : Hid (∀ W, Calls Tryz.prog 54 #[.string ⟨l.toArray⟩] W fun e w' => ∃ v, e = .returned v ∧ w'.ownsRow W.heap.size 96 2 v (chars l 0).length (ccels (chars l 0)) ∧ Below W.heap.size W w') := fun W => charsOf_any l W (by omega)
    have hget0 : (chars l 0)[0]? = some (chr l 0, (if 0 < l.length then 0 else l.length)) := drop_get (now := 0) rfl
    have hN0 : 0 < (chars l 0).length := (List.getElem?_eq_some_iff.1 hget0).1
    have hNm := chars_len l _ 0 (Nat.le_refl _)
    obtain ⟨R, hR⟩ : ∃ R, scanM l = R := ⟨_, rfl⟩
    unfold scR
    rw [hR]
    have HRR : Hid (runM (l.length + 1) l 0 1 0 [] = R) := hr.symm.trans hR
    have hSH : Hid (SH w) := hsh
    have hSG : Hid (SG w) := hsg
    have hFF : Hid (FOK w) := hF
    clear hr hR hget0 hsh hsg hF
    go_enter Tryz.func48, Tryz.ntmps48
    go_wp2_with fail
    refine HC.mono ?_
    rintro e w1 ⟨rfl, hb1⟩
    go_wp2_with fail
    refine (HCH.out _).mono ?_
    rintro e w2 ⟨vc, rfl, ho2, hb2⟩
    obtain ⟨g, cap, rfl⟩ := own_form ho2 hN0
    have hcap := own_cap ho2
    obtain ⟨gc, gf, hgk, hgc⟩ := row_blk ho2
    have hbel := bel0 hb1 hb2
    obtain ⟨X, hX⟩ : ∃ X : MX, X = ⟨w, l, w2.heap.size, g, cap, gc, gf⟩ := ⟨_, rfl⟩
    have hMC : MC X := by subst hX; exact ⟨hgc, hbel.size, hcap, by show l.length ≤ 16384; omega, hSH.out, hSG.out⟩
    have hM0 : MS X (w2.alloc (.cells #[.string ⟨l.toArray⟩, .slice (some ⟨g, 0, none⟩) (chars l 0).length cap, .int .i64 0, .int .i64 0, .int .i64 1, .int .i64 0, .slice none 0 0] 83)) 0 0 1 0 (.slice none 0 0) [] := by
      subst hX
      exact ⟨alloc_get _ _, allocblk hgk _, World.ownsRow_nil _ _ _ _, hbel.alloc hbel.size _⟩
    have HRun := run_any hMC (by subst hX; exact hFF.out) hM0
    have hXb : X.b = w2.heap.size := by rw [hX]
    have hXl : X.l = l := by rw [hX]
    have hXw : X.w0 = w := by rw [hX]
    rw [hXb, hXl, HRR.out] at HRun
    have HXw : Hid (X.w0 = w) := hXw
    have HXb : Hid (X.b = w2.heap.size) := hXb
    clear hX hXb hXl hXw HCH HC HRR hSH hSG hFF ho2 hgk hgc hb1 hb2 hM0 hMC
    go_wp2_with fail
    refine HRun.mono ?_
    rintro e w3 ⟨rfl, now, fst, line, head, v, D, hM, hhn, hn16, hok, herr⟩
    clear HRun
    by_cases e0 : R.2.1 = 0
    · obtain rfl := hok e0
      have hc6 := hM.c6
      rw [HXb.out] at hc6
      clear hok herr e0
      go_wp2_with fail
      refine bodyPost_ret (results_sc _ _) rfl ?_
      have ho := hM.own
      have hb := hM.bel
      rw [HXw.out] at ho hb
      exact ⟨v, rfl, ho, hb⟩
    · have hRe := herr e0
      obtain ⟨E, hE⟩ : ∃ E, R.2.1 = E := ⟨_, rfl⟩
      rw [hE] at e0 hRe ⊢
      have HRe : Hid (R = ([], E, line, now - head + 1)) := hRe
      have t0 : ((E : Int) == 0) = false := by rw [beq_eq_false_iff_ne]; omega
      have t1 : ((E : Int) != 0) = true := by rw [bne, t0]; rfl
      have HB : Hid (∀ W', MS X W' now fst line head v D → ∀ i, W'.cell? ⟨w2.heap.size, i, none⟩ = (mcells X now fst line head v)[i]?) := fun W' m' i => by rw [← HXb.out]; exact m'.c i
      have HCo : Hid (∀ W', MS X W' now fst line head v D → Calls Tryz.prog 56 #[.pointer (some ⟨w2.heap.size, 0, none⟩), .int .i64 (now : Int)] W' fun e w' => e = .returned (.int .i64 ((now - head + 1 : Nat) : Int)) ∧ w' = W') := fun W' m' => by
        rw [← HXb.out]
        exact column_any m' hhn hn16
      clear hok herr hRe hE
      go_wp2_with fail
      refine quiet_lit3 (C := fun W => MS X W now fst line head v D) (by kernel_rfl) (by kernel_rfl) (MS.drew hM) ?_
      go_big_quiet_want
      go_big_quiet_op
      go_big_quiet_on
      go_big_quiet_want
      refine ⟨.pointer (some ⟨w2.heap.size, 4, none⟩), fun W hW => ?_, ?_⟩
      · go_simp
      go_big_quiet_on
      simp only [Act.put, List.setIfInBounds_toArray, List.set_cons_zero, List.set_cons_succ]
      go_big_quiet_want
      refine ⟨.int .i64 (line : Int), fun W hW => ?_, ?_⟩
      · have x4 : W.cell? ⟨w2.heap.size, 4, none⟩ = some (.int .i64 (line : Int)) := HB.out W hW 4
        go_simp
      go_big_quiet_on
      simp only [Act.put, List.setIfInBounds_toArray, List.set_cons_zero, List.set_cons_succ]
      go_big_quiet_want
      refine ⟨.pointer (some ⟨w2.heap.size, 2, none⟩), fun W hW => ?_, ?_⟩
      · go_simp
      go_big_quiet_on
      simp only [Act.put, List.setIfInBounds_toArray, List.set_cons_zero, List.set_cons_succ]
      go_big_quiet_want
      refine ⟨.int .i64 (now : Int), fun W hW => ?_, ?_⟩
      · have x2 : W.cell? ⟨w2.heap.size, 2, none⟩ = some (.int .i64 (now : Int)) := HB.out W hW 2
        go_simp
      go_big_quiet_on
      simp only [Act.put, List.setIfInBounds_toArray, List.set_cons_zero, List.set_cons_succ]
      go_big_quiet_want
      refine ⟨.int .i64 ((now - head + 1 : Nat) : Int), fun W hW => ?_, ?_⟩
      · go_simp
        refine (HCo.out W hW).mono ?_
        rintro e w7 ⟨rfl, rfl⟩
        exact ⟨rfl, hW⟩
      go_big_quiet_on
      simp only [Act.put, List.setIfInBounds_toArray, List.set_cons_zero, List.set_cons_succ]
      go_big_quiet_want
      go_big_quiet_op
      go_big_quiet_on
      go_big_quiet_want
      go_big_quiet_op
      go_big_quiet_on
      go_big_quiet_want
      go_big_quiet_op
      go_big_quiet_on
      go_big_quiet_want
      go_big_quiet_op
      go_big_quiet_on
      refine wpQuiet_nil ?_
      intro W hW
      go_wp2_with fail
      refine bodyPost_ret (results_sc _ _) rfl ?_
      have hb := hW.bel
      rw [HXw.out] at hb
      rw [HRe.out]
      exact ⟨.slice none 0 0, rfl, World.ownsRow_nil _ _ _ _, hb⟩
end Go.Proofs.YthonobihcahfiaaGreatDoor
namespace Go.Proofs.YthonobihcahfiaaGreatDoor
open Go.RowKit Go.Shelf
def okA (K : Nat) (l : List UInt8) (j e : Nat) : Prop :=
  (K = 2 → inW l e = false ∧ dotA l e 3 = false) ∧ (K = 3 ∨ K = 5 → inW l e = false) ∧ (K = 4 → (inW l e || dotA l e 4) = false) ∧ (K = 7 → sgn (l.drop j) = e - j)
theorem nrun_stop (l : List UInt8) : ∀ (m j : Nat), l.length - j ≤ m → (inW l (nrun l j) || dotA l (nrun l j) 4) = false
  | m, j, hm => by
    cases h : (inW l j || dotA l j 4) with
    | false => rw [nrun_no h]; exact h
    | true =>
      have hj : j < l.length := by
        rcases Bool.or_eq_true_iff.1 h with h | h
        · exact (inW_asc h).1
        · exact (dotA_asc h).1
      match m, hm with
      | 0, hm => omega
      | m + 1, hm => rw [nrun_yes h]; exact nrun_stop l m (j + 1) (by omega)
theorem inW_end' {l : List UInt8} {i : Nat} (h : ¬ i < l.length) : inW l i = false := by
  unfold inW
  rw [kl0.2 h]
  rfl
section
variable {l l' : List UInt8} {j j' n K : Nat}
theorem fault_ag (h : AG l j l' j' n) (h7 : kl l j ≠ 7) (h7' : kl l' j' ≠ 7) (hC : tokC l j = (K, j + n)) (hE : tokE l j = 0) (hC' : tokC l' j' = (K, j' + n)) : tokE l' j' = 0 := by
  unfold tokE at hE ⊢
  rw [if_neg (fun e => h7 e.1), hC] at hE
  rw [if_neg (fun e => h7' e.1), hC']
  simp only at hE ⊢
  rw [h.sub]
  exact hE
theorem tok_ag (h : AG l j l' j' n) (hn : 0 < n) (hC : tokC l j = (K, j + n)) (hE : tokE l j = 0) (ok : okA K l' j' (j' + n)) : tokC l' j' = (K, j' + n) ∧ tokE l' j' = 0 := by
  have hl := h.1
  have hl' := h.2.1
  have hk := h.kl0 hn
  have a1 := h.more (m := 1) (by omega)
  by_cases h3 : kl l j = 3
  · have h3' : kl l' j' = 3 := hk ▸ h3
    have hw := (wrun_ge l _ (j + 1) (Nat.le_refl _)).1
    cases hd : dotA l (wrun l (j + 1)) 3 with
    | true =>
      have e : tokC l j = (3, wrun l (wrun l (j + 1) + 1)) := by unfold tokC endF; rw [if_pos h3, if_pos rfl, hd, if_pos rfl]
      obtain ⟨rfl, e2⟩ := Prod.mk.inj (e.symm.trans hC)
      obtain ⟨d1, d2⟩ : kl l (wrun l (j + 1)) = 5 ∧ kl l (wrun l (j + 1) + 1) = 3 := by unfold dotA at hd; simpa using hd
      have hw2 : inW l (wrun l (j + 1) + 1) = true := by unfold inW; rw [d2]; rfl
      have hw3 := (wrun_ge l _ (wrun l (j + 1) + 1 + 1) (Nat.le_refl _)).1
      rw [← wrun_yes hw2, e2] at hw3
      obtain ⟨p, hp⟩ : ∃ p, wrun l (j + 1) = j + p := ⟨wrun l (j + 1) - j, by omega⟩
      rw [hp] at d1 d2 hw hw3 e2
      have k1 := h.kl (k := p) (by omega)
      have k2 := h.kl (k := p + 1) (by omega)
      rw [← Nat.add_assoc, ← Nat.add_assoc] at k2
      have s1 : inW l' (j' + p) = false := by unfold inW; rw [← k1, d1]; rfl
      have w1 : wrun l' (j' + 1) = j' + p := by
        have := wrun_ag _ (Nat.le_refl _) (a1.cut (m := p - 1) (by omega)) (by omega) (by rw [show j' + 1 + (p - 1) = j' + p by omega]; exact s1)
        omega
      have hd' : dotA l' (j' + p) 3 = true := by unfold dotA; rw [← k1, ← k2, d1, d2]; rfl
      have a2 := h.more (m := p + 1) (by omega)
      have w2 : wrun l' (j' + p + 1) = j' + n := by
        have := wrun_ag _ (Nat.le_refl _) a2 (by rw [show j + (p + 1) = j + p + 1 by omega, e2]; omega) (by rw [show j' + (p + 1) + (n - (p + 1)) = j' + n by omega]; exact ok.2.1 (.inl rfl))
        rw [show j' + (p + 1) = j' + p + 1 by omega] at this
        omega
      have hC' : tokC l' j' = (3, j' + n) := by unfold tokC endF; rw [if_pos h3', if_pos rfl, w1, hd', if_pos rfl, w2]
      exact ⟨hC', fault_ag h (by omega) (by omega) hC hE hC'⟩
    | false =>
      have e : tokC l j = (2, wrun l (j + 1)) := by unfold tokC endF; rw [if_pos h3, if_pos rfl, hd, if_neg (by decide)]
      obtain ⟨rfl, e2⟩ := Prod.mk.inj (e.symm.trans hC)
      have w1 : wrun l' (j' + 1) = j' + n := by
        have := wrun_ag _ (Nat.le_refl _) a1 (by omega) (by rw [show j' + 1 + (n - 1) = j' + n by omega]; exact (ok.1 rfl).1)
        omega
      have hC' : tokC l' j' = (2, j' + n) := by unfold tokC endF; rw [if_pos h3', if_pos rfl, w1, (ok.1 rfl).2, if_neg (by decide)]
      exact ⟨hC', fault_ag h (by omega) (by omega) hC hE hC'⟩
  have h3' : kl l' j' ≠ 3 := hk ▸ h3
  by_cases h4 : kl l j = 4
  · have h4' : kl l' j' = 4 := hk ▸ h4
    have e : tokC l j = (4, nrun l (j + 1)) := by unfold tokC endF; rw [if_neg h3, if_pos h4, if_neg (by decide), if_neg (by decide), if_pos rfl]
    obtain ⟨rfl, e2⟩ := Prod.mk.inj (e.symm.trans hC)
    have hst := nrun_stop l _ (j + 1) (Nat.le_refl _)
    rw [e2] at hst
    have w1 : nrun l' (j' + 1) = j' + n := by
      have := nrun_ag _ (Nat.le_refl _) a1 (by omega) (by rw [show j' + 1 + (n - 1) = j' + n by omega]; exact ok.2.2.1 rfl) (fun k hk2 => by
        cases hd : dotA l (j + 1 + k) 4 with
        | false => rfl
        | true =>
          have d2 : kl l (j + 1 + k + 1) = 4 := by unfold dotA at hd; simp at hd; exact hd.2
          rw [show j + 1 + k + 1 = j + n by omega] at d2
          rw [show inW l (j + n) = true by unfold inW; rw [d2]; rfl] at hst
          cases hst)
      omega
    have hC' : tokC l' j' = (4, j' + n) := by unfold tokC endF; rw [if_neg h3', if_pos h4', if_neg (by decide), if_neg (by decide), if_pos rfl, w1]
    exact ⟨hC', fault_ag h (by omega) (by omega) hC hE hC'⟩
  have h4' : kl l' j' ≠ 4 := hk ▸ h4
  by_cases h6 : kl l j = 6
  · have h6' : kl l' j' = 6 := hk ▸ h6
    have e : tokC l j = (5, wrun l (j + 1)) := by unfold tokC endF; rw [if_neg h3, if_neg h4, if_pos h6, if_neg (by decide), if_neg (by decide), if_neg (by decide), if_pos rfl]
    obtain ⟨rfl, e2⟩ := Prod.mk.inj (e.symm.trans hC)
    have w1 : wrun l' (j' + 1) = j' + n := by
      have := wrun_ag _ (Nat.le_refl _) a1 (by omega) (by rw [show j' + 1 + (n - 1) = j' + n by omega]; exact ok.2.1 (.inr rfl))
      omega
    have hC' : tokC l' j' = (5, j' + n) := by unfold tokC endF; rw [if_neg h3', if_neg h4', if_pos h6', if_neg (by decide), if_neg (by decide), if_neg (by decide), if_pos rfl, w1]
    exact ⟨hC', fault_ag h (by omega) (by omega) hC hE hC'⟩
  have h6' : kl l' j' ≠ 6 := hk ▸ h6
  by_cases h7 : kl l j = 7
  · have h7' : kl l' j' = 7 := hk ▸ h7
    have hCq : ∀ {x : List UInt8} {i : Nat}, kl x i = 7 → tokC x i = (6, quoJ x i) := fun hx => by
      unfold tokC endF
      rw [if_neg (by omega), if_neg (by omega), if_neg (by omega), if_pos hx, if_neg (by decide), if_neg (by decide), if_neg (by decide), if_neg (by decide)]
    obtain ⟨rfl, e2⟩ := Prod.mk.inj ((hCq h7).symm.trans hC)
    have hq0 : quoE l j = 0 := Classical.byContradiction (fun e => by
      unfold tokE at hE
      rw [if_pos ⟨h7, e⟩] at hE
      exact e hE)
    unfold quoE at hq0
    by_cases q1 : (insS l (j + 1) []).2.2 = 33 ∧ kl l (insS l (j + 1) []).2.1 = 1
    · rw [if_pos q1] at hq0; cases hq0
    rw [if_neg q1] at hq0
    by_cases q2 : (insS l (j + 1) []).2.2 = 0 ∧ 256 < (insS l (j + 1) []).1.length
    · rw [if_pos q2] at hq0; cases hq0
    rw [if_neg q2] at hq0
    unfold quoJ at e2
    rw [if_neg q2] at e2
    have hi : insS l (j + 1) [] = ((insS l (j + 1) []).1, j + 1 + (n - 1), 0) := Prod.ext rfl (Prod.ext (by show (insS l (j + 1) []).2.1 = j + 1 + (n - 1); omega) hq0)
    have hi' := ins_ag _ (Nat.le_refl _) a1 hi
    have q2' : ¬ ((insS l' (j' + 1) []).2.2 = 0 ∧ 256 < (insS l' (j' + 1) []).1.length) := by
      rw [hi']
      exact fun hh => q2 ⟨hq0, hh.2⟩
    have hJ' : quoJ l' j' = j' + n := by
      unfold quoJ
      rw [if_neg q2', hi']
      simp only
      omega
    have hE' : quoE l' j' = 0 := by
      unfold quoE
      rw [if_neg q2', hi']
      simp
    refine ⟨by rw [hCq h7', hJ'], ?_⟩
    unfold tokE
    rw [if_neg (fun hh => hh.2 hE'), hCq h7']
    show faultE 6 _ = 0
    unfold faultE
    rw [if_neg (by decide), if_neg (by decide), if_neg (by decide), if_neg (by decide)]
  have h7' : kl l' j' ≠ 7 := hk ▸ h7
  obtain ⟨c1, -, -⟩ := tok_sign h3 h4 h6 h7
  obtain ⟨c1', -, -⟩ := tok_sign h3' h4' h6' h7'
  obtain ⟨rfl, -⟩ := Prod.mk.inj (c1.symm.trans hC)
  have hs := ok.2.2.2 rfl
  have hC' : tokC l' j' = (7, j' + n) := by rw [c1', hs, show j' + n - j' = n by omega]
  exact ⟨hC', fault_ag h h7 h7' hC hE hC'⟩
end
theorem sgn_all : ∀ s ∈ signsL, sgn s = s.length := by decide
theorem sgn_alone {r : List UInt8} {n : Nat} (hn : 0 < n) (h : sgn r = n) : sgn (r.take n) = n := by
  unfold sgn at h
  cases hf : signsL.find? (fun s => Lib.hasPrefix r s) with
  | none => rw [hf] at h; simp at h; omega
  | some z =>
    have hz := List.find?_some hf
    have hm := List.mem_of_find?_eq_some hf
    rw [hf] at h
    simp only [Option.map_some, Option.getD_some] at h
    unfold Lib.hasPrefix at hz
    rw [List.isPrefixOf_iff_prefix] at hz
    obtain ⟨t, ht⟩ := hz
    have e : r.take n = z := by rw [← ht, ← h]; exact List.take_left
    rw [e, sgn_all z hm, h]
def goodT (K : Nat) (X : List UInt8) : Prop := 0 < X.length ∧ kl X 0 ≠ 1 ∧ kl X 0 ≠ 2 ∧ kl X 0 ≠ 8 ∧ tokC X 0 = (K, X.length) ∧ tokE X 0 = 0
theorem ag_sub {l : List UInt8} {j n : Nat} (h : j + n ≤ l.length) : AG l j (subL l j (j + n)) 0 n := by
  have hl : (subL l j (j + n)).length = n := by rw [sub_len h]; omega
  refine ⟨h, by omega, fun k hk => ?_⟩
  rw [Nat.zero_add]
  have e : (subL l j (j + n))[k]? = some l[j + k] := by
    unfold subL
    rw [List.getElem?_take, if_pos (by omega), List.getElem?_drop, List.getElem?_eq_getElem]
  rw [bt_of e, bt_of (List.getElem?_eq_getElem (show j + k < l.length by omega))]
theorem tok_alone {l : List UInt8} {j n K : Nat} (hn : 0 < n) (hl : j + n ≤ l.length) (h1 : kl l j ≠ 1) (h2 : kl l j ≠ 2) (h8 : kl l j ≠ 8) (hC : tokC l j = (K, j + n)) (hE : tokE l j = 0) : goodT K (subL l j (j + n)) := by
  have a := ag_sub hl
  have hlen : (subL l j (j + n)).length = n := by rw [sub_len hl]; omega
  have hk := a.kl0 hn
  have ok : okA K (subL l j (j + n)) 0 (0 + n) := by
    have hi : inW (subL l j (j + n)) (0 + n) = false := inW_end' (by omega)
    have hd : ∀ c, c ≠ 0 → dotA (subL l j (j + n)) (0 + n) c = false := fun c hc => by
      unfold dotA
      rw [kl0.2 (show ¬ 0 + n + 1 < (subL l j (j + n)).length by omega), decide_eq_false (show ¬ 0 = c by omega), Bool.and_false]
    refine ⟨fun _ => ⟨hi, hd 3 (by decide)⟩, fun _ => hi, fun _ => by rw [hi, hd 4 (by decide)]; rfl, fun h7 => ?_⟩
    subst h7
    have hs : sgn (l.drop j) = n := by
      have h3 : kl l j ≠ 3 := fun e => by
        unfold tokC endF at hC
        rw [if_pos e, if_pos rfl] at hC
        split at hC <;> simp at hC
      have h4 : kl l j ≠ 4 := fun e => by
        unfold tokC endF at hC
        rw [if_neg h3, if_pos e, if_neg (by decide), if_neg (by decide), if_pos rfl] at hC
        simp at hC
      have h6 : kl l j ≠ 6 := fun e => by
        unfold tokC endF at hC
        rw [if_neg h3, if_neg h4, if_pos e, if_neg (by decide), if_neg (by decide), if_neg (by decide), if_pos rfl] at hC
        simp at hC
      have h7 : kl l j ≠ 7 := fun e => by
        unfold tokC endF at hC
        rw [if_neg h3, if_neg h4, if_neg h6, if_pos e, if_neg (by decide), if_neg (by decide), if_neg (by decide), if_neg (by decide)] at hC
        simp at hC
      have := (tok_sign h3 h4 h6 h7).1
      rw [hC] at this
      have := (Prod.mk.inj this).2
      omega
    have := sgn_alone hn hs
    rw [List.drop_zero, Nat.zero_add, Nat.sub_zero]
    unfold subL
    rw [Nat.add_sub_cancel_left]
    exact this
  obtain ⟨t1, t2⟩ := tok_ag a hn hC hE ok
  exact ⟨by omega, by rw [← hk]; exact h1, by rw [← hk]; exact h2, by rw [← hk]; exact h8, by rw [t1, hlen, Nat.zero_add], t2⟩
theorem scan_one {K : Nat} {X : List UInt8} (h : goodT K X) (hX : X.length ≤ 16384) : ∃ c, scanM X = ([(K, X, 1, 1), (1, [10], 1, c)], 0, 0, 0) := by
  obtain ⟨h0, h1, h2, h8, hC, hE⟩ := h
  have hz : kl X 0 ≠ 0 := fun e => kl0.1 e h0
  have hJ : tokJ X 0 = X.length := by rw [tok_same hE, hC]
  have hK : K ≠ 1 := fun e => by
    have : (tokC X 0).1 ≠ 1 := by
      unfold tokC endF
      repeat' split
      all_goals simp
    rw [hC] at this
    exact this e
  have hs : subL X 0 X.length = X := by unfold subL; simp
  unfold scanM
  rw [if_neg (by omega), runM_tok h2 h8 h1 hz hE, hJ, hC]
  obtain ⟨m, hm⟩ : ∃ m, X.length = m + 1 := ⟨X.length - 1, by omega⟩
  have hend : kl X X.length = 0 := kl0.2 (by omega)
  have e0 : ∀ (f : Nat) (D : List Tok), f = m + 1 → runM f X X.length 1 0 D = lendM m X X.length 1 0 D := fun f D hf => by
    subst hf
    exact runM_end (.inr hend)
  have e := e0 X.length ([] ++ [(K, subL X 0 X.length, 1, ci X 0 - ci X 0 + 1)]) hm
  simp only at e ⊢
  rw [e]
  unfold lendM
  rw [if_pos hend, hs, Nat.sub_self]
  refine ⟨ci X X.length - ci X 0 + 1, ?_⟩
  unfold endT
  simp [hK]
end Go.Proofs.YthonobihcahfiaaGreatDoor
namespace Go.Proofs.YthonobihcahfiaaGreatDoor
open Go.RowKit Go.Shelf
def ended (X : List Tok) : Prop := ∀ t, X.getLast? = some t → t.1 = 1
theorem endT_ended (D : List Tok) (line col : Nat) : ended (endT D line col) := by
  unfold endT ended
  intro t ht
  cases h : D.getLast? with
  | none =>
    rw [h] at ht
    simp only [h] at ht
    cases ht
  | some u =>
    rw [h] at ht
    by_cases hu : u.1 = 1
    · simp only [if_pos hu, h] at ht
      rw [← Option.some.inj ht]
      exact hu
    · simp only [if_neg hu, List.getLast?_concat] at ht
      rw [← Option.some.inj ht]
theorem run_done (l : List UInt8) : ∀ (f j line hb : Nat) (D : List Tok), l.length - j < f → ((runM f l j line hb D).2.1 = 0 → ended (runM f l j line hb D).1 ∧ (runM f l j line hb D).2 = (0, 0, 0)) ∧ ((runM f l j line hb D).2.1 ≠ 0 → (runM f l j line hb D).1 = [])
  | 0, j, line, hb, D, hf => by omega
  | f + 1, j, line, hb, D, hf => by
    have hend : ∀ e, j ≤ e → ((lendM f l e line hb D).2.1 = 0 → ended (lendM f l e line hb D).1 ∧ (lendM f l e line hb D).2 = (0, 0, 0)) ∧ ((lendM f l e line hb D).2.1 ≠ 0 → (lendM f l e line hb D).1 = []) := fun e he => by
      unfold lendM
      by_cases h0 : kl l e = 0
      · rw [if_pos h0]
        exact ⟨fun _ => ⟨endT_ended _ _ _, rfl⟩, fun h => absurd rfl h⟩
      · have hlt : e < l.length := Classical.byContradiction (fun h => h0 (kl0.2 h))
        rw [if_neg h0]
        exact run_done l f _ _ _ _ (by omega)
    by_cases h10 : kl l j = 1 ∨ kl l j = 0
    · rw [runM_end h10]
      exact hend j (Nat.le_refl _)
    have h1 : kl l j ≠ 1 := fun e => h10 (.inl e)
    have h0 : kl l j ≠ 0 := fun e => h10 (.inr e)
    have hj : j < l.length := Classical.byContradiction (fun e => h0 (kl0.2 e))
    by_cases h2 : kl l j = 2
    · rw [runM_blank h2]
      exact run_done l f _ _ _ _ (by omega)
    by_cases h8 : kl l j = 8
    · rw [runM_hash h8]
      have := cend_ge (l := l) _ (j + 1) (Nat.le_refl _)
      exact hend _ (by omega)
    by_cases he : tokE l j = 0
    · obtain ⟨a1, a2⟩ := tok_adv hj h1 he
      rw [runM_tok h2 h8 h1 h0 he]
      exact run_done l f _ _ _ _ (by omega)
    · rw [runM_err h2 h8 h1 h0 he]
      exact ⟨fun h => absurd h he, fun _ => rfl⟩
end Go.Proofs.YthonobihcahfiaaGreatDoor
namespace Go.Proofs.YthonobihcahfiaaGreatDoor
open Go.RowKit Go.Shelf
abbrev KT := Nat × List UInt8
def kt (L : List Tok) : List KT := L.map fun t => (t.1, t.2.1)
def flat (Ls : List (List KT)) : List KT := Ls.flatMap fun ln => ln ++ [(1, [10])]
def goodL (ln : List KT) : Prop := ∀ t ∈ ln, goodT t.1 t.2
def goodLs (Ls : List (List KT)) : Prop := ∀ ln ∈ Ls, ln ≠ [] ∧ goodL ln
def totL (ln : List KT) : Nat := (ln.map fun t => t.2.length).sum
def totLs (Ls : List (List KT)) : Nat := (Ls.map totL).sum
theorem goodT_kind {K : Nat} {X : List UInt8} (h : goodT K X) : K ≠ 1 := fun e => by
  have h1 : (tokC X 0).1 ≠ 1 := by
    unfold tokC endF
    repeat' split
    all_goals simp
  rw [h.2.2.2.2.1] at h1
  exact h1 e
theorem flat_snoc (Ls : List (List KT)) (ln : List KT) : flat (Ls ++ [ln]) = flat Ls ++ (ln ++ [(1, [10])]) := by
  unfold flat
  simp
theorem kt_snoc (D : List Tok) (t : Tok) : kt (D ++ [t]) = kt D ++ [(t.1, t.2.1)] := by
  unfold kt
  simp
theorem kt_last {D : List Tok} {A : List KT} {u : KT} (h : kt D = A ++ [u]) : ∃ t, D.getLast? = some t ∧ t.1 = u.1 := by
  rcases List.eq_nil_or_concat D with rfl | ⟨D0, t, rfl⟩
  · cases A <;> cases h
  · rw [List.concat_eq_append, kt_snoc] at h
    have e := (List.append_inj' h rfl).2
    refine ⟨t, by rw [List.concat_eq_append]; simp, ?_⟩
    have := List.head_eq_of_cons_eq e
    rw [← this]
theorem totLs_snoc (Ls : List (List KT)) (ln : List KT) : totLs (Ls ++ [ln]) = totLs Ls + totL ln := by
  unfold totLs
  simp
theorem totL_snoc (ln : List KT) (t : KT) : totL (ln ++ [t]) = totL ln + t.2.length := by
  unfold totL
  simp
theorem endT_kt {D : List Tok} {Ls : List (List KT)} {cur : List KT} (h : kt D = flat Ls ++ cur) (hL : goodLs Ls) (hc : goodL cur) (line col : Nat) :
    ∃ Ls', kt (endT D line col) = flat Ls' ∧ goodLs Ls' ∧ totLs Ls' = totLs Ls + totL cur := by
  rcases List.eq_nil_or_concat cur with rfl | ⟨c0, u, rfl⟩
  · refine ⟨Ls, ?_, hL, by simp [totL]⟩
    rw [List.append_nil] at h
    rcases List.eq_nil_or_concat Ls with rfl | ⟨L0, ln, rfl⟩
    · have hD : D = [] := by
        unfold kt flat at h
        simpa using h
      subst hD
      rfl
    · rw [List.concat_eq_append] at h ⊢
      have h2 := h
      rw [flat_snoc, ← List.append_assoc] at h2
      obtain ⟨t, ht1, ht2⟩ := kt_last h2
      unfold endT
      rw [ht1]
      simp only
      rw [if_pos ht2, h]
  · rw [List.concat_eq_append] at h hc ⊢
    have h2 := h
    rw [← List.append_assoc] at h2
    obtain ⟨t, ht1, ht2⟩ := kt_last h2
    have hu : u.1 ≠ 1 := goodT_kind (hc u (by simp))
    refine ⟨Ls ++ [c0 ++ [u]], ?_, ?_, totLs_snoc _ _⟩
    · unfold endT
      rw [ht1]
      simp only
      rw [if_neg (by rw [ht2]; exact hu), kt_snoc, h, flat_snoc, List.append_assoc]
    · intro ln hln
      rcases List.mem_append.1 hln with e | e
      · exact hL ln e
      · rw [List.mem_singleton.1 e]
        exact ⟨by simp, hc⟩
theorem cend_le' {l : List UInt8} : ∀ (m j : Nat), l.length - j ≤ m → j ≤ l.length → cend l j ≤ l.length
  | m, j, hm, hj => by
    by_cases hk : kl l j = 1 ∨ kl l j = 0
    · rw [cend_end hk]; exact hj
    · have h1 : kl l j ≠ 1 := fun e => hk (.inl e)
      have h0 : kl l j ≠ 0 := fun e => hk (.inr e)
      have hlt : j < l.length := Classical.byContradiction (fun e => h0 (kl0.2 e))
      have hp := dc_pos l j
      have hle := dc_le l j hlt
      match m, hm with
      | 0, hm => omega
      | m + 1, hm => rw [cend_on h1 h0]; exact cend_le' m _ (by omega) hle
theorem run_ls (l : List UInt8) : ∀ (f j line hb : Nat) (D : List Tok) (Ls : List (List KT)) (cur : List KT), l.length - j < f → j ≤ l.length → kt D = flat Ls ++ cur → goodLs Ls → goodL cur → (runM f l j line hb D).2.1 = 0 → ∃ Ls', kt (runM f l j line hb D).1 = flat Ls' ∧ goodLs Ls' ∧ totLs Ls' ≤ totLs Ls + totL cur + (l.length - j)
  | 0, j, line, hb, D, Ls, cur, hf, _, _, _, _, _ => by omega
  | f + 1, j, line, hb, D, Ls, cur, hf, hj, hD, hL, hc, h0 => by
    have hend : ∀ e, j ≤ e → e ≤ l.length → (lendM f l e line hb D).2.1 = 0 → ∃ Ls', kt (lendM f l e line hb D).1 = flat Ls' ∧ goodLs Ls' ∧ totLs Ls' ≤ totLs Ls + totL cur + (l.length - j) := fun e he hel h => by
      obtain ⟨L2, e1, e2, e3⟩ := endT_kt hD hL hc line (ci l e - ci l hb + 1)
      unfold lendM at h ⊢
      by_cases hz : kl l e = 0
      · rw [if_pos hz]
        exact ⟨L2, e1, e2, by omega⟩
      · have hlt : e < l.length := Classical.byContradiction (fun h => hz (kl0.2 h))
        rw [if_neg hz] at h ⊢
        obtain ⟨L3, g1, g2, g3⟩ := run_ls l f (e + 1) (line + 1) (e + 1) _ L2 [] (by omega) hlt (by rw [e1, List.append_nil]) e2 (fun t ht => by cases ht) h
        refine ⟨L3, g1, g2, ?_⟩
        have : totL [] = 0 := rfl
        omega
    by_cases h10 : kl l j = 1 ∨ kl l j = 0
    · rw [runM_end h10] at h0 ⊢
      exact hend j (Nat.le_refl _) hj h0
    have h1 : kl l j ≠ 1 := fun e => h10 (.inl e)
    have hz : kl l j ≠ 0 := fun e => h10 (.inr e)
    have hlt : j < l.length := Classical.byContradiction (fun e => hz (kl0.2 e))
    by_cases h2 : kl l j = 2
    · rw [runM_blank h2] at h0 ⊢
      obtain ⟨L3, g1, g2, g3⟩ := run_ls l f (j + 1) line hb D Ls cur (by omega) hlt hD hL hc h0
      exact ⟨L3, g1, g2, by omega⟩
    by_cases h8 : kl l j = 8
    · rw [runM_hash h8] at h0 ⊢
      have c1 := cend_ge (l := l) _ (j + 1) (Nat.le_refl _)
      have c2 := cend_le' (l := l) _ (j + 1) (Nat.le_refl _) hlt
      exact hend _ (by omega) c2 h0
    by_cases he : tokE l j = 0
    · obtain ⟨a1, a2⟩ := tok_adv hlt h1 he
      have hsm := tok_same he
      rw [runM_tok h2 h8 h1 hz he] at h0 ⊢
      have hn : tokJ l j = j + (tokJ l j - j) := by omega
      have hg := tok_alone (l := l) (j := j) (n := tokJ l j - j) (K := (tokC l j).1) (by omega) (by omega) h1 h2 h8 (by rw [← hn, hsm]) he
      rw [← hn] at hg
      obtain ⟨L3, g1, g2, g3⟩ := run_ls l f (tokJ l j) line hb _ Ls (cur ++ [((tokC l j).1, subL l j (tokC l j).2)]) (by omega) a2 (by rw [kt_snoc, hD, List.append_assoc]) hL (fun t ht => by
        rcases List.mem_append.1 ht with e | e
        · exact hc t e
        · rw [List.mem_singleton.1 e, ← hsm]
          exact hg) h0
      refine ⟨L3, g1, g2, ?_⟩
      rw [totL_snoc] at g3
      simp only at g3
      rw [← hsm, sub_len a2] at g3
      omega
    · rw [runM_err h2 h8 h1 hz he] at h0
      exact absurd h0 he
theorem scan_ls (l : List UInt8) (h : l.length ≤ 16384) (he : (scanM l).2.1 = 0) : ∃ Ls, kt (scanM l).1 = flat Ls ∧ goodLs Ls ∧ totLs Ls ≤ l.length := by
  unfold scanM at he ⊢
  rw [if_neg (by omega)] at he ⊢
  obtain ⟨Ls, g1, g2, g3⟩ := run_ls l (l.length + 1) 0 1 0 [] [] [] (by omega) (Nat.zero_le _) rfl (fun ln h => by cases h) (fun t h => by cases h) he
  exact ⟨Ls, g1, g2, by simpa [totLs, totL] using g3⟩
end Go.Proofs.YthonobihcahfiaaGreatDoor
namespace Go.Proofs.YthonobihcahfiaaGreatDoor.Nt
open Go.RowKit Go.Shelf
def ofB (k : Nat) (x : List UInt8) : Bool := match (scanM x).1 with
  | t :: _ => t.1 == k && t.2.1 == x
  | [] => false
theorem ofB_len {k : Nat} {x : List UInt8} (h : ofB k x = true) : x.length ≤ 16384 ∧ 1 ≤ x.length := by
  unfold ofB at h
  constructor
  · rcases Nat.lt_or_ge 16384 x.length with h1 | h1
    · unfold scanM at h
      rw [if_pos h1] at h
      cases h
    · exact h1
  · cases x with
    | nil =>
      have e : (scanM []).1 = [] := by rfl
      rw [e] at h
      cases h
    | cons c x => simp
def nameB (x : List UInt8) : Bool := decide (0 < x.length) && (decide (x.length ≤ 24) && (letX (bt x 0) && x.all (fun c => letX c.toNat || digX c.toNat)))
theorem inW_bt {x : List UInt8} {j : Nat} (hj : j < x.length) : inW x j = (letX (bt x j) || digX (bt x j)) := by
  unfold inW
  rw [kl_bt hj, letX_cls (bt_lt x j), digX_cls (bt_lt x j)]
theorem wrun_all {x : List UInt8} : ∀ (m j : Nat), x.length - j ≤ m → j ≤ x.length → (∀ k, j ≤ k → k < x.length → inW x k = true) → wrun x j = x.length
  | m, j, hm, hj, h => by
    rcases Nat.lt_or_ge j x.length with hlt | hge
    · match m, hm with
      | 0, hm => omega
      | m + 1, hm =>
        rw [wrun_yes (h j (Nat.le_refl _) hlt)]
        exact wrun_all m (j + 1) (by omega) hlt (fun k h1 h2 => h k (by omega) h2)
    · have : inW x j = false := by
        unfold inW
        rw [kl0.2 (by omega)]
        rfl
      rw [wrun_no this]
      omega
theorem ofB_good {k : Nat} {x : List UInt8} (h : ofB k x = true) (_hk : k ≠ 1) : goodT k x := by
  unfold ofB at h
  have hl : x.length ≤ 16384 := (ofB_len (k := k) h).1
  cases hD : (scanM x).1 with
  | nil => rw [hD] at h; cases h
  | cons a D =>
    rw [hD] at h
    simp only at h
    rw [Bool.and_eq_true, beq_iff_eq, beq_iff_eq] at h
    have he : (scanM x).2.1 = 0 := Classical.byContradiction (fun hne => by
      have h0 : (scanM x).1 = [] := by
        have := (run_done x (x.length + 1) 0 1 0 [] (by omega)).2
        unfold scanM at hne ⊢
        rw [if_neg (by omega)] at hne ⊢
        exact this hne
      rw [h0] at hD
      cases hD)
    obtain ⟨Ls, g1, g2, g3⟩ := scan_ls x hl he
    rw [hD] at g1
    have g4 : flat Ls = (a.1, a.2.1) :: kt D := g1.symm
    cases Ls with
    | nil => cases g4
    | cons ln Ls =>
      obtain ⟨hne, hgl⟩ := g2 ln (by simp)
      cases ln with
      | nil => exact absurd rfl hne
      | cons u ln =>
        have e1 : u = (a.1, a.2.1) := List.head_eq_of_cons_eq g4
        have hg := hgl u (by simp)
        rw [e1, h.1, h.2] at hg
        exact hg
theorem good_ofB {k : Nat} {x : List UInt8} (h : goodT k x) (hl : x.length ≤ 16384) : ofB k x = true := by
  obtain ⟨c, hc⟩ := scan_one h hl
  unfold ofB
  rw [hc]
  simp
end Go.Proofs.YthonobihcahfiaaGreatDoor.Nt
