import Derived.Test.YtccbfaembcefjaaGreatDoorXG4
import Derived.Test.YtccbfaembcefjaaGreatDoorXE2
import Derived.Test.YtccbfaembcefjaaGreatDoorXE3
import Derived.Test.YtccbfaembcefjaaGreatDoorXBE
namespace Go.Proofs.YtccbfaembcefjaaGreatDoor
open Go.RowKit Go.Shelf
set_option maxRecDepth 100000 in
theorem caughtS (b : Nat) (x : Int) (older : List PanicEntry) (w : World) (hc : w.cell? ⟨b, 0, none⟩ = some (.int .i64 x)) (hz : w.frozen? ⟨b, 0, none⟩ = false) :
    CallsD Tryz.prog 59 #[.pointer (some ⟨b, 0, none⟩)] (.panicking ({ v := .iface 103 (.agg #[]), recovered := false } :: older)) w fun e u' w' =>
      e = .returned (.tuple #[]) ∧ u' = .panicking ({ v := .iface 103 (.agg #[]), recovered := true } :: older) ∧ w' = w.setCell ⟨b, 0, none⟩ (.int .i64 3) := by
  refine callsD_of_wpS Tryz.func59 rfl fun c₀ cs hu => ?_
  apply wpS_seq
  apply wpS_region
  simp [wpOpsS, go_sem, recoverD, hu, Tryz.ntmps59, Exit.thenS]
  refine wpS_of_wp ?_
  have hE := eq_overE
  go_wp2_with fail
  simp [bodyPostS, results, Tryz.results59]
theorem idleS (b : Nat) (w : World) :
    CallsD Tryz.prog 59 #[.pointer (some ⟨b, 0, none⟩)] .returning w fun e u' w' => e = .returned (.tuple #[]) ∧ u' = .returning ∧ w' = w := by
  refine callsD_of_wpS Tryz.func59 rfl fun c₀ cs hu => ?_
  apply wpS_seq
  apply wpS_region
  simp [wpOpsS, go_sem, recoverD, hu, Tryz.ntmps59, Exit.thenS]
  refine wpS_of_wp ?_
  go_wp2_with fail
  cases c₀
  simp_all [bodyPostS, results, Tryz.results59]
set_option maxRecDepth 100000 in
set_option maxHeartbeats 4000000 in
theorem giveS (t : List UInt8) (ok : Bool) (c1 c2 : Nat) (w : World) (HO : ∀ W, Below w.heap.size w W → Calls Tryz.prog 30 #[.pointer (some ⟨c1, 0, none⟩), .pointer (some ⟨c2, 0, none⟩)] W fun e w' => Below W.heap.size W w' ∧ ((ok = true ∧ e = .returned (.string ⟨t.toArray⟩)) ∨ (ok = false ∧ e = .panicked [{ v := .iface 103 (.agg #[]), recovered := false }]))) :
    Calls Tryz.prog 29 #[.func (.func 30) #[] #[.pointer (some ⟨c1, 0, none⟩), .pointer (some ⟨c2, 0, none⟩)]] w fun e w' => e = .returned (.tuple #[.string ⟨(if ok = true then t else []).toArray⟩, .int .i64 (if ok = true then 0 else 3)]) ∧ Below w.heap.size w w' := by
  have hmf : ∀ (fn : Fn) (first cap : Array Value) (w : World), (Instr.makeFunc fn first cap).run Tryz.prog w = .ok (.func fn first cap) w := fun _ _ _ _ => rfl
  obtain ⟨w2, hw2⟩ : ∃ w2, w.alloc (.cells #[.int .i64 0] 31 (0, 0)) = w2 := ⟨_, rfl⟩
  have hE : w2.heap[w.heap.size]? = some (.cells #[.int .i64 0] 31 (0, 0)) := by rw [← hw2]; exact alloc_get _ _
  have hB2 : Below w.heap.size w w2 := by rw [← hw2]; exact belA (Below.refl _ _) _
  have HO2 := HO w2 hB2
  have HA : Hid (w2.heap[w.heap.size]? = some (.cells #[.int .i64 0] 31 (0, 0)) ∧ Below w.heap.size w w2) := ⟨hE, hB2⟩
  clear hE hB2 HO
  cases ok with
  | true =>
    have HO3 : Hid (Calls Tryz.prog 30 #[.pointer (some ⟨c1, 0, none⟩), .pointer (some ⟨c2, 0, none⟩)] w2 fun e w' => e = .returned (.string ⟨t.toArray⟩) ∧ Below w2.heap.size w2 w') := by
      refine HO2.mono ?_
      rintro e w' ⟨h1, ⟨-, h2⟩ | ⟨h2, -⟩⟩
      · exact ⟨h2, h1⟩
      · cases h2
    clear HO2
    simp only [if_true]
    go_enter_defers Tryz.func29, Tryz.ntmps29
    go_wp2_with fail
    refine HO3.out.mono ?_
    rintro e W1 ⟨rfl, hb1⟩
    clear HO3 hw2
    obtain ⟨hcE, hfE⟩ := cells_block (keepblk3 hb1 HA.out.1)
    go_wp2_with fail
    obtain ⟨X, hX⟩ : ∃ X, W1.setCell ⟨w.heap.size, 0, none⟩ (.int .i64 0) = X := ⟨_, rfl⟩
    have hXE : X.heap[w.heap.size]? = some (.cells #[.int .i64 0] 31 (0, 0)) := by
      rw [← hX]
      exact set_oneE _ (keepblk3 hb1 HA.out.1)
    have HXX : Hid (Below w.heap.size w X) := by
      unfold Hid
      rw [← hX]
      exact (bel0 HA.out.2 hb1).setCell (Nat.le_refl _) _
    rw [hX]
    clear hcE hfE hX
    refine leaves_cons (f := 59) (args := #[.pointer (some ⟨w.heap.size, 0, none⟩)]) (by simp) (by simp [go_sem]) ?_
    refine (idleS w.heap.size _).mono ?_
    rintro e u' w'' ⟨rfl, rfl, rfl⟩
    have cE := (cells_block hXE).1
    simp [Leaves, settle, results, Tryz.results29, go_sem, cE]
    exact HXX.out
  | false =>
    have HO3 : Hid (Calls Tryz.prog 30 #[.pointer (some ⟨c1, 0, none⟩), .pointer (some ⟨c2, 0, none⟩)] w2 fun e w' => e = .panicked [{ v := .iface 103 (.agg #[]), recovered := false }] ∧ Below w2.heap.size w2 w') := by
      refine HO2.mono ?_
      rintro e w' ⟨h1, ⟨h2, -⟩ | ⟨-, rfl⟩⟩
      · cases h2
      · exact ⟨rfl, h1⟩
    clear HO2
    simp only [Bool.false_eq_true, if_false]
    go_enter_defers Tryz.func29, Tryz.ntmps29
    go_wp2_with fail
    refine HO3.out.mono ?_
    rintro e W1 ⟨rfl, hb1⟩
    clear HO3 hw2
    have hEE := keepblk3 hb1 HA.out.1
    obtain ⟨hcE, hfE⟩ := cells_block hEE
    refine leaves_cons (f := 59) (args := #[.pointer (some ⟨w.heap.size, 0, none⟩)]) (by simp) (by simp [go_sem]) ?_
    refine (caughtS w.heap.size 0 [] W1 (hcE 0) (hfE 0)).mono ?_
    rintro e u' w'' ⟨rfl, rfl, rfl⟩
    have hX0 : (W1.setCell ⟨w.heap.size, 0, none⟩ (.int .i64 3)).heap[w.heap.size]? = some (.cells #[.int .i64 3] 31 (0, 0)) := set_oneE _ hEE
    have cE := (cells_block hX0).1
    have HXX : Hid (Below w.heap.size w (W1.setCell ⟨w.heap.size, 0, none⟩ (.int .i64 3))) := (bel0 HA.out.2 hb1).setCell (Nat.le_refl _) _
    clear hcE hfE
    simp [Leaves, settle, results, Tryz.results29, go_sem, cE]
    exact HXX.out
/-- what Expand's list has of a space of one width -/
theorem exE_wide {nb lim : Nat} : ∀ (Ts : List (List UInt8 × List (List UInt8))) (out R : List (List UInt8)), gdS Ts → (∀ t ∈ Ts, t.1.length = nb) → (∀ x ∈ out, x.length = nb) → exE splT lim out Ts = some R → ∀ x ∈ R, x.length = nb
  | [], out, R, _, _, g, e => by
    injection e with e
    subst e
    exact g
  | t :: r, out, R, gt, hw, g, e => by
    unfold exE at e
    split at e
    · obtain ⟨t1, t3⟩ := gt t List.mem_cons_self
      refine exE_wide r _ R (fun x hx => gt x (List.mem_cons_of_mem _ hx)) (fun x hx => hw x (List.mem_cons_of_mem _ hx)) (fun x hx => ?_) e
      rcases List.mem_append.1 hx with hx | hx
      · exact g x hx
      · exact ((gdW_exT t.2 [t.1] (fun y hy => by rw [List.mem_singleton] at hy; subst hy; exact ⟨t1, rfl⟩) t3 x hx).2).trans (hw t List.mem_cons_self)
    · cases e
theorem xpL_wide {nb : Nat} {b lim : Int} {Ts : List (List UInt8 × List (List UInt8))} (h : gdS Ts) (hw : ∀ t ∈ Ts, t.1.length = nb) : ∀ x ∈ xpL b lim Ts, x.length = nb := by
  unfold xpL
  split
  · exact fun x hx => by cases hx
  · split
    · exact fun x hx => by cases hx
    · cases hx : exE splT lim.toNat [] Ts with
      | none => exact fun x hx => by cases hx
      | some R => exact exE_wide Ts [] R h hw (fun x hx => by cases hx) hx
theorem xpL_none {b lim : Int} {Ts : List (List UInt8 × List (List UInt8))} (h : ¬ xpE b lim Ts = 0) : xpL b lim Ts = [] := by
  unfold xpE at h
  unfold xpL
  split
  · rfl
  · rename_i h1
    rw [if_neg h1] at h
    split
    · rfl
    · rename_i h2
      rw [if_neg h2] at h
      split at h
      · rename_i h3
        rw [h3]
        rfl
      · exact absurd rfl h
set_option maxRecDepth 100000 in
set_option maxHeartbeats 4000000 in
theorem sLeast_any (nb : Nat) (b lim : Int) (Ts : List (List UInt8 × List (List UInt8))) (B : Nat) (V : Value) (w : World) (h : SPL w B V Ts) (hs : szC Ts ≤ 128) (hg : gdS Ts) (hw : ∀ t ∈ Ts, t.1.length = nb) (hbn : ¬ b = 0 → b = (nb : Int) ∧ 1 ≤ nb ∧ nb ≤ 256) (hx0 : ∀ x ∈ xpL b lim Ts, x ≠ []) :
    Calls Tryz.prog 12 #[.agg #[.int .i64 b, V, .bool false], .int .i64 lim] w fun e w' => e = .returned (.tuple #[.string ⟨(mnL (xpL b lim Ts)).toArray⟩, .bool (!(((xpL b lim Ts).length : Int) == 0)), .int .i64 (xpE b lim Ts)]) ∧ Below w.heap.size w w' := by
  obtain ⟨Z, rfl, hrow, hzl⟩ := h
  obtain ⟨p, cp, rfl⟩ := shapeQ1 hrow
  have hq1 := szC_len (Z.map ZT.cont)
  rw [List.length_map] at hq1
  obtain ⟨n, hn⟩ : ∃ n, Z.length = n := ⟨_, rfl⟩
  rw [hn] at hrow hq1 ⊢
  have hzg : ∀ z ∈ Z, good z.c = true ∧ gdW z.c.length z.L ∧ z.L.length ≤ 128 := fun z hz => by
    have hm := List.mem_map_of_mem (f := ZT.cont) hz
    have h1 := szC_mem z.cont hm
    have e : z.cont.2 = z.L := rfl
    rw [e] at h1
    obtain ⟨g1, g2⟩ := hg z.cont hm
    exact ⟨g1, g2, by omega⟩
  have hzw : ∀ z ∈ Z, z.c.length = nb := fun z hz => hw z.cont (List.mem_map_of_mem (f := ZT.cont) hz)
  have ht := TRC_spl hrow hn hzl
  obtain ⟨w2, hw2⟩ : ∃ w2, (w.alloc (.cells #[.int .i64 b, .slice p n cp, .bool false] 24 (0, 0))).alloc (.cells #[.int .i64 lim] 3 (0, 0)) = w2 := ⟨_, rfl⟩
  have b1 : w2.heap[w.heap.size]? = some (.cells #[.int .i64 b, .slice p n cp, .bool false] 24 (0, 0)) := by rw [← hw2]; exact alw_0 _ _ _
  have b2 : w2.heap[w.heap.size + 1]? = some (.cells #[.int .i64 lim] 3 (0, 0)) := by rw [← hw2]; exact alw_1 _ _ _
  have hB2 : Below w.heap.size w w2 := by rw [← hw2]; exact belA (belA (Below.refl _ _) _) _
  have hc1 := (cells_block b1).1
  have hc2 : w2.cell? ⟨w.heap.size + 1, 0, none⟩ = some (.int .i64 lim) := (cells_block b2).1 0
  have hmf : ∀ (fn : Fn) (first cap : Array Value) (w : World), (Instr.makeFunc fn first cap).run Tryz.prog w = .ok (.func fn first cap) w := fun _ _ _ _ => rfl
  have HRF := refusal_any b lim p n cp w2
  obtain ⟨E, hE⟩ : ∃ E, rfE b lim = E := ⟨_, rfl⟩
  rw [hE] at HRF
  have HB : Hid (Below w.heap.size w w2) := hB2
  by_cases hE0 : E = 0
  · have hb0 : ¬ b = 0 := fun h => by unfold rfE at hE; rw [if_pos h] at hE; omega
    have hl0 : ¬ (lim < 0 ∨ 2048 < lim) := fun h => by unfold rfE at hE; rw [if_neg hb0, if_pos h] at hE; omega
    obtain ⟨M, rfl⟩ : ∃ M : Nat, lim = M := ⟨lim.toNat, by omega⟩
    have hM : M ≤ 2048 := by omega
    obtain ⟨hbe, hb1, hb2⟩ := hbn hb0
    obtain ⟨R, ok, hxp, HG⟩ : ∃ (R : List (List UInt8)) (ok : Bool), (XPD b (M : Int) (Z.map ZT.cont) (if ok = true then 0 else 3) (if ok = true then R else [])) ∧ ∀ W, Below w2.heap.size w2 W → Calls Tryz.prog 30 #[.pointer (some ⟨w.heap.size, 0, none⟩), .pointer (some ⟨w.heap.size + 1, 0, none⟩)] W fun e w' => Below W.heap.size W w' ∧ ((ok = true ∧ e = .returned (.string ⟨(mnL R).toArray⟩)) ∨ (ok = false ∧ e = .panicked [{ v := .iface 103 (.agg #[]), recovered := false }])) := by
      have H1 : ∀ W, Below w2.heap.size w2 W → _ := fun W hW => least1_any inForm_any nb Z n p cp w.heap.size (w.heap.size + 1) M W hb1 hb2 hn (by omega) hM (by rw [← hbe]; exact keepblk3 hW b1) (keepblk3 hW b2) (ht.ofW (bel0 hB2 hW) (fun k h => h.elim)) hzg hzw
      cases hx : exE splT M [] (Z.map ZT.cont) with
      | none =>
        refine ⟨[], false, xpd_n hb0 hM hx, fun W hW => (H1 W hW).mono ?_⟩
        rintro e w' ⟨h1, ⟨R, h2, -⟩ | ⟨-, h3⟩⟩
        · rw [show exE splT M [] (Z.map ctZ) = none from hx] at h2
          cases h2
        · exact ⟨h1, .inr ⟨rfl, h3⟩⟩
      | some R =>
        refine ⟨R, true, xpd_s hb0 hM hx, fun W hW => (H1 W hW).mono ?_⟩
        rintro e w' ⟨h1, ⟨R', h2, h3⟩ | ⟨h3, -⟩⟩
        · rw [show exE splT M [] (Z.map ctZ) = some R from hx] at h2
          injection h2 with h2
          subst h2
          exact ⟨h1, .inl ⟨rfl, h3⟩⟩
        · rw [show exE splT M [] (Z.map ctZ) = some R from hx] at h3
          cases h3
    rw [← hxp.2] at hx0
    rw [← hxp.1, ← hxp.2]
    have HGV : Hid (∀ W, Below w2.heap.size w2 W → Calls Tryz.prog 29 #[.func (.func 30) #[] #[.pointer (some ⟨w.heap.size, 0, none⟩), .pointer (some ⟨w.heap.size + 1, 0, none⟩)]] W fun e w' => e = .returned (.tuple #[.string ⟨(if ok = true then mnL R else []).toArray⟩, .int .i64 (if ok = true then 0 else 3)]) ∧ Below W.heap.size W w') := fun W hW => giveS (mnL R) ok _ _ W (fun X hX => HG X (bel0 hW hX))
    have hmm : (if ok = true then mnL R else []) = mnL (if ok = true then R else []) := by cases ok <;> rfl
    rw [hmm] at HGV
    obtain ⟨EE, hEE⟩ : ∃ E : Int, (if ok = true then 0 else 3) = E := ⟨_, rfl⟩
    obtain ⟨LL, hLL⟩ : ∃ E, (if ok = true then R else []) = E := ⟨_, rfl⟩
    rw [hEE, hLL] at HGV ⊢
    rw [hLL] at hx0
    obtain ⟨m, hm⟩ : ∃ m, mnL LL = m := ⟨_, rfl⟩
    obtain ⟨nl, hnl⟩ : ∃ m, LL.length = m := ⟨_, rfl⟩
    have hiff : m = [] ↔ nl = 0 := by
      rw [← hm, ← hnl]
      constructor
      · intro h
        cases hq : LL with
        | nil => rfl
        | cons y t =>
          exact absurd h (mnL_ne LL hx0 (by rw [hq]; simp))
      · intro h
        rw [List.eq_nil_of_length_eq_zero h]
        rfl
    rw [hm] at HGV ⊢
    rw [hnl]
    subst hE0
    clear hE hb0 hl0 HG hxp hEE hLL b1 b2 ht hzg hzw hrow hzl hg hs hw hB2 hn hq1 hx0 hmm hbn hbe hb1 hb2 hm hnl
    go_enter Tryz.func12, Tryz.ntmps12
    go_wp2_with fail
    refine HRF.mono ?_
    rintro e w3 ⟨rfl, hb3⟩
    clear HRF hc1 hc2 hw2
    have HB3 : Hid (Below w2.heap.size w2 w3) := hb3
    clear hb3
    go_wp2_with fail
    refine (HGV.out w3 HB3.out).mono ?_
    rintro e w4 ⟨rfl, hb4⟩
    have HZ : Hid (Below w.heap.size w w4) := bel0 HB.out (bel0 HB3.out hb4)
    clear hb4
    by_cases hme : m = []
    · have hn0 := hiff.1 hme
      subst hme
      subst hn0
      clear hiff
      go_wp2_with fail
      go_ret3
      exact ⟨rfl, HZ.out⟩
    · have hn0 : ¬ nl = 0 := fun h => hme (hiff.2 h)
      have hn1 : ((nl : Int) == 0) = false := by
        have : ¬ (nl : Int) = 0 := by omega
        simpa using this
      have hme1 : m.isEmpty = false := by cases m with
        | nil => exact absurd rfl hme
        | cons y t => rfl
      clear hiff
      go_wp2_with fail
      go_ret3
      exact ⟨by rw [hn1]; rfl, HZ.out⟩
  · have hxp : XPD b lim (Z.map ZT.cont) E [] := by
      unfold rfE at hE
      split at hE
      · rename_i h1
        subst h1
        rw [← hE]
        exact xpd_w _ _
      · rename_i h1
        split at hE
        · rename_i h2
          rw [← hE]
          exact xpd_a _ h1 h2
        · omega
    rw [← hxp.1, ← hxp.2]
    have e0 : (E != 0) = true := by rw [bne_iff_ne]; exact hE0
    clear hE hxp b1 b2 ht hzg hzw hrow hzl hg hs hw hB2 hn hq1 hE0 hx0 hbn
    go_enter Tryz.func12, Tryz.ntmps12
    go_wp2_with fail
    refine HRF.mono ?_
    rintro e w3 ⟨rfl, hb3⟩
    have HZ : Hid (Below w.heap.size w w3) := bel0 HB.out hb3
    clear HRF hc1 hc2 hw2 hb3
    go_wp2_with fail
    go_ret3
    exact ⟨rfl, HZ.out⟩
end Go.Proofs.YtccbfaembcefjaaGreatDoor
