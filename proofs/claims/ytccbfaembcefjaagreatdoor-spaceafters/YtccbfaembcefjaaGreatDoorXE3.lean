import Derived.Test.YtccbfaembcefjaaGreatDoorXE2
import Derived.Test.YtccbfaembcefjaaGreatDoorXBH
import Derived.Test.YtccbfaembcefjaaGreatDoorXAV
import Derived.Test.YtccbfaembcefjaaGreatDoorXBE
namespace Go.Proofs.YtccbfaembcefjaaGreatDoor
open Go.RowKit Go.Shelf
/-- the terms of a space, good, each of one width -/
def gdS (Ts : List (List UInt8 × List (List UInt8))) : Prop := ∀ t ∈ Ts, good t.1 = true ∧ gdW t.1.length t.2
theorem gdS_ft {Ts : List (List UInt8 × List (List UInt8))} (h : ∀ t ∈ Ts, FTm t) : gdS Ts := fun t ht => by
  have h0 := h t ht
  refine ⟨h0.gc, fun x hx => ⟨h0.gl x hx, ?_⟩⟩
  have h3 := h0.wi x hx
  rw [wiB_eq, Bool.and_eq_true] at h3
  have h4 := h3.1
  simp [fitB] at h4
  omega
theorem gdS_pr (b : Int) (l : List UInt8) : gdS (prT b l) := gdS_ft (fun t ht => (prT_ft b l t ht).1)
theorem TRC_spl {W : World} {B n cp : Nat} {p : Option Addr} {Z : List ZT} (h : W.ownsRow B 84 10 (.slice p n cp) n (tes Z)) (hn : Z.length = n) (hz : ZL W B Z) : TRC W (fun _ => False) none p Z := fun i z hzi => by
  obtain ⟨g, o0, e, c⟩ := IRZ_own h hn W (Below.refl _ _) i z hzi
  have hL := hz z (List.mem_of_getElem? hzi)
  refine ⟨g, o0, e, c, fun h => h, by simp, fun j t ht => ?_, ?_⟩
  · obtain ⟨g2, o2, e2, c2⟩ := IRC_own hL rfl W (Below.refl _ _) j t ht
    exact ⟨g2, o2, e2, c2, fun h => h, by simp⟩
  · rcases own_shapeQ hL with ⟨_, e2⟩ | ⟨g3, c3, e3, e4, -⟩
    · omega
    · injection e3 with _ _ e5
      omega
set_option maxRecDepth 100000 in
set_option maxHeartbeats 4000000 in
theorem sExpand_any (b lim : Int) (Ts : List (List UInt8 × List (List UInt8))) (B : Nat) (V : Value) (w : World) (h : SPL w B V Ts) (hs : szC Ts ≤ 128) (hg : gdS Ts) :
    Calls Tryz.prog 8 #[.agg #[.int .i64 b, V, .bool false], .int .i64 lim] w fun e w' => ∃ v, e = .returned (.tuple #[v, .int .i64 (xpE b lim Ts)]) ∧ w'.ownsRow w.heap.size 50 9 v (xpL b lim Ts).length (ces (xpL b lim Ts)) ∧ Below w.heap.size w w' := by
  obtain ⟨Z, rfl, hrow, hzl⟩ := h
  obtain ⟨p, cp, rfl⟩ := shapeQ1 hrow
  have hq1 := szC_len (Z.map ZT.cont)
  rw [List.length_map] at hq1
  obtain ⟨n, hn⟩ : ∃ n, Z.length = n := ⟨_, rfl⟩
  rw [hn] at hrow hq1 ⊢
  have hzg : ∀ z ∈ Z, good z.c = true ∧ gdW z.c.length z.L ∧ z.L.length ≤ 128 := fun z hz => by
    have hm := List.mem_map_of_mem (f := ZT.cont) hz
    have h1 := szC_mem z.cont hm
    have e : z.cont.2 = z.L := rfl
    rw [e] at h1
    obtain ⟨g1, g2⟩ := hg z.cont hm
    exact ⟨g1, g2, by omega⟩
  have ht := TRC_spl hrow hn hzl
  obtain ⟨w2, hw2⟩ : ∃ w2, (w.alloc (.cells #[.int .i64 b, .slice p n cp, .bool false] 24 (0, 0))).alloc (.cells #[.int .i64 lim] 3 (0, 0)) = w2 := ⟨_, rfl⟩
  have b1 : w2.heap[w.heap.size]? = some (.cells #[.int .i64 b, .slice p n cp, .bool false] 24 (0, 0)) := by rw [← hw2]; exact alw_0 _ _ _
  have b2 : w2.heap[w.heap.size + 1]? = some (.cells #[.int .i64 lim] 3 (0, 0)) := by rw [← hw2]; exact alw_1 _ _ _
  have hB2 : Below w.heap.size w w2 := by rw [← hw2]; exact belA (belA (Below.refl _ _) _) _
  have hc1 := (cells_block b1).1
  have hc2 : w2.cell? ⟨w.heap.size + 1, 0, none⟩ = some (.int .i64 lim) := (cells_block b2).1 0
  have hmf : ∀ (fn : Fn) (first cap : Array Value) (w : World), (Instr.makeFunc fn first cap).run Tryz.prog w = .ok (.func fn first cap) w := fun _ _ _ _ => rfl
  have HRF := refusal_any b lim p n cp w2
  obtain ⟨E, hE⟩ : ∃ E, rfE b lim = E := ⟨_, rfl⟩
  rw [hE] at HRF
  have HB : Hid (Below w.heap.size w w2) := hB2
  have hsz2 : w.heap.size ≤ w2.heap.size := hB2.size
  by_cases hE0 : E = 0
  · have hb0 : ¬ b = 0 := fun h => by unfold rfE at hE; rw [if_pos h] at hE; omega
    have hl0 : ¬ (lim < 0 ∨ 2048 < lim) := fun h => by unfold rfE at hE; rw [if_neg hb0, if_pos h] at hE; omega
    obtain ⟨M, rfl⟩ : ∃ M : Nat, lim = M := ⟨lim.toNat, by omega⟩
    have hM : M ≤ 2048 := by omega
    obtain ⟨R, ok, hxp, HG⟩ : ∃ (R : List (List UInt8)) (ok : Bool), (XPD b (M : Int) (Z.map ZT.cont) (if ok = true then 0 else 3) (if ok = true then R else [])) ∧ ∀ W, Below w2.heap.size w2 W → Calls Tryz.prog 25 #[.pointer (some ⟨w.heap.size, 0, none⟩), .pointer (some ⟨w.heap.size + 1, 0, none⟩)] W fun e w' => Below W.heap.size W w' ∧ ((ok = true ∧ ∃ v, e = .returned v ∧ w'.ownsRow W.heap.size 50 9 v R.length (ces R)) ∨ (ok = false ∧ e = .panicked [{ v := .iface 103 (.agg #[]), recovered := false }])) := by
      have H1 : ∀ W, Below w2.heap.size w2 W → _ := fun W hW => expand1_any inForm_any b Z n p cp w.heap.size (w.heap.size + 1) M W hn (by omega) hM (keepblk3 hW b1) (keepblk3 hW b2) (ht.ofW (bel0 hB2 hW) (fun k h => h.elim)) hzg
      cases hx : exE splT M [] (Z.map ZT.cont) with
      | none =>
        refine ⟨[], false, xpd_n hb0 hM hx, fun W hW => (H1 W hW).mono ?_⟩
        rintro e w' ⟨h1, ⟨R, v, h2, -⟩ | ⟨-, h3⟩⟩
        · rw [show exE splT M [] (Z.map ctZ) = none from hx] at h2
          cases h2
        · exact ⟨h1, .inr ⟨rfl, h3⟩⟩
      | some R =>
        refine ⟨R, true, xpd_s hb0 hM hx, fun W hW => (H1 W hW).mono ?_⟩
        rintro e w' ⟨h1, ⟨R', v, h2, h3, h4⟩ | ⟨h3, -⟩⟩
        · rw [show exE splT M [] (Z.map ctZ) = some R from hx] at h2
          injection h2 with h2
          subst h2
          exact ⟨h1, .inl ⟨rfl, v, h3, h4⟩⟩
        · rw [show exE splT M [] (Z.map ctZ) = some R from hx] at h3
          cases h3
    rw [← hxp.1, ← hxp.2]
    have HGV : Hid (∀ W, Below w2.heap.size w2 W → Calls Tryz.prog 24 #[.func (.func 25) #[] #[.pointer (some ⟨w.heap.size, 0, none⟩), .pointer (some ⟨w.heap.size + 1, 0, none⟩)]] W fun e w' => ∃ v, e = .returned (.tuple #[v, .int .i64 (if ok = true then 0 else 3)]) ∧ w'.ownsRow W.heap.size 50 9 v (if ok = true then R else []).length (ces (if ok = true then R else [])) ∧ Below W.heap.size W w') := fun W hW => giveC R ok _ _ W (fun X hX => HG X (bel0 hW hX))
    obtain ⟨EE, hEE⟩ : ∃ E : Int, (if ok = true then 0 else 3) = E := ⟨_, rfl⟩
    obtain ⟨LL, hLL⟩ : ∃ E, (if ok = true then R else []) = E := ⟨_, rfl⟩
    rw [hEE, hLL] at HGV ⊢
    subst hE0
    clear hE hb0 hl0 HG hxp hEE hLL b1 b2 ht hzg hrow hzl hg hs hB2 hn hq1
    go_enter Tryz.func8, Tryz.ntmps8
    go_wp2_with fail
    refine HRF.mono ?_
    rintro e w3 ⟨rfl, hb3⟩
    clear HRF hc1 hc2 hw2
    have HB3 : Hid (Below w2.heap.size w2 w3) := hb3
    clear hb3
    go_wp2_with fail
    refine (HGV.out w3 HB3.out).mono ?_
    rintro e w4 ⟨v, rfl, o4, hb4⟩
    obtain ⟨p4, c4, rfl⟩ := shapeQ1 o4
    have hs3 := HB3.out.size
    have HZ : Hid (w4.ownsRow w.heap.size 50 9 (.slice p4 LL.length c4) LL.length (ces LL) ∧ Below w.heap.size w w4) := ⟨own_base o4 (by omega), bel0 HB.out (bel0 HB3.out hb4)⟩
    clear o4 hb4
    go_wp2_with fail
    go_ret2
    exact ⟨_, rfl, HZ.out.1, HZ.out.2⟩
  · have hxp : XPD b lim (Z.map ZT.cont) E [] := by
      unfold rfE at hE
      split at hE
      · rename_i h1
        subst h1
        rw [← hE]
        exact xpd_w _ _
      · rename_i h1
        split at hE
        · rename_i h2
          rw [← hE]
          exact xpd_a _ h1 h2
        · omega
    rw [← hxp.1, ← hxp.2]
    have e0 : (E != 0) = true := by rw [bne_iff_ne]; exact hE0
    clear hE hxp b1 b2 ht hzg hrow hzl hg hs hB2 hn hq1 hE0
    go_enter Tryz.func8, Tryz.ntmps8
    go_wp2_with fail
    refine HRF.mono ?_
    rintro e w3 ⟨rfl, hb3⟩
    have HZ : Hid (Below w.heap.size w w3) := bel0 HB.out hb3
    clear HRF hc1 hc2 hw2 hb3
    go_wp2_with fail
    go_ret2
    exact ⟨_, rfl, World.ownsRow_nil _ _ _ _, HZ.out⟩
end Go.Proofs.YtccbfaembcefjaaGreatDoor
