import Derived.Test.YtmdnapognaddbaaGreatDoorXBI
import Derived.Test.YtmdnapognaddbaaGreatDoorXBC
import Derived.Test.YtmdnapognaddbaaGreatDoorXAU
namespace Go.Proofs.YtmdnapognaddbaaGreatDoor
open Go.RowKit Go.Shelf
def xpE (b lim : Int) (Ts : List (List UInt8 × List (List UInt8))) : Int := if b = 0 then 11 else if lim < 0 ∨ 2048 < lim then 1 else if exE splT lim.toNat [] Ts = none then 3 else 0
def xpL (b lim : Int) (Ts : List (List UInt8 × List (List UInt8))) : List (List UInt8) := if b = 0 then [] else if lim < 0 ∨ 2048 < lim then [] else (exE splT lim.toNat [] Ts).getD []
def XPD (b lim : Int) (Ts : List (List UInt8 × List (List UInt8))) (E : Int) (L : List (List UInt8)) : Prop := E = xpE b lim Ts ∧ L = xpL b lim Ts
def XPQ (w : World) (b lim : Int) (Ts : List (List UInt8 × List (List UInt8))) (e : Ending) (w' : World) : Prop := ∃ v E L, e = .returned (.tuple #[v, .int .i64 E]) ∧ XPD b lim Ts E L ∧ w'.ownsRow w.heap.size 9 1 v L.length (stx L) ∧ Below w.heap.size w w'
theorem xpq_mk {w w' : World} {b lim : Int} {Ts : List (List UInt8 × List (List UInt8))} {v : Value} {E : Int} {L : List (List UInt8)} (h1 : XPD b lim Ts E L) (h2 : w'.ownsRow w.heap.size 9 1 v L.length (stx L)) (h3 : Below w.heap.size w w') : XPQ w b lim Ts (.returned (.tuple #[v, .int .i64 E])) w' := ⟨v, E, L, rfl, h1, h2, h3⟩
theorem xpd_w (lim : Int) (Ts : List (List UInt8 × List (List UInt8))) : XPD 0 lim Ts 11 [] := ⟨by unfold xpE; rw [if_pos rfl], by unfold xpL; rw [if_pos rfl]⟩
theorem xpd_a {b lim : Int} (Ts : List (List UInt8 × List (List UInt8))) (hb : ¬ b = 0) (h : lim < 0 ∨ 2048 < lim) : XPD b lim Ts 1 [] := ⟨by unfold xpE; rw [if_neg hb, if_pos h], by unfold xpL; rw [if_neg hb, if_pos h]⟩
theorem xpd_n {b : Int} {M : Nat} {Ts : List (List UInt8 × List (List UInt8))} (hb : ¬ b = 0) (hM : M ≤ 2048) (h : exE splT M [] Ts = none) : XPD b (M : Int) Ts 3 [] := by
  have h2 : ¬ ((M : Int) < 0 ∨ 2048 < (M : Int)) := by omega
  have e : ((M : Int)).toNat = M := by omega
  refine ⟨?_, ?_⟩
  · unfold xpE; rw [if_neg hb, if_neg h2, e, if_pos h]
  · unfold xpL; rw [if_neg hb, if_neg h2, e, h]; rfl
theorem xpd_s {b : Int} {M : Nat} {Ts : List (List UInt8 × List (List UInt8))} {L : List (List UInt8)} (hb : ¬ b = 0) (hM : M ≤ 2048) (h : exE splT M [] Ts = some L) : XPD b (M : Int) Ts 0 L := by
  have h2 : ¬ ((M : Int) < 0 ∨ 2048 < (M : Int)) := by omega
  have e : ((M : Int)).toNat = M := by omega
  refine ⟨?_, ?_⟩
  · unfold xpE; rw [if_neg hb, if_neg h2, e, h]; rfl
  · unfold xpL; rw [if_neg hb, if_neg h2, e, h]; rfl
theorem exS_succ {l : List (List UInt8)} {k : Nat} {c d : List UInt8} (h : l[k]? = some c) : exS splT (l.take (k + 1)) d = exS splT (l.take k) d ++ splT c d := by
  rw [List.take_add_one, h, exS_app]
  show _ ++ exS splT [c] d = _
  rw [exS_one]
theorem exS_len {n : Nat} {l : List (List UInt8)} {d : List UInt8} (h : gdW n l) : (exS splT l d).length ≤ 256 * l.length := by
  induction l with
  | nil => simp [exS]
  | cons c r ih =>
    have e : exS splT (c :: r) d = splT c d ++ exS splT r d := rfl
    have h1 := spl_len c d (good_len (h c List.mem_cons_self).1)
    have h2 := ih (fun x hx => h x (List.mem_cons_of_mem _ hx))
    rw [e, List.length_append, List.length_cons]
    omega
theorem exO_cons (N M : Nat) (l : List (List UInt8)) (d : List UInt8) (r : List (List UInt8)) (h : N + l.length ≤ M) : exO splT N M l (d :: r) = exO splT N M (exS splT l d) r := by
  show (decide _ && _) = _
  rw [decide_eq_true h]
  rfl
theorem exO_bad (N M : Nat) (l L : List (List UInt8)) (h : ¬ N + l.length ≤ M) : exO splT N M l L = false := by
  cases L with
  | nil => exact decide_eq_false h
  | cons d r =>
    show (decide _ && _) = _
    rw [decide_eq_false h]
    rfl
theorem step_app_st {ops : Array Oper} {o : Oper} {a : Act} {w : World} {K : Act → World → Prop} {Q : Exit → Act → World → Prop} {E : Prop} (hgd : o.guard = none) (s x : Operand)
    (ho : o.op = .call { callee := .builtin .append, args := #[s, x], argTypes := #[33, 33] }) (base : Nat) (v : Value) (m : Nat) (xs : List Value) (hs : a.eval s = v) (hown : w.ownsRow base 9 1 v m xs)
    (p : Option Addr) (n k : Nat) (L : List (List UInt8)) (hx : a.eval x = .slice p n k) (hL : L.length = n) (hr : IRSt w p L) (hm : m + n ≤ 10000000) (hbase : base ≤ w.heap.size)
    (h : ∀ v' w', w'.ownsRow base 9 1 v' (m + n) (xs ++ stx L) → w.grownBy w' v.ownBlock → K (a.put o.dst v') w') : if Region.wanted o (yielded ops a.tmps) = true then Oper.wp Tryz.prog o a w K Q else E := by
  have hw : Region.wanted o (yielded ops a.tmps) = true := by simp [Region.wanted, hgd]
  rw [if_pos hw]
  obtain ⟨iT, hiT, hzT0, hzT1, hzT2⟩ := info_parts info_strY
  cases p with
  | none =>
    have hz : L = [] := by
      cases hc : L with
      | nil => rfl
      | cons z l =>
        obtain ⟨g, o0, e, -⟩ := hr w (Below.refl _ _) 0 z (by rw [hc]; rfl)
        cases e
    subst hz
    have hn : n = 0 := hL.symm
    subst hn
    have hrun : (Builtin.append_ #[33, 33] o.type #[v, .slice none 0 k]).run Tryz.prog w = .ok v w := by
      rcases hown.2 with ⟨rfl, rfl⟩ | ⟨g, cap, cur, rfl, _, _, hnc, _⟩
      · simp [Builtin.append_, run_underlying Tryz.underlying33, sizeOf, typeInfo, hiT, Builtin.lenOf, Builtin.firstCells]
      · simp [Builtin.append_, run_underlying Tryz.underlying33, sizeOf, typeInfo, hiT, Builtin.lenOf, Builtin.firstCells, hnc, storeCells]
    have h9 := h v w (by have e : xs ++ stx [] = xs := by simp [stx]
                         rw [e]; exact hown) ⟨rfl, rfl, rfl, Nat.le_refl _, fun _ _ _ => rfl⟩
    unfold Oper.wp
    simp [execOp, ho, resolve, invoke, builtin, hs, hx, hrun, Result.andThen]
    exact h9
  | some ad =>
    exact wp_append_own w s x 33 ho base 9 iT _ 1 16 Tryz.underlying33 hiT hzT0 hzT1 hzT2 rfl (by decide) v m xs hs hown ad n k (stx L) hx (by simp [stx, hL]) (stx_news hr) (stx_one L) (by unfold maxLen; omega) (by omega) hbase (fun v' w' h1 h2 _ => h v' w' h1 h2)
set_option maxRecDepth 100000 in
set_option maxHeartbeats 16000000 in
theorem dExpand_any (b lim : Int) (V : Value) (Ts : List (List UInt8 × List (List UInt8))) (w : World) (h : RSR w V Ts) (hg : ∀ t ∈ Ts, good t.1 = true ∧ gdW t.1.length t.2) (hs : szC Ts ≤ 128) : Calls Tryz.prog 7 #[.agg #[.int .i64 b, V], .int .i64 lim] w fun e w' => XPQ w b lim Ts e w' := by
  obtain ⟨Z, p, cp, rfl, hZ, hr, hst⟩ := h
  obtain ⟨n, hn⟩ : ∃ n, Z.length = n := ⟨_, rfl⟩
  have hlZ : n ≤ 128 := by
    have := szC_len Ts
    rw [← hZ, List.length_map, hn] at this
    rw [hZ] at this
    omega
  rw [hn]
  obtain ⟨w2, hw2⟩ : ∃ w2, w.alloc (.cells #[.int .i64 b, .slice p n cp] 27 (0, 0)) = w2 := ⟨_, rfl⟩
  have h0 : w2.heap[w.heap.size]? = some (.cells #[.int .i64 b, .slice p n cp] 27 (0, 0)) := by rw [← hw2]; exact alloc_get _ _
  have hB : Below w.heap.size w w2 := by rw [← hw2]; exact belA (Below.refl _ _) _
  have HB : Hid (Below w.heap.size w w2) := hB
  have HK : Hid (∀ W, Below w2.heap.size w2 W → ∀ j, W.cell? ⟨w.heap.size, j, none⟩ = (#[.int .i64 b, .slice p n cp] : Array Value)[j]?) := fun W hW => (cells_block (keepblk3 hW h0)).1
  have HR : Hid (IRR w2 p Z ∧ (∀ z ∈ Z, IRSt w2 z.q z.L) ∧ Z.length = n ∧ Z.map ZT.cont = Ts) := ⟨hr.later hB, fun z hz => (hst z hz).later hB, hn, hZ⟩
  have HGd : Hid (∀ z ∈ Z, good z.c = true ∧ gdW z.c.length z.L ∧ z.L.length ≤ 128) := fun z hz => by
    have hm : z.cont ∈ Ts := by rw [← hZ]; exact List.mem_map_of_mem hz
    obtain ⟨g1, g2⟩ := hg z.cont hm
    have := szC_mem z.cont hm
    exact ⟨g1, g2, by have e : z.cont.2.length = z.L.length := rfl; omega⟩
  obtain ⟨hc0, -⟩ := cells_block h0
  clear h0 hr hB hn hZ hst hg hs
  go_enter Tryz.func7, Tryz.ntmps7
  by_cases hb0 : b = 0
  · subst hb0
    go_wp2_with fail
    go_ret2
    exact xpq_mk (xpd_w _ _) (World.ownsRow_nil _ _ _ _) HB.out
  have e0 : (b == 0) = false := by simpa using hb0
  by_cases hl0 : lim < 0
  · have HX : Hid (XPD b lim Ts 1 []) := xpd_a _ hb0 (.inl hl0)
    clear hb0
    go_wp2_with fail
    go_ret2
    exact xpq_mk HX.out (World.ownsRow_nil _ _ _ _) HB.out
  by_cases hl1 : 2048 < lim
  · have HX : Hid (XPD b lim Ts 1 []) := xpd_a _ hb0 (.inr hl1)
    clear hb0
    go_wp2_with fail
    go_ret2
    exact xpq_mk HX.out (World.ownsRow_nil _ _ _ _) HB.out
  obtain ⟨M, rfl⟩ : ∃ M : Nat, lim = M := ⟨lim.toNat, by omega⟩
  have hM : M ≤ 2048 := by omega
  have HNo : Hid (exE splT M [] Ts = none → XPD b (M : Int) Ts 3 []) := fun h => xpd_n hb0 hM h
  have HYs : Hid (∀ L, exE splT M [] Ts = some L → XPD b (M : Int) Ts 0 L) := fun L h => xpd_s hb0 hM h
  clear hb0
  go_wp2_with fail
  go_loopw [6, 7] (fun v6 v7 wr => ∃ (i : Nat) (out : List (List UInt8)), v7 = .int .i64 (i : Int) ∧ i ≤ n ∧ out.length ≤ M ∧ Hid (exE splT M [] Ts = exE splT M out (Ts.drop i)) ∧ wr.ownsRow w2.heap.size 9 1 v6 out.length (stx out) ∧ Below w2.heap.size w2 wr) (fun _ v7 _ => n - (intOf v7).toNat)
  case atStart => exact ⟨0, [], rfl, Nat.zero_le _, Nat.zero_le _, rfl, World.ownsRow_nil _ _ _ _, Below.refl _ _⟩
  case round =>
    clear hc0 hw2
    obtain ⟨i, out, rfl, hi, hol, HX, hown, hBr⟩ := hrel
    have hc := HK.out wr hBr
    obtain ⟨p6, c6, rfl⟩ := shapeQ1 hown
    by_cases hlt : i < n
    · have j1 : (i : Int) < (n : Int) := by omega
      have j0 : (0 : Int) ≤ (i : Int) := by omega
      obtain ⟨z, hz⟩ : ∃ z, Z[i]? = some z := ⟨_, List.getElem?_eq_getElem (by rw [HR.out.2.2.1]; exact hlt)⟩
      obtain ⟨gz, oz, rfl, y0, y1⟩ := HR.out.1 wr hBr i z hz
      have HRI : Hid (∀ W, Below wr.heap.size wr W → W.cell? ⟨gz, oz + i * 2, none⟩ = some (.string ⟨z.c.toArray⟩) ∧ W.cell? ⟨gz, oz + i * 2 + 1, none⟩ = some (.slice z.q z.L.length z.k) ∧ (∀ j, W.cell? ⟨w.heap.size, j, none⟩ = (#[.int .i64 b, .slice (some ⟨gz, oz, none⟩) n cp] : Array Value)[j]?)) := fun W hW => by
        obtain ⟨g2, o2, e2, a1, a2⟩ := HR.out.1 W (bel0 hBr hW) i z hz
        injection e2 with e2
        injection e2 with e3 e4 _
        subst e3
        subst e4
        exact ⟨a1, a2, HK.out W (bel0 hBr hW)⟩
      have HD : Hid (Ts.drop i = (z.c, z.L) :: Ts.drop (i + 1)) := by
        unfold Hid
        have hlz : i < Z.length := by rw [HR.out.2.2.1]; exact hlt
        rw [← HR.out.2.2.2, ← List.map_drop, ← List.map_drop, List.drop_eq_getElem_cons hlz, List.map_cons]
        have e : Z[i] = z := by
          rw [List.getElem?_eq_getElem hlz] at hz
          exact Option.some.inj hz
        rw [e]
        rfl
      have HZ : Hid (good z.c = true ∧ gdW z.c.length z.L ∧ IRSt w2 z.q z.L) := ⟨(HGd.out z (List.mem_of_getElem? hz)).1, (HGd.out z (List.mem_of_getElem? hz)).2.1, HR.out.2.1 z (List.mem_of_getElem? hz)⟩
      have hnL : z.L.length ≤ 128 := (HGd.out z (List.mem_of_getElem? hz)).2.2
      obtain ⟨c, q, kz, L⟩ := z
      have y0 : wr.cell? ⟨gz, oz + i * 2, none⟩ = some (.string ⟨c.toArray⟩) := y0
      have y1 : wr.cell? ⟨gz, oz + i * 2 + 1, none⟩ = some (.slice q L.length kz) := y1
      have HRI : Hid (∀ W, Below wr.heap.size wr W → W.cell? ⟨gz, oz + i * 2, none⟩ = some (.string ⟨c.toArray⟩) ∧ W.cell? ⟨gz, oz + i * 2 + 1, none⟩ = some (.slice q L.length kz) ∧ (∀ j, W.cell? ⟨w.heap.size, j, none⟩ = (#[.int .i64 b, .slice (some ⟨gz, oz, none⟩) n cp] : Array Value)[j]?)) := HRI
      have HD : Hid (Ts.drop i = (c, L) :: Ts.drop (i + 1)) := HD
      have HZ : Hid (good c = true ∧ gdW c.length L ∧ IRSt w2 q L) := HZ
      have hnL : L.length ≤ 128 := hnL
      obtain ⟨nL, hL⟩ : ∃ m, L.length = m := ⟨_, rfl⟩
      rw [hL] at y1 HRI hnL
      obtain ⟨N, hN⟩ : ∃ m, out.length = m := ⟨_, rfl⟩
      have HLN : Hid (L.length = nL ∧ out.length = N) := ⟨hL, hN⟩
      rw [hN] at hown hol ⊢
      have HEX : Hid (exE splT M [] Ts = if exO splT N M [c] L = true then exE splT M (out ++ exT splT [c] L) (Ts.drop (i + 1)) else none) := by
        unfold Hid
        rw [HX.out, HD.out, ← hN]
        rfl
      have HOW : Hid (wr.ownsRow w2.heap.size 9 1 (.slice p6 N c6) N (stx out) ∧ Below w2.heap.size w2 wr) := ⟨hown, hBr⟩
      clear hz hL hN HX HD hown hBr
      by_cases hov : N + 1 ≤ M
      · have k1 : ¬ (M : Int) < (N : Int) + 1 := by omega
        go_wp2_with fail
        go_loopw [8, 9] (fun v8 v9 wm => ∃ (j : Nat) (l : List (List UInt8)), v9 = .int .i64 (j : Int) ∧ j ≤ nL ∧ N + l.length ≤ M ∧ Hid (exO splT N M [c] L = exO splT N M l (L.drop j) ∧ exT splT [c] L = exT splT l (L.drop j) ∧ gdW c.length l) ∧ wm.ownsRow wr.heap.size 9 1 v8 l.length (stx l) ∧ Below wr.heap.size wr wm) (fun _ v9 _ => nL - (intOf v9).toNat)
        case atStart => exact ⟨0, [c], rfl, Nat.zero_le _, hov, ⟨rfl, rfl, fun x hx => by rw [List.mem_singleton] at hx; rw [hx]; exact ⟨HZ.out.1, rfl⟩⟩, ⟨by simp [stx], .inr ⟨wr.heap.size, 1, _, rfl, Nat.le_refl _, alloc_get _ _, by simp, by simp [maxLen], by simp, by simp [stx]⟩⟩, belA (Below.refl _ _) _⟩
        case round =>
          clear y0 y1 hc k1
          obtain ⟨j, l, rfl, hj, hNl, HLv, hol8, hBm⟩ := hrel
          rename World => wm
          have HBM : Hid (Below wr.heap.size wr wm) := hBm
          obtain ⟨z0, z1, zc⟩ := HRI.out wm hBm
          obtain ⟨p8, c8, rfl⟩ := shapeQ1 hol8
          obtain ⟨nl, hnl⟩ : ∃ m, l.length = m := ⟨_, rfl⟩
          have HNL : Hid (l.length = nl) := hnl
          rw [hnl] at hol8 hNl ⊢
          have HO8 : Hid (wm.ownsRow wr.heap.size 9 1 (.slice p8 nl c8) nl (stx l)) := hol8
          clear hol8 hnl hBm
          by_cases hjl : j < nL
          · have q1 : (j : Int) < (nL : Int) := by omega
            have q0 : (0 : Int) ≤ (j : Int) := by omega
            obtain ⟨d, hd⟩ : ∃ d, L[j]? = some d := ⟨_, List.getElem?_eq_getElem (by rw [HLN.out.1]; exact hjl)⟩
            have HDC : Hid (∀ W, Below wm.heap.size wm W → ∃ g o, q = some ⟨g, o, none⟩ ∧ W.cell? ⟨g, o + j, none⟩ = some (.string ⟨d.toArray⟩)) := fun W hW => HZ.out.2.2 W (bel0 HOW.out.2 (bel0 HBM.out hW)) j d hd
            have HDR : Hid (L.drop j = d :: L.drop (j + 1)) := by
              unfold Hid
              have hlj : j < L.length := by rw [HLN.out.1]; exact hjl
              rw [List.drop_eq_getElem_cons hlj]
              rw [List.getElem?_eq_getElem hlj] at hd
              rw [Option.some.inj hd]
            have GD : Hid (good d = true ∧ d.length = c.length) := HZ.out.2.1 d (List.mem_of_getElem? hd)
            clear hd
            go_wp2_with fail
            go_loopw [10, 11] (fun v10 v11 wk => ∃ k : Nat, v11 = .int .i64 (k : Int) ∧ k ≤ nl ∧ wk.ownsRow wm.heap.size 9 1 v10 (exS splT (l.take k) d).length (stx (exS splT (l.take k) d)) ∧ Below wm.heap.size wm wk) (fun _ v11 _ => nl - (intOf v11).toNat)
            case atStart => exact ⟨0, rfl, Nat.zero_le _, World.ownsRow_nil _ _ _ _, Below.refl _ _⟩
            case round =>
              clear z0 z1 zc
              obtain ⟨k, rfl, hk, hom, hBk⟩ := hrel
              rename World => wk
              obtain ⟨z0, z1, zc⟩ := HRI.out wk (bel0 HBM.out hBk)
              obtain ⟨gq, oq, rfl, hdc⟩ := HDC.out wk hBk
              obtain ⟨p10, c10, rfl⟩ := shapeQ1 hom
              by_cases hkl : k < nl
              · have r1 : (k : Int) < (nl : Int) := by omega
                have r0 : (0 : Int) ≤ (k : Int) := by omega
                obtain ⟨x, hx⟩ : ∃ x, l[k]? = some x := ⟨_, List.getElem?_eq_getElem (by rw [HNL.out]; exact hkl)⟩
                obtain ⟨g8, o8, rfl, hxc⟩ := IRSt_own HO8.out HNL.out wk hBk k x hx
                have GX : Hid (good x = true ∧ x.length = c.length) := HLv.out.2.2 x (List.mem_of_getElem? hx)
                have HSX : Hid (exS splT (l.take (k + 1)) d = exS splT (l.take k) d ++ splT x d) := exS_succ hx
                have HML : (exS splT (l.take k) d).length ≤ 256 * (l.take k).length := exS_len (n := c.length) (fun y hy => HLv.out.2.2 y (List.mem_of_mem_take hy))
                have hlk : (l.take k).length ≤ 2048 := by rw [List.length_take, HNL.out]; omega
                have hsl := spl_len x d (good_len GX.out.1)
                obtain ⟨m, hm⟩ : ∃ m, exS splT (l.take k) d = m := ⟨_, rfl⟩
                rw [hm] at hom HSX HML ⊢
                obtain ⟨nm, hnm⟩ : ∃ a, m.length = a := ⟨_, rfl⟩
                rw [hnm] at hom HML ⊢
                have HSP : Hid (∀ W, Calls Tryz.prog 24 #[.string ⟨x.toArray⟩, .string ⟨d.toArray⟩] W fun e w' => ∃ v, e = .returned v ∧ w'.ownsRow W.heap.size 9 1 v (splT x d).length (stx (splT x d)) ∧ Below W.heap.size W w') := fun W => dsplit_any x d W GX.out.1 GD.out.1
                have HOM : Hid (wk.ownsRow wm.heap.size 9 1 (.slice p10 nm c10) nm (stx m) ∧ Below wm.heap.size wm wk ∧ m.length = nm) := ⟨hom, hBk, hnm⟩
                clear hx hom hBk hm hnm
                go_upto_region 19 with fail
                go_region_law ((first | (refine step_app_st (by rfl) _ _ (by rfl) wm.heap.size (.slice p10 nm c10) nm (stx m) (by rfl) (own_belQ HOM.out.1 hb5') p5 _ c5 (splT x d) (by rfl) rfl (IRSt_own o5 rfl) (by omega) (bel0 HOM.out.2.1 hb5').size ?_; intro v9 w9 o9 g9) | (go_simp; go_at_call 24; refine (HSP.out _).mono ?_; rintro e w5 ⟨v5, rfl, o5, hb5⟩; obtain ⟨p5, c5, rfl⟩ := shapeQ1 o5; have hb5' : Below wk.heap.size wk w5 := (by first | exact hb5 | exact und hb5))))
                all_goals
                  have HFI : Hid (w9.ownsRow wm.heap.size 9 1 v9 (exS splT (l.take (k + 1)) d).length (stx (exS splT (l.take (k + 1)) d)) ∧ Below wm.heap.size wm w9) := by
                    refine ⟨?_, app_belC (bel0 HOM.out.2.1 hb5') (own_belQ HOM.out.1 hb5') g9⟩
                    have es : stx (m ++ splT x d) = stx m ++ stx (splT x d) := by simp [stx]
                    rw [HSX.out, es, List.length_append, HOM.out.2.2]
                    exact o9
                  clear z0 z1 zc hdc hxc o9 g9 o5 hb5 hb5'
                  go_wp2
                  go_roundw
                  case rel => exact ⟨k + 1, by go_num, by omega, HFI.out.1, HFI.out.2⟩
                  case measure => simp [intOf]; omega
              · have r1 : ¬ (k : Int) < (nl : Int) := by omega
                have e : l.take k = l := List.take_of_length_le (by rw [HNL.out]; omega)
                have HML : (exS splT l d).length ≤ 256 * l.length := exS_len (n := c.length) HLv.out.2.2
                have HGM : Hid (gdW c.length (exS splT l d)) := gdW_exS HLv.out.2.2 GD.out.1 GD.out.2
                rw [e] at hom ⊢
                rw [HNL.out] at HML
                have HO1 : Hid (exO splT N M [c] L = exO splT N M (exS splT l d) (L.drop (j + 1)) ∧ exT splT [c] L = exT splT (exS splT l d) (L.drop (j + 1))) := by
                  refine ⟨?_, ?_⟩
                  · rw [HLv.out.1, HDR.out, exO_cons _ _ _ _ _ (by rw [HNL.out]; exact hNl)]
                  · rw [HLv.out.2.1, HDR.out]
                    rfl
                obtain ⟨m, hm⟩ : ∃ m, exS splT l d = m := ⟨_, rfl⟩
                rw [hm] at hom HML HO1 HGM ⊢
                have HOM : Hid (wk.ownsRow wm.heap.size 9 1 (.slice p10 m.length c10) m.length (stx m) ∧ Below wm.heap.size wm wk) := ⟨hom, hBk⟩
                clear hom hBk hm e
                by_cases hfit : N + m.length ≤ M
                · have k2 : ¬ (M : Int) < (N : Int) + (m.length : Int) := by omega
                  go_wp2_with fail
                  go_roundw
                  case rel => exact ⟨j + 1, m, by go_num, by omega, hfit, ⟨HO1.out.1, HO1.out.2, HGM.out⟩, own_base HOM.out.1 HBM.out.size, bel0 HBM.out HOM.out.2⟩
                  case measure => simp [intOf]; omega
                · have k2 : (M : Int) < (N : Int) + (m.length : Int) := by omega
                  have HF : Hid (XPD b (M : Int) Ts 3 []) := HNo.out (by rw [HEX.out, HO1.out.1, exO_bad _ _ _ _ hfit]; rfl)
                  have HW : Hid (Below w.heap.size w wk) := bel0 HB.out (bel0 HOW.out.2 (bel0 HBM.out HOM.out.2))
                  go_wp2_with fail
                  go_ret2
                  exact xpq_mk HF.out (World.ownsRow_nil _ _ _ _) HW.out
          · have q1 : ¬ (j : Int) < (nL : Int) := by omega
            have HFN : Hid (exO splT N M [c] L = true ∧ exT splT [c] L = l) := by
              have e : L.drop j = [] := List.drop_eq_nil_of_le (by rw [HLN.out.1]; omega)
              refine ⟨?_, ?_⟩
              · rw [HLv.out.1, e]
                exact decide_eq_true (by rw [HNL.out]; exact hNl)
              · rw [HLv.out.2.1, e]
                rfl
            go_wp2_with (at_builtin; refine app_st rfl _ _ rfl w2.heap.size (.slice p6 N c6) N (stx out) rfl (own_belQ HOW.out.1 HBM.out) p8 nl c8 l rfl HNL.out (IRSt_own HO8.out HNL.out) (by omega) (bel0 HOW.out.2 HBM.out).size ?_; intro v9 w9 o9 g9)
            go_roundw
            case rel =>
              refine ⟨i + 1, out ++ l, by go_num, by omega, ?_, ?_, ?_, app_belC (bel0 HOW.out.2 HBM.out) (own_belQ HOW.out.1 HBM.out) g9⟩
              · rw [List.length_append, HLN.out.2, HNL.out]
                exact hNl
              · unfold Hid
                rw [HEX.out, HFN.out.1, HFN.out.2]
                rfl
              · have es : stx (out ++ l) = stx out ++ stx l := by simp [stx]
                rw [es, List.length_append, HLN.out.2, HNL.out]
                exact o9
            case measure => simp [intOf]; omega
      · have k1 : (M : Int) < (N : Int) + 1 := by omega
        have HF : Hid (XPD b (M : Int) Ts 3 []) := HNo.out (by rw [HEX.out, exO_bad _ _ _ _ (by simpa using hov)]; rfl)
        have HW : Hid (Below w.heap.size w wr) := bel0 HB.out HOW.out.2
        go_wp2_with fail
        go_ret2
        exact xpq_mk HF.out (World.ownsRow_nil _ _ _ _) (belA HW.out _)
    · have j1 : ¬ (i : Int) < (n : Int) := by omega
      have HF : Hid (XPD b (M : Int) Ts 0 out) := by
        refine HYs.out out ?_
        have e : Ts.drop i = [] := List.drop_eq_nil_of_le (by have := HR.out.2.2.1; rw [← HR.out.2.2.2, List.length_map]; omega)
        rw [HX.out, e]
        rfl
      have HO : Hid (wr.ownsRow w.heap.size 9 1 (.slice p6 out.length c6) out.length (stx out) ∧ Below w.heap.size w wr) := ⟨own_base hown HB.out.size, bel0 HB.out hBr⟩
      clear hown hBr
      go_wp2_with fail
      go_ret2
      exact xpq_mk HF.out HO.out.1 HO.out.2
end Go.Proofs.YtmdnapognaddbaaGreatDoor
