import Derived.Test.YtfhlgncpleleaaaDoorUO
import Derived.Deep.CutRange
namespace Go.Proofs.YtfhlgncpleleaaaDoor
open Go.RowKit Go.Shelf
structure LBP (w W : World) (z n cg : Nat) (cs : Array Value) (p : Option Addr) (Gs : List GE) : Prop where
  len : Gs.length = n
  wg : wgA (grs Gs) ≤ 1000000000
  box : W.heap[z]? = some (.cells cs 25 (0, 0))
  row : GRW W w.heap.size Gs (.slice p n cg)
  bel : Below w.heap.size w W
theorem LBP.below {w W X : World} {z n cg : Nat} {cs : Array Value} {p : Option Addr} {Gs : List GE} (h : LBP w W z n cg cs p Gs) (hb : Below W.heap.size W X) : LBP w X z n cg cs p Gs := ⟨h.len, h.wg, keepZ hb h.box, h.row.below hb, bel0Z h.bel hb⟩
theorem set_offU {W : World} {B n z g j T sz : Nat} {v u : Value} {xs : List Value} {cs : Array Value} (h : W.ownsRow B T sz v n xs) (hv : v.ownBlock = some g) (hne : T ≠ 25) (hz : W.heap[z]? = some (.cells cs 25 (0, 0))) : (W.setCell ⟨g, j, none⟩ u).heap[z]? = some (.cells cs 25 (0, 0)) :=
  ((gr_setZ W g j u).block z (lt_getZ hz) (fun e => off_boxV h hz hne (by rw [hv, e]))).trans hz
theorem set_belU {w W : World} {n g j T sz : Nat} {v u : Value} {xs : List Value} (h : W.ownsRow w.heap.size T sz v n xs) (hv : v.ownBlock = some g) (hb : Below w.heap.size w W) : Below w.heap.size w (W.setCell ⟨g, j, none⟩ u) :=
  bel_grZ hb (gr_setZ W g j u) (fun k e => by injection e with e; subst e; exact (h.lt _ hv).1)
theorem LBP.fd {w W : World} {z n cg i G : Nat} {cs : Array Value} {Gs : List GE} {e : GE} (b : Bool) (h : LBP w W z n cg cs (some ⟨G, 0, none⟩) Gs) (he : Gs[i]? = some e) : LBP w (W.setCell ⟨G, i * 9 + 1, none⟩ (.bool b)) z n cg cs (some ⟨G, 0, none⟩) (Gs.set i (e.fdE b)) :=
  ⟨by rw [List.length_set]; exact h.len, Nat.le_trans (wgG_set he (wg_fd e b)) h.wg, set_offU h.row.row rfl (by decide) h.box, h.row.fdV b h.len he, set_belU h.row.row rfl h.bel⟩
theorem LBP.sp {w W : World} {z n cg i G : Nat} {cs : Array Value} {Gs : List GE} {e : GE} (x : List UInt8) (hx : x.length ≤ 6) (h : LBP w W z n cg cs (some ⟨G, 0, none⟩) Gs) (he : Gs[i]? = some e) : LBP w (W.setCell ⟨G, i * 9 + 2, none⟩ (.string ⟨x.toArray⟩)) z n cg cs (some ⟨G, 0, none⟩) (Gs.set i (e.spE x)) :=
  ⟨by rw [List.length_set]; exact h.len, Nat.le_trans (wgG_set he (wg_sp e x hx)) h.wg, set_offU h.row.row rfl (by decide) h.box, h.row.spV x h.len he, set_belU h.row.row rfl h.bel⟩
theorem LBP.line {w W : World} {z n cg i k : Nat} {cs : Array Value} {p : Option Addr} {Gs : List GE} {e : GE} (x : List UInt8) (hx : x.length ≤ 6) (h : LBP w W z n cg cs p Gs) (he : Gs[i]? = some e) (hk : k < e.r.li.length) : LBP w (W.setCell ⟨e.g3, k, none⟩ (.string ⟨x.toArray⟩)) z n cg cs p (Gs.set i (e.lineE k x)) :=
  ⟨by rw [List.length_set]; exact h.len, Nat.le_trans (wgG_set he (wg_line e k x hx)) h.wg, set_offU (h.row.each i e he).o3 rfl (by decide) h.box, h.row.lineV x he hk, set_belU (h.row.each i e he).o3 rfl h.bel⟩
theorem LBP.port {w W : World} {z n cg i k : Nat} {cs : Array Value} {p : Option Addr} {Gs : List GE} {e : GE} (x : List UInt8) (hx : x.length ≤ 6) (h : LBP w W z n cg cs p Gs) (he : Gs[i]? = some e) (hk : k < e.r.po.length) : LBP w (W.setCell ⟨e.g1, k, none⟩ (.string ⟨x.toArray⟩)) z n cg cs p (Gs.set i (e.portE k x)) :=
  ⟨by rw [List.length_set]; exact h.len, Nat.le_trans (wgG_set he (wg_port e k x hx)) h.wg, set_offU (h.row.each i e he).o1 rfl (by decide) h.box, h.row.portV x he hk, set_belU (h.row.each i e he).o1 rfl h.bel⟩
theorem own_atsV {W : World} {B i n c G : Nat} {Gs : List GE} {e : GE} (h : GRW W B Gs (.slice (some ⟨G, 0, none⟩) n c)) (he : Gs[i]? = some e) (j : Nat) (v : Value) (hv : e.v.vs[j]? = some v) : W.cell? ⟨G, i * 9 + j, none⟩ = some v := own_atZ h.row (gvs_at Gs i e j v he hv)
theorem LBP.lens {w W : World} {z n cg i : Nat} {cs : Array Value} {p : Option Addr} {Gs : List GE} {e : GE} (h : LBP w W z n cg cs p Gs) (he : Gs[i]? = some e) : e.r.po.length ≤ 1000000000 ∧ e.r.li.length ≤ 1000000000 := by
  have h4 := wgA_mem (grs Gs) e.r (List.mem_map_of_mem (List.mem_of_getElem? he))
  have h5 := h.wg
  have q1 := wgL_len e.r.po
  have q3 := wgL_len e.r.li
  unfold wgR at h4
  exact ⟨by omega, by omega⟩
theorem get_setU {Gs : List GE} {i : Nat} {e : GE} (e' : GE) (he : Gs[i]? = some e) : (Gs.set i e')[i]? = some e' := List.getElem?_set_self (List.getElem?_eq_some_iff.1 he).1
theorem row_frU {W : World} {B n m T sz g c : Nat} {xs : List Value} (h : W.ownsRow B T sz (.slice (some ⟨g, 0, none⟩) m c) n xs) : ∃ cur, W.heap[g]? = some (.cells cur T (0, 0)) := by
  rcases h.2 with ⟨e, _⟩ | ⟨g2, c2, cur, e, _, hg, _⟩
  · cases e
  · injection e with e
    injection e with e
    injection e with e
    subst e
    exact ⟨cur, hg⟩
theorem own_atsU {W : World} {B i n c : Nat} {p : Option Addr} {Gs : List GE} {e : GE} (h : GRW W B Gs (.slice p n c)) (he : Gs[i]? = some e) : ∃ G, p = some ⟨G, 0, none⟩ ∧ ∀ (j : Nat) (v : Value), e.v.vs[j]? = some v → W.cell? ⟨G, i * 9 + j, none⟩ = some v := by
  obtain ⟨G, rfl⟩ := own_someZ h.row (by have := (List.getElem?_eq_some_iff.1 he).1; omega)
  exact ⟨G, rfl, fun j v hv => own_atZ h.row (gvs_at Gs i e j v he hv)⟩
set_option maxRecDepth 100000 in
set_option maxHeartbeats 16000000 in
theorem law_any (s : RS) (Es : List VR) (q : Option Addr) (n c : Nat) (w : World) (hn : Es.length = n) (hr : RDR w q Es) (ht : TBL w) (c0 : -9223372036854775808 ≤ s.c) (c1 : s.c ≤ 9223372036854775807) (l0 : -9223372036854775808 ≤ s.l) (l1 : s.l ≤ 9223372036854775807) (hw : wgA (rps Es) ≤ 1000000000) :
    Calls Tryd.prog 3 #[.agg #[.int .i64 s.k, .int .i64 s.c, .int .i64 s.t, .int .i64 s.l, .slice q n c]] w fun e w' => e = .returned (.bool true) ∧ Below w.heap.size w w' := by
  obtain ⟨k, cd, tx, ln⟩ := s
  simp only
  simp only at c0 c1 l0 l1
  have HB : Hid (∀ Fs : List VR, wgA (rps Fs) ≤ 1000000000 → BND ⟨k, cd, tx, ln⟩ Fs) := fun Fs hf => bnd_of ⟨k, cd, tx, ln⟩ Fs c0 c1 l0 l1 hf
  have HR : Hid (RDR w q Es ∧ Es.length = n ∧ wgA (rps Es) ≤ 1000000000 ∧ TBL w) := ⟨hr, hn, hw, ht⟩
  have hnn : n ≤ 1000000000 := by rw [← hn]; exact (HB.out Es hw).cnt
  clear hr hn hw ht c0 c1 l0 l1
  have hb1 : Below w.heap.size w (w.alloc (.cells #[.int .i64 k, .int .i64 cd, .int .i64 tx, .int .i64 ln, .slice q n c] 25 (0, 0))) := belAZ (Below.refl _ _) _
  have X1 := twice_any ⟨k, cd, tx, ln⟩ Es q n c (w.alloc (.cells #[.int .i64 k, .int .i64 cd, .int .i64 tx, .int .i64 ln, .slice q n c] 25 (0, 0))) HR.out.2.1 (HR.out.1.later hb1) (HB.out Es HR.out.2.2.1)
  simp only at X1
  have HB1 : Hid (Below w.heap.size w (w.alloc (.cells #[.int .i64 k, .int .i64 cd, .int .i64 tx, .int .i64 ln, .slice q n c] 25 (0, 0)))) := hb1
  have hsr : (w.alloc (.cells #[.int .i64 k, .int .i64 cd, .int .i64 tx, .int .i64 ln, .slice q n c] 25 (0, 0))).heap[w.heap.size]? = some (.cells #[.int .i64 k, .int .i64 cd, .int .i64 tx, .int .i64 ln, .slice q n c] 25 (0, 0)) := alloc_getZ _ _
  have HSR : Hid ((w.alloc (.cells #[.int .i64 k, .int .i64 cd, .int .i64 tx, .int .i64 ln, .slice q n c] 25 (0, 0))).heap[w.heap.size]? = some (.cells #[.int .i64 k, .int .i64 cd, .int .i64 tx, .int .i64 ln, .slice q n c] 25 (0, 0))) := hsr
  clear hb1 hsr
  go_enter Tryd.func3, Tryd.ntmps3
  go_wp2_with fail
  refine X1.mono ?_
  clear X1
  rintro _ w2 ⟨pt, ct, Ts, rfl, GT, eT, bT⟩
  obtain ⟨z3, hz3⟩ : ∃ z, w2.heap.size = z := ⟨_, rfl⟩
  obtain ⟨w3, hw3⟩ : ∃ w3, w2.alloc (.cells #[.int .i64 k, .int .i64 cd, .int .i64 tx, .int .i64 ln, .slice pt n ct] 25 (0, 0)) = w3 := ⟨_, rfl⟩
  have b3 : Below w.heap.size w w3 := by rw [← hw3]; exact belAZ (bel0Z HB1.out bT) _
  have HS3 : Hid (w3.heap[w.heap.size]? = some (.cells #[.int .i64 k, .int .i64 cd, .int .i64 tx, .int .i64 ln, .slice q n c] 25 (0, 0)) ∧ w3.heap[z3]? = some (.cells #[.int .i64 k, .int .i64 cd, .int .i64 tx, .int .i64 ln, .slice pt n ct] 25 (0, 0)) ∧ GRW w3 w.heap.size Ts (.slice pt n ct) ∧ Below w.heap.size w w3 ∧ w2.alloc (.cells #[.int .i64 k, .int .i64 cd, .int .i64 tx, .int .i64 ln, .slice pt n ct] 25 (0, 0)) = w3 ∧ Ts.map (fun e : GE => e.r) = rps Es) := by
    refine ⟨?_, ?_, ?_, b3, hw3, eT⟩
    · rw [← hw3]
      exact keepZ (belAZ bT _) HSR.out
    · rw [← hw3, ← hz3]
      exact alloc_getZ _ _
    · rw [← hw3]
      exact (GT.base HB1.out.size).below (belAZ (Below.refl _ _) _)
  have X2 := twice_any ⟨k, cd, tx, ln⟩ Es q n c w3 HR.out.2.1 (HR.out.1.later b3) (HB.out Es HR.out.2.2.1)
  simp only at X2
  have cb := (cellsZ HS3.out.1).1
  clear GT eT bT b3 hw3
  go_upto_region 2 with fail
  rw [HS3.out.2.2.2.2.1]
  go_wp2_with fail
  refine X2.mono ?_
  clear X2 cb
  rintro _ w4 ⟨pg, cg, Gs, rfl, GG, eG, bG⟩
  obtain ⟨z4, hz4⟩ : ∃ z, w4.heap.size = z := ⟨_, rfl⟩
  obtain ⟨w5, hw5⟩ : ∃ w5, w4.alloc (.cells #[.int .i64 k, .int .i64 cd, .int .i64 tx, .int .i64 ln, .slice pg n cg] 25 (0, 0)) = w5 := ⟨_, rfl⟩
  have b5 : Below w3.heap.size w3 w5 := by rw [← hw5]; exact belAZ bG _
  have HS5 : Hid (w5.heap[z3]? = some (.cells #[.int .i64 k, .int .i64 cd, .int .i64 tx, .int .i64 ln, .slice pt n ct] 25 (0, 0)) ∧ w5.heap[z4]? = some (.cells #[.int .i64 k, .int .i64 cd, .int .i64 tx, .int .i64 ln, .slice pg n cg] 25 (0, 0)) ∧ GRW w5 w.heap.size Ts (.slice pt n ct) ∧ GRW w5 w.heap.size Gs (.slice pg n cg) ∧ Below w.heap.size w w5) := by
    refine ⟨keepZ b5 HS3.out.2.1, ?_, HS3.out.2.2.1.below b5, ?_, bel0Z HS3.out.2.2.2.1 b5⟩
    · rw [← hw5, ← hz4]
      exact alloc_getZ _ _
    · rw [← hw5]
      exact (GG.base HS3.out.2.2.2.1.size).below (belAZ (Below.refl _ _) _)
  have HE : Hid (Ts.map (fun e : GE => e.r) = rps Es ∧ Gs.map (fun e : GE => e.r) = rps Es ∧ w4.alloc (.cells #[.int .i64 k, .int .i64 cd, .int .i64 tx, .int .i64 ln, .slice pg n cg] 25 (0, 0)) = w5 ∧ rps (gvr Gs) = rps Es ∧ rps (gvr Ts) = rps Es) := ⟨HS3.out.2.2.2.2.2, eG, hw5, (rps_gvr Gs).trans eG, (rps_gvr Ts).trans HS3.out.2.2.2.2.2⟩
  have HN : Hid ((gvr Gs).length = n ∧ (gvr Ts).length = n) := by
    have a1 : (rps (gvr Gs)).length = (rps Es).length := by rw [HE.out.2.2.2.1]
    have a2 : (rps (gvr Ts)).length = (rps Es).length := by rw [HE.out.2.2.2.2]
    unfold rps at a1 a2
    rw [List.length_map, List.length_map] at a1 a2
    exact ⟨a1.trans HR.out.2.1, a2.trans HR.out.2.1⟩
  have X3 := render_any ⟨k, cd, tx, ln⟩ (gvr Gs) pg n cg w5 HN.out.1 HS5.out.2.2.2.1.read (HR.out.2.2.2.below HS5.out.2.2.2.2) (HB.out _ (by rw [HE.out.2.2.2.1]; exact HR.out.2.2.1))
  simp only [HE.out.2.2.2.1] at X3
  obtain ⟨TX, hTX⟩ : ∃ T, rnS ⟨k, cd, tx, ln⟩ (rps Es) = T := ⟨_, rfl⟩
  rw [hTX] at X3
  have HTX : Hid (rnS ⟨k, cd, tx, ln⟩ (rps Es) = TX) := hTX
  clear GG eG bG b5 hw5 HS3 HSR HB1 hTX
  have cg4 := (cellsZ HS5.out.2.1).1
  go_upto_region 3 with fail
  rw [HE.out.2.2.1]
  go_wp2_with fail
  refine X3.mono ?_
  clear X3
  rintro _ w6 ⟨rfl, b6⟩
  have H0 : Hid (w6.heap[z3]? = some (.cells #[.int .i64 k, .int .i64 cd, .int .i64 tx, .int .i64 ln, .slice pt n ct] 25 (0, 0)) ∧ w6.heap[z4]? = some (.cells #[.int .i64 k, .int .i64 cd, .int .i64 tx, .int .i64 ln, .slice pg n cg] 25 (0, 0)) ∧ GRW w6 w.heap.size Ts (.slice pt n ct) ∧ GRW w6 w.heap.size Gs (.slice pg n cg) ∧ Below w.heap.size w w6) := ⟨keepZ b6 HS5.out.1, keepZ b6 HS5.out.2.1, HS5.out.2.2.1.below b6, HS5.out.2.2.2.1.below b6, bel0Z HS5.out.2.2.2.2 b6⟩
  clear HS5 b6 cg4
  go_wp2_with fail
  go_loopw [6, 7] (fun v6 v7 wr => ∃ i : Nat, v6 = .int .i64 (i : Int) ∧ i ≤ n ∧ Hid (wr.heap[z3]? = some (.cells #[.int .i64 k, .int .i64 cd, .int .i64 tx, .int .i64 ln, .slice pt n ct] 25 (0, 0)) ∧ wr.heap[z4]? = some (.cells #[.int .i64 k, .int .i64 cd, .int .i64 tx, .int .i64 ln, .slice pg n cg] 25 (0, 0)) ∧ GRW wr w.heap.size Ts (.slice pt n ct) ∧ GRW wr w.heap.size Gs (.slice pg n cg) ∧ Below w.heap.size w wr)) (fun v6 v7 _ => n - (intOf v6).toNat)
  case atStart => exact ⟨0, rfl, Nat.zero_le _, H0⟩
  case round =>
    clear H0
    obtain ⟨i, rfl, hi, HL⟩ := hrel
    have cg4 := (cellsZ HL.out.2.1).1
    by_cases hlt : i < n
    · have i0 : (0 : Int) ≤ (i : Int) := by omega
      have i1 : (i : Int) < (n : Int) := by omega
      obtain ⟨e, he⟩ : ∃ e, Gs[i]? = some e := ⟨_, List.getElem?_eq_getElem (by have := HN.out.1; unfold gvr at this; rw [List.length_map] at this; omega)⟩
      obtain ⟨f, hf⟩ : ∃ e, Ts[i]? = some e := ⟨_, List.getElem?_eq_getElem (by have := HN.out.2; unfold gvr at this; rw [List.length_map] at this; omega)⟩
      have hef : f.r = e.r := by
        have a : (Gs.map (fun e : GE => e.r))[i]? = some e.r := by rw [List.getElem?_map, he]; rfl
        have b : (Ts.map (fun e : GE => e.r))[i]? = some f.r := by rw [List.getElem?_map, hf]; rfl
        rw [HE.out.2.1, ← HE.out.1, b] at a
        exact Option.some.inj a
      have hbd := (HB.out (gvr Gs) (by rw [HE.out.2.2.2.1]; exact HR.out.2.2.1)).each e.v (by unfold gvr; exact List.mem_map_of_mem (List.mem_of_getElem? he))
      obtain ⟨G, rfl, hcs⟩ := own_atsU HL.out.2.2.2.1 he
      obtain ⟨T, rfl, hts⟩ := own_atsU HL.out.2.2.1 hf
      have hok := HL.out.2.2.2.1.each i e he
      clear he hf
      obtain ⟨⟨k1, fd, sp, wi, po, en, fi, li, mo⟩, g1, d1, g2, d2, g3, d3⟩ := e
      obtain ⟨r, t1, u1, t2, u2, t3, u3⟩ := f
      simp only at hef
      subst hef
      unfold GE.v VR.vs at hcs hts
      unfold GE.v at hbd
      simp only at hcs hts hbd
      obtain ⟨n1, hn1⟩ : ∃ n, po.length = n := ⟨_, rfl⟩
      obtain ⟨n2, hn2⟩ : ∃ n, en.length = n := ⟨_, rfl⟩
      obtain ⟨n3, hn3⟩ : ∃ n, li.length = n := ⟨_, rfl⟩
      rw [hn1, hn2, hn3] at hbd
      simp only [hn1, hn2, hn3] at hcs hts
      have hc1 : n1 ≤ 1000000000 := hbd.1
      have hc2 : n2 ≤ 1000000000 := hbd.2.1
      have hc3 : n3 ≤ 1000000000 := hbd.2.2
      have hd1 : n1 + 1 ≤ d1 := by have := cap_own hok.o1 (by omega); simp only [hn1] at this; exact this
      have hd2 : n2 + 1 ≤ d2 := by have := cap_own hok.o2 (by omega); simp only [hn2] at this; exact this
      have hd3 : n3 + 1 ≤ d3 := by have := cap_own hok.o3 (by omega); simp only [hn3] at this; exact this
      have hm1 : wr.cell? ⟨g1, n1, none⟩ = some (.string ⟨#[98, 101, 104, 105, 110, 100]⟩) := own_atZ hok.o1 (stZ_at (by simp only; rw [← hn1, List.getElem?_append_right (Nat.le_refl _), Nat.sub_self]; rfl))
      have hm2 : wr.cell? ⟨g2, n2, none⟩ = some (.string ⟨#[98, 101, 104, 105, 110, 100]⟩) := own_atZ hok.o2 (stZ_at (by simp only; rw [← hn2, List.getElem?_append_right (Nat.le_refl _), Nat.sub_self]; rfl))
      have hm3 : wr.cell? ⟨g3, n3, none⟩ = some (.string ⟨#[98, 101, 104, 105, 110, 100]⟩) := own_atZ hok.o3 (stZ_at (by simp only; rw [← hn3, List.getElem?_append_right (Nat.le_refl _), Nat.sub_self]; rfl))
      have x0 := hcs 0 _ rfl
      have x1 := hcs 1 _ rfl
      have x2 := hcs 2 _ rfl
      have x3 := hcs 3 _ rfl
      have x4 := hcs 4 _ rfl
      have x5 := hcs 5 _ rfl
      have x6 := hcs 6 _ rfl
      have x7 := hcs 7 _ rfl
      have x8 := hcs 8 _ rfl
      rw [Nat.add_zero] at x0
      have y4 := hts 4 _ rfl
      obtain ⟨y, hy⟩ : ∃ y, wr.heap.size = y := ⟨_, rfl⟩
      obtain ⟨Wy, hWy⟩ : ∃ Wy, wr.alloc (.cells #[.int .i64 k1, .bool fd, .string ⟨sp.toArray⟩, .string ⟨wi.toArray⟩, .slice (some ⟨g1, 0, none⟩) n1 d1, .slice (some ⟨g2, 0, none⟩) n2 d2, .string ⟨fi.toArray⟩, .slice (some ⟨g3, 0, none⟩) n3 d3, .bool mo] 30 (0, 0)) = Wy := ⟨_, rfl⟩
      have HWy : Hid (wr.alloc (.cells #[.int .i64 k1, .bool fd, .string ⟨sp.toArray⟩, .string ⟨wi.toArray⟩, .slice (some ⟨g1, 0, none⟩) n1 d1, .slice (some ⟨g2, 0, none⟩) n2 d2, .string ⟨fi.toArray⟩, .slice (some ⟨g3, 0, none⟩) n3 d3, .bool mo] 30 (0, 0)) = Wy ∧ Below wr.heap.size wr Wy) := ⟨hWy, by rw [← hWy]; exact belAZ (Below.refl _ _) _⟩
      have HQ : Hid (∀ U, BLZ Wy U → U.heap[y]? = some (.cells #[.int .i64 k1, .bool fd, .string ⟨sp.toArray⟩, .string ⟨wi.toArray⟩, .slice (some ⟨g1, 0, none⟩) n1 d1, .slice (some ⟨g2, 0, none⟩) n2 d2, .string ⟨fi.toArray⟩, .slice (some ⟨g3, 0, none⟩) n3 d3, .bool mo] 30 (0, 0)) ∧ U.heap[z3]? = some (.cells #[.int .i64 k, .int .i64 cd, .int .i64 tx, .int .i64 ln, .slice (some ⟨T, 0, none⟩) n ct] 25 (0, 0)) ∧ U.cell? ⟨T, i * 9 + 4, none⟩ = some (.slice (some ⟨t1, 0, none⟩) n1 u1) ∧ U.cell? ⟨g1, n1, none⟩ = some (.string ⟨#[98, 101, 104, 105, 110, 100]⟩) ∧ U.cell? ⟨g2, n2, none⟩ = some (.string ⟨#[98, 101, 104, 105, 110, 100]⟩) ∧ U.cell? ⟨g3, n3, none⟩ = some (.string ⟨#[98, 101, 104, 105, 110, 100]⟩)) := fun U hU => by
        have hb := bel0Z HWy.out.2 hU
        have kc : ∀ (a : Addr) (v : Value), wr.cell? a = some v → U.cell? a = some v := fun a v h => (hb.cell (World.block_lt_of_cell? wr _ h)).trans h
        refine ⟨keepZ hU ?_, keepZ hb HL.out.1, kc _ _ y4, kc _ _ hm1, kc _ _ hm2, kc _ _ hm3⟩
        rw [← hWy, ← hy]
        exact alloc_getZ _ _
      clear hcs hts hbd hok hn1 hn2 hn3 hWy hm1 hm2 hm3 y4
      go_upto_region 8 with fail
      rw [HWy.out.1]
      clear x0 x1 x2 x3 x4 x5 x6 x7 x8 cg4
      refine quiet_lit3 (C := fun U => BLZ Wy U) (by kernel_rfl) (by kernel_rfl) (show BLZ _ _ from Below.drew (Below.refl _ _)) ?_
      go_big_quiet_want
      refine ⟨.pointer (some ⟨y, 4, none⟩), fun W hW => ?_, ?_⟩
      · go_simp
      go_big_quiet_on
      simp only [Act.put, List.setIfInBounds_toArray, List.set_cons_zero, List.set_cons_succ]
      go_big_quiet_want
      refine ⟨.slice (some ⟨g1, 0, none⟩) n1 d1, fun W hW => ?_, ?_⟩
      · have cy := (cellsZ (HQ.out W hW).1).1
        go_simp
      go_big_quiet_on
      simp only [Act.put, List.setIfInBounds_toArray, List.set_cons_zero, List.set_cons_succ]
      go_big_quiet_want
      refine ⟨.int .i64 (n1 : Int), fun W hW => ?_, ?_⟩
      · go_simp
      go_big_quiet_on
      simp only [Act.put, List.setIfInBounds_toArray, List.set_cons_zero, List.set_cons_succ]
      go_big_quiet_want
      refine ⟨.pointer (some ⟨z3, 4, none⟩), fun W hW => ?_, ?_⟩
      · go_simp
      go_big_quiet_on
      simp only [Act.put, List.setIfInBounds_toArray, List.set_cons_zero, List.set_cons_succ]
      go_big_quiet_want
      refine ⟨.slice (some ⟨T, 0, none⟩) n ct, fun W hW => ?_, ?_⟩
      · have cz := (cellsZ (HQ.out W hW).2.1).1
        go_simp
      go_big_quiet_on
      simp only [Act.put, List.setIfInBounds_toArray, List.set_cons_zero, List.set_cons_succ]
      go_big_quiet_want
      go_big_quiet_op
      go_big_quiet_on
      go_big_quiet_want
      refine ⟨.pointer (some ⟨T, i * 9, none⟩), fun W hW => ?_, ?_⟩
      · go_simp
      go_big_quiet_on
      simp only [Act.put, List.setIfInBounds_toArray, List.set_cons_zero, List.set_cons_succ]
      go_big_quiet_want
      refine ⟨.pointer (some ⟨T, i * 9 + 4, none⟩), fun W hW => ?_, ?_⟩
      · go_simp
      go_big_quiet_on
      simp only [Act.put, List.setIfInBounds_toArray, List.set_cons_zero, List.set_cons_succ]
      go_big_quiet_want
      refine ⟨.slice (some ⟨t1, 0, none⟩) n1 u1, fun W hW => ?_, ?_⟩
      · have ct := (HQ.out W hW).2.2.1
        go_simp
      go_big_quiet_on
      simp only [Act.put, List.setIfInBounds_toArray, List.set_cons_zero, List.set_cons_succ]
      go_big_quiet_want
      refine ⟨.int .i64 (n1 : Int), fun W hW => ?_, ?_⟩
      · go_simp
      go_big_quiet_on
      simp only [Act.put, List.setIfInBounds_toArray, List.set_cons_zero, List.set_cons_succ]
      go_big_quiet_want
      refine ⟨.bool false, fun W hW => ?_, ?_⟩
      · go_simp
      go_big_quiet_on
      simp only [Act.put, List.setIfInBounds_toArray, List.set_cons_zero, List.set_cons_succ]
      go_big_quiet_want
      go_big_quiet_op
      go_big_quiet_on
      go_big_quiet_want
      refine ⟨.pointer (some ⟨y, 4, none⟩), fun W hW => ?_, ?_⟩
      · go_simp
      go_big_quiet_on
      simp only [Act.put, List.setIfInBounds_toArray, List.set_cons_zero, List.set_cons_succ]
      go_big_quiet_want
      refine ⟨.slice (some ⟨g1, 0, none⟩) n1 d1, fun W hW => ?_, ?_⟩
      · have cy := (cellsZ (HQ.out W hW).1).1
        go_simp
      go_big_quiet_on
      simp only [Act.put, List.setIfInBounds_toArray, List.set_cons_zero, List.set_cons_succ]
      go_big_quiet_want
      refine ⟨.pointer (some ⟨y, 4, none⟩), fun W hW => ?_, ?_⟩
      · go_simp
      go_big_quiet_on
      simp only [Act.put, List.setIfInBounds_toArray, List.set_cons_zero, List.set_cons_succ]
      go_big_quiet_want
      refine ⟨.slice (some ⟨g1, 0, none⟩) n1 d1, fun W hW => ?_, ?_⟩
      · have cy := (cellsZ (HQ.out W hW).1).1
        go_simp
      go_big_quiet_on
      simp only [Act.put, List.setIfInBounds_toArray, List.set_cons_zero, List.set_cons_succ]
      go_big_quiet_want
      refine ⟨.int .i64 (n1 : Int), fun W hW => ?_, ?_⟩
      · go_simp
      go_big_quiet_on
      simp only [Act.put, List.setIfInBounds_toArray, List.set_cons_zero, List.set_cons_succ]
      go_big_quiet_want
      refine ⟨.int .i64 ((n1 + 1 : Nat) : Int), fun W hW => ?_, ?_⟩
      · go_simp
        rw [IntKind.wrap_i64]
        omega
      go_big_quiet_on
      simp only [Act.put, List.setIfInBounds_toArray, List.set_cons_zero, List.set_cons_succ]
      go_big_quiet_want
      refine ⟨.slice (some ⟨g1, 0, none⟩) (n1 + 1) d1, fun W hW => ?_, ?_⟩
      · go_simp
        rw [if_pos (by omega)]
        exact ⟨rfl, rfl⟩
      go_big_quiet_on
      simp only [Act.put, List.setIfInBounds_toArray, List.set_cons_zero, List.set_cons_succ]
      go_big_quiet_want
      refine ⟨.pointer (some ⟨y, 4, none⟩), fun W hW => ?_, ?_⟩
      · go_simp
      go_big_quiet_on
      simp only [Act.put, List.setIfInBounds_toArray, List.set_cons_zero, List.set_cons_succ]
      go_big_quiet_want
      refine ⟨.slice (some ⟨g1, 0, none⟩) n1 d1, fun W hW => ?_, ?_⟩
      · have cy := (cellsZ (HQ.out W hW).1).1
        go_simp
      go_big_quiet_on
      simp only [Act.put, List.setIfInBounds_toArray, List.set_cons_zero, List.set_cons_succ]
      go_big_quiet_want
      refine ⟨.int .i64 (n1 : Int), fun W hW => ?_, ?_⟩
      · go_simp
      go_big_quiet_on
      simp only [Act.put, List.setIfInBounds_toArray, List.set_cons_zero, List.set_cons_succ]
      go_big_quiet_want
      refine ⟨.pointer (some ⟨g1, n1, none⟩), fun W hW => ?_, ?_⟩
      · go_simp
        rw [if_pos (by omega)]
        exact ⟨rfl, rfl⟩
      go_big_quiet_on
      simp only [Act.put, List.setIfInBounds_toArray, List.set_cons_zero, List.set_cons_succ]
      go_big_quiet_want
      refine ⟨.string ⟨#[98, 101, 104, 105, 110, 100]⟩, fun W hW => ?_, ?_⟩
      · have cm := (HQ.out W hW).2.2.2.1
        go_simp
      go_big_quiet_on
      simp only [Act.put, List.setIfInBounds_toArray, List.set_cons_zero, List.set_cons_succ]
      go_big_quiet_want
      refine ⟨.bool false, fun W hW => ?_, ?_⟩
      · go_simp
      go_big_quiet_on
      simp only [Act.put, List.setIfInBounds_toArray, List.set_cons_zero, List.set_cons_succ]
      go_big_quiet_want
      refine ⟨.bool false, fun W hW => ?_, ?_⟩
      · go_simp
      go_big_quiet_on
      simp only [Act.put, List.setIfInBounds_toArray, List.set_cons_zero, List.set_cons_succ]
      go_big_quiet_want
      go_big_quiet_op
      go_big_quiet_on
      go_big_quiet_want
      refine ⟨.pointer (some ⟨y, 5, none⟩), fun W hW => ?_, ?_⟩
      · go_simp
      go_big_quiet_on
      simp only [Act.put, List.setIfInBounds_toArray, List.set_cons_zero, List.set_cons_succ]
      go_big_quiet_want
      refine ⟨.slice (some ⟨g2, 0, none⟩) n2 d2, fun W hW => ?_, ?_⟩
      · have cy := (cellsZ (HQ.out W hW).1).1
        go_simp
      go_big_quiet_on
      simp only [Act.put, List.setIfInBounds_toArray, List.set_cons_zero, List.set_cons_succ]
      go_big_quiet_want
      refine ⟨.pointer (some ⟨y, 5, none⟩), fun W hW => ?_, ?_⟩
      · go_simp
      go_big_quiet_on
      simp only [Act.put, List.setIfInBounds_toArray, List.set_cons_zero, List.set_cons_succ]
      go_big_quiet_want
      refine ⟨.slice (some ⟨g2, 0, none⟩) n2 d2, fun W hW => ?_, ?_⟩
      · have cy := (cellsZ (HQ.out W hW).1).1
        go_simp
      go_big_quiet_on
      simp only [Act.put, List.setIfInBounds_toArray, List.set_cons_zero, List.set_cons_succ]
      go_big_quiet_want
      refine ⟨.int .i64 (n2 : Int), fun W hW => ?_, ?_⟩
      · go_simp
      go_big_quiet_on
      simp only [Act.put, List.setIfInBounds_toArray, List.set_cons_zero, List.set_cons_succ]
      go_big_quiet_want
      refine ⟨.int .i64 ((n2 + 1 : Nat) : Int), fun W hW => ?_, ?_⟩
      · go_simp
        rw [IntKind.wrap_i64]
        omega
      go_big_quiet_on
      simp only [Act.put, List.setIfInBounds_toArray, List.set_cons_zero, List.set_cons_succ]
      go_big_quiet_want
      refine ⟨.slice (some ⟨g2, 0, none⟩) (n2 + 1) d2, fun W hW => ?_, ?_⟩
      · go_simp
        rw [if_pos (by omega)]
        exact ⟨rfl, rfl⟩
      go_big_quiet_on
      simp only [Act.put, List.setIfInBounds_toArray, List.set_cons_zero, List.set_cons_succ]
      go_big_quiet_want
      refine ⟨.pointer (some ⟨y, 5, none⟩), fun W hW => ?_, ?_⟩
      · go_simp
      go_big_quiet_on
      simp only [Act.put, List.setIfInBounds_toArray, List.set_cons_zero, List.set_cons_succ]
      go_big_quiet_want
      refine ⟨.slice (some ⟨g2, 0, none⟩) n2 d2, fun W hW => ?_, ?_⟩
      · have cy := (cellsZ (HQ.out W hW).1).1
        go_simp
      go_big_quiet_on
      simp only [Act.put, List.setIfInBounds_toArray, List.set_cons_zero, List.set_cons_succ]
      go_big_quiet_want
      refine ⟨.int .i64 (n2 : Int), fun W hW => ?_, ?_⟩
      · go_simp
      go_big_quiet_on
      simp only [Act.put, List.setIfInBounds_toArray, List.set_cons_zero, List.set_cons_succ]
      go_big_quiet_want
      refine ⟨.pointer (some ⟨g2, n2, none⟩), fun W hW => ?_, ?_⟩
      · go_simp
        rw [if_pos (by omega)]
        exact ⟨rfl, rfl⟩
      go_big_quiet_on
      simp only [Act.put, List.setIfInBounds_toArray, List.set_cons_zero, List.set_cons_succ]
      go_big_quiet_want
      refine ⟨.string ⟨#[98, 101, 104, 105, 110, 100]⟩, fun W hW => ?_, ?_⟩
      · have cm := (HQ.out W hW).2.2.2.2.1
        go_simp
      go_big_quiet_on
      simp only [Act.put, List.setIfInBounds_toArray, List.set_cons_zero, List.set_cons_succ]
      go_big_quiet_want
      refine ⟨.bool false, fun W hW => ?_, ?_⟩
      · go_simp
      go_big_quiet_on
      simp only [Act.put, List.setIfInBounds_toArray, List.set_cons_zero, List.set_cons_succ]
      go_big_quiet_want
      refine ⟨.bool false, fun W hW => ?_, ?_⟩
      · go_simp
      go_big_quiet_on
      simp only [Act.put, List.setIfInBounds_toArray, List.set_cons_zero, List.set_cons_succ]
      go_big_quiet_want
      go_big_quiet_op
      go_big_quiet_on
      go_big_quiet_want
      refine ⟨.pointer (some ⟨y, 7, none⟩), fun W hW => ?_, ?_⟩
      · go_simp
      go_big_quiet_on
      simp only [Act.put, List.setIfInBounds_toArray, List.set_cons_zero, List.set_cons_succ]
      go_big_quiet_want
      refine ⟨.slice (some ⟨g3, 0, none⟩) n3 d3, fun W hW => ?_, ?_⟩
      · have cy := (cellsZ (HQ.out W hW).1).1
        go_simp
      go_big_quiet_on
      simp only [Act.put, List.setIfInBounds_toArray, List.set_cons_zero, List.set_cons_succ]
      go_big_quiet_want
      refine ⟨.pointer (some ⟨y, 7, none⟩), fun W hW => ?_, ?_⟩
      · go_simp
      go_big_quiet_on
      simp only [Act.put, List.setIfInBounds_toArray, List.set_cons_zero, List.set_cons_succ]
      go_big_quiet_want
      refine ⟨.slice (some ⟨g3, 0, none⟩) n3 d3, fun W hW => ?_, ?_⟩
      · have cy := (cellsZ (HQ.out W hW).1).1
        go_simp
      go_big_quiet_on
      simp only [Act.put, List.setIfInBounds_toArray, List.set_cons_zero, List.set_cons_succ]
      go_big_quiet_want
      refine ⟨.int .i64 (n3 : Int), fun W hW => ?_, ?_⟩
      · go_simp
      go_big_quiet_on
      simp only [Act.put, List.setIfInBounds_toArray, List.set_cons_zero, List.set_cons_succ]
      go_big_quiet_want
      refine ⟨.int .i64 ((n3 + 1 : Nat) : Int), fun W hW => ?_, ?_⟩
      · go_simp
        rw [IntKind.wrap_i64]
        omega
      go_big_quiet_on
      simp only [Act.put, List.setIfInBounds_toArray, List.set_cons_zero, List.set_cons_succ]
      go_big_quiet_want
      refine ⟨.slice (some ⟨g3, 0, none⟩) (n3 + 1) d3, fun W hW => ?_, ?_⟩
      · go_simp
        rw [if_pos (by omega)]
        exact ⟨rfl, rfl⟩
      go_big_quiet_on
      simp only [Act.put, List.setIfInBounds_toArray, List.set_cons_zero, List.set_cons_succ]
      go_big_quiet_want
      refine ⟨.pointer (some ⟨y, 7, none⟩), fun W hW => ?_, ?_⟩
      · go_simp
      go_big_quiet_on
      simp only [Act.put, List.setIfInBounds_toArray, List.set_cons_zero, List.set_cons_succ]
      go_big_quiet_want
      refine ⟨.slice (some ⟨g3, 0, none⟩) n3 d3, fun W hW => ?_, ?_⟩
      · have cy := (cellsZ (HQ.out W hW).1).1
        go_simp
      go_big_quiet_on
      simp only [Act.put, List.setIfInBounds_toArray, List.set_cons_zero, List.set_cons_succ]
      go_big_quiet_want
      refine ⟨.int .i64 (n3 : Int), fun W hW => ?_, ?_⟩
      · go_simp
      go_big_quiet_on
      simp only [Act.put, List.setIfInBounds_toArray, List.set_cons_zero, List.set_cons_succ]
      go_big_quiet_want
      refine ⟨.pointer (some ⟨g3, n3, none⟩), fun W hW => ?_, ?_⟩
      · go_simp
        rw [if_pos (by omega)]
        exact ⟨rfl, rfl⟩
      go_big_quiet_on
      simp only [Act.put, List.setIfInBounds_toArray, List.set_cons_zero, List.set_cons_succ]
      go_big_quiet_want
      refine ⟨.string ⟨#[98, 101, 104, 105, 110, 100]⟩, fun W hW => ?_, ?_⟩
      · have cm := (HQ.out W hW).2.2.2.2.2
        go_simp
      go_big_quiet_on
      simp only [Act.put, List.setIfInBounds_toArray, List.set_cons_zero, List.set_cons_succ]
      go_big_quiet_want
      refine ⟨.bool false, fun W hW => ?_, ?_⟩
      · go_simp
      go_big_quiet_on
      simp only [Act.put, List.setIfInBounds_toArray, List.set_cons_zero, List.set_cons_succ]
      go_big_quiet_want
      refine ⟨.bool false, fun W hW => ?_, ?_⟩
      · go_simp
      go_big_quiet_on
      simp only [Act.put, List.setIfInBounds_toArray, List.set_cons_zero, List.set_cons_succ]
      refine wpQuiet_nil ?_
      intro w5 hw5
      have hb := bel0Z HWy.out.2 hw5
      have HX : Hid (w5.heap[z3]? = some (.cells #[.int .i64 k, .int .i64 cd, .int .i64 tx, .int .i64 ln, .slice (some ⟨T, 0, none⟩) n ct] 25 (0, 0)) ∧ w5.heap[z4]? = some (.cells #[.int .i64 k, .int .i64 cd, .int .i64 tx, .int .i64 ln, .slice (some ⟨G, 0, none⟩) n cg] 25 (0, 0)) ∧ GRW w5 w.heap.size Ts (.slice (some ⟨T, 0, none⟩) n ct) ∧ GRW w5 w.heap.size Gs (.slice (some ⟨G, 0, none⟩) n cg) ∧ Below w.heap.size w w5) := ⟨keepZ hb HL.out.1, keepZ hb HL.out.2.1, HL.out.2.2.1.below hb, HL.out.2.2.2.1.below hb, bel0Z HL.out.2.2.2.2 hb⟩
      clear HL HQ hw5 hb HWy
      go_wp2_with fail
      go_roundw
      case rel => exact ⟨i + 1, by go_num, by omega, HX⟩
      case measure => simp [intOf]; omega
    · have i1 : ¬ (i : Int) < (n : Int) := by omega
      have hBG := HB.out (gvr Gs) (by rw [HE.out.2.2.2.1]; exact HR.out.2.2.1)
      have X4 := results_any ⟨k, cd, tx, ln⟩ (gvr Gs) (gvr Ts) pg pt n cg ct wr HN.out.1 HN.out.2 hnn (HE.out.2.2.2.1.trans HE.out.2.2.2.2.symm) HL.out.2.2.2.1.read HL.out.2.2.1.read hBG.each
      simp only at X4
      have c3 := (cellsZ HL.out.1).1
      clear hBG
      go_wp2_with fail
      refine X4.mono ?_
      clear X4 c3 cg4
      rintro _ w7 ⟨rfl, b7⟩
      have H7 : Hid (w7.heap[z3]? = some (.cells #[.int .i64 k, .int .i64 cd, .int .i64 tx, .int .i64 ln, .slice pt n ct] 25 (0, 0)) ∧ w7.heap[z4]? = some (.cells #[.int .i64 k, .int .i64 cd, .int .i64 tx, .int .i64 ln, .slice pg n cg] 25 (0, 0)) ∧ GRW w7 w.heap.size Ts (.slice pt n ct) ∧ GRW w7 w.heap.size Gs (.slice pg n cg) ∧ Below w.heap.size w w7) := ⟨keepZ b7 HL.out.1, keepZ b7 HL.out.2.1, HL.out.2.2.1.below b7, HL.out.2.2.2.1.below b7, bel0Z HL.out.2.2.2.2 b7⟩
      clear HL b7
      have X5 := drender_any ⟨k, cd, tx, ln⟩ (gvr Ts) pt n ct w7 HN.out.2 H7.out.2.2.1.read (HR.out.2.2.2.below H7.out.2.2.2.2) (HB.out _ (by rw [HE.out.2.2.2.2]; exact HR.out.2.2.1))
      simp only [HE.out.2.2.2.2, HTX.out] at X5
      have c3 := (cellsZ H7.out.1).1
      go_wp2_with fail
      refine X5.mono ?_
      clear X5 c3
      rintro _ w8 ⟨rfl, b8⟩
      have H8 : Hid (w8.heap[z3]? = some (.cells #[.int .i64 k, .int .i64 cd, .int .i64 tx, .int .i64 ln, .slice pt n ct] 25 (0, 0)) ∧ w8.heap[z4]? = some (.cells #[.int .i64 k, .int .i64 cd, .int .i64 tx, .int .i64 ln, .slice pg n cg] 25 (0, 0)) ∧ GRW w8 w.heap.size Ts (.slice pt n ct) ∧ GRW w8 w.heap.size Gs (.slice pg n cg) ∧ Below w.heap.size w w8) := ⟨keepZ b8 H7.out.1, keepZ b8 H7.out.2.1, H7.out.2.2.1.below b8, H7.out.2.2.2.1.below b8, bel0Z H7.out.2.2.2.2 b8⟩
      clear H7 b8
      have X6 := render_any ⟨4, 0, 0, 0⟩ [] none 0 0 w8 rfl (fun _ _ i e h => by simp at h) (HR.out.2.2.2.below H8.out.2.2.2.2) (bnd_of _ _ (by decide) (by decide) (by decide) (by decide) (by decide))
      simp only [show rnS ⟨4, 0, 0, 0⟩ (rps []) = [98, 117, 100, 103, 101, 116, 32, 101, 120, 99, 101, 101, 100, 101, 100, 10] from rfl] at X6
      go_wp2_with fail
      refine X6.mono ?_
      clear X6
      rintro _ w9 ⟨rfl, b9⟩
      have H9 : Hid (w9.heap[z3]? = some (.cells #[.int .i64 k, .int .i64 cd, .int .i64 tx, .int .i64 ln, .slice pt n ct] 25 (0, 0)) ∧ w9.heap[z4]? = some (.cells #[.int .i64 k, .int .i64 cd, .int .i64 tx, .int .i64 ln, .slice pg n cg] 25 (0, 0)) ∧ GRW w9 w.heap.size Ts (.slice pt n ct) ∧ GRW w9 w.heap.size Gs (.slice pg n cg) ∧ Below w.heap.size w w9) := ⟨keepZ b9 H8.out.1, keepZ b9 H8.out.2.1, H8.out.2.2.1.below b9, H8.out.2.2.2.1.below b9, bel0Z H8.out.2.2.2.2 b9⟩
      clear H8 b9
      have H0 : Hid (∃ Gs, LBP w w9 z4 n cg #[.int .i64 k, .int .i64 cd, .int .i64 tx, .int .i64 ln, .slice pg n cg] pg Gs) := ⟨Gs, by have := HN.out.1; unfold gvr at this; rw [List.length_map] at this; exact this, by unfold grs; rw [HE.out.2.1]; exact HR.out.2.2.1, H9.out.2.1, H9.out.2.2.2.1, H9.out.2.2.2.2⟩
      clear H9 HE HN HTX
      go_wp2_with fail
      go_loopw [8] (fun v8 wr => ∃ i : Nat, v8 = .int .i64 (i : Int) ∧ i ≤ n ∧ Hid (∃ Gs, LBP w wr z4 n cg #[.int .i64 k, .int .i64 cd, .int .i64 tx, .int .i64 ln, .slice pg n cg] pg Gs)) (fun v8 _ => n - (intOf v8).toNat)
      case atStart => exact ⟨0, rfl, Nat.zero_le _, H0⟩
      case round =>
        clear H0
        clear hlt i1 hi
        obtain ⟨i, rfl, hi, HL⟩ := hrel
        obtain ⟨Gs', hL⟩ := HL.out
        clear HL
        have cg4 := (cellsZ hL.box).1
        by_cases hlt : i < n
        · have i0 : (0 : Int) ≤ (i : Int) := by omega
          have i1 : (i : Int) < (n : Int) := by omega
          obtain ⟨e, he⟩ : ∃ e, Gs'[i]? = some e := ⟨_, List.getElem?_eq_getElem (by rw [hL.len]; exact hlt)⟩
          obtain ⟨G, rfl, hcs⟩ := own_atsU hL.row he
          obtain ⟨fd, hfd⟩ : ∃ b, e.r.fd = b := ⟨_, rfl⟩
          have x1 : wr.cell? ⟨G, i * 9 + 1, none⟩ = some (.bool fd) := by rw [← hfd]; exact hcs 1 _ rfl
          have HP : Hid (LBP w wr.drew z4 n cg #[.int .i64 k, .int .i64 cd, .int .i64 tx, .int .i64 ln, .slice (some ⟨G, 0, none⟩) n cg] (some ⟨G, 0, none⟩) Gs' ∧ Gs'[i]? = some e) := ⟨hL.below (Below.drew (Below.refl _ _)), he⟩
          obtain ⟨cur, hcur⟩ := row_frU HP.out.1.row.row
          have hs0 : wr.drew.heap[z4]? = some (.cells #[.int .i64 k, .int .i64 cd, .int .i64 tx, .int .i64 ln, .slice (some ⟨G, 0, none⟩) n cg] 25 (0, 0)) ∧ wr.drew.cell? ⟨G, i * 9 + 1, none⟩ = some (.bool fd) := ⟨hL.box, x1⟩
          clear he hcs hL hfd
          go_upto_region 15 with fail
          clear cg4 x1
          refine held_last (S := fun U => U.heap[z4]? = some (.cells #[.int .i64 k, .int .i64 cd, .int .i64 tx, .int .i64 ln, .slice (some ⟨G, 0, none⟩) n cg] 25 (0, 0)) ∧ U.cell? ⟨G, i * 9 + 1, none⟩ = some (.bool fd)) 12 (by kernel_rfl) (by kernel_rfl) hs0 (fun _ => ?_)
          refine wpAnyH_take (i := 0) (v := .pointer (some ⟨z4, 4, none⟩)) rfl (by kernel_rfl) (by kernel_rfl) (by kernel_rfl) (fun _ _ _ h => h) (Or.inl ⟨by rfl, ?_⟩) hs0 ?_
          · rintro w s0; go_simp
          refine wpAnyH_take (i := 1) (v := .slice (some ⟨G, 0, none⟩) n cg) rfl (by kernel_rfl) (by kernel_rfl) (by kernel_rfl) (fun _ _ _ h => h) (Or.inl ⟨by rfl, ?_⟩) hs0 ?_
          · rintro w s0; have s1 := (cellsZ s0.1).1; go_simp
          refine wpAnyH_take (i := 2) (v := .int .i64 (i : Int)) rfl (by kernel_rfl) (by kernel_rfl) (by kernel_rfl) (fun _ _ _ h => h) (Or.inl ⟨by rfl, ?_⟩) hs0 ?_
          · rintro w s0; go_simp
          refine wpAnyH_take (i := 3) (v := .pointer (some ⟨z4, 4, none⟩)) rfl (by kernel_rfl) (by kernel_rfl) (by kernel_rfl) (fun _ _ _ h => h) (Or.inl ⟨by rfl, ?_⟩) hs0 ?_
          · rintro w s0; go_simp
          refine wpAnyH_take (i := 4) (v := .slice (some ⟨G, 0, none⟩) n cg) rfl (by kernel_rfl) (by kernel_rfl) (by kernel_rfl) (fun _ _ _ h => h) (Or.inl ⟨by rfl, ?_⟩) hs0 ?_
          · rintro w s0; have s1 := (cellsZ s0.1).1; go_simp
          refine wpAnyH_take (i := 5) (v := .int .i64 (i : Int)) rfl (by kernel_rfl) (by kernel_rfl) (by kernel_rfl) (fun _ _ _ h => h) (Or.inl ⟨by rfl, ?_⟩) hs0 ?_
          · rintro w s0; go_simp
          refine wpAnyH_take (i := 6) (v := .pointer (some ⟨G, i * 9, none⟩)) rfl (by kernel_rfl) (by kernel_rfl) (by kernel_rfl) (fun _ _ _ h => h) (Or.inl ⟨by rfl, ?_⟩) hs0 ?_
          · rintro w s0; go_simp
          refine wpAnyH_take (i := 7) (v := .pointer (some ⟨G, i * 9 + 1, none⟩)) rfl (by kernel_rfl) (by kernel_rfl) (by kernel_rfl) (fun _ _ _ h => h) (Or.inl ⟨by rfl, ?_⟩) hs0 ?_
          · rintro w s0; go_simp
          refine wpAnyH_take (i := 8) (v := .bool fd) rfl (by kernel_rfl) (by kernel_rfl) (by kernel_rfl) (fun _ _ _ h => h) (Or.inl ⟨by rfl, ?_⟩) hs0 ?_
          · rintro w s0; have s1 := s0.2; go_simp
          refine wpAnyH_take (i := 9) (v := .bool (!fd)) rfl (by kernel_rfl) (by kernel_rfl) (by kernel_rfl) (fun _ _ _ h => h) (Or.inl ⟨by rfl, ?_⟩) hs0 ?_
          · rintro w s0; go_simp
          refine wpAnyH_take (i := 10) (v := .pointer (some ⟨G, i * 9, none⟩)) rfl (by kernel_rfl) (by kernel_rfl) (by kernel_rfl) (fun _ _ _ h => h) (Or.inl ⟨by rfl, ?_⟩) hs0 ?_
          · rintro w s0; go_simp
          refine wpAnyH_take (i := 11) (v := .pointer (some ⟨G, i * 9 + 1, none⟩)) rfl (by kernel_rfl) (by kernel_rfl) (by kernel_rfl) (fun _ _ _ h => h) (Or.inl ⟨by rfl, ?_⟩) hs0 ?_
          · rintro w s0; go_simp
          refine wpAnyH_done (by kernel_rfl) ?_ _
          have frG := (cellsZ hcur).2
          have x1 := hs0.2
          refine QN_go rfl rfl ?_
          go_simp
          obtain ⟨W1, hW1⟩ : ∃ W1, (wr.setCell ⟨G, i * 9 + 1, none⟩ (.bool (!fd))).drew = W1 := ⟨_, rfl⟩
          obtain ⟨Gs1, e1, HP1⟩ : ∃ Gs1 e1, Hid (LBP w W1 z4 n cg #[.int .i64 k, .int .i64 cd, .int .i64 tx, .int .i64 ln, .slice (some ⟨G, 0, none⟩) n cg] (some ⟨G, 0, none⟩) Gs1 ∧ Gs1[i]? = some e1 ∧ (wr.setCell ⟨G, i * 9 + 1, none⟩ (.bool (!fd))).drew = W1) := ⟨_, _, by rw [← hW1]; exact HP.out.1.fd (!fd) HP.out.2, get_setU _ HP.out.2, hW1⟩
          clear hs0 HP hcur frG x1 hW1
          clear cur
          rw [HP1.out.2.2]
          have cg4 := (cellsZ HP1.out.1.box).1
          obtain ⟨cur, hcur⟩ := row_frU HP1.out.1.row.row
          have frG := (cellsZ hcur).2
          have x2 : W1.cell? ⟨G, i * 9 + 2, none⟩ = _ := own_atsV HP1.out.1.row HP1.out.2.1 2 _ rfl
          clear hcur
          go_upto_region 17 with fail
          obtain ⟨W2, hW2⟩ : ∃ W2, W1.setCell ⟨G, i * 9 + 2, none⟩ (.string ⟨#[116, 117, 114, 110, 101, 100]⟩) = W2 := ⟨_, rfl⟩
          obtain ⟨Gs2, e2, HP2⟩ : ∃ Gs2 e2, Hid (LBP w W2 z4 n cg #[.int .i64 k, .int .i64 cd, .int .i64 tx, .int .i64 ln, .slice (some ⟨G, 0, none⟩) n cg] (some ⟨G, 0, none⟩) Gs2 ∧ Gs2[i]? = some e2 ∧ W1.setCell ⟨G, i * 9 + 2, none⟩ (.string ⟨#[116, 117, 114, 110, 101, 100]⟩) = W2) := ⟨_, _, by rw [← hW2]; exact HP1.out.1.sp [116, 117, 114, 110, 101, 100] (by decide) HP1.out.2.1, get_setU _ HP1.out.2.1, hW2⟩
          clear HP1 frG x2 cg4 hW2
          clear cur
          rw [HP2.out.2.2]
          obtain ⟨n3, hn3⟩ : ∃ m, e2.r.li.length = m := ⟨_, rfl⟩
          have hc3 : n3 ≤ 1000000000 := by rw [← hn3]; exact (LBP.lens HP2.out.1 HP2.out.2.1).2
          have H3 : Hid (∃ Gs e, LBP w W2 z4 n cg #[.int .i64 k, .int .i64 cd, .int .i64 tx, .int .i64 ln, .slice (some ⟨G, 0, none⟩) n cg] (some ⟨G, 0, none⟩) Gs ∧ Gs[i]? = some e ∧ e.r.li.length = n3) := ⟨Gs2, e2, HP2.out.1, HP2.out.2.1, hn3⟩
          clear HP2 hn3
          go_wp2_with fail
          go_loopw [9] (fun v wr => ∃ m : Nat, v = .int .i64 (m : Int) ∧ m ≤ n3 ∧ Hid (∃ Gs e, LBP w wr z4 n cg #[.int .i64 k, .int .i64 cd, .int .i64 tx, .int .i64 ln, .slice (some ⟨G, 0, none⟩) n cg] (some ⟨G, 0, none⟩) Gs ∧ Gs[i]? = some e ∧ e.r.li.length = n3)) (fun v _ => n3 - (intOf v).toNat)
          case atStart => exact ⟨0, rfl, Nat.zero_le _, H3⟩
          case round =>
            clear H3
            obtain ⟨m, rfl, hm, HM⟩ := hrel
            obtain ⟨Gm, em, hM, hem, hel⟩ := HM.out
            obtain ⟨gb, hgb⟩ : ∃ b, em.g3 = b := ⟨_, rfl⟩
            obtain ⟨cb, hcb⟩ : ∃ b, em.c3 = b := ⟨_, rfl⟩
            have cg4 := (cellsZ hM.box).1
            have x7 : wr.cell? ⟨G, i * 9 + 7, none⟩ = some (.slice (some ⟨gb, 0, none⟩) n3 cb) := by rw [← hgb, ← hcb, ← hel]; exact own_atsV hM.row hem 7 _ rfl
            by_cases hml : m < n3
            · have m0 : (0 : Int) ≤ (m : Int) := by omega
              have m1 : (m : Int) < (n3 : Int) := by omega
              obtain ⟨tt, htt⟩ : ∃ t, em.r.li[m]? = some t := ⟨_, List.getElem?_eq_getElem (by rw [hel]; exact hml)⟩
              have xm : wr.cell? ⟨gb, m, none⟩ = some (.string ⟨tt.toArray⟩) := by
                rw [← hgb]
                exact own_atZ (hM.row.each i em hem).o3 (stZ_at (by rw [List.getElem?_append_left (by rw [hel]; exact hml)]; exact htt))
              obtain ⟨cur, hcur⟩ := row_frU (hM.row.each i em hem).o3
              rw [hgb] at hcur
              have frb := (cellsZ hcur).2
              have HX : Hid (∃ Gs e, LBP w (wr.setCell ⟨gb, m, none⟩ (.string ⟨#[116, 117, 114, 110, 101, 100]⟩)) z4 n cg #[.int .i64 k, .int .i64 cd, .int .i64 tx, .int .i64 ln, .slice (some ⟨G, 0, none⟩) n cg] (some ⟨G, 0, none⟩) Gs ∧ Gs[i]? = some e ∧ e.r.li.length = n3) := by
                rw [← hgb]
                exact ⟨_, _, hM.line [116, 117, 114, 110, 101, 100] (by decide) hem (by rw [hel]; exact hml), get_setU _ hem, by unfold GE.lineE; simp only [List.length_set]; exact hel⟩
              clear HM hM hem hel hgb hcb htt hcur
              go_wp2_with fail
              go_roundw
              case rel => exact ⟨m + 1, by go_num, by omega, HX⟩
              case measure => simp [intOf]; omega
            · have m1 : ¬ (m : Int) < (n3 : Int) := by omega
              clear hM hem hel hgb hcb
              obtain ⟨Gs3, e3, hL, he, -⟩ := HM.out
              obtain ⟨n1, hn1⟩ : ∃ m, e3.r.po.length = m := ⟨_, rfl⟩
              have hc1 : n1 ≤ 1000000000 := by rw [← hn1]; exact (LBP.lens hL he).1
              have H4 : Hid (∃ Gs e, LBP w wr z4 n cg #[.int .i64 k, .int .i64 cd, .int .i64 tx, .int .i64 ln, .slice (some ⟨G, 0, none⟩) n cg] (some ⟨G, 0, none⟩) Gs ∧ Gs[i]? = some e ∧ e.r.po.length = n1) := ⟨Gs3, e3, hL, he, hn1⟩
              clear HM hL he hn1
              go_upto_region 21 with fail
              clear x7 cg4
              go_wp2_with fail
              go_loopw [10] (fun v wr => ∃ m : Nat, v = .int .i64 (m : Int) ∧ m ≤ n1 ∧ Hid (∃ Gs e, LBP w wr z4 n cg #[.int .i64 k, .int .i64 cd, .int .i64 tx, .int .i64 ln, .slice (some ⟨G, 0, none⟩) n cg] (some ⟨G, 0, none⟩) Gs ∧ Gs[i]? = some e ∧ e.r.po.length = n1)) (fun v _ => n1 - (intOf v).toNat)
              case atStart => exact ⟨0, rfl, Nat.zero_le _, H4⟩
              case round =>
                clear H4
                obtain ⟨m, rfl, hm, HM⟩ := hrel
                obtain ⟨Gm, em, hM, hem, hel⟩ := HM.out
                obtain ⟨gb, hgb⟩ : ∃ b, em.g1 = b := ⟨_, rfl⟩
                obtain ⟨cb, hcb⟩ : ∃ b, em.c1 = b := ⟨_, rfl⟩
                have cg4 := (cellsZ hM.box).1
                have x7 : wr.cell? ⟨G, i * 9 + 4, none⟩ = some (.slice (some ⟨gb, 0, none⟩) n1 cb) := by rw [← hgb, ← hcb, ← hel]; exact own_atsV hM.row hem 4 _ rfl
                by_cases hml : m < n1
                · have m0 : (0 : Int) ≤ (m : Int) := by omega
                  have m1 : (m : Int) < (n1 : Int) := by omega
                  obtain ⟨tt, htt⟩ : ∃ t, em.r.po[m]? = some t := ⟨_, List.getElem?_eq_getElem (by rw [hel]; exact hml)⟩
                  have xm : wr.cell? ⟨gb, m, none⟩ = some (.string ⟨tt.toArray⟩) := by
                    rw [← hgb]
                    exact own_atZ (hM.row.each i em hem).o1 (stZ_at (by rw [List.getElem?_append_left (by rw [hel]; exact hml)]; exact htt))
                  obtain ⟨cur, hcur⟩ := row_frU (hM.row.each i em hem).o1
                  rw [hgb] at hcur
                  have frb := (cellsZ hcur).2
                  have HX : Hid (∃ Gs e, LBP w (wr.setCell ⟨gb, m, none⟩ (.string ⟨#[84, 46, 116]⟩)) z4 n cg #[.int .i64 k, .int .i64 cd, .int .i64 tx, .int .i64 ln, .slice (some ⟨G, 0, none⟩) n cg] (some ⟨G, 0, none⟩) Gs ∧ Gs[i]? = some e ∧ e.r.po.length = n1) := by
                    rw [← hgb]
                    exact ⟨_, _, hM.port [84, 46, 116] (by decide) hem (by rw [hel]; exact hml), get_setU _ hem, by unfold GE.portE; simp only [List.length_set]; exact hel⟩
                  clear HM hM hem hel hgb hcb htt hcur
                  go_wp2_with fail
                  go_roundw
                  case rel => exact ⟨m + 1, by go_num, by omega, HX⟩
                  case measure => simp [intOf]; omega
                · have m1 : ¬ (m : Int) < (n1 : Int) := by omega
                  clear hM hem hel hgb hcb
                  obtain ⟨Gs4, e4, hL, he, -⟩ := HM.out
                  have HP4 : Hid (LBP w wr z4 n cg #[.int .i64 k, .int .i64 cd, .int .i64 tx, .int .i64 ln, .slice (some ⟨G, 0, none⟩) n cg] (some ⟨G, 0, none⟩) Gs4 ∧ rps (gvr Gs4) = grs Gs4 ∧ (gvr Gs4).length = n) := ⟨hL, rps_gvr Gs4, by unfold gvr; rw [List.length_map]; exact hL.len⟩
                  clear HM hL he
                  have X7 := render_any ⟨k, cd, tx, ln⟩ (gvr Gs4) (some ⟨G, 0, none⟩) n cg wr HP4.out.2.2 HP4.out.1.row.read (HR.out.2.2.2.below HP4.out.1.bel) (HB.out _ (by rw [HP4.out.2.1]; exact HP4.out.1.wg))
                  simp only at X7
                  obtain ⟨TY, hTY⟩ : ∃ T, rnS ⟨k, cd, tx, ln⟩ (rps (gvr Gs4)) = T := ⟨_, rfl⟩
                  rw [hTY] at X7
                  have HTY : Hid (rnS ⟨k, cd, tx, ln⟩ (rps (gvr Gs4)) = TY) := hTY
                  clear hTY
                  go_wp2_with fail
                  refine X7.mono ?_
                  clear X7 x7 cg4
                  rintro _ w10 ⟨rfl, b10⟩
                  have HP5 : Hid (LBP w w10 z4 n cg #[.int .i64 k, .int .i64 cd, .int .i64 tx, .int .i64 ln, .slice (some ⟨G, 0, none⟩) n cg] (some ⟨G, 0, none⟩) Gs4) := HP4.out.1.below b10
                  have X8 := twice_any ⟨k, cd, tx, ln⟩ (gvr Gs4) (some ⟨G, 0, none⟩) n cg w10 HP4.out.2.2 HP5.out.row.read (HB.out _ (by rw [HP4.out.2.1]; exact HP4.out.1.wg))
                  simp only at X8
                  have cg4 := (cellsZ HP5.out.box).1
                  clear b10
                  go_wp2_with fail
                  refine X8.mono ?_
                  clear X8 cg4
                  rintro _ w11 ⟨p8, c8, Gs8, rfl, G8, e8, b11⟩
                  have HP6 : Hid (LBP w w11 z4 n cg #[.int .i64 k, .int .i64 cd, .int .i64 tx, .int .i64 ln, .slice (some ⟨G, 0, none⟩) n cg] (some ⟨G, 0, none⟩) Gs4) := HP5.out.below b11
                  have e9 : rps (gvr Gs8) = rps (gvr Gs4) := (rps_gvr Gs8).trans e8
                  have l8 : (gvr Gs8).length = n := by
                    have a1 : (rps (gvr Gs8)).length = (rps (gvr Gs4)).length := by rw [e9]
                    unfold rps at a1
                    rw [List.length_map, List.length_map] at a1
                    exact a1.trans HP4.out.2.2
                  have X9 := drender_any ⟨k, cd, tx, ln⟩ (gvr Gs8) p8 n c8 w11 l8 G8.read (HR.out.2.2.2.below HP6.out.bel) (HB.out _ (by rw [e9, HP4.out.2.1]; exact HP4.out.1.wg))
                  simp only [e9, HTY.out] at X9
                  clear G8 e8 b11 e9 l8 HP5
                  go_wp2_with fail
                  refine X9.mono ?_
                  clear X9
                  rintro _ w12 ⟨rfl, b12⟩
                  have HX : Hid (∃ Gs, LBP w w12 z4 n cg #[.int .i64 k, .int .i64 cd, .int .i64 tx, .int .i64 ln, .slice (some ⟨G, 0, none⟩) n cg] (some ⟨G, 0, none⟩) Gs) := ⟨Gs4, HP6.out.below b12⟩
                  clear HP6 b12 HP4 HTY
                  go_wp2_with fail
                  go_roundw
                  case rel => exact ⟨i + 1, by go_num, by omega, HX⟩
                  case measure => simp [intOf]; omega
        · have i1 : ¬ (i : Int) < (n : Int) := by omega
          have hbe := hL.bel
          have HBE : Hid (Below w.heap.size w wr) := hbe
          clear hL hbe
          go_wp2_with fail
          go_ret
          exact ⟨rfl, HBE.out⟩
end Go.Proofs.YtfhlgncpleleaaaDoor
