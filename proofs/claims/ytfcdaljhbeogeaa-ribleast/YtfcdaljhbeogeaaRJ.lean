import Derived.Test.YtfcdaljhbeogeaaRO
import Derived.Test.YtfcdaljhbeogeaaRI
import Derived.Test.YtfcdaljhbeogeaaBY
import Derived.Deep.LoopGhost
namespace Go.Proofs.Ytfcdaljhbeogeaa
open Go.RowKit
/-- the edges and the dests are those of a graph with N nodes -/
structure Grf (N : Nat) (E : List IRt) (D : List Nat) : Prop where
  nn : N ≤ 16
  el : E.length ≤ 48
  dl : D.length ≤ 16
  ed : ∀ e ∈ E, 0 ≤ e.1 ∧ e.1 < (N : Int) ∧ 0 ≤ e.2.1 ∧ e.2.1 < (N : Int) ∧ 1 ≤ e.2.2.1 ∧ e.2.2.1 ≤ 9999
  ds : ∀ d ∈ D, d < N
theorem rowF_neg (N : Nat) : rowF (fun _ => (-1 : Int)) N N = List.replicate N (-1) := by
  apply List.ext_getElem?
  intro j
  by_cases h : j < N
  · rw [rowF_at h, if_pos h, List.getElem?_replicate, if_pos h]
  · rw [List.getElem?_eq_none (by rw [rowF_len]; omega), List.getElem?_eq_none (by simp; omega)]
theorem RelD.snoc {E : List IRt} {F : List Int} {P : IRt → Prop} {i : Nat} {e : IRt} (h : RelD (E.take i) F P) (he : E[i]? = some e) (hn : P e → 0 ≤ gF F e.1.toNat ∧ gF F e.1.toNat ≤ gF F e.2.1.toNat + e.2.2.1) : RelD (E.take (i + 1)) F P := fun x hx hp => by
  rw [List.take_add_one, he] at hx
  rcases List.mem_append.1 hx with a | a
  · exact h x a hp
  · have : x = e := by simpa using a
    subst this
    exact hn hp
theorem irr_cells {w : World} {g o0 : Nat} {S : List IRt} (h : IRR w (some ⟨g, o0, none⟩) S) {i : Nat} {r : IRt} (hi : S[i]? = some r) {W : World} (hW : Below w.heap.size w W) : W.cell? ⟨g, o0 + i * 4, none⟩ = some (.int .i64 r.1) ∧ W.cell? ⟨g, o0 + i * 4 + 1, none⟩ = some (.int .i64 r.2.1) ∧ W.cell? ⟨g, o0 + i * 4 + 2, none⟩ = some (.int .i64 r.2.2.1) ∧ W.cell? ⟨g, o0 + i * 4 + 3, none⟩ = some (.int .i64 r.2.2.2) := by
  obtain ⟨g3, q3, e, hh⟩ := h W hW i r hi
  injection e with e
  injection e with e1 e2
  subst e1 e2
  exact hh
/-- the state of the search -/
structure SS (w : World) (B N : Nat) (W : World) (F : List Int) (V : List Nat) (w0 : World) (v : Value) : Prop where
  hs : HS (XF w0 B w.heap.size N) W v V
  row : w0.ownsRow w.heap.size 3 1 (.slice (some ⟨w.heap.size, 0, none⟩) N N) N (iv F)
  gb : w.heap.size < B
  sz : B ≤ w0.heap.size
  bel : Below w.heap.size w w0
  hp : hp (ltF F) V
theorem SS.len {w W w0 : World} {B N : Nat} {F : List Int} {V : List Nat} {v : Value} (h : SS w B N W F V w0 v) : F.length = N := iv_len h.row
theorem SS.rowW {w W w0 : World} {B N : Nat} {F : List Int} {V : List Nat} {v : Value} (h : SS w B N W F V w0 v) : W.ownsRow w.heap.size 3 1 (.slice (some ⟨w.heap.size, 0, none⟩) N N) N (iv F) := own_bel h.row h.hs.bel (fun k e => by have e' : w.heap.size = k := (by injection e); have := h.gb; show k < B; omega)
theorem SS.belW {w W w0 : World} {B N : Nat} {F : List Int} {V : List Nat} {v : Value} (h : SS w B N W F V w0 v) : Below w.heap.size w W := h.bel.trans (h.hs.bel.mono (by have := h.gb; show w.heap.size ≤ B; omega))
theorem SS.below {w W W' w0 : World} {B N : Nat} {F : List Int} {V : List Nat} {v : Value} (h : SS w B N W F V w0 v) (hb : Below W.heap.size W W') : SS w B N W' F V w0 v := ⟨h.hs.below (XF_ok h.sz) hb, h.row, h.gb, h.sz, h.bel, h.hp⟩
/-- come, over the state -/
theorem come_ss {w W w0 : World} {B N : Nat} {F : List Int} {V : List Nat} {v : Value} (h : SS w B N W F V w0 v) (hV : ∀ x ∈ V, x < N) (hnd : V.Nodup) (hl : V.length ≤ 65535) {n : Nat} {l : Int} (hn : n < N) (h1 : gF F n < 0 → n ∉ V) (h2 : 0 ≤ gF F n → l < gF F n → n ∈ V) :
    Calls Try.prog 47 #[.pointer (some ⟨B, 0, none⟩), .int .i64 (n : Int), .int .i64 l] W fun e w' => e = .returned (.tuple #[]) ∧ ∃ (w1 : World) (v' : Value) (V' : List Nat), V'.Perm (cV F V n) ∧ SS w B N w' (cF F n l) V' w1 v' := by
  refine (come_any h.row h.gb h.sz h.hs h.hp hV hnd hl hn h1 h2).mono ?_
  rintro e w' ⟨rfl, w1, v', V', a1, a2, a3, a4, a5, a6⟩
  exact ⟨rfl, w1, v', V', a1, a3, a4, h.gb, a5, h.bel.trans a6, a2⟩
set_option maxRecDepth 100000 in
set_option maxHeartbeats 4000000 in
theorem lengths_any {N : Nat} {E : List IRt} {D : List Nat} (hG : Grf N E D) (oe : Option Addr) (ce : Nat) (od : Option Addr) (cd ne nd : Nat) (w : World) (hne : E.length = ne) (hnd : D.length = nd) (hE : IRR w oe E) (hD : IRI w od (D.map (fun d : Nat => (d : Int)))) :
    Calls Try.prog 32 #[.int .i64 (N : Int), .slice oe ne ce, .slice od nd cd] w fun e w' => ∃ G : List Int, e = .returned (.slice (some ⟨w.heap.size, 0, none⟩) N N) ∧ Cert E D G ∧ G.length = N ∧ (∀ u, gF G u ≤ 159984) ∧ w'.ownsRow w.heap.size 3 1 (.slice (some ⟨w.heap.size, 0, none⟩) N N) N (iv G) ∧ Below w.heap.size w w' := by
  obtain ⟨i0, hi, hz0, hz1, hz2⟩ := info_parts info_int8
  have HG : Hid (Grf N E D) := hG
  have HE : Hid (IRR w oe E) := hE
  have HD : Hid (IRI w od (D.map (fun d : Nat => (d : Int)))) := hD
  have HNE : Hid (E.length = ne ∧ D.length = nd) := ⟨hne, hnd⟩
  have hN : N ≤ 16 := hG.nn
  have he48 : ne ≤ 48 := hne ▸ hG.el
  have hd16 : nd ≤ 16 := hnd ▸ hG.dl
  clear hG hE hD hne hnd
  go_enter Try.func32, Try.ntmps32
  go_wp2_with (at_make; refine wpList_make_full _ rfl _ _ 68 rfl w.heap.size 3 i0 (.int .i64 0) 1 Try.underlying68 hi hz0 hz1 .i64 .i64 _ _ N rfl rfl rfl rfl (by rw [hz2]; omega) (by unfold maxLen; omega) (Nat.le_refl _) ?_; intro w5 hO5 hg5)
  rw [iv_made, rowF_zero (fun _ => (-1 : Int)) N] at hO5
  have O5 : Hid (w5.ownsRow w.heap.size 3 1 (.slice (some ⟨w.heap.size, 0, none⟩) N N) N (iv (rowF (fun _ => (-1 : Int)) N 0))) := hO5
  have B5 : Hid (Below w.heap.size w w5) := (Below.refl _ _).grown hg5 (Nat.le_refl _) (fun k e => by cases e)
  clear hO5 hg5 hz0 hz1 hz2 hi
  go_loopw [19] (fun vk wr => ∃ k : Nat, vk = .int .i64 (k : Int) ∧ k ≤ N ∧ Hid (wr.ownsRow w.heap.size 3 1 (.slice (some ⟨w.heap.size, 0, none⟩) N N) N (iv (rowF (fun _ => (-1 : Int)) N k))) ∧ Below w.heap.size w wr) (fun vk _ => N - (intOf vk).toNat)
  case atStart => exact ⟨0, rfl, Nat.zero_le _, O5, B5.out⟩
  case round =>
    clear O5 B5
    obtain ⟨k, rfl, hk, hO, hB⟩ := hrel
    by_cases hlt : k < N
    · have j1 : (k : Int) < (N : Int) := by omega
      have j0 : (0 : Int) ≤ (k : Int) := by omega
      have q2 := iv_at hO.out (rowF_at hlt)
      have z2 := hO.out.frozenAt k
      have hst := hO.out.stored k (.int .i64 (-1))
      rw [iv_set, rowF_succ (fun _ => (-1 : Int)) N k] at hst
      have H5 : Hid ((wr.setCell ⟨w.heap.size, k, none⟩ (.int .i64 (-1))).ownsRow w.heap.size 3 1 (.slice (some ⟨w.heap.size, 0, none⟩) N N) N (iv (rowF (fun _ => (-1 : Int)) N (k + 1))) ∧ Below w.heap.size w (wr.setCell ⟨w.heap.size, k, none⟩ (.int .i64 (-1)))) := ⟨hst.1, hB.grown hst.2 hB.size (fun j e => by injection e with e; omega)⟩
      clear hst hO
      go_wp2_with fail
      go_roundw
      case rel => exact ⟨k + 1, by go_num, by omega, H5.out.1, H5.out.2⟩
      case measure => simp [intOf]; omega
    · have j1 : ¬ (k : Int) < (N : Int) := by omega
      obtain rfl : k = N := by omega
      have hO1 := hO.out
      rw [rowF_neg] at hO1
      have hgb := (hO1.lt w.heap.size rfl).2
      obtain ⟨OB, hOB⟩ : ∃ OB : Obj, Obj.cells #[.slice (some ⟨w.heap.size, 0, none⟩) k k, .slice none 0 0, .func (.func 46) #[.slice (some ⟨w.heap.size, 0, none⟩) k k] #[]] 72 = OB := ⟨_, rfl⟩
      have HSS : Hid (SS w wr.heap.size k (wr.alloc OB) (List.replicate k (-1)) [] wr (.slice none 0 0)) := by
        refine ⟨⟨?_, World.ownsRow_nil _ _ _ _, (Below.refl _ _).alloc (Nat.le_refl _) _, trivial⟩, hO1, hgb, Nat.le_refl _, hB, fun i x y h0 hx => by simp at hx⟩
        rw [← hOB]
        exact alloc_get _ _
      clear hO hO1 hgb hB
      go_upto_region 8 with fail
      try rw [hOB]
      generalize wr.alloc OB = w3 at HSS ⊢
      generalize wr.heap.size = B at HSS ⊢
      clear hOB
      go_wp2_with fail
      go_loopw [33] (fun vi wr => ∃ (i : Nat) (F : List Int) (V : List Nat) (w0 : World) (v : Value), vi = .int .i64 (i : Int) ∧ i ≤ nd ∧ Hid (DI E (D.take i) F V [] ∧ SS w B k wr F V w0 v)) (fun vi _ => nd - (intOf vi).toNat)
      case atStart => exact ⟨0, _, [], _, _, rfl, Nat.zero_le _, DI.start E k, HSS.out⟩
      case round =>
        clear HSS
        obtain ⟨i, F, V, w0, v, rfl, hi, hS⟩ := hrel
        by_cases hlt2 : i < nd
        · have j2 : (i : Int) < (nd : Int) := by omega
          have j3 : (0 : Int) ≤ (i : Int) := by omega
          obtain ⟨d, hd⟩ : ∃ d, D[i]? = some d := ⟨_, List.getElem?_eq_getElem (by rw [HNE.out.2]; omega)⟩
          obtain ⟨gd, ov, rfl, p0⟩ := HD.out wr hS.out.2.belW i (d : Int) (by rw [List.getElem?_map, hd]; rfl)
          have hdN : d < k := HG.out.ds d (List.mem_of_getElem? hd)
          have hFl := hS.out.2.len
          have hdi := hS.out.1
          have hcnt := hdi.count
          have HCM : Hid (Calls Try.prog 47 #[.pointer (some ⟨B, 0, none⟩), .int .i64 (d : Int), .int .i64 0] wr fun e w' => e = .returned (.tuple #[]) ∧ ∃ (w1 : World) (v' : Value) (V' : List Nat), V'.Perm (cV F V d) ∧ SS w B k w' (cF F d 0) V' w1 v') := come_ss hS.out.2 (fun x hx => hFl ▸ hdi.vlt x hx) (by have := hdi.nod; rwa [List.nil_append] at this) (by omega) hdN (fun c1 a => by have := (hdi.mem d).2 (.inl a); omega) (fun c0 c1 => by
            rcases hdi.tgt d c0 with a | ⟨e, he, e1, e2, e3⟩
            · omega
            · cases e2)
          have HDT : Hid (D.take (i + 1) = D.take i ++ [d]) := by unfold Hid; rw [List.take_add_one, hd]; rfl
          have HDL : Hid (d < F.length) := by unfold Hid; omega
          clear hd hcnt hdi hFl hdN
          go_wp2_with fail
          refine HCM.out.mono ?_
          rintro e W2 ⟨rfl, w1, v1, V1, a1, a2⟩
          go_wp2_with fail
          go_roundw
          case rel => exact ⟨i + 1, cF F d 0, V1, w1, v1, by go_num, by omega, by unfold Hid; rw [HDT.out]; exact ⟨hS.out.1.dest HDL.out a1, a2⟩⟩
          case measure => simp [intOf]; omega
        · have j2 : ¬ (i : Int) < (nd : Int) := by omega
          have HS1 : Hid (DI E D F V [] ∧ SS w B k wr F V w0 v) := by
            have := hS.out
            rw [List.take_of_length_le (by rw [HNE.out.2]; omega)] at this
            exact this
          clear hS
          have HB0 : Hid (∀ u, gF F u ≤ 9999 * ((([] : List Nat).length : Nat) : Int)) := fun u => by
            rcases HS1.out.1.dom u with a | a
            · rw [a]; simp
            · rcases HS1.out.1.tgt u a with b | ⟨e, he, e1, e2, e3⟩
              · rw [b.1]; simp
              · cases e2
          go_wp2_with fail
          go_loopg [12] k (fun gk _ wr => ∃ (Sd : List Nat) (F : List Int) (V : List Nat) (w0 : World) (v : Value), gk + Sd.length = k ∧ Hid (DI E D F V Sd ∧ SS w B k wr F V w0 v ∧ RelD E F (fun e => e.2.1.toNat ∈ Sd) ∧ ∀ u, gF F u ≤ 9999 * (Sd.length : Int)))
          case atStart => exact ⟨[], F, V, w0, v, rfl, HS1.out.1, HS1.out.2, fun e _ h => (by cases h), HB0.out⟩
          case round =>
            clear HS1 HB0
            obtain ⟨Sd, F, V, w0, v, hgk, hS⟩ := hrel
            have HE0 := hempty_any (XF_ok hS.out.2.1.sz) hS.out.2.1.hs
            by_cases hV0 : V.length = 0
            · rw [decide_eq_true hV0] at HE0
              have HEM : Hid (Calls Try.prog 48 #[.pointer (some ⟨B, 1, none⟩)] wr fun e w' => e = .returned (.bool true) ∧ w' = wr) := HE0
              obtain rfl : V = [] := List.length_eq_zero_iff.1 hV0
              clear HE0
              go_wp2_with fail
              refine HEM.out.mono ?_
              rintro e W2 ⟨rfl, rfl⟩
              go_wp2_with fail
              go_ret
              exact ⟨F, rfl, hS.out.1.done hS.out.2.2.1, hS.out.2.1.len, fun u => by have := hS.out.2.2.2 u; omega, hS.out.2.1.rowW, hS.out.2.1.belW⟩
            · rw [decide_eq_false hV0] at HE0
              have HEM : Hid (Calls Try.prog 48 #[.pointer (some ⟨B, 1, none⟩)] wr fun e w' => e = .returned (.bool false) ∧ w' = wr) := HE0
              obtain ⟨t, ht⟩ : ∃ t, V[0]? = some t := ⟨_, List.getElem?_eq_getElem (by omega)⟩
              have hFl := hS.out.2.1.len
              have hcnt := hS.out.1.count
              have HTK : Hid (Calls Try.prog 49 #[.pointer (some ⟨B, 1, none⟩)] wr fun e w' => e = .returned (.int .i64 (t : Int)) ∧ ∃ v' V', V.Perm (t :: V') ∧ hp (ltF F) V' ∧ HS (XF w0 B w.heap.size k) w' v' V') := htake_any (XF_ok hS.out.2.1.sz) (ltF_swo F) (XF_fa hS.out.2.1.row hS.out.2.1.gb) hS.out.2.1.hs hS.out.2.1.hp (fun x hx => hFl ▸ hS.out.1.vlt x hx) (by omega) ht
              have HMN : Hid (∀ x ∈ V, gF F t ≤ gF F x) := fun x hx => by
                have := hp_min (ltF_swo F) hS.out.2.1.hp ht x hx
                unfold ltF at this
                rw [decide_eq_false_iff_not] at this
                omega
              have htN : t < k := hFl ▸ hS.out.1.vlt t (List.mem_of_getElem? ht)
              have hsk : Sd.length < k := by omega
              clear HE0 ht hcnt hFl
              go_wp2_with fail
              refine HEM.out.mono ?_
              rintro e W2 ⟨rfl, rfl⟩
              go_wp2_with fail
              refine HTK.out.mono ?_
              rintro e W3 ⟨rfl, v3, V3, a1, a2, a3⟩
              obtain ⟨hdi, hmx, ht0⟩ := hS.out.1.take a1 HMN.out
              have HS3 : Hid (DI E D F V3 (Sd ++ [t]) ∧ SS w B k W3 F V3 w0 v3 ∧ RelD E F (fun e => e.2.1.toNat ∈ Sd) ∧ RelD (E.take 0) F (fun e => e.2.1.toNat = t) ∧ (∀ s ∈ Sd ++ [t], gF F s ≤ gF F t) ∧ gF F t ≤ 9999 * (Sd.length : Int) ∧ ∀ u, gF F u ≤ 9999 * (Sd.length : Int) + 9999) := ⟨hdi, ⟨a3, hS.out.2.1.row, hS.out.2.1.gb, hS.out.2.1.sz, hS.out.2.1.bel, a2⟩, hS.out.2.2.1, fun e he => by simp at he, hmx, hS.out.2.2.2 t, fun u => by have := hS.out.2.2.2 u; omega⟩
              have HTG : Hid (gF F t ≤ 9999 * (Sd.length : Int) ∧ 0 ≤ gF F t) := ⟨hS.out.2.2.2 t, ht0⟩
              obtain ⟨ft, hft⟩ : ∃ ft, gF F t = ft := ⟨_, rfl⟩
              have HFT : Hid (gF F t = ft) := hft
              clear hdi hmx ht0 a1 a2 a3 HTK hS HMN hft
              go_wp2_with fail
              go_loopw [47] (fun vi wr => ∃ (i : Nat) (F : List Int) (V : List Nat) (w0 : World) (v : Value), vi = .int .i64 (i : Int) ∧ i ≤ ne ∧ Hid (gF F t = ft ∧ DI E D F V (Sd ++ [t]) ∧ SS w B k wr F V w0 v ∧ RelD E F (fun e => e.2.1.toNat ∈ Sd) ∧ RelD (E.take i) F (fun e => e.2.1.toNat = t) ∧ (∀ s ∈ Sd ++ [t], gF F s ≤ gF F t) ∧ gF F t ≤ 9999 * (Sd.length : Int) ∧ ∀ u, gF F u ≤ 9999 * (Sd.length : Int) + 9999)) (fun vi _ => ne - (intOf vi).toNat)
              case atStart => exact ⟨0, F, V3, w0, v3, rfl, Nat.zero_le _, HFT.out, HS3.out⟩
              case round =>
                clear HS3 HTG HFT
                obtain ⟨i, F, V, w0, v, rfl, hine, hS⟩ := hrel
                by_cases hlt4 : i < ne
                · have m1 : (i : Int) < (ne : Int) := by omega
                  have m0 : (0 : Int) ≤ (i : Int) := by omega
                  obtain ⟨e, hei⟩ : ∃ e, E[i]? = some e := ⟨_, List.getElem?_eq_getElem (by rw [HNE.out.1]; omega)⟩
                  have heE := List.mem_of_getElem? hei
                  obtain ⟨g1, g2, g3, g4, g5, g6⟩ := HG.out.ed e heE
                  obtain ⟨n, hn⟩ : ∃ n : Nat, e.1 = (n : Int) := ⟨e.1.toNat, by omega⟩
                  obtain ⟨m, hm⟩ : ∃ m : Nat, e.2.1 = (m : Int) := ⟨e.2.1.toNat, by omega⟩
                  have hnk : n < k := by omega
                  have hmk : m < k := by omega
                  obtain ⟨ge, oo, rfl, -⟩ := HE.out wr hS.out.2.2.1.belW i e hei
                  obtain ⟨OB, hOB⟩ : ∃ OB : Obj, Obj.cells #[.int .i64 e.1, .int .i64 e.2.1, .int .i64 e.2.2.1, .int .i64 e.2.2.2] 34 = OB := ⟨_, rfl⟩
                  have hR : (wr.alloc OB).heap[wr.heap.size]? = some (.cells #[.int .i64 e.1, .int .i64 e.2.1, .int .i64 e.2.2.1, .int .i64 e.2.2.2] 34 (0, 0)) := by rw [← hOB]; exact alloc_get _ _
                  have hBA : Below wr.heap.size wr (wr.alloc OB) := (Below.refl _ _).alloc (Nat.le_refl _) _
                  obtain ⟨p0, p1, p2, p3⟩ := irr_cells HE.out hei hS.out.2.2.1.belW
                  have HEI : Hid (E[i]? = some e ∧ e ∈ E ∧ e.1 = (n : Int) ∧ e.2.1 = (m : Int) ∧ 1 ≤ e.2.2.1 ∧ e.2.2.1 ≤ 9999) := ⟨hei, heE, hn, hm, g5, g6⟩
                  rw [hn] at p0 hR hOB
                  rw [hm] at p1 hR hOB
                  obtain ⟨c, hc⟩ : ∃ c, e.2.2.1 = c := ⟨_, rfl⟩
                  obtain ⟨ou, hou⟩ : ∃ ou, e.2.2.2 = ou := ⟨_, rfl⟩
                  rw [hc] at p2 hR hOB
                  rw [hou] at p3 hR hOB
                  have HCC : Hid (e.2.2.1 = c) := hc
                  clear g1 g2 g3 g4 g5 g6 hei heE hn hm hc hou
                  have HSA : Hid (gF F t = ft ∧ DI E D F V (Sd ++ [t]) ∧ SS w B k (wr.alloc OB) F V w0 v ∧ RelD E F (fun e => e.2.1.toNat ∈ Sd) ∧ RelD (E.take i) F (fun e => e.2.1.toNat = t) ∧ (∀ s ∈ Sd ++ [t], gF F s ≤ gF F t) ∧ gF F t ≤ 9999 * (Sd.length : Int) ∧ ∀ u, gF F u ≤ 9999 * (Sd.length : Int) + 9999) := by
                    obtain ⟨b0, b1, b2, b3, b4, b5, b6, b7⟩ := hS.out
                    exact ⟨b0, b1, b2.below hBA, b3, b4, b5, b6, b7⟩
                  clear hS
                  by_cases d1 : m = t
                  · subst d1
                    have e1 : ((m : Int) == (m : Int)) = true := beq_self_eq_true _
                    go_upto_region 18 with fail
                    try rw [hOB]
                    generalize wr.alloc OB = w3 at hR HSA hBA ⊢
                    generalize wr.heap.size = R at hR ⊢
                    clear hOB p0 p1 p2 p3 hBA
                    have y1 := cell_of_row _ _ 1 _ _ _ hR
                    simp only [List.getElem?_toArray, List.getElem?_cons_zero, List.getElem?_cons_succ] at y1
                    have HL : Hid (∀ W, Below w3.heap.size w3 W → W.cell? ⟨R, 0, none⟩ = some (.int .i64 (n : Int)) ∧ W.cell? ⟨R, 2, none⟩ = some (.int .i64 c) ∧ W.cell? ⟨w.heap.size, m, none⟩ = some (.int .i64 ft)) := fun W hW => by
                      have hs := (HSA.out.2.2.1.below hW).rowW
                      have hl := HSA.out.2.2.1.len
                      have := iv_at hs (gF_at (F := F) (v := m) (by omega))
                      rw [HSA.out.1] at this
                      exact ⟨cell_of_row _ _ 0 _ _ _ (keepblk hW hR), cell_of_row _ _ 2 _ _ _ (keepblk hW hR), this⟩
                    have i3 : (0 : Int) ≤ (m : Int) := by omega
                    have i4 : (m : Int) < (k : Int) := by omega
                    obtain ⟨L, hL⟩ : ∃ L : Int, ft + c = L := ⟨_, rfl⟩
                    have eL : IntKind.i64.wrap (ft + c) = L := by
                      obtain ⟨b0, b1, b2, b3, b4, b5, b6, b7⟩ := HSA.out
                      have h5 := HEI.out.2.2.2.2
                      have h0 : 0 ≤ gF F m := (b1.mem m).2 (.inr (List.mem_append_right _ (List.mem_singleton.2 rfl)))
                      rw [HCC.out] at h5
                      rw [b0] at b6 h0
                      rw [IntKind.wrap_i64]
                      omega
                    have HLL : Hid (L = gF F m + e.2.2.1) := by unfold Hid; rw [HSA.out.1, HCC.out, hL]
                    have hFl := HSA.out.2.2.1.len
                    have hcnt := HSA.out.2.1.count
                    have HCM : Hid (∀ W, Below w3.heap.size w3 W → Calls Try.prog 47 #[.pointer (some ⟨B, 0, none⟩), .int .i64 (n : Int), .int .i64 L] W fun e w' => e = .returned (.tuple #[]) ∧ ∃ (w1 : World) (v' : Value) (V' : List Nat), V'.Perm (cV F V n) ∧ SS w B k w' (cF F n L) V' w1 v') := fun W hW => come_ss (HSA.out.2.2.1.below hW) (fun x hx => hFl ▸ HSA.out.2.1.vlt x hx) (List.nodup_append.1 HSA.out.2.1.nod).2.1 (by omega) hnk (fun c1 a => by have := (HSA.out.2.1.mem n).2 (.inl a); omega) (fun c0 c1 => HSA.out.2.1.open_less HSA.out.2.2.2.2.2.1 HEI.out.2.2.2.2.1 HLL.out c0 c1)
                    have HNF : Hid (n < F.length) := by unfold Hid; omega
                    clear hFl hcnt hL
                    go_wp2_with fail
                    refine quiet_last (C := fun W => Below w3.heap.size w3 W) (by kernel_rfl) (by kernel_rfl) (by kernel_rfl) (by kernel_rfl) (show Below _ _ _ from (Below.refl _ _).drew) ?_
                    simp only [List.dropLast_cons_cons, List.dropLast_singleton]
                    go_big_quiet_want
                    refine ⟨.pointer (some ⟨R, 0, none⟩), fun W hW => ?_, ?_⟩
                    · go_simp
                    go_big_quiet_on
                    simp only [Act.put, List.setIfInBounds_toArray, List.set_cons_zero, List.set_cons_succ]
                    go_big_quiet_want
                    refine ⟨.int .i64 (n : Int), fun W hW => ?_, ?_⟩
                    · obtain ⟨z0, z1, z2⟩ := HL.out W hW
                      go_simp
                    go_big_quiet_on
                    simp only [Act.put, List.setIfInBounds_toArray, List.set_cons_zero, List.set_cons_succ]
                    go_big_quiet_want
                    go_big_quiet_op
                    go_big_quiet_on
                    go_big_quiet_want
                    go_big_quiet_op
                    go_big_quiet_on
                    go_big_quiet_want
                    refine ⟨.pointer (some ⟨w.heap.size, m, none⟩), fun W hW => ?_, ?_⟩
                    · go_simp
                    go_big_quiet_on
                    simp only [Act.put, List.setIfInBounds_toArray, List.set_cons_zero, List.set_cons_succ]
                    go_big_quiet_want
                    refine ⟨.int .i64 ft, fun W hW => ?_, ?_⟩
                    · obtain ⟨z0, z1, z2⟩ := HL.out W hW
                      go_simp
                    go_big_quiet_on
                    simp only [Act.put, List.setIfInBounds_toArray, List.set_cons_zero, List.set_cons_succ]
                    go_big_quiet_want
                    refine ⟨.pointer (some ⟨R, 2, none⟩), fun W hW => ?_, ?_⟩
                    · go_simp
                    go_big_quiet_on
                    simp only [Act.put, List.setIfInBounds_toArray, List.set_cons_zero, List.set_cons_succ]
                    go_big_quiet_want
                    refine ⟨.int .i64 c, fun W hW => ?_, ?_⟩
                    · obtain ⟨z0, z1, z2⟩ := HL.out W hW
                      go_simp
                    go_big_quiet_on
                    simp only [Act.put, List.setIfInBounds_toArray, List.set_cons_zero, List.set_cons_succ]
                    go_big_quiet_want
                    refine ⟨.int .i64 L, fun W hW => ?_, ?_⟩
                    · go_simp
                    go_big_quiet_on
                    simp only [Act.put, List.setIfInBounds_toArray, List.set_cons_zero, List.set_cons_succ]
                    refine wpQuiet_nil ?_
                    intro W hW
                    refine wpOp_gor rfl rfl ?_
                    go_simp
                    refine (HCM.out W hW).mono ?_
                    rintro e' W4 ⟨rfl, w1, v1, V1, a1, a2⟩
                    have HNX : Hid (gF (cF F n L) m = ft ∧ DI E D (cF F n L) V1 (Sd ++ [m]) ∧ SS w B k W4 (cF F n L) V1 w1 v1 ∧ RelD E (cF F n L) (fun e => e.2.1.toNat ∈ Sd) ∧ RelD (E.take (i + 1)) (cF F n L) (fun e => e.2.1.toNat = m) ∧ (∀ s ∈ Sd ++ [m], gF (cF F n L) s ≤ gF (cF F n L) m) ∧ gF (cF F n L) m ≤ 9999 * (Sd.length : Int) ∧ ∀ u, gF (cF F n L) u ≤ 9999 * (Sd.length : Int) + 9999) := by
                      obtain ⟨b0, b1, b2, b3, b4, b5, b6, b7⟩ := HSA.out
                      obtain ⟨c0, c1, c2, c3, c4, c5⟩ := HEI.out
                      have hms : m ∈ Sd ++ [m] := List.mem_append_right _ (List.mem_singleton.2 rfl)
                      obtain ⟨x1, x2, x3, x4, x5⟩ := b1.come hms b5 c1 (n := n) (by rw [c2]; rfl) (by rw [c3]; rfl) c4 HLL.out HNF.out a1
                      have xm := x2 m hms
                      refine ⟨by rw [xm, b0], x1, a2, x3 E _ (fun e h => List.mem_append_left _ h) b3, RelD.snoc (x3 _ _ (fun e h => by show e.2.1.toNat ∈ Sd ++ [m]; rw [h]; exact hms) b4) c0 (fun h => ?_), fun s hs => ?_, by rw [xm]; exact b6, fun u => ?_⟩
                      · have h' : e.2.1.toNat = m := h
                        rw [h', xm, show e.1.toNat = n by rw [c2]; rfl, ← HLL.out]
                        exact x4
                      · rw [x2 s hs, xm]
                        exact b5 s hs
                      · rcases x5 u with h | h
                        · have := b7 u
                          omega
                        · have := HLL.out
                          omega
                    go_wp2_with fail
                    go_roundw
                    case rel => exact ⟨i + 1, cF F n L, V1, w1, v1, by go_num, by omega, HNX.out⟩
                    case measure => simp [intOf]; omega
                  · have e1 : ((m : Int) == (t : Int)) = false := beq_eq_false_iff_ne.2 (by omega)
                    have HNX : Hid (gF F t = ft ∧ DI E D F V (Sd ++ [t]) ∧ SS w B k (wr.alloc OB) F V w0 v ∧ RelD E F (fun e => e.2.1.toNat ∈ Sd) ∧ RelD (E.take (i + 1)) F (fun e => e.2.1.toNat = t) ∧ (∀ s ∈ Sd ++ [t], gF F s ≤ gF F t) ∧ gF F t ≤ 9999 * (Sd.length : Int) ∧ ∀ u, gF F u ≤ 9999 * (Sd.length : Int) + 9999) := by
                      obtain ⟨b0, b1, b2, b3, b4, b5, b6, b7⟩ := HSA.out
                      refine ⟨b0, b1, b2, b3, RelD.snoc b4 HEI.out.1 (fun h => absurd ?_ d1), b5, b6, b7⟩
                      have h' : e.2.1.toNat = t := h
                      rw [HEI.out.2.2.2.1] at h'
                      omega
                    rw [← hOB] at HNX
                    clear HSA hR hBA hOB
                    go_wp2_with fail
                    go_roundw
                    case rel => exact ⟨i + 1, F, V, w0, v, by go_num, by omega, HNX.out⟩
                    case measure => simp [intOf]; omega
                · have m1 : ¬ (i : Int) < (ne : Int) := by omega
                  have HNX : Hid (DI E D F V (Sd ++ [t]) ∧ SS w B k wr F V w0 v ∧ RelD E F (fun e => e.2.1.toNat ∈ Sd ++ [t]) ∧ ∀ u, gF F u ≤ 9999 * ((Sd ++ [t]).length : Int)) := by
                    obtain ⟨b0, b1, b2, b3, b4, b5, b6, b7⟩ := hS.out
                    rw [List.take_of_length_le (by rw [HNE.out.1]; omega)] at b4
                    refine ⟨b1, b2, fun e he hp => ?_, fun u => ?_⟩
                    · rcases List.mem_append.1 hp with a | a
                      · exact b3 e he a
                      · exact b4 e he (List.mem_singleton.1 a)
                    · have := b7 u
                      rw [List.length_append]
                      simp only [List.length_cons, List.length_nil]
                      omega
                  clear hS
                  go_wp2_with fail
                  go_roundg (gk - 1)
                  case measure => omega
                  case rel => exact ⟨Sd ++ [t], F, V, w0, v, by rw [List.length_append]; simp only [List.length_cons, List.length_nil]; omega, HNX.out⟩
end Go.Proofs.Ytfcdaljhbeogeaa
