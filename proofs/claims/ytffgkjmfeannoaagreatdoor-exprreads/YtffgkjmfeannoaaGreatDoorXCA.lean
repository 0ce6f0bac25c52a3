import Derived.Test.YtffgkjmfeannoaaGreatDoorXBU
import Derived.Lib.SmallJoins
import Derived.Deep.Slices
import Derived.SizedLaws
namespace Go.Proofs.YtffgkjmfeannoaaGreatDoor.Ex
open Go.RowKit
def xtC (t : XTok) : List Value := [.int .i64 t.1, .string ⟨t.2.1.toArray⟩, .int .i64 t.2.2.1, .int .i64 t.2.2.2]
def xtD {H : Type} (t : XTok) : DataW H := .agg [.lit (.int .i64 t.1), .lit (.string t.2.1), .lit (.int .i64 t.2.2.1), .lit (.int .i64 t.2.2.2)]
theorem cT0 : Tryz.prog.cellsOf 3 = 1 := by kernel_rfl
theorem cT1 : Tryz.prog.cellsOf 9 = 1 := by kernel_rfl
theorem cT4 : Tryz.prog.cellsOf 24 = 4 := by kernel_rfl
section
variable {H : Type} {enc : TypeId × Value → H} {w : World} {base : Nat} {sp : Nat → Bool} {held : Bool}
theorem tok_open {fuel : Nat} {cs : List Value} {x : DataW H × List MemPlace} (h : DataW.trod enc Tryz.prog w base sp held fuel 24 cs = some x) : ∃ t : XTok, cs = xtC t ∧ x.1 = xtD t := by
  obtain ⟨y0, y1, y2, y3, m, rfl, hlen, g0, g1, g2, g3⟩ := Joins.trod_struct4 Tryz.underlying24 h
  obtain ⟨z1, a1, b1, _⟩ := DataW.trod_string Tryz.underlying9 g1
  obtain ⟨z0, a0, b0, _⟩ := DataW.trod_int Tryz.underlying3 g0
  obtain ⟨z2, a2, b2, _⟩ := DataW.trod_int Tryz.underlying3 g2
  obtain ⟨z3, a3, b3, _⟩ := DataW.trod_int Tryz.underlying3 g3
  refine ⟨(z0, z1.data.toList, z2, z3), ?_, by rw [b0, b1, b2, b3]; rfl⟩
  rw [cT0] at a0 a2 a3
  rw [cT1] at a1
  rw [cT4] at hlen
  clear g0 g1 g2 g3 h
  match cs, hlen with
  | [c0, c1, c2, c3], _ =>
    have e0 : c0 = .int .i64 z0 := by simpa using a0
    have e1 : c1 = .string z1 := by simpa using a1
    have e2 : c2 = .int .i64 z2 := by simpa using a2
    have e3 : c3 = .int .i64 z3 := by simpa using a3
    unfold xtC
    rw [e0, e1, e2, e3]
theorem add_spot {a : Addr} (h : a.spot = none) (m : Nat) : a.add m = ⟨a.block, a.off + m, none⟩ := by
  unfold Addr.add
  split
  · rename_i h0
    subst h0
    obtain ⟨b, o, s⟩ := a
    simp only at h
    subst h
    rfl
  · rfl
theorem cell_spot {a : Addr} {v : Value} (h : w.cell? a = some v) : a.spot = none := by
  unfold World.cell? at h
  split at h
  · split at h
    · cases h
    · rename_i hs
      cases hh : a.spot with
      | none => rfl
      | some s => rw [hh] at hs; simp at hs
  · cases h
theorem open_toks {fuel : Nat} {cs : List Value} {x : DataW H × List MemPlace} (hf : DataW.trod enc Tryz.prog w 0 sp held fuel 22 cs = some x) :
    (cs = [.slice none 0 0] ∧ x = (.nil, [])) ∨ ∃ (a : Addr) (len cap : Nat) (L : List XTok) (spare : List (DataW H)), cs = [.slice (some a) len cap] ∧ L.length = len ∧ x.1 = .slice (L.map xtD) spare ∧
      ∀ k t, L[k]? = some t → ∃ g o0, a = ⟨g, o0, none⟩ ∧ w.cell? ⟨g, o0 + k * 4, none⟩ = some (.int .i64 t.1) ∧ w.cell? ⟨g, o0 + k * 4 + 1, none⟩ = some (.string ⟨t.2.1.toArray⟩) ∧ w.cell? ⟨g, o0 + k * 4 + 2, none⟩ = some (.int .i64 t.2.2.1) ∧ w.cell? ⟨g, o0 + k * 4 + 3, none⟩ = some (.int .i64 t.2.2.2) := by
  rcases Deep.open_slice Tryz.underlying22 hf with h | ⟨a, len, cap, m, n, D, Pl, hcs, _, hlc, hcm, hm, hx, hD⟩
  · exact .inl h
  · right
    rw [cT4] at hD
    have hlm : len ≤ m := by rw [hm]; split <;> omega
    have hex : ∀ i, ∃ t : XTok, i < m → w.cells? 0 (a.add (i * 4)) 4 = some (xtC t) ∧ D i = xtD t := fun i => by
      by_cases hi : i < m
      · obtain ⟨cs', h1, h2⟩ := hD i hi
        obtain ⟨t, e1, e2⟩ := tok_open h2
        exact ⟨t, fun _ => ⟨by rw [h1, e1], e2⟩⟩
      · exact ⟨(0, [], 0, 0), fun h => absurd h hi⟩
    obtain ⟨F, hF⟩ := Classical.axiomOfChoice hex
    refine ⟨a, len, cap, (List.range len).map F, (List.range (m - len)).map fun j => D (len + j), hcs, by simp, ?_, fun k t ht => ?_⟩
    · rw [hx]
      simp only [List.map_map]
      congr 1
      refine List.map_congr_left (fun i hi => ?_)
      exact (hF i (by have := List.mem_range.1 hi; omega)).2
    · rw [List.getElem?_map] at ht
      by_cases hk : k < len
      · rw [List.getElem?_range hk] at ht
        obtain rfl := Option.some.inj ht
        have cell : ∀ i j v, i < m → (xtC (F i))[j]? = some v → j < 4 → w.cell? ((a.add (i * 4)).add j) = some v := fun i j v hi hv hj => by
          have h1 := (hF i hi).1
          unfold World.cells? at h1
          rw [if_pos (Nat.zero_le _)] at h1
          obtain ⟨b, hb, hc⟩ := Lib.mapM_at h1 j j (by simp [hj])
          rw [hv] at hb
          rw [Option.some.inj hb]
          exact hc
        have h00 := cell 0 0 _ (by omega) rfl (by decide)
        have hs : a.spot = none := by
          have e : (a.add (0 * 4)).add 0 = a := rfl
          rw [e] at h00
          exact cell_spot h00
        obtain ⟨g, o0, s⟩ := a
        simp only at hs
        subst hs
        have ea : ∀ j, ((⟨g, o0, none⟩ : Addr).add (k * 4)).add j = ⟨g, o0 + k * 4 + j, none⟩ := fun j => by
          rw [add_spot rfl (k * 4), add_spot rfl j]
        have c0 := cell k 0 _ (by omega) rfl (by decide)
        have c1 := cell k 1 _ (by omega) rfl (by decide)
        have c2 := cell k 2 _ (by omega) rfl (by decide)
        have c3 := cell k 3 _ (by omega) rfl (by decide)
        rw [ea] at c0 c1 c2 c3
        exact ⟨g, o0, rfl, c0, c1, c2, c3⟩
      · rw [List.getElem?_eq_none (by simp; omega)] at ht
        cases ht
theorem w_tok (t : XTok) : t.2.1.length ∈ DataW.weights Tryz.prog 24 (xtD t : DataW H) := by
  unfold xtD
  simp [DataW.weights, Tryz.underlying24, DataW.weightsEach]
theorem w_toks {t : XTok} : ∀ {L : List XTok}, t ∈ L → t.2.1.length ∈ DataW.weightsAll Tryz.prog 24 (L.map (xtD : XTok → DataW H))
  | u :: L, h => by
    rw [List.map_cons, DataW.weightsAll]
    rcases List.mem_cons.1 h with rfl | h
    · exact List.mem_append_left _ (w_tok t)
    · exact List.mem_append_right _ (w_toks h)
theorem sized_toks {ts : List TypeId} {ds : List (DataW H)} (h : (DataW.weightsEach Tryz.prog ts ds).all (· ≤ reachBytes) = true) {L : List XTok} {spare : List (DataW H)} (ht : ts[0]? = some 22) (hd : ds[0]? = some (.slice (L.map xtD) spare)) : L.length ≤ reachBytes ∧ ∀ t ∈ L, t.2.1.length ≤ reachBytes := by
  have hb : Tryz.prog.bytesOf 24 = 40 := by kernel_rfl
  have h1 := sized_slice h ht hd Tryz.underlying22
  rw [hb, List.length_map] at h1
  refine ⟨by omega, fun t hm => ?_⟩
  have := List.all_eq_true.1 h _ (DataW.weights_mem_each ht hd t.2.1.length (by
    simp only [DataW.weights, Tryz.underlying22]
    exact List.mem_cons_of_mem _ (List.mem_append_left _ (w_toks hm))))
  simpa using this
theorem sized_toks40 {ts : List TypeId} {ds : List (DataW H)} (h : (DataW.weightsEach Tryz.prog ts ds).all (· ≤ reachBytes) = true) {L : List XTok} {spare : List (DataW H)} (ht : ts[0]? = some 22) (hd : ds[0]? = some (.slice (L.map xtD) spare)) : L.length * 40 ≤ reachBytes ∧ ∀ t ∈ L, t.2.1.length ≤ reachBytes := by
  have hb : Tryz.prog.bytesOf 24 = 40 := by kernel_rfl
  have h1 := sized_slice h ht hd Tryz.underlying22
  rw [hb, List.length_map] at h1
  exact ⟨by omega, (sized_toks h ht hd).2⟩
end
def xts (L : List XTok) : List Value := L.flatMap xtC
theorem xts_len : ∀ L : List XTok, (xts L).length = L.length * 4
  | [] => rfl
  | t :: r => by
    show (xtC t ++ xts r).length = _
    have h4 : (xtC t).length = 4 := rfl
    rw [List.length_append, xts_len r, h4, List.length_cons]
    omega
theorem xts_at : ∀ (L : List XTok) (k : Nat) (x : XTok), L[k]? = some x → ∀ (j : Nat) (v : Value), (xtC x)[j]? = some v → (xts L)[k * 4 + j]? = some v
  | [], k, x, h, j, v, hv => by simp at h
  | y :: r, 0, x, h, j, v, hv => by
    have h : y = x := by simpa using h
    subst h
    show (xtC y ++ xts r)[0 * 4 + j]? = some v
    have hj : j < (xtC y).length := by
      rcases Nat.lt_or_ge j (xtC y).length with h1 | h1
      · exact h1
      · rw [List.getElem?_eq_none h1] at hv; cases hv
    rw [Nat.zero_mul, Nat.zero_add, List.getElem?_append_left hj]
    exact hv
  | y :: r, k + 1, x, h, j, v, hv => by
    show (xtC y ++ xts r)[(k + 1) * 4 + j]? = some v
    have h4 : (xtC y).length = 4 := rfl
    rw [List.getElem?_append_right (by omega), h4, show (k + 1) * 4 + j - 4 = k * 4 + j by omega]
    exact xts_at r k x (by simpa using h) j v hv
theorem xts_in : ∀ (L : List XTok) (j : Nat) (u : Value), (xts L)[j]? = some u → ∃ k t r, L[k]? = some t ∧ j = k * 4 + r ∧ r < 4 ∧ (xtC t)[r]? = some u
  | [], j, u, h => by simp [xts] at h
  | y :: r, j, u, h => by
    have h : (xtC y ++ xts r)[j]? = some u := h
    have h4 : (xtC y).length = 4 := rfl
    rcases Nat.lt_or_ge j 4 with h1 | h1
    · rw [List.getElem?_append_left (by omega)] at h
      exact ⟨0, y, j, rfl, by omega, h1, h⟩
    · rw [List.getElem?_append_right (by omega), h4] at h
      obtain ⟨k, t, q, e1, e2, e3, e4⟩ := xts_in r (j - 4) u h
      exact ⟨k + 1, t, q, by simpa using e1, by omega, e3, e4⟩
theorem xt_one (t : XTok) : ∀ u ∈ xtC t, u.oneCell' = true := fun u hu => by
  simp only [xtC, List.mem_cons, List.not_mem_nil, or_false] at hu
  rcases hu with rfl | rfl | rfl | rfl <;> rfl
theorem xts_one (L : List XTok) : ∀ u ∈ xts L, u.oneCell' = true := fun u hu => by
  obtain ⟨t, _, ht⟩ := List.mem_flatMap.1 hu
  exact xt_one t u ht
theorem XR_row {W : World} {B g n c m : Nat} {M L : List XTok} (h : W.ownsRow B 24 4 (.slice (some ⟨g, 0, none⟩) n c) m (xts M)) (hp : ∀ (k : Nat) (t : XTok), L[k]? = some t → M[k]? = some t) : XR W (some ⟨g, 0, none⟩) L := fun k t ht => by
  have hm := hp k t ht
  exact ⟨g, 0, rfl, by rw [Nat.zero_add]; exact own_atZ h (xts_at M k t hm 0 _ rfl), by rw [Nat.zero_add]; exact own_atZ h (xts_at M k t hm 1 _ rfl), by rw [Nat.zero_add]; exact own_atZ h (xts_at M k t hm 2 _ rfl), by rw [Nat.zero_add]; exact own_atZ h (xts_at M k t hm 3 _ rfl)⟩
/-- tokens behind nothing -/
theorem appK {W : World} {n c : Nat} {p : Option Addr} {L : List XTok} (hn : L.length = n) (hl : XR W p L) (hN : n ≤ 20000) :
    ∃ v' W', (Builtin.append_ #[22, 22] 22 #[.slice none 0 0, .slice p n c]).run Tryz.prog W = .ok v' W' ∧ W'.ownsRow W.heap.size 24 4 v' n (xts L) ∧ Below W.heap.size W W' := by
  obtain ⟨i0, hi, hz0, hz1, hz2⟩ := info_parts info_tok
  cases p with
  | none =>
    have hL : L = [] := by
      cases L with
      | nil => rfl
      | cons x r =>
        obtain ⟨g, o, e, _⟩ := hl 0 x rfl
        cases e
    subst hL
    have hn0 : n = 0 := hn.symm
    subst hn0
    refine ⟨.slice none 0 0, W, ?_, World.ownsRow_nil _ _ _ _, Below.refl _ _⟩
    simp [Builtin.append_, run_underlying Tryz.underlying22, sizeOf, typeInfo, hi, Builtin.lenOf, Builtin.firstCells]
  | some a =>
    have hnews : ∀ (j : Nat) (u : Value), (xts L)[j]? = some u → W.cell? (a.add j) = some u := fun j u hu => by
      obtain ⟨k, t, r, e1, e2, e3, e4⟩ := xts_in L j u hu
      obtain ⟨g, o, e, h0, h1, h2, h3⟩ := hl k t e1
      have e : a = ⟨g, o, none⟩ := Option.some.inj e
      subst e
      rw [add_spot rfl, e2]
      match r, e3, e4 with
      | 0, _, e4 => rw [← Option.some.inj e4]; exact h0
      | 1, _, e4 => rw [← Option.some.inj e4]; exact h1
      | 2, _, e4 => rw [← Option.some.inj e4]; exact h2
      | 3, _, e4 => rw [← Option.some.inj e4]; exact h3
    obtain ⟨v', W', hr, o2, g2, -⟩ := run_append_own_at (P := Tryz.prog) W W.heap.size 22 22 24 i0 _ 4 40 Tryz.underlying22 hi hz0 hz1 hz2 rfl (by decide) (.slice none 0 0) 0 [] (World.ownsRow_nil _ _ _ _) a n c (xts L) (by rw [xts_len, hn]) hnews (xts_one L) (by unfold maxLen; omega) (by omega) (Nat.le_refl _)
    refine ⟨v', W', hr, ?_, (Below.refl _ _).grown g2 (Nat.le_refl _) (fun k e => by cases e)⟩
    rw [Nat.zero_add, List.nil_append] at o2
    exact o2
def m91 : XTok := (91, [], 0, 0)
theorem push91 {w W : World} {n : Nat} {v : Value} {M : List XTok} (hb : Below w.heap.size w W) (h : W.ownsRow w.heap.size 24 4 v n (xts M)) (hn : n ≤ 20000) :
    ∃ g c W3, (Builtin.append_ #[22, 22] 22 #[v, .slice (some ⟨W.heap.size, 0, none⟩) 1 1]).run Tryz.prog (W.alloc (.cells #[.int .i64 91, .string ⟨#[]⟩, .int .i64 0, .int .i64 0] 24 (0, 0))) = .ok (.slice (some ⟨g, 0, none⟩) (n + 1) c) W3 ∧ n + 1 ≤ c ∧ W3.ownsRow w.heap.size 24 4 (.slice (some ⟨g, 0, none⟩) (n + 1) c) (n + 1) (xts (M ++ [m91])) ∧ Below w.heap.size w W3 := by
  obtain ⟨W2, hW2⟩ : ∃ W2, W.alloc (.cells #[.int .i64 91, .string ⟨#[]⟩, .int .i64 0, .int .i64 0] 24 (0, 0)) = W2 := ⟨_, rfl⟩
  have b2 : Below W.heap.size W W2 := by rw [← hW2]; exact belAZ (Below.refl _ _) _
  have hnb : W2.heap[W.heap.size]? = some (.cells #[.int .i64 91, .string ⟨#[]⟩, .int .i64 0, .int .i64 0] 24 (0, 0)) := by rw [← hW2]; exact alloc_getZ _ _
  have k2 := own_belZ h b2
  obtain ⟨i0, hi, hz0, hz1, hz2⟩ := info_parts info_tok
  obtain ⟨v', W3, hr, o3, g3, n3⟩ := appZ (TS := 22) (nb := W.heap.size) 22 Tryz.underlying22 hi hz0 hz1 hz2 rfl (by decide) k2 (Nat.le_trans hb.size b2.size) (news := xtC m91) rfl (World.news_of_block hnb) (xt_one m91) (by omega) (by decide)
  obtain ⟨q9, c9, hv9⟩ : ∃ q9 c9, v' = .slice q9 (n + 1) c9 := shapeZ o3
  subst hv9
  obtain ⟨g, rfl⟩ := own_someZ o3 (by omega)
  have hc : n + 1 ≤ c9 := by
    obtain ⟨_, ⟨_, h0⟩ | ⟨g', c', cur, e, _, _, hn', _⟩⟩ := o3
    · omega
    · injection e with _ _ e
      omega
  refine ⟨g, c9, W3, by rw [hW2]; exact hr, hc, ?_, bel_grZ (bel0Z hb b2) g3 (fun k e => (World.ownsRow.lt k2 k e).1)⟩
  have : xts (M ++ [m91]) = xts M ++ xtC m91 := by simp [xts]
  rw [this]
  exact o3
/-- an answer of Read, in one form -/
def rdP (L : List XTok) (f : Int) : Int := if f < 0 ∨ (L.length : Int) < f then 0 else match rdX (L.map clX) f.toNat with | .error p => (p.2 : Int) | .ok q => (q.1 : Int)
def rdN (L : List XTok) (f : Int) : Int := if f < 0 ∨ (L.length : Int) < f then 1 else match rdX (L.map clX) f.toNat with | .error p => (p.1 : Int) | .ok _ => 0
def rdO (L : List XTok) (f : Int) : List Nd := if f < 0 ∨ (L.length : Int) < f then [] else match rdX (L.map clX) f.toNat with | .error _ => [] | .ok q => q.2.2
theorem RDN_one {L : List XTok} {f : Int} {w w' : World} {e : Ending} (h : RDN L (L.map clX) f w e w') : ∃ v, e = .returned (.tuple #[v, .int .i64 (rdP L f), .int .i64 (rdN L f)]) ∧ OWN w' w.heap.size v (rdO L f) ∧ Below w.heap.size w w' := by
  obtain ⟨h1 | ⟨i, rfl, hi, h1⟩, h2⟩ := h
  · unfold rdP rdN rdO
    rw [if_pos h1.1, if_pos h1.1, if_pos h1.1]
    exact ⟨_, h1.2, World.ownsRow_nil _ _ _ _, h2⟩
  · have hf : ¬ ((i : Int) < 0 ∨ (L.length : Int) < (i : Int)) := by omega
    unfold rdP rdN rdO
    rw [if_neg hf, if_neg hf, if_neg hf, Int.toNat_natCast]
    cases hr : rdX (L.map clX) i with
    | error p =>
      rw [hr] at h1
      exact ⟨_, h1.1, World.ownsRow_nil _ _ _ _, h2⟩
    | ok q =>
      rw [hr] at h1
      obtain ⟨v, h3, h4⟩ := h1
      exact ⟨v, h3, h4, h2⟩
theorem rdO_len (L : List XTok) (f : Int) : (rdO L f).length ≤ 64 := by
  unfold rdO
  split
  · exact Nat.zero_le _
  · cases hr : rdX (L.map clX) f.toNat with
    | error p => exact Nat.zero_le _
    | ok q =>
      obtain ⟨qi, qm, qo⟩ := q
      exact rd_len hr
end Go.Proofs.YtffgkjmfeannoaaGreatDoor.Ex
namespace Go.Proofs.YtffgkjmfeannoaaGreatDoor.Ex
open Go.RowKit
set_option maxRecDepth 100000 in
set_option maxHeartbeats 16000000 in
theorem exprReads_walk (L : List XTok) (n : Nat) (ad : Option Addr) (cap : Nat) (f : Int) (w : World) (hn : L.length = n) (hlb : n ≤ 281474976710656) (hS : shT L) (hX : XR w ad L) (hT : TAB w) (hO : ∀ U, Below w.heap.size w U → OS U) :
    Calls Tryz.prog 3 #[.slice ad n cap, .int .i64 f] w fun e w' => e = .returned (.bool true) ∧ Below w.heap.size w w' := by
  by_cases hbig : 20000 < n
  · have j0 : (20000 : Int) < (n : Int) := by omega
    clear hn hlb hS hX hT hO
    go_enter Tryz.func3, Tryz.ntmps3
    go_wp2_with fail
    go_ret
    exact ⟨rfl, Below.refl _ _⟩
  have j0 : ¬ (20000 : Int) < (n : Int) := by omega
  obtain ⟨v1, W1, hr1, o1, b1⟩ := appK (c := cap) hn hX (by omega)
  obtain ⟨p1, c1, rfl⟩ := shapeZ o1
  obtain ⟨g, c2, W3, hr2, hc2, o2, b2⟩ := push91 b1 o1 (by omega)
  have HL : Hid (L.length = n ∧ n ≤ 20000) := ⟨hn, by omega⟩
  have hx2 : XR W3 (some ⟨g, 0, none⟩) L := XR_row o2 (fun k t ht => by rw [List.getElem?_append_left (by rcases Nat.lt_or_ge k L.length with h | h; exact h; rw [List.getElem?_eq_none h] at ht; cases ht)]; exact ht)
  have HX1 := xread L (some ⟨g, 0, none⟩) n c2 f W3 hn (by omega) hx2 (fun U hU => hT U (bel0Z b2 hU)) hS (fun U hU => hO U (bel0Z b2 hU))
  have HY : Hid (∀ U, Below W3.heap.size W3 U → Calls Tryz.prog 6 #[.slice ad n cap, .int .i64 f] U (RDN L (L.map clX) f U)) := fun U hU => yread L ad n cap f U hn (by omega) (hX.below (bel0Z b2 hU)) hS
  have HLO := hideL (rdO_len L f)
  have HC : Hid (∀ U, Below W3.heap.size W3 U → Below w.heap.size w U ∧ (∀ k, k < n → ∃ (t : XTok) (g0 o0 : Nat), ad = some ⟨g0, o0, none⟩ ∧
      (U.cell? ⟨g, k * 4, none⟩ = some (.int .i64 t.1) ∧ U.cell? ⟨g, k * 4 + 1, none⟩ = some (.string ⟨t.2.1.toArray⟩) ∧ U.cell? ⟨g, k * 4 + 2, none⟩ = some (.int .i64 t.2.2.1) ∧ U.cell? ⟨g, k * 4 + 3, none⟩ = some (.int .i64 t.2.2.2)) ∧
      (U.cell? ⟨g0, o0 + k * 4, none⟩ = some (.int .i64 t.1) ∧ U.cell? ⟨g0, o0 + k * 4 + 1, none⟩ = some (.string ⟨t.2.1.toArray⟩) ∧ U.cell? ⟨g0, o0 + k * 4 + 2, none⟩ = some (.int .i64 t.2.2.1) ∧ U.cell? ⟨g0, o0 + k * 4 + 3, none⟩ = some (.int .i64 t.2.2.2))) ∧
      (U.cell? ⟨g, n * 4, none⟩ = some (.int .i64 91) ∧ U.cell? ⟨g, n * 4 + 1, none⟩ = some (.string ⟨#[]⟩) ∧ U.cell? ⟨g, n * 4 + 2, none⟩ = some (.int .i64 0) ∧ U.cell? ⟨g, n * 4 + 3, none⟩ = some (.int .i64 0))) := fun U hU => by
    have o2' := own_belZ o2 hU
    refine ⟨bel0Z b2 hU, fun k hk => ?_, ?_⟩
    · obtain ⟨t, ht⟩ : ∃ t, L[k]? = some t := ⟨_, List.getElem?_eq_getElem (by omega)⟩
      obtain ⟨g0, q0, e0, a0, a1, a2, a3⟩ := (hX.below (bel0Z b2 hU)) k t ht
      have hm : (L ++ [m91])[k]? = some t := by rw [List.getElem?_append_left (by omega)]; exact ht
      exact ⟨t, g0, q0, e0, ⟨own_atZ o2' (xts_at _ k t hm 0 _ rfl), own_atZ o2' (xts_at _ k t hm 1 _ rfl), own_atZ o2' (xts_at _ k t hm 2 _ rfl), own_atZ o2' (xts_at _ k t hm 3 _ rfl)⟩, a0, a1, a2, a3⟩
    · have hm : (L ++ [m91])[n]? = some m91 := by rw [List.getElem?_append_right (by omega), hn, Nat.sub_self]; rfl
      exact ⟨own_atZ o2' (xts_at _ n _ hm 0 _ rfl), own_atZ o2' (xts_at _ n _ hm 1 _ rfl), own_atZ o2' (xts_at _ n _ hm 2 _ rfl), own_atZ o2' (xts_at _ n _ hm 3 _ rfl)⟩
  obtain ⟨rp, hrp⟩ : ∃ rp, rdP L f = rp := ⟨_, rfl⟩
  obtain ⟨rn, hrn⟩ : ∃ rn, rdN L f = rn := ⟨_, rfl⟩
  obtain ⟨ro, hro⟩ : ∃ ro, rdO L f = ro := ⟨_, rfl⟩
  have HON : Hid (∀ (U V : World) (e : Ending), RDN L (L.map clX) f U e V → ∃ v, e = .returned (.tuple #[v, .int .i64 rp, .int .i64 rn]) ∧ OWN V U.heap.size v ro ∧ Below U.heap.size U V) := fun U V e h9 => by rw [← hrp, ← hrn, ← hro]; exact RDN_one h9
  rw [hro] at HLO
  have HR1 := hideL hr1
  have HR2 := hideL hr2
  have j2 : (n : Int) ≤ (c2 : Int) := by omega
  have j3 : n ≤ c2 := by omega
  have j4 : n ≤ n + 1 := by omega
  clear hn hlb hS hX hT hO o1 o2 b1 b2 hx2 hr1 hr2 hc2 hrp hrn hro hbig
  go_enter Tryz.func3, Tryz.ntmps3
  go_wp2_with (at_builtin; first | (refine wpList_runZ rfl _ _ 22 rfl rfl rfl HR1.out ?_; clear HR1) | (refine wpList_runZ rfl _ _ 22 rfl rfl rfl HR2.out ?_; clear HR2))
  refine HX1.mono ?_
  intro e W4 hq
  obtain ⟨va, rfl, oa, b4⟩ := HON.out _ _ _ hq
  have HY1 := HY.out W4 b4
  have H4 : Hid (OWN W4 W3.heap.size va ro ∧ Below W3.heap.size W3 W4) := ⟨oa, b4⟩
  obtain ⟨pa, ca, rfl⟩ := shapeZ oa
  clear hq oa b4 HX1 HY
  go_wp2_with fail
  refine HY1.mono ?_
  intro e W5 hq
  obtain ⟨vb, rfl, ob, b5⟩ := HON.out _ _ _ hq
  have H5 : Hid (OWN W5 W3.heap.size (.slice pa ro.length ca) ro ∧ OWN W5 W4.heap.size vb ro ∧ Below W3.heap.size W3 W5) := ⟨own_belZ H4.out.1 b5, ob, bel0Z H4.out.2 b5⟩
  obtain ⟨pb, cb, rfl⟩ := shapeZ ob
  have HAL := alike_any H5.out.1 H5.out.2.1 (by have := HLO.out; omega)
  clear hq ob b5 HY1 H4 HON
  go_wp2_with fail
  refine (num_any _ W5).mono ?_
  rintro e W6 ⟨rfl, hw6⟩
  obtain rfl := hw6.symm
  go_wp2_with fail
  refine HAL.mono ?_
  rintro e W7 ⟨rfl, b7⟩
  have H7 : Hid (Below W3.heap.size W3 W7) := bel0Z H5.out.2.2 b7
  clear HAL b7 H5
  go_wp2_with fail
  go_loopw [12] (fun vi wr => ∃ k : Nat, vi = .int .i64 (k : Int) ∧ k ≤ n ∧ Hid (Below W3.heap.size W3 wr)) (fun vi _ => n - (intOf vi).toNat)
  case atStart => exact ⟨0, rfl, Nat.zero_le _, H7⟩
  case round =>
    clear H7
    obtain ⟨k, rfl, hk, HB⟩ := hrel
    have hlb : n ≤ 20000 := HL.out.2
    by_cases hlt : k < n
    · obtain ⟨t, g0, o0, rfl, ⟨a0, a1, a2, a3⟩, ⟨b0, b1, b2, b3⟩⟩ := (HC.out wr HB.out).2.1 k hlt
      have j5 : (0 : Int) ≤ (k : Int) := by omega
      have j6 : (k : Int) < (n : Int) := by omega
      have j7 : (k : Int) < (n : Int) + 1 := by omega
      have j8 : k < n + 1 := by omega
      go_wp2_with fail
      go_quiet (fail)
      go_wp2_with fail
      go_roundw
      case rel => exact ⟨k + 1, by go_num, by omega, bel_drewZ nq HB.out⟩
      case measure => simp [intOf]; omega
    · obtain rfl : k = n := by omega
      obtain ⟨hbw, _, m0, m1, m2, m3⟩ := HC.out wr HB.out
      have HBW := hideL hbw
      have j6 : ¬ (k : Int) < (k : Int) := by omega
      have j7 : (k : Int) < (k : Int) + 1 := by omega
      have j8 : k < k + 1 := by omega
      clear hbw
      go_wp2_with fail
      go_ret
      exact ⟨rfl, HBW.out⟩
end Go.Proofs.YtffgkjmfeannoaaGreatDoor.Ex
namespace Go.Proofs.YtffgkjmfeannoaaGreatDoor
open Go.RowKit
theorem exprReads_walk (L : List Ex.XTok) (n : Nat) (ad : Option Addr) (cap : Nat) (f : Int) (w : World) (hn : L.length = n) (hlb : n ≤ 281474976710656) (hS : Ex.shT L) (hX : Ex.XR w ad L) (hv1 : SH w) (hv4 : SG w) (hv5 : VW w) (ho : Ex.OS w) :
    Calls Tryz.prog 3 #[.slice ad n cap, .int .i64 f] w fun e w' => e = .returned (.bool true) ∧ Below w.heap.size w w' :=
  Ex.exprReads_walk L n ad cap f w hn hlb hS hX (fun _ hU => ⟨hv1.below hU, hv4.below hU, hv5.below hU⟩) (fun _ hU => ho.below hU)
end Go.Proofs.YtffgkjmfeannoaaGreatDoor
