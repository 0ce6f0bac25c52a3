import Derived.Test.YtccbfaembcefjaaGreatDoorXH1
namespace Go.Proofs.YtccbfaembcefjaaGreatDoor
open Go.RowKit Go.Shelf
def afE (b lim : Int) (Ts : List (List UInt8 × List (List UInt8))) (r : List UInt8) : Int := if (!(b == 0) && (b == (r.length : Int))) = false then 11 else if xpE b lim Ts = 0 then (if szC (topC (stl (afX r (xpL b lim Ts)))) ≤ 128 then 0 else 3) else xpE b lim Ts
def afB (b lim : Int) (Ts : List (List UInt8 × List (List UInt8))) (r : List UInt8) : Int := if afE b lim Ts r = 0 then b else 0
def afT (b lim : Int) (Ts : List (List UInt8 × List (List UInt8))) (r : List UInt8) : List (List UInt8 × List (List UInt8)) := if afE b lim Ts r = 0 then ordT (topC (stl (afX r (xpL b lim Ts)))) else []
def AFR (b lim : Int) (Ts : List (List UInt8 × List (List UInt8))) (r : List UInt8) (B E : Int) (T : List (List UInt8 × List (List UInt8))) : Prop := afB b lim Ts r = B ∧ afE b lim Ts r = E ∧ afT b lim Ts r = T
theorem af_no {b lim : Int} {Ts : List (List UInt8 × List (List UInt8))} {r : List UInt8} {E : Int} (h : afE b lim Ts r = E) (hE : ¬ E = 0) : AFR b lim Ts r 0 E [] := by
  refine ⟨?_, h, ?_⟩
  · unfold afB; rw [h, if_neg hE]
  · unfold afT; rw [h, if_neg hE]
theorem af_fit {b lim : Int} {Ts : List (List UInt8 × List (List UInt8))} {r : List UInt8} (h : (!(b == 0) && (b == (r.length : Int))) = false) : AFR b lim Ts r 0 11 [] := af_no (by unfold afE; rw [if_pos h]) (by decide)
theorem af_xp {b lim : Int} {Ts : List (List UInt8 × List (List UInt8))} {r : List UInt8} (h : (!(b == 0) && (b == (r.length : Int))) = true) (hx : ¬ xpE b lim Ts = 0) : AFR b lim Ts r 0 (xpE b lim Ts) [] := af_no (by
  have hnf : ¬ ((!(b == 0) && (b == (r.length : Int))) = false) := by rw [h]; simp
  unfold afE; rw [if_neg hnf, if_neg hx]) hx
theorem af_big {b lim : Int} {Ts : List (List UInt8 × List (List UInt8))} {r : List UInt8} (h : (!(b == 0) && (b == (r.length : Int))) = true) (hx : xpE b lim Ts = 0) (hs : ¬ szC (topC (stl (afX r (xpL b lim Ts)))) ≤ 128) : AFR b lim Ts r 0 3 [] := af_no (by
  have hnf : ¬ ((!(b == 0) && (b == (r.length : Int))) = false) := by rw [h]; simp
  unfold afE; rw [if_neg hnf, if_pos hx, if_neg hs]) (by decide)
theorem af_ok {b lim : Int} {Ts : List (List UInt8 × List (List UInt8))} {r : List UInt8} (h : (!(b == 0) && (b == (r.length : Int))) = true) (hx : xpE b lim Ts = 0) (hs : szC (topC (stl (afX r (xpL b lim Ts)))) ≤ 128) : AFR b lim Ts r b 0 (ordT (topC (stl (afX r (xpL b lim Ts))))) := by
  have hnf : ¬ ((!(b == 0) && (b == (r.length : Int))) = false) := by rw [h]; simp
  have e : afE b lim Ts r = 0 := by unfold afE; rw [if_neg hnf, if_pos hx, if_pos hs]
  exact ⟨by unfold afB; rw [if_pos e], e, by unfold afT; rw [if_pos e]⟩
theorem xpG_ok {lim : Nat} : ∀ (Ts : List (List UInt8 × List (List UInt8))) (out R : List (List UInt8)), gdS Ts → (∀ x ∈ out, good x = true) → out.length ≤ lim → exE splT lim out Ts = some R → (∀ x ∈ R, good x = true) ∧ R.length ≤ lim
  | [], out, R, _, g, h, e => by
    injection e with e
    subst e
    exact ⟨g, h⟩
  | t :: r, out, R, gt, g, h, e => by
    unfold exE at e
    split at e
    · rename_i ho
      obtain ⟨t1, t3⟩ := gt t List.mem_cons_self
      refine xpG_ok r _ R (fun x hx => gt x (List.mem_cons_of_mem _ hx)) (fun x hx => ?_) ?_ e
      · rcases List.mem_append.1 hx with hx | hx
        · exact g x hx
        · exact (gdW_exT t.2 [t.1] (fun y hy => by rw [List.mem_singleton] at hy; subst hy; exact ⟨t1, rfl⟩) t3 x hx).1
      · rw [List.length_append]
        exact exO_len splT ho
    · cases e
theorem xpG {b lim : Int} {Ts : List (List UInt8 × List (List UInt8))} (h : gdS Ts) : (∀ x ∈ xpL b lim Ts, good x = true) ∧ (xpL b lim Ts).length ≤ 2048 := by
  unfold xpL
  split
  · exact ⟨(fun x hx => by cases hx), Nat.zero_le _⟩
  · split
    · exact ⟨(fun x hx => by cases hx), Nat.zero_le _⟩
    · rename_i h2
      cases hx : exE splT lim.toNat [] Ts with
      | none => exact ⟨(fun x hx => by cases hx), Nat.zero_le _⟩
      | some R =>
        obtain ⟨h3, h4⟩ := xpG_ok Ts [] R h (fun x hx => by cases hx) (Nat.zero_le _) hx
        exact ⟨h3, by show R.length ≤ 2048; omega⟩
set_option maxRecDepth 100000 in
set_option maxHeartbeats 8000000 in
theorem sAfter_any (b lim : Int) (A : List (List UInt8 × List (List UInt8))) (r : List UInt8) (V1 : Value) (w : World) (h1 : SPL w 0 V1 A) (hs1 : szC A ≤ 128) (hg : gdS A) (gr : good r = true) :
    Calls Tryz.prog 14 #[.agg #[.int .i64 b, V1, .bool false], .agg #[.int .i64 (r.length : Int), .int .u64 (FW r 0 : Int), .int .u64 (FW r 1 : Int), .int .u64 (FW r 2 : Int), .int .u64 (FW r 3 : Int), .int .u64 (OW r 0 : Int), .int .u64 (OW r 1 : Int), .int .u64 (OW r 2 : Int), .int .u64 (OW r 3 : Int)], .int .i64 lim] w fun e w' => ∃ V, e = .returned (.tuple #[.agg #[.int .i64 (afB b lim A r), V, .bool false], .int .i64 (afE b lim A r)]) ∧ SPL w' 0 V (afT b lim A r) ∧ Below w.heap.size w w' := by
  obtain ⟨p1, k1, rfl⟩ := h1.shape
  obtain ⟨n1, hn1⟩ : ∃ n, A.length = n := ⟨_, rfl⟩
  rw [hn1] at h1 ⊢
  obtain ⟨w2, hw2⟩ : ∃ w2, (((w.alloc (.cells #[.int .i64 b, .slice p1 n1 k1, .bool false] 24 (0, 0))).alloc (.cells #[.int .i64 (r.length : Int), .int .u64 (FW r 0 : Int), .int .u64 (FW r 1 : Int), .int .u64 (FW r 2 : Int), .int .u64 (FW r 3 : Int), .int .u64 (OW r 0 : Int), .int .u64 (OW r 1 : Int), .int .u64 (OW r 2 : Int), .int .u64 (OW r 3 : Int)] 50 (0, 0))).alloc (.cells #[.int .i64 0, .slice none 0 0, .bool false] 24 (0, 0))) = w2 := ⟨_, rfl⟩
  have hB2 : Below w.heap.size w w2 := by rw [← hw2]; exact belA (belA (belA (Below.refl _ _) _) _) _
  have d1 : w2.heap[w.heap.size]? = some (.cells #[.int .i64 b, .slice p1 n1 k1, .bool false] 24 (0, 0)) := by rw [← hw2, Below.heap_alloc _ _ _ (by simp <;> omega)]; exact alw_0 _ _ _
  have d2 : w2.heap[w.heap.size + 1]? = some (.cells #[.int .i64 (r.length : Int), .int .u64 (FW r 0 : Int), .int .u64 (FW r 1 : Int), .int .u64 (FW r 2 : Int), .int .u64 (FW r 3 : Int), .int .u64 (OW r 0 : Int), .int .u64 (OW r 1 : Int), .int .u64 (OW r 2 : Int), .int .u64 (OW r 3 : Int)] 50 (0, 0)) := by rw [← hw2, Below.heap_alloc _ _ _ (by simp <;> omega)]; exact alw_1 _ _ _
  have d3 : w2.heap[w.heap.size + 1 + 1]? = some (.cells #[.int .i64 0, .slice none 0 0, .bool false] 24 (0, 0)) := by rw [← hw2]; have := alloc_get ((w.alloc (.cells #[.int .i64 b, .slice p1 n1 k1, .bool false] 24 (0, 0))).alloc (.cells #[.int .i64 (r.length : Int), .int .u64 (FW r 0 : Int), .int .u64 (FW r 1 : Int), .int .u64 (FW r 2 : Int), .int .u64 (FW r 3 : Int), .int .u64 (OW r 0 : Int), .int .u64 (OW r 1 : Int), .int .u64 (OW r 2 : Int), .int .u64 (OW r 3 : Int)] 50 (0, 0))) (.cells #[.int .i64 0, .slice none 0 0, .bool false] 24 (0, 0)); simpa using this
  have HK : Hid (∀ W, Below w2.heap.size w2 W → ((∀ j, W.cell? ⟨w.heap.size, j, none⟩ = (#[.int .i64 b, .slice p1 n1 k1, .bool false] : Array Value)[j]?) ∧ (∀ j, W.cell? ⟨w.heap.size + 1, j, none⟩ = (#[.int .i64 (r.length : Int), .int .u64 (FW r 0 : Int), .int .u64 (FW r 1 : Int), .int .u64 (FW r 2 : Int), .int .u64 (FW r 3 : Int), .int .u64 (OW r 0 : Int), .int .u64 (OW r 1 : Int), .int .u64 (OW r 2 : Int), .int .u64 (OW r 3 : Int)] : Array Value)[j]?))) := fun W hW => ⟨(cells_block (keepblk3 hW d1)).1, (cells_block (keepblk3 hW d2)).1⟩
  have HRS : Hid (∀ W, Below w2.heap.size w2 W → W.heap[w.heap.size + 1 + 1]? = some (.cells #[.int .i64 0, .slice none 0 0, .bool false] 24 (0, 0)) ∧ Below w.heap.size w W) := fun W hW => ⟨keepblk3 hW d3, bel0 hB2 hW⟩
  have HDD : Hid (∀ W, Below w2.heap.size w2 W → W.heap[w.heap.size]? = some (.cells #[.int .i64 b, .slice p1 n1 k1, .bool false] 24 (0, 0)) ∧ W.heap[w.heap.size + 1]? = some (.cells #[.int .i64 (r.length : Int), .int .u64 (FW r 0 : Int), .int .u64 (FW r 1 : Int), .int .u64 (FW r 2 : Int), .int .u64 (FW r 3 : Int), .int .u64 (OW r 0 : Int), .int .u64 (OW r 1 : Int), .int .u64 (OW r 2 : Int), .int .u64 (OW r 3 : Int)] 50 (0, 0))) := fun W hW => ⟨keepblk3 hW d1, keepblk3 hW d2⟩
  have HLT : Hid (w.heap.size + 1 + 1 < w2.heap.size) := lt_of_get3 d3
  obtain ⟨q, hq⟩ : ∃ q, (!(b == 0) && (b == (r.length : Int))) = q := ⟨_, rfl⟩
  have HF : Hid (∀ W, Calls Tryz.prog 35 #[.agg #[.int .i64 b, .slice p1 n1 k1, .bool false], .int .i64 (r.length : Int)] W fun e w' => e = .returned (.bool q) ∧ Below W.heap.size W w') := fun W => by
    have h := fits_any2 b (r.length : Int) p1 n1 k1 W
    rw [hq] at h
    exact h
  have HWD : Hid (∀ W, Calls Tryz.prog 36 #[.agg #[.int .i64 (r.length : Int), .int .u64 (FW r 0 : Int), .int .u64 (FW r 1 : Int), .int .u64 (FW r 2 : Int), .int .u64 (FW r 3 : Int), .int .u64 (OW r 0 : Int), .int .u64 (OW r 1 : Int), .int .u64 (OW r 2 : Int), .int .u64 (OW r 3 : Int)]] W fun e w' => e = .returned (.int .i64 (r.length : Int)) ∧ Below W.heap.size W w') := fun W => widthA r W gr
  have HXP : Hid (∀ W, Below w2.heap.size w2 W → Calls Tryz.prog 8 #[.agg #[.int .i64 b, .slice p1 n1 k1, .bool false], .int .i64 lim] W fun e w' => ∃ v, e = .returned (.tuple #[v, .int .i64 (xpE b lim A)]) ∧ w'.ownsRow W.heap.size 50 9 v (xpL b lim A).length (ces (xpL b lim A)) ∧ Below W.heap.size W w') := fun W hW => sExpand_any b lim A 0 _ W (h1.below (bel0 hB2 hW)) hs1 hg
  obtain ⟨gL, hL⟩ := xpG (b := b) (lim := lim) hg
  obtain ⟨aB, haB⟩ : ∃ x, afB b lim A r = x := ⟨_, rfl⟩
  obtain ⟨aE, haE⟩ : ∃ x, afE b lim A r = x := ⟨_, rfl⟩
  obtain ⟨aT, haT⟩ : ∃ x, afT b lim A r = x := ⟨_, rfl⟩
  have cfit := af_fit (b := b) (lim := lim) (Ts := A) (r := r)
  have cxp := af_xp (b := b) (lim := lim) (Ts := A) (r := r)
  have cbig := af_big (b := b) (lim := lim) (Ts := A) (r := r)
  have cok := af_ok (b := b) (lim := lim) (Ts := A) (r := r)
  unfold AFR at cfit cxp cbig cok
  rw [haB, haE, haT] at cfit cxp cbig cok ⊢
  rw [hq] at cfit cxp cbig cok
  obtain ⟨E, hE⟩ : ∃ B, xpE b lim A = B := ⟨_, rfl⟩
  obtain ⟨L, hLL⟩ : ∃ B, xpL b lim A = B := ⟨_, rfl⟩
  rw [hE] at HXP cxp cbig cok
  rw [hLL] at HXP cbig cok
  rw [hLL] at gL hL
  obtain ⟨n, hn⟩ : ∃ n, L.length = n := ⟨_, rfl⟩
  rw [hn] at HXP hL
  have HC : Hid ((q = false → aB = 0 ∧ aE = 11 ∧ aT = []) ∧ (q = true → ¬ E = 0 → aB = 0 ∧ aE = E ∧ aT = []) ∧ (q = true → E = 0 → ¬ szC (topC (stl (afX r L))) ≤ 128 → aB = 0 ∧ aE = 3 ∧ aT = []) ∧ (q = true → E = 0 → szC (topC (stl (afX r L))) ≤ 128 → aB = b ∧ aE = 0 ∧ aT = ordT (topC (stl (afX r L))))) := ⟨cfit, cxp, cbig, cok⟩
  have HN : Hid (L.length = n ∧ n ≤ 4096 ∧ (∀ x ∈ L, good x = true) ∧ good r = true) := ⟨hn, by omega, gL, gr⟩
  have hmf : ∀ (fn : Fn) (first cap : Array Value) (w : World), (Instr.makeFunc fn first cap).run Tryz.prog w = .ok (.func fn first cap) w := fun _ _ _ _ => rfl
  have hk0 := HK.out w2 (Below.refl _ _)
  have hk0d : ((∀ j, w2.drew.cell? ⟨w.heap.size, j, none⟩ = (#[.int .i64 b, .slice p1 n1 k1, .bool false] : Array Value)[j]?) ∧ (∀ j, w2.drew.cell? ⟨w.heap.size + 1, j, none⟩ = (#[.int .i64 (r.length : Int), .int .u64 (FW r 0 : Int), .int .u64 (FW r 1 : Int), .int .u64 (FW r 2 : Int), .int .u64 (FW r 3 : Int), .int .u64 (OW r 0 : Int), .int .u64 (OW r 1 : Int), .int .u64 (OW r 2 : Int), .int .u64 (OW r 3 : Int)] : Array Value)[j]?)) := hk0
  obtain ⟨hka, hkb⟩ := hk0
  have hk0 : ((∀ j, w2.cell? ⟨w.heap.size, j, none⟩ = (#[.int .i64 b, .slice p1 n1 k1, .bool false] : Array Value)[j]?) ∧ (∀ j, w2.cell? ⟨w.heap.size + 1, j, none⟩ = (#[.int .i64 (r.length : Int), .int .u64 (FW r 0 : Int), .int .u64 (FW r 1 : Int), .int .u64 (FW r 2 : Int), .int .u64 (FW r 3 : Int), .int .u64 (OW r 0 : Int), .int .u64 (OW r 1 : Int), .int .u64 (OW r 2 : Int), .int .u64 (OW r 3 : Int)] : Array Value)[j]?)) := ⟨hka, hkb⟩
  clear hB2 d1 d2 d3 h1 hs1 hg gr hn1 hq haB haE haT cfit cxp cbig cok hE hLL hn gL hL
  cases q with
  | false =>
    obtain ⟨e1, e2, e3⟩ := HC.out.1 rfl
    subst e1 e2 e3
    go_enter Tryz.func14, Tryz.ntmps14
    go_upto_region 1 with fail
    clear hw2 hka hkb
    go_region_held3 (fun W => ((∀ j, W.cell? ⟨w.heap.size, j, none⟩ = (#[.int .i64 b, .slice p1 n1 k1, .bool false] : Array Value)[j]?) ∧ (∀ j, W.cell? ⟨w.heap.size + 1, j, none⟩ = (#[.int .i64 (r.length : Int), .int .u64 (FW r 0 : Int), .int .u64 (FW r 1 : Int), .int .u64 (FW r 2 : Int), .int .u64 (FW r 3 : Int), .int .u64 (OW r 0 : Int), .int .u64 (OW r 1 : Int), .int .u64 (OW r 2 : Int), .int .u64 (OW r 3 : Int)] : Array Value)[j]?))) (first | with_reducible exact hk0 | with_reducible exact hk0d | with_reducible exact hk5 | with_reducible exact hk6) (first | (go_at_call 35; refine (HF.out _).mono ?_; rintro e w6 ⟨rfl, hb6⟩; have hb6' : Below w2.heap.size w2 w6 := bel0 hb5' hb6; have hk6 := HK.out w6 hb6') | (go_at_call 36; refine (HWD.out _).mono ?_; rintro e w5 ⟨rfl, hb5⟩; have hb5' : Below w2.heap.size w2 w5 := (by first | exact hb5 | exact und hb5); have hk5 := HK.out w5 hb5'))
    obtain ⟨k3, hB1⟩ := HRS.out w6 hb6'
    obtain ⟨hc3, hf3⟩ := cells_block k3
    have HP : Hid ((((w6.setCell ⟨w.heap.size + 1 + 1, 0, none⟩ (.int .i64 0)).setCell ⟨w.heap.size + 1 + 1, 1, none⟩ (.slice none 0 0)).setCell ⟨w.heap.size + 1 + 1, 2, none⟩ (.bool false)).heap[w.heap.size + 1 + 1]? = some (.cells #[.int .i64 0, .slice none 0 0, .bool false] 24 (0, 0)) ∧ Below w.heap.size w (((w6.setCell ⟨w.heap.size + 1 + 1, 0, none⟩ (.int .i64 0)).setCell ⟨w.heap.size + 1 + 1, 1, none⟩ (.slice none 0 0)).setCell ⟨w.heap.size + 1 + 1, 2, none⟩ (.bool false))) := ⟨put3w _ _ _ k3, ((hB1.setCell (by simp; omega) _).setCell (by simp; omega) _).setCell (by simp; omega) _⟩
    clear hk0 hk0d hk5 hk6 k3 hB1
    go_wp2_with fail
    refine bodyPost_ret (v := .tuple #[.agg #[.int .i64 0, .slice none 0 0, .bool false], .int .i64 11]) (res_space2 _ _ (w.heap.size + 1 + 1) _ _ _ Tryz.results14 rfl HP.out.1) rfl ?_
    exact ⟨_, rfl, SPL_nil _ _, HP.out.2⟩
  | true =>
    go_enter Tryz.func14, Tryz.ntmps14
    go_upto_region 1 with fail
    clear hw2 hka hkb
    go_region_held3 (fun W => ((∀ j, W.cell? ⟨w.heap.size, j, none⟩ = (#[.int .i64 b, .slice p1 n1 k1, .bool false] : Array Value)[j]?) ∧ (∀ j, W.cell? ⟨w.heap.size + 1, j, none⟩ = (#[.int .i64 (r.length : Int), .int .u64 (FW r 0 : Int), .int .u64 (FW r 1 : Int), .int .u64 (FW r 2 : Int), .int .u64 (FW r 3 : Int), .int .u64 (OW r 0 : Int), .int .u64 (OW r 1 : Int), .int .u64 (OW r 2 : Int), .int .u64 (OW r 3 : Int)] : Array Value)[j]?))) (first | with_reducible exact hk0 | with_reducible exact hk0d | with_reducible exact hk5 | with_reducible exact hk6) (first | (go_at_call 35; refine (HF.out _).mono ?_; rintro e w6 ⟨rfl, hb6⟩; have hb6' : Below w2.heap.size w2 w6 := bel0 hb5' hb6; have hk6 := HK.out w6 hb6') | (go_at_call 36; refine (HWD.out _).mono ?_; rintro e w5 ⟨rfl, hb5⟩; have hb5' : Below w2.heap.size w2 w5 := (by first | exact hb5 | exact und hb5); have hk5 := HK.out w5 hb5'))
    obtain ⟨g1, g2⟩ := hk6
    have HB6 : Hid (Below w2.heap.size w2 w6) := hb6'
    clear hk0 hk0d hk5 hb5 hb6 hb5' hb6'
    go_wp2_with fail
    refine (HXP.out w6 HB6.out).mono ?_
    rintro e w7 ⟨v7, rfl, o7, hb7⟩
    obtain ⟨p7, k7, rfl⟩ := shapeQ1 o7
    have hb7' : Below w2.heap.size w2 w7 := bel0 HB6.out hb7
    have HW : Hid (w7.ownsRow w6.heap.size 50 9 (.slice p7 n k7) n (ces L) ∧ Below w2.heap.size w2 (w7.alloc (.cells #[.slice p7 n k7] 30 (0, 0)))) := ⟨o7, belA hb7' _⟩
    clear o7 hb7 hb7' g1 g2
    by_cases hE : E = 0
    · subst hE
      obtain ⟨wb, hwb⟩ : ∃ wb, w7.alloc (.cells #[.slice p7 n k7] 30 (0, 0)) = wb := ⟨_, rfl⟩
      have hbb : Below w2.heap.size w2 wb := by rw [← hwb]; exact HW.out.2
      have hg7 : wb.heap[w7.heap.size]? = some (.cells #[.slice p7 n k7] 30 (0, 0)) := by rw [← hwb]; exact alloc_get _ _
      have hirc : IRC wb p7 L := (IRC_own HW.out.1 HN.out.1).later (by rw [← hwb]; exact belA (Below.refl _ _) _)
      have hlb : w.heap.size + 1 + 1 < wb.heap.size := Nat.lt_of_lt_of_le HLT.out hbb.size
      have HAF : ∀ X, Below wb.heap.size wb X → Calls Tryz.prog 38 #[.pointer (some ⟨w7.heap.size, 0, none⟩), .pointer (some ⟨w.heap.size + 1, 0, none⟩), .pointer (some ⟨w.heap.size, 0, none⟩)] X fun e w' => FRL X w' b (afX r L) e := fun X hX => after1_any b r L n p7 k7 w7.heap.size (w.heap.size + 1) w.heap.size (.slice p1 n1 k1) X HN.out.1 HN.out.2.1 (keepblk3 hX hg7) (HDD.out X (bel0 hbb hX)).2 (HDD.out X (bel0 hbb hX)).1 (hirc.later hX) HN.out.2.2.1 HN.out.2.2.2
      obtain ⟨ok, HT, HGV⟩ : ∃ ok : Bool, (aB = (if ok = true then b else 0) ∧ aE = (if ok = true then 0 else 3) ∧ aT = (if ok = true then ordT (topC (stl (afX r L))) else [])) ∧ Calls Tryz.prog 37 #[.func (.func 38) #[] #[.pointer (some ⟨w7.heap.size, 0, none⟩), .pointer (some ⟨w.heap.size + 1, 0, none⟩), .pointer (some ⟨w.heap.size, 0, none⟩)]] wb fun e w' => ∃ V, e = .returned (.tuple #[.agg #[.int .i64 (if ok = true then b else 0), V, .bool false], .int .i64 (if ok = true then 0 else 3)]) ∧ SPL w' wb.heap.size V (if ok = true then ordT (topC (stl (afX r L))) else []) ∧ Below wb.heap.size wb w' := by
        by_cases hz : szC (topC (stl (afX r L))) ≤ 128
        · obtain ⟨e1, e2, e3⟩ := HC.out.2.2.2 (by trivial) (by trivial) hz
          refine ⟨true, ⟨e1, e2, e3⟩, giveA b _ true _ _ _ wb (fun X hX => (HAF X hX).mono ?_)⟩
          rintro e w' ⟨h1, ⟨-, V, h3, h4⟩ | ⟨h2, -⟩⟩
          · exact ⟨h1, .inl ⟨rfl, V, h3, h4⟩⟩
          · omega
        · obtain ⟨e1, e2, e3⟩ := HC.out.2.2.1 (by trivial) (by trivial) hz
          refine ⟨false, ⟨e1, e2, e3⟩, giveA b [] false _ _ _ wb (fun X hX => (HAF X hX).mono ?_)⟩
          rintro e w' ⟨h1, ⟨h2, -⟩ | ⟨-, h3⟩⟩
          · omega
          · exact ⟨h1, .inr ⟨rfl, h3⟩⟩
      obtain ⟨e1, e2, e3⟩ := HT
      rw [← e1, ← e2, ← e3] at HGV
      clear HAF e1 e2 e3 hg7 hirc HC
      obtain ⟨m, hm⟩ : ∃ m, aT.length = m := ⟨_, rfl⟩
      have HBB : Hid (Below w2.heap.size w2 wb ∧ w.heap.size + 1 + 1 < wb.heap.size) := ⟨hbb, hlb⟩
      clear hbb hlb
      go_wp2_with fail
      refine HGV.mono ?_
      rintro e w8 ⟨V8, rfl, sv8, hb8⟩
      obtain ⟨p8, k8, rfl⟩ := sv8.shape
      rw [hm] at sv8 ⊢
      obtain ⟨k3, hB1⟩ := HRS.out w8 (bel0 HBB.out.1 hb8)
      obtain ⟨hc3, hf3⟩ := cells_block k3
      have HP : Hid ((((w8.setCell ⟨w.heap.size + 1 + 1, 0, none⟩ (.int .i64 aB)).setCell ⟨w.heap.size + 1 + 1, 1, none⟩ (.slice p8 m k8)).setCell ⟨w.heap.size + 1 + 1, 2, none⟩ (.bool false)).heap[w.heap.size + 1 + 1]? = some (.cells #[.int .i64 aB, .slice p8 m k8, .bool false] 24 (0, 0)) ∧ Below w.heap.size w (((w8.setCell ⟨w.heap.size + 1 + 1, 0, none⟩ (.int .i64 aB)).setCell ⟨w.heap.size + 1 + 1, 1, none⟩ (.slice p8 m k8)).setCell ⟨w.heap.size + 1 + 1, 2, none⟩ (.bool false)) ∧ SPL (((w8.setCell ⟨w.heap.size + 1 + 1, 0, none⟩ (.int .i64 aB)).setCell ⟨w.heap.size + 1 + 1, 1, none⟩ (.slice p8 m k8)).setCell ⟨w.heap.size + 1 + 1, 2, none⟩ (.bool false)) 0 (.slice p8 m k8) aT) := ⟨put3w _ _ _ k3, ((hB1.setCell (by simp; omega) _).setCell (by simp; omega) _).setCell (by simp; omega) _, (sv8.kept (gr3 _ _ _ _ _) HBB.out.2).base (Nat.zero_le _)⟩
      clear k3 hB1 sv8 hb8 HGV hwb
      go_wp2_with fail
      refine bodyPost_ret (v := .tuple #[.agg #[.int .i64 aB, .slice p8 m k8, .bool false], .int .i64 aE]) (res_space2 _ _ (w.heap.size + 1 + 1) _ _ _ Tryz.results14 rfl HP.out.1) rfl ?_
      exact ⟨_, rfl, HP.out.2.2, HP.out.2.1⟩
    · obtain ⟨e1, e2, e3⟩ := HC.out.2.1 (by trivial) hE
      subst e1 e3
      have HE2 : Hid (aE = E) := e2
      clear e2
      have hEn : (E != 0) = true := by rw [bne_iff_ne]; exact hE
      obtain ⟨k3, hB1⟩ := HRS.out _ HW.out.2
      obtain ⟨hc3, hf3⟩ := cells_block k3
      have HP : Hid (((((w7.alloc (.cells #[.slice p7 n k7] 30 (0, 0))).setCell ⟨w.heap.size + 1 + 1, 0, none⟩ (.int .i64 0)).setCell ⟨w.heap.size + 1 + 1, 1, none⟩ (.slice none 0 0)).setCell ⟨w.heap.size + 1 + 1, 2, none⟩ (.bool false)).heap[w.heap.size + 1 + 1]? = some (.cells #[.int .i64 0, .slice none 0 0, .bool false] 24 (0, 0)) ∧ Below w.heap.size w ((((w7.alloc (.cells #[.slice p7 n k7] 30 (0, 0))).setCell ⟨w.heap.size + 1 + 1, 0, none⟩ (.int .i64 0)).setCell ⟨w.heap.size + 1 + 1, 1, none⟩ (.slice none 0 0)).setCell ⟨w.heap.size + 1 + 1, 2, none⟩ (.bool false))) := ⟨put3w _ _ _ k3, ((hB1.setCell (by simp; omega) _).setCell (by simp; omega) _).setCell (by simp; omega) _⟩
      clear k3 hB1
      go_wp2_with fail
      refine bodyPost_ret (v := .tuple #[.agg #[.int .i64 0, .slice none 0 0, .bool false], .int .i64 E]) (res_space2 _ _ (w.heap.size + 1 + 1) _ _ _ Tryz.results14 rfl HP.out.1) rfl ?_
      exact ⟨.slice none 0 0, by rw [HE2.out], SPL_nil _ _, HP.out.2⟩
end Go.Proofs.YtccbfaembcefjaaGreatDoor
