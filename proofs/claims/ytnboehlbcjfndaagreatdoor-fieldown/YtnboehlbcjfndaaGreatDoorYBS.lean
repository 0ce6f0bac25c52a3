import Derived.Test.YtnboehlbcjfndaaGreatDoorYBR
import Derived.Deep.DeepCutAuto
namespace Go.Proofs.YtnboehlbcjfndaaGreatDoor
open Go.RowKit Go.Shelf
def put7 (W : World) (b : Nat) (v0 v1 v2 v3 v4 v5 v6 : Value) : World :=
  ((((((W.setCell ⟨b, 0, none⟩ v0).setCell ⟨b, 1, none⟩ v1).setCell ⟨b, 2, none⟩ v2).setCell ⟨b, 3, none⟩ v3).setCell ⟨b, 4, none⟩ v4).setCell ⟨b, 5, none⟩ v5).setCell ⟨b, 6, none⟩ v6
theorem put7_get {W : World} {b T : Nat} {m : Nat × Nat} {x0 x1 x2 x3 x4 x5 x6 : Value} (v0 v1 v2 v3 v4 v5 v6 : Value) (h : W.heap[b]? = some (.cells #[x0, x1, x2, x3, x4, x5, x6] T m)) :
    (put7 W b v0 v1 v2 v3 v4 v5 v6).heap[b]? = some (.cells #[v0, v1, v2, v3, v4, v5, v6] T m) := by
  unfold put7
  have h0 := set_get (j := 0) v0 h
  have h1 := set_get (j := 1) v1 h0
  have h2 := set_get (j := 2) v2 h1
  have h3 := set_get (j := 3) v3 h2
  have h4 := set_get (j := 4) v4 h3
  have h5 := set_get (j := 5) v5 h4
  have h6 := set_get (j := 6) v6 h5
  rw [h6]
  simp
theorem put7_below {B : Nat} {a W : World} {b : Nat} (v0 v1 v2 v3 v4 v5 v6 : Value) (h : Below B a W) (hb : B ≤ b) : Below B a (put7 W b v0 v1 v2 v3 v4 v5 v6) :=
  ((((((h.setCell (p := ⟨b, 0, none⟩) hb v0).setCell (p := ⟨b, 1, none⟩) hb v1).setCell (p := ⟨b, 2, none⟩) hb v2).setCell (p := ⟨b, 3, none⟩) hb v3).setCell (p := ⟨b, 4, none⟩) hb v4).setCell (p := ⟨b, 5, none⟩) hb v5).setCell (p := ⟨b, 6, none⟩) hb v6
theorem put7_other {W : World} {b c : Nat} (v0 v1 v2 v3 v4 v5 v6 : Value) (h : c ≠ b) : (put7 W b v0 v1 v2 v3 v4 v5 v6).heap[c]? = W.heap[c]? := by
  have e : ∀ (U : World) (j : Nat) (v : Value), (U.setCell ⟨b, j, none⟩ v).heap[c]? = U.heap[c]? := fun U j v => heap_setCell_other U ⟨b, j, none⟩ c v (by simpa using h)
  unfold put7
  rw [e, e, e, e, e, e, e]
theorem blk_cells {W : World} {b T : Nat} {cs : Array Value} (h : W.heap[b]? = some (.cells cs T (0, 0))) : (∀ j, W.cell? ⟨b, j, none⟩ = cs[j]?) ∧ ∀ j, W.frozen? ⟨b, j, none⟩ = false := by
  constructor
  · intro j; unfold World.cell?; rw [h]; simp
  · intro j; unfold World.frozen?; rw [h]; simp
theorem drew_heap (W : World) (i : Nat) : W.drew.heap[i]? = W.heap[i]? := rfl
theorem alloc_two (w : World) (O Q : Obj) : ((w.alloc O).alloc Q).heap[w.heap.size + 1]? = some Q := by
  have e : (w.alloc O).heap.size = w.heap.size + 1 := Array.size_push _
  rw [← e]
  exact alloc_get _ _
theorem alloc_two0 (w : World) (O Q : Obj) : ((w.alloc O).alloc Q).heap[w.heap.size]? = some O := by
  have e : (w.alloc O).heap[w.heap.size]? = some O := alloc_get _ _
  have h := (Below.refl (w.alloc O).heap.size (w.alloc O)).alloc (Nat.le_refl _) Q
  exact keepblk h e
theorem res_tst (tmps : Array Value) (W : World) (g : Nat) (x0 x1 x2 x3 x4 x5 x6 : Value) {m : Nat × Nat} (h : tmps.getD 16 undef = .pointer (some ⟨g, 0, none⟩)) (hk : W.heap[g]? = some (.cells #[x0, x1, x2, x3, x4, x5, x6] 27 m)) : (results Tryz.f8 tmps).run Tryz.prog W = .ok (.agg #[x0, x1, x2, x3, x4, x5, x6]) W := by
  have h' : tmps[16]?.getD undef = .pointer (some ⟨g, 0, none⟩) := by simpa using h
  have hc : ∀ j, W.cell? ⟨g, j, none⟩ = (#[x0, x1, x2, x3, x4, x5, x6] : Array Value)[j]? := by
    intro j; unfold World.cell?; rw [hk]; simp
  simp [results, h', go_sem, hc]
theorem tok1 {b : Nat} {op l : Int} (x : List UInt8) (h1 : 1 ≤ op) (h2 : op ≤ 6) (hl : 0 ≤ l) (hl2 : l ≤ ((2 ^ b - 1 : Nat) : Int)) : TOK b ⟨x, op, 1, l, 0, 0, []⟩ :=
  ⟨decide_eq_true ⟨h1, h2, by simp, by simp, fun _ => rfl, fun h => by simp at h, fun _ => rfl, fun _ => rfl, fun _ => rfl⟩, hl, hl2, Int.le_refl _, by simp only; omega, Int.le_refl _, by simp only; omega, fun h => by simp at h, fun h => by simp at h, fun h => by simp at h⟩
theorem tok2 {b l len : Nat} {op : Int} (x : List UInt8) (h1 : 1 ≤ op) (h2 : op ≤ 2) (hl : l ≤ 2 ^ b - 1) (hn : len ≤ b) : TOK b ⟨x, op, 2, ((l / 2 ^ (b - len) * 2 ^ (b - len) : Nat) : Int), 0, (len : Int), []⟩ :=
  have hle : l / 2 ^ (b - len) * 2 ^ (b - len) ≤ l := Nat.div_mul_le_self _ _
  ⟨decide_eq_true ⟨h1, by simp only; omega, by simp, by simp, fun h => by simp only at h; omega, fun h => by simp at h, fun _ => rfl, fun h => absurd rfl h, fun _ => rfl⟩, by simp only; omega, by simp only; omega, Int.le_refl _, by simp only; omega, by simp only; omega, by simp only; omega, fun _ => by simp only [Int.toNat_natCast]; exact Nat.mul_mod_left _ _, fun h => by simp at h, fun h => by simp at h⟩
theorem tok3 {b : Nat} {op l h : Int} (x : List UInt8) (h1 : 1 ≤ op) (h2 : op ≤ 2) (hl : 0 ≤ l) (hlh : l ≤ h) (hh : h ≤ ((2 ^ b - 1 : Nat) : Int)) : TOK b ⟨x, op, 3, l, h, 0, []⟩ :=
  ⟨decide_eq_true ⟨h1, by simp only; omega, by simp, by simp, fun h => by simp only at h; omega, fun h => by simp at h, fun h => absurd rfl h, fun _ => rfl, fun _ => rfl⟩, hl, by simp only; omega, by simp only; omega, hh, Int.le_refl _, by simp only; omega, fun h => by simp at h, fun _ => hlh, fun h => by simp at h⟩
theorem tok4 {b : Nat} {op : Int} (x s : List UInt8) (h1 : 1 ≤ op) (h2 : op ≤ 2) : TOK b ⟨x, op, 4, 0, 0, 0, paM s b⟩ :=
  ⟨decide_eq_true ⟨h1, by simp only; omega, by simp, by simp, fun h => by simp only at h; omega, fun _ => rfl, fun _ => rfl, fun _ => rfl, fun h => absurd rfl h⟩, Int.le_refl _, by simp only; omega, Int.le_refl _, by simp only; omega, Int.le_refl _, by simp only; omega, fun h => by simp at h, fun h => by simp at h, fun _ => by unfold cuB; rw [paM_len, paM_tri]; simp⟩
set_option maxRecDepth 100000 in
set_option maxHeartbeats 8000000 in
theorem test_any (L : List IFld) (o : Option Addr) (c k b : Nat) (x : List UInt8) (op form lo hi n : Int) (s : List UInt8) (w : World) (hb1 : 1 ≤ b) (hb : b ≤ 32) (_hL : L.length ≤ 12) (hf : L[k]? = some (x, (b : Int))) (hs : s.length ≤ 281474976710656) (hr : IRF w o L) :
    Calls Tryz.prog 8 #[.slice o L.length c, .int .i64 (k : Int), .int .i64 op, .int .i64 form, .int .i64 lo, .int .i64 hi, .int .i64 n, .string ⟨s.toArray⟩] w fun e w' => ∃ t : TS, e = .returned t.v ∧ t.f = x ∧ TOK b t ∧ t.pat.length ≤ 32 ∧ Below w.heap.size w w' := by
  have hk := (List.getElem?_eq_some_iff.1 hf).1
  obtain ⟨g, o0, rfl, -⟩ := hr w (Below.refl _ _) k _ hf
  have XF : Hid (∀ W, Below w.heap.size w W → W.cell? ⟨g, o0 + k * 2, none⟩ = some (.string ⟨x.toArray⟩) ∧ W.cell? ⟨g, o0 + k * 2 + 1, none⟩ = some (.int .i64 (b : Int))) := fun W hW => by
    obtain ⟨g3, q3, e, h⟩ := hr W hW k _ hf
    injection e with e
    injection e with e1 e2
    subst e1 e2
    exact h
  have q0 : (0 : Int) ≤ (k : Int) := by omega
  have q1 : (k : Int) < (L.length : Int) := by omega
  have hp2 : 2 ^ b ≤ 2 ^ 32 := Nat.pow_le_pow_right (by decide) hb
  have hp0 : 0 < 2 ^ b := Nat.pow_pos (by decide)
  have ep : IntKind.i64.wrap ((2 : Int) ^ b) = ((2 ^ b : Nat) : Int) := by rw [pow_cast, IntKind.wrap_i64]; omega
  have T1 : Hid (∀ (op l : Int), 1 ≤ op → op ≤ 6 → 0 ≤ l → l ≤ ((2 ^ b - 1 : Nat) : Int) → TOK b ⟨x, op, 1, l, 0, 0, []⟩) := fun op l a1 a2 a3 a4 => tok1 x a1 a2 a3 a4
  have T2 : Hid (∀ (op : Int) (l len : Nat), 1 ≤ op → op ≤ 2 → l ≤ 2 ^ b - 1 → len ≤ b → TOK b ⟨x, op, 2, ((l / 2 ^ (b - len) * 2 ^ (b - len) : Nat) : Int), 0, (len : Int), []⟩) := fun op l len a1 a2 a3 a4 => tok2 x a1 a2 a3 a4
  have T3 : Hid (∀ (op l h : Int), 1 ≤ op → op ≤ 2 → 0 ≤ l → l ≤ h → h ≤ ((2 ^ b - 1 : Nat) : Int) → TOK b ⟨x, op, 3, l, h, 0, []⟩) := fun op l h a1 a2 a3 a4 a5 => tok3 x a1 a2 a3 a4 a5
  have T4 : Hid (∀ (op : Int), 1 ≤ op → op ≤ 2 → TOK b ⟨x, op, 4, 0, 0, 0, paM s b⟩) := fun op a1 a2 => tok4 x s a1 a2
  obtain ⟨P, hP⟩ : ∃ P : Nat, 2 ^ b = P := ⟨_, rfl⟩
  rw [hP] at ep hp0 hp2 T1 T2 T3
  have hPa : (0 : Int) < (P : Int) := Int.natCast_pos.2 hp0
  have hPb : (P : Int) ≤ 4294967296 := Int.ofNat_le.2 hp2
  have s0 : (0 : Int) ≤ (b : Int) := by omega
  have s1 : (b : Int) < 64 := by omega
  have HN1 : Hid (∀ W : World, Calls Tryz.prog 7 #[.int .i64 op, .int .i64 6] W fun e w' => e = .returned (.int .i64 (op % 6)) ∧ w' = W) := fun W => near_any op 6 W (by omega) (by omega)
  have HN2 : Hid (∀ W : World, Calls Tryz.prog 7 #[.int .i64 form, .int .i64 4] W fun e w' => e = .returned (.int .i64 (form % 4)) ∧ w' = W) := fun W => near_any form 4 W (by omega) (by omega)
  have HN3 : Hid (∀ W : World, Calls Tryz.prog 7 #[.int .i64 lo, .int .i64 (P : Int)] W fun e w' => e = .returned (.int .i64 (lo % (P : Int))) ∧ w' = W) := fun W => near_any lo P W hPa hPb
  have HN4 : Hid (∀ W : World, Calls Tryz.prog 7 #[.int .i64 hi, .int .i64 (P : Int)] W fun e w' => e = .returned (.int .i64 (hi % (P : Int))) ∧ w' = W) := fun W => near_any hi P W hPa hPb
  have HN5 : Hid (∀ W : World, Calls Tryz.prog 7 #[.int .i64 n, .int .i64 ((b : Int) + 1)] W fun e w' => e = .returned (.int .i64 (n % ((b : Int) + 1))) ∧ w' = W) := fun W => near_any n ((b : Int) + 1) W (by omega) (by omega)
  have HPT : Hid (∀ W : World, Calls Tryz.prog 25 #[.string ⟨s.toArray⟩, .int .i64 (b : Int)] W fun e w' => e = .returned (.string ⟨(paM s b).toArray⟩) ∧ Below W.heap.size W w') := fun W => pattern_any s b W hb hs
  have l0 := Int.emod_nonneg lo (show (P : Int) ≠ 0 by omega)
  have l1 := Int.emod_lt_of_pos lo hPa
  have h0 := Int.emod_nonneg hi (show (P : Int) ≠ 0 by omega)
  have h1 := Int.emod_lt_of_pos hi hPa
  have n0 := Int.emod_nonneg n (show ((b : Int) + 1) ≠ 0 by omega)
  have n1 := Int.emod_lt_of_pos n (show (0 : Int) < (b : Int) + 1 by omega)
  obtain ⟨u, hu⟩ : ∃ u, op % 6 = u := ⟨_, rfl⟩
  obtain ⟨y, hy⟩ : ∃ y, form % 4 = y := ⟨_, rfl⟩
  obtain ⟨l, hl⟩ : ∃ l : Nat, lo % (P : Int) = (l : Int) := ⟨(lo % (P : Int)).toNat, by omega⟩
  obtain ⟨h, hh⟩ : ∃ h : Nat, hi % (P : Int) = (h : Int) := ⟨(hi % (P : Int)).toNat, by omega⟩
  obtain ⟨m, hm⟩ : ∃ m : Nat, n % ((b : Int) + 1) = (m : Int) := ⟨(n % ((b : Int) + 1)).toNat, by omega⟩
  have u0 : 0 ≤ u ∧ u < 6 := by omega
  have y0 : 0 ≤ y ∧ y < 4 := by omega
  rw [hu] at HN1
  rw [hy] at HN2
  rw [hl] at HN3 l1
  rw [hh] at HN4 h1
  rw [hm] at HN5 n1
  have e1 : IntKind.i64.wrap (1 + u) = 1 + u := by rw [IntKind.wrap_i64]; omega
  have e2 : IntKind.i64.wrap (1 + y) = 1 + y := by rw [IntKind.wrap_i64]; omega
  have e3 : IntKind.i64.wrap ((b : Int) + 1) = (b : Int) + 1 := by rw [IntKind.wrap_i64]; omega
  have hpl : (paM s b).length ≤ 32 := by rw [paM_len]; exact hb
  obtain ⟨PA, hPA⟩ : ∃ PA, paM s b = PA := ⟨_, rfl⟩
  rw [hPA] at HPT T4 hpl
  have HPL : Hid (PA.length ≤ 32) := hpl
  have HPB : Hid ((P : Int) ≤ 4294967296) := hPb
  have HLP : Hid (l < P ∧ h < P ∧ m ≤ b) := ⟨by omega, by omega, by omega⟩
  clear hu hy hr hf hl hh hm hPA hpl hP hp0 hp2 l0 h0 n0 hk l1 h1 n1 hPa hPb
  obtain ⟨O, hO⟩ : ∃ O : Obj, Obj.cells #[.string ⟨#[]⟩, .int .i64 0, .int .i64 0, .int .i64 0, .int .i64 0, .int .i64 0, .string ⟨#[]⟩] 27 = O := ⟨_, rfl⟩
  have hB1 : Below w.heap.size w (w.alloc O) := (Below.refl _ _).alloc (Nat.le_refl _) _
  obtain ⟨z0, z1⟩ := XF.out _ hB1
  have hbA : ((w.alloc O).alloc O).heap[w.heap.size + 1]? = some (.cells #[.string ⟨#[]⟩, .int .i64 0, .int .i64 0, .int .i64 0, .int .i64 0, .int .i64 0, .string ⟨#[]⟩] 27) := by rw [hO]; exact alloc_two w O O
  have hbZ : ((w.alloc O).alloc O).heap[w.heap.size]? = some (.cells #[.string ⟨#[]⟩, .int .i64 0, .int .i64 0, .int .i64 0, .int .i64 0, .int .i64 0, .string ⟨#[]⟩] 27) := by rw [hO]; exact alloc_two0 w O O
  obtain ⟨hcB, hfB⟩ := blk_cells hbA
  have hB2 : Below w.heap.size w ((w.alloc O).alloc O) := hB1.alloc hB1.size _
  obtain ⟨y0', y1'⟩ := XF.out _ hB2
  have hm1 : (put7 ((w.alloc O).alloc O) (w.heap.size + 1) (.string ⟨x.toArray⟩) (.int .i64 (1 + u)) (.int .i64 (1 + y)) (.int .i64 0) (.int .i64 0) (.int .i64 0) (.string ⟨#[]⟩)).drew.heap[w.heap.size + 1]? = some (.cells #[.string ⟨x.toArray⟩, .int .i64 (1 + u), .int .i64 (1 + y), .int .i64 0, .int .i64 0, .int .i64 0, .string ⟨#[]⟩] 27 (0, 0)) := by
    rw [drew_heap]
    exact put7_get _ _ _ _ _ _ _ hbA
  have hm0 : (put7 ((w.alloc O).alloc O) (w.heap.size + 1) (.string ⟨x.toArray⟩) (.int .i64 (1 + u)) (.int .i64 (1 + y)) (.int .i64 0) (.int .i64 0) (.int .i64 0) (.string ⟨#[]⟩)).drew.heap[w.heap.size]? = some (.cells #[.string ⟨#[]⟩, .int .i64 0, .int .i64 0, .int .i64 0, .int .i64 0, .int .i64 0, .string ⟨#[]⟩] 27 (0, 0)) := by
    rw [drew_heap, put7_other _ _ _ _ _ _ _ (Nat.ne_of_lt (Nat.lt_succ_self _))]
    exact hbZ
  have hmB : Below w.heap.size w (put7 ((w.alloc O).alloc O) (w.heap.size + 1) (.string ⟨x.toArray⟩) (.int .i64 (1 + u)) (.int .i64 (1 + y)) (.int .i64 0) (.int .i64 0) (.int .i64 0) (.string ⟨#[]⟩)).drew := (put7_below (W := (w.alloc O).alloc O) _ _ _ _ _ _ _ hB2 (Nat.le_succ _)).drew
  unfold put7 at hm1 hm0 hmB
  have HM : Hid (_ ∧ _ ∧ _) := ⟨hm1, hm0, hmB⟩
  clear hm1 hm0 hmB hbA hbZ hB1 hB2
  go_enter Tryz.func8, Tryz.ntmps8
  go_upto_region 2 with fail
  go_cut [18] (fun p wc => p = .pointer (some ⟨w.heap.size + 1, 0, none⟩) ∧ wc.heap[w.heap.size + 1]? = some (.cells #[.string ⟨x.toArray⟩, .int .i64 (1 + u), .int .i64 (1 + y), .int .i64 0, .int .i64 0, .int .i64 0, .string ⟨#[]⟩] 27 (0, 0)) ∧ wc.heap[w.heap.size]? = some (.cells #[.string ⟨#[]⟩, .int .i64 0, .int .i64 0, .int .i64 0, .int .i64 0, .int .i64 0, .string ⟨#[]⟩] 27 (0, 0)) ∧ Below w.heap.size w wc)
  case first =>
    go_region_law ((first | (have chk := h2nd; go_simp; go_at_call 7; refine (HN2.out _).mono ?_; rintro e w2 ⟨rfl, rfl⟩) | (go_simp; go_at_call 7; refine (HN1.out _).mono ?_; rintro e w1 ⟨rfl, rfl⟩; have h2nd : True := trivial)))
    all_goals
      go_wp2_with fail
      go_meet
      exact ⟨rfl, HM.out⟩
  case rest =>
    clear hcB hfB z0 z1 y0' y1' hO HN1 HN2 HM
    obtain ⟨rfl, k1, k0, BB⟩ := hcut
    obtain ⟨hc1, hf1⟩ := blk_cells k1
    obtain ⟨hc0, hf0⟩ := blk_cells k0
    obtain ⟨lP, hP, mb⟩ := HLP.out
    by_cases i1 : (2 : Int) < 1 + u
    · by_cases g : (h : Int) < (l : Int)
      · go_wp2_with fail
        refine (HN3.out _).mono ?_
        rintro e Wa ⟨rfl, rfl⟩
        go_wp2_with fail
        refine (HN4.out _).mono ?_
        rintro e Wb ⟨rfl, rfl⟩
        go_wp2_with fail
        refine bodyPost_ret (res_tst _ _ w.heap.size _ _ _ _ _ _ _ rfl (put7_get _ _ _ _ _ _ _ (by first | exact k0 | exact (heap_setCell_other _ _ _ _ (by simp)).trans k0 | exact (heap_setCell_other _ _ _ _ (by simp)).trans ((heap_setCell_other _ _ _ _ (by simp)).trans k0) | exact (heap_setCell_other _ _ _ _ (by simp)).trans ((heap_setCell_other _ _ _ _ (by simp)).trans ((heap_setCell_other _ _ _ _ (by simp)).trans k0))))) rfl ⟨⟨x, 1 + u, 1, l, 0, 0, []⟩, rfl, rfl, T1.out _ _ (by omega) (by omega) (by omega) (by omega), Nat.zero_le _, put7_below _ _ _ _ _ _ _ (by first | exact BB | exact BB.setCell (p := ⟨w.heap.size + 1, _, none⟩) (Nat.le_succ _) _ | exact (BB.setCell (p := ⟨w.heap.size + 1, _, none⟩) (Nat.le_succ _) _).setCell (p := ⟨w.heap.size + 1, _, none⟩) (Nat.le_succ _) _ | exact ((BB.setCell (p := ⟨w.heap.size + 1, _, none⟩) (Nat.le_succ _) _).setCell (p := ⟨w.heap.size + 1, _, none⟩) (Nat.le_succ _) _).drew | exact (((BB.setCell (p := ⟨w.heap.size + 1, _, none⟩) (Nat.le_succ _) _).setCell (p := ⟨w.heap.size + 1, _, none⟩) (Nat.le_succ _) _).setCell (p := ⟨w.heap.size + 1, _, none⟩) (Nat.le_succ _) _)) (Nat.le_refl _)⟩
      · go_wp2_with fail
        refine (HN3.out _).mono ?_
        rintro e Wa ⟨rfl, rfl⟩
        go_wp2_with fail
        refine (HN4.out _).mono ?_
        rintro e Wb ⟨rfl, rfl⟩
        go_wp2_with fail
        refine bodyPost_ret (res_tst _ _ w.heap.size _ _ _ _ _ _ _ rfl (put7_get _ _ _ _ _ _ _ (by first | exact k0 | exact (heap_setCell_other _ _ _ _ (by simp)).trans k0 | exact (heap_setCell_other _ _ _ _ (by simp)).trans ((heap_setCell_other _ _ _ _ (by simp)).trans k0) | exact (heap_setCell_other _ _ _ _ (by simp)).trans ((heap_setCell_other _ _ _ _ (by simp)).trans ((heap_setCell_other _ _ _ _ (by simp)).trans k0))))) rfl ⟨⟨x, 1 + u, 1, l, 0, 0, []⟩, rfl, rfl, T1.out _ _ (by omega) (by omega) (by omega) (by omega), Nat.zero_le _, put7_below _ _ _ _ _ _ _ (by first | exact BB | exact BB.setCell (p := ⟨w.heap.size + 1, _, none⟩) (Nat.le_succ _) _ | exact (BB.setCell (p := ⟨w.heap.size + 1, _, none⟩) (Nat.le_succ _) _).setCell (p := ⟨w.heap.size + 1, _, none⟩) (Nat.le_succ _) _ | exact ((BB.setCell (p := ⟨w.heap.size + 1, _, none⟩) (Nat.le_succ _) _).setCell (p := ⟨w.heap.size + 1, _, none⟩) (Nat.le_succ _) _).drew | exact (((BB.setCell (p := ⟨w.heap.size + 1, _, none⟩) (Nat.le_succ _) _).setCell (p := ⟨w.heap.size + 1, _, none⟩) (Nat.le_succ _) _).setCell (p := ⟨w.heap.size + 1, _, none⟩) (Nat.le_succ _) _)) (Nat.le_refl _)⟩
    · rcases (show y = 0 ∨ y = 1 ∨ y = 2 ∨ y = 3 by omega) with rfl | rfl | rfl | rfl
      · by_cases g : (h : Int) < (l : Int)
        · go_wp2_with fail
          refine (HN3.out _).mono ?_
          rintro e Wa ⟨rfl, rfl⟩
          go_wp2_with fail
          refine (HN4.out _).mono ?_
          rintro e Wb ⟨rfl, rfl⟩
          go_wp2_with fail
          refine bodyPost_ret (res_tst _ _ w.heap.size _ _ _ _ _ _ _ rfl (put7_get _ _ _ _ _ _ _ (by first | exact k0 | exact (heap_setCell_other _ _ _ _ (by simp)).trans k0 | exact (heap_setCell_other _ _ _ _ (by simp)).trans ((heap_setCell_other _ _ _ _ (by simp)).trans k0) | exact (heap_setCell_other _ _ _ _ (by simp)).trans ((heap_setCell_other _ _ _ _ (by simp)).trans ((heap_setCell_other _ _ _ _ (by simp)).trans k0))))) rfl ⟨⟨x, 1 + u, 1, l, 0, 0, []⟩, rfl, rfl, T1.out _ _ (by omega) (by omega) (by omega) (by omega), Nat.zero_le _, put7_below _ _ _ _ _ _ _ (by first | exact BB | exact BB.setCell (p := ⟨w.heap.size + 1, _, none⟩) (Nat.le_succ _) _ | exact (BB.setCell (p := ⟨w.heap.size + 1, _, none⟩) (Nat.le_succ _) _).setCell (p := ⟨w.heap.size + 1, _, none⟩) (Nat.le_succ _) _ | exact ((BB.setCell (p := ⟨w.heap.size + 1, _, none⟩) (Nat.le_succ _) _).setCell (p := ⟨w.heap.size + 1, _, none⟩) (Nat.le_succ _) _).drew | exact (((BB.setCell (p := ⟨w.heap.size + 1, _, none⟩) (Nat.le_succ _) _).setCell (p := ⟨w.heap.size + 1, _, none⟩) (Nat.le_succ _) _).setCell (p := ⟨w.heap.size + 1, _, none⟩) (Nat.le_succ _) _)) (Nat.le_refl _)⟩
        · go_wp2_with fail
          refine (HN3.out _).mono ?_
          rintro e Wa ⟨rfl, rfl⟩
          go_wp2_with fail
          refine (HN4.out _).mono ?_
          rintro e Wb ⟨rfl, rfl⟩
          go_wp2_with fail
          refine bodyPost_ret (res_tst _ _ w.heap.size _ _ _ _ _ _ _ rfl (put7_get _ _ _ _ _ _ _ (by first | exact k0 | exact (heap_setCell_other _ _ _ _ (by simp)).trans k0 | exact (heap_setCell_other _ _ _ _ (by simp)).trans ((heap_setCell_other _ _ _ _ (by simp)).trans k0) | exact (heap_setCell_other _ _ _ _ (by simp)).trans ((heap_setCell_other _ _ _ _ (by simp)).trans ((heap_setCell_other _ _ _ _ (by simp)).trans k0))))) rfl ⟨⟨x, 1 + u, 1, l, 0, 0, []⟩, rfl, rfl, T1.out _ _ (by omega) (by omega) (by omega) (by omega), Nat.zero_le _, put7_below _ _ _ _ _ _ _ (by first | exact BB | exact BB.setCell (p := ⟨w.heap.size + 1, _, none⟩) (Nat.le_succ _) _ | exact (BB.setCell (p := ⟨w.heap.size + 1, _, none⟩) (Nat.le_succ _) _).setCell (p := ⟨w.heap.size + 1, _, none⟩) (Nat.le_succ _) _ | exact ((BB.setCell (p := ⟨w.heap.size + 1, _, none⟩) (Nat.le_succ _) _).setCell (p := ⟨w.heap.size + 1, _, none⟩) (Nat.le_succ _) _).drew | exact (((BB.setCell (p := ⟨w.heap.size + 1, _, none⟩) (Nat.le_succ _) _).setCell (p := ⟨w.heap.size + 1, _, none⟩) (Nat.le_succ _) _).setCell (p := ⟨w.heap.size + 1, _, none⟩) (Nat.le_succ _) _)) (Nat.le_refl _)⟩
      · have e5 : IntKind.i64.wrap ((b : Int) - (m : Int)) = ((b - m : Nat) : Int) := by rw [IntKind.wrap_i64]; omega
        have dv := div_cast l (b - m)
        have hle : l / 2 ^ (b - m) * 2 ^ (b - m) ≤ l := Nat.div_mul_le_self _ _
        have hT2 := T2.out (1 + u) l m (by omega) (by omega) (by omega) mb
        have PB : (P : Int) ≤ 4294967296 := HPB.out
        have e8 : IntKind.i64.wrap (((l / 2 ^ (b - m) : Nat) : Int) * 2 ^ (b - m)) = ((l / 2 ^ (b - m) * 2 ^ (b - m) : Nat) : Int) := by rw [pow_cast, ← Int.natCast_mul, IntKind.wrap_i64]; omega
        obtain ⟨q, hq⟩ : ∃ q, b - m = q := ⟨_, rfl⟩
        rw [hq] at e5 dv hle hT2 e8
        have s2 : (0 : Int) ≤ (q : Int) := by omega
        have s3 : (q : Int) < 64 := by omega
        obtain ⟨X, hX⟩ : ∃ X, l / 2 ^ q = X := ⟨_, rfl⟩
        rw [hX] at dv hle hT2 e8
        obtain ⟨Z, hZ⟩ : ∃ Z, X * 2 ^ q = Z := ⟨_, rfl⟩
        rw [hZ] at hle hT2 e8
        have HT2 : Hid (TOK b ⟨x, 1 + u, 2, (Z : Int), 0, (m : Int), []⟩) := hT2
        clear hT2 hZ hX hq hle
        by_cases g : (h : Int) < (l : Int)
        · go_wp2_with fail
          refine (HN3.out _).mono ?_
          rintro e Wa ⟨rfl, rfl⟩
          go_wp2_with fail
          refine (HN4.out _).mono ?_
          rintro e Wb ⟨rfl, rfl⟩
          go_wp2_with fail
          refine (HN5.out _).mono ?_
          rintro e Wc ⟨rfl, rfl⟩
          go_wp2_with fail
          go_region_law (fail)
          all_goals
            go_wp2_with fail
            refine bodyPost_ret (res_tst _ _ w.heap.size _ _ _ _ _ _ _ rfl (by rw [drew_heap]; exact put7_get _ _ _ _ _ _ _ (by first | exact k0 | exact (heap_setCell_other _ _ _ _ (by simp)).trans k0 | exact (heap_setCell_other _ _ _ _ (by simp)).trans ((heap_setCell_other _ _ _ _ (by simp)).trans k0) | exact (heap_setCell_other _ _ _ _ (by simp)).trans ((heap_setCell_other _ _ _ _ (by simp)).trans ((heap_setCell_other _ _ _ _ (by simp)).trans k0))))) rfl ⟨⟨x, 1 + u, 2, Z, 0, m, []⟩, rfl, rfl, HT2.out, Nat.zero_le _, Below.drew (put7_below _ _ _ _ _ _ _ (by first | exact BB | exact BB.setCell (p := ⟨w.heap.size + 1, _, none⟩) (Nat.le_succ _) _ | exact (BB.setCell (p := ⟨w.heap.size + 1, _, none⟩) (Nat.le_succ _) _).setCell (p := ⟨w.heap.size + 1, _, none⟩) (Nat.le_succ _) _ | exact ((BB.setCell (p := ⟨w.heap.size + 1, _, none⟩) (Nat.le_succ _) _).setCell (p := ⟨w.heap.size + 1, _, none⟩) (Nat.le_succ _) _).drew | exact (((BB.setCell (p := ⟨w.heap.size + 1, _, none⟩) (Nat.le_succ _) _).setCell (p := ⟨w.heap.size + 1, _, none⟩) (Nat.le_succ _) _).setCell (p := ⟨w.heap.size + 1, _, none⟩) (Nat.le_succ _) _)) (Nat.le_refl _))⟩
        · go_wp2_with fail
          refine (HN3.out _).mono ?_
          rintro e Wa ⟨rfl, rfl⟩
          go_wp2_with fail
          refine (HN4.out _).mono ?_
          rintro e Wb ⟨rfl, rfl⟩
          go_wp2_with fail
          refine (HN5.out _).mono ?_
          rintro e Wc ⟨rfl, rfl⟩
          go_wp2_with fail
          go_region_law (fail)
          all_goals
            go_wp2_with fail
            refine bodyPost_ret (res_tst _ _ w.heap.size _ _ _ _ _ _ _ rfl (by rw [drew_heap]; exact put7_get _ _ _ _ _ _ _ (by first | exact k0 | exact (heap_setCell_other _ _ _ _ (by simp)).trans k0 | exact (heap_setCell_other _ _ _ _ (by simp)).trans ((heap_setCell_other _ _ _ _ (by simp)).trans k0) | exact (heap_setCell_other _ _ _ _ (by simp)).trans ((heap_setCell_other _ _ _ _ (by simp)).trans ((heap_setCell_other _ _ _ _ (by simp)).trans k0))))) rfl ⟨⟨x, 1 + u, 2, Z, 0, m, []⟩, rfl, rfl, HT2.out, Nat.zero_le _, Below.drew (put7_below _ _ _ _ _ _ _ (by first | exact BB | exact BB.setCell (p := ⟨w.heap.size + 1, _, none⟩) (Nat.le_succ _) _ | exact (BB.setCell (p := ⟨w.heap.size + 1, _, none⟩) (Nat.le_succ _) _).setCell (p := ⟨w.heap.size + 1, _, none⟩) (Nat.le_succ _) _ | exact ((BB.setCell (p := ⟨w.heap.size + 1, _, none⟩) (Nat.le_succ _) _).setCell (p := ⟨w.heap.size + 1, _, none⟩) (Nat.le_succ _) _).drew | exact (((BB.setCell (p := ⟨w.heap.size + 1, _, none⟩) (Nat.le_succ _) _).setCell (p := ⟨w.heap.size + 1, _, none⟩) (Nat.le_succ _) _).setCell (p := ⟨w.heap.size + 1, _, none⟩) (Nat.le_succ _) _)) (Nat.le_refl _))⟩
      · by_cases g : (h : Int) < (l : Int)
        · go_wp2_with fail
          refine (HN3.out _).mono ?_
          rintro e Wa ⟨rfl, rfl⟩
          go_wp2_with fail
          refine (HN4.out _).mono ?_
          rintro e Wb ⟨rfl, rfl⟩
          go_wp2_with fail
          refine bodyPost_ret (res_tst _ _ w.heap.size _ _ _ _ _ _ _ rfl (put7_get _ _ _ _ _ _ _ (by first | exact k0 | exact (heap_setCell_other _ _ _ _ (by simp)).trans k0 | exact (heap_setCell_other _ _ _ _ (by simp)).trans ((heap_setCell_other _ _ _ _ (by simp)).trans k0) | exact (heap_setCell_other _ _ _ _ (by simp)).trans ((heap_setCell_other _ _ _ _ (by simp)).trans ((heap_setCell_other _ _ _ _ (by simp)).trans k0))))) rfl ⟨⟨x, 1 + u, 3, h, l, 0, []⟩, rfl, rfl, T3.out _ _ _ (by omega) (by omega) (by omega) (by omega) (by omega), Nat.zero_le _, put7_below _ _ _ _ _ _ _ (by first | exact BB | exact BB.setCell (p := ⟨w.heap.size + 1, _, none⟩) (Nat.le_succ _) _ | exact (BB.setCell (p := ⟨w.heap.size + 1, _, none⟩) (Nat.le_succ _) _).setCell (p := ⟨w.heap.size + 1, _, none⟩) (Nat.le_succ _) _ | exact ((BB.setCell (p := ⟨w.heap.size + 1, _, none⟩) (Nat.le_succ _) _).setCell (p := ⟨w.heap.size + 1, _, none⟩) (Nat.le_succ _) _).drew | exact (((BB.setCell (p := ⟨w.heap.size + 1, _, none⟩) (Nat.le_succ _) _).setCell (p := ⟨w.heap.size + 1, _, none⟩) (Nat.le_succ _) _).setCell (p := ⟨w.heap.size + 1, _, none⟩) (Nat.le_succ _) _)) (Nat.le_refl _)⟩
        · go_wp2_with fail
          refine (HN3.out _).mono ?_
          rintro e Wa ⟨rfl, rfl⟩
          go_wp2_with fail
          refine (HN4.out _).mono ?_
          rintro e Wb ⟨rfl, rfl⟩
          go_wp2_with fail
          refine bodyPost_ret (res_tst _ _ w.heap.size _ _ _ _ _ _ _ rfl (put7_get _ _ _ _ _ _ _ (by first | exact k0 | exact (heap_setCell_other _ _ _ _ (by simp)).trans k0 | exact (heap_setCell_other _ _ _ _ (by simp)).trans ((heap_setCell_other _ _ _ _ (by simp)).trans k0) | exact (heap_setCell_other _ _ _ _ (by simp)).trans ((heap_setCell_other _ _ _ _ (by simp)).trans ((heap_setCell_other _ _ _ _ (by simp)).trans k0))))) rfl ⟨⟨x, 1 + u, 3, l, h, 0, []⟩, rfl, rfl, T3.out _ _ _ (by omega) (by omega) (by omega) (by omega) (by omega), Nat.zero_le _, put7_below _ _ _ _ _ _ _ (by first | exact BB | exact BB.setCell (p := ⟨w.heap.size + 1, _, none⟩) (Nat.le_succ _) _ | exact (BB.setCell (p := ⟨w.heap.size + 1, _, none⟩) (Nat.le_succ _) _).setCell (p := ⟨w.heap.size + 1, _, none⟩) (Nat.le_succ _) _ | exact ((BB.setCell (p := ⟨w.heap.size + 1, _, none⟩) (Nat.le_succ _) _).setCell (p := ⟨w.heap.size + 1, _, none⟩) (Nat.le_succ _) _).drew | exact (((BB.setCell (p := ⟨w.heap.size + 1, _, none⟩) (Nat.le_succ _) _).setCell (p := ⟨w.heap.size + 1, _, none⟩) (Nat.le_succ _) _).setCell (p := ⟨w.heap.size + 1, _, none⟩) (Nat.le_succ _) _)) (Nat.le_refl _)⟩
      · by_cases g : (h : Int) < (l : Int)
        · go_wp2_with fail
          refine (HN3.out _).mono ?_
          rintro e Wa ⟨rfl, rfl⟩
          go_wp2_with fail
          refine (HN4.out _).mono ?_
          rintro e Wb ⟨rfl, rfl⟩
          go_wp2_with fail
          refine (HPT.out _).mono ?_
          rintro e Wd ⟨rfl, hbd⟩
          replace k1 := keepblk hbd k1
          replace k0 := keepblk hbd k0
          replace BB := bel0 BB hbd
          obtain ⟨hc1', hf1'⟩ := blk_cells k1
          obtain ⟨hc0', hf0'⟩ := blk_cells k0
          go_wp2_with fail
          refine bodyPost_ret (res_tst _ _ w.heap.size _ _ _ _ _ _ _ rfl (put7_get _ _ _ _ _ _ _ (by first | exact k0 | exact (heap_setCell_other _ _ _ _ (by simp)).trans k0 | exact (heap_setCell_other _ _ _ _ (by simp)).trans ((heap_setCell_other _ _ _ _ (by simp)).trans k0) | exact (heap_setCell_other _ _ _ _ (by simp)).trans ((heap_setCell_other _ _ _ _ (by simp)).trans ((heap_setCell_other _ _ _ _ (by simp)).trans k0))))) rfl ⟨⟨x, 1 + u, 4, 0, 0, 0, PA⟩, rfl, rfl, T4.out _ (by omega) (by omega), HPL.out, put7_below _ _ _ _ _ _ _ (by first | exact BB | exact BB.setCell (p := ⟨w.heap.size + 1, _, none⟩) (Nat.le_succ _) _ | exact (BB.setCell (p := ⟨w.heap.size + 1, _, none⟩) (Nat.le_succ _) _).setCell (p := ⟨w.heap.size + 1, _, none⟩) (Nat.le_succ _) _ | exact ((BB.setCell (p := ⟨w.heap.size + 1, _, none⟩) (Nat.le_succ _) _).setCell (p := ⟨w.heap.size + 1, _, none⟩) (Nat.le_succ _) _).drew | exact (((BB.setCell (p := ⟨w.heap.size + 1, _, none⟩) (Nat.le_succ _) _).setCell (p := ⟨w.heap.size + 1, _, none⟩) (Nat.le_succ _) _).setCell (p := ⟨w.heap.size + 1, _, none⟩) (Nat.le_succ _) _)) (Nat.le_refl _)⟩
        · go_wp2_with fail
          refine (HN3.out _).mono ?_
          rintro e Wa ⟨rfl, rfl⟩
          go_wp2_with fail
          refine (HN4.out _).mono ?_
          rintro e Wb ⟨rfl, rfl⟩
          go_wp2_with fail
          refine (HPT.out _).mono ?_
          rintro e Wd ⟨rfl, hbd⟩
          replace k1 := keepblk hbd k1
          replace k0 := keepblk hbd k0
          replace BB := bel0 BB hbd
          obtain ⟨hc1', hf1'⟩ := blk_cells k1
          obtain ⟨hc0', hf0'⟩ := blk_cells k0
          go_wp2_with fail
          refine bodyPost_ret (res_tst _ _ w.heap.size _ _ _ _ _ _ _ rfl (put7_get _ _ _ _ _ _ _ (by first | exact k0 | exact (heap_setCell_other _ _ _ _ (by simp)).trans k0 | exact (heap_setCell_other _ _ _ _ (by simp)).trans ((heap_setCell_other _ _ _ _ (by simp)).trans k0) | exact (heap_setCell_other _ _ _ _ (by simp)).trans ((heap_setCell_other _ _ _ _ (by simp)).trans ((heap_setCell_other _ _ _ _ (by simp)).trans k0))))) rfl ⟨⟨x, 1 + u, 4, 0, 0, 0, PA⟩, rfl, rfl, T4.out _ (by omega) (by omega), HPL.out, put7_below _ _ _ _ _ _ _ (by first | exact BB | exact BB.setCell (p := ⟨w.heap.size + 1, _, none⟩) (Nat.le_succ _) _ | exact (BB.setCell (p := ⟨w.heap.size + 1, _, none⟩) (Nat.le_succ _) _).setCell (p := ⟨w.heap.size + 1, _, none⟩) (Nat.le_succ _) _ | exact ((BB.setCell (p := ⟨w.heap.size + 1, _, none⟩) (Nat.le_succ _) _).setCell (p := ⟨w.heap.size + 1, _, none⟩) (Nat.le_succ _) _).drew | exact (((BB.setCell (p := ⟨w.heap.size + 1, _, none⟩) (Nat.le_succ _) _).setCell (p := ⟨w.heap.size + 1, _, none⟩) (Nat.le_succ _) _).setCell (p := ⟨w.heap.size + 1, _, none⟩) (Nat.le_succ _) _)) (Nat.le_refl _)⟩
end Go.Proofs.YtnboehlbcjfndaaGreatDoor
