import Derived.Test.YtnboehlbcjfndaaGreatDoorYBM
import Derived.Test.YtnboehlbcjfndaaGreatDoorYBJ
namespace Go.Proofs.YtnboehlbcjfndaaGreatDoor
open Go.RowKit Go.Shelf
theorem own_capK {W : World} {B n c e sz : Nat} {o : Option Addr} {xs : List Value} (h : W.ownsRow B e sz (.slice o n c) n xs) : n ≤ c := by
  rcases h.2 with ⟨h', hn⟩ | ⟨g, cap, cur, h', _, _, hnc, _⟩
  · injection h' with _ h2 h3
    omega
  · injection h' with _ _ h3
    omega
theorem bitB_01k (b v p : Nat) : dg01 (bitB b v p) = true := by
  unfold bitB
  rcases (show v / 2 ^ (b - 1 - p) % 2 = 0 ∨ v / 2 ^ (b - 1 - p) % 2 = 1 by omega) with h | h <;> rw [h] <;> rfl
theorem grl_len (e : Nat) : ∀ (m a : Nat), e + 1 - a ≤ m → (gr a e).length ≤ m := by
  intro m
  induction m with
  | zero =>
    intro a h
    rw [gr_end (by omega)]
    simp
  | succ m ih =>
    intro a h
    by_cases hle : a ≤ e
    · rw [gr_le hle, List.length_cons]
      have hp : 0 < 2 ^ fre a e := Nat.pow_pos (by decide)
      have := ih (a + 2 ^ fre a e) (by omega)
      omega
    · rw [gr_end hle]
      simp
theorem covI_len {b : Nat} {lo hi : Int} (hb : b ≤ 32) (_h0 : 0 ≤ lo) (hh : hi < ((2 ^ b : Nat) : Int)) : (covI b lo hi).length ≤ 4294967296 := by
  have hp : 2 ^ b ≤ 2 ^ 32 := Nat.pow_le_pow_right (by decide) hb
  obtain ⟨P, hP⟩ : ∃ P, 2 ^ b = P := ⟨_, rfl⟩
  rw [hP] at hp hh
  clear hP
  unfold covI
  split
  · simp
  · unfold cov
    rw [List.length_map]
    have := grl_len hi.toNat (hi.toNat + 1 - lo.toNat) lo.toNat (Nat.le_refl _)
    omega
theorem covI_pos {b : Nat} {lo hi : Int} (_h0 : 0 ≤ lo) (h : ¬ hi < lo) : 0 < (covI b lo hi).length := by
  unfold covI
  rw [if_neg h, cov_le (by omega), List.length_cons]
  omega
theorem digL_tri (b v f : Nat) : (digL b v f).all Tn.tri = true := by
  unfold digL
  rw [List.all_append, Bool.and_eq_true]
  constructor
  · rw [List.all_eq_true]
    intro c hc
    obtain ⟨p, -, rfl⟩ := List.mem_map.1 hc
    have := bitB_01k b v p
    unfold dg01 at this
    unfold Tn.tri
    rw [this]
    rfl
  · rw [List.all_eq_true]
    intro c hc
    rw [(List.mem_replicate.1 hc).2]
    rfl
theorem one_good {b : Nat} {t : TS} (hb : b ≤ 32) (h : TOK b t) : (oneM b t).length = b ∧ Tn.good (oneM b t) = true := by
  have e : (oneM b t).length = b ∧ (oneM b t).all Tn.tri = true := by
    unfold oneM
    split
    · rename_i f4
      have := h.dig f4
      unfold cuB at this
      rw [Bool.and_eq_true, decide_eq_true_eq] at this
      exact this
    · split
      · have := h.len1
        exact ⟨digL_len _ _ _ (Nat.sub_le _ _), digL_tri _ _ _⟩
      · exact ⟨digL_len _ _ _ (Nat.zero_le _), digL_tri _ _ _⟩
  refine ⟨e.1, ?_⟩
  unfold Tn.good
  rw [e.2, decide_eq_true (by omega)]
  rfl
theorem fx_all (n k : Nat) : Tn.fx (List.replicate n 120) k = false := by
  unfold Tn.fx
  rw [List.getElem?_replicate]
  split <;> simp_all
theorem ag_x {n : Nat} {c : List UInt8} (h0 : 0 < n) (hl : c.length = n) : Tn.agB (List.replicate n 120) c = true := by
  refine Tn.agB_all _ _ ?_ fun k _ => ?_
  · unfold Tn.fitB
    have : (List.replicate n (120 : UInt8)).isEmpty = false := by cases n with | zero => omega | succ n => rfl
    rw [this, List.length_replicate, hl]
    simp
  · unfold Tn.cfl
    rw [fx_all]
    rfl
def splX (b : Nat) (c : List UInt8) : List (List UInt8) := Tn.pcs (List.replicate b 120) c b
theorem splT_x {b : Nat} {c : List UInt8} (h0 : 0 < b) (hl : c.length = b) : Tn.splT (List.replicate b 120) c = splX b c := by
  unfold Tn.splT splX
  rw [if_pos (ag_x h0 hl), List.length_replicate]
def othM (b : Nat) (t : TS) : List (List UInt8) := if t.form = 3 then covI b 0 (t.lo - 1) ++ covI b (t.hi + 1) ((2 ^ b - 1 : Nat) : Int) else splX b (oneM b t)
set_option maxRecDepth 100000 in
set_option maxHeartbeats 800000 in
theorem others3_any (b : Nat) (t : TS) (w : World) (hb1 : 1 ≤ b) (hb : b ≤ 32) (h : TOK b t) (h3 : t.form = 3) (hdb : DB w) : Calls Tryz.prog 56 #[.int .i64 (b : Int), t.v] w fun e w' => slR w (othM b t) e w' := by
  have hp : 2 ^ b ≤ 2 ^ 32 := Nat.pow_le_pow_right (by decide) hb
  have hp0 : 0 < 2 ^ b := Nat.pow_pos (by decide)
  obtain ⟨-, k2, k3, k4, k5, -, -, -, k8, -⟩ := h
  obtain ⟨i0, hi0, hz0, hz1, hz2⟩ := info_parts info_str
  have hM : othM b t = covI b 0 (t.lo - 1) ++ covI b (t.hi + 1) ((2 ^ b - 1 : Nat) : Int) := by unfold othM; rw [if_pos h3]
  rw [hM]
  obtain ⟨f, op, form, lo, hi, len, pat⟩ := t
  simp only at h3 k2 k3 k4 k5
  have g3 : (form == 3) = true := by rw [h3]; rfl
  clear h3
  have HG0 := fun W => greatest_any b hb W
  have l1 := covI_len (b := b) (lo := 0) (hi := lo - 1) hb (by omega) (by omega)
  have l2 := covI_len (b := b) (lo := hi + 1) (hi := ((2 ^ b - 1 : Nat) : Int)) hb (by omega) (by omega)
  have p1 := fun (W : World) (hW : Below w.heap.size w W) => prefixesI_any b 0 (lo - 1) hb1 hb (by omega) (by omega) W (hdb.below hW)
  have p2 := fun (W : World) (hW : Below w.heap.size w W) => prefixesI_any b (hi + 1) ((2 ^ b - 1 : Nat) : Int) hb1 hb (by omega) (by omega) W (hdb.below hW)
  have n2 : ∀ W : World, (((2 ^ b - 1 : Nat) : Int) < hi + 1) → Calls Tryz.prog 55 #[.int .i64 (b : Int), .int .i64 (hi + 1), .int .i64 ((2 ^ b - 1 : Nat) : Int)] W fun e w' => e = .returned (.slice none 0 0) ∧ w' = W := fun W h => prefixes_none b (hi + 1) _ W h
  have m2 : ¬ (((2 ^ b - 1 : Nat) : Int) < hi + 1) → 0 < (covI b (hi + 1) ((2 ^ b - 1 : Nat) : Int)).length := fun h => covI_pos (by omega) h
  have z2 : (((2 ^ b - 1 : Nat) : Int) < hi + 1) → covI b (hi + 1) ((2 ^ b - 1 : Nat) : Int) = [] := fun h => if_pos h
  have n1 : ∀ W : World, lo - 1 < 0 → Calls Tryz.prog 55 #[.int .i64 (b : Int), .int .i64 0, .int .i64 (lo - 1)] W fun e w' => e = .returned (.slice none 0 0) ∧ w' = W := fun W h => prefixes_none b 0 _ W h
  have m1 : ¬ (lo - 1 < 0) → 0 < (covI b 0 (lo - 1)).length := fun h => covI_pos (by omega) h
  have z1 : lo - 1 < 0 → covI b 0 (lo - 1) = [] := fun h => if_pos h
  obtain ⟨G, hG⟩ : ∃ G : Nat, 2 ^ b - 1 = G := ⟨_, rfl⟩
  simp only [hG] at HG0 l2 p2 n2 m2 z2 k3 k5 ⊢
  have hG32 : G < 4294967296 := by omega
  obtain ⟨L1, hL1⟩ : ∃ L, covI b 0 (lo - 1) = L := ⟨_, rfl⟩
  obtain ⟨L2, hL2⟩ : ∃ L, covI b (hi + 1) (G : Int) = L := ⟨_, rfl⟩
  simp only [hL1] at l1 p1 m1 z1 ⊢
  simp only [hL2] at l2 p2 m2 z2 ⊢
  have e1 : IntKind.i64.wrap (lo - 1) = lo - 1 := by rw [IntKind.wrap_i64]; omega
  have e2 : IntKind.i64.wrap (hi + 1) = hi + 1 := by rw [IntKind.wrap_i64]; omega
  obtain ⟨lo1, hlo1⟩ : ∃ x, lo - 1 = x := ⟨_, rfl⟩
  obtain ⟨hi1, hhi1⟩ : ∃ x, hi + 1 = x := ⟨_, rfl⟩
  replace e1 : IntKind.i64.wrap (lo - 1) = lo1 := e1.trans hlo1
  replace e2 : IntKind.i64.wrap (hi + 1) = hi1 := e2.trans hhi1
  rw [hlo1] at p1 n1 m1 z1
  rw [hhi1] at p2 n2 m2 z2
  have HP1 : Hid (∀ (W : World), Below w.heap.size w W → Calls Tryz.prog 55 #[.int .i64 (b : Int), .int .i64 0, .int .i64 lo1] W fun e w' => slR W L1 e w') := p1
  have HP2 : Hid (∀ (W : World), Below w.heap.size w W → Calls Tryz.prog 55 #[.int .i64 (b : Int), .int .i64 hi1, .int .i64 (G : Int)] W fun e w' => slR W L2 e w') := p2
  have HG : Hid (∀ W : World, Calls Tryz.prog 53 #[.int .i64 (b : Int)] W fun e w' => e = .returned (.int .i64 (G : Int)) ∧ w' = W) := HG0
  show Calls Tryz.prog 56 #[.int .i64 (b : Int), .agg #[.string ⟨f.toArray⟩, .int .i64 op, .int .i64 form, .int .i64 lo, .int .i64 hi, .int .i64 len, .string ⟨pat.toArray⟩]] w _
  obtain ⟨O, hO⟩ : ∃ O : Obj, Obj.cells #[.string ⟨f.toArray⟩, .int .i64 op, .int .i64 form, .int .i64 lo, .int .i64 hi, .int .i64 len, .string ⟨pat.toArray⟩] 27 = O := ⟨_, rfl⟩
  have hB1 : Below w.heap.size w (w.alloc O) := (Below.refl _ _).alloc (Nat.le_refl _) _
  have hbx : (w.alloc O).heap[w.heap.size]? = some (.cells #[.string ⟨f.toArray⟩, .int .i64 op, .int .i64 form, .int .i64 lo, .int .i64 hi, .int .i64 len, .string ⟨pat.toArray⟩] 27) := by rw [hO]; exact alloc_get _ _
  have HX : Hid (∀ W : World, Below (w.alloc O).heap.size (w.alloc O) W → W.cell? ⟨w.heap.size, 0, none⟩ = some (.string ⟨f.toArray⟩) ∧ W.cell? ⟨w.heap.size, 1, none⟩ = some (.int .i64 op) ∧ W.cell? ⟨w.heap.size, 2, none⟩ = some (.int .i64 form) ∧ W.cell? ⟨w.heap.size, 3, none⟩ = some (.int .i64 lo) ∧ W.cell? ⟨w.heap.size, 4, none⟩ = some (.int .i64 hi) ∧ W.cell? ⟨w.heap.size, 5, none⟩ = some (.int .i64 len) ∧ W.cell? ⟨w.heap.size, 6, none⟩ = some (.string ⟨pat.toArray⟩)) := fun W hW => ⟨cell_of_row _ _ 0 _ _ _ (keepblk hW hbx), cell_of_row _ _ 1 _ _ _ (keepblk hW hbx), cell_of_row _ _ 2 _ _ _ (keepblk hW hbx), cell_of_row _ _ 3 _ _ _ (keepblk hW hbx), cell_of_row _ _ 4 _ _ _ (keepblk hW hbx), cell_of_row _ _ 5 _ _ _ (keepblk hW hbx), cell_of_row _ _ 6 _ _ _ (keepblk hW hbx)⟩
  obtain ⟨t0, t1, t2, t3, t4, t5, t6⟩ := HX.out _ (Below.refl _ _)
  have hX0 := HX.out _ ((Below.refl _ _).drew)
  have hB1d : Below w.heap.size w (w.alloc O).drew := hB1.drew
  clear hbx p1 p2 HG0 hp hp0 hM hG hL1 hL2 k2 k3 k4 k5 k8 hlo1 hhi1
  by_cases hend : (G : Int) < hi1
  · obtain rfl := z2 hend
    have HN2 : Hid (∀ W : World, Calls Tryz.prog 55 #[.int .i64 (b : Int), .int .i64 hi1, .int .i64 (G : Int)] W fun e w' => e = .returned (.slice none 0 0) ∧ w' = W) := fun W => n2 W hend
    clear n2 m2 z2 hend HP2
    by_cases hst : lo1 < 0
    · obtain rfl := z1 hst
      have HN1 : Hid (∀ W : World, Calls Tryz.prog 55 #[.int .i64 (b : Int), .int .i64 0, .int .i64 lo1] W fun e w' => e = .returned (.slice none 0 0) ∧ w' = W) := fun W => n1 W hst
      clear n1 m1 z1 hst HP1
      go_enter Tryz.func56, Tryz.ntmps56
      go_wp2_with fail
      try simp only [hO]
      obtain ⟨y0, y1, y2, y3, y4, y5, y6⟩ := hX0
      go_region_law ((first | (have chk := hone; go_simp; go_at_call 55; refine (HN2.out _).mono ?_; rintro e w2 ⟨rfl, rfl⟩) | (go_simp; go_at_call 55; refine (HN1.out _).mono ?_; rintro e w1 ⟨rfl, rfl⟩; have hone : True := trivial) | (go_simp; go_at_call 53; refine (HG.out _).mono ?_; rintro e wg ⟨rfl, rfl⟩)))
      all_goals
        go_wp2_with fail
        go_ret
        exact ⟨_, rfl, World.ownsRow_nil _ _ _ _, by first | exact hB1d | exact hB1⟩
    · have hpos1 := m1 hst
      clear n1 m1 z1 hst
      go_enter Tryz.func56, Tryz.ntmps56
      go_wp2_with fail
      try simp only [hO]
      go_region_law ((first | (have chk := ho1; go_simp; go_at_call 55; refine (HN2.out _).mono ?_; rintro e w2 ⟨rfl, rfl⟩) | (go_simp; go_at_call 55; refine (HP1.out _ (by first | exact hB1d | exact hB1)).mono ?_; rintro e w1 ⟨v1, rfl, ho1, hb1⟩; have hB3 := (by first | exact bel0 hB1d hb1 | exact bel0 hB1 hb1 : Below w.heap.size w w1); have hXb := (by first | exact bel0 (Below.refl _ _).drew hb1 | exact hb1 : Below (w.alloc O).heap.size (w.alloc O) w1); obtain ⟨x0, x1, x2, x3, x4, x5, x6⟩ := HX.out w1 hXb; have ho1 := Tn.own_base ho1 (show w.heap.size ≤ _ from (by first | exact hB1d.size | exact hB1.size)); obtain ⟨o1, c1, rfl⟩ := shapeP ho1; obtain ⟨g1, rfl⟩ := own_at ho1 hpos1; have hcap1 := own_capK ho1) | (go_simp; go_at_call 53; refine (HG.out _).mono ?_; rintro e wg ⟨rfl, rfl⟩)))
      all_goals
        go_wp2_with fail
        go_ret
        exact ⟨_, rfl, by rw [List.append_nil]; exact ho1, hB3⟩
  · have hpos := m2 hend
    clear n2 m2 z2 hend n1 m1 z1
    go_enter Tryz.func56, Tryz.ntmps56
    go_wp2_with fail
    try simp only [hO]
    go_region_law ((first | (have chk := ho1b; refine step_append_lies _ (by rfl) _ _ 30 (by rfl) w.heap.size 9 i0 _ 1 16 Tryz.underlying30 hi0 hz0 hz1 hz2 rfl (by decide) _ L1.length (stx L1) (by rfl) ho1b ⟨g2, 0, none⟩ L2.length c2 (stx L2) (by rfl) (by rw [stx_len, Nat.mul_one]) (ho2.cells rfl) (fun u hu => by unfold stx at hu; obtain ⟨z, -, rfl⟩ := List.mem_map.1 hu; rfl) hpos (by unfold maxLen; omega) (by omega) hs2 _ rfl ?_; intro g5 c5 w5 oB hg5 _ _) | (have chk := ho1; go_simp; go_at_call 55; refine (HP2.out _ (by first | exact hB3)).mono ?_; rintro e w2 ⟨v2, rfl, ho2, hb2⟩; obtain ⟨o2, c2, rfl⟩ := shapeP ho2; obtain ⟨g2, rfl⟩ := own_at ho2 hpos; have ho1b := owns_below ho1 hb2; have hB4 := bel0 hB3 hb2; have hs2 := hB4.size; obtain ⟨y0, y1, y2, y3, y4, y5, y6⟩ := HX.out w2 (bel0 hXb hb2)) | (go_simp; go_at_call 55; refine (HP1.out _ (by first | exact hB1d | exact hB1)).mono ?_; rintro e w1 ⟨v1, rfl, ho1, hb1⟩; have hB3 := (by first | exact bel0 hB1d hb1 | exact bel0 hB1 hb1 : Below w.heap.size w w1); have hXb := (by first | exact bel0 (Below.refl _ _).drew hb1 | exact hb1 : Below (w.alloc O).heap.size (w.alloc O) w1); obtain ⟨x0, x1, x2, x3, x4, x5, x6⟩ := HX.out w1 hXb; have ho1 := Tn.own_base ho1 (show w.heap.size ≤ _ from (by first | exact hB1d.size | exact hB1.size)); obtain ⟨o1, c1, rfl⟩ := shapeP ho1) | (go_simp; go_at_call 53; refine (HG.out _).mono ?_; rintro e wg ⟨rfl, rfl⟩)))
    all_goals
      go_wp2_with fail
      go_ret
      exact ⟨_, rfl, by rw [List.length_append, stx, List.map_append]; exact oB, Below.grown hB4 hg5 hs2 (fun k e => (ho1b.lt k e).1)⟩
end Go.Proofs.YtnboehlbcjfndaaGreatDoor
