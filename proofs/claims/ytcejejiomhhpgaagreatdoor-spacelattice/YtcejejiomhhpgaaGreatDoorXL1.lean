import Derived.Test.YtcejejiomhhpgaaGreatDoorXBY
import Derived.Test.YtcejejiomhhpgaaGreatDoorXBM
import Derived.Test.YtcejejiomhhpgaaGreatDoorXBN
import Derived.Test.YtcejejiomhhpgaaGreatDoorXBR
import Derived.Test.YtcejejiomhhpgaaGreatDoorXBK
namespace Go.Proofs.YtcejejiomhhpgaaGreatDoor
open Go.RowKit Go.Shelf
theorem pr_fo (b : Int) (l : List UInt8) : FO (prT b l) := by
  have hA : FA (prT b l) := fun t ht => by
    obtain ⟨h0, h1, h2, -, -⟩ := prT_ft b l t ht
    refine ⟨h0, fun e => ?_⟩
    rw [e] at h1
    simp at h1
    omega
  refine ⟨hA, ?_⟩
  have h := prT_fix b l
  rw [stl_id _ (fun t ht => (hA t ht).1)] at h
  exact h
def GS (b : Int) (X : (List (List UInt8 × List (List UInt8)))) : Prop := FO X ∧ szC X ≤ 128 ∧ ∀ t ∈ X, (t.1.length : Int) = b ∧ 1 ≤ b ∧ b ≤ 256
theorem GS.gd {b : Int} {X : (List (List UInt8 × List (List UInt8)))} (h : GS b X) : gdC X := FA_gdC h.1.1
theorem GS.wf {b : Int} {X : (List (List UInt8 × List (List UInt8)))} (h : GS b X) : WFS b X := ⟨by rw [stl_id _ (fun t ht => (h.1.1 t ht).1)]; exact h.1.2, fun t ht => ⟨(h.2.2 t ht).1, (h.2.2 t ht).2.1, (h.2.2 t ht).2.2, (h.1.1 t ht).1.gc⟩⟩
theorem gs_pr (b : Int) (l : List UInt8) : GS (prB b l) (prT b l) := ⟨pr_fo b l, (prT_ok b l).2, fun t ht => by
  obtain ⟨-, h1, h2, h3, h4⟩ := prT_ft b l t ht
  have e : prB b l = b := by unfold prB; rw [if_pos h4]
  rw [e]
  exact ⟨h1, h2, h3⟩⟩
theorem gs_nil : GS 0 [] := ⟨⟨fun t h => (by cases h), (ordT_perm []).eq_nil⟩, Nat.zero_le _, fun t h => by cases h⟩
theorem jn0 {b1 b2 : Int} {A C : (List (List UInt8 × List (List UInt8)))} (h : jnE b1 b2 A C = 0) : b2 = b1 ∧ szC (topC (A ++ C)) ≤ 128 := by
  unfold jnE at h
  split at h
  · cases h
  · rename_i h1
    simp at h1
    split at h
    · rename_i h2
      exact ⟨h1.2.symm, h2⟩
    · cases h
theorem mn0 {b1 b2 : Int} {A C : (List (List UInt8 × List (List UInt8)))} (h : mnE b1 b2 A C = 0) : b2 = b1 ∧ szC (topC (stl (cmN A C))) ≤ 128 := by
  unfold mnE at h
  split at h
  · cases h
  · rename_i h1
    simp at h1
    split at h
    · cases h
    · split at h
      · rename_i h2
        exact ⟨h1.2.symm, h2⟩
      · cases h
theorem gs_jn {b1 b2 : Int} {A C : (List (List UInt8 × List (List UInt8)))} (h1 : GS b1 A) (h2 : GS b2 C) : GS (jnB b1 b2 A C) (jnT b1 b2 A C) := by
  unfold jnB jnT
  by_cases h0 : jnE b1 b2 A C = 0
  · rw [if_pos h0, if_pos h0]
    obtain ⟨rfl, hs⟩ := jn0 h0
    refine ⟨jnF_fo h1.1.1 h2.1.1, by rw [szC_ord]; exact hs, fun t ht => ?_⟩
    have := topC_sub ((ord_mem (FA_top (FA_app h1.1.1 h2.1.1)) t).1 ht)
    exact (List.mem_append.1 this).elim (h1.2.2 t) (h2.2.2 t)
  · rw [if_neg h0, if_neg h0]
    exact gs_nil
theorem gs_mn {b1 b2 : Int} {A C : (List (List UInt8 × List (List UInt8)))} (h1 : GS b1 A) (h2 : GS b2 C) : GS (mnB b1 b2 A C) (mnT b1 b2 A C) := by
  unfold mnB mnT
  by_cases h0 : mnE b1 b2 A C = 0
  · rw [if_pos h0, if_pos h0]
    obtain ⟨rfl, hs⟩ := mn0 h0
    refine ⟨mnF_fo h1.1.1 h2.1.1, by rw [szC_ord]; exact hs, fun t ht => ?_⟩
    have e : ordT (topC (stl (cmN A C))) = ordT (topC (stD (cmN A C))) := mnF_std h1.1.1 h2.1.1
    rw [e] at ht
    have h9 := topC_sub ((ord_mem (FA_top (cm_fa h1.1.1 h2.1.1)) t).1 ht)
    unfold stD at h9
    obtain ⟨u, hu, hm⟩ := List.mem_filterMap.1 h9
    have et : t.1 = u.1 := by
      cases hO : setO u.1 u.2 with
      | none => rw [hO] at hm; cases hm
      | some R => rw [hO] at hm; rw [← Option.some.inj hm]
    unfold cmN at hu
    obtain ⟨a, ha, hu⟩ := List.mem_flatMap.1 hu
    obtain ⟨c, hc, he⟩ := List.mem_filterMap.1 hu
    split at he
    · rename_i hq
      obtain rfl := Option.some.inj he
      rw [et]
      have hl : (mtT a.1 c.1).length = a.1.length := by
        unfold mtT
        rw [if_pos hq]
        exact meetT_len _ _ (fitB_len (agB_fit hq))
      show ((mtT a.1 c.1).length : Int) = _ ∧ _
      rw [hl]
      exact h1.2.2 a ha
    · cases he
  · rw [if_neg h0, if_neg h0]
    exact gs_nil
def JR (b1 b2 : Int) (A C : (List (List UInt8 × List (List UInt8)))) (B E : Int) (X : (List (List UInt8 × List (List UInt8)))) : Prop := GS B X ∧ E = jnE b1 b2 A C ∧ (E = 0 → B = b1 ∧ b2 = b1 ∧ X = jnF A C)
def MR (b1 b2 : Int) (A C : (List (List UInt8 × List (List UInt8)))) (B E : Int) (X : (List (List UInt8 × List (List UInt8)))) : Prop := GS B X ∧ E = mnE b1 b2 A C ∧ (E = 0 → B = b1 ∧ b2 = b1 ∧ X = mnF A C)
theorem jn_jr {b1 b2 : Int} {A C : (List (List UInt8 × List (List UInt8)))} (h1 : GS b1 A) (h2 : GS b2 C) : JR b1 b2 A C (jnB b1 b2 A C) (jnE b1 b2 A C) (jnT b1 b2 A C) := ⟨gs_jn h1 h2, rfl, fun h0 => ⟨by unfold jnB; rw [if_pos h0], (jn0 h0).1, by unfold jnT; rw [if_pos h0]; rfl⟩⟩
theorem mn_mr {b1 b2 : Int} {A C : (List (List UInt8 × List (List UInt8)))} (h1 : GS b1 A) (h2 : GS b2 C) : MR b1 b2 A C (mnB b1 b2 A C) (mnE b1 b2 A C) (mnT b1 b2 A C) := ⟨gs_mn h1 h2, rfl, fun h0 => ⟨by unfold mnB; rw [if_pos h0], (mn0 h0).1, by unfold mnT; rw [if_pos h0]; rfl⟩⟩
theorem jnE_comm {b : Int} {A C : (List (List UInt8 × List (List UInt8)))} (h1 : GS b A) (h2 : GS b C) : jnE b b A C = jnE b b C A := by
  have e : szC (topC (A ++ C)) = szC (topC (C ++ A)) := by
    have h : szC (jnF A C) = szC (jnF C A) := by rw [jn_comm h1.1 h2.1]
    unfold jnF at h
    rw [szC_ord, szC_ord] at h
    exact h
  unfold jnE
  rw [e]
theorem mnE_comm {b : Int} {A C : (List (List UInt8 × List (List UInt8)))} (h1 : GS b A) (h2 : GS b C) : mnE b b A C = mnE b b C A := by
  have e : szC (topC (stl (cmN A C))) = szC (topC (stl (cmN C A))) := by
    have h : szC (mnF A C) = szC (mnF C A) := by rw [mn_comm h1.1 h2.1]
    unfold mnF at h
    rw [szC_ord, szC_ord] at h
    exact h
  unfold mnE
  rw [e, Nat.mul_comm]
theorem jnE_self {b : Int} {A : (List (List UInt8 × List (List UInt8)))} (hb : 1 ≤ b) (h1 : GS b A) : jnE b b A A = 0 := by
  have e : szC (topC (A ++ A)) = szC A := by
    have h : szC (jnF A A) = szC A := by rw [jn_idem h1.1]
    unfold jnF at h
    rw [szC_ord] at h
    exact h
  unfold jnE
  have h0 : (b == 0) = false := by rw [beq_eq_false_iff_ne]; omega
  rw [if_neg (by rw [h0]; simp), if_pos (by rw [e]; exact h1.2.1)]
theorem mnE_self {b : Int} {A : (List (List UInt8 × List (List UInt8)))} (hb : 1 ≤ b) (h1 : GS b A) (hl : A.length ≤ 45) : mnE b b A A = 0 := by
  have e : szC (topC (stl (cmN A A))) = szC A := by
    have h : szC (mnF A A) = szC A := by rw [mn_idem h1.1]
    unfold mnF at h
    rw [szC_ord] at h
    exact h
  unfold mnE
  have h0 : (b == 0) = false := by rw [beq_eq_false_iff_ne]; omega
  have h2 : A.length * A.length ≤ 45 * 45 := Nat.mul_le_mul hl hl
  rw [if_neg (by rw [h0]; simp), if_neg (by omega), if_pos (by rw [e]; exact h1.2.1)]
theorem prts_two {s : UInt8} : ∀ (m : Nat) (r : List UInt8), r.length ≤ m → (∀ t ∈ prts s r, t ≠ []) → 2 * (prts s r).length ≤ r.length + 1
  | 0, r, hr, h => by
    obtain rfl := List.eq_nil_of_length_eq_zero (Nat.le_zero.1 hr)
    rw [prts_no (by simp)] at h
    exact absurd rfl (h [] (List.mem_cons_self))
  | m + 1, r, hr, h => by
    rcases first_of (s := s) r with hn | ⟨c, t, rfl, hc⟩
    · rw [prts_no hn] at h ⊢
      have h1 := h r List.mem_cons_self
      cases r with
      | nil => exact absurd rfl h1
      | cons x r => simp
    · rw [prts_mid hc] at h ⊢
      have h1 := h c List.mem_cons_self
      have h2 : 1 ≤ c.length := by
        cases c with
        | nil => exact absurd rfl h1
        | cons x r => simp
      simp only [List.length_append, List.length_cons] at hr ⊢
      have h3 := prts_two m t (by omega) (fun x hx => h x (List.mem_cons_of_mem _ hx))
      omega
theorem topCS_len (T : (List (List UInt8 × List (List UInt8)))) (x : List UInt8 × List (List UInt8)) : (topCS T x).length ≤ T.length + 1 := by
  unfold topCS
  split
  · omega
  · rw [List.length_append]
    have := List.length_filter_le (fun y => !cvC y x) T
    simp
    omega
theorem topC_len : ∀ (L T : (List (List UInt8 × List (List UInt8)))), (L.foldl topCS T).length ≤ T.length + L.length
  | [], T => by simp
  | a :: l, T => by
    have h1 := topC_len l (topCS T a)
    have h2 := topCS_len T a
    simp only [List.foldl_cons, List.length_cons]
    omega
theorem prT_few {b : Int} {l : List UInt8} (hl : l.length < 64) : (prT b l).length ≤ 45 := by
  unfold prT
  split
  · rename_i h0
    obtain ⟨h1, h2, h3⟩ := prE_zero h0
    split
    · simp
    · rename_i hne
      have h4 := h3.resolve_left hne
      have hnn : ∀ t ∈ prts 43 l, t ≠ [] := fun t ht e => by
        have h5 := List.all_eq_true.1 h4 t ht
        rw [e] at h5
        unfold okT at h5
        rw [prts_no (by simp)] at h5
        simp [okP] at h5
        omega
      have h6 := prts_two l.length l (Nat.le_refl _) hnn
      have e1 : (ordT (topC (stl ((prts 43 l).map tcon)))).length = (topC (stl ((prts 43 l).map tcon))).length := by rw [(ordT_perm _).length_eq, List.length_map]
      have e2 : (topC (stl ((prts 43 l).map tcon))).length ≤ 0 + (stl ((prts 43 l).map tcon)).length := topC_len _ _
      have e3 : (stl ((prts 43 l).map tcon)).length ≤ ((prts 43 l).map tcon).length := List.length_filterMap_le _ _
      rw [List.length_map] at e3
      rw [e1]
      omega
  · simp
/-- a block that holds a space -/
def BX (W : World) (g : Nat) (B : Int) (p : Option Addr) (n c : Nat) (X : (List (List UInt8 × List (List UInt8)))) : Prop := W.heap[g]? = some (.cells #[.int .i64 B, .slice p n c, .bool false] 26 (0, 0)) ∧ SPL W 0 (.slice p n c) X ∧ GS B X
theorem BX.later {W W2 : World} {g : Nat} {B : Int} {p : Option Addr} {n c : Nat} {X : (List (List UInt8 × List (List UInt8)))} (h : BX W g B p n c X) (hb : Below W.heap.size W W2) : BX W2 g B p n c X := ⟨keepblk3 hb h.1, h.2.1.below hb, h.2.2⟩
theorem BX.cells {W : World} {g : Nat} {B : Int} {p : Option Addr} {n c : Nat} {X : (List (List UInt8 × List (List UInt8)))} (h : BX W g B p n c X) : ∀ j, W.cell? ⟨g, j, none⟩ = (#[.int .i64 B, .slice p n c, .bool false] : Array Value)[j]? := (cells_block h.1).1
theorem BX.froz {W : World} {g : Nat} {B : Int} {p : Option Addr} {n c : Nat} {X : (List (List UInt8 × List (List UInt8)))} (h : BX W g B p n c X) : ∀ j, W.frozen? ⟨g, j, none⟩ = false := (cells_block h.1).2
theorem BX.new {W : World} {B : Int} {p : Option Addr} {n c : Nat} {X : (List (List UInt8 × List (List UInt8)))} (h : SPL W 0 (.slice p n c) X) (hg : GS B X) : BX (W.alloc (.cells #[.int .i64 B, .slice p n c, .bool false] 26 (0, 0))) W.heap.size B p n c X := ⟨alloc_get _ _, h.below (belA (Below.refl _ _) _), hg⟩
theorem BX.lt {W : World} {g : Nat} {B : Int} {p : Option Addr} {n c : Nat} {X : (List (List UInt8 × List (List UInt8)))} (h : BX W g B p n c X) : g < W.heap.size := lt_of_get3 h.1
theorem notS {W : World} {B g n : Nat} {e e2 : TypeId} {sz : Nat} {v : Value} {xs : List Value} {cs : Array Value} {m : Nat × Nat} (h : W.ownsRow B e sz v n xs) (hk : W.heap[g]? = some (.cells cs e2 m)) (hne : e ≠ e2) : v.ownBlock ≠ some g := by
  intro hb
  rcases h.2 with ⟨rfl, _⟩ | ⟨g2, c2, cur2, rfl, _, hg2, _⟩
  · cases hb
  · have : g2 = g := by injection hb
    subst this
    rw [hk] at hg2
    injection hg2 with h
    injection h with _ h _
    exact hne h.symm
theorem SPL.put3 {W : World} {B b : Nat} {V : Value} {Ts : (List (List UInt8 × List (List UInt8)))} {cs : Array Value} {m : Nat × Nat} (h : SPL W B V Ts) (hb : W.heap[b]? = some (.cells cs 26 m)) (v0 v1 v2 : Value) : SPL (((W.setCell ⟨b, 0, none⟩ v0).setCell ⟨b, 1, none⟩ v1).setCell ⟨b, 2, none⟩ v2) B V Ts := by
  obtain ⟨Z, h1, h2, h3⟩ := h
  exact ⟨Z, h1, h2.kept (gr3 _ _ _ _ _) (.inr (notS h2 hb (by decide))), fun z hz => (h3 z hz).kept (gr3 _ _ _ _ _) (.inr (notS (h3 z hz) hb (by decide)))⟩
theorem BX.put {W : World} {g : Nat} {B0 B : Int} {p0 p : Option Addr} {n0 c0 n c : Nat} {X0 X : (List (List UInt8 × List (List UInt8)))} (h : BX W g B0 p0 n0 c0 X0) (hs : SPL W 0 (.slice p n c) X) (hg : GS B X) : BX (((W.setCell ⟨g, 0, none⟩ (.int .i64 B)).setCell ⟨g, 1, none⟩ (.slice p n c)).setCell ⟨g, 2, none⟩ (.bool false)) g B p n c X := ⟨put3_get _ _ _ h.1, hs.put3 h.1 _ _ _, hg⟩
theorem BX.keep {W : World} {g g2 : Nat} {B0 B B2 : Int} {p0 p p2 : Option Addr} {n0 c0 n c n2 c2 : Nat} {X0 X2 : (List (List UInt8 × List (List UInt8)))} (h2 : BX W g2 B2 p2 n2 c2 X2) (h : BX W g B0 p0 n0 c0 X0) (hne : g2 ≠ g) : BX (((W.setCell ⟨g, 0, none⟩ (.int .i64 B)).setCell ⟨g, 1, none⟩ (.slice p n c)).setCell ⟨g, 2, none⟩ (.bool false)) g2 B2 p2 n2 c2 X2 := by
  refine ⟨?_, h2.2.1.put3 h.1 _ _ _, h2.2.2⟩
  rw [far3h _ _ _ hne]
  exact h2.1
theorem opJ {W : World} {g1 g2 : Nat} {b1 b2 : Int} {p1 p2 : Option Addr} {n1 c1 n2 c2 : Nat} {A C : (List (List UInt8 × List (List UInt8)))} (x1 : BX W g1 b1 p1 n1 c1 A) (x2 : BX W g2 b2 p2 n2 c2 C) : Calls Tryz.prog 15 #[.agg #[.int .i64 b1, .slice p1 n1 c1, .bool false], .agg #[.int .i64 b2, .slice p2 n2 c2, .bool false]] W fun e w' => ∃ B E X p n c, e = .returned (.tuple #[.agg #[.int .i64 B, .slice p n c, .bool false], .int .i64 E]) ∧ JR b1 b2 A C B E X ∧ SPL w' 0 (.slice p n c) X ∧ Below W.heap.size W w' := by
  refine (sJoin_any b1 b2 A C 0 0 _ _ W x1.2.1 x2.2.1 x1.2.2.2.1 x2.2.2.2.1 x1.2.2.gd x2.2.2.gd).mono ?_
  rintro e w' ⟨V, e1, e2, e3⟩
  obtain ⟨p, c, rfl⟩ := e2.shape
  exact ⟨_, _, _, p, _, c, e1, jn_jr x1.2.2 x2.2.2, e2.base (Nat.zero_le _), e3⟩
theorem opM {W : World} {g1 g2 : Nat} {b1 b2 : Int} {p1 p2 : Option Addr} {n1 c1 n2 c2 : Nat} {A C : (List (List UInt8 × List (List UInt8)))} (x1 : BX W g1 b1 p1 n1 c1 A) (x2 : BX W g2 b2 p2 n2 c2 C) : Calls Tryz.prog 16 #[.agg #[.int .i64 b1, .slice p1 n1 c1, .bool false], .agg #[.int .i64 b2, .slice p2 n2 c2, .bool false]] W fun e w' => ∃ B E X p n c, e = .returned (.tuple #[.agg #[.int .i64 B, .slice p n c, .bool false], .int .i64 E]) ∧ MR b1 b2 A C B E X ∧ SPL w' 0 (.slice p n c) X ∧ Below W.heap.size W w' := by
  refine (sMeet_any b1 b2 A C 0 0 _ _ W x1.2.1 x2.2.1 x1.2.2.2.1 x2.2.2.2.1 x1.2.2.gd x2.2.2.gd x1.2.2.wf x2.2.2.wf).mono ?_
  rintro e w' ⟨V, e1, e2, e3⟩
  obtain ⟨p, c, rfl⟩ := e2.shape
  exact ⟨_, _, _, p, _, c, e1, mn_mr x1.2.2 x2.2.2, e2.base (Nat.zero_le _), e3⟩
end Go.Proofs.YtcejejiomhhpgaaGreatDoor
namespace Go.Proofs.YtcejejiomhhpgaaGreatDoor
open Go.RowKit Go.Shelf
set_option maxRecDepth 100000 in
set_option maxHeartbeats 4000000 in
theorem alike_any {W1 : World} {g1 g2 : Nat} {b1 b2 : Int} {p1 p2 : Option Addr} {n1 c1 n2 c2 : Nat} {A C : (List (List UInt8 × List (List UInt8)))} (x1 : BX W1 g1 b1 p1 n1 c1 A) (x2 : BX W1 g2 b2 p2 n2 c2 C) (E F : Int) (h : E = 0 → F = 0 → b1 = b2 ∧ A = C) : Calls Tryz.prog 18 #[.agg #[.int .i64 b1, .slice p1 n1 c1, .bool false], .int .i64 E, .agg #[.int .i64 b2, .slice p2 n2 c2, .bool false], .int .i64 F] W1 fun e w' => e = .returned (.bool true) ∧ Below W1.heap.size W1 w' := by
  obtain ⟨-, s1, gs1⟩ := x1
  obtain ⟨-, s2, gs2⟩ := x2
  have t1 := gs1.gd
  have t2 := gs2.gd
  have z1 := gs1.2.1
  have z2 := gs2.2.1
  clear gs1 gs2
  obtain ⟨w, hw⟩ : ∃ w, W1 = w := ⟨_, rfl⟩
  rw [hw] at s1 s2 ⊢
  obtain ⟨w0, hw0⟩ : ∃ w0, (w.alloc (.cells #[.int .i64 b1, .slice p1 n1 c1, .bool false] 26 (0, 0))).alloc (.cells #[.int .i64 b2, .slice p2 n2 c2, .bool false] 26 (0, 0)) = w0 := ⟨_, rfl⟩
  have ha : w0.heap[w.heap.size]? = some (.cells #[.int .i64 b1, .slice p1 n1 c1, .bool false] 26 (0, 0)) := by rw [← hw0]; exact alw_0 _ _ _
  have hb : w0.heap[w.heap.size + 1]? = some (.cells #[.int .i64 b2, .slice p2 n2 c2, .bool false] 26 (0, 0)) := by rw [← hw0]; exact alw_1 _ _ _
  have hB0 : Below w.heap.size w w0 := by rw [← hw0]; exact belA (belA (Below.refl _ _) _) _
  have HS1 : Hid (∀ W, Below w0.heap.size w0 W → Calls Tryz.prog 14 #[.agg #[.int .i64 b1, .slice p1 n1 c1, .bool false]] W fun e w' => e = .returned (.int .i64 (szC A : Int)) ∧ Below W.heap.size W w') := fun W hW => spSize_any b1 _ A 0 W (s1.below (bel0 hB0 hW)) z1
  have HS2 : Hid (∀ W, Below w0.heap.size w0 W → Calls Tryz.prog 14 #[.agg #[.int .i64 b2, .slice p2 n2 c2, .bool false]] W fun e w' => e = .returned (.int .i64 (szC C : Int)) ∧ Below W.heap.size W w') := fun W hW => spSize_any b2 _ C 0 W (s2.below (bel0 hB0 hW)) z2
  have HT1 : Hid (∀ W, Below w0.heap.size w0 W → Calls Tryz.prog 8 #[.agg #[.int .i64 b1, .slice p1 n1 c1, .bool false]] W fun e w' => e = .returned (.string ⟨(txC A).toArray⟩) ∧ Below W.heap.size W w') := fun W hW => spText_any b1 _ A 0 W (s1.below (bel0 hB0 hW)) z1 t1
  have HT2 : Hid (∀ W, Below w0.heap.size w0 W → Calls Tryz.prog 8 #[.agg #[.int .i64 b2, .slice p2 n2 c2, .bool false]] W fun e w' => e = .returned (.string ⟨(txC C).toArray⟩) ∧ Below W.heap.size W w') := fun W hW => spText_any b2 _ C 0 W (s2.below (bel0 hB0 hW)) z2 t2
  have HX : Hid (∀ W, Below w0.heap.size w0 W → W.cell? ⟨w.heap.size, 0, none⟩ = some (.int .i64 b1) ∧ W.cell? ⟨w.heap.size, 1, none⟩ = some (.slice p1 n1 c1) ∧ W.cell? ⟨w.heap.size, 2, none⟩ = some (.bool false) ∧ W.cell? ⟨w.heap.size + 1, 0, none⟩ = some (.int .i64 b2) ∧ W.cell? ⟨w.heap.size + 1, 1, none⟩ = some (.slice p2 n2 c2) ∧ W.cell? ⟨w.heap.size + 1, 2, none⟩ = some (.bool false)) := fun W hW => by
    obtain ⟨k1, -⟩ := cells_block (keepblk3 hW ha)
    obtain ⟨k2, -⟩ := cells_block (keepblk3 hW hb)
    exact ⟨k1 0, k1 1, k1 2, k2 0, k2 1, k2 2⟩
  clear ha hb s1 s2 t1 t2 z1 z2 hw
  have HH : Hid (E = 0 → F = 0 → b1 = b2 ∧ A = C) := h
  clear h
  go_enter Tryz.func18, Tryz.ntmps18
  go_wp2_with fail
  clear hw0
  by_cases hE : E = 0
  · subst hE
    by_cases hF : F = 0
    · subst hF
      obtain ⟨rfl, rfl⟩ := HH.out rfl rfl
      clear HH
      refine quiet_lit3 (C := fun W => Below w0.heap.size w0 W) (by kernel_rfl) (by kernel_rfl) (show Below _ _ _ from (Below.refl _ _).drew) ?_
      go_big_quiet_want
      go_big_quiet_op
      go_big_quiet_on
      go_big_quiet_want
      refine ⟨.bool false, fun W hW => ?_, ?_⟩
      · go_simp
      go_big_quiet_on
      simp only [Act.put, List.setIfInBounds_toArray, List.set_cons_zero, List.set_cons_succ]
      go_big_quiet_want
      go_big_quiet_op
      go_big_quiet_on
      go_big_quiet_want
      go_big_quiet_op
      go_big_quiet_on
      go_big_quiet_want
      refine ⟨.bool false, fun W hW => ?_, ?_⟩
      · go_simp
      go_big_quiet_on
      simp only [Act.put, List.setIfInBounds_toArray, List.set_cons_zero, List.set_cons_succ]
      go_big_quiet_want
      refine ⟨.bool false, fun W hW => ?_, ?_⟩
      · go_simp
      go_big_quiet_on
      simp only [Act.put, List.setIfInBounds_toArray, List.set_cons_zero, List.set_cons_succ]
      go_big_quiet_want
      go_big_quiet_op
      go_big_quiet_on
      go_big_quiet_want
      refine ⟨.agg #[.int .i64 b1, .slice p1 n1 c1, .bool false], fun W hW => ?_, ?_⟩
      · obtain ⟨x0, x1, x2, y0, y1, y2⟩ := HX.out W hW
        go_simp
      go_big_quiet_on
      simp only [Act.put, List.setIfInBounds_toArray, List.set_cons_zero, List.set_cons_succ]
      go_big_quiet_want
      refine ⟨.string ⟨(txC A).toArray⟩, fun W hW => ?_, ?_⟩
      · go_simp
        refine (HT1.out W hW).mono ?_
        rintro e w7 ⟨rfl, hb⟩
        exact ⟨rfl, bel0 hW hb⟩
      go_big_quiet_on
      simp only [Act.put, List.setIfInBounds_toArray, List.set_cons_zero, List.set_cons_succ]
      go_big_quiet_want
      refine ⟨.agg #[.int .i64 b1, .slice p2 n2 c2, .bool false], fun W hW => ?_, ?_⟩
      · obtain ⟨x0, x1, x2, y0, y1, y2⟩ := HX.out W hW
        go_simp
      go_big_quiet_on
      simp only [Act.put, List.setIfInBounds_toArray, List.set_cons_zero, List.set_cons_succ]
      go_big_quiet_want
      refine ⟨.string ⟨(txC A).toArray⟩, fun W hW => ?_, ?_⟩
      · go_simp
        refine (HT2.out W hW).mono ?_
        rintro e w7 ⟨rfl, hb⟩
        exact ⟨rfl, bel0 hW hb⟩
      go_big_quiet_on
      simp only [Act.put, List.setIfInBounds_toArray, List.set_cons_zero, List.set_cons_succ]
      go_big_quiet_want
      refine ⟨.bool true, fun W hW => ?_, ?_⟩
      · go_simp
      go_big_quiet_on
      simp only [Act.put, List.setIfInBounds_toArray, List.set_cons_zero, List.set_cons_succ]
      go_big_quiet_want
      go_big_quiet_op
      go_big_quiet_on
      go_big_quiet_want
      refine ⟨.agg #[.int .i64 b1, .slice p1 n1 c1, .bool false], fun W hW => ?_, ?_⟩
      · obtain ⟨x0, x1, x2, y0, y1, y2⟩ := HX.out W hW
        go_simp
      go_big_quiet_on
      simp only [Act.put, List.setIfInBounds_toArray, List.set_cons_zero, List.set_cons_succ]
      go_big_quiet_want
      refine ⟨.int .i64 b1, fun W hW => ?_, ?_⟩
      · go_simp
        refine (bits_any b1 p1 n1 c1 W).mono ?_
        rintro e w7 ⟨rfl, hb⟩
        exact ⟨rfl, bel0 hW hb⟩
      go_big_quiet_on
      simp only [Act.put, List.setIfInBounds_toArray, List.set_cons_zero, List.set_cons_succ]
      go_big_quiet_want
      refine ⟨.agg #[.int .i64 b1, .slice p2 n2 c2, .bool false], fun W hW => ?_, ?_⟩
      · obtain ⟨x0, x1, x2, y0, y1, y2⟩ := HX.out W hW
        go_simp
      go_big_quiet_on
      simp only [Act.put, List.setIfInBounds_toArray, List.set_cons_zero, List.set_cons_succ]
      go_big_quiet_want
      refine ⟨.int .i64 b1, fun W hW => ?_, ?_⟩
      · go_simp
        refine (bits_any b1 p2 n2 c2 W).mono ?_
        rintro e w7 ⟨rfl, hb⟩
        exact ⟨rfl, bel0 hW hb⟩
      go_big_quiet_on
      simp only [Act.put, List.setIfInBounds_toArray, List.set_cons_zero, List.set_cons_succ]
      go_big_quiet_want
      refine ⟨.bool true, fun W hW => ?_, ?_⟩
      · go_simp
      go_big_quiet_on
      simp only [Act.put, List.setIfInBounds_toArray, List.set_cons_zero, List.set_cons_succ]
      go_big_quiet_want
      refine ⟨.bool true, fun W hW => ?_, ?_⟩
      · go_simp
      go_big_quiet_on
      simp only [Act.put, List.setIfInBounds_toArray, List.set_cons_zero, List.set_cons_succ]
      go_big_quiet_want
      go_big_quiet_op
      go_big_quiet_on
      go_big_quiet_want
      refine ⟨.agg #[.int .i64 b1, .slice p1 n1 c1, .bool false], fun W hW => ?_, ?_⟩
      · obtain ⟨x0, x1, x2, y0, y1, y2⟩ := HX.out W hW
        go_simp
      go_big_quiet_on
      simp only [Act.put, List.setIfInBounds_toArray, List.set_cons_zero, List.set_cons_succ]
      go_big_quiet_want
      refine ⟨.int .i64 (szC A : Int), fun W hW => ?_, ?_⟩
      · go_simp
        refine (HS1.out W hW).mono ?_
        rintro e w7 ⟨rfl, hb⟩
        exact ⟨rfl, bel0 hW hb⟩
      go_big_quiet_on
      simp only [Act.put, List.setIfInBounds_toArray, List.set_cons_zero, List.set_cons_succ]
      go_big_quiet_want
      refine ⟨.agg #[.int .i64 b1, .slice p2 n2 c2, .bool false], fun W hW => ?_, ?_⟩
      · obtain ⟨x0, x1, x2, y0, y1, y2⟩ := HX.out W hW
        go_simp
      go_big_quiet_on
      simp only [Act.put, List.setIfInBounds_toArray, List.set_cons_zero, List.set_cons_succ]
      go_big_quiet_want
      refine ⟨.int .i64 (szC A : Int), fun W hW => ?_, ?_⟩
      · go_simp
        refine (HS2.out W hW).mono ?_
        rintro e w7 ⟨rfl, hb⟩
        exact ⟨rfl, bel0 hW hb⟩
      go_big_quiet_on
      simp only [Act.put, List.setIfInBounds_toArray, List.set_cons_zero, List.set_cons_succ]
      go_big_quiet_want
      refine ⟨.bool true, fun W hW => ?_, ?_⟩
      · go_simp
      go_big_quiet_on
      simp only [Act.put, List.setIfInBounds_toArray, List.set_cons_zero, List.set_cons_succ]
      go_big_quiet_want
      refine ⟨.bool true, fun W hW => ?_, ?_⟩
      · go_simp
      go_big_quiet_on
      simp only [Act.put, List.setIfInBounds_toArray, List.set_cons_zero, List.set_cons_succ]
      go_big_quiet_want
      refine ⟨.bool true, fun W hW => ?_, ?_⟩
      · go_simp
      go_big_quiet_on
      simp only [Act.put, List.setIfInBounds_toArray, List.set_cons_zero, List.set_cons_succ]
      go_big_quiet_want
      go_big_quiet_op
      go_big_quiet_on
      refine wpQuiet_nil ?_
      intro W hW
      go_wp2_with fail
      go_ret
      exact ⟨rfl, bel0 hB0 hW⟩
    · have e0 : (F != 0) = true := by simpa using hF
      clear hF HH HX HS1 HS2 HT1 HT2
      refine quiet_lit3 (C := fun W => Below w0.heap.size w0 W) (by kernel_rfl) (by kernel_rfl) (show Below _ _ _ from (Below.refl _ _).drew) ?_
      go_big_quiet_want
      go_big_quiet_op
      go_big_quiet_on
      go_big_quiet_want
      refine ⟨.bool false, fun W hW => ?_, ?_⟩
      · go_simp
      go_big_quiet_on
      simp only [Act.put, List.setIfInBounds_toArray, List.set_cons_zero, List.set_cons_succ]
      go_big_quiet_want
      go_big_quiet_op
      go_big_quiet_on
      go_big_quiet_want
      go_big_quiet_op
      go_big_quiet_on
      go_big_quiet_want
      refine ⟨.bool true, fun W hW => ?_, ?_⟩
      · go_simp
      go_big_quiet_on
      simp only [Act.put, List.setIfInBounds_toArray, List.set_cons_zero, List.set_cons_succ]
      go_big_quiet_want
      refine ⟨.bool true, fun W hW => ?_, ?_⟩
      · go_simp
      go_big_quiet_on
      simp only [Act.put, List.setIfInBounds_toArray, List.set_cons_zero, List.set_cons_succ]
      go_big_quiet_want
      go_big_quiet_op
      go_big_quiet_on
      go_big_quiet_skip
      go_big_quiet_skip
      go_big_quiet_skip
      go_big_quiet_skip
      go_big_quiet_skip
      go_big_quiet_skip
      go_big_quiet_skip
      go_big_quiet_skip
      go_big_quiet_skip
      go_big_quiet_skip
      go_big_quiet_skip
      go_big_quiet_skip
      go_big_quiet_skip
      go_big_quiet_skip
      go_big_quiet_skip
      go_big_quiet_skip
      go_big_quiet_skip
      go_big_quiet_skip
      go_big_quiet_skip
      go_big_quiet_want
      refine ⟨.bool true, fun W hW => ?_, ?_⟩
      · go_simp
      go_big_quiet_on
      simp only [Act.put, List.setIfInBounds_toArray, List.set_cons_zero, List.set_cons_succ]
      go_big_quiet_want
      go_big_quiet_op
      go_big_quiet_on
      refine wpQuiet_nil ?_
      intro W hW
      go_wp2_with fail
      go_ret
      exact ⟨rfl, bel0 hB0 hW⟩
  · have e0 : (E != 0) = true := by simpa using hE
    clear hE HH HX HS1 HS2 HT1 HT2
    refine quiet_lit3 (C := fun W => Below w0.heap.size w0 W) (by kernel_rfl) (by kernel_rfl) (show Below _ _ _ from (Below.refl _ _).drew) ?_
    go_big_quiet_want
    go_big_quiet_op
    go_big_quiet_on
    go_big_quiet_want
    refine ⟨.bool true, fun W hW => ?_, ?_⟩
    · go_simp
    go_big_quiet_on
    simp only [Act.put, List.setIfInBounds_toArray, List.set_cons_zero, List.set_cons_succ]
    go_big_quiet_want
    go_big_quiet_op
    go_big_quiet_on
    go_big_quiet_skip
    go_big_quiet_skip
    go_big_quiet_want
    refine ⟨.bool true, fun W hW => ?_, ?_⟩
    · go_simp
    go_big_quiet_on
    simp only [Act.put, List.setIfInBounds_toArray, List.set_cons_zero, List.set_cons_succ]
    go_big_quiet_want
    go_big_quiet_op
    go_big_quiet_on
    go_big_quiet_skip
    go_big_quiet_skip
    go_big_quiet_skip
    go_big_quiet_skip
    go_big_quiet_skip
    go_big_quiet_skip
    go_big_quiet_skip
    go_big_quiet_skip
    go_big_quiet_skip
    go_big_quiet_skip
    go_big_quiet_skip
    go_big_quiet_skip
    go_big_quiet_skip
    go_big_quiet_skip
    go_big_quiet_skip
    go_big_quiet_skip
    go_big_quiet_skip
    go_big_quiet_skip
    go_big_quiet_skip
    go_big_quiet_want
    refine ⟨.bool true, fun W hW => ?_, ?_⟩
    · go_simp
    go_big_quiet_on
    simp only [Act.put, List.setIfInBounds_toArray, List.set_cons_zero, List.set_cons_succ]
    go_big_quiet_want
    go_big_quiet_op
    go_big_quiet_on
    refine wpQuiet_nil ?_
    intro W hW
    go_wp2_with fail
    go_ret
    exact ⟨rfl, bel0 hB0 hW⟩
end Go.Proofs.YtcejejiomhhpgaaGreatDoor
