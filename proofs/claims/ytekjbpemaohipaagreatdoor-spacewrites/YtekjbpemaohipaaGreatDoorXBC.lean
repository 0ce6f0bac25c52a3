import Derived.Test.YtekjbpemaohipaaGreatDoorXBA
import Derived.Test.YtekjbpemaohipaaGreatDoorXBB
import Derived.Test.YtekjbpemaohipaaGreatDoorXAY
import Derived.Test.YtekjbpemaohipaaGreatDoorXAC
namespace Go.Proofs.YtekjbpemaohipaaGreatDoor
open Go.RowKit Go.Shelf
/-- what each two terms have in common, not yet in its form -/
def cmN (A C : List (List UInt8 × List (List UInt8))) : List (List UInt8 × List (List UInt8)) := A.flatMap (fun a => C.filterMap (fun c => if agB a.1 c.1 = true then some (mtT a.1 c.1, a.2 ++ c.2) else none))
theorem cmN_step {A C : List (List UInt8 × List (List UInt8))} {i : Nat} {a : List UInt8 × List (List UInt8)} (h : A[i]? = some a) : cmN (A.take (i + 1)) C = cmN (A.take i) C ++ cmN [a] C := by
  unfold cmN
  rw [List.take_add_one, h, List.flatMap_append]
  rfl
theorem cmN_sing (a : List UInt8 × List (List UInt8)) (C : List (List UInt8 × List (List UInt8))) : cmN [a] C = C.filterMap (fun c => if agB a.1 c.1 = true then some (mtT a.1 c.1, a.2 ++ c.2) else none) := by
  unfold cmN
  rw [List.flatMap_cons, List.flatMap_nil, List.append_nil]
theorem cmN_one {C : List (List UInt8 × List (List UInt8))} {j : Nat} {a c : List UInt8 × List (List UInt8)} (h : C[j]? = some c) : cmN [a] (C.take (j + 1)) = cmN [a] (C.take j) ++ (if agB a.1 c.1 = true then [(mtT a.1 c.1, a.2 ++ c.2)] else []) := by
  rw [cmN_sing, cmN_sing, List.take_add_one, h, List.filterMap_append]
  congr 1
  by_cases hq : agB a.1 c.1 = true
  · simp [hq]
  · simp [hq]
theorem prT_fix (b : Int) (l : List UInt8) : ordT (topC (stl (prT b l))) = prT b l := by
  by_cases hX : prT b l = []
  · rw [hX]; simp [ordT, srtLn, topC, stl]
  · have h0 : prE b l = 0 := by
      by_cases h : prE b l = 0
      · exact h
      · exact absurd (by unfold prT; rw [if_neg h]) hX
    have hn : ¬ l = [110, 111, 110, 101] := fun hc => hX (by unfold prT; rw [if_pos h0, if_pos hc])
    have hT : prT b l = ordT (topC (stl ((prts 43 l).map tcon))) := by unfold prT; rw [if_pos h0, if_neg hn]
    rw [hT]
    exact form_id (gdC_tcon ((prE_zero h0).2.2.resolve_left hn))
theorem rep_get (n k : Nat) (hk : k < n) : (List.replicate n (120 : UInt8))[k]? = some 120 := by rw [List.getElem?_replicate, if_pos hk]
theorem rep_good (n : Nat) (hn : n ≤ 256) : good (List.replicate n 120) = true := by
  unfold good
  rw [Bool.and_eq_true, List.all_eq_true]
  refine ⟨by simpa using hn, fun x hx => ?_⟩
  rw [(List.mem_replicate.1 hx).2]
  rfl
theorem wi_rep {c : List UInt8} (h : c ≠ []) : wiB c (List.replicate c.length 120) = true := by
  unfold wiB
  rw [Bool.and_eq_true, allTo_iff]
  refine ⟨fit_of h (by simp), fun k hk => ?_⟩
  rw [rep_get _ _ hk, List.getElem?_eq_getElem hk]
  rfl
/-- all headers leave a cube as it is -/
theorem mt_rep {c : List UInt8} (h : c ≠ []) (gc : good c = true) : agB c (List.replicate c.length 120) = true ∧ mtT c (List.replicate c.length 120) = c := by
  have h1 := wi_eq c (List.replicate c.length 120) gc (rep_good _ (good_le gc))
  rw [wi_rep h] at h1
  obtain ⟨h2, h3⟩ := Bool.and_eq_true_iff.1 h1
  exact ⟨h2, by simpa using h3⟩
theorem mt_rep2 {c : List UInt8} (h : c ≠ []) : agB (List.replicate c.length 120) c = true ∧ mtT (List.replicate c.length 120) c = c := by
  have hf : fitB (List.replicate c.length 120) c = true := fit_of (by intro e; apply h; have := congrArg List.length e; simpa using this) (by simp)
  have ha : agB (List.replicate c.length 120) c = true := agB_all _ _ hf (fun k hk => by
    unfold cfl fx
    rw [rep_get _ _ (by simpa using hk)]
    simp)
  refine ⟨ha, ?_⟩
  unfold mtT
  rw [if_pos ha]
  apply List.ext_getElem?
  intro k
  by_cases hk : k < c.length
  · rw [meetT_get _ _ (by simp) k (by simpa using hk), List.getElem?_eq_getElem hk]
    simp
  · rw [List.getElem?_eq_none (by rw [meetT_len _ _ (by simp)]; simp; omega), List.getElem?_eq_none (by omega)]
theorem cm_all1 {C : List (List UInt8 × List (List UInt8))} {n : Nat} (h : ∀ t ∈ C, t.1.length = n ∧ t.1 ≠ []) : cmN [(List.replicate n 120, [])] C = C := by
  rw [cmN_sing]
  induction C with
  | nil => rfl
  | cons c l ih =>
    have h1 := h c List.mem_cons_self
    have h2 := mt_rep2 h1.2
    rw [h1.1] at h2
    have ih' := ih (fun t ht => h t (List.mem_cons_of_mem _ ht))
    rw [List.filterMap_cons_some (b := c) (by rw [if_pos h2.1, h2.2]; rfl), ih']
theorem cm_all2 {A : List (List UInt8 × List (List UInt8))} {n : Nat} (h : ∀ t ∈ A, t.1.length = n ∧ t.1 ≠ [] ∧ good t.1 = true) : cmN A [(List.replicate n 120, [])] = A := by
  induction A with
  | nil => rfl
  | cons a l ih =>
    have h1 := h a List.mem_cons_self
    have h2 := mt_rep h1.2.1 h1.2.2
    rw [h1.1] at h2
    have ih' := ih (fun t ht => h t (List.mem_cons_of_mem _ ht))
    have e : cmN (a :: l) [(List.replicate n 120, [])] = cmN [a] [(List.replicate n 120, [])] ++ cmN l [(List.replicate n 120, [])] := by
      unfold cmN
      simp only [List.flatMap_cons, List.flatMap_nil, List.append_nil]
    rw [e, ih', cmN_sing, List.filterMap_cons_some (b := a) (by rw [if_pos h2.1, h2.2, List.append_nil])]
    rfl
theorem gdC_cm {A C : List (List UInt8 × List (List UInt8))} (h1 : gdC A) (h2 : gdC C) : gdC (cmN A C) := fun t ht => by
  unfold cmN at ht
  obtain ⟨a, ha, ht⟩ := List.mem_flatMap.1 ht
  obtain ⟨c, hc, he⟩ := List.mem_filterMap.1 ht
  split at he
  · obtain rfl := Option.some.inj he
    refine ⟨good_mtT _ _ (h1 a ha).1 (h2 c hc).1, fun x hx => ?_⟩
    rcases List.mem_append.1 hx with hx | hx
    · exact (h1 a ha).2 x hx
    · exact (h2 c hc).2 x hx
  · cases he
end Go.Proofs.YtekjbpemaohipaaGreatDoor
namespace Go.Proofs.YtekjbpemaohipaaGreatDoor
open Go.RowKit Go.Shelf
end Go.Proofs.YtekjbpemaohipaaGreatDoor
namespace Go.Proofs.YtekjbpemaohipaaGreatDoor
open Go.RowKit Go.Shelf
/-- the cube of all headers of a width -/
def alT (b : Int) : List UInt8 := if 1 ≤ b ∧ b ≤ 256 then List.replicate b.toNat 120 else []
/-- the one term of all headers -/
def alB (b : Int) : List (List UInt8 × List (List UInt8)) → Bool
  | [(c, [])] => c == alT b
  | _ => false
theorem alT_good (b : Int) : good (alT b) = true := by
  unfold alT
  split
  · exact rep_good _ (by omega)
  · rfl
end Go.Proofs.YtekjbpemaohipaaGreatDoor
namespace Go.Proofs.YtekjbpemaohipaaGreatDoor
open Go.RowKit Go.Shelf
/-- the cubes of the headers that r writes into those of the list -/
def bfL (r : List UInt8) (L : List (List UInt8)) : List (List UInt8) := L.filterMap (fun m => if agB m r = true then some (beT m r) else none)
/-- the raw terms of Before -/
def bfN (r : List UInt8) (A : List (List UInt8 × List (List UInt8))) : List (List UInt8 × List (List UInt8)) := A.filterMap (fun t => if agB t.1 r = true then some (beT t.1 r, bfL r t.2) else none)
def bvE (b : Int) (r : List UInt8) : Int := if (!(b == 0) && (b == (r.length : Int))) = false then 11 else 0
def bvB (b : Int) (r : List UInt8) : Int := if bvE b r = 0 then b else 0
def bvT (b : Int) (A : List (List UInt8 × List (List UInt8))) (r : List UInt8) : List (List UInt8 × List (List UInt8)) := if bvE b r = 0 then ordT (topC (stl (bfN r A))) else []
theorem bfL_step {r : List UInt8} {L : List (List UInt8)} {k : Nat} {m : List UInt8} (h : L[k]? = some m) : bfL r (L.take (k + 1)) = bfL r (L.take k) ++ (if agB m r = true then [beT m r] else []) := by
  unfold bfL
  rw [List.take_add_one, h, List.filterMap_append]
  congr 1
  by_cases hq : agB m r = true <;> simp [hq]
theorem bfN_step {r : List UInt8} {A : List (List UInt8 × List (List UInt8))} {k : Nat} {a : List UInt8 × List (List UInt8)} (h : A[k]? = some a) : bfN r (A.take (k + 1)) = bfN r (A.take k) ++ (if agB a.1 r = true then [(beT a.1 r, bfL r a.2)] else []) := by
  unfold bfN
  rw [List.take_add_one, h, List.filterMap_append]
  congr 1
  by_cases hq : agB a.1 r = true <;> simp [hq]
theorem bfL_len (r : List UInt8) (L : List (List UInt8)) : (bfL r L).length ≤ L.length := List.length_filterMap_le _ _
theorem bfN_len (r : List UInt8) (A : List (List UInt8 × List (List UInt8))) : (bfN r A).length ≤ A.length := List.length_filterMap_le _ _
theorem bfN_sz (r : List UInt8) (A : List (List UInt8 × List (List UInt8))) : szC (bfN r A) ≤ szC A := by
  induction A with
  | nil => exact Nat.le_refl _
  | cons a l ih =>
    have e : bfN r (a :: l) = (if agB a.1 r = true then [(beT a.1 r, bfL r a.2)] else []) ++ bfN r l := by
      unfold bfN
      by_cases hq : agB a.1 r = true <;> simp [hq]
    have h2 := bfL_len r a.2
    rw [e, szC_append, szC]
    by_cases hq : agB a.1 r = true
    · rw [if_pos hq]
      simp only [szC]
      omega
    · rw [if_neg hq]
      simp only [szC]
      omega
theorem bfL_good {r : List UInt8} {L : List (List UInt8)} (gr : good r = true) (h : ∀ x ∈ L, good x = true) : ∀ x ∈ bfL r L, good x = true := fun x hx => by
  obtain ⟨m, hm, he⟩ := List.mem_filterMap.1 hx
  split at he
  · obtain rfl := Option.some.inj he
    exact good_beT _ _ (h m hm) gr
  · cases he
theorem bfN_gd {r : List UInt8} {A : List (List UInt8 × List (List UInt8))} (gr : good r = true) (h : gdC A) : gdC (bfN r A) := fun t ht => by
  obtain ⟨a, ha, he⟩ := List.mem_filterMap.1 ht
  split at he
  · obtain rfl := Option.some.inj he
    exact ⟨good_beT _ _ (h a ha).1 gr, bfL_good gr (h a ha).2⟩
  · cases he
theorem bf_rep {c : List UInt8} (h : c ≠ []) (gc : good c = true) : agB c (List.replicate c.length 120) = true ∧ beT c (List.replicate c.length 120) = c := by
  have h1 := (mt_rep h gc).1
  refine ⟨h1, ?_⟩
  unfold beT
  rw [if_pos h1]
  unfold bfT
  apply List.ext_getElem?
  intro k
  rw [List.getElem?_zipWith]
  by_cases hk : k < c.length
  · rw [rep_get _ _ hk, List.getElem?_eq_getElem hk]
    rfl
  · rw [List.getElem?_eq_none (by omega)]
theorem bfL_all {n : Nat} : ∀ {L : List (List UInt8)}, (∀ x ∈ L, x.length = n ∧ x ≠ [] ∧ good x = true) → bfL (List.replicate n 120) L = L
  | [], _ => rfl
  | a :: l, h => by
    obtain ⟨h1, h2, h3⟩ := h a List.mem_cons_self
    have h4 := bf_rep h2 h3
    rw [h1] at h4
    have ih := bfL_all (L := l) (fun x hx => h x (List.mem_cons_of_mem _ hx))
    unfold bfL at ih ⊢
    rw [List.filterMap_cons_some (b := a) (by rw [if_pos h4.1, h4.2]), ih]
theorem bfN_all {n : Nat} : ∀ {A : List (List UInt8 × List (List UInt8))}, (∀ t ∈ A, t.1.length = n ∧ t.1 ≠ [] ∧ FTm t) → bfN (List.replicate n 120) A = A
  | [], _ => rfl
  | a :: l, h => by
    obtain ⟨h1, h2, h3⟩ := h a List.mem_cons_self
    have h4 := bf_rep h2 h3.gc
    rw [h1] at h4
    have ih := bfN_all (A := l) (fun x hx => h x (List.mem_cons_of_mem _ hx))
    have hL : bfL (List.replicate n 120) a.2 = a.2 := bfL_all (fun x hx => by
      have hw := h3.wi x hx
      have hf : fitB x a.1 = true := by
        unfold wiB at hw
        exact (Bool.and_eq_true_iff.1 hw).1
      have hl := fitB_len hf
      refine ⟨by omega, fun e => ?_, h3.gl x hx⟩
      rw [e] at hl
      apply h2
      exact List.eq_nil_of_length_eq_zero (by simpa using hl.symm))
    unfold bfN at ih ⊢
    rw [List.filterMap_cons_some (b := a) (by rw [if_pos h4.1, h4.2, hL]), ih]
end Go.Proofs.YtekjbpemaohipaaGreatDoor
namespace Go.Proofs.YtekjbpemaohipaaGreatDoor
open Go.RowKit Go.Shelf
/-- loose terms that lie there -/
def LSP (W : World) (V : Value) (Rs : List (List UInt8 × List (List UInt8))) : Prop := ∃ Z : List ZT, Z.map ZT.cont = Rs ∧ W.ownsRow 0 62 10 V Z.length (tes Z) ∧ ∀ z ∈ Z, ZOK W z
theorem LSP.shape {W : World} {V : Value} {Rs : List (List UInt8 × List (List UInt8))} (h : LSP W V Rs) : ∃ p c, V = .slice p Rs.length c := by
  obtain ⟨Z, rfl, h2, -⟩ := h
  obtain ⟨p, c, rfl⟩ := shapeQ1 h2
  exact ⟨p, c, by rw [List.length_map]⟩
theorem LSP.below {W X : World} {V : Value} {Rs : List (List UInt8 × List (List UInt8))} (h : LSP W V Rs) (hb : Below W.heap.size W X) : LSP X V Rs := by
  obtain ⟨Z, h1, h2, h3⟩ := h
  exact ⟨Z, h1, own_belQ h2 hb, fun z hz => (h3 z hz).later (KC_below hb)⟩
theorem own_notS {W : World} {B g n : Nat} {e e2 : TypeId} {sz : Nat} {v : Value} {xs : List Value} {cs : Array Value} {m : Nat × Nat} (h : W.ownsRow B e sz v n xs) (hk : W.heap[g]? = some (.cells cs e2 m)) (hne : e ≠ e2) : v.ownBlock ≠ some g := by
  intro hb
  rcases h.2 with ⟨rfl, _⟩ | ⟨g2, c2, cur2, rfl, _, hg2, _⟩
  · cases hb
  · have : g2 = g := by injection hb
    subst this
    rw [hk] at hg2
    injection hg2 with h
    injection h with _ h _
    exact hne h.symm
theorem SPL.putS {W : World} {B b : Nat} {V : Value} {Ts : List (List UInt8 × List (List UInt8))} {cs : Array Value} {m : Nat × Nat} (h : SPL W B V Ts) (hb : W.heap[b]? = some (.cells cs 26 m)) (v0 v1 v2 : Value) : SPL (((W.setCell ⟨b, 0, none⟩ v0).setCell ⟨b, 1, none⟩ v1).setCell ⟨b, 2, none⟩ v2) B V Ts := by
  obtain ⟨Z, h1, h2, h3⟩ := h
  exact ⟨Z, h1, h2.kept (gr3 _ _ _ _ _) (.inr (own_notS h2 hb (by decide))), fun z hz => (h3 z hz).kept (gr3 _ _ _ _ _) (.inr (own_notS (h3 z hz) hb (by decide)))⟩
theorem LSP.putS {W : World} {b : Nat} {V : Value} {Rs : List (List UInt8 × List (List UInt8))} {cs : Array Value} {m : Nat × Nat} (h : LSP W V Rs) (hb : W.heap[b]? = some (.cells cs 26 m)) (v0 v1 v2 : Value) : LSP (((W.setCell ⟨b, 0, none⟩ v0).setCell ⟨b, 1, none⟩ v1).setCell ⟨b, 2, none⟩ v2) V Rs := by
  obtain ⟨Z, h1, h2, h3⟩ := h
  exact ⟨Z, h1, h2.kept (gr3 _ _ _ _ _) (.inr (own_notS h2 hb (by decide))), fun z hz => (h3 z hz).later (KC_grown (gr3 _ _ _ _ _) hb (by decide))⟩
set_option maxRecDepth 100000 in
set_option maxHeartbeats 4000000 in
theorem inFormL_any (b : Int) (p : Option Addr) (cp : Nat) (Rs : List (List UInt8 × List (List UInt8))) (w : World) (h : LSP w (.slice p Rs.length cp) Rs) (hN : Rs.length ≤ 1000) (hs : szC (topC (stl Rs)) ≤ 128) : Calls Tryz.prog 27 #[.agg #[.int .i64 b, .slice p Rs.length cp, .bool true]] w fun e w' => ∃ V, e = .returned (.agg #[.int .i64 b, V, .bool false]) ∧ SPL w' 0 V (ordT (topC (stl Rs))) ∧ Below w.heap.size w w' := by
  obtain ⟨w2, hw2⟩ : ∃ w2, (w.alloc (.cells #[.int .i64 b, .slice p Rs.length cp, .bool true] 26 (0, 0))).alloc (.cells #[.int .i64 0, .slice none 0 0, .bool false] 26 (0, 0)) = w2 := ⟨_, rfl⟩
  have h0 : w2.heap[w.heap.size]? = some (.cells #[.int .i64 b, .slice p Rs.length cp, .bool true] 26 (0, 0)) := by rw [← hw2]; exact alw_0 _ _ _
  have h1 : w2.heap[w.heap.size + 1]? = some (.cells #[.int .i64 0, .slice none 0 0, .bool false] 26 (0, 0)) := by rw [← hw2]; exact alw_1 _ _ _
  have hB : Below w.heap.size w w2 := by rw [← hw2]; exact belA (belA (Below.refl _ _) _) _
  obtain ⟨hc0, -⟩ := cells_block h0
  have HFO : Hid (Calls Tryz.prog 22 #[.int .i64 b, .slice p Rs.length cp] w2 fun e w' => ∃ V, e = .returned (.agg #[.int .i64 b, V, .bool false]) ∧ SPL w' w2.heap.size V (ordT (topC (stl Rs))) ∧ Below w2.heap.size w2 w') := by
    obtain ⟨Z, e1, e3, e4⟩ := h
    have hl : Z.length = Rs.length := by rw [← e1, List.length_map]
    rw [hl] at e3
    refine (formed_any b Z Rs.length p cp w2 hl (by omega) ((IRZ_own e3 hl).later hB) (fun z hz => (e4 z hz).later (KC_below hB))).mono ?_
    rintro e w' ⟨hb, ⟨hle, V, rfl, hv⟩ | ⟨hgt, rfl⟩⟩
    · rw [e1] at hv
      exact ⟨V, rfl, hv, hb⟩
    · rw [e1] at hgt
      omega
  have HA : Hid (w2.heap[w.heap.size + 1]? = some (.cells #[.int .i64 0, .slice none 0 0, .bool false] 26 (0, 0)) ∧ Below w.heap.size w w2 ∧ w.heap.size + 1 < w2.heap.size) := ⟨h1, hB, lt_of_get3 h1⟩
  obtain ⟨m, hm⟩ : ∃ m, Rs.length = m := ⟨_, rfl⟩
  rw [hm] at HFO hw2 hc0 ⊢
  clear h0 h1 hB h hm
  go_enter Tryz.func27, Tryz.ntmps27
  go_wp2_with fail
  refine HFO.out.mono ?_
  rintro e W1 ⟨V, rfl, sv, hb1⟩
  obtain ⟨p8, c8, rfl⟩ := sv.shape
  obtain ⟨n8, hn8⟩ : ∃ n, ((ordT (topC (stl Rs))) : List (List UInt8 × List (List UInt8))).length = n := ⟨_, rfl⟩
  rw [hn8] at sv ⊢
  have k1 := keepblk3 hb1 HA.out.1
  obtain ⟨hc1, hf1⟩ := cells_block k1
  have HP : Hid ((((W1.setCell ⟨w.heap.size + 1, 0, none⟩ (.int .i64 b)).setCell ⟨w.heap.size + 1, 1, none⟩ (.slice p8 n8 c8)).setCell ⟨w.heap.size + 1, 2, none⟩ (.bool false)).heap[w.heap.size + 1]? = some (.cells #[.int .i64 b, .slice p8 n8 c8, .bool false] 26 (0, 0)) ∧ SPL (((W1.setCell ⟨w.heap.size + 1, 0, none⟩ (.int .i64 b)).setCell ⟨w.heap.size + 1, 1, none⟩ (.slice p8 n8 c8)).setCell ⟨w.heap.size + 1, 2, none⟩ (.bool false)) 0 (.slice p8 n8 c8) (ordT (topC (stl Rs))) ∧ Below w.heap.size w (((W1.setCell ⟨w.heap.size + 1, 0, none⟩ (.int .i64 b)).setCell ⟨w.heap.size + 1, 1, none⟩ (.slice p8 n8 c8)).setCell ⟨w.heap.size + 1, 2, none⟩ (.bool false))) := ⟨put3_get _ _ _ k1, (sv.kept (gr3 _ _ _ _ _) HA.out.2.2).base (Nat.zero_le _), (((bel0 HA.out.2.1 hb1).setCell (Nat.le_succ _) _).setCell (Nat.le_succ _) _).setCell (Nat.le_succ _) _⟩
  clear hc0 k1 sv hb1 HFO hw2
  go_wp2_with fail
  refine bodyPost_ret (v := .agg #[.int .i64 b, .slice p8 n8 c8, .bool false]) (res_space _ _ (w.heap.size + 1) _ _ _ Tryz.results27 rfl HP.out.1) rfl ?_
  exact ⟨_, rfl, HP.out.2⟩
set_option maxRecDepth 100000 in
theorem bitsL_any (b : Int) (p : Option Addr) (n cp : Nat) (w : World) : Calls Tryz.prog 18 #[.agg #[.int .i64 b, .slice p n cp, .bool true]] w fun e w' => e = .returned (.int .i64 b) ∧ Below w.heap.size w w' := by
  obtain ⟨w2, hw2⟩ : ∃ w2, w.alloc (.cells #[.int .i64 b, .slice p n cp, .bool true] 26 (0, 0)) = w2 := ⟨_, rfl⟩
  have h0 : w2.heap[w.heap.size]? = some (.cells #[.int .i64 b, .slice p n cp, .bool true] 26 (0, 0)) := by rw [← hw2]; exact alloc_get _ _
  have hB : Below w.heap.size w w2 := by rw [← hw2]; exact belA (Below.refl _ _) _
  obtain ⟨hc0, -⟩ := cells_block h0
  clear h0
  go_enter Tryz.func18, Tryz.ntmps18
  go_wp2_with fail
  go_ret
  exact ⟨rfl, hB⟩
set_option maxRecDepth 100000 in
set_option maxHeartbeats 4000000 in
theorem spSizeL_any (b : Int) (p : Option Addr) (cp : Nat) (Rs : List (List UInt8 × List (List UInt8))) (w : World) (h : LSP w (.slice p Rs.length cp) Rs) (hN : Rs.length ≤ 1000) (hs : szC (topC (stl Rs)) ≤ 128) : Calls Tryz.prog 17 #[.agg #[.int .i64 b, .slice p Rs.length cp, .bool true]] w fun e w' => e = .returned (.int .i64 (szC (ordT (topC (stl Rs))) : Int)) ∧ Below w.heap.size w w' := by
  obtain ⟨w2, hw2⟩ : ∃ w2, w.alloc (.cells #[.int .i64 b, .slice p Rs.length cp, .bool true] 26 (0, 0)) = w2 := ⟨_, rfl⟩
  have h0 : w2.heap[w.heap.size]? = some (.cells #[.int .i64 b, .slice p Rs.length cp, .bool true] 26 (0, 0)) := by rw [← hw2]; exact alloc_get _ _
  have hB : Below w.heap.size w w2 := by rw [← hw2]; exact belA (Below.refl _ _) _
  obtain ⟨hc0, -⟩ := cells_block h0
  have HI : Hid (Calls Tryz.prog 27 #[.agg #[.int .i64 b, .slice p Rs.length cp, .bool true]] w2 fun e w' => ∃ V, e = .returned (.agg #[.int .i64 b, V, .bool false]) ∧ SPL w' 0 V (ordT (topC (stl Rs))) ∧ Below w2.heap.size w2 w') := inFormL_any b p cp Rs w2 (h.below hB) hN hs
  have hso := szC_ord (topC (stl Rs))
  obtain ⟨Ts, hTs⟩ : ∃ T, (ordT (topC (stl Rs))) = T := ⟨_, rfl⟩
  rw [hTs] at HI hso ⊢
  have HSZ : Hid (szC Ts ≤ 128) := by unfold Hid; omega
  obtain ⟨m, hm⟩ : ∃ m, Rs.length = m := ⟨_, rfl⟩
  rw [hm] at HI hw2 hc0 ⊢
  clear h0 h hso hs hTs hm
  have hfl := fld1
  go_enter Tryz.func17, Tryz.ntmps17
  go_wp2_with fail
  refine HI.out.mono ?_
  rintro e W1 ⟨V, rfl, ⟨Z, e1, h2, -⟩, hb1⟩
  subst e1
  obtain ⟨q, cq, rfl⟩ := shapeQ1 h2
  have hl := szC_len (Z.map ZT.cont)
  have hz : szZ Z ≤ 128 := by rw [szC_map]; exact HSZ.out
  rw [List.length_map, ← szC_map] at hl
  have HS : Hid (Calls Tryz.prog 21 #[.slice q Z.length cq] W1 fun e w' => e = .returned (.int .i64 (szZ Z : Int)) ∧ Below W1.heap.size W1 w') := size_any (Z.map ZT.t) Z.length q cq W1 (by rw [List.length_map]) (by omega) (by show szZ Z ≤ _; omega) (IRZ_own h2 rfl).irt
  clear hz HSZ hl hc0 hw2
  go_wp2_with fail
  refine HS.out.mono ?_
  rintro e W2 ⟨rfl, hb2⟩
  go_wp2_with fail
  go_ret
  exact ⟨by rw [← szC_map]; rfl, bel0 hB (bel0 hb1 hb2)⟩
set_option maxRecDepth 100000 in
set_option maxHeartbeats 8000000 in
theorem spTextL_any (b : Int) (p0 : Option Addr) (c0 : Nat) (Rs : List (List UInt8 × List (List UInt8))) (w : World) (h : LSP w (.slice p0 Rs.length c0) Rs) (hN0 : Rs.length ≤ 1000) (hs : szC (topC (stl Rs)) ≤ 128) (hg : gdC (ordT (topC (stl Rs)))) : Calls Tryz.prog 16 #[.agg #[.int .i64 b, .slice p0 Rs.length c0, .bool true]] w fun e w' => e = .returned (.string ⟨(txC (ordT (topC (stl Rs)))).toArray⟩) ∧ Below w.heap.size w w' := by
  obtain ⟨w2, hw2⟩ : ∃ w2, w.alloc (.cells #[.int .i64 b, .slice p0 Rs.length c0, .bool true] 26 (0, 0)) = w2 := ⟨_, rfl⟩
  have h0 : w2.heap[w.heap.size]? = some (.cells #[.int .i64 b, .slice p0 Rs.length c0, .bool true] 26 (0, 0)) := by rw [← hw2]; exact alloc_get _ _
  have hB : Below w.heap.size w w2 := by rw [← hw2]; exact belA (Below.refl _ _) _
  obtain ⟨hc0, -⟩ := cells_block h0
  have HI : Hid (Calls Tryz.prog 27 #[.agg #[.int .i64 b, .slice p0 Rs.length c0, .bool true]] w2 fun e w' => ∃ V, e = .returned (.agg #[.int .i64 b, V, .bool false]) ∧ SPL w' 0 V (ordT (topC (stl Rs))) ∧ Below w2.heap.size w2 w') := inFormL_any b p0 c0 Rs w2 (h.below hB) hN0 hs
  have hso := szC_ord (topC (stl Rs))
  obtain ⟨Ts, hTs⟩ : ∃ T, (ordT (topC (stl Rs))) = T := ⟨_, rfl⟩
  rw [hTs] at HI hso hg ⊢
  have HSZ : Hid (szC Ts ≤ 128 ∧ gdC Ts) := ⟨by omega, hg⟩
  obtain ⟨m, hm⟩ : ∃ m, Rs.length = m := ⟨_, rfl⟩
  rw [hm] at HI hw2 hc0 ⊢
  clear h0 h hso hs hg hTs hm hN0
  have hfl := fld1
  cases hT0 : Ts with
  | nil =>
    subst hT0
    go_enter Tryz.func16, Tryz.ntmps16
    go_wp2_with fail
    refine HI.out.mono ?_
    rintro e W1 ⟨V, rfl, ⟨Z, e1, o1, -⟩, hb1⟩
    obtain rfl : Z = [] := List.map_eq_nil_iff.1 e1
    obtain ⟨p, cp, rfl⟩ := shapeQ1 o1
    clear o1 HI hc0 hw2
    go_wp2_with fail
    go_ret
    exact ⟨rfl, bel0 hB hb1⟩
  | cons t0 T0 =>
    have HNE : Hid (Ts ≠ []) := by unfold Hid; rw [hT0]; simp
    rw [← hT0]
    clear hT0
    go_enter Tryz.func16, Tryz.ntmps16
    go_wp2_with fail
    refine HI.out.mono ?_
    rintro e W1 ⟨V, rfl, ⟨Z, e1, o1', hz⟩, hb1⟩
    obtain ⟨p, cp, rfl⟩ := shapeQ1 o1'
    subst e1
    have hl := szC_len (Z.map ZT.cont)
    rw [List.length_map] at hl
    obtain ⟨n, hn⟩ : ∃ n, Z.length = n := ⟨_, rfl⟩
    have hne : Z ≠ [] := fun e => HNE.out (by rw [e]; rfl)
    have hp : 0 < n := by rw [← hn]; exact List.length_pos_iff.2 hne
    have hN : n ≤ 128 := by have := HSZ.out.1; omega
    have HTX : Hid (txC (Z.map ZT.cont) = jn (Z.map txZ)) := by
      unfold Hid txC
      rw [if_neg (by simp [hne]), List.map_map]
      rfl
    have ho : ∀ z ∈ Z, z.L.length ≤ 1000000 := fun z hz => by
      have h1 := szC_mem z.cont (List.mem_map_of_mem (f := ZT.cont) hz)
      have e2 : z.cont.2 = z.L := rfl
      rw [e2] at h1
      have := HSZ.out.1
      omega
    have gz : ∀ z ∈ Z, good z.c = true ∧ ∀ t ∈ z.L, good t = true := fun z hz => HSZ.out.2 z.cont (List.mem_map_of_mem (f := ZT.cont) hz)
    rw [hn] at o1' ⊢
    have o1 := o1'
    have HT : Hid (∀ W, KT W1 W → IRZ W p Z) := fun W hW => IRZ_own (own_KT o1 hW (by decide) (by decide)) hn
    have HZA : Hid (∀ z ∈ Z, (∀ W, KT W1 W → IRC W z.q z.L) ∧ z.L.length ≤ 1000000 ∧ good z.c = true ∧ ∀ t ∈ z.L, good t = true) := fun z hm => ⟨fun W hW => IRC_own (own_KT (hz z hm) hW (by decide) (by decide)) rfl, ho z hm, gz z hm⟩
    have HLB : Hid (∀ i, (jn ((Z.take i).map txZ)).length ≤ 257000000000) := fun i => by
      have h1 := jn_len 128 (256 + 257 * 1000000) ((Z.take i).map txZ) (by rw [List.length_map, List.length_take]; omega) (fun x hx => by
        obtain ⟨z, hz, rfl⟩ := List.mem_map.1 hx
        have hm := List.mem_of_mem_take hz
        have h2 := txL_len (gz z hm).2
        have h3 := good_len (gz z hm).1
        have h4 := ho z hm
        unfold txZ
        rw [List.length_append]
        omega)
      omega
    have HN : Hid (Z.length = n) := hn
    have hnb : ((n : Int) == 0) = false := by rw [beq_eq_false_iff_ne]; omega
    have KW : Hid (KT W1 W1 ∧ Below w.heap.size w W1) := ⟨KT_below (Below.refl _ _), bel0 hB hb1⟩
    clear o1 o1' hz ho gz hn hne hl HI HSZ HNE
    have H0 : Hid (TXI W1 (W1.alloc (.cells #[.pointer none, .slice none 0 0] 73 (0, 0))) []) := ⟨.inl ⟨Nat.le_refl _, .slice none 0 0, alloc_get _ _, World.ownsRow_nil _ _ _ _, by simp [Value.ownBlock]⟩, KT_below (belA (Below.refl _ _) _), belA (Below.refl _ _) _⟩
    clear hb1 hB hc0 hw2
    go_wp2_with fail
    go_loopw [17] (fun v17 wr => ∃ i : Nat, v17 = .int .i64 i ∧ i ≤ n ∧ Hid (TXI W1 wr (jn ((Z.take i).map txZ)))) (fun v17 _ => n - (intOf v17).toNat)
    case atStart => exact ⟨0, rfl, Nat.zero_le _, H0⟩
    case round =>
      clear H0 hnb
      obtain ⟨i, rfl, hi, HX⟩ := hrel
      by_cases hlt : i < n
      · obtain ⟨z, hz⟩ : ∃ z, Z[i]? = some z := ⟨_, List.getElem?_eq_getElem (by rw [HN.out]; exact hlt)⟩
        obtain ⟨HZ', HZL', HZG'⟩ := HZA.out z (List.mem_of_getElem? hz)
        have HZ : Hid (∀ W, KT W1 W → IRC W z.q z.L) := HZ'
        have HZL : Hid (z.L.length ≤ 1000000) := HZL'
        have HZG : Hid (good z.c = true ∧ ∀ t ∈ z.L, good t = true) := HZG'
        have hln := HLB.out i
        clear HZ' HZL' HZG'
        by_cases hi0 : i = 0
        · subst hi0
          have HSTP : Hid (jn ((Z.take 1).map txZ) = txZ z) := jnZ_step0 hz
          have j1 : (0 : Int) < (n : Int) := by omega
          have HX0 : Hid (TXI W1 wr []) := HX
          clear HX hln
          rename Hid (TXI W1 wr []) => HX
          obtain ⟨g, o0, rfl, p0, p1, p2, p3, p4, p5, p6, p7, p8, p9⟩ := HT.out wr (KW.out.1.trans HX.out.2.1) wr (Below.refl _ _) 0 _ hz
          obtain ⟨c, q, k, R⟩ := z
          simp only at p0 p1 p2 p3 p4 p5 p6 p7 p8 p9 HZ HZL HZG
          rw [Nat.zero_mul, Nat.add_zero] at p0 p1 p2 p3 p4 p5 p6 p7 p8 p9
          clear hz
          have HG : Hid (good c = true ∧ ∀ t ∈ R, good t = true) := HZG
          have HC : Hid (∀ W, KT W1 W → IRC W q R) := HZ
          have hRl : R.length ≤ 1000000 := HZL.out
          have hcl := good_len HG.out.1
          have HLN : Hid (∀ j, (txL (R.take j)).length ≤ 257 * R.length) := fun j => by
            have h1 := txL_len (R := R.take j) (fun t ht => HG.out.2 t (List.mem_of_mem_take ht))
            have h2 : (R.take j).length ≤ R.length := by rw [List.length_take]; omega
            omega
          clear HZ HZG HZL
          obtain ⟨wa, hwa⟩ : ∃ wa, wr.alloc (.cells #[.int .i64 (c.length : Int), .int .u64 (FW c 0 : Int), .int .u64 (FW c 1 : Int), .int .u64 (FW c 2 : Int), .int .u64 (FW c 3 : Int), .int .u64 (OW c 0 : Int), .int .u64 (OW c 1 : Int), .int .u64 (OW c 2 : Int), .int .u64 (OW c 3 : Int), .slice q R.length k] 62 (0, 0)) = wa := ⟨_, rfl⟩
          have hal : Below wr.heap.size wr wa := by rw [← hwa]; exact belA (Below.refl _ _) _
          have hgt : wa.heap[wr.heap.size]? = some (.cells #[.int .i64 (c.length : Int), .int .u64 (FW c 0 : Int), .int .u64 (FW c 1 : Int), .int .u64 (FW c 2 : Int), .int .u64 (FW c 3 : Int), .int .u64 (OW c 0 : Int), .int .u64 (OW c 1 : Int), .int .u64 (OW c 2 : Int), .int .u64 (OW c 3 : Int), .slice q R.length k] 62 (0, 0)) := by rw [← hwa]; exact alloc_get _ _
          have hcw := (cells_block hgt).1
          have HGT : Hid (wa.heap[wr.heap.size]? = some (.cells #[.int .i64 (c.length : Int), .int .u64 (FW c 0 : Int), .int .u64 (FW c 1 : Int), .int .u64 (FW c 2 : Int), .int .u64 (FW c 3 : Int), .int .u64 (OW c 0 : Int), .int .u64 (OW c 1 : Int), .int .u64 (OW c 2 : Int), .int .u64 (OW c 3 : Int), .slice q R.length k] 62 (0, 0))) := hgt
          have HXa : Hid (TXI W1 wa []) := HX.out.below hal
          have HTx : Hid (Calls Tryz.prog 37 #[.agg #[.int .i64 (c.length : Int), .int .u64 (FW c 0 : Int), .int .u64 (FW c 1 : Int), .int .u64 (FW c 2 : Int), .int .u64 (FW c 3 : Int), .int .u64 (OW c 0 : Int), .int .u64 (OW c 1 : Int), .int .u64 (OW c 2 : Int), .int .u64 (OW c 3 : Int)]] wa fun e w' => e = .returned (.string ⟨c.toArray⟩) ∧ Below wa.heap.size wa w') := text_any c wa HG.out.1
          clear hgt HX hal
          go_wp2_with fail
          refine HTx.out.mono ?_
          rintro e W2 ⟨rfl, hb2⟩
          have HX2 := HXa.out.below hb2
          have HW2 : Hid (Calls Tryz.prog 36 #[.pointer (some ⟨W1.heap.size, 0, none⟩), .string ⟨c.toArray⟩] W2 fun e w' => e = .returned (.tuple #[.int .i64 (c.length : Int), .nilIface]) ∧ TXI W1 w' ([] ++ c) ∧ KT W2 w') := HX2.write c (by simp; omega)
          have hg2 := keepblk3 hb2 HGT.out
          have HG2 : Hid (W2.heap[wr.heap.size]? = some (.cells #[.int .i64 (c.length : Int), .int .u64 (FW c 0 : Int), .int .u64 (FW c 1 : Int), .int .u64 (FW c 2 : Int), .int .u64 (FW c 3 : Int), .int .u64 (OW c 0 : Int), .int .u64 (OW c 1 : Int), .int .u64 (OW c 2 : Int), .int .u64 (OW c 3 : Int), .slice q R.length k] 62 (0, 0))) := hg2
          clear hg2 HX2 hb2 hcw HTx HXa hwa p0 p1 p2 p3 p4 p5 p6 p7 p8 p9
          go_wp2_with fail
          refine HW2.out.mono ?_
          rintro e W3 ⟨rfl, HX3, kt3⟩
          have hcw3 := (cells_block (kt3 _ _ _ _ HG2.out (by decide) (by decide))).1
          obtain ⟨Y1, hY1⟩ : ∃ Y1, [] ++ c = Y1 := ⟨_, rfl⟩
          have hY1l : Y1.length ≤ 257000000300 := by rw [← hY1]; simp; omega
          have HYT : Hid ([] ++ c = Y1) := hY1
          rw [hY1] at HX3
          have H3 : Hid (TXI W1 W3 (Y1 ++ txL (R.take 0))) := by unfold Hid; simpa [txL] using HX3
          clear HX3 kt3 HW2 HG2 HGT hY1
          go_wp2_with fail
          go_loopw [32] (fun v32 ws => ∃ j : Nat, v32 = .int .i64 j ∧ j ≤ R.length ∧ Hid (TXI W1 ws (Y1 ++ txL (R.take j)))) (fun v32 _ => R.length - (intOf v32).toNat)
          case atStart => exact ⟨0, rfl, Nat.zero_le _, H3⟩
          case round =>
            clear H3 hcw3
            obtain ⟨j, rfl, hj, HY⟩ := hrel
            by_cases hlt : j < R.length
            · have j1 : (j : Int) < (R.length : Int) := by omega
              have j0 : (0 : Int) ≤ (j : Int) := by omega
              obtain ⟨t, ht⟩ : ∃ t, R[j]? = some t := ⟨_, List.getElem?_eq_getElem hlt⟩
              have hir := HC.out _ (KW.out.1.trans HY.out.2.1)
              obtain ⟨g2, o2, rfl, p0, p1, p2, p3, p4, p5, p6, p7, p8⟩ := hir _ (Below.refl _ _) j t ht
              have gt := HG.out.2 t (List.mem_of_getElem? ht)
              have htl := good_len gt
              have HST : Hid (Y1 ++ txL (R.take (j + 1)) = Y1 ++ txL (R.take j) ++ [45] ++ t) := by unfold Hid; rw [txL_step ht]; simp
              have hln := HLN.out j
              obtain ⟨Y, hY⟩ : ∃ Y, Y1 ++ txL (R.take j) = Y := ⟨_, rfl⟩
              have hYl : Y.length ≤ 257000000300 + 257 * 1000000 := by rw [← hY, List.length_append]; omega
              rw [hY] at HST HY
              clear hir ht hY
              obtain ⟨wb, hwb⟩ : ∃ wb, World.alloc wr (.cells #[.int .i64 (t.length : Int), .int .u64 (FW t 0 : Int), .int .u64 (FW t 1 : Int), .int .u64 (FW t 2 : Int), .int .u64 (FW t 3 : Int), .int .u64 (OW t 0 : Int), .int .u64 (OW t 1 : Int), .int .u64 (OW t 2 : Int), .int .u64 (OW t 3 : Int)] 34 (0, 0)) = wb := ⟨_, rfl⟩
              have hal : Below (World.heap wr).size wr wb := by rw [← hwb]; exact belA (Below.refl _ _) _
              have hgt : wb.heap[(World.heap wr).size]? = some (.cells #[.int .i64 (t.length : Int), .int .u64 (FW t 0 : Int), .int .u64 (FW t 1 : Int), .int .u64 (FW t 2 : Int), .int .u64 (FW t 3 : Int), .int .u64 (OW t 0 : Int), .int .u64 (OW t 1 : Int), .int .u64 (OW t 2 : Int), .int .u64 (OW t 3 : Int)] 34 (0, 0)) := by rw [← hwb]; exact alloc_get _ _
              have HGT : Hid (wb.heap[(World.heap wr).size]? = some (.cells #[.int .i64 (t.length : Int), .int .u64 (FW t 0 : Int), .int .u64 (FW t 1 : Int), .int .u64 (FW t 2 : Int), .int .u64 (FW t 3 : Int), .int .u64 (OW t 0 : Int), .int .u64 (OW t 1 : Int), .int .u64 (OW t 2 : Int), .int .u64 (OW t 3 : Int)] 34 (0, 0))) := hgt
              have HW4 : Hid (Calls Tryz.prog 36 #[.pointer (some ⟨W1.heap.size, 0, none⟩), .string ⟨#[45]⟩] wb fun e w' => e = .returned (.tuple #[.int .i64 1, .nilIface]) ∧ TXI W1 w' (Y ++ [45]) ∧ KT wb w') := (HY.out.below hal).write [45] (by simp; omega)
              clear hgt hal HY
              go_wp2_with fail
              refine HW4.out.mono ?_
              rintro e W4 ⟨rfl, HX4, kt4⟩
              have hcw4 := (cells_block (kt4 _ _ _ _ HGT.out (by decide) (by decide))).1
              have HX4' : Hid (TXI W1 W4 (Y ++ [45])) := HX4
              have HTx : Hid (Calls Tryz.prog 37 #[.agg #[.int .i64 (t.length : Int), .int .u64 (FW t 0 : Int), .int .u64 (FW t 1 : Int), .int .u64 (FW t 2 : Int), .int .u64 (FW t 3 : Int), .int .u64 (OW t 0 : Int), .int .u64 (OW t 1 : Int), .int .u64 (OW t 2 : Int), .int .u64 (OW t 3 : Int)]] W4 fun e w' => e = .returned (.string ⟨t.toArray⟩) ∧ Below W4.heap.size W4 w') := text_any t W4 gt
              clear HX4 kt4 HGT HW4 hwb p0 p1 p2 p3 p4 p5 p6 p7 p8
              go_wp2_with fail
              refine HTx.out.mono ?_
              rintro e W5 ⟨rfl, hb5⟩
              have HW5 : Hid (Calls Tryz.prog 36 #[.pointer (some ⟨W1.heap.size, 0, none⟩), .string ⟨t.toArray⟩] W5 fun e w' => e = .returned (.tuple #[.int .i64 (t.length : Int), .nilIface]) ∧ TXI W1 w' (Y ++ [45] ++ t) ∧ KT W5 w') := (HX4'.out.below hb5).write t (by simp; omega)
              clear hb5 HX4' HTx hcw4
              go_wp2_with fail
              refine HW5.out.mono ?_
              rintro e W6 ⟨rfl, HX6, -⟩
              have HX6' : Hid (TXI W1 W6 (Y1 ++ txL (R.take (j + 1)))) := by unfold Hid; rw [HST.out]; exact HX6
              clear HX6 HW5
              go_wp2_with fail
              go_roundw
              case rel => exact ⟨j + 1, by go_num, by omega, HX6'⟩
              case measure => simp [intOf]; omega
            · have j1 : ¬ (j : Int) < (R.length : Int) := by omega
              have e : R.take j = R := List.take_of_length_le (by omega)
              rw [e] at HY
              have HN : Hid (TXI W1 wr (jn ((Z.take (1)).map txZ))) := by
                unfold Hid
                rw [HSTP.out]
                have h1 := HY.out
                rw [← HYT.out] at h1
                unfold txZ
                simpa using h1
              clear e HY
              go_wp2_with fail
              go_roundw
              case rel => exact ⟨1, by go_num, by omega, HN⟩
              case measure => simp [intOf]; omega
        · have HSTP : Hid (jn ((Z.take (i + 1)).map txZ) = jn ((Z.take i).map txZ) ++ [43] ++ txZ z) := jnZ_step hz (by omega)
          have j1 : (i : Int) < (n : Int) := by omega
          have j0 : (0 : Int) ≤ (i : Int) := by omega
          have j2 : (0 : Int) < (i : Int) := by omega
          obtain ⟨YY, hYY⟩ : ∃ YY, jn ((Z.take i).map txZ) = YY := ⟨_, rfl⟩
          rw [hYY] at HX HSTP hln
          clear hYY
          obtain ⟨g, o0, rfl, p0, p1, p2, p3, p4, p5, p6, p7, p8, p9⟩ := HT.out wr (KW.out.1.trans HX.out.2.1) wr (Below.refl _ _) i _ hz
          obtain ⟨c, q, k, R⟩ := z
          simp only at p0 p1 p2 p3 p4 p5 p6 p7 p8 p9 HZ HZL HZG
          clear hz
          have HG : Hid (good c = true ∧ ∀ t ∈ R, good t = true) := HZG
          have HC : Hid (∀ W, KT W1 W → IRC W q R) := HZ
          have hRl : R.length ≤ 1000000 := HZL.out
          have hcl := good_len HG.out.1
          have HLN : Hid (∀ j, (txL (R.take j)).length ≤ 257 * R.length) := fun j => by
            have h1 := txL_len (R := R.take j) (fun t ht => HG.out.2 t (List.mem_of_mem_take ht))
            have h2 : (R.take j).length ≤ R.length := by rw [List.length_take]; omega
            omega
          clear HZ HZG HZL
          obtain ⟨wa, hwa⟩ : ∃ wa, wr.alloc (.cells #[.int .i64 (c.length : Int), .int .u64 (FW c 0 : Int), .int .u64 (FW c 1 : Int), .int .u64 (FW c 2 : Int), .int .u64 (FW c 3 : Int), .int .u64 (OW c 0 : Int), .int .u64 (OW c 1 : Int), .int .u64 (OW c 2 : Int), .int .u64 (OW c 3 : Int), .slice q R.length k] 62 (0, 0)) = wa := ⟨_, rfl⟩
          have hal : Below wr.heap.size wr wa := by rw [← hwa]; exact belA (Below.refl _ _) _
          have hgt : wa.heap[wr.heap.size]? = some (.cells #[.int .i64 (c.length : Int), .int .u64 (FW c 0 : Int), .int .u64 (FW c 1 : Int), .int .u64 (FW c 2 : Int), .int .u64 (FW c 3 : Int), .int .u64 (OW c 0 : Int), .int .u64 (OW c 1 : Int), .int .u64 (OW c 2 : Int), .int .u64 (OW c 3 : Int), .slice q R.length k] 62 (0, 0)) := by rw [← hwa]; exact alloc_get _ _
          have HGT0 : Hid (wa.heap[wr.heap.size]? = some (.cells #[.int .i64 (c.length : Int), .int .u64 (FW c 0 : Int), .int .u64 (FW c 1 : Int), .int .u64 (FW c 2 : Int), .int .u64 (FW c 3 : Int), .int .u64 (OW c 0 : Int), .int .u64 (OW c 1 : Int), .int .u64 (OW c 2 : Int), .int .u64 (OW c 3 : Int), .slice q R.length k] 62 (0, 0))) := hgt
          have HW0 : Hid (Calls Tryz.prog 36 #[.pointer (some ⟨W1.heap.size, 0, none⟩), .string ⟨#[43]⟩] wa fun e w' => e = .returned (.tuple #[.int .i64 1, .nilIface]) ∧ TXI W1 w' (YY ++ [43]) ∧ KT wa w') := (HX.out.below hal).write [43] (by simp; omega)
          clear hgt HX hal
          go_wp2_with fail
          refine HW0.out.mono ?_
          rintro e WA ⟨rfl, HXA, ktA⟩
          have hgA := ktA _ _ _ _ HGT0.out (by decide) (by decide)
          have hcw := (cells_block hgA).1
          have HGT : Hid (WA.heap[wr.heap.size]? = some (.cells #[.int .i64 (c.length : Int), .int .u64 (FW c 0 : Int), .int .u64 (FW c 1 : Int), .int .u64 (FW c 2 : Int), .int .u64 (FW c 3 : Int), .int .u64 (OW c 0 : Int), .int .u64 (OW c 1 : Int), .int .u64 (OW c 2 : Int), .int .u64 (OW c 3 : Int), .slice q R.length k] 62 (0, 0))) := hgA
          have HXa : Hid (TXI W1 WA (YY ++ [43])) := HXA
          have HTx : Hid (Calls Tryz.prog 37 #[.agg #[.int .i64 (c.length : Int), .int .u64 (FW c 0 : Int), .int .u64 (FW c 1 : Int), .int .u64 (FW c 2 : Int), .int .u64 (FW c 3 : Int), .int .u64 (OW c 0 : Int), .int .u64 (OW c 1 : Int), .int .u64 (OW c 2 : Int), .int .u64 (OW c 3 : Int)]] WA fun e w' => e = .returned (.string ⟨c.toArray⟩) ∧ Below WA.heap.size WA w') := text_any c WA HG.out.1
          clear hgA HXA ktA HW0 HGT0
          go_wp2_with fail
          refine HTx.out.mono ?_
          rintro e W2 ⟨rfl, hb2⟩
          have HX2 := HXa.out.below hb2
          have HW2 : Hid (Calls Tryz.prog 36 #[.pointer (some ⟨W1.heap.size, 0, none⟩), .string ⟨c.toArray⟩] W2 fun e w' => e = .returned (.tuple #[.int .i64 (c.length : Int), .nilIface]) ∧ TXI W1 w' ((YY ++ [43]) ++ c) ∧ KT W2 w') := HX2.write c (by simp; omega)
          have hg2 := keepblk3 hb2 HGT.out
          have HG2 : Hid (W2.heap[wr.heap.size]? = some (.cells #[.int .i64 (c.length : Int), .int .u64 (FW c 0 : Int), .int .u64 (FW c 1 : Int), .int .u64 (FW c 2 : Int), .int .u64 (FW c 3 : Int), .int .u64 (OW c 0 : Int), .int .u64 (OW c 1 : Int), .int .u64 (OW c 2 : Int), .int .u64 (OW c 3 : Int), .slice q R.length k] 62 (0, 0))) := hg2
          clear hg2 HX2 hb2 hcw HTx HXa hwa p0 p1 p2 p3 p4 p5 p6 p7 p8 p9
          go_wp2_with fail
          refine HW2.out.mono ?_
          rintro e W3 ⟨rfl, HX3, kt3⟩
          have hcw3 := (cells_block (kt3 _ _ _ _ HG2.out (by decide) (by decide))).1
          obtain ⟨Y1, hY1⟩ : ∃ Y1, (YY ++ [43]) ++ c = Y1 := ⟨_, rfl⟩
          have hY1l : Y1.length ≤ 257000000300 := by rw [← hY1]; simp; omega
          have HYT : Hid ((YY ++ [43]) ++ c = Y1) := hY1
          rw [hY1] at HX3
          have H3 : Hid (TXI W1 W3 (Y1 ++ txL (R.take 0))) := by unfold Hid; simpa [txL] using HX3
          clear HX3 kt3 HW2 HG2 HGT hY1
          go_wp2_with fail
          go_loopw [32] (fun v32 ws => ∃ j : Nat, v32 = .int .i64 j ∧ j ≤ R.length ∧ Hid (TXI W1 ws (Y1 ++ txL (R.take j)))) (fun v32 _ => R.length - (intOf v32).toNat)
          case atStart => exact ⟨0, rfl, Nat.zero_le _, H3⟩
          case round =>
            clear H3 hcw3
            obtain ⟨j, rfl, hj, HY⟩ := hrel
            by_cases hlt : j < R.length
            · have j1 : (j : Int) < (R.length : Int) := by omega
              have j0 : (0 : Int) ≤ (j : Int) := by omega
              obtain ⟨t, ht⟩ : ∃ t, R[j]? = some t := ⟨_, List.getElem?_eq_getElem hlt⟩
              have hir := HC.out _ (KW.out.1.trans HY.out.2.1)
              obtain ⟨g2, o2, rfl, p0, p1, p2, p3, p4, p5, p6, p7, p8⟩ := hir _ (Below.refl _ _) j t ht
              have gt := HG.out.2 t (List.mem_of_getElem? ht)
              have htl := good_len gt
              have HST : Hid (Y1 ++ txL (R.take (j + 1)) = Y1 ++ txL (R.take j) ++ [45] ++ t) := by unfold Hid; rw [txL_step ht]; simp
              have hln := HLN.out j
              obtain ⟨Y, hY⟩ : ∃ Y, Y1 ++ txL (R.take j) = Y := ⟨_, rfl⟩
              have hYl : Y.length ≤ 257000000300 + 257 * 1000000 := by rw [← hY, List.length_append]; omega
              rw [hY] at HST HY
              clear hir ht hY
              obtain ⟨wb, hwb⟩ : ∃ wb, World.alloc wr (.cells #[.int .i64 (t.length : Int), .int .u64 (FW t 0 : Int), .int .u64 (FW t 1 : Int), .int .u64 (FW t 2 : Int), .int .u64 (FW t 3 : Int), .int .u64 (OW t 0 : Int), .int .u64 (OW t 1 : Int), .int .u64 (OW t 2 : Int), .int .u64 (OW t 3 : Int)] 34 (0, 0)) = wb := ⟨_, rfl⟩
              have hal : Below (World.heap wr).size wr wb := by rw [← hwb]; exact belA (Below.refl _ _) _
              have hgt : wb.heap[(World.heap wr).size]? = some (.cells #[.int .i64 (t.length : Int), .int .u64 (FW t 0 : Int), .int .u64 (FW t 1 : Int), .int .u64 (FW t 2 : Int), .int .u64 (FW t 3 : Int), .int .u64 (OW t 0 : Int), .int .u64 (OW t 1 : Int), .int .u64 (OW t 2 : Int), .int .u64 (OW t 3 : Int)] 34 (0, 0)) := by rw [← hwb]; exact alloc_get _ _
              have HGT : Hid (wb.heap[(World.heap wr).size]? = some (.cells #[.int .i64 (t.length : Int), .int .u64 (FW t 0 : Int), .int .u64 (FW t 1 : Int), .int .u64 (FW t 2 : Int), .int .u64 (FW t 3 : Int), .int .u64 (OW t 0 : Int), .int .u64 (OW t 1 : Int), .int .u64 (OW t 2 : Int), .int .u64 (OW t 3 : Int)] 34 (0, 0))) := hgt
              have HW4 : Hid (Calls Tryz.prog 36 #[.pointer (some ⟨W1.heap.size, 0, none⟩), .string ⟨#[45]⟩] wb fun e w' => e = .returned (.tuple #[.int .i64 1, .nilIface]) ∧ TXI W1 w' (Y ++ [45]) ∧ KT wb w') := (HY.out.below hal).write [45] (by simp; omega)
              clear hgt hal HY
              go_wp2_with fail
              refine HW4.out.mono ?_
              rintro e W4 ⟨rfl, HX4, kt4⟩
              have hcw4 := (cells_block (kt4 _ _ _ _ HGT.out (by decide) (by decide))).1
              have HX4' : Hid (TXI W1 W4 (Y ++ [45])) := HX4
              have HTx : Hid (Calls Tryz.prog 37 #[.agg #[.int .i64 (t.length : Int), .int .u64 (FW t 0 : Int), .int .u64 (FW t 1 : Int), .int .u64 (FW t 2 : Int), .int .u64 (FW t 3 : Int), .int .u64 (OW t 0 : Int), .int .u64 (OW t 1 : Int), .int .u64 (OW t 2 : Int), .int .u64 (OW t 3 : Int)]] W4 fun e w' => e = .returned (.string ⟨t.toArray⟩) ∧ Below W4.heap.size W4 w') := text_any t W4 gt
              clear HX4 kt4 HGT HW4 hwb p0 p1 p2 p3 p4 p5 p6 p7 p8
              go_wp2_with fail
              refine HTx.out.mono ?_
              rintro e W5 ⟨rfl, hb5⟩
              have HW5 : Hid (Calls Tryz.prog 36 #[.pointer (some ⟨W1.heap.size, 0, none⟩), .string ⟨t.toArray⟩] W5 fun e w' => e = .returned (.tuple #[.int .i64 (t.length : Int), .nilIface]) ∧ TXI W1 w' (Y ++ [45] ++ t) ∧ KT W5 w') := (HX4'.out.below hb5).write t (by simp; omega)
              clear hb5 HX4' HTx hcw4
              go_wp2_with fail
              refine HW5.out.mono ?_
              rintro e W6 ⟨rfl, HX6, -⟩
              have HX6' : Hid (TXI W1 W6 (Y1 ++ txL (R.take (j + 1)))) := by unfold Hid; rw [HST.out]; exact HX6
              clear HX6 HW5
              go_wp2_with fail
              go_roundw
              case rel => exact ⟨j + 1, by go_num, by omega, HX6'⟩
              case measure => simp [intOf]; omega
            · have j1 : ¬ (j : Int) < (R.length : Int) := by omega
              have e : R.take j = R := List.take_of_length_le (by omega)
              rw [e] at HY
              have HN : Hid (TXI W1 wr (jn ((Z.take (i + 1)).map txZ))) := by
                unfold Hid
                rw [HSTP.out]
                have h1 := HY.out
                rw [← HYT.out] at h1
                unfold txZ
                simpa using h1
              clear e HY
              go_wp2_with fail
              go_roundw
              case rel => exact ⟨i + 1, by go_num, by omega, HN⟩
              case measure => simp [intOf]; omega
      · have j1 : ¬ (i : Int) < (n : Int) := by omega
        have e : Z.take i = Z := List.take_of_length_le (by rw [HN.out]; omega)
        rw [e] at HX
        clear e
        have HS : Hid (Calls Tryz.prog 38 #[.pointer (some ⟨W1.heap.size, 0, none⟩)] wr fun e w' => e = .returned (.string ⟨(jn (Z.map txZ)).toArray⟩) ∧ Below W1.heap.size wr w') := bstr_any W1.heap.size W1.heap.size _ wr HX.out.1 HX.out.2.2.size
        go_wp2_with fail
        refine HS.out.mono ?_
        rintro e W7 ⟨rfl, hb7⟩
        go_wp2_with fail
        go_ret
        exact ⟨by rw [HTX.out]; rfl, KW.out.2.trans ((HX.out.2.2.trans hb7).mono KW.out.2.size)⟩
end Go.Proofs.YtekjbpemaohipaaGreatDoor
