import Derived.Test.YtmblloddhpcdeacY6
namespace Go.Proofs.Ytmblloddhpcdeac
open Go.RowKit Go.Shelf

attribute [local go_sem] Oper.semAt_some

theorem info_strY : (Try.prog.info? 9).map (fun i => (i.zero, i.size, i.bytes)) = some (some (.string ⟨#[]⟩), 1, 16) := by kernel_rfl
/-- the first k headers, as strings -/
def mL (t : List UInt8) : Nat → List Value
  | 0 => []
  | k + 1 => mL t k ++ [.string ⟨(ms t k).toArray⟩]
/-- m headers have come, and no more than N were asked for -/
def upTo (t : List UInt8) (N m : Nat) : Prop := 1 ≤ m ∧ m ≤ N ∧ lv t (m - 1) ∧ (m = N ∨ (nx t (ms t (m - 1))).2 = false)
theorem bel_grow {B : Nat} {w W W' : World} {row : Option Nat} (hB : Below B w W) (hg : W.grownBy W' row) (h1 : B ≤ W.heap.size) (h : ∀ k, row = some k → B ≤ k) : Below B w W' := hB.grown hg h1 h

theorem growY {W w' : World} {row : Option Nat} {b : Nat} {o : Obj} (hg : W.grownBy w' row) (h : W.heap[b]? = some o) (hne : row ≠ some b) : w'.heap[b]? = some o := (hg.block b (lt_of_get h) (fun e => hne e.symm)).trans h
theorem growO {W w' : World} {row : Option Nat} {b : Nat} {o : Obj} (hg : W.grownBy w' row) (h : W.heap[b]? = some o) (hne : row ≠ some b) : w'.heap[b]? = some o := growY hg h hne
theorem own_noL {W : World} {B g n : Nat} {e : TypeId} {sz : Nat} {v : Value} {xs : List Value} {r : Loop} (h : W.ownsRow B e sz v n xs) (hk : W.heap[g]? = some (.loop r)) : v.ownBlock ≠ some g := by
  intro hb
  rcases h.2 with ⟨rfl, _⟩ | ⟨g2, c2, cur2, rfl, _, hg2, _⟩
  · cases hb
  · have : g2 = g := by injection hb
    subst this
    rw [hk] at hg2
    cases hg2
theorem own_noD {W : World} {B g n : Nat} {e : TypeId} {sz : Nat} {v : Value} {xs : List Value} {d : Option (List Deferred)} (h : W.ownsRow B e sz v n xs) (hk : W.heap[g]? = some (.deferred d)) : v.ownBlock ≠ some g := by
  intro hb
  rcases h.2 with ⟨rfl, _⟩ | ⟨g2, c2, cur2, rfl, _, hg2, _⟩
  · cases hb
  · have : g2 = g := by injection hb
    subst this
    rw [hk] at hg2
    cases hg2
theorem KT_put {W : World} {l : Nat} {r : Loop} {o : Obj} (h : W.heap[l]? = some (.loop r)) : KT W (W.putObj l o) := by
  intro b cs T m hb _
  exact World.putObj_heap_other (fun e => by rw [e, h] at hb; cases hb)
theorem own_shapeZ {W : World} {B n : Nat} {e : TypeId} {sz : Nat} {v : Value} {xs : List Value} (h : W.ownsRow B e sz v n xs) : ∃ q c, v = .slice q n c := by
  rcases h.2 with ⟨rfl, rfl⟩ | ⟨g, c, _, rfl, _⟩
  · exact ⟨_, _, rfl⟩
  · exact ⟨_, _, rfl⟩

set_option maxRecDepth 100000 in
set_option maxHeartbeats 2000000 in
theorem some_any (t : List UInt8) (N : Nat) (w : World) (gt : good t = true) (h1 : 1 ≤ t.length) (hN1 : 1 ≤ N) (hN2 : N ≤ 10000) :
    Calls Try.prog 27 #[cubeV t, .int .i64 (N : Int)] w fun e w' => ∃ m v, e = .returned v ∧ upTo t N m ∧ w'.ownsRow w.heap.size 9 1 v m (mL t m) ∧ Below w.heap.size w w' := by
  obtain ⟨i0, hi, hz0, hz1, hz2⟩ := info_parts info_strY
  have hn := seq_nil
  have n1 : ¬ (N : Int) < 1 := by omega
  refine (callsIn_wide (n := 4)).1 ?_
  unfold cubeV cv
  refine callsIn_of_wp_marks Try.func27 rfl trivial ?_ rfl
  simp only [Try.ntmps27, List.size_toArray, List.length_cons, List.length_nil, Nat.reduceAdd, Nat.reduceSub, Array.replicate_succ, Array.replicate_zero, List.push_toArray, List.append_toArray, List.nil_append, List.cons_append]
  gi_wp2_with (refine ⟨trivial, ?_⟩; gi_at_call 23; refine (callsIn_wide.2 (members_in _ _ _ _ _ _ _ _ _ _)).mono ?_; rintro e w' ⟨rfl, rfl⟩)
  refine range_by rfl (by omega) (gf := 48) (lb := #[.pointer (some ⟨w.heap.size + 1 + 1 + 1, 0, none⟩)]) rfl trivial (enters_of Try.func48 (by kernel_rfl) rfl) ?_
  intro fn hfn
  obtain ⟨S, hS⟩ : ∃ S, w.heap.size = S := ⟨_, rfl⟩
  have Hs : Hid (w.heap.size = S) := hS
  simp only [World.size_alloc, hS]
  generalize hR : recOf fn _ _ _ _ _ = R
  have rs : R.state = .ready := by rw [← hR]; rfl
  have rp : R.pending = none := by rw [← hR]; rfl
  have rf : R.fn = fn := by rw [← hR]; rfl
  have rq : R.params = #[18] := by rw [← hR]; rfl
  have b0 : Below w.heap.size w w := Below.refl _ _
  have bA := belA (belA (belA (belA (belA (belA b0 (.cells (#[.int .i64 (t.length : Int), .int .u64 (FW t 0 : Int), .int .u64 (FW t 1 : Int), .int .u64 (FW t 2 : Int), .int .u64 (FW t 3 : Int), .int .u64 (OW t 0 : Int), .int .u64 (OW t 1 : Int), .int .u64 (OW t 2 : Int), .int .u64 (OW t 3 : Int)]) 26)) (.cells #[.int .i64 (N : Int)] 3)) (.cells #[.slice none 0 0] 44)) (.cells (#[.int .i64 (t.length : Int), .int .u64 (FW t 0 : Int), .int .u64 (FW t 1 : Int), .int .u64 (FW t 2 : Int), .int .u64 (FW t 3 : Int), .int .u64 (OW t 0 : Int), .int .u64 (OW t 1 : Int), .int .u64 (OW t 2 : Int), .int .u64 (OW t 3 : Int)]) 26)) (.deferred (some []))) (.loop R)
  obtain ⟨W0, hW0⟩ : ∃ W0, (((((w.alloc (.cells (#[.int .i64 (t.length : Int), .int .u64 (FW t 0 : Int), .int .u64 (FW t 1 : Int), .int .u64 (FW t 2 : Int), .int .u64 (FW t 3 : Int), .int .u64 (OW t 0 : Int), .int .u64 (OW t 1 : Int), .int .u64 (OW t 2 : Int), .int .u64 (OW t 3 : Int)]) 26)).alloc (.cells #[.int .i64 (N : Int)] 3)).alloc (.cells #[.slice none 0 0] 44)).alloc (.cells (#[.int .i64 (t.length : Int), .int .u64 (FW t 0 : Int), .int .u64 (FW t 1 : Int), .int .u64 (FW t 2 : Int), .int .u64 (FW t 3 : Int), .int .u64 (OW t 0 : Int), .int .u64 (OW t 1 : Int), .int .u64 (OW t 2 : Int), .int .u64 (OW t 3 : Int)]) 26)).alloc (.deferred (some []))).alloc (.loop R) = W0 := ⟨_, rfl⟩
  have q1 : W0.heap[S + 1]? = some (.cells #[.int .i64 (N : Int)] 3 (0, 0)) := by
    have := alloc_get (w.alloc (.cells (#[.int .i64 (t.length : Int), .int .u64 (FW t 0 : Int), .int .u64 (FW t 1 : Int), .int .u64 (FW t 2 : Int), .int .u64 (FW t 3 : Int), .int .u64 (OW t 0 : Int), .int .u64 (OW t 1 : Int), .int .u64 (OW t 2 : Int), .int .u64 (OW t 3 : Int)]) 26)) (.cells #[.int .i64 (N : Int)] 3)
    simp only [World.size_alloc, hS] at this
    rw [← hW0]; exact allocblk (allocblk (allocblk (allocblk this _) _) _) _
  have q2 : W0.heap[S + 1 + 1]? = some (.cells #[.slice none 0 0] 44 (0, 0)) := by
    have := alloc_get ((w.alloc (.cells (#[.int .i64 (t.length : Int), .int .u64 (FW t 0 : Int), .int .u64 (FW t 1 : Int), .int .u64 (FW t 2 : Int), .int .u64 (FW t 3 : Int), .int .u64 (OW t 0 : Int), .int .u64 (OW t 1 : Int), .int .u64 (OW t 2 : Int), .int .u64 (OW t 3 : Int)]) 26)).alloc (.cells #[.int .i64 (N : Int)] 3)) (.cells #[.slice none 0 0] 44)
    simp only [World.size_alloc, hS] at this
    rw [← hW0]; exact allocblk (allocblk (allocblk this _) _) _
  have q3 : W0.heap[S + 1 + 1 + 1]? = some (.cells (#[.int .i64 (t.length : Int), .int .u64 (FW t 0 : Int), .int .u64 (FW t 1 : Int), .int .u64 (FW t 2 : Int), .int .u64 (FW t 3 : Int), .int .u64 (OW t 0 : Int), .int .u64 (OW t 1 : Int), .int .u64 (OW t 2 : Int), .int .u64 (OW t 3 : Int)]) 26 (0, 0)) := by
    have := alloc_get (((w.alloc (.cells (#[.int .i64 (t.length : Int), .int .u64 (FW t 0 : Int), .int .u64 (FW t 1 : Int), .int .u64 (FW t 2 : Int), .int .u64 (FW t 3 : Int), .int .u64 (OW t 0 : Int), .int .u64 (OW t 1 : Int), .int .u64 (OW t 2 : Int), .int .u64 (OW t 3 : Int)]) 26)).alloc (.cells #[.int .i64 (N : Int)] 3)).alloc (.cells #[.slice none 0 0] 44)) (.cells (#[.int .i64 (t.length : Int), .int .u64 (FW t 0 : Int), .int .u64 (FW t 1 : Int), .int .u64 (FW t 2 : Int), .int .u64 (FW t 3 : Int), .int .u64 (OW t 0 : Int), .int .u64 (OW t 1 : Int), .int .u64 (OW t 2 : Int), .int .u64 (OW t 3 : Int)]) 26)
    simp only [World.size_alloc, hS] at this
    rw [← hW0]; exact allocblk (allocblk this _) _
  have q4 : W0.heap[S + 1 + 1 + 1 + 1]? = some (.deferred (some [])) := by
    have := alloc_get ((((w.alloc (.cells (#[.int .i64 (t.length : Int), .int .u64 (FW t 0 : Int), .int .u64 (FW t 1 : Int), .int .u64 (FW t 2 : Int), .int .u64 (FW t 3 : Int), .int .u64 (OW t 0 : Int), .int .u64 (OW t 1 : Int), .int .u64 (OW t 2 : Int), .int .u64 (OW t 3 : Int)]) 26)).alloc (.cells #[.int .i64 (N : Int)] 3)).alloc (.cells #[.slice none 0 0] 44)).alloc (.cells (#[.int .i64 (t.length : Int), .int .u64 (FW t 0 : Int), .int .u64 (FW t 1 : Int), .int .u64 (FW t 2 : Int), .int .u64 (FW t 3 : Int), .int .u64 (OW t 0 : Int), .int .u64 (OW t 1 : Int), .int .u64 (OW t 2 : Int), .int .u64 (OW t 3 : Int)]) 26)) (.deferred (some []))
    simp only [World.size_alloc, hS] at this
    rw [← hW0]; exact allocblk this _
  have q5 : W0.heap[S + 1 + 1 + 1 + 1 + 1]? = some (.loop R) := by
    have := alloc_get (((((w.alloc (.cells (#[.int .i64 (t.length : Int), .int .u64 (FW t 0 : Int), .int .u64 (FW t 1 : Int), .int .u64 (FW t 2 : Int), .int .u64 (FW t 3 : Int), .int .u64 (OW t 0 : Int), .int .u64 (OW t 1 : Int), .int .u64 (OW t 2 : Int), .int .u64 (OW t 3 : Int)]) 26)).alloc (.cells #[.int .i64 (N : Int)] 3)).alloc (.cells #[.slice none 0 0] 44)).alloc (.cells (#[.int .i64 (t.length : Int), .int .u64 (FW t 0 : Int), .int .u64 (FW t 1 : Int), .int .u64 (FW t 2 : Int), .int .u64 (FW t 3 : Int), .int .u64 (OW t 0 : Int), .int .u64 (OW t 1 : Int), .int .u64 (OW t 2 : Int), .int .u64 (OW t 3 : Int)]) 26)).alloc (.deferred (some []))) (.loop R)
    simp only [World.size_alloc, hS] at this
    rw [← hW0]; exact this
  have hWs : W0.heap.size = S + 1 + 1 + 1 + 1 + 1 + 1 := by rw [← hW0]; simp [hS]
  rw [hW0] at bA ⊢
  rw [hS] at bA
  clear hW0 b0
  refine (mem_in (4 - 1) (by omega) (S + 1 + 1 + 1 + 1 + 1) (S + 1 + 1 + 1) t gt h1
    (fun k W => k < N ∧ ∃ v, W.heap[S + 1 + 1]? = some (.cells #[v] 44 (0, 0)) ∧ W.ownsRow S 9 1 v k (mL t k) ∧ W.heap[S + 1]? = some (.cells #[.int .i64 (N : Int)] 3 (0, 0)) ∧ W.heap[S + 1 + 1 + 1 + 1]? = some (.deferred (some [])) ∧ W.heap[S + 1 + 1 + 1 + 1 + 1]? = some (.loop R) ∧ Below S w W)
    (fun W => lv t (N - 1) ∧ ∃ v, W.heap[S + 1 + 1]? = some (.cells #[v] 44 (0, 0)) ∧ W.ownsRow S 9 1 v N (mL t N) ∧ W.heap[S + 1 + 1 + 1 + 1]? = some (.deferred (some [])) ∧ (∃ r, W.heap[S + 1 + 1 + 1 + 1 + 1]? = some (.loop r) ∧ r.state = .done ∧ r.pending = some (.exit 0)) ∧ Below S w W)
    W0 ?hst ?hY q3 ?h0).mono ?post
  case h0 => exact ⟨by omega, _, q2, World.ownsRow_nil _ _ _ _, q1, q4, q5, bA⟩
  case hst =>
    rintro k W W' row ⟨hk, v, a1, a2, a3, a4, a5, a6⟩ hg hrow
    have ne : ∀ x, x < S + 1 + 1 + 1 + 1 + 1 + 1 → some x ≠ row := fun x hx e => by have := (hrow x e.symm).1; omega
    refine ⟨hk, v, (hg.block _ (lt_of_get a1) (ne _ (by omega))).trans a1, a2.kept hg ?_, (hg.block _ (lt_of_get a3) (ne _ (by omega))).trans a3, (hg.block _ (lt_of_get a4) (ne _ (by omega))).trans a4, (hg.block _ (lt_of_get a5) (ne _ (by omega))).trans a5, bel_grow a6 hg (by rw [← Hs.out]; exact a6.size) (fun x e => by have := (hrow x e).1; omega)⟩
    cases row with
    | none =>
      cases hv : v.ownBlock with
      | none => exact .inl rfl
      | some x => exact .inr (fun e => by cases e)
    | some r =>
      obtain ⟨_, cs, m, hr⟩ := hrow r rfl
      exact .inr (own_not a2 hr (by decide))
  case post =>
    rintro e W ⟨hv, hJ⟩
    refine ⟨hv, ?_⟩
    rcases hJ with ⟨k, hlv, hnx, hk, v, a1, a2, a3, a4, a5, a6⟩ | ⟨hlv, v, a1, a2, a4, ⟨r, a5, hrs, hrp⟩, a6⟩
    · refine ⟨R, a5, (fun e => by rw [rs] at e; cases e), .inl ⟨rp, ?_⟩⟩
      have HU : Hid (upTo t N (k + 1)) := ⟨by omega, by omega, hlv, .inr hnx⟩
      have k1 := put_other (o' := .loop { R with state := .exhausted }) a1 (show S + 1 + 1 ≠ S + 1 + 1 + 1 + 1 + 1 by omega)
      have k4 := put_other (o' := .loop { R with state := .exhausted }) a4 (show S + 1 + 1 + 1 + 1 ≠ S + 1 + 1 + 1 + 1 + 1 by omega)
      have k2 := ownsRow_putObj a2 (.loop { R with state := .exhausted }) a5 rfl
      have k6 := bel_grow a6 (grownBy_putObj' W (S + 1 + 1 + 1 + 1 + 1) (.loop { R with state := .exhausted })) (by rw [← Hs.out]; exact a6.size) (fun x e => by cases e; omega)
      obtain ⟨V, hV⟩ : ∃ V, W.putObj (S + 1 + 1 + 1 + 1 + 1) (.loop { R with state := .exhausted }) = V := ⟨_, rfl⟩
      rw [hV] at k1 k2 k4 k6 ⊢
      clear hV a1 a2 a4 a5 a6
      have c1 := (cells_block k1).1
      gi_wp2
      refine ⟨by simp, .inl ⟨_, _, rfl, run_takeDeferred k4, ?_⟩⟩
      exact ⟨_, results_tmp rfl _ _ _, k + 1, v, rfl, HU.out, by rw [Hs.out]; exact ownsRow_putObj k2 _ k4 rfl, by rw [Hs.out]; exact bel_grow k6 (grownBy_putObj' V (S + 1 + 1 + 1 + 1) (.deferred none)) (by rw [← Hs.out]; exact k6.size) (fun x e => by cases e; omega)⟩
    · refine ⟨r, a5, (fun e => by rw [hrs] at e; cases e), .inr ⟨_, hrp, ?_⟩⟩
      have HU : Hid (upTo t N N) := ⟨hN1, Nat.le_refl _, hlv, .inl rfl⟩
      have k1 := put_other (o' := .loop { r with state := .exhausted }) a1 (show S + 1 + 1 ≠ S + 1 + 1 + 1 + 1 + 1 by omega)
      have k4 := put_other (o' := .loop { r with state := .exhausted }) a4 (show S + 1 + 1 + 1 + 1 ≠ S + 1 + 1 + 1 + 1 + 1 by omega)
      have k2 := ownsRow_putObj a2 (.loop { r with state := .exhausted }) a5 rfl
      have k6 := bel_grow a6 (grownBy_putObj' W (S + 1 + 1 + 1 + 1 + 1) (.loop { r with state := .exhausted })) (by rw [← Hs.out]; exact a6.size) (fun x e => by cases e; omega)
      obtain ⟨V, hV⟩ : ∃ V, W.putObj (S + 1 + 1 + 1 + 1 + 1) (.loop { r with state := .exhausted }) = V := ⟨_, rfl⟩
      rw [hV] at k1 k2 k4 k6 ⊢
      clear hV a1 a2 a4 a5 a6
      have c1 := (cells_block k1).1
      gi_wp2
      refine ⟨by simp, .inl ⟨_, _, rfl, run_takeDeferred k4, ?_⟩⟩
      exact ⟨_, results_tmp rfl _ _ _, N, v, rfl, HU.out, by rw [Hs.out]; exact ownsRow_putObj k2 _ k4 rfl, by rw [Hs.out]; exact bel_grow k6 (grownBy_putObj' V (S + 1 + 1 + 1 + 1) (.deferred none)) (by rw [← Hs.out]; exact k6.size) (fun x e => by cases e; omega)⟩
  case hY =>
    rintro k W hlv ⟨hk, v, a1, a2, a3, a4, a5, a6⟩
    have p1 := put_other (o' := .loop { R with state := .busy }) a1 (show S + 1 + 1 ≠ S + 1 + 1 + 1 + 1 + 1 by omega)
    have p3 := put_other (o' := .loop { R with state := .busy }) a3 (show S + 1 ≠ S + 1 + 1 + 1 + 1 + 1 by omega)
    have p4 := put_other (o' := .loop { R with state := .busy }) a4 (show S + 1 + 1 + 1 + 1 ≠ S + 1 + 1 + 1 + 1 + 1 by omega)
    have p2 := ownsRow_putObj a2 (.loop { R with state := .busy }) a5 rfl
    have p5 : (W.putObj (S + 1 + 1 + 1 + 1 + 1) (.loop { R with state := .busy })).heap[S + 1 + 1 + 1 + 1 + 1]? = some (.loop { R with state := .busy }) := World.putObj_heap_same (lt_of_get a5)
    have p6 := bel_grow a6 (grownBy_putObj' W (S + 1 + 1 + 1 + 1 + 1) (.loop { R with state := .busy })) (by rw [← Hs.out]; exact a6.size) (fun x e => by cases e; omega)
    have pK : KT W (W.putObj (S + 1 + 1 + 1 + 1 + 1) (.loop { R with state := .busy })) := KT_put a5
    refine (round_by (F := Fence.wide) (m := 4 - 1 - 1) (In := fun W' => (k + 1 < N ∧ ∃ v, W'.heap[S + 1 + 1]? = some (.cells #[v] 44 (0, 0)) ∧ W'.ownsRow S 9 1 v (k + 1) (mL t (k + 1)) ∧ W'.heap[S + 1]? = some (.cells #[.int .i64 (N : Int)] 3 (0, 0)) ∧ W'.heap[S + 1 + 1 + 1 + 1]? = some (.deferred (some [])) ∧ W'.heap[S + 1 + 1 + 1 + 1 + 1]? = some (.loop R) ∧ Below S w W') ∧ KT W W')
      (Out := fun c W' => lv t (N - 1) ∧ ∃ v, W'.heap[S + 1 + 1]? = some (.cells #[v] 44 (0, 0)) ∧ W'.ownsRow S 9 1 v N (mL t N) ∧ W'.heap[S + 1 + 1 + 1 + 1]? = some (.deferred (some [])) ∧ (∃ r, W'.heap[S + 1 + 1 + 1 + 1 + 1]? = some (.loop r) ∧ r.state = .done ∧ r.pending = some (.exit 0)) ∧ Below S w W')
      (by rw [rf]; exact hfn) a5 rs rp (by rw [rq]; rfl) ?a1 ?has ?hb).mono ?_
    case has =>
      intro K hK
      rw [congrArg Loop.assign hR.symm, rq, congrArg Loop.tmps hR.symm]
      simp only [recOf]
      gi_wp2
      exact hK
    case hb =>
      obtain ⟨V, hV⟩ : ∃ V, W.putObj (S + 1 + 1 + 1 + 1 + 1) (.loop { R with state := .busy }) = V := ⟨_, rfl⟩
      rw [hV] at p1 p2 p3 p4 p5 p6 pK ⊢
      rw [congrArg Loop.body hR.symm]
      simp only [recOf]
      clear hV a1 a2 a3 a4 a5 a6
      obtain ⟨q, c, rfl⟩ := own_shapeZ p2
      have c1 := (cells_block p1).1
      have HG : Hid (∀ w1 v' V5, w1.ownsRow S 9 1 v' (k + 1) (mL t k ++ [.string ⟨(ms t k).toArray⟩]) → (V.alloc (.cells #[.string ⟨(ms t k).toArray⟩] 9)).grownBy w1 (Value.slice q k c).ownBlock → w1.setCell ⟨S + 1 + 1, 0, none⟩ v' = V5 →
          V5.heap[S + 1 + 1 + 1 + 1 + 1]? = some (.loop { R with state := .busy }) ∧ ∀ r', (V5.putObj (S + 1 + 1 + 1 + 1 + 1) (.loop r')).ownsRow S 9 1 v' (k + 1) (mL t (k + 1)) ∧ (V5.putObj (S + 1 + 1 + 1 + 1 + 1) (.loop r')).heap[S + 1 + 1 + 1 + 1]? = some (.deferred (some [])) ∧ (V5.putObj (S + 1 + 1 + 1 + 1 + 1) (.loop r')).heap[S + 1 + 1 + 1 + 1 + 1]? = some (.loop r') ∧ Below S w (V5.putObj (S + 1 + 1 + 1 + 1 + 1) (.loop r')) ∧ KT W (V5.putObj (S + 1 + 1 + 1 + 1 + 1) (.loop r'))) := by
        intro w1 v' V5 hown' hgrow hV5
        have t5 := growO hgrow (allocblk p5 _) (own_noL p2 p5)
        have t4 := growO hgrow (allocblk p4 _) (own_noD p2 p4)
        have t1 := growY hgrow (allocblk p1 _) (own_not p2 p1 (by decide))
        have u5 : V5.heap[S + 1 + 1 + 1 + 1 + 1]? = some (.loop { R with state := .busy }) := by rw [← hV5]; exact set_other t5 (by omega)
        have u4 : V5.heap[S + 1 + 1 + 1 + 1]? = some (.deferred (some [])) := by rw [← hV5]; exact set_other t4 (by omega)
        have u2 : V5.ownsRow S 9 1 v' (k + 1) (mL t k ++ [.string ⟨(ms t k).toArray⟩]) := by rw [← hV5]; exact ownsRow_setCell_other hown' (own_not hown' t1 (by decide)) _
        have u6 : Below S w V5 := by
          rw [← hV5]
          exact (bel_grow (p6.alloc (by rw [← Hs.out]; exact p6.size) _) hgrow (by have := p6.size; simp; omega) (fun x e => (p2.lt x e).1)).setCell (p := ⟨S + 1 + 1, 0, none⟩) (by show S ≤ S + 1 + 1; omega) _
        have uK : KT W V5 := by
          intro b cs T m hb hT
          have e1 := pK b cs T m hb hT
          have hb1 : V.heap[b]? = some (.cells cs T m) := e1.trans hb
          have hb2 := growY hgrow (allocblk hb1 _) (own_not p2 hb1 (by rcases hT with rfl | rfl <;> decide))
          have hne : b ≠ S + 1 + 1 := fun e => by
            rw [e, p1] at hb1
            injection hb1 with h
            injection h with _ h _
            rcases hT with rfl | rfl <;> cases h
          rw [← hV5, hb]
          exact set_other hb2 hne
        refine ⟨u5, fun r' => ⟨ownsRow_putObj u2 _ u5 rfl, put_other u4 (by omega), World.putObj_heap_same (lt_of_get u5), bel_grow u6 (grownBy_putObj' V5 (S + 1 + 1 + 1 + 1 + 1) (.loop r')) (by rw [← Hs.out]; exact u6.size) (fun x e => by cases e; omega), fun b cs T m hb hT => ?_⟩⟩
        have e1 := uK b cs T m hb hT
        exact (KT_put u5 b cs T m (e1.trans hb) hT).trans e1
      obtain ⟨qe, hqe⟩ : ∃ q, (((k : Int) + 1) == (N : Int)) = q := ⟨_, rfl⟩
      cases qe
      · have hkN : k + 1 < N := by have : ¬ ((k : Int) + 1 = (N : Int)) := by simpa using hqe
                                   omega
        gi_wp2_with (gi_at_builtin; refine wpListIn_append_own _ rfl _ _ 44 rfl S 9 i0 (.string ⟨#[]⟩) 1 16 Try.underlying44 hi hz0 hz1 hz2 rfl (by decide) _ _ _ rfl (p2.alloc _) ⟨V.heap.size, 0, none⟩ 1 1 [.string ⟨(ms t k).toArray⟩] rfl rfl (cell_one_new _ _ _) (by simp [Value.oneCell']) (by unfold maxLen; omega) (by omega) (by have := p6.size; simp; omega) ?_; intro v' w1 hown' hgrow _; obtain ⟨g', cap', rfl⟩ := ownsRow_succ hown'; have r1 := growY hgrow (allocblk p1 _) (own_not p2 p1 (by decide)); have r3 := growY hgrow (allocblk p3 _) (own_not p2 p3 (by decide)); have c5 := (cells_block r1).1; have f5 := (cells_block r1).2; obtain ⟨V5, hV5⟩ : ∃ V5, w1.setCell ⟨S + 1 + 1, 0, none⟩ (.slice (some ⟨g', 0, none⟩) (k + 1) cap') = V5 := ⟨_, rfl⟩; have s1 : V5.heap[S + 1 + 1]? = some (.cells #[.slice (some ⟨g', 0, none⟩) (k + 1) cap'] 44 (0, 0)) := (by rw [← hV5]; exact set_one _ r1); have s3 : V5.heap[S + 1]? = some (.cells #[.int .i64 (N : Int)] 3 (0, 0)) := (by rw [← hV5]; exact set_other r3 (by omega)); have d1 := (cells_block s1).1; have d3 := (cells_block s3).1)
        obtain ⟨z1, z2⟩ := HG.out w1 _ V5 hown' hgrow hV5
        obtain ⟨y1, y2, y3, y4, y5⟩ := z2 R
        exact ⟨z1, ⟨hkN, _, put_other s1 (by omega), y1, put_other s3 (by omega), y2, y3, y4⟩, y5⟩
      · have hkN : k + 1 = N := by have : ((k : Int) + 1 = (N : Int)) := by simpa using hqe
                                   omega
        have Hkn : Hid (k + 1 = N) := hkN
        clear hkN
        gi_wp2_with (gi_at_builtin; refine wpListIn_append_own _ rfl _ _ 44 rfl S 9 i0 (.string ⟨#[]⟩) 1 16 Try.underlying44 hi hz0 hz1 hz2 rfl (by decide) _ _ _ rfl (p2.alloc _) ⟨V.heap.size, 0, none⟩ 1 1 [.string ⟨(ms t k).toArray⟩] rfl rfl (cell_one_new _ _ _) (by simp [Value.oneCell']) (by unfold maxLen; omega) (by omega) (by have := p6.size; simp; omega) ?_; intro v' w1 hown' hgrow _; obtain ⟨g', cap', rfl⟩ := ownsRow_succ hown'; have r1 := growY hgrow (allocblk p1 _) (own_not p2 p1 (by decide)); have r3 := growY hgrow (allocblk p3 _) (own_not p2 p3 (by decide)); have c5 := (cells_block r1).1; have f5 := (cells_block r1).2; obtain ⟨V5, hV5⟩ : ∃ V5, w1.setCell ⟨S + 1 + 1, 0, none⟩ (.slice (some ⟨g', 0, none⟩) (k + 1) cap') = V5 := ⟨_, rfl⟩; have s1 : V5.heap[S + 1 + 1]? = some (.cells #[.slice (some ⟨g', 0, none⟩) (k + 1) cap'] 44 (0, 0)) := (by rw [← hV5]; exact set_one _ r1); have s3 : V5.heap[S + 1]? = some (.cells #[.int .i64 (N : Int)] 3 (0, 0)) := (by rw [← hV5]; exact set_other r3 (by omega)); have d1 := (cells_block s1).1; have d3 := (cells_block s3).1)
        obtain ⟨z1, z2⟩ := HG.out w1 _ V5 hown' hgrow hV5
        obtain ⟨y1, y2, y3, y4, y5⟩ := z2 { R with state := .done, pending := some (.exit 0) }
        refine ⟨z1, ?_, _, put_other s1 (by omega), ?_, y2, ⟨_, y3, rfl, rfl⟩, y4⟩
        · rw [← Hkn.out]; exact hlv
        · rw [← Hkn.out]; exact y1
    · rintro e W' (⟨rfl, hIn, hK⟩ | ⟨rfl, c, hO⟩)
      · exact .inl ⟨rfl, hIn, hK⟩
      · exact .inr ⟨rfl, hO⟩
end Go.Proofs.Ytmblloddhpcdeac
