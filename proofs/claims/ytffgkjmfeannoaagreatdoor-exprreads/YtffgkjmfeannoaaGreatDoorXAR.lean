import Derived.Test.YtffgkjmfeannoaaGreatDoorXAQ
import Derived.RegionIn
namespace Go.Proofs.YtffgkjmfeannoaaGreatDoor
open Go.RowKit Go.Shelf
structure FS (w : World) (S : Nat) (x : Int) (r : List UInt8) (lo : Loop) (W : World) : Prop where
  a0 : W.heap[S]? = some (.cells #[.int .i64 x] 26 (0, 0))
  a4 : W.heap[S + 1]? = some (.cells #[.string ⟨r.toArray⟩] 9 (0, 0))
  a5 : W.heap[S + 1 + 1]? = some (.cells #[.string ⟨#[46]⟩] 9 (0, 0))
  a6 : W.heap[S + 1 + 1 + 1]? = some (.cells #[.int .i64 0] 3 (0, 0))
  a7 : W.heap[S + 1 + 1 + 1 + 1]? = some (.deferred (some []))
  a8 : W.heap[S + 1 + 1 + 1 + 1 + 1]? = some (.loop lo)
  be : Below S w W
  sz : w.heap.size = S
theorem FS.loop {w W : World} {S : Nat} {x : Int} {r : List UInt8} {lo : Loop} (h : FS w S x r lo W) (lo' : Loop) : FS w S x r lo' (W.putObj (S + 1 + 1 + 1 + 1 + 1) (.loop lo')) :=
  ⟨put_other h.a0 (by omega), put_other h.a4 (by omega), put_other h.a5 (by omega), put_other h.a6 (by omega), put_other h.a7 (by omega), World.putObj_heap_same (lt_of_get h.a8), bel_grow h.be (grownBy_putObj' W _ _) (by rw [← h.sz]; exact h.sz ▸ h.be.size) (fun x e => by cases e; omega), h.sz⟩
theorem FS.set0 {w W : World} {S : Nat} {x : Int} {r : List UInt8} {lo : Loop} (h : FS w S x r lo W) (y : Int) : FS w S y r lo (W.setCell ⟨S, 0, none⟩ (.int .i64 y)) :=
  ⟨set_one _ h.a0, set_other h.a4 (by omega), set_other h.a5 (by omega), set_other h.a6 (by omega), set_other h.a7 (by omega), set_other h.a8 (by omega), h.be.setCell (p := ⟨S, 0, none⟩) (Nat.le_refl _) _, h.sz⟩
theorem FS.sets {w W : World} {S : Nat} {x : Int} {r : List UInt8} {lo : Loop} (h : FS w S x r lo W) (y : List UInt8) : FS w S x y lo (W.setCell ⟨S + 1, 0, none⟩ (.string ⟨y.toArray⟩)) :=
  ⟨set_other h.a0 (by omega), set_one _ h.a4, set_other h.a5 (by omega), set_other h.a6 (by omega), set_other h.a7 (by omega), set_other h.a8 (by omega), h.be.setCell (p := ⟨S + 1, 0, none⟩) (by show S ≤ S + 1; omega) _, h.sz⟩
theorem FS_start (w : World) (S : Nat) (l : List UInt8) (R : Loop) (hS : w.heap.size = S) : FS w S 0 l R ((((((w.alloc (.cells #[.int .i64 0] 26)).alloc (.cells #[.string ⟨l.toArray⟩] 9)).alloc (.cells #[.string ⟨#[46]⟩] 9)).alloc (.cells #[.int .i64 0] 3)).alloc (.deferred (some []))).alloc (.loop R)) := by
  subst hS
  obtain ⟨w1, e1⟩ : ∃ w1, w.alloc (.cells #[.int .i64 0] 26) = w1 := ⟨_, rfl⟩
  have z1 : w1.heap.size = w.heap.size + 1 := by rw [← e1]; simp
  obtain ⟨w2, e2⟩ : ∃ w2, w1.alloc (.cells #[.string ⟨l.toArray⟩] 9) = w2 := ⟨_, rfl⟩
  have z2 : w2.heap.size = w.heap.size + 1 + 1 := by rw [← e2]; simp [z1]
  obtain ⟨w3, e3⟩ : ∃ w3, w2.alloc (.cells #[.string ⟨#[46]⟩] 9) = w3 := ⟨_, rfl⟩
  have z3 : w3.heap.size = w.heap.size + 1 + 1 + 1 := by rw [← e3]; simp [z2]
  obtain ⟨w4, e4⟩ : ∃ w4, w3.alloc (.cells #[.int .i64 0] 3) = w4 := ⟨_, rfl⟩
  have z4 : w4.heap.size = w.heap.size + 1 + 1 + 1 + 1 := by rw [← e4]; simp [z3]
  obtain ⟨w5, e5⟩ : ∃ w5, w4.alloc (.deferred (some [])) = w5 := ⟨_, rfl⟩
  have z5 : w5.heap.size = w.heap.size + 1 + 1 + 1 + 1 + 1 := by rw [← e5]; simp [z4]
  rw [e1, e2, e3, e4, e5]
  have k1 : w1.heap[w.heap.size]? = some (.cells #[.int .i64 0] 26 (0, 0)) := by rw [← e1]; exact alloc_get _ _
  have k2 : w2.heap[w.heap.size + 1]? = some (.cells #[.string ⟨l.toArray⟩] 9 (0, 0)) := by rw [← e2, ← z1]; exact alloc_get _ _
  have k3 : w3.heap[w.heap.size + 1 + 1]? = some (.cells #[.string ⟨#[46]⟩] 9 (0, 0)) := by rw [← e3, ← z2]; exact alloc_get _ _
  have k4 : w4.heap[w.heap.size + 1 + 1 + 1]? = some (.cells #[.int .i64 0] 3 (0, 0)) := by rw [← e4, ← z3]; exact alloc_get _ _
  have k5 : w5.heap[w.heap.size + 1 + 1 + 1 + 1]? = some (.deferred (some [])) := by rw [← e5, ← z4]; exact alloc_get _ _
  have k6 : (w5.alloc (.loop R)).heap[w.heap.size + 1 + 1 + 1 + 1 + 1]? = some (.loop R) := by rw [← z5]; exact alloc_get _ _
  have t2 : ∀ b o, w1.heap[b]? = some o → w2.heap[b]? = some o := fun b o h => by rw [← e2]; exact allocblk h _
  have t3 : ∀ b o, w2.heap[b]? = some o → w3.heap[b]? = some o := fun b o h => by rw [← e3]; exact allocblk h _
  have t4 : ∀ b o, w3.heap[b]? = some o → w4.heap[b]? = some o := fun b o h => by rw [← e4]; exact allocblk h _
  have t5 : ∀ b o, w4.heap[b]? = some o → w5.heap[b]? = some o := fun b o h => by rw [← e5]; exact allocblk h _
  have t6 : ∀ b o, w5.heap[b]? = some o → (w5.alloc (.loop R)).heap[b]? = some o := fun b o h => allocblk h _
  refine ⟨t6 _ _ (t5 _ _ (t4 _ _ (t3 _ _ (t2 _ _ (k1))))), t6 _ _ (t5 _ _ (t4 _ _ (t3 _ _ (k2)))), t6 _ _ (t5 _ _ (t4 _ _ (k3))), t6 _ _ (t5 _ _ (k4)), t6 _ _ (k5), k6, ?_, rfl⟩
  have b0 : Below w.heap.size w w := Below.refl _ _
  have b1 := b0.alloc (Nat.le_refl _) (.cells #[.int .i64 0] 26); rw [e1] at b1
  have b2 := b1.alloc (by omega) (.cells #[.string ⟨l.toArray⟩] 9); rw [e2] at b2
  have b3 := b2.alloc (by omega) (.cells #[.string ⟨#[46]⟩] 9); rw [e3] at b3
  have b4 := b3.alloc (by omega) (.cells #[.int .i64 0] 3); rw [e4] at b4
  have b5 := b4.alloc (by omega) (.deferred (some [])); rw [e5] at b5
  exact b5.alloc (by omega) _
def lng (n : List UInt8) : Bool := decide (24 < n.length)
def FJ (w : World) (S : Nat) (l : List UInt8) (R : Loop) (r : List UInt8) (W : World) : Prop := FS w S 0 r R W ∧ r.length ≤ 16384 ∧ (parts r).any lng = (parts l).any lng
def FX (w : World) (S : Nat) (l : List UInt8) (W : World) : Prop := (parts l).any lng = true ∧ ∃ r lo, FS w S 36 r lo W ∧ lo.state = .done ∧ lo.pending = some .ret
def FE (w : World) (S : Nat) (l : List UInt8) (R : Loop) (W : World) : Prop := FX w S l W ∨ ((parts l).any lng = false ∧ ∃ r, FS w S 0 r R W)
theorem FS_done {w W : World} {S : Nat} (hS : w.heap.size = S) (h : Below S w W) (k : Nat) (hk : S ≤ k) : Below w.heap.size w (W.putObj k (.deferred none)) := QS_done_be hS h k hk
attribute [local go_sem] Oper.semAt_some
set_option maxRecDepth 100000 in
set_option maxHeartbeats 2000000 in
theorem fault2 (l : List UInt8) (w : World) (hs : l.length ≤ 16384) :
    Calls Tryz.prog 77 #[.int .i64 2, .string ⟨l.toArray⟩] w fun e w' => e = .returned (.int .i64 ((if (parts l).any lng = true then 36 else 0 : Nat) : Int)) ∧ Below w.heap.size w w' := by
  obtain ⟨Fr, hFr⟩ : ∃ Fr, (if (parts l).any lng = true then 36 else 0 : Nat) = Fr := ⟨_, rfl⟩
  rw [hFr]
  have HFr : Hid ((if (parts l).any lng = true then 36 else 0 : Nat) = Fr) := hFr
  clear hFr
  refine (callsIn_wide (n := 4)).1 ?_
  refine callsIn_of_wp_marks Tryz.func77 rfl trivial ?_ rfl
  simp only [Tryz.ntmps77, List.size_toArray, List.length_cons, List.length_nil, Nat.reduceAdd, Nat.reduceSub, Array.replicate_succ, Array.replicate_zero, List.push_toArray, List.append_toArray, List.nil_append, List.cons_append]
  gi_wp2_with (refine ⟨trivial, ?_⟩; gi_at_call 88; refine (callsIn_wide.2 (splitSeq_in l _)).mono ?_; rintro e w' ⟨rfl, rfl⟩)
  refine range_by rfl (by omega) (gf := 109) (lb := #[.pointer (some ⟨w.heap.size + 1 + 1, 0, none⟩), .pointer (some ⟨w.heap.size + 1, 0, none⟩), .pointer (some ⟨w.heap.size + 1 + 1 + 1, 0, none⟩)]) rfl trivial (enters_of Tryz.func109 (by kernel_rfl) rfl) ?_
  intro fn hfn
  obtain ⟨S, hS⟩ : ∃ S, w.heap.size = S := ⟨_, rfl⟩
  have Hs : Hid (w.heap.size = S) := hS
  simp only [World.size_alloc, hS]
  generalize hR : recOf fn _ _ _ _ _ = R
  have rs : R.state = .ready := by rw [← hR]; rfl
  have rp : R.pending = none := by rw [← hR]; rfl
  have rf : R.fn = fn := by rw [← hR]; rfl
  have rq : R.params = #[15] := by rw [← hR]; rfl
  have q0 := FS_start w S l R hS
  obtain ⟨W0, hW0⟩ : ∃ W0, ((((((w.alloc (.cells #[.int .i64 0] 26)).alloc (.cells #[.string ⟨l.toArray⟩] 9)).alloc (.cells #[.string ⟨#[46]⟩] 9)).alloc (.cells #[.int .i64 0] 3)).alloc (.deferred (some []))).alloc (.loop R)) = W0 := ⟨_, rfl⟩
  rw [hW0] at q0
  have HB : ∀ (p r : List UInt8) (W : World), FS w S 0 r R W → p.length ≤ 16384 → (lng p = true → (parts l).any lng = true) →
      YieldAt Fence.wide (4 - 1 - 1) Tryz.prog (S + 1 + 1 + 1 + 1 + 1) #[.string ⟨p.toArray⟩] W fun e W' => (e = .returned (.bool true) ∧ lng p = false ∧ FS w S 0 r R W') ∨ (e = .returned (.bool false) ∧ FX w S l W') := by
    intro p r W q hp hf
    have qb := q.loop { R with state := .busy }
    refine (round_by (F := Fence.wide) (m := 4 - 1 - 1) (In := fun W' => lng p = false ∧ FS w S 0 r R W') (Out := fun _ W' => FX w S l W') (by rw [rf]; exact hfn) q.a8 rs rp (by rw [rq]; rfl) ?a1 ?has ?hb).mono ?_
    case has =>
      intro K hK
      rw [congrArg Loop.assign hR.symm, rq, congrArg Loop.tmps hR.symm]
      simp only [recOf]
      gi_wp2
      exact hK
    case hb =>
      obtain ⟨V, hV⟩ : ∃ V, W.putObj (S + 1 + 1 + 1 + 1 + 1) (.loop { R with state := .busy }) = V := ⟨_, rfl⟩
      rw [hV] at qb ⊢
      rw [congrArg Loop.body hR.symm]
      simp only [recOf]
      clear hV
      cases hl : lng p with
      | true =>
        have hp24 : 24 < p.length := by unfold lng at hl; simpa using hl
        have i1 : (24 : Int) < (p.length : Int) := by omega
        have HQ : Hid ((parts l).any lng = true) := hf hl
        have c0 := cell_of qb.a0
        have f0 := froz_of qb.a0
        clear hf hl hp24
        gi_wp2
        have q3 := qb.set0 36
        exact ⟨q3.a8, HQ.out, _, _, q3.loop _, rfl, rfl⟩
      | false =>
        have hp24 : ¬ 24 < p.length := by unfold lng at hl; simpa using hl
        have i1 : ¬ (24 : Int) < (p.length : Int) := by omega
        clear hf hl hp24
        gi_wp2
        first | exact ⟨qb.a8, rfl, qb.loop R⟩ | exact ⟨qb.a8, qb.loop R⟩
    rintro e W' h
    rcases h with ⟨he, h⟩ | ⟨he, c, h⟩
    · exact .inl ⟨he, h⟩
    · exact .inr ⟨he, h⟩
  have hgo : CallsIn Fence.wide (4 - 1) Tryz.prog 109 #[.func (.yield (S + 1 + 1 + 1 + 1 + 1)) #[] #[], .pointer (some ⟨S + 1 + 1, 0, none⟩), .pointer (some ⟨S + 1, 0, none⟩), .pointer (some ⟨S + 1 + 1 + 1, 0, none⟩)] W0 fun e W' => (∃ v, e = .returned v) ∧ (FX w S l W' ∨ FE w S l R W') := by
    refine split_in (4 - 1) (by omega) (S + 1 + 1 + 1 + 1 + 1) (S + 1) (FJ w S l R) (FX w S l) (FE w S l R) ?hbox ?hY1 ?hY2 l W0 ⟨q0, hs, rfl⟩
    case hbox =>
      rintro r W ⟨q, hr, _⟩
      exact ⟨q.a4, q.a5, q.a6, hr⟩
    case hY1 =>
      rintro r W i ⟨q, hr, hf⟩ hi
      rw [parts_pos hi, List.any_cons] at hf
      refine (HB (r.take i) r W q (by simp; omega) (fun h => by rw [← hf, h]; rfl)).mono ?_
      rintro e W' (⟨he, hn, q'⟩ | ⟨he, hx⟩)
      · refine .inl ⟨he, q'.a4, q'.a5, q'.sets _, by simp; omega, ?_⟩
        rw [hn, Bool.false_or] at hf
        exact hf
      · exact .inr ⟨he, hx⟩
    case hY2 =>
      rintro r W ⟨q, hr, hf⟩ hi
      rw [parts_neg hi] at hf
      refine (HB r r W q hr (fun h => by rw [← hf]; simp [h])).mono ?_
      rintro e W' (⟨he, hn, q'⟩ | ⟨he, hx⟩)
      · exact ⟨⟨_, he⟩, .inr ⟨by rw [← hf]; simp [hn], r, q'⟩⟩
      · exact ⟨⟨_, he⟩, .inl hx⟩
  rw [hW0]
  refine hgo.mono ?_
  rintro e W ⟨hv1, hJ⟩
  refine ⟨hv1, ?_⟩
  have hJ2 : FX w S l W ∨ ((parts l).any lng = false ∧ ∃ r, FS w S 0 r R W) := by
    rcases hJ with h | h
    · exact .inl h
    · exact h
  rcases hJ2 with ⟨hq, r, lo, q, h1, h2⟩ | ⟨hq, r, q⟩
  · refine ⟨lo, q.a8, (fun e => by rw [h1] at e; cases e), .inr ⟨_, h2, ?_⟩⟩
    have q2 := q.loop { lo with state := .exhausted }
    have HQ : Hid ((parts l).any lng = true) := hq
    obtain ⟨V, hV⟩ : ∃ V, W.putObj (S + 1 + 1 + 1 + 1 + 1) (.loop { lo with state := .exhausted }) = V := ⟨_, rfl⟩
    rw [hV] at q2 ⊢
    clear hV hq
    have c0 := cell_of q2.a0
    gi_wp2
    refine ⟨by simp, .inl ⟨_, _, rfl, run_takeDeferred q2.a7, ?_⟩⟩
    refine ⟨_, res_fault _ _ S 36 rfl (put_other q2.a0 (by omega)), ?_, ?_⟩
    · rw [show Fr = 36 by rw [← HFr.out, HQ.out]; rfl]; rfl
    · have hfin := FS_done Hs.out q2.be (S + 1 + 1 + 1 + 1) (by omega)
      first
        | exact hfin
        | (rw [Hs.out] at hfin; exact hfin)
  · refine ⟨R, q.a8, (fun e => by rw [rs] at e; cases e), .inl ⟨rp, ?_⟩⟩
    have q2 := q.loop { R with state := .exhausted }
    have HQ : Hid ((parts l).any lng = false) := hq
    obtain ⟨V, hV⟩ : ∃ V, W.putObj (S + 1 + 1 + 1 + 1 + 1) (.loop { R with state := .exhausted }) = V := ⟨_, rfl⟩
    rw [hV] at q2 ⊢
    clear hV hq
    have c0 := cell_of q2.a0
    have f0 := froz_of q2.a0
    gi_wp2
    have q3 := q2.set0 0
    refine ⟨by simp, .inl ⟨_, _, rfl, run_takeDeferred q3.a7, ?_⟩⟩
    refine ⟨_, res_fault _ _ S 0 rfl (put_other q3.a0 (by omega)), ?_, ?_⟩
    · rw [show Fr = 0 by rw [← HFr.out, HQ.out]; rfl]; rfl
    · have hfin := FS_done Hs.out q3.be (S + 1 + 1 + 1 + 1) (by omega)
      first
        | exact hfin
        | (rw [Hs.out] at hfin; exact hfin)
set_option maxRecDepth 100000 in
set_option maxHeartbeats 2000000 in
theorem fault3 (l : List UInt8) (w : World) (hs : l.length ≤ 16384) :
    Calls Tryz.prog 77 #[.int .i64 3, .string ⟨l.toArray⟩] w fun e w' => e = .returned (.int .i64 ((if (parts l).any lng = true then 36 else 0 : Nat) : Int)) ∧ Below w.heap.size w w' := by
  obtain ⟨Fr, hFr⟩ : ∃ Fr, (if (parts l).any lng = true then 36 else 0 : Nat) = Fr := ⟨_, rfl⟩
  rw [hFr]
  have HFr : Hid ((if (parts l).any lng = true then 36 else 0 : Nat) = Fr) := hFr
  clear hFr
  refine (callsIn_wide (n := 4)).1 ?_
  refine callsIn_of_wp_marks Tryz.func77 rfl trivial ?_ rfl
  simp only [Tryz.ntmps77, List.size_toArray, List.length_cons, List.length_nil, Nat.reduceAdd, Nat.reduceSub, Array.replicate_succ, Array.replicate_zero, List.push_toArray, List.append_toArray, List.nil_append, List.cons_append]
  gi_wp2_with (refine ⟨trivial, ?_⟩; gi_at_call 88; refine (callsIn_wide.2 (splitSeq_in l _)).mono ?_; rintro e w' ⟨rfl, rfl⟩)
  refine range_by rfl (by omega) (gf := 109) (lb := #[.pointer (some ⟨w.heap.size + 1 + 1, 0, none⟩), .pointer (some ⟨w.heap.size + 1, 0, none⟩), .pointer (some ⟨w.heap.size + 1 + 1 + 1, 0, none⟩)]) rfl trivial (enters_of Tryz.func109 (by kernel_rfl) rfl) ?_
  intro fn hfn
  obtain ⟨S, hS⟩ : ∃ S, w.heap.size = S := ⟨_, rfl⟩
  have Hs : Hid (w.heap.size = S) := hS
  simp only [World.size_alloc, hS]
  generalize hR : recOf fn _ _ _ _ _ = R
  have rs : R.state = .ready := by rw [← hR]; rfl
  have rp : R.pending = none := by rw [← hR]; rfl
  have rf : R.fn = fn := by rw [← hR]; rfl
  have rq : R.params = #[15] := by rw [← hR]; rfl
  have q0 := FS_start w S l R hS
  obtain ⟨W0, hW0⟩ : ∃ W0, ((((((w.alloc (.cells #[.int .i64 0] 26)).alloc (.cells #[.string ⟨l.toArray⟩] 9)).alloc (.cells #[.string ⟨#[46]⟩] 9)).alloc (.cells #[.int .i64 0] 3)).alloc (.deferred (some []))).alloc (.loop R)) = W0 := ⟨_, rfl⟩
  rw [hW0] at q0
  have HB : ∀ (p r : List UInt8) (W : World), FS w S 0 r R W → p.length ≤ 16384 → (lng p = true → (parts l).any lng = true) →
      YieldAt Fence.wide (4 - 1 - 1) Tryz.prog (S + 1 + 1 + 1 + 1 + 1) #[.string ⟨p.toArray⟩] W fun e W' => (e = .returned (.bool true) ∧ lng p = false ∧ FS w S 0 r R W') ∨ (e = .returned (.bool false) ∧ FX w S l W') := by
    intro p r W q hp hf
    have qb := q.loop { R with state := .busy }
    refine (round_by (F := Fence.wide) (m := 4 - 1 - 1) (In := fun W' => lng p = false ∧ FS w S 0 r R W') (Out := fun _ W' => FX w S l W') (by rw [rf]; exact hfn) q.a8 rs rp (by rw [rq]; rfl) ?a1 ?has ?hb).mono ?_
    case has =>
      intro K hK
      rw [congrArg Loop.assign hR.symm, rq, congrArg Loop.tmps hR.symm]
      simp only [recOf]
      gi_wp2
      exact hK
    case hb =>
      obtain ⟨V, hV⟩ : ∃ V, W.putObj (S + 1 + 1 + 1 + 1 + 1) (.loop { R with state := .busy }) = V := ⟨_, rfl⟩
      rw [hV] at qb ⊢
      rw [congrArg Loop.body hR.symm]
      simp only [recOf]
      clear hV
      cases hl : lng p with
      | true =>
        have hp24 : 24 < p.length := by unfold lng at hl; simpa using hl
        have i1 : (24 : Int) < (p.length : Int) := by omega
        have HQ : Hid ((parts l).any lng = true) := hf hl
        have c0 := cell_of qb.a0
        have f0 := froz_of qb.a0
        clear hf hl hp24
        gi_wp2
        have q3 := qb.set0 36
        exact ⟨q3.a8, HQ.out, _, _, q3.loop _, rfl, rfl⟩
      | false =>
        have hp24 : ¬ 24 < p.length := by unfold lng at hl; simpa using hl
        have i1 : ¬ (24 : Int) < (p.length : Int) := by omega
        clear hf hl hp24
        gi_wp2
        first | exact ⟨qb.a8, rfl, qb.loop R⟩ | exact ⟨qb.a8, qb.loop R⟩
    rintro e W' h
    rcases h with ⟨he, h⟩ | ⟨he, c, h⟩
    · exact .inl ⟨he, h⟩
    · exact .inr ⟨he, h⟩
  have hgo : CallsIn Fence.wide (4 - 1) Tryz.prog 109 #[.func (.yield (S + 1 + 1 + 1 + 1 + 1)) #[] #[], .pointer (some ⟨S + 1 + 1, 0, none⟩), .pointer (some ⟨S + 1, 0, none⟩), .pointer (some ⟨S + 1 + 1 + 1, 0, none⟩)] W0 fun e W' => (∃ v, e = .returned v) ∧ (FX w S l W' ∨ FE w S l R W') := by
    refine split_in (4 - 1) (by omega) (S + 1 + 1 + 1 + 1 + 1) (S + 1) (FJ w S l R) (FX w S l) (FE w S l R) ?hbox ?hY1 ?hY2 l W0 ⟨q0, hs, rfl⟩
    case hbox =>
      rintro r W ⟨q, hr, _⟩
      exact ⟨q.a4, q.a5, q.a6, hr⟩
    case hY1 =>
      rintro r W i ⟨q, hr, hf⟩ hi
      rw [parts_pos hi, List.any_cons] at hf
      refine (HB (r.take i) r W q (by simp; omega) (fun h => by rw [← hf, h]; rfl)).mono ?_
      rintro e W' (⟨he, hn, q'⟩ | ⟨he, hx⟩)
      · refine .inl ⟨he, q'.a4, q'.a5, q'.sets _, by simp; omega, ?_⟩
        rw [hn, Bool.false_or] at hf
        exact hf
      · exact .inr ⟨he, hx⟩
    case hY2 =>
      rintro r W ⟨q, hr, hf⟩ hi
      rw [parts_neg hi] at hf
      refine (HB r r W q hr (fun h => by rw [← hf]; simp [h])).mono ?_
      rintro e W' (⟨he, hn, q'⟩ | ⟨he, hx⟩)
      · exact ⟨⟨_, he⟩, .inr ⟨by rw [← hf]; simp [hn], r, q'⟩⟩
      · exact ⟨⟨_, he⟩, .inl hx⟩
  rw [hW0]
  refine hgo.mono ?_
  rintro e W ⟨hv1, hJ⟩
  refine ⟨hv1, ?_⟩
  have hJ2 : FX w S l W ∨ ((parts l).any lng = false ∧ ∃ r, FS w S 0 r R W) := by
    rcases hJ with h | h
    · exact .inl h
    · exact h
  rcases hJ2 with ⟨hq, r, lo, q, h1, h2⟩ | ⟨hq, r, q⟩
  · refine ⟨lo, q.a8, (fun e => by rw [h1] at e; cases e), .inr ⟨_, h2, ?_⟩⟩
    have q2 := q.loop { lo with state := .exhausted }
    have HQ : Hid ((parts l).any lng = true) := hq
    obtain ⟨V, hV⟩ : ∃ V, W.putObj (S + 1 + 1 + 1 + 1 + 1) (.loop { lo with state := .exhausted }) = V := ⟨_, rfl⟩
    rw [hV] at q2 ⊢
    clear hV hq
    have c0 := cell_of q2.a0
    gi_wp2
    refine ⟨by simp, .inl ⟨_, _, rfl, run_takeDeferred q2.a7, ?_⟩⟩
    refine ⟨_, res_fault _ _ S 36 rfl (put_other q2.a0 (by omega)), ?_, ?_⟩
    · rw [show Fr = 36 by rw [← HFr.out, HQ.out]; rfl]; rfl
    · have hfin := FS_done Hs.out q2.be (S + 1 + 1 + 1 + 1) (by omega)
      first
        | exact hfin
        | (rw [Hs.out] at hfin; exact hfin)
  · refine ⟨R, q.a8, (fun e => by rw [rs] at e; cases e), .inl ⟨rp, ?_⟩⟩
    have q2 := q.loop { R with state := .exhausted }
    have HQ : Hid ((parts l).any lng = false) := hq
    obtain ⟨V, hV⟩ : ∃ V, W.putObj (S + 1 + 1 + 1 + 1 + 1) (.loop { R with state := .exhausted }) = V := ⟨_, rfl⟩
    rw [hV] at q2 ⊢
    clear hV hq
    have c0 := cell_of q2.a0
    have f0 := froz_of q2.a0
    gi_wp2
    have q3 := q2.set0 0
    refine ⟨by simp, .inl ⟨_, _, rfl, run_takeDeferred q3.a7, ?_⟩⟩
    refine ⟨_, res_fault _ _ S 0 rfl (put_other q3.a0 (by omega)), ?_, ?_⟩
    · rw [show Fr = 0 by rw [← HFr.out, HQ.out]; rfl]; rfl
    · have hfin := FS_done Hs.out q3.be (S + 1 + 1 + 1 + 1) (by omega)
      first
        | exact hfin
        | (rw [Hs.out] at hfin; exact hfin)
theorem FOK_of {w : World} (hv : VW w) : FOK w := fun kind t W h2 h7 h5 hl hb => by
  have hvW := hv.below hb
  have hcase : kind = 2 ∨ kind = 3 ∨ kind = 4 ∨ kind = 5 ∨ kind = 6 ∨ kind = 7 := by omega
  rcases hcase with rfl | rfl | rfl | rfl | rfl | rfl
  · exact fault2 t W hl
  · exact fault3 t W hl
  · exact fault4 t W hl hvW
  · cases t with
    | nil => exact absurd rfl (h5 rfl)
    | cons c d => exact fault5 c d W (by simp at hl; omega)
  · exact fault6 t W
  · exact fault7 t W
end Go.Proofs.YtffgkjmfeannoaaGreatDoor
