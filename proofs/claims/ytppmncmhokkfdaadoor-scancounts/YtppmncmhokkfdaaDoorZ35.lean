import Derived.Test.YtppmncmhokkfdaaDoorZ34
import Derived.RegionIn
import Derived.Test.YtppmncmhokkfdaaDoorZ11
import Derived.Test.YtppmncmhokkfdaaDoorZ10
import Derived.Test.YtppmncmhokkfdaaDoorZ5
namespace Go.Proofs.YtppmncmhokkfdaaDoor
open Go.RowKit Go.Shelf
/-- what stands while faultOf goes over a name's parts -/
structure FS (w : World) (S : Nat) (x : Int) (r : List UInt8) (lo : Loop) (W : World) : Prop where
  a0 : W.heap[S]? = some (.cells #[.int .i64 x] 23 (0, 0))
  a4 : W.heap[S + 1]? = some (.cells #[.string ⟨r.toArray⟩] 9 (0, 0))
  a5 : W.heap[S + 1 + 1]? = some (.cells #[.string ⟨#[46]⟩] 9 (0, 0))
  a6 : W.heap[S + 1 + 1 + 1]? = some (.cells #[.int .i64 0] 3 (0, 0))
  a7 : W.heap[S + 1 + 1 + 1 + 1]? = some (.deferred (some []))
  a8 : W.heap[S + 1 + 1 + 1 + 1 + 1]? = some (.loop lo)
  be : Below S w W
  sz : w.heap.size = S
theorem FS.loop {w W : World} {S : Nat} {x : Int} {r : List UInt8} {lo : Loop} (h : FS w S x r lo W) (lo' : Loop) : FS w S x r lo' (W.putObj (S + 1 + 1 + 1 + 1 + 1) (.loop lo')) :=
  ⟨put_other h.a0 (by omega), put_other h.a4 (by omega), put_other h.a5 (by omega), put_other h.a6 (by omega), put_other h.a7 (by omega), World.putObj_heap_same (lt_of_get h.a8), bel_grow h.be (grownBy_putObj' W _ _) (by rw [← h.sz]; exact h.sz ▸ h.be.size) (fun x e => by cases e; omega), h.sz⟩
theorem FS.set0 {w W : World} {S : Nat} {x : Int} {r : List UInt8} {lo : Loop} (h : FS w S x r lo W) (y : Int) : FS w S y r lo (W.setCell ⟨S, 0, none⟩ (.int .i64 y)) :=
  ⟨set_one _ h.a0, set_other h.a4 (by omega), set_other h.a5 (by omega), set_other h.a6 (by omega), set_other h.a7 (by omega), set_other h.a8 (by omega), h.be.setCell (p := ⟨S, 0, none⟩) (Nat.le_refl _) _, h.sz⟩
theorem FS.sets {w W : World} {S : Nat} {x : Int} {r : List UInt8} {lo : Loop} (h : FS w S x r lo W) (y : List UInt8) : FS w S x y lo (W.setCell ⟨S + 1, 0, none⟩ (.string ⟨y.toArray⟩)) :=
  ⟨set_other h.a0 (by omega), set_one _ h.a4, set_other h.a5 (by omega), set_other h.a6 (by omega), set_other h.a7 (by omega), set_other h.a8 (by omega), h.be.setCell (p := ⟨S + 1, 0, none⟩) (by show S ≤ S + 1; omega) _, h.sz⟩
theorem FS_start (w : World) (S : Nat) (l : List UInt8) (R : Loop) (hS : w.heap.size = S) : FS w S 0 l R ((((((w.alloc (.cells #[.int .i64 0] 23)).alloc (.cells #[.string ⟨l.toArray⟩] 9)).alloc (.cells #[.string ⟨#[46]⟩] 9)).alloc (.cells #[.int .i64 0] 3)).alloc (.deferred (some []))).alloc (.loop R)) := by
  subst hS
  obtain ⟨w1, e1⟩ : ∃ w1, w.alloc (.cells #[.int .i64 0] 23) = w1 := ⟨_, rfl⟩
  have z1 : w1.heap.size = w.heap.size + 1 := by rw [← e1]; simp
  obtain ⟨w2, e2⟩ : ∃ w2, w1.alloc (.cells #[.string ⟨l.toArray⟩] 9) = w2 := ⟨_, rfl⟩
  have z2 : w2.heap.size = w.heap.size + 1 + 1 := by rw [← e2]; simp [z1]
  obtain ⟨w3, e3⟩ : ∃ w3, w2.alloc (.cells #[.string ⟨#[46]⟩] 9) = w3 := ⟨_, rfl⟩
  have z3 : w3.heap.size = w.heap.size + 1 + 1 + 1 := by rw [← e3]; simp [z2]
  obtain ⟨w4, e4⟩ : ∃ w4, w3.alloc (.cells #[.int .i64 0] 3) = w4 := ⟨_, rfl⟩
  have z4 : w4.heap.size = w.heap.size + 1 + 1 + 1 + 1 := by rw [← e4]; simp [z3]
  obtain ⟨w5, e5⟩ : ∃ w5, w4.alloc (.deferred (some [])) = w5 := ⟨_, rfl⟩
  have z5 : w5.heap.size = w.heap.size + 1 + 1 + 1 + 1 + 1 := by rw [← e5]; simp [z4]
  rw [e1, e2, e3, e4, e5]
  have k1 : w1.heap[w.heap.size]? = some (.cells #[.int .i64 0] 23 (0, 0)) := by rw [← e1]; exact alloc_get _ _
  have k2 : w2.heap[w.heap.size + 1]? = some (.cells #[.string ⟨l.toArray⟩] 9 (0, 0)) := by rw [← e2, ← z1]; exact alloc_get _ _
  have k3 : w3.heap[w.heap.size + 1 + 1]? = some (.cells #[.string ⟨#[46]⟩] 9 (0, 0)) := by rw [← e3, ← z2]; exact alloc_get _ _
  have k4 : w4.heap[w.heap.size + 1 + 1 + 1]? = some (.cells #[.int .i64 0] 3 (0, 0)) := by rw [← e4, ← z3]; exact alloc_get _ _
  have k5 : w5.heap[w.heap.size + 1 + 1 + 1 + 1]? = some (.deferred (some [])) := by rw [← e5, ← z4]; exact alloc_get _ _
  have k6 : (w5.alloc (.loop R)).heap[w.heap.size + 1 + 1 + 1 + 1 + 1]? = some (.loop R) := by rw [← z5]; exact alloc_get _ _
  have t2 : ∀ b o, w1.heap[b]? = some o → w2.heap[b]? = some o := fun b o h => by rw [← e2]; exact allocblk h _
  have t3 : ∀ b o, w2.heap[b]? = some o → w3.heap[b]? = some o := fun b o h => by rw [← e3]; exact allocblk h _
  have t4 : ∀ b o, w3.heap[b]? = some o → w4.heap[b]? = some o := fun b o h => by rw [← e4]; exact allocblk h _
  have t5 : ∀ b o, w4.heap[b]? = some o → w5.heap[b]? = some o := fun b o h => by rw [← e5]; exact allocblk h _
  have t6 : ∀ b o, w5.heap[b]? = some o → (w5.alloc (.loop R)).heap[b]? = some o := fun b o h => allocblk h _
  refine ⟨t6 _ _ (t5 _ _ (t4 _ _ (t3 _ _ (t2 _ _ (k1))))), t6 _ _ (t5 _ _ (t4 _ _ (t3 _ _ (k2)))), t6 _ _ (t5 _ _ (t4 _ _ (k3))), t6 _ _ (t5 _ _ (k4)), t6 _ _ (k5), k6, ?_, rfl⟩
  have b0 : Below w.heap.size w w := Below.refl _ _
  have b1 := b0.alloc (Nat.le_refl _) (.cells #[.int .i64 0] 23); rw [e1] at b1
  have b2 := b1.alloc (by omega) (.cells #[.string ⟨l.toArray⟩] 9); rw [e2] at b2
  have b3 := b2.alloc (by omega) (.cells #[.string ⟨#[46]⟩] 9); rw [e3] at b3
  have b4 := b3.alloc (by omega) (.cells #[.int .i64 0] 3); rw [e4] at b4
  have b5 := b4.alloc (by omega) (.deferred (some [])); rw [e5] at b5
  exact b5.alloc (by omega) _
/-- a part that is too long -/
def lng (n : List UInt8) : Bool := decide (24 < n.length)
def FJ (w : World) (S : Nat) (l : List UInt8) (R : Loop) (r : List UInt8) (W : World) : Prop := FS w S 0 r R W ∧ r.length ≤ 16384 ∧ (parts r).any lng = (parts l).any lng
def FX (w : World) (S : Nat) (l : List UInt8) (W : World) : Prop := (parts l).any lng = true ∧ ∃ r lo, FS w S 36 r lo W ∧ lo.state = .done ∧ lo.pending = some .ret
def FE (w : World) (S : Nat) (l : List UInt8) (R : Loop) (W : World) : Prop := FX w S l W ∨ ((parts l).any lng = false ∧ ∃ r, FS w S 0 r R W)
theorem FS_done {w W : World} {S : Nat} (hS : w.heap.size = S) (h : Below S w W) (k : Nat) (hk : S ≤ k) : Below w.heap.size w (W.putObj k (.deferred none)) := QS_done_be hS h k hk
attribute [local go_sem] Oper.semAt_some
set_option maxRecDepth 100000 in
set_option maxHeartbeats 2000000 in
theorem fault2 (l : List UInt8) (w : World) (hs : l.length ≤ 16384) :
    Calls Tryd.prog 58 #[.int .i64 2, .string ⟨l.toArray⟩] w fun e w' => e = .returned (.int .i64 ((if (parts l).any lng = true then 36 else 0 : Nat) : Int)) ∧ Below w.heap.size w w' := by
  obtain ⟨Fr, hFr⟩ : ∃ Fr, (if (parts l).any lng = true then 36 else 0 : Nat) = Fr := ⟨_, rfl⟩
  rw [hFr]
  have HFr : Hid ((if (parts l).any lng = true then 36 else 0 : Nat) = Fr) := hFr
  clear hFr
  refine (callsIn_wide (n := 4)).1 ?_
  refine callsIn_of_wp_marks Tryd.func58 rfl trivial ?_ rfl
  simp only [Tryd.ntmps58, List.size_toArray, List.length_cons, List.length_nil, Nat.reduceAdd, Nat.reduceSub, Array.replicate_succ, Array.replicate_zero, List.push_toArray, List.append_toArray, List.nil_append, List.cons_append]
  gi_wp2_with (refine ⟨trivial, ?_⟩; gi_at_call 56; refine (callsIn_wide.2 (splitSeq_in l _)).mono ?_; rintro e w' ⟨rfl, rfl⟩)
  refine range_by rfl (by omega) (gf := 86) (lb := #[.pointer (some ⟨w.heap.size + 1 + 1, 0, none⟩), .pointer (some ⟨w.heap.size + 1, 0, none⟩), .pointer (some ⟨w.heap.size + 1 + 1 + 1, 0, none⟩)]) rfl trivial (enters_of Tryd.func86 (by kernel_rfl) rfl) ?_
  intro fn hfn
  obtain ⟨S, hS⟩ : ∃ S, w.heap.size = S := ⟨_, rfl⟩
  have Hs : Hid (w.heap.size = S) := hS
  simp only [World.size_alloc, hS]
  generalize hR : recOf fn _ _ _ _ _ = R
  have rs : R.state = .ready := by rw [← hR]; rfl
  have rp : R.pending = none := by rw [← hR]; rfl
  have rf : R.fn = fn := by rw [← hR]; rfl
  have rq : R.params = #[15] := by rw [← hR]; rfl
  have q0 := FS_start w S l R hS
  obtain ⟨W0, hW0⟩ : ∃ W0, ((((((w.alloc (.cells #[.int .i64 0] 23)).alloc (.cells #[.string ⟨l.toArray⟩] 9)).alloc (.cells #[.string ⟨#[46]⟩] 9)).alloc (.cells #[.int .i64 0] 3)).alloc (.deferred (some []))).alloc (.loop R)) = W0 := ⟨_, rfl⟩
  rw [hW0] at q0
  have HB : ∀ (p r : List UInt8) (W : World), FS w S 0 r R W → p.length ≤ 16384 → (lng p = true → (parts l).any lng = true) →
      YieldAt Fence.wide (4 - 1 - 1) Tryd.prog (S + 1 + 1 + 1 + 1 + 1) #[.string ⟨p.toArray⟩] W fun e W' => (e = .returned (.bool true) ∧ lng p = false ∧ FS w S 0 r R W') ∨ (e = .returned (.bool false) ∧ FX w S l W') := by
    intro p r W q hp hf
    have qb := q.loop { R with state := .busy }
    refine (round_by (F := Fence.wide) (m := 4 - 1 - 1) (In := fun W' => lng p = false ∧ FS w S 0 r R W') (Out := fun _ W' => FX w S l W') (by rw [rf]; exact hfn) q.a8 rs rp (by rw [rq]; rfl) ?a1 ?has ?hb).mono ?_
    case has =>
      intro K hK
      rw [congrArg Loop.assign hR.symm, rq, congrArg Loop.tmps hR.symm]
      simp only [recOf]
      gi_wp2
      exact hK
    case hb =>
      obtain ⟨V, hV⟩ : ∃ V, W.putObj (S + 1 + 1 + 1 + 1 + 1) (.loop { R with state := .busy }) = V := ⟨_, rfl⟩
      rw [hV] at qb ⊢
      rw [congrArg Loop.body hR.symm]
      simp only [recOf]
      clear hV
      cases hl : lng p with
      | true =>
        have hp24 : 24 < p.length := by unfold lng at hl; simpa using hl
        have i1 : (24 : Int) < (p.length : Int) := by omega
        have HQ : Hid ((parts l).any lng = true) := hf hl
        have c0 := cell_of qb.a0
        have f0 := froz_of qb.a0
        clear hf hl hp24
        gi_wp2
        have q3 := qb.set0 36
        exact ⟨q3.a8, HQ.out, _, _, q3.loop _, rfl, rfl⟩
      | false =>
        have hp24 : ¬ 24 < p.length := by unfold lng at hl; simpa using hl
        have i1 : ¬ (24 : Int) < (p.length : Int) := by omega
        clear hf hl hp24
        gi_wp2
        first | exact ⟨qb.a8, rfl, qb.loop R⟩ | exact ⟨qb.a8, qb.loop R⟩
    rintro e W' h
    rcases h with ⟨he, h⟩ | ⟨he, c, h⟩
    · exact .inl ⟨he, h⟩
    · exact .inr ⟨he, h⟩
  have hgo : CallsIn Fence.wide (4 - 1) Tryd.prog 86 #[.func (.yield (S + 1 + 1 + 1 + 1 + 1)) #[] #[], .pointer (some ⟨S + 1 + 1, 0, none⟩), .pointer (some ⟨S + 1, 0, none⟩), .pointer (some ⟨S + 1 + 1 + 1, 0, none⟩)] W0 fun e W' => (∃ v, e = .returned v) ∧ (FX w S l W' ∨ FE w S l R W') := by
    refine split_in (4 - 1) (by omega) (S + 1 + 1 + 1 + 1 + 1) (S + 1) (FJ w S l R) (FX w S l) (FE w S l R) ?hbox ?hY1 ?hY2 l W0 ⟨q0, hs, rfl⟩
    case hbox =>
      rintro r W ⟨q, hr, _⟩
      exact ⟨q.a4, q.a5, q.a6, hr⟩
    case hY1 =>
      rintro r W i ⟨q, hr, hf⟩ hi
      rw [parts_pos hi, List.any_cons] at hf
      refine (HB (r.take i) r W q (by simp; omega) (fun h => by rw [← hf, h]; rfl)).mono ?_
      rintro e W' (⟨he, hn, q'⟩ | ⟨he, hx⟩)
      · refine .inl ⟨he, q'.a4, q'.a5, q'.sets _, by simp; omega, ?_⟩
        rw [hn, Bool.false_or] at hf
        exact hf
      · exact .inr ⟨he, hx⟩
    case hY2 =>
      rintro r W ⟨q, hr, hf⟩ hi
      rw [parts_neg hi] at hf
      refine (HB r r W q hr (fun h => by rw [← hf]; simp [h])).mono ?_
      rintro e W' (⟨he, hn, q'⟩ | ⟨he, hx⟩)
      · exact ⟨⟨_, he⟩, .inr ⟨by rw [← hf]; simp [hn], r, q'⟩⟩
      · exact ⟨⟨_, he⟩, .inl hx⟩
  rw [hW0]
  refine hgo.mono ?_
  rintro e W ⟨hv1, hJ⟩
  refine ⟨hv1, ?_⟩
  have hJ2 : FX w S l W ∨ ((parts l).any lng = false ∧ ∃ r, FS w S 0 r R W) := by
    rcases hJ with h | h
    · exact .inl h
    · exact h
  rcases hJ2 with ⟨hq, r, lo, q, h1, h2⟩ | ⟨hq, r, q⟩
  · refine ⟨lo, q.a8, (fun e => by rw [h1] at e; cases e), .inr ⟨_, h2, ?_⟩⟩
    have q2 := q.loop { lo with state := .exhausted }
    have HQ : Hid ((parts l).any lng = true) := hq
    obtain ⟨V, hV⟩ : ∃ V, W.putObj (S + 1 + 1 + 1 + 1 + 1) (.loop { lo with state := .exhausted }) = V := ⟨_, rfl⟩
    rw [hV] at q2 ⊢
    clear hV hq
    have c0 := cell_of q2.a0
    gi_wp2
    refine ⟨by simp, .inl ⟨_, _, rfl, run_takeDeferred q2.a7, ?_⟩⟩
    refine ⟨_, res_fault _ _ S 36 rfl (put_other q2.a0 (by omega)), ?_, ?_⟩
    · rw [show Fr = 36 by rw [← HFr.out, HQ.out]; rfl]; rfl
    · have hfin := FS_done Hs.out q2.be (S + 1 + 1 + 1 + 1) (by omega)
      first
        | exact hfin
        | (rw [Hs.out] at hfin; exact hfin)
  · refine ⟨R, q.a8, (fun e => by rw [rs] at e; cases e), .inl ⟨rp, ?_⟩⟩
    have q2 := q.loop { R with state := .exhausted }
    have HQ : Hid ((parts l).any lng = false) := hq
    obtain ⟨V, hV⟩ : ∃ V, W.putObj (S + 1 + 1 + 1 + 1 + 1) (.loop { R with state := .exhausted }) = V := ⟨_, rfl⟩
    rw [hV] at q2 ⊢
    clear hV hq
    have c0 := cell_of q2.a0
    have f0 := froz_of q2.a0
    gi_wp2
    have q3 := q2.set0 0
    refine ⟨by simp, .inl ⟨_, _, rfl, run_takeDeferred q3.a7, ?_⟩⟩
    refine ⟨_, res_fault _ _ S 0 rfl (put_other q3.a0 (by omega)), ?_, ?_⟩
    · rw [show Fr = 0 by rw [← HFr.out, HQ.out]; rfl]; rfl
    · have hfin := FS_done Hs.out q3.be (S + 1 + 1 + 1 + 1) (by omega)
      first
        | exact hfin
        | (rw [Hs.out] at hfin; exact hfin)
set_option maxRecDepth 100000 in
set_option maxHeartbeats 2000000 in
theorem fault3 (l : List UInt8) (w : World) (hs : l.length ≤ 16384) :
    Calls Tryd.prog 58 #[.int .i64 3, .string ⟨l.toArray⟩] w fun e w' => e = .returned (.int .i64 ((if (parts l).any lng = true then 36 else 0 : Nat) : Int)) ∧ Below w.heap.size w w' := by
  obtain ⟨Fr, hFr⟩ : ∃ Fr, (if (parts l).any lng = true then 36 else 0 : Nat) = Fr := ⟨_, rfl⟩
  rw [hFr]
  have HFr : Hid ((if (parts l).any lng = true then 36 else 0 : Nat) = Fr) := hFr
  clear hFr
  refine (callsIn_wide (n := 4)).1 ?_
  refine callsIn_of_wp_marks Tryd.func58 rfl trivial ?_ rfl
  simp only [Tryd.ntmps58, List.size_toArray, List.length_cons, List.length_nil, Nat.reduceAdd, Nat.reduceSub, Array.replicate_succ, Array.replicate_zero, List.push_toArray, List.append_toArray, List.nil_append, List.cons_append]
  gi_wp2_with (refine ⟨trivial, ?_⟩; gi_at_call 56; refine (callsIn_wide.2 (splitSeq_in l _)).mono ?_; rintro e w' ⟨rfl, rfl⟩)
  refine range_by rfl (by omega) (gf := 86) (lb := #[.pointer (some ⟨w.heap.size + 1 + 1, 0, none⟩), .pointer (some ⟨w.heap.size + 1, 0, none⟩), .pointer (some ⟨w.heap.size + 1 + 1 + 1, 0, none⟩)]) rfl trivial (enters_of Tryd.func86 (by kernel_rfl) rfl) ?_
  intro fn hfn
  obtain ⟨S, hS⟩ : ∃ S, w.heap.size = S := ⟨_, rfl⟩
  have Hs : Hid (w.heap.size = S) := hS
  simp only [World.size_alloc, hS]
  generalize hR : recOf fn _ _ _ _ _ = R
  have rs : R.state = .ready := by rw [← hR]; rfl
  have rp : R.pending = none := by rw [← hR]; rfl
  have rf : R.fn = fn := by rw [← hR]; rfl
  have rq : R.params = #[15] := by rw [← hR]; rfl
  have q0 := FS_start w S l R hS
  obtain ⟨W0, hW0⟩ : ∃ W0, ((((((w.alloc (.cells #[.int .i64 0] 23)).alloc (.cells #[.string ⟨l.toArray⟩] 9)).alloc (.cells #[.string ⟨#[46]⟩] 9)).alloc (.cells #[.int .i64 0] 3)).alloc (.deferred (some []))).alloc (.loop R)) = W0 := ⟨_, rfl⟩
  rw [hW0] at q0
  have HB : ∀ (p r : List UInt8) (W : World), FS w S 0 r R W → p.length ≤ 16384 → (lng p = true → (parts l).any lng = true) →
      YieldAt Fence.wide (4 - 1 - 1) Tryd.prog (S + 1 + 1 + 1 + 1 + 1) #[.string ⟨p.toArray⟩] W fun e W' => (e = .returned (.bool true) ∧ lng p = false ∧ FS w S 0 r R W') ∨ (e = .returned (.bool false) ∧ FX w S l W') := by
    intro p r W q hp hf
    have qb := q.loop { R with state := .busy }
    refine (round_by (F := Fence.wide) (m := 4 - 1 - 1) (In := fun W' => lng p = false ∧ FS w S 0 r R W') (Out := fun _ W' => FX w S l W') (by rw [rf]; exact hfn) q.a8 rs rp (by rw [rq]; rfl) ?a1 ?has ?hb).mono ?_
    case has =>
      intro K hK
      rw [congrArg Loop.assign hR.symm, rq, congrArg Loop.tmps hR.symm]
      simp only [recOf]
      gi_wp2
      exact hK
    case hb =>
      obtain ⟨V, hV⟩ : ∃ V, W.putObj (S + 1 + 1 + 1 + 1 + 1) (.loop { R with state := .busy }) = V := ⟨_, rfl⟩
      rw [hV] at qb ⊢
      rw [congrArg Loop.body hR.symm]
      simp only [recOf]
      clear hV
      cases hl : lng p with
      | true =>
        have hp24 : 24 < p.length := by unfold lng at hl; simpa using hl
        have i1 : (24 : Int) < (p.length : Int) := by omega
        have HQ : Hid ((parts l).any lng = true) := hf hl
        have c0 := cell_of qb.a0
        have f0 := froz_of qb.a0
        clear hf hl hp24
        gi_wp2
        have q3 := qb.set0 36
        exact ⟨q3.a8, HQ.out, _, _, q3.loop _, rfl, rfl⟩
      | false =>
        have hp24 : ¬ 24 < p.length := by unfold lng at hl; simpa using hl
        have i1 : ¬ (24 : Int) < (p.length : Int) := by omega
        clear hf hl hp24
        gi_wp2
        first | exact ⟨qb.a8, rfl, qb.loop R⟩ | exact ⟨qb.a8, qb.loop R⟩
    rintro e W' h
    rcases h with ⟨he, h⟩ | ⟨he, c, h⟩
    · exact .inl ⟨he, h⟩
    · exact .inr ⟨he, h⟩
  have hgo : CallsIn Fence.wide (4 - 1) Tryd.prog 86 #[.func (.yield (S + 1 + 1 + 1 + 1 + 1)) #[] #[], .pointer (some ⟨S + 1 + 1, 0, none⟩), .pointer (some ⟨S + 1, 0, none⟩), .pointer (some ⟨S + 1 + 1 + 1, 0, none⟩)] W0 fun e W' => (∃ v, e = .returned v) ∧ (FX w S l W' ∨ FE w S l R W') := by
    refine split_in (4 - 1) (by omega) (S + 1 + 1 + 1 + 1 + 1) (S + 1) (FJ w S l R) (FX w S l) (FE w S l R) ?hbox ?hY1 ?hY2 l W0 ⟨q0, hs, rfl⟩
    case hbox =>
      rintro r W ⟨q, hr, _⟩
      exact ⟨q.a4, q.a5, q.a6, hr⟩
    case hY1 =>
      rintro r W i ⟨q, hr, hf⟩ hi
      rw [parts_pos hi, List.any_cons] at hf
      refine (HB (r.take i) r W q (by simp; omega) (fun h => by rw [← hf, h]; rfl)).mono ?_
      rintro e W' (⟨he, hn, q'⟩ | ⟨he, hx⟩)
      · refine .inl ⟨he, q'.a4, q'.a5, q'.sets _, by simp; omega, ?_⟩
        rw [hn, Bool.false_or] at hf
        exact hf
      · exact .inr ⟨he, hx⟩
    case hY2 =>
      rintro r W ⟨q, hr, hf⟩ hi
      rw [parts_neg hi] at hf
      refine (HB r r W q hr (fun h => by rw [← hf]; simp [h])).mono ?_
      rintro e W' (⟨he, hn, q'⟩ | ⟨he, hx⟩)
      · exact ⟨⟨_, he⟩, .inr ⟨by rw [← hf]; simp [hn], r, q'⟩⟩
      · exact ⟨⟨_, he⟩, .inl hx⟩
  rw [hW0]
  refine hgo.mono ?_
  rintro e W ⟨hv1, hJ⟩
  refine ⟨hv1, ?_⟩
  have hJ2 : FX w S l W ∨ ((parts l).any lng = false ∧ ∃ r, FS w S 0 r R W) := by
    rcases hJ with h | h
    · exact .inl h
    · exact h
  rcases hJ2 with ⟨hq, r, lo, q, h1, h2⟩ | ⟨hq, r, q⟩
  · refine ⟨lo, q.a8, (fun e => by rw [h1] at e; cases e), .inr ⟨_, h2, ?_⟩⟩
    have q2 := q.loop { lo with state := .exhausted }
    have HQ : Hid ((parts l).any lng = true) := hq
    obtain ⟨V, hV⟩ : ∃ V, W.putObj (S + 1 + 1 + 1 + 1 + 1) (.loop { lo with state := .exhausted }) = V := ⟨_, rfl⟩
    rw [hV] at q2 ⊢
    clear hV hq
    have c0 := cell_of q2.a0
    gi_wp2
    refine ⟨by simp, .inl ⟨_, _, rfl, run_takeDeferred q2.a7, ?_⟩⟩
    refine ⟨_, res_fault _ _ S 36 rfl (put_other q2.a0 (by omega)), ?_, ?_⟩
    · rw [show Fr = 36 by rw [← HFr.out, HQ.out]; rfl]; rfl
    · have hfin := FS_done Hs.out q2.be (S + 1 + 1 + 1 + 1) (by omega)
      first
        | exact hfin
        | (rw [Hs.out] at hfin; exact hfin)
  · refine ⟨R, q.a8, (fun e => by rw [rs] at e; cases e), .inl ⟨rp, ?_⟩⟩
    have q2 := q.loop { R with state := .exhausted }
    have HQ : Hid ((parts l).any lng = false) := hq
    obtain ⟨V, hV⟩ : ∃ V, W.putObj (S + 1 + 1 + 1 + 1 + 1) (.loop { R with state := .exhausted }) = V := ⟨_, rfl⟩
    rw [hV] at q2 ⊢
    clear hV hq
    have c0 := cell_of q2.a0
    have f0 := froz_of q2.a0
    gi_wp2
    have q3 := q2.set0 0
    refine ⟨by simp, .inl ⟨_, _, rfl, run_takeDeferred q3.a7, ?_⟩⟩
    refine ⟨_, res_fault _ _ S 0 rfl (put_other q3.a0 (by omega)), ?_, ?_⟩
    · rw [show Fr = 0 by rw [← HFr.out, HQ.out]; rfl]; rfl
    · have hfin := FS_done Hs.out q3.be (S + 1 + 1 + 1 + 1) (by omega)
      first
        | exact hfin
        | (rw [Hs.out] at hfin; exact hfin)
theorem FOK_of {w : World} (hv : VW w) : FOK w := fun kind t W h2 h7 h5 hl hb => by
  have hvW := hv.below hb
  have hcase : kind = 2 ∨ kind = 3 ∨ kind = 4 ∨ kind = 5 ∨ kind = 6 ∨ kind = 7 := by omega
  rcases hcase with rfl | rfl | rfl | rfl | rfl | rfl
  · exact fault2 t W hl
  · exact fault3 t W hl
  · exact fault4 t W hl hvW
  · cases t with
    | nil => exact absurd rfl (h5 rfl)
    | cons c d => exact fault5 c d W (by simp at hl; omega)
  · exact fault6 t W
  · exact fault7 t W
end Go.Proofs.YtppmncmhokkfdaaDoor
namespace Go.Proofs.YtppmncmhokkfdaaDoor
open Go.RowKit Go.Shelf
/-- no control character -/
def vis (c : UInt8) : Prop := 32 ≤ c.toNat ∧ c.toNat ≠ 127
theorem hx_vis (d : Nat) (hd : d < 16) : vis (hx d) := by
  have : ∀ d, d < 16 → vis (hx d) := by unfold vis; decide
  exact this d hd
theorem hexN_vis (n : Nat) : ∀ c ∈ hexN n, vis c := by
  induction n using Nat.strongRecOn with
  | _ n ih =>
    intro c hc
    rw [hexN] at hc
    split at hc
    · rw [List.mem_singleton.1 hc]
      exact hx_vis n (by omega)
    · rcases List.mem_append.1 hc with h | h
      · exact ih (n / 16) (by omega) c h
      · rw [List.mem_singleton.1 h]
        exact hx_vis _ (by omega)
theorem looS_vis (x : Nat) (hx2 : x < 256) : ∀ c ∈ looS x, vis c := by
  intro c hc
  simp only [looS, List.mem_cons, List.not_mem_nil, or_false] at hc
  rcases hc with rfl | rfl | rfl | rfl
  · unfold vis; decide
  · unfold vis; decide
  · exact hx_vis _ (by omega)
  · exact hx_vis _ (by omega)
/-- the bytes of a character of several bytes are great -/
theorem own_big (l : List UInt8) (i : Nat) (h : i < l.length) (hlo : lo1 l i = false) (hb : ¬ bt l i < 128) : ∀ c ∈ own l i, 128 ≤ c.toNat := by
  have hne : ¬ (dc l i = (65533, 1)) := of_decide_eq_false hlo
  intro c hc
  obtain ⟨j, hj, hcj⟩ := List.mem_iff_getElem.1 hc
  have hlen := own_len l i h
  have hj2 : j < (dc l i).2 := by omega
  have hg := own_get l i j hj2
  have hc2 : c = l.getD (i + j) 0 := by
    rw [← hg, ← hcj]
    simp [List.getD, List.getElem?_eq_getElem hj]
  have hbt : c.toNat = bt l (i + j) := by rw [hc2]; rfl
  rw [hbt]
  unfold dc at hne hj2
  rcases Lib.decodeN_shape (l.length - i) (bt l i) (bt l (i + 1)) (bt l (i + 2)) (bt l (i + 3)) with ⟨a1, e⟩ | ⟨a1, a2, a3, a4, e⟩ | ⟨a1, a2, a3, a4, a5, a6, e⟩ | ⟨a1, a2, a3, a4, a5, a6, a7, e⟩ | e
  all_goals rw [e] at hj2 hne
  · exact absurd a1 (by omega)
  · have hjj : j = 0 ∨ j = 1 := by simp only at hj2; omega
    rcases hjj with rfl | rfl
    · simp only [Nat.add_zero]; omega
    · omega
  · have hjj : j = 0 ∨ j = 1 ∨ j = 2 := by simp only at hj2; omega
    rcases hjj with rfl | rfl | rfl
    · simp only [Nat.add_zero]; omega
    · omega
    · omega
  · have hjj : j = 0 ∨ j = 1 ∨ j = 2 ∨ j = 3 := by simp only at hj2; omega
    rcases hjj with rfl | rfl | rfl | rfl
    · simp only [Nat.add_zero]; omega
    · omega
    · omega
    · omega
  · exact absurd rfl hne
theorem pcS_vis (l : List UInt8) (i : Nat) (h : i < l.length) : ∀ c ∈ pcS l i, vis c := by
  intro c hc
  unfold pcS at hc
  cases hlo : lo1 l i with
  | true =>
    rw [hlo, if_pos rfl] at hc
    exact looS_vis _ (bt_lt l i) c hc
  | false =>
    rw [hlo, if_neg (by decide)] at hc
    unfold saiS at hc
    have e2 : ∀ a b : UInt8, vis a → vis b → c ∈ [a, b] → vis c := fun a b ha hb h => by
      simp only [List.mem_cons, List.not_mem_nil, or_false] at h
      rcases h with rfl | rfl
      · exact ha
      · exact hb
    split at hc
    · exact e2 _ _ (by unfold vis; decide) (by unfold vis; decide) hc
    split at hc
    · exact e2 _ _ (by unfold vis; decide) (by unfold vis; decide) hc
    split at hc
    · exact e2 _ _ (by unfold vis; decide) (by unfold vis; decide) hc
    split at hc
    · exact e2 _ _ (by unfold vis; decide) (by unfold vis; decide) hc
    split at hc
    · exact e2 _ _ (by unfold vis; decide) (by unfold vis; decide) hc
    split at hc
    · rename_i hn
      exact looS_vis _ (by omega) c hc
    · rename_i hn
      split at hc
      · simp only [List.mem_append, List.mem_cons, List.not_mem_nil, or_false] at hc
        rcases hc with ((rfl | rfl | rfl) | hc) | rfl
        · unfold vis; decide
        · unfold vis; decide
        · unfold vis; decide
        · exact hexN_vis _ c hc
        · unfold vis; decide
      · by_cases hb : bt l i < 128
        · have hd := dc_asc hb
          have ho := own_byte l i h (by rw [hd])
          rw [ho, List.mem_singleton] at hc
          rw [hd] at hn
          simp only at hn
          have : c.toNat = bt l i := by rw [hc, UInt8.toNat_ofNat']; omega
          unfold vis
          omega
        · have := own_big l i h hlo hb c hc
          unfold vis
          omega
theorem quoL_vis (s : List UInt8) : ∀ (m i : Nat), s.length - i ≤ m → ∀ c ∈ quoL s i, vis c
  | m, i, hm => by
    intro c hc
    by_cases h : i < s.length
    · have hp := dc_pos s i
      match m, hm with
      | 0, hm => omega
      | m + 1, hm =>
        rw [quoL_lt h] at hc
        rcases List.mem_append.1 hc with hc | hc
        · exact pcS_vis s i h c hc
        · exact quoL_vis s m (i + (dc s i).2) (by omega) c hc
    · rw [quoL_end h] at hc
      cases hc
theorem subL_all (l : List UInt8) : subL l 0 l.length = l := by unfold subL; simp
/-- a quoted text is one token -/
theorem scan_quo (s : List UInt8) (hs : s.length ≤ 256) (Q : List UInt8) (hQ : [34] ++ (quoL s 0 ++ [34]) = Q) (hl : Q.length ≤ 16384) : ∃ a b, scanM Q = ([(6, Q, a), (1, [10], b)], 0, 0, 0) := by
  have hins : insS Q 1 [] = (s, Q.length, 0) := by
    have := ins_quo s _ 0 [34] (Nat.le_refl _) (Nat.zero_le _)
    rw [hQ] at this
    exact this
  have hlen : 2 ≤ Q.length := by rw [← hQ]; simp
  have hb0 : bt Q 0 = 34 := by rw [← hQ]; rfl
  have hk : kl Q 0 = 7 := by
    unfold kl
    rw [(chr_asc Q 0 34 (by decide)).2 ⟨by omega, hb0⟩]
    rfl
  have hqe : quoE Q 0 = 0 := by
    unfold quoE
    rw [show 0 + 1 = 1 by rfl, hins]
    rw [if_neg (by simp), if_neg (by simp; omega)]
  have hqj : quoJ Q 0 = Q.length := by
    unfold quoJ
    rw [show 0 + 1 = 1 by rfl, hins]
    rw [if_neg (by simp; omega)]
  have htc : tokC Q 0 = (6, Q.length) := by
    unfold tokC
    rw [if_neg (by omega), if_neg (by omega), if_neg (by omega), if_pos hk]
    show ((6 : Nat), quoJ Q 0) = _
    rw [hqj]
  have hte : tokE Q 0 = 0 := by
    unfold tokE
    rw [if_neg (fun h => h.2 hqe), htc]
    rfl
  have htj : tokJ Q 0 = Q.length := by
    unfold tokJ
    rw [if_neg (fun h => h.2 hqe), htc]
    rfl
  have hke : kl Q Q.length = 0 := kl0.2 (by omega)
  unfold scanM
  rw [if_neg (by omega)]
  obtain ⟨f, hf⟩ : ∃ f, Q.length = f + 1 := ⟨Q.length - 1, by omega⟩
  rw [hf, runM_tok (by omega) (by omega) (by omega) (by omega) hte, htj, htc, ← hf]
  show ∃ a b, runM Q.length Q Q.length 1 0 ([] ++ [(6, subL Q 0 Q.length, 1, ci Q 0 - ci Q 0 + 1)]) = _
  rw [subL_all]
  have hr := runM_end (f := f) (l := Q) (j := Q.length) (line := 1) (hb := 0) (D := [] ++ [(6, Q, 1, ci Q 0 - ci Q 0 + 1)]) (.inr hke)
  rw [← hf] at hr
  rw [hr]
  unfold lendM
  rw [if_pos hke]
  exact ⟨_, _, rfl⟩
end Go.Proofs.YtppmncmhokkfdaaDoor
namespace Go.Proofs.YtppmncmhokkfdaaDoor
open Go.RowKit Go.Shelf
theorem vis_get {Q : List UInt8} (h : ∀ c ∈ Q, vis c) {i : Nat} (hi : i < Q.length) : ∃ c : UInt8, (∀ h', (ByteArray.mk Q.toArray)[i]'h' = c) ∧ ¬ ((c.toNat : Int) < 32) ∧ ((c.toNat : Int) == 127) = false := by
  refine ⟨Q[i], fun _ => rfl, ?_, ?_⟩
  · have := h _ (List.getElem_mem hi)
    unfold vis at this
    omega
  · have := h _ (List.getElem_mem hi)
    unfold vis at this
    rw [beq_eq_false_iff_ne]
    omega
set_option maxRecDepth 100000 in
set_option maxHeartbeats 2000000 in
theorem scanSaysBack_walk (s : ByteArray) (w : World) (hs : s.size ≤ 281474976710656) (hv1 : SH w) (hv2 : UN w) (hv3 : DB w) (hv4 : SG w) (hv5 : VW w) :
    Calls Tryd.prog 5 #[.string s] w fun e w' => e = .returned (.bool true) ∧ Below w.heap.size w w' := by
  obtain ⟨l, rfl⟩ : ∃ l : List UInt8, s = ⟨l.toArray⟩ := ⟨s.data.toList, by simp⟩
  have hl : l.length ≤ 281474976710656 := by
    have e : (ByteArray.mk l.toArray).size = l.length := by simp [ByteArray.size]
    omega
  have c1 := quote_any l w hl hv1 hv2 hv3
  by_cases h256 : 256 < l.length
  · have hq : quoS l = ([], 37) := if_pos h256
    have i1 : (256 : Int) < (l.length : Int) := by omega
    rw [hq] at c1
    clear hq hs hv1 hv2 hv3 hv4 hv5
    go_enter Tryd.func5, Tryd.ntmps5
    go_wp2_with fail
    refine c1.mono ?_
    rintro e W1 ⟨rfl, hb1⟩
    go_wp2_with fail
    go_ret
    exact ⟨rfl, hb1⟩
  · have hq : quoS l = ([34] ++ quoL l 0 ++ [34], 0) := if_neg h256
    have i1 : ¬ (256 : Int) < (l.length : Int) := by omega
    rw [hq] at c1
    have hql := quoL_len l _ 0 (Nat.le_refl _)
    have hlQ : ([34] ++ quoL l 0 ++ [34]).length ≤ 16384 := by simp; omega
    have C2 : Hid (∀ W, Below w.heap.size w W → Calls Tryd.prog 12 #[.string ⟨([34] ++ quoL l 0 ++ [34]).toArray⟩] W fun e w' => e = .returned (.tuple #[.string ⟨l.toArray⟩, .int .i64 0, .int .i64 0]) ∧ Below w.heap.size w w') := fun W hW => by
      have h := unquote_any ([34] ++ quoL l 0 ++ [34]) W (by omega) (hv1.below hW)
      rw [unq_quo l (by omega)] at h
      exact h.mono (fun e w' h => ⟨h.1, bel0 hW h.2⟩)
    obtain ⟨ta, tb, hsc⟩ := scan_quo l (by omega) ([34] ++ quoL l 0 ++ [34]) (by simp) hlQ
    have C3 : Hid (∀ W, Below w.heap.size w W → Calls Tryd.prog 7 #[.string ⟨([34] ++ quoL l 0 ++ [34]).toArray⟩] W fun e w' => ∃ v, e = .returned (.tuple #[v, .int .i64 0, .int .i64 0, .int .i64 0]) ∧ w'.ownsRow W.heap.size 29 4 v 2 (tcels [(6, [34] ++ quoL l 0 ++ [34], ta), (1, [10], tb)]) ∧ Below w.heap.size w w') := fun W hW => by
      have h := scan_any ([34] ++ quoL l 0 ++ [34]) W (by omega) (hv1.below hW) (hv4.below hW) (FOK_of (hv5.below hW))
      unfold scR at h
      rw [hsc] at h
      exact h.mono (fun e w' ⟨v, h1, h2, h3⟩ => ⟨v, h1, h2, bel0 hW h3⟩)
    have hvis : ∀ c ∈ [34] ++ quoL l 0 ++ [34], vis c := fun c hc => by
      simp only [List.mem_append, List.mem_singleton] at hc
      rcases hc with (rfl | hc) | rfl
      · unfold vis; decide
      · exact quoL_vis l _ 0 (Nat.le_refl _) c hc
      · unfold vis; decide
    obtain ⟨Q, hQ⟩ : ∃ Q, [34] ++ quoL l 0 ++ [34] = Q := ⟨_, rfl⟩
    rw [hQ] at c1 C2 C3 hvis hlQ
    have HV : Hid (∀ c ∈ Q, vis c) := hvis
    clear hQ hq hql hsc hvis hs hv1 hv2 hv3 hv4 hv5
    go_enter Tryd.func5, Tryd.ntmps5
    go_wp2_with fail
    refine c1.mono ?_
    rintro e W1 ⟨rfl, hb1⟩
    go_wp2_with fail
    refine (C2.out _ hb1).mono ?_
    rintro e W2 ⟨rfl, hb2⟩
    go_wp2_with fail
    go_loop [8] (fun vi => ∃ i : Nat, vi = .int .i64 i ∧ i ≤ Q.length) (fun vi => Q.length - (intOf vi).toNat)
    case atStart => exact ⟨0, rfl, Nat.zero_le _⟩
    case round =>
      obtain ⟨i, rfl, hi⟩ := hrel
      by_cases hlt : i < Q.length
      · obtain ⟨c, hc, hc1, hc2⟩ := vis_get HV.out hlt
        have q0 : (0 : Int) ≤ (i : Int) := by omega
        have q1 : (i : Int) < (Q.length : Int) := by omega
        go_wp2_with fail
        go_round
        case rel => exact ⟨i + 1, by go_num, by omega⟩
        case measure => simp [intOf]; omega
      · have q1 : ¬ (i : Int) < (Q.length : Int) := by omega
        go_wp2_with fail
        refine (C3.out _ hb2).mono ?_
        rintro e W3 ⟨v, rfl, ho, hb3⟩
        obtain ⟨g, cap, rfl⟩ := own_form ho (by decide)
        obtain ⟨x0, x1, -, -⟩ := tok_cell (D := [(6, Q, ta), (1, [10], tb)]) (k := 0) ho rfl
        simp only [Nat.zero_mul, Nat.zero_add] at x0 x1
        clear ho
        go_wp2_with fail
        go_ret
        exact ⟨rfl, hb3⟩
end Go.Proofs.YtppmncmhokkfdaaDoor
namespace Go.Proofs.YtppmncmhokkfdaaDoor
open Go.RowKit
/-- an array of texts, as laid -/
def strData {H : Type} (zs : List (List UInt8)) : DataW H := .agg (zs.map fun z => .lit (.string z))
theorem cells_of_strs {H : Type} {enc : TypeId × Value → H} {P : Program} {w : World} {base : Nat} {sp : Nat → Bool} {held : Bool} {fuel : Nat} {t e : TypeId} {n : Nat} {cs : List Value} {zs : List (List UInt8)} {p : List MemPlace}
    (ht : P.underlying t = some (.array n e)) (he : P.underlying e = some .string) (hce : P.cellsOf e = 1) (hct : P.cellsOf t = n)
    (h : DataW.trod enc P w base sp held fuel t cs = some (strData zs, p)) : cs = zs.map fun z => Value.string ⟨z.toArray⟩ := by
  cases fuel with
  | zero => simp [DataW.trod] at h
  | succ fuel =>
    simp only [DataW.trod, ht, hce, hct, Nat.mul_one] at h
    split at h
    · rename_i hl
      obtain ⟨xs, hm, hx⟩ := Option.map_eq_some_iff.1 h
      have hxs : xs.map (·.1) = zs.map fun z => (DataW.lit (.string z) : DataW H) := by
        have := congrArg Prod.fst hx
        simpa [strData] using this
      have hxl : xs.length = n := by simpa using Lib.mapM_length hm
      have hzl : zs.length = n := by
        have := congrArg List.length hxs
        simp at this
        omega
      apply List.ext_getElem?
      intro i
      by_cases hi : i < n
      · obtain ⟨b, hb, hf⟩ := Lib.mapM_at hm i i (by simp [hi])
        obtain ⟨z, hc, rfl, _⟩ := DataW.trod_string he hf
        have h1 : cs[i]? = some (.string z) := by
          have := congrArg (·[0]?) hc
          simpa [List.getElem?_take, List.getElem?_drop] using this
        have h2 : (xs.map (·.1))[i]? = some (DataW.lit (.string z.data.toList) : DataW H) := by simp [hb]
        rw [hxs] at h2
        simp only [List.getElem?_map, Option.map_eq_some_iff, DataW.lit.injEq, Lit.string.injEq] at h2
        obtain ⟨z', hz', rfl⟩ := h2
        simp [h1, hz']
      · rw [List.getElem?_eq_none (by omega), List.getElem?_eq_none (by simp; omega)]
    · cases h
theorem strs_of_head {P : Program} {W : World} {name : String} {zs : List (List UInt8)} {rest : List (String × DataW Unit)} {g : Nat} {t e : TypeId} {n : Nat}
    (hg : P.globalNamed name = some g) (hty : (P.globals[g]?).map (·.type) = some t) (ht : P.underlying t = some (.array n e)) (he : P.underlying e = some .string) (hce : P.cellsOf e = 1) (hct : P.cellsOf t = n)
    (h : laidMet P ((name, strData zs) :: rest) W) : W.var? P name = some (zs.map fun z => Value.string ⟨z.toArray⟩).toArray := by
  obtain ⟨ps, ⟨g', t', cs, fuel, p, q, hg', ht', hvar, hd, _, _⟩, _⟩ := h
  obtain rfl := Option.some.inj (hg.symm.trans hg')
  obtain rfl := Option.some.inj (hty.symm.trans ht')
  rw [hvar, ← cells_of_strs ht he hce hct hd]
end Go.Proofs.YtppmncmhokkfdaaDoor
