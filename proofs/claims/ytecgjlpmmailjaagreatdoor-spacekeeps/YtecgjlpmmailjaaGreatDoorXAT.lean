import Derived.Test.YtecgjlpmmailjaaGreatDoorXAS
import Derived.Test.YtecgjlpmmailjaaGreatDoorXAG
import Derived.Test.YtecgjlpmmailjaaGreatDoorXAN
import Derived.RegionIn
namespace Go.Proofs.YtecgjlpmmailjaaGreatDoor
open Go.RowKit Go.Shelf
/-- the pieces between the bytes s -/
def prts (s : UInt8) (r : List UInt8) : List (List UInt8) :=
  if Lib.indexByte r s < 0 then [r] else r.take (Lib.indexByte r s).toNat :: prts s (r.drop ((Lib.indexByte r s).toNat + 1))
termination_by r.length
decreasing_by
  have := idx_lt r s
  simp
  omega
theorem prts_neg {s : UInt8} {r : List UInt8} (h : Lib.indexByte r s < 0) : prts s r = [r] := by rw [prts, if_pos h]
theorem prts_pos {s : UInt8} {r : List UInt8} {i : Nat} (h : Lib.indexByte r s = i) : prts s r = r.take i :: prts s (r.drop (i + 1)) := by
  rw [prts, if_neg (by omega), h]; rfl
theorem prts_ne (s : UInt8) (r : List UInt8) : 0 < (prts s r).length := by
  rw [prts]; split <;> simp
theorem prts_len (s : UInt8) (m : Nat) : ∀ r : List UInt8, r.length ≤ m → (prts s r).length ≤ m + 1 := by
  induction m using Nat.strongRecOn with
  | ind m ih =>
  intro r hr
  rw [prts]
  split
  · simp
  · rename_i h
    have h1 := idx_lt r s
    have h2 := ih (m - 1) (by omega) (r.drop ((Lib.indexByte r s).toNat + 1)) (by simp; omega)
    simp only [List.length_cons]
    omega
theorem prts_sub (s : UInt8) (m : Nat) : ∀ r : List UInt8, r.length ≤ m → ∀ p ∈ prts s r, p.length ≤ m := by
  induction m using Nat.strongRecOn with
  | ind m ih =>
  intro r hr p hp
  rw [prts] at hp
  split at hp
  · obtain rfl := List.mem_singleton.1 hp; exact hr
  · rename_i h
    have h1 := idx_lt r s
    rcases List.mem_cons.1 hp with rfl | hp
    · simp; omega
    · have h2 := ih (m - 1) (by omega) (r.drop ((Lib.indexByte r s).toNat + 1)) (by simp; omega) p hp
      omega
theorem set_other {W : World} {b c p : Nat} {v : Value} {o : Obj} (h : W.heap[c]? = some o) (hne : c ≠ b) : (W.setCell ⟨b, p, none⟩ v).heap[c]? = some o := (Below.heap_setCell _ _ _ _ (by exact hne)).trans h
theorem put_other {W : World} {b c : Nat} {o o' : Obj} (h : W.heap[c]? = some o) (hne : c ≠ b) : (W.putObj b o').heap[c]? = some o := (World.putObj_heap_other hne).trans h
theorem set_one {W : World} {b T : Nat} {m : Nat × Nat} {x : Value} (v : Value) (h : W.heap[b]? = some (.cells #[x] T m)) : (W.setCell ⟨b, 0, none⟩ v).heap[b]? = some (.cells #[v] T m) := by
  simp only [World.setCell, Array.getElem?_modify, if_pos, h, Option.map_some]
  simp
theorem bel_grow {B : Nat} {w W W' : World} {row : Option Nat} (hB : Below B w W) (hg : W.grownBy W' row) (h1 : B ≤ W.heap.size) (h : ∀ k, row = some k → B ≤ k) : Below B w W' := hB.grown hg h1 h
theorem set_grS (X : World) (b k : Nat) (u : Value) : X.grownBy (X.setCell ⟨b, k, none⟩ u) (some b) := ⟨rfl, rfl, rfl, by simp, fun j _ hj => heap_setCell_other X ⟨b, k, none⟩ j u (fun e => hj (by simp [e]))⟩
theorem grow_block {W X : World} {o O : Obj} {row : Option Nat} {b : Nat} (h : W.heap[b]? = some o) (hg : (W.alloc O).grownBy X row) (hr : ∀ k, row = some k → b < k) : X.heap[b]? = some o := by
  refine (hg.block b (by simp; have := lt_of_get3 h; omega) (fun e => ?_)).trans (allocblk3 h O)
  have := hr b e.symm
  omega
theorem done_be {w W : World} {S : Nat} (hS : w.heap.size = S) (h : Below S w W) (k : Nat) (hk : S ≤ k) : Below w.heap.size w (W.putObj k (.deferred none)) := by
  subst hS
  exact bel_grow h (grownBy_putObj' W k _) h.size (fun x e => by cases e; exact hk)
def okP (b : Nat) (p : List UInt8) : Bool := decide (refP p = 0) && (p.length == b)
structure RS (w : World) (S b : Nat) (v : Value) (D : List (List UInt8)) (r : List UInt8) (lo : Loop) (W : World) : Prop where
  a0 : W.heap[S]? = some (.cells #[.int .i64 (b : Int)] 3 (0, 0))
  a1 : W.heap[S + 1]? = some (.cells #[.slice none 0 0] 32 (0, 0))
  a2 : W.heap[S + 1 + 1]? = some (.cells #[.bool false] 4 (0, 0))
  a3 : W.heap[S + 1 + 1 + 1]? = some (.cells #[v] 32 (0, 0))
  a4 : W.heap[S + 1 + 1 + 1 + 1]? = some (.cells #[.string ⟨r.toArray⟩] 9 (0, 0))
  a5 : W.heap[S + 1 + 1 + 1 + 1 + 1]? = some (.cells #[.string ⟨#[45]⟩] 9 (0, 0))
  a6 : W.heap[S + 1 + 1 + 1 + 1 + 1 + 1]? = some (.cells #[.int .i64 0] 3 (0, 0))
  a7 : W.heap[S + 1 + 1 + 1 + 1 + 1 + 1 + 1]? = some (.deferred (some []))
  a8 : W.heap[S + 1 + 1 + 1 + 1 + 1 + 1 + 1 + 1]? = some (.loop lo)
  ow : W.ownsRow (S + 1 + 1 + 1 + 1 + 1 + 1 + 1 + 1 + 1) 58 9 v D.length (ces D)
  be : Below S w W
  sz : w.heap.size = S
theorem RS.below {X : World} {w W : World} {S b : Nat} {v : Value} {D : List (List UInt8)} {r : List UInt8} {lo : Loop} (h : RS w S b v D r lo W) (hb : Below W.heap.size W X) : RS w S b v D r lo X :=
  ⟨keepblk3 hb h.a0, keepblk3 hb h.a1, keepblk3 hb h.a2, keepblk3 hb h.a3, keepblk3 hb h.a4, keepblk3 hb h.a5, keepblk3 hb h.a6, keepblk3 hb h.a7, keepblk3 hb h.a8, own_belQ h.ow hb, by have := h.be; rw [← h.sz] at this ⊢; exact bel0 this hb, h.sz⟩
theorem RS.loop {w W : World} {S b : Nat} {v : Value} {D : List (List UInt8)} {r : List UInt8} {lo : Loop} (h : RS w S b v D r lo W) (lo' : Loop) : RS w S b v D r lo' (W.putObj (S + 1 + 1 + 1 + 1 + 1 + 1 + 1 + 1) (.loop lo')) :=
  ⟨put_other h.a0 (by omega), put_other h.a1 (by omega), put_other h.a2 (by omega), put_other h.a3 (by omega), put_other h.a4 (by omega), put_other h.a5 (by omega), put_other h.a6 (by omega), put_other h.a7 (by omega), World.putObj_heap_same (lt_of_get3 h.a8), h.ow.kept (grownBy_putObj' W _ _) (.inr (fun e => by have := (h.ow.lt _ e).1; omega)), bel_grow h.be (grownBy_putObj' W _ _) (by rw [← h.sz]; exact h.sz ▸ h.be.size) (fun x e => by cases e; omega), h.sz⟩
theorem RS.sets {w W : World} {S b : Nat} {v : Value} {D : List (List UInt8)} {r : List UInt8} {lo : Loop} (h : RS w S b v D r lo W) (x : List UInt8) : RS w S b v D x lo (W.setCell ⟨S + 1 + 1 + 1 + 1, 0, none⟩ (.string ⟨x.toArray⟩)) :=
  ⟨set_other h.a0 (by omega), set_other h.a1 (by omega), set_other h.a2 (by omega), set_other h.a3 (by omega), set_one _ h.a4, set_other h.a5 (by omega), set_other h.a6 (by omega), set_other h.a7 (by omega), set_other h.a8 (by omega), h.ow.kept (set_grS _ _ _ _) (.inr (fun e => by have := (h.ow.lt _ e).1; omega)), h.be.setCell (p := ⟨S + 1 + 1 + 1 + 1, 0, none⟩) (by show S ≤ S + 1 + 1 + 1 + 1; omega) _, h.sz⟩
theorem RS.same0 {w W : World} {S b : Nat} {v : Value} {D : List (List UInt8)} {r : List UInt8} {lo : Loop} (h : RS w S b v D r lo W) : RS w S b v D r lo ((W.setCell ⟨S + 1, 0, none⟩ (.slice none 0 0)).setCell ⟨S + 1 + 1, 0, none⟩ (.bool false)) :=
  ⟨set_other (set_other h.a0 (by omega)) (by omega), set_other (set_one _ h.a1) (by omega), set_one _ (set_other h.a2 (by omega)), set_other (set_other h.a3 (by omega)) (by omega), set_other (set_other h.a4 (by omega)) (by omega), set_other (set_other h.a5 (by omega)) (by omega), set_other (set_other h.a6 (by omega)) (by omega), set_other (set_other h.a7 (by omega)) (by omega), set_other (set_other h.a8 (by omega)) (by omega), (h.ow.kept (set_grS _ _ _ _) (.inr (fun e => by have := (h.ow.lt _ e).1; omega))).kept (set_grS _ _ _ _) (.inr (fun e => by have := (h.ow.lt _ e).1; omega)), (h.be.setCell (p := ⟨S + 1, 0, none⟩) (by show S ≤ S + 1; omega) _).setCell (p := ⟨S + 1 + 1, 0, none⟩) (by show S ≤ S + 1 + 1; omega) _, h.sz⟩
theorem RS_start (w : World) (S b : Nat) (r : List UInt8) (R : Loop) (hS : w.heap.size = S) : RS w S b (.slice none 0 0) [] r R (((((((((w.alloc (.cells #[.int .i64 (b : Int)] 3 (0, 0))).alloc (.cells #[.slice none 0 0] 32 (0, 0))).alloc (.cells #[.bool false] 4 (0, 0))).alloc (.cells #[.slice none 0 0] 32 (0, 0))).alloc (.cells #[.string ⟨r.toArray⟩] 9 (0, 0))).alloc (.cells #[.string ⟨#[45]⟩] 9 (0, 0))).alloc (.cells #[.int .i64 0] 3 (0, 0))).alloc (.deferred (some []))).alloc (.loop R)) := by
  subst hS
  obtain ⟨w1, e1⟩ : ∃ w1, w.alloc (.cells #[.int .i64 (b : Int)] 3 (0, 0)) = w1 := ⟨_, rfl⟩
  have z1 : w1.heap.size = w.heap.size + 1 := by rw [← e1]; simp
  obtain ⟨w2, e2⟩ : ∃ w2, w1.alloc (.cells #[.slice none 0 0] 32 (0, 0)) = w2 := ⟨_, rfl⟩
  have z2 : w2.heap.size = w.heap.size + 1 + 1 := by rw [← e2]; simp [z1]
  obtain ⟨w3, e3⟩ : ∃ w3, w2.alloc (.cells #[.bool false] 4 (0, 0)) = w3 := ⟨_, rfl⟩
  have z3 : w3.heap.size = w.heap.size + 1 + 1 + 1 := by rw [← e3]; simp [z2]
  obtain ⟨w4, e4⟩ : ∃ w4, w3.alloc (.cells #[.slice none 0 0] 32 (0, 0)) = w4 := ⟨_, rfl⟩
  have z4 : w4.heap.size = w.heap.size + 1 + 1 + 1 + 1 := by rw [← e4]; simp [z3]
  obtain ⟨w5, e5⟩ : ∃ w5, w4.alloc (.cells #[.string ⟨r.toArray⟩] 9 (0, 0)) = w5 := ⟨_, rfl⟩
  have z5 : w5.heap.size = w.heap.size + 1 + 1 + 1 + 1 + 1 := by rw [← e5]; simp [z4]
  obtain ⟨w6, e6⟩ : ∃ w6, w5.alloc (.cells #[.string ⟨#[45]⟩] 9 (0, 0)) = w6 := ⟨_, rfl⟩
  have z6 : w6.heap.size = w.heap.size + 1 + 1 + 1 + 1 + 1 + 1 := by rw [← e6]; simp [z5]
  obtain ⟨w7, e7⟩ : ∃ w7, w6.alloc (.cells #[.int .i64 0] 3 (0, 0)) = w7 := ⟨_, rfl⟩
  have z7 : w7.heap.size = w.heap.size + 1 + 1 + 1 + 1 + 1 + 1 + 1 := by rw [← e7]; simp [z6]
  obtain ⟨w8, e8⟩ : ∃ w8, w7.alloc (.deferred (some [])) = w8 := ⟨_, rfl⟩
  have z8 : w8.heap.size = w.heap.size + 1 + 1 + 1 + 1 + 1 + 1 + 1 + 1 := by rw [← e8]; simp [z7]
  obtain ⟨w9, e9⟩ : ∃ w9, w8.alloc (.loop R) = w9 := ⟨_, rfl⟩
  have z9 : w9.heap.size = w.heap.size + 1 + 1 + 1 + 1 + 1 + 1 + 1 + 1 + 1 := by rw [← e9]; simp [z8]
  rw [e1, e2, e3, e4, e5, e6, e7, e8, e9]
  have k1 : w1.heap[w.heap.size]? = some (.cells #[.int .i64 (b : Int)] 3 (0, 0)) := by rw [← e1]; exact alloc_get _ _
  have k2 : w2.heap[w.heap.size + 1]? = some (.cells #[.slice none 0 0] 32 (0, 0)) := by rw [← e2, ← z1]; exact alloc_get _ _
  have k3 : w3.heap[w.heap.size + 1 + 1]? = some (.cells #[.bool false] 4 (0, 0)) := by rw [← e3, ← z2]; exact alloc_get _ _
  have k4 : w4.heap[w.heap.size + 1 + 1 + 1]? = some (.cells #[.slice none 0 0] 32 (0, 0)) := by rw [← e4, ← z3]; exact alloc_get _ _
  have k5 : w5.heap[w.heap.size + 1 + 1 + 1 + 1]? = some (.cells #[.string ⟨r.toArray⟩] 9 (0, 0)) := by rw [← e5, ← z4]; exact alloc_get _ _
  have k6 : w6.heap[w.heap.size + 1 + 1 + 1 + 1 + 1]? = some (.cells #[.string ⟨#[45]⟩] 9 (0, 0)) := by rw [← e6, ← z5]; exact alloc_get _ _
  have k7 : w7.heap[w.heap.size + 1 + 1 + 1 + 1 + 1 + 1]? = some (.cells #[.int .i64 0] 3 (0, 0)) := by rw [← e7, ← z6]; exact alloc_get _ _
  have k8 : w8.heap[w.heap.size + 1 + 1 + 1 + 1 + 1 + 1 + 1]? = some (.deferred (some [])) := by rw [← e8, ← z7]; exact alloc_get _ _
  have k9 : w9.heap[w.heap.size + 1 + 1 + 1 + 1 + 1 + 1 + 1 + 1]? = some (.loop R) := by rw [← e9, ← z8]; exact alloc_get _ _
  have t2 : ∀ b o, w1.heap[b]? = some o → w2.heap[b]? = some o := fun b o h => by rw [← e2]; exact allocblk3 h _
  have t3 : ∀ b o, w2.heap[b]? = some o → w3.heap[b]? = some o := fun b o h => by rw [← e3]; exact allocblk3 h _
  have t4 : ∀ b o, w3.heap[b]? = some o → w4.heap[b]? = some o := fun b o h => by rw [← e4]; exact allocblk3 h _
  have t5 : ∀ b o, w4.heap[b]? = some o → w5.heap[b]? = some o := fun b o h => by rw [← e5]; exact allocblk3 h _
  have t6 : ∀ b o, w5.heap[b]? = some o → w6.heap[b]? = some o := fun b o h => by rw [← e6]; exact allocblk3 h _
  have t7 : ∀ b o, w6.heap[b]? = some o → w7.heap[b]? = some o := fun b o h => by rw [← e7]; exact allocblk3 h _
  have t8 : ∀ b o, w7.heap[b]? = some o → w8.heap[b]? = some o := fun b o h => by rw [← e8]; exact allocblk3 h _
  have t9 : ∀ b o, w8.heap[b]? = some o → w9.heap[b]? = some o := fun b o h => by rw [← e9]; exact allocblk3 h _
  have b0 : Below w.heap.size w w := Below.refl _ _
  have b1 := b0.alloc (by omega) (.cells #[.int .i64 (b : Int)] 3 (0, 0)); rw [e1] at b1
  have b2 := b1.alloc (by omega) (.cells #[.slice none 0 0] 32 (0, 0)); rw [e2] at b2
  have b3 := b2.alloc (by omega) (.cells #[.bool false] 4 (0, 0)); rw [e3] at b3
  have b4 := b3.alloc (by omega) (.cells #[.slice none 0 0] 32 (0, 0)); rw [e4] at b4
  have b5 := b4.alloc (by omega) (.cells #[.string ⟨r.toArray⟩] 9 (0, 0)); rw [e5] at b5
  have b6 := b5.alloc (by omega) (.cells #[.string ⟨#[45]⟩] 9 (0, 0)); rw [e6] at b6
  have b7 := b6.alloc (by omega) (.cells #[.int .i64 0] 3 (0, 0)); rw [e7] at b7
  have b8 := b7.alloc (by omega) (.deferred (some [])); rw [e8] at b8
  have b9 := b8.alloc (by omega) (.loop R); rw [e9] at b9
  exact ⟨t9 _ _ (t8 _ _ (t7 _ _ (t6 _ _ (t5 _ _ (t4 _ _ (t3 _ _ (t2 _ _ (k1)))))))), t9 _ _ (t8 _ _ (t7 _ _ (t6 _ _ (t5 _ _ (t4 _ _ (t3 _ _ (k2))))))), t9 _ _ (t8 _ _ (t7 _ _ (t6 _ _ (t5 _ _ (t4 _ _ (k3)))))), t9 _ _ (t8 _ _ (t7 _ _ (t6 _ _ (t5 _ _ (k4))))), t9 _ _ (t8 _ _ (t7 _ _ (t6 _ _ (k5)))), t9 _ _ (t8 _ _ (t7 _ _ (k6))), t9 _ _ (t8 _ _ (k7)), t9 _ _ (k8), k9, World.ownsRow_nil _ _ _ _, b9, rfl⟩
theorem res_cubes (tmps : Array Value) (W : World) (b b2 : Nat) (v : Value) (x : Bool) {m m2 : Nat × Nat} (hp : tmps.getD 4 undef = .pointer (some ⟨b, 0, none⟩)) (hp2 : tmps.getD 5 undef = .pointer (some ⟨b2, 0, none⟩)) (h : W.heap[b]? = some (.cells #[v] 32 m)) (h2 : W.heap[b2]? = some (.cells #[.bool x] 4 m2)) :
    (results Tryz.f29 tmps).run Tryz.prog W = .ok (.tuple #[v, .bool x]) W := by
  have hc : ∀ j, W.cell? ⟨b, j, none⟩ = (#[v] : Array Value)[j]? := by
    intro j; unfold World.cell?; rw [h]; simp
  have hc2 : ∀ j, W.cell? ⟨b2, j, none⟩ = (#[.bool x] : Array Value)[j]? := by
    intro j; unfold World.cell?; rw [h2]; simp
  have hp' : tmps[4]?.getD undef = .pointer (some ⟨b, 0, none⟩) := by simpa using hp
  have hp2' : tmps[5]?.getD undef = .pointer (some ⟨b2, 0, none⟩) := by simpa using hp2
  simp [results, hp', hp2', go_sem, hc, hc2]
def CJ (w : World) (S b : Nat) (l : List UInt8) (R : Loop) (r : List UInt8) (W : World) : Prop :=
  ∃ v D, RS w S b v D r R W ∧ r.length ≤ 40000 ∧ D ++ prts 45 r = prts 45 l ∧ D.all (okP b) = true
def CX (w : World) (S b : Nat) (l : List UInt8) (W : World) : Prop :=
  (prts 45 l).all (okP b) = false ∧ ∃ v D r lo, RS w S b v D r lo W ∧ lo.state = .done ∧ lo.pending = some .ret
def CE (w : World) (S b : Nat) (l : List UInt8) (R : Loop) (W : World) : Prop :=
  CX w S b l W ∨ ∃ v r, RS w S b v (prts 45 l) r R W ∧ (prts 45 l).all (okP b) = true
attribute [local go_sem] Oper.semAt_some
set_option maxRecDepth 100000 in
set_option maxHeartbeats 4000000 in
theorem readCubes_any (b : Nat) (l : List UInt8) (w : World) (hs : l.length ≤ 40000) :
    Calls Tryz.prog 29 #[.int .i64 (b : Int), .string ⟨l.toArray⟩] w fun e w' => Below w.heap.size w w' ∧ (((prts 45 l).all (okP b) = false ∧ e = .returned (.tuple #[.slice none 0 0, .bool false])) ∨ ((prts 45 l).all (okP b) = true ∧ ∃ v, e = .returned (.tuple #[v, .bool true]) ∧ w'.ownsRow w.heap.size 58 9 v (prts 45 l).length (ces (prts 45 l)))) := by
  obtain ⟨i0, hi, hz0, hz1, hz2⟩ := info_parts info_cubeQ
  refine (callsIn_wide (n := 4)).1 ?_
  refine callsIn_of_wp_marks Tryz.func29 rfl trivial ?_ rfl
  simp only [Tryz.ntmps29, List.size_toArray, List.length_cons, List.length_nil, Nat.reduceAdd, Nat.reduceSub, Array.replicate_succ, Array.replicate_zero, List.push_toArray, List.append_toArray, List.nil_append, List.cons_append]
  gi_wp2_with (refine ⟨trivial, ?_⟩; gi_at_call 28; refine (callsIn_wide.2 (splitSeq_in 45 l _)).mono ?_; rintro e w' ⟨rfl, rfl⟩)
  refine range_by rfl (by omega) (gf := 55) (lb := #[.pointer (some ⟨w.heap.size + 1 + 1 + 1 + 1 + 1, 0, none⟩), .pointer (some ⟨w.heap.size + 1 + 1 + 1 + 1, 0, none⟩), .pointer (some ⟨w.heap.size + 1 + 1 + 1 + 1 + 1 + 1, 0, none⟩)]) rfl trivial (enters_of Tryz.func55 (by kernel_rfl) rfl) ?_
  intro fn hfn
  obtain ⟨S, hS⟩ : ∃ S, w.heap.size = S := ⟨_, rfl⟩
  have Hs : Hid (w.heap.size = S) := hS
  simp only [World.size_alloc, hS]
  generalize hR : recOf fn _ _ _ _ _ = R
  have rs : R.state = .ready := by rw [← hR]; rfl
  have rp : R.pending = none := by rw [← hR]; rfl
  have rf : R.fn = fn := by rw [← hR]; rfl
  have rq : R.params = #[12] := by rw [← hR]; rfl
  have q0 := RS_start w S b l R hS
  obtain ⟨W0, hW0⟩ : ∃ W0, (((((((((w.alloc (.cells #[.int .i64 (b : Int)] 3)).alloc (.cells #[.slice none 0 0] 32)).alloc (.cells #[.bool false] 4)).alloc (.cells #[.slice none 0 0] 32)).alloc (.cells #[.string ⟨l.toArray⟩] 9)).alloc (.cells #[.string ⟨#[45]⟩] 9)).alloc (.cells #[.int .i64 0] 3)).alloc (.deferred (some []))).alloc (.loop R)) = W0 := ⟨_, rfl⟩
  rw [hW0] at q0
  have hpl : (prts 45 l).length ≤ 40001 := prts_len 45 40000 l hs
  have HB : ∀ (p : List UInt8) (ps : List (List UInt8)) (r : List UInt8) (v : Value) (D : List (List UInt8)) (W : World), RS w S b v D r R W → p.length ≤ 40000 → D ++ p :: ps = prts 45 l → D.all (okP b) = true →
      YieldAt Fence.wide (4 - 1 - 1) Tryz.prog (S + 1 + 1 + 1 + 1 + 1 + 1 + 1 + 1) #[.string ⟨p.toArray⟩] W fun e W' => (e = .returned (.bool true) ∧ ∃ v', RS w S b v' (D ++ [p]) r R W' ∧ okP b p = true) ∨ (e = .returned (.bool false) ∧ CX w S b l W') := by
    intro p ps r v D W q hp hc hD
    have qb := q.loop { R with state := .busy }
    refine (round_by (F := Fence.wide) (m := 4 - 1 - 1) (In := fun W' => ∃ v', RS w S b v' (D ++ [p]) r R W' ∧ okP b p = true) (Out := fun _ W' => CX w S b l W') (by rw [rf]; exact hfn) q.a8 rs rp (by rw [rq]; rfl) ?a1 ?has ?hb).mono ?_
    case has =>
      intro K hK
      rw [congrArg Loop.assign hR.symm, rq, congrArg Loop.tmps hR.symm]
      simp only [recOf]
      gi_wp2
      exact hK
    case hb =>
      obtain ⟨V, hV⟩ : ∃ V, W.putObj (S + 1 + 1 + 1 + 1 + 1 + 1 + 1 + 1) (.loop { R with state := .busy }) = V := ⟨_, rfl⟩
      rw [hV] at qb ⊢
      rw [congrArg Loop.body hR.symm]
      simp only [recOf]
      clear hV
      obtain ⟨E, hE⟩ : ∃ E, refP p = E := ⟨_, rfl⟩
      obtain ⟨C, hC⟩ : ∃ C, cubeT p = C := ⟨_, rfl⟩
      have HD : Calls Tryz.prog 40 #[.string ⟨p.toArray⟩] V fun e w' => e = .returned (.tuple #[.agg #[.int .i64 (C.length : Int), .int .u64 (FW C 0 : Int), .int .u64 (FW C 1 : Int), .int .u64 (FW C 2 : Int), .int .u64 (FW C 3 : Int), .int .u64 (OW C 0 : Int), .int .u64 (OW C 1 : Int), .int .u64 (OW C 2 : Int), .int .u64 (OW C 3 : Int)], .int .i64 E]) ∧ Below V.heap.size V w' := parse_D ⟨p.toArray⟩ V (by show p.length ≤ _; unfold maxLen; omega) C E hC hE
      have hts : (⟨p.toArray⟩ : ByteArray).size = p.length := by simp [ByteArray.size]
      have hall : okP b p = false → (prts 45 l).all (okP b) = false := fun h => by
        rw [← hc, List.all_append, List.all_cons, h]
        simp
      have hDl : D.length ≤ 40001 := by have := congrArg List.length hc; rw [List.length_append] at this; omega
      by_cases hE0 : E = 0
      · by_cases hlb : p.length = b
        · have hok : okP b p = true := by unfold okP; rw [hE, hE0, hlb]; simp
          have hCp : C = p := by rw [← hC]; exact cubeT_self p (by rw [hE, hE0])
          have HOK : Hid (okP b p = true ∧ C = p) := ⟨hok, hCp⟩
          have b1 : ((E : Int) != 0) = false := by rw [hE0]; rfl
          have b2 : ((p.length : Int) != (b : Int)) = false := by rw [hlb]; simp
          clear hE hC hok hCp hall hE0 hlb
          gi_wp2_with (first | (refine ⟨trivial, ?_⟩; gi_at_call 40; refine (CallsIn.inRound _ (callsIn_wide.2 HD)).mono ?_; rintro e V2 ⟨rfl, hb2⟩; have q2 := qb.below hb2; obtain ⟨V3, hV3⟩ : ∃ V3, V2.alloc (.cells #[.int .i64 (C.length : Int), .int .u64 (FW C 0 : Int), .int .u64 (FW C 1 : Int), .int .u64 (FW C 2 : Int), .int .u64 (FW C 3 : Int), .int .u64 (OW C 0 : Int), .int .u64 (OW C 1 : Int), .int .u64 (OW C 2 : Int), .int .u64 (OW C 3 : Int)] 58 (0, 0)) = V3 := ⟨_, rfl⟩; have hal : Below V2.heap.size V2 V3 := (by rw [← hV3]; exact belA (Below.refl _ _) _); have q3 := q2.below hal; have c0 := cell_of q3.a0; have c3 := cell_of q3.a3; have f3 := froz_of q3.a3; have hg3 : V3.heap[V2.heap.size]? = some (.cells #[.int .i64 (C.length : Int), .int .u64 (FW C 0 : Int), .int .u64 (FW C 1 : Int), .int .u64 (FW C 2 : Int), .int .u64 (FW C 3 : Int), .int .u64 (OW C 0 : Int), .int .u64 (OW C 1 : Int), .int .u64 (OW C 2 : Int), .int .u64 (OW C 3 : Int)] 58 (0, 0)) := (by rw [← hV3]; exact alloc_get _ _); have d3 := (cells_block hg3).1; have hs3 := q3.be.size; have hs4 := lt_of_get3 q3.a8) | (gi_at_builtin; refine wpListIn_append_own _ rfl _ _ 32 rfl (S + 1 + 1 + 1 + 1 + 1 + 1 + 1 + 1 + 1) 58 i0 _ 9 72 Tryz.underlying32 hi hz0 hz1 hz2 rfl (by decide) _ _ _ rfl (q3.ow.alloc _) ⟨V3.heap.size, 0, none⟩ 1 1 (ce9 C) rfl rfl (World.news_of_block (cs := #[.int .i64 (C.length : Int), .int .u64 (FW C 0 : Int), .int .u64 (FW C 1 : Int), .int .u64 (FW C 2 : Int), .int .u64 (FW C 3 : Int), .int .u64 (OW C 0 : Int), .int .u64 (OW C 1 : Int), .int .u64 (OW C 2 : Int), .int .u64 (OW C 3 : Int)]) (t := 58) (fr := (0, 0)) (alloc_get _ _)) (by simp [ce9, Value.oneCell']) (by unfold maxLen; omega) (by omega) (by simp; omega) ?_; intro v4 w4 o4 g4 _; obtain ⟨p4, c4, rfl⟩ := shapeQ1 o4; have ge : ∀ k, Value.ownBlock _ = some k → S + 1 + 1 + 1 + 1 + 1 + 1 + 1 + 1 < k := (fun k e => by have := (q3.ow.lt k e).1; omega); have k3 := grow_block q3.a3 g4 (fun k e => by have := ge k e; omega); have e3 := cell_of k3; have h3 := froz_of k3))
          have k8 := grow_block q3.a8 g4 (fun k e => by have := ge k e; omega)
          refine ⟨set_other k8 (by omega), _, RS.loop (lo := { R with state := .busy }) ⟨set_other (grow_block q3.a0 g4 (fun k e => by have := ge k e; omega)) (by omega), set_other (grow_block q3.a1 g4 (fun k e => by have := ge k e; omega)) (by omega), set_other (grow_block q3.a2 g4 (fun k e => by have := ge k e; omega)) (by omega), set_one _ k3, set_other (grow_block q3.a4 g4 (fun k e => by have := ge k e; omega)) (by omega), set_other (grow_block q3.a5 g4 (fun k e => by have := ge k e; omega)) (by omega), set_other (grow_block q3.a6 g4 (fun k e => by have := ge k e; omega)) (by omega), set_other (grow_block q3.a7 g4 (fun k e => by have := ge k e; omega)) (by omega), set_other k8 (by omega), ?_, ?_, q3.sz⟩ R, HOK.out.1⟩
          · have o5 := o4.kept (set_grS w4 (S + 1 + 1 + 1) 0 (.slice p4 (D.length + 1) c4)) (.inr (fun e => by have := (o4.lt _ e).1; omega))
            rw [ces_snoc, List.length_append]
            rw [HOK.out.2] at o5
            exact o5
          · refine ((q3.be.alloc (by omega) _).grown g4 (by simp; omega) (fun k e => by have := ge k e; omega)).setCell (p := ⟨S + 1 + 1 + 1, 0, none⟩) (by show S ≤ S + 1 + 1 + 1; omega) _
        · have hok : okP b p = false := by unfold okP; simp [hlb]
          have HX : Hid ((prts 45 l).all (okP b) = false) := hall hok
          have b1 : ((E : Int) != 0) = false := by rw [hE0]; rfl
          have b2 : ((p.length : Int) != (b : Int)) = true := by rw [bne_iff_ne]; omega
          clear hE hC hok hall hE0 hlb
          gi_wp2_with (refine ⟨trivial, ?_⟩; gi_at_call 40; refine (CallsIn.inRound _ (callsIn_wide.2 HD)).mono ?_; rintro e V2 ⟨rfl, hb2⟩; have q2 := qb.below hb2; obtain ⟨V3, hV3⟩ : ∃ V3, V2.alloc (.cells #[.int .i64 (C.length : Int), .int .u64 (FW C 0 : Int), .int .u64 (FW C 1 : Int), .int .u64 (FW C 2 : Int), .int .u64 (FW C 3 : Int), .int .u64 (OW C 0 : Int), .int .u64 (OW C 1 : Int), .int .u64 (OW C 2 : Int), .int .u64 (OW C 3 : Int)] 58 (0, 0)) = V3 := ⟨_, rfl⟩; have hal : Below V2.heap.size V2 V3 := (by rw [← hV3]; exact belA (Below.refl _ _) _); have q3 := q2.below hal; have c0 := cell_of q3.a0; have c1 := cell_of q3.a1; have f1 := froz_of q3.a1; have c2 := cell_of q3.a2; have f2 := froz_of q3.a2)
          have q4 := q3.same0
          exact ⟨q4.a8, HX.out, _, _, _, _, q4.loop _, rfl, rfl⟩
      · have hok : okP b p = false := by unfold okP; rw [hE, decide_eq_false hE0]; rfl
        have HX : Hid ((prts 45 l).all (okP b) = false) := hall hok
        have b1 : ((E : Int) != 0) = true := by rw [bne_iff_ne]; exact hE0
        clear hE hC hok hall hE0
        gi_wp2_with (refine ⟨trivial, ?_⟩; gi_at_call 40; refine (CallsIn.inRound _ (callsIn_wide.2 HD)).mono ?_; rintro e V2 ⟨rfl, hb2⟩; have q2 := qb.below hb2; obtain ⟨V3, hV3⟩ : ∃ V3, V2.alloc (.cells #[.int .i64 (C.length : Int), .int .u64 (FW C 0 : Int), .int .u64 (FW C 1 : Int), .int .u64 (FW C 2 : Int), .int .u64 (FW C 3 : Int), .int .u64 (OW C 0 : Int), .int .u64 (OW C 1 : Int), .int .u64 (OW C 2 : Int), .int .u64 (OW C 3 : Int)] 58 (0, 0)) = V3 := ⟨_, rfl⟩; have hal : Below V2.heap.size V2 V3 := (by rw [← hV3]; exact belA (Below.refl _ _) _); have q3 := q2.below hal; have c1 := cell_of q3.a1; have f1 := froz_of q3.a1; have c2 := cell_of q3.a2; have f2 := froz_of q3.a2)
        have q4 := q3.same0
        exact ⟨q4.a8, HX.out, _, _, _, _, q4.loop _, rfl, rfl⟩
    rintro e W' h
    rcases h with ⟨he, h⟩ | ⟨he, c, h⟩
    · exact .inl ⟨he, h⟩
    · exact .inr ⟨he, h⟩
  have hgo : CallsIn Fence.wide (4 - 1) Tryz.prog 55 #[.func (.yield (S + 1 + 1 + 1 + 1 + 1 + 1 + 1 + 1)) #[] #[], .pointer (some ⟨S + 1 + 1 + 1 + 1 + 1, 0, none⟩), .pointer (some ⟨S + 1 + 1 + 1 + 1, 0, none⟩), .pointer (some ⟨S + 1 + 1 + 1 + 1 + 1 + 1, 0, none⟩)] W0 fun e W' => (∃ v, e = .returned v) ∧ (CX w S b l W' ∨ CE w S b l R W') := by
    refine split_in 45 (4 - 1) (by omega) (S + 1 + 1 + 1 + 1 + 1 + 1 + 1 + 1) (S + 1 + 1 + 1 + 1) (CJ w S b l R) (CX w S b l) (CE w S b l R) ?hbox ?hY1 ?hY2 l W0 ⟨_, [], q0, hs, rfl, rfl⟩
    case hbox =>
      rintro r W ⟨v, D, q, hr, _, _⟩
      exact ⟨q.a4, q.a5, q.a6, hr⟩
    case hY1 =>
      rintro r W i ⟨v, D, q, hr, hc, hD⟩ hi
      rw [prts_pos hi] at hc
      refine (HB (r.take i) (prts 45 (r.drop (i + 1))) r v D W q (by simp; omega) hc hD).mono ?_
      rintro e W' (⟨he, v', q', hok⟩ | ⟨he, hx⟩)
      · refine .inl ⟨he, q'.a4, q'.a5, v', D ++ [r.take i], q'.sets _, by simp; omega, ?_, ?_⟩
        · rw [List.append_assoc]; exact hc
        · rw [List.all_append, hD]; simp [hok]
      · exact .inr ⟨he, hx⟩
    case hY2 =>
      rintro r W ⟨v, D, q, hr, hc, hD⟩ hi
      rw [prts_neg hi] at hc
      refine (HB r [] r v D W q hr hc hD).mono ?_
      rintro e W' (⟨he, v', q', hok⟩ | ⟨he, hx⟩)
      · refine ⟨⟨_, he⟩, .inr ⟨v', r, ?_, ?_⟩⟩
        · rw [← hc]; exact q'
        · rw [← hc, List.all_append, hD]; simp [hok]
      · exact ⟨⟨_, he⟩, .inl hx⟩
  rw [hW0]
  refine hgo.mono ?_
  rintro e W ⟨hv1, hJ⟩
  refine ⟨hv1, ?_⟩
  have hJ2 : CX w S b l W ∨ ∃ v r, RS w S b v (prts 45 l) r R W ∧ (prts 45 l).all (okP b) = true := by
    rcases hJ with h | h
    · exact .inl h
    · exact h
  rcases hJ2 with ⟨hq, v, D, r, lo, q, h1, h2⟩ | ⟨v, r, q, hf⟩
  · refine ⟨lo, q.a8, (fun e => by rw [h1] at e; cases e), .inr ⟨_, h2, ?_⟩⟩
    have q2 := q.loop { lo with state := .exhausted }
    have HQ : Hid ((prts 45 l).all (okP b) = false) := hq
    obtain ⟨V, hV⟩ : ∃ V, W.putObj (S + 1 + 1 + 1 + 1 + 1 + 1 + 1 + 1) (.loop { lo with state := .exhausted }) = V := ⟨_, rfl⟩
    rw [hV] at q2 ⊢
    clear hV hq
    have c1 := cell_of q2.a1
    have c2 := cell_of q2.a2
    gi_wp2
    refine ⟨by simp, .inl ⟨_, _, rfl, run_takeDeferred q2.a7, ?_⟩⟩
    refine ⟨_, res_cubes _ _ (S + 1) (S + 1 + 1) (.slice none 0 0) false rfl rfl (put_other q2.a1 (by omega)) (put_other q2.a2 (by omega)), done_be Hs.out q2.be _ (by omega), .inl ⟨HQ.out, rfl⟩⟩
  · refine ⟨R, q.a8, (fun e => by rw [rs] at e; cases e), .inl ⟨rp, ?_⟩⟩
    have q2 := q.loop { R with state := .exhausted }
    obtain ⟨V, hV⟩ : ∃ V, W.putObj (S + 1 + 1 + 1 + 1 + 1 + 1 + 1 + 1) (.loop { R with state := .exhausted }) = V := ⟨_, rfl⟩
    rw [hV] at q2 ⊢
    clear hV
    obtain ⟨pv, cv, rfl⟩ := shapeQ1 q2.ow
    have c1 := cell_of q2.a1
    have c2 := cell_of q2.a2
    have c3 := cell_of q2.a3
    have f1 := froz_of q2.a1
    have f2 := froz_of q2.a2
    have HQ : Hid ((prts 45 l).all (okP b) = true) := hf
    clear hf
    gi_wp2
    have k7 : ((V.setCell ⟨S + 1, 0, none⟩ (.slice pv (prts 45 l).length cv)).setCell ⟨S + 1 + 1, 0, none⟩ (.bool true)).heap[S + 1 + 1 + 1 + 1 + 1 + 1 + 1]? = some (.deferred (some [])) := set_other (set_other q2.a7 (by omega)) (by omega)
    have k1 : ((V.setCell ⟨S + 1, 0, none⟩ (.slice pv (prts 45 l).length cv)).setCell ⟨S + 1 + 1, 0, none⟩ (.bool true)).heap[S + 1]? = some (.cells #[.slice pv (prts 45 l).length cv] 32 (0, 0)) := set_other (set_one _ q2.a1) (by omega)
    have k2 : ((V.setCell ⟨S + 1, 0, none⟩ (.slice pv (prts 45 l).length cv)).setCell ⟨S + 1 + 1, 0, none⟩ (.bool true)).heap[S + 1 + 1]? = some (.cells #[.bool true] 4 (0, 0)) := set_one _ (set_other q2.a2 (by omega))
    have kb : Below S w ((V.setCell ⟨S + 1, 0, none⟩ (.slice pv (prts 45 l).length cv)).setCell ⟨S + 1 + 1, 0, none⟩ (.bool true)) := (q2.be.setCell (p := ⟨S + 1, 0, none⟩) (by show S ≤ S + 1; omega) _).setCell (p := ⟨S + 1 + 1, 0, none⟩) (by show S ≤ S + 1 + 1; omega) _
    have ko := (q2.ow.kept (set_grS V (S + 1) 0 (.slice pv (prts 45 l).length cv)) (.inr (fun e => by have := (q2.ow.lt _ e).1; omega))).kept (set_grS _ (S + 1 + 1) 0 (.bool true)) (.inr (fun e => by have := (q2.ow.lt _ e).1; omega))
    refine ⟨by simp, .inl ⟨_, _, rfl, run_takeDeferred k7, ?_⟩⟩
    refine ⟨_, res_cubes _ _ (S + 1) (S + 1 + 1) (.slice pv (prts 45 l).length cv) true rfl rfl (put_other k1 (by omega)) (put_other k2 (by omega)), done_be Hs.out kb _ (by omega), .inr ⟨HQ.out, _, rfl, ?_⟩⟩
    have := Hs.out
    exact own_base (ko.kept (grownBy_putObj' _ _ _) (.inr (fun e => by have := (ko.lt _ e).1; omega))) (by omega)
end Go.Proofs.YtecgjlpmmailjaaGreatDoor
