import Derived.Test.YtecgjlpmmailjaaGreatDoorXAT
import Derived.Test.YtecgjlpmmailjaaGreatDoorXAR
import Derived.Stop.RegionWithIn
namespace Go.Proofs.YtecgjlpmmailjaaGreatDoor
open Go.RowKit Go.Shelf Go.Sort
theorem KC_put {W : World} {k : Nat} {lo : Loop} {o : Obj} (h : W.heap[k]? = some (.loop lo)) : KC W (W.putObj k o) := fun j cs fr hj => by
  refine put_other hj ?_
  rintro rfl
  rw [h] at hj
  cases hj
theorem stepIn_append_own {F : Fence} {n : Nat} {P : Program} {w : World} {ops : Array Oper} {o : Oper} {a : Act} {K : Act → World → Prop} {Q : Exit → Act → World → Prop} {E : Prop}
    (hgd : o.guard = none) (s x : Operand) (t : TypeId) (hop : o.op = Op.call { callee := Callee.builtin Builtin.append, args := #[s, x], argTypes := #[t, t] })
    (base : Nat) (e : TypeId) (i : TypeInfo) (z : Value) (size bytes : Nat) (h1 : P.underlying t = some (.slice e)) (h2 : P.info? e = some i) (h3 : i.zero = some z) (h4 : i.size = size) (h5 : i.bytes = bytes) (h6 : z.cells.size = size) (h7 : 0 < size)
    (v : Value) (k : Nat) (xs : List Value) (hs : a.eval s = v) (hown : w.ownsRow base e size v k xs) (ad : Addr) (m c : Nat) (news : List Value) (hx : a.eval x = .slice (some ad) m c) (hn : news.length = m * size)
    (hc : ∀ j u, news[j]? = some u → w.cell? (ad.add j) = some u) (h1c : ∀ u ∈ news, u.oneCell' = true) (b1 : k + m ≤ maxLen) (b2 : (k + m) * bytes ≤ 140737488355328) (b3 : base ≤ w.heap.size)
    (hK : ∀ v' w', w'.ownsRow base e size v' (k + m) (xs ++ news) → w.grownBy w' v.ownBlock → (v' = .slice none 0 0 ↔ v = .slice none 0 0 ∧ m = 0) → K (a.put o.dst v') w') :
    if Region.wanted o (yielded ops a.tmps) = true then Oper.wpIn F n P o a w K Q else E := by
  have hw : Region.wanted o (yielded ops a.tmps) = true := by simp [Region.wanted, hgd]
  rw [if_pos hw]
  obtain ⟨v', w', hrun, r1, r2, r3⟩ := run_append_own (P := P) w base t o.type e i z size bytes h1 h2 h3 h4 h5 h6 h7 v k xs hown ad m c news hn hc h1c b1 b2 b3
  refine ⟨?_, ?_⟩
  · simp [Oper.about, hop, resolve, Target.leads, Sem.run_pure]
  · rw [Oper.semAt_plain F _ _ (by rw [hop]; intro c hc'; cases hc')]
    simp [execOp, hop, resolve, invoke, builtin, hs, hx, hrun, Result.andThen]
    exact hK v' w' r1 r2 r3
structure TS (w : World) (S b : Nat) (v : Value) (D : List ZT) (r : List UInt8) (lo : Loop) (W : World) : Prop where
  a0 : W.heap[S]? = some (.cells #[.int .i64 (b : Int)] 3 (0, 0))
  a1 : W.heap[S + 1]? = some (.cells #[.slice none 0 0] 26 (0, 0))
  a2 : W.heap[S + 1 + 1]? = some (.cells #[.bool false] 4 (0, 0))
  a3 : W.heap[S + 1 + 1 + 1]? = some (.cells #[v] 26 (0, 0))
  a4 : W.heap[S + 1 + 1 + 1 + 1]? = some (.cells #[.string ⟨r.toArray⟩] 9 (0, 0))
  a5 : W.heap[S + 1 + 1 + 1 + 1 + 1]? = some (.cells #[.string ⟨#[43]⟩] 9 (0, 0))
  a6 : W.heap[S + 1 + 1 + 1 + 1 + 1 + 1]? = some (.cells #[.int .i64 0] 3 (0, 0))
  a7 : W.heap[S + 1 + 1 + 1 + 1 + 1 + 1 + 1]? = some (.deferred (some []))
  a8 : W.heap[S + 1 + 1 + 1 + 1 + 1 + 1 + 1 + 1]? = some (.loop lo)
  ow : W.ownsRow (S + 1 + 1 + 1 + 1 + 1 + 1 + 1 + 1 + 1) 67 10 v D.length (tes D)
  zo : ∀ z ∈ D, ZOK W z
  be : Below S w W
  sz : w.heap.size = S
theorem TS.below {X : World} {w W : World} {S b : Nat} {v : Value} {D : List ZT} {r : List UInt8} {lo : Loop} (h : TS w S b v D r lo W) (hb : Below W.heap.size W X) : TS w S b v D r lo X :=
  ⟨keepblk3 hb h.a0, keepblk3 hb h.a1, keepblk3 hb h.a2, keepblk3 hb h.a3, keepblk3 hb h.a4, keepblk3 hb h.a5, keepblk3 hb h.a6, keepblk3 hb h.a7, keepblk3 hb h.a8, own_belQ h.ow hb, fun z hz => (h.zo z hz).later (KC_below hb), by have := h.be; rw [← h.sz] at this ⊢; exact bel0 this hb, h.sz⟩
theorem TS.loop {w W : World} {S b : Nat} {v : Value} {D : List ZT} {r : List UInt8} {lo : Loop} (h : TS w S b v D r lo W) (lo' : Loop) : TS w S b v D r lo' (W.putObj (S + 1 + 1 + 1 + 1 + 1 + 1 + 1 + 1) (.loop lo')) :=
  ⟨put_other h.a0 (by omega), put_other h.a1 (by omega), put_other h.a2 (by omega), put_other h.a3 (by omega), put_other h.a4 (by omega), put_other h.a5 (by omega), put_other h.a6 (by omega), put_other h.a7 (by omega), World.putObj_heap_same (lt_of_get3 h.a8), h.ow.kept (grownBy_putObj' W _ _) (.inr (fun e => by have := (h.ow.lt _ e).1; omega)), fun z hz => (h.zo z hz).later (KC_put h.a8), bel_grow h.be (grownBy_putObj' W _ _) (by rw [← h.sz]; exact h.sz ▸ h.be.size) (fun x e => by cases e; omega), h.sz⟩
theorem TS.sets {w W : World} {S b : Nat} {v : Value} {D : List ZT} {r : List UInt8} {lo : Loop} (h : TS w S b v D r lo W) (x : List UInt8) : TS w S b v D x lo (W.setCell ⟨S + 1 + 1 + 1 + 1, 0, none⟩ (.string ⟨x.toArray⟩)) :=
  ⟨set_other h.a0 (by omega), set_other h.a1 (by omega), set_other h.a2 (by omega), set_other h.a3 (by omega), set_one _ h.a4, set_other h.a5 (by omega), set_other h.a6 (by omega), set_other h.a7 (by omega), set_other h.a8 (by omega), h.ow.kept (set_grS _ _ _ _) (.inr (fun e => by have := (h.ow.lt _ e).1; omega)), fun z hz => (h.zo z hz).later (KC_grown (set_grS _ _ _ _) h.a4 (by decide)), h.be.setCell (p := ⟨S + 1 + 1 + 1 + 1, 0, none⟩) (by show S ≤ S + 1 + 1 + 1 + 1; omega) _, h.sz⟩
theorem TS.same0 {w W : World} {S b : Nat} {v : Value} {D : List ZT} {r : List UInt8} {lo : Loop} (h : TS w S b v D r lo W) : TS w S b v D r lo ((W.setCell ⟨S + 1, 0, none⟩ (.slice none 0 0)).setCell ⟨S + 1 + 1, 0, none⟩ (.bool false)) :=
  ⟨set_other (set_other h.a0 (by omega)) (by omega), set_other (set_one _ h.a1) (by omega), set_one _ (set_other h.a2 (by omega)), set_other (set_other h.a3 (by omega)) (by omega), set_other (set_other h.a4 (by omega)) (by omega), set_other (set_other h.a5 (by omega)) (by omega), set_other (set_other h.a6 (by omega)) (by omega), set_other (set_other h.a7 (by omega)) (by omega), set_other (set_other h.a8 (by omega)) (by omega), (h.ow.kept (set_grS _ _ _ _) (.inr (fun e => by have := (h.ow.lt _ e).1; omega))).kept (set_grS _ _ _ _) (.inr (fun e => by have := (h.ow.lt _ e).1; omega)), fun z hz => (h.zo z hz).later ((KC_grown (set_grS _ _ _ _) h.a1 (by decide)).trans (KC_grown (set_grS _ _ _ _) (set_other h.a2 (by omega)) (by decide))), (h.be.setCell (p := ⟨S + 1, 0, none⟩) (by show S ≤ S + 1; omega) _).setCell (p := ⟨S + 1 + 1, 0, none⟩) (by show S ≤ S + 1 + 1; omega) _, h.sz⟩
theorem TS_start (w : World) (S b : Nat) (r : List UInt8) (R : Loop) (hS : w.heap.size = S) : TS w S b (.slice none 0 0) [] r R (((((((((w.alloc (.cells #[.int .i64 (b : Int)] 3 (0, 0))).alloc (.cells #[.slice none 0 0] 26 (0, 0))).alloc (.cells #[.bool false] 4 (0, 0))).alloc (.cells #[.slice none 0 0] 26 (0, 0))).alloc (.cells #[.string ⟨r.toArray⟩] 9 (0, 0))).alloc (.cells #[.string ⟨#[43]⟩] 9 (0, 0))).alloc (.cells #[.int .i64 0] 3 (0, 0))).alloc (.deferred (some []))).alloc (.loop R)) := by
  subst hS
  obtain ⟨w1, e1⟩ : ∃ w1, w.alloc (.cells #[.int .i64 (b : Int)] 3 (0, 0)) = w1 := ⟨_, rfl⟩
  have z1 : w1.heap.size = w.heap.size + 1 := by rw [← e1]; simp
  obtain ⟨w2, e2⟩ : ∃ w2, w1.alloc (.cells #[.slice none 0 0] 26 (0, 0)) = w2 := ⟨_, rfl⟩
  have z2 : w2.heap.size = w.heap.size + 1 + 1 := by rw [← e2]; simp [z1]
  obtain ⟨w3, e3⟩ : ∃ w3, w2.alloc (.cells #[.bool false] 4 (0, 0)) = w3 := ⟨_, rfl⟩
  have z3 : w3.heap.size = w.heap.size + 1 + 1 + 1 := by rw [← e3]; simp [z2]
  obtain ⟨w4, e4⟩ : ∃ w4, w3.alloc (.cells #[.slice none 0 0] 26 (0, 0)) = w4 := ⟨_, rfl⟩
  have z4 : w4.heap.size = w.heap.size + 1 + 1 + 1 + 1 := by rw [← e4]; simp [z3]
  obtain ⟨w5, e5⟩ : ∃ w5, w4.alloc (.cells #[.string ⟨r.toArray⟩] 9 (0, 0)) = w5 := ⟨_, rfl⟩
  have z5 : w5.heap.size = w.heap.size + 1 + 1 + 1 + 1 + 1 := by rw [← e5]; simp [z4]
  obtain ⟨w6, e6⟩ : ∃ w6, w5.alloc (.cells #[.string ⟨#[43]⟩] 9 (0, 0)) = w6 := ⟨_, rfl⟩
  have z6 : w6.heap.size = w.heap.size + 1 + 1 + 1 + 1 + 1 + 1 := by rw [← e6]; simp [z5]
  obtain ⟨w7, e7⟩ : ∃ w7, w6.alloc (.cells #[.int .i64 0] 3 (0, 0)) = w7 := ⟨_, rfl⟩
  have z7 : w7.heap.size = w.heap.size + 1 + 1 + 1 + 1 + 1 + 1 + 1 := by rw [← e7]; simp [z6]
  obtain ⟨w8, e8⟩ : ∃ w8, w7.alloc (.deferred (some [])) = w8 := ⟨_, rfl⟩
  have z8 : w8.heap.size = w.heap.size + 1 + 1 + 1 + 1 + 1 + 1 + 1 + 1 := by rw [← e8]; simp [z7]
  obtain ⟨w9, e9⟩ : ∃ w9, w8.alloc (.loop R) = w9 := ⟨_, rfl⟩
  have z9 : w9.heap.size = w.heap.size + 1 + 1 + 1 + 1 + 1 + 1 + 1 + 1 + 1 := by rw [← e9]; simp [z8]
  rw [e1, e2, e3, e4, e5, e6, e7, e8, e9]
  have k1 : w1.heap[w.heap.size]? = some (.cells #[.int .i64 (b : Int)] 3 (0, 0)) := by rw [← e1]; exact alloc_get _ _
  have k2 : w2.heap[w.heap.size + 1]? = some (.cells #[.slice none 0 0] 26 (0, 0)) := by rw [← e2, ← z1]; exact alloc_get _ _
  have k3 : w3.heap[w.heap.size + 1 + 1]? = some (.cells #[.bool false] 4 (0, 0)) := by rw [← e3, ← z2]; exact alloc_get _ _
  have k4 : w4.heap[w.heap.size + 1 + 1 + 1]? = some (.cells #[.slice none 0 0] 26 (0, 0)) := by rw [← e4, ← z3]; exact alloc_get _ _
  have k5 : w5.heap[w.heap.size + 1 + 1 + 1 + 1]? = some (.cells #[.string ⟨r.toArray⟩] 9 (0, 0)) := by rw [← e5, ← z4]; exact alloc_get _ _
  have k6 : w6.heap[w.heap.size + 1 + 1 + 1 + 1 + 1]? = some (.cells #[.string ⟨#[43]⟩] 9 (0, 0)) := by rw [← e6, ← z5]; exact alloc_get _ _
  have k7 : w7.heap[w.heap.size + 1 + 1 + 1 + 1 + 1 + 1]? = some (.cells #[.int .i64 0] 3 (0, 0)) := by rw [← e7, ← z6]; exact alloc_get _ _
  have k8 : w8.heap[w.heap.size + 1 + 1 + 1 + 1 + 1 + 1 + 1]? = some (.deferred (some [])) := by rw [← e8, ← z7]; exact alloc_get _ _
  have k9 : w9.heap[w.heap.size + 1 + 1 + 1 + 1 + 1 + 1 + 1 + 1]? = some (.loop R) := by rw [← e9, ← z8]; exact alloc_get _ _
  have t2 : ∀ b o, w1.heap[b]? = some o → w2.heap[b]? = some o := fun b o h => by rw [← e2]; exact allocblk3 h _
  have t3 : ∀ b o, w2.heap[b]? = some o → w3.heap[b]? = some o := fun b o h => by rw [← e3]; exact allocblk3 h _
  have t4 : ∀ b o, w3.heap[b]? = some o → w4.heap[b]? = some o := fun b o h => by rw [← e4]; exact allocblk3 h _
  have t5 : ∀ b o, w4.heap[b]? = some o → w5.heap[b]? = some o := fun b o h => by rw [← e5]; exact allocblk3 h _
  have t6 : ∀ b o, w5.heap[b]? = some o → w6.heap[b]? = some o := fun b o h => by rw [← e6]; exact allocblk3 h _
  have t7 : ∀ b o, w6.heap[b]? = some o → w7.heap[b]? = some o := fun b o h => by rw [← e7]; exact allocblk3 h _
  have t8 : ∀ b o, w7.heap[b]? = some o → w8.heap[b]? = some o := fun b o h => by rw [← e8]; exact allocblk3 h _
  have t9 : ∀ b o, w8.heap[b]? = some o → w9.heap[b]? = some o := fun b o h => by rw [← e9]; exact allocblk3 h _
  have b0 : Below w.heap.size w w := Below.refl _ _
  have b1 := b0.alloc (by omega) (.cells #[.int .i64 (b : Int)] 3 (0, 0)); rw [e1] at b1
  have b2 := b1.alloc (by omega) (.cells #[.slice none 0 0] 26 (0, 0)); rw [e2] at b2
  have b3 := b2.alloc (by omega) (.cells #[.bool false] 4 (0, 0)); rw [e3] at b3
  have b4 := b3.alloc (by omega) (.cells #[.slice none 0 0] 26 (0, 0)); rw [e4] at b4
  have b5 := b4.alloc (by omega) (.cells #[.string ⟨r.toArray⟩] 9 (0, 0)); rw [e5] at b5
  have b6 := b5.alloc (by omega) (.cells #[.string ⟨#[43]⟩] 9 (0, 0)); rw [e6] at b6
  have b7 := b6.alloc (by omega) (.cells #[.int .i64 0] 3 (0, 0)); rw [e7] at b7
  have b8 := b7.alloc (by omega) (.deferred (some [])); rw [e8] at b8
  have b9 := b8.alloc (by omega) (.loop R); rw [e9] at b9
  exact ⟨t9 _ _ (t8 _ _ (t7 _ _ (t6 _ _ (t5 _ _ (t4 _ _ (t3 _ _ (t2 _ _ (k1)))))))), t9 _ _ (t8 _ _ (t7 _ _ (t6 _ _ (t5 _ _ (t4 _ _ (t3 _ _ (k2))))))), t9 _ _ (t8 _ _ (t7 _ _ (t6 _ _ (t5 _ _ (t4 _ _ (k3)))))), t9 _ _ (t8 _ _ (t7 _ _ (t6 _ _ (t5 _ _ (k4))))), t9 _ _ (t8 _ _ (t7 _ _ (t6 _ _ (k5)))), t9 _ _ (t8 _ _ (t7 _ _ (k6))), t9 _ _ (t8 _ _ (k7)), t9 _ _ (k8), k9, World.ownsRow_nil _ _ _ _, (fun z hz => by cases hz), b9, rfl⟩
end Go.Proofs.YtecgjlpmmailjaaGreatDoor
