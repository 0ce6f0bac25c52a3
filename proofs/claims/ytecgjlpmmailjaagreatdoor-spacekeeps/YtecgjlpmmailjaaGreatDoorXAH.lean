import Derived.Test.YtecgjlpmmailjaaGreatDoorXAE
import Derived.Test.YtecgjlpmmailjaaGreatDoorXAG
import Derived.RangeFuncSeq
namespace Go.Proofs.YtecgjlpmmailjaaGreatDoor
open Go.RowKit
/-- what a round keeps: all that is not the caller's own: X, and the row r that grows -/
def YK (X : Nat → Prop) (r : Option Nat) (W : World) (r' : Option Nat) (W' : World) : Prop := W.heap.size ≤ W'.heap.size ∧ ∀ k, k < W.heap.size → ¬ X k → some k ≠ r → W'.heap[k]? = W.heap[k]? ∧ some k ≠ r'
theorem YK.refl (X : Nat → Prop) (r : Option Nat) (W : World) : YK X r W r W := ⟨Nat.le_refl _, fun _ _ _ h => ⟨rfl, h⟩⟩
theorem YK.trans {X : Nat → Prop} {r r' r'' : Option Nat} {W W' W'' : World} (h : YK X r W r' W') (g : YK X r' W' r'' W'') : YK X r W r'' W'' := ⟨Nat.le_trans h.1 g.1, fun k h1 h2 h3 => by
  obtain ⟨a1, a2⟩ := h.2 k h1 h2 h3
  obtain ⟨b1, b2⟩ := g.2 k (Nat.lt_of_lt_of_le h1 h.1) h2 a2
  exact ⟨b1.trans a1, b2⟩⟩
theorem YK.below {X : Nat → Prop} {r : Option Nat} {W W' : World} (h : Below W.heap.size W W') : YK X r W r W' := ⟨h.size, fun k h1 _ h3 => ⟨h.block k h1, h3⟩⟩
theorem YK.wider {X Y : Nat → Prop} {r r' : Option Nat} {W W' : World} (h : YK X r W r' W') (hx : ∀ k, X k → Y k) : YK Y r W r' W' := ⟨h.1, fun k h1 h2 h3 => h.2 k h1 (fun h => h2 (hx k h)) h3⟩
theorem YK.blk {X : Nat → Prop} {r r' : Option Nat} {W W' : World} {k : Nat} {o : Obj} (h : YK X r W r' W') (hk : W.heap[k]? = some o) (hx : ¬ X k) (hr : some k ≠ r) : W'.heap[k]? = some o := (h.2 k (lt_of_get3 hk) hx hr).1.trans hk
theorem size_setC (W : World) (p : Addr) (v : Value) : (W.setCell p v).heap.size = W.heap.size := by simp [World.setCell]
theorem YK.set {X : Nat → Prop} {r : Option Nat} (W : World) {b : Nat} (j : Nat) (v : Value) (hx : X b) : YK X r W r (W.setCell ⟨b, j, none⟩ v) := ⟨by rw [size_setC]; exact Nat.le_refl _, fun k _ h2 h3 => ⟨Below.heap_setCell _ _ _ _ (by rintro rfl; exact h2 hx), h3⟩⟩
/-- the caller's own, and one block more -/
def XB (X : Nat → Prop) (b : Nat) (k : Nat) : Prop := X k ∨ k = b
/-- the counts, as they lie -/
def mtA (K : Nat) (M : Nat → Nat) : Array Value := ((List.range K).map (fun j => Value.int .i64 ((M j : Nat) : Int))).toArray
def MET (W : World) (b K : Nat) (M : Nat → Nat) : Prop := W.heap[b]? = some (.cells (mtA K M) 3 (0, 0))
theorem mtA_at {K : Nat} {M : Nat → Nat} {j : Nat} (hj : j < K) : (mtA K M)[j]? = some (.int .i64 ((M j : Nat) : Int)) := by simp [mtA, hj]
theorem mtA_put {K : Nat} {M : Nat → Nat} {j : Nat} (_hj : j < K) : (mtA K M).setIfInBounds j (.int .i64 ((M j : Nat) + 1 : Int)) = mtA K (cntD M j) := by
  apply Array.ext
  · simp [mtA]
  · intro i h1 h2
    have hi : i < K := by simpa [mtA] using h2
    rw [Array.getElem_setIfInBounds (by simpa [mtA] using hi)]
    by_cases e : j = i
    · subst e
      simp [mtA, cntD]
    · have e' : ¬ i = j := fun h => e h.symm
      simp [mtA, cntD, e, e']
theorem MET.cell {W : World} {b K : Nat} {M : Nat → Nat} {j : Nat} (h : MET W b K M) (hj : j < K) : W.cell? ⟨b, j, none⟩ = some (.int .i64 ((M j : Nat) : Int)) ∧ W.frozen? ⟨b, j, none⟩ = false := by
  obtain ⟨c, f⟩ := cells_block h
  exact ⟨(c j).trans (mtA_at hj), f j⟩
theorem MET.put {W : World} {b K : Nat} {M : Nat → Nat} {j : Nat} (h : MET W b K M) (hj : j < K) : MET (W.setCell ⟨b, j, none⟩ (.int .i64 ((M j : Nat) + 1 : Int))) b K (cntD M j) := by
  have h1 := set_get (j := j) (.int .i64 ((M j : Nat) + 1 : Int)) h
  rw [mtA_put hj] at h1
  exact h1
theorem MET.cong {W : World} {b K : Nat} {M M' : Nat → Nat} (h : MET W b K M) (e : ∀ j, M j = M' j) : MET W b K M' := by
  have : M = M' := funext e
  rw [← this]
  exact h
theorem CB.same {W X : World} {g o : Nat} {t : List UInt8} (h : CB W g o t) (hb : X.heap[g]? = W.heap[g]?) : CB X g o t := by
  have hk : ∀ j, X.cell? ⟨g, j, none⟩ = W.cell? ⟨g, j, none⟩ := fun j => by unfold World.cell?; rw [hb]
  obtain ⟨a0, a1, a2, a3, a4, a5, a6, a7, a8⟩ := h
  exact ⟨(hk _).trans a0, (hk _).trans a1, (hk _).trans a2, (hk _).trans a3, (hk _).trans a4, (hk _).trans a5, (hk _).trans a6, (hk _).trans a7, (hk _).trans a8⟩
/-- a row of cubes that is none of the caller's own lies there -/
def RC (W : World) (X : Nat → Prop) (r : Option Nat) (p : Option Addr) (L : List (List UInt8)) : Prop := ∀ (i : Nat) (z : List UInt8), L[i]? = some z → ∃ g o0, p = some ⟨g, o0, none⟩ ∧ CB W g (o0 + i * 9) z ∧ ¬ X g ∧ some g ≠ r
theorem RC.keep {W W' : World} {X : Nat → Prop} {r r' : Option Nat} {p : Option Addr} {L : List (List UInt8)} (h : RC W X r p L) (hy : YK X r W r' W') : RC W' X r' p L := fun i z hz => by
  obtain ⟨g, o0, e, c, h1, h2⟩ := h i z hz
  obtain ⟨k1, k2⟩ := hy.2 g (World.block_lt_of_cell? W _ c.1) h1 h2
  exact ⟨g, o0, e, c.same k1, h1, k2⟩
theorem RC.tail {W : World} {X : Nat → Prop} {r : Option Nat} {g o0 k : Nat} {d : List UInt8} {L : List (List UInt8)} (h : RC W X r (some ⟨g, o0, none⟩) (d :: L)) (hk : L.length + 1 ≤ k) : RC W X r (if k = 1 then some ⟨g, o0, none⟩ else some ⟨g, o0 + 9, none⟩) L := fun i z hz => by
  obtain ⟨g', o', e, c, h1, h2⟩ := h (i + 1) z (by rw [List.getElem?_cons_succ]; exact hz)
  injection e with e
  injection e with e1 e2 _
  subst e1
  subst e2
  have hi := (List.getElem?_eq_some_iff.1 hz).1
  have hk1 : ¬ k = 1 := by omega
  refine ⟨g, o0 + 9, if_neg hk1, ?_, h1, h2⟩
  have e3 : o0 + (i + 1) * 9 = o0 + 9 + i * 9 := by omega
  rw [e3] at c
  exact c
/-- what the caller holds while it is handed cube after cube -/
structure JY (X : Nat → Prop) (N0 : Nat) (J : List (List UInt8) → Option Nat → World → Prop) : Prop where
  below : ∀ o r W W', J o r W → Below W.heap.size W W' → J o r W'
  set : ∀ o r W (b j : Nat) v, J o r W → N0 ≤ b → some b ≠ r → J o r (W.setCell ⟨b, j, none⟩ v)
  low : ∀ k, X k → k < N0
  size : ∀ o r W, J o r W → N0 ≤ W.heap.size
  row : ∀ o r W k, J o r W → r = some k → k < W.heap.size
/-- what a call of yield does -/
def YLD (A : List (List UInt8)) (X : Nat → Prop) (J : List (List UInt8) → Option Nat → World → Prop) (Jx : World → Prop) (l m n : Nat) : Prop := ∀ o r W x, J o r W → o.length ≤ 8192 → good x = true → x.length = n → (o ++ [x]) <+: A → YieldAt Fence.wide m Tryz.prog l #[.agg #[.int .i64 (x.length : Int), .int .u64 (FW x 0 : Int), .int .u64 (FW x 1 : Int), .int .u64 (FW x 2 : Int), .int .u64 (FW x 3 : Int), .int .u64 (OW x 0 : Int), .int .u64 (OW x 1 : Int), .int .u64 (OW x 2 : Int), .int .u64 (OW x 3 : Int)]] W fun e W' => ∃ r', YK X r W r' W' ∧ ((e = .returned (.bool true) ∧ J (o ++ [x]) r' W') ∨ (e = .returned (.bool false) ∧ Jx W'))
/-- what a way down ends with -/
def DP (X : Nat → Prop) (J : List (List UInt8) → Option Nat → World → Prop) (Jx : World → Prop) (bm K : Nat) (room : Int) (M : Nat → Nat) (c : List UInt8) (L : List (List UInt8)) (o : List (List UInt8)) (r : Option Nat) (W : World) (e : Ending) (W' : World) : Prop :=
  (∃ ok r', e = .returned (.bool ok) ∧ some bm ≠ r' ∧ YK (XB X bm) r W r' W' ∧ ((ok = true ∧ dok splT room M [c] L ∧ J (o ++ exT splT [c] L) r' W' ∧ MET W' bm K (fun j => M j + lvl splT [c] L j)) ∨ (ok = false ∧ Jx W'))) ∨ (e = .panicked [{ v := .iface 81 (.agg #[]), recovered := false }] ∧ ¬ dok splT room M [c] L ∧ ∃ o' r', J o' r' W')
/-- down, with that list still to be taken away -/
def DWN (A : List (List UInt8)) (X : Nat → Prop) (J : List (List UInt8) → Option Nat → World → Prop) (Jx : World → Prop) (nb l bm K nf : Nat) (room : Int) (L : List (List UInt8)) : Prop := ∀ (c : List UInt8) (M : Nat → Nat) (o : List (List UInt8)) (r : Option Nat) (p : Option Addr) (k : Nat) (W : World), good c = true → c.length = nb → J o r W → MET W bm K M → some bm ≠ r → (∀ j, j ≤ L.length → ((M j : Nat) : Int) ≤ room) → (room ≤ 4096 ∨ dok splT 4096 M [c] L) → RC W (XB X bm) r p L → L.length ≤ k → o.length ≤ nf + M 0 → (o ++ exT splT [c] L) <+: A →
    Calls Tryz.prog 35 #[.agg #[.int .i64 room, .slice (some ⟨bm, 0, none⟩) K K, .func (.yield l) #[] #[]], .agg #[.int .i64 (c.length : Int), .int .u64 (FW c 0 : Int), .int .u64 (FW c 1 : Int), .int .u64 (FW c 2 : Int), .int .u64 (FW c 3 : Int), .int .u64 (OW c 0 : Int), .int .u64 (OW c 1 : Int), .int .u64 (OW c 2 : Int), .int .u64 (OW c 3 : Int)], .slice p L.length k] W (DP X J Jx bm K room M c L o r W)
/-- one piece of a list that lies ahead -/
theorem pre_piece {A o P L : List (List UInt8)} {z : List UInt8} {i : Nat} (h : (o ++ exT splT P L) <+: A) (hz : P[i]? = some z) : ((o ++ exT splT (P.take i) L) ++ exT splT [z] L) <+: A := by
  refine List.IsPrefix.trans ?_ h
  rw [List.append_assoc, ← exT_succ splT hz]
  have e := exT_app splT L (P.take (i + 1)) (P.drop (i + 1))
  rw [List.take_append_drop] at e
  rw [e, ← List.append_assoc]
  exact List.prefix_append _ _
/-- all the plain cubes, one term behind the other -/
def flT (Ts : List (List UInt8 × List (List UInt8))) : List (List UInt8) := Ts.flatMap (fun t => exT splT [t.1] t.2)
theorem flT_cons (t : List UInt8 × List (List UInt8)) (Ts : List (List UInt8 × List (List UInt8))) : flT (t :: Ts) = exT splT [t.1] t.2 ++ flT Ts := rfl
theorem exE_fl {lim : Nat} : ∀ (Ts : List (List UInt8 × List (List UInt8))) (out R : List (List UInt8)), exE splT lim out Ts = some R → R = out ++ flT Ts
  | [], out, R, e => by
    injection e with e
    rw [← e]
    exact (List.append_nil _).symm
  | t :: r, out, R, e => by
    unfold exE at e
    split at e
    · rw [exE_fl r _ R e, flT_cons, List.append_assoc]
    · cases e
theorem few_of {room : Int} {M : Nat → Nat} {c : List UInt8} {L : List (List UInt8)} (h1 : ∀ j, j ≤ L.length → ((M j : Nat) : Int) ≤ room) (h2 : room ≤ 4096 ∨ dok splT 4096 M [c] L) (j : Nat) (hj : j ≤ L.length) : M j ≤ 4096 := by
  rcases h2 with h2 | h2
  · have := h1 j hj
    omega
  · have := h2 j hj
    omega
theorem dok_cnt {room : Int} {M : Nat → Nat} {k : Nat} {l L : List (List UInt8)} (hk : L.length < k) : dok splT room (cntD M k) l L ↔ dok splT room M l L := by
  unfold dok
  constructor
  · intro h j hj
    have := h j hj
    unfold cntD at this
    rw [if_neg (by omega)] at this
    exact this
  · intro h j hj
    have := h j hj
    unfold cntD
    rw [if_neg (by omega)]
    exact this
/-- the counts behind all the pieces -/
theorem cnt_all (M : Nat → Nat) (c d : List UInt8) (L : List (List UInt8)) (j : Nat) : cntD M (L.length + 1) j + lvl splT (splT c d) L j = M j + lvl splT [c] (d :: L) j := by
  rw [lvl_cons]
  unfold cntD
  split
  · rename_i e
    subst e
    rw [lvl_over splT L _ _ (by omega)]
  · rfl
theorem cnt_nil (M : Nat → Nat) (c : List UInt8) (j : Nat) : cntD M 0 j = M j + lvl splT [c] [] j := by
  unfold cntD lvl
  split <;> simp
theorem dok_nil {room : Int} {M : Nat → Nat} {c : List UInt8} : dok splT room M [c] [] ↔ ((M 0 : Nat) + 1 : Int) ≤ room := by
  unfold dok
  constructor
  · intro h
    have := h 0 (Nat.le_refl _)
    simpa [lvl] using this
  · intro h j hj
    have : j = 0 := by simpa using hj
    subst this
    simpa [lvl] using h
end Go.Proofs.YtecgjlpmmailjaaGreatDoor
namespace Go.Proofs.YtecgjlpmmailjaaGreatDoor
open Go.RowKit
set_option maxRecDepth 100000 in
set_option maxHeartbeats 8000000 in
theorem down_nil {A : List (List UInt8)} {X : Nat → Prop} {J : List (List UInt8) → Option Nat → World → Prop} {Jx : World → Prop} {N0 l m nb bm K : Nat} {room : Int} (hJ : JY X N0 J) (hY : YLD A X J Jx l m nb) (hbm : N0 ≤ bm) (hK : K ≤ 100000)
    (c : List UInt8) (M : Nat → Nat) (o : List (List UInt8)) (r : Option Nat) (p : Option Addr) (k : Nat) (W : World) (gc : good c = true) (hc : c.length = nb) (h : J o r W) (hm : MET W bm K M) (hr : some bm ≠ r) (hNK : 0 < K) (hM4 : M 0 ≤ 4096) (hol : o.length ≤ 8192) (hpa : (o ++ [c]) <+: A) :
    Calls Tryz.prog 35 #[.agg #[.int .i64 room, .slice (some ⟨bm, 0, none⟩) K K, .func (.yield l) #[] #[]], .agg #[.int .i64 (c.length : Int), .int .u64 (FW c 0 : Int), .int .u64 (FW c 1 : Int), .int .u64 (FW c 2 : Int), .int .u64 (FW c 3 : Int), .int .u64 (OW c 0 : Int), .int .u64 (OW c 1 : Int), .int .u64 (OW c 2 : Int), .int .u64 (OW c 3 : Int)], .slice p 0 k] W (DP X J Jx bm K room M c [] o r W) := by
  have HC : Hid (c.length = nb ∧ good c = true ∧ o.length ≤ 8192) := ⟨hc, gc, hol⟩
  have HPA : Hid ((o ++ [c]) <+: A) := hpa
  clear hc gc hol hpa
  obtain ⟨w2, hw2⟩ : ∃ w2, (W.alloc (.cells #[.int .i64 room, .slice (some ⟨bm, 0, none⟩) K K, .func (.yield l) #[] #[]] 84 (0, 0))).alloc (.cells #[.int .i64 (c.length : Int), .int .u64 (FW c 0 : Int), .int .u64 (FW c 1 : Int), .int .u64 (FW c 2 : Int), .int .u64 (FW c 3 : Int), .int .u64 (OW c 0 : Int), .int .u64 (OW c 1 : Int), .int .u64 (OW c 2 : Int), .int .u64 (OW c 3 : Int)] 58 (0, 0)) = w2 := ⟨_, rfl⟩
  have b3 : w2.heap[W.heap.size]? = some (.cells #[.int .i64 room, .slice (some ⟨bm, 0, none⟩) K K, .func (.yield l) #[] #[]] 84 (0, 0)) := by rw [← hw2]; exact alw_0 _ _ _
  have b4 : w2.heap[W.heap.size + 1]? = some (.cells #[.int .i64 (c.length : Int), .int .u64 (FW c 0 : Int), .int .u64 (FW c 1 : Int), .int .u64 (FW c 2 : Int), .int .u64 (FW c 3 : Int), .int .u64 (OW c 0 : Int), .int .u64 (OW c 1 : Int), .int .u64 (OW c 2 : Int), .int .u64 (OW c 3 : Int)] 58 (0, 0)) := by rw [← hw2]; exact alw_1 _ _ _
  have hB2 : Below W.heap.size W w2 := by rw [← hw2]; exact belA (belA (Below.refl _ _) _) _
  have hm2 : MET w2 bm K M := keepblk3 hB2 hm
  have hbm2 : bm < W.heap.size := lt_of_get3 hm
  obtain ⟨w3, hw3⟩ : ∃ w3, w2.setCell ⟨bm, 0, none⟩ (.int .i64 ((M 0 : Nat) + 1 : Int)) = w3 := ⟨_, rfl⟩
  have hm3 : MET w3 bm K (cntD M 0) := by rw [← hw3]; exact hm2.put hNK
  have hy3 : YK (XB X bm) r W r w3 := by rw [← hw3]; exact (YK.below hB2).trans (YK.set _ _ _ (.inr rfl))
  have hj3 : J o r w3 := by rw [← hw3]; exact hJ.set _ _ _ _ _ _ (hJ.below _ _ _ _ h hB2) hbm hr
  have b33 : w3.heap[W.heap.size]? = some (.cells #[.int .i64 room, .slice (some ⟨bm, 0, none⟩) K K, .func (.yield l) #[] #[]] 84 (0, 0)) := by rw [← hw3]; exact (Below.heap_setCell _ _ _ _ (by show W.heap.size ≠ bm; omega)).trans b3
  have b43 : w3.heap[W.heap.size + 1]? = some (.cells #[.int .i64 (c.length : Int), .int .u64 (FW c 0 : Int), .int .u64 (FW c 1 : Int), .int .u64 (FW c 2 : Int), .int .u64 (FW c 3 : Int), .int .u64 (OW c 0 : Int), .int .u64 (OW c 1 : Int), .int .u64 (OW c 2 : Int), .int .u64 (OW c 3 : Int)] 58 (0, 0)) := by rw [← hw3]; exact (Below.heap_setCell _ _ _ _ (by show W.heap.size + 1 ≠ bm; omega)).trans b4
  obtain ⟨hc3, -⟩ := cells_block b3
  obtain ⟨hmc, hmf⟩ := hm2.cell hNK
  obtain ⟨m0, hm0⟩ : ∃ m0, M 0 = m0 := ⟨_, rfl⟩
  rw [hm0] at hmc hw3
  have hm4 : m0 ≤ 4096 := by rw [← hm0]; exact hM4
  have HH : Hid (MET w3 bm K (cntD M 0) ∧ YK (XB X bm) r W r w3 ∧ J o r w3 ∧ w3.heap[W.heap.size]? = some (.cells #[.int .i64 room, .slice (some ⟨bm, 0, none⟩) K K, .func (.yield l) #[] #[]] 84 (0, 0)) ∧ w3.heap[W.heap.size + 1]? = some (.cells #[.int .i64 (c.length : Int), .int .u64 (FW c 0 : Int), .int .u64 (FW c 1 : Int), .int .u64 (FW c 2 : Int), .int .u64 (FW c 3 : Int), .int .u64 (OW c 0 : Int), .int .u64 (OW c 1 : Int), .int .u64 (OW c 2 : Int), .int .u64 (OW c 3 : Int)] 58 (0, 0)) ∧ M 0 = m0 ∧ bm < W.heap.size ∧ 0 < K) := ⟨hm3, hy3, hj3, b33, b43, hm0, hbm2, hNK⟩
  clear hm3 hy3 hj3 b33 b43 b3 b4 hB2 hm2 hm hm0 hM4 h
  have jk : (0 : Int) < (K : Int) := by omega
  go_enter Tryz.func35, Tryz.ntmps35
  go_upto_region 2 with fail
  clear hw2 hc3 hmc hmf
  have hs0 : (∀ j, w3.drew.cell? ⟨W.heap.size, j, none⟩ = (#[.int .i64 room, .slice (some ⟨bm, 0, none⟩) K K, .func (.yield l) #[] #[]] : Array Value)[j]?) ∧ w3.drew.cell? ⟨bm, 0, none⟩ = some (.int .i64 ((m0 : Int) + 1)) := by
    refine ⟨(cells_block HH.out.2.2.2.1).1, ?_⟩
    have := (HH.out.1.cell HH.out.2.2.2.2.2.2.2).1
    unfold cntD at this
    rw [if_pos rfl, HH.out.2.2.2.2.2.1] at this
    exact this
  refine wp_region_held_drew (S := fun V => (∀ j, V.cell? ⟨W.heap.size, j, none⟩ = (#[.int .i64 room, .slice (some ⟨bm, 0, none⟩) K K, .func (.yield l) #[] #[]] : Array Value)[j]?) ∧ V.cell? ⟨bm, 0, none⟩ = some (.int .i64 ((m0 : Int) + 1))) (by kernel_rfl) hs0 (fun _ => ?_)
  refine wpAnyH_take (i := 0) (v := .pointer (some ⟨W.heap.size, 1, none⟩)) rfl (by kernel_rfl) (by kernel_rfl) (by kernel_rfl) (fun _ _ _ h => h) (Or.inl ⟨by rfl, ?_⟩) hs0 ?_
  · rintro w ⟨s1, s2⟩; go_simp
  refine wpAnyH_take (i := 1) (v := .slice (some ⟨bm, 0, none⟩) K K) rfl (by kernel_rfl) (by kernel_rfl) (by kernel_rfl) (fun _ _ _ h => h) (Or.inl ⟨by rfl, ?_⟩) hs0 ?_
  · rintro w ⟨s1, s2⟩; go_simp
  refine wpAnyH_take (i := 2) (v := .slice p 0 k) rfl (by kernel_rfl) (by kernel_rfl) (by kernel_rfl) (fun _ _ _ h => h) (Or.inl ⟨by rfl, ?_⟩) hs0 ?_
  · rintro w ⟨s1, s2⟩; go_simp
  refine wpAnyH_take (i := 3) (v := .int .i64 (0 : Int)) rfl (by kernel_rfl) (by kernel_rfl) (by kernel_rfl) (fun _ _ _ h => h) (Or.inl ⟨by rfl, ?_⟩) hs0 ?_
  · rintro w ⟨s1, s2⟩; go_simp
  refine wpAnyH_take (i := 4) (v := .pointer (some ⟨bm, 0, none⟩)) rfl (by kernel_rfl) (by kernel_rfl) (by kernel_rfl) (fun _ _ _ h => h) (Or.inl ⟨by rfl, ?_⟩) hs0 ?_
  · rintro w ⟨s1, s2⟩; go_simp
  refine wpAnyH_take (i := 5) (v := .int .i64 ((m0 : Int) + 1)) rfl (by kernel_rfl) (by kernel_rfl) (by kernel_rfl) (fun _ _ _ h => h) (Or.inl ⟨by rfl, ?_⟩) hs0 ?_
  · rintro w ⟨s1, s2⟩; go_simp
  refine wpAnyH_take (i := 6) (v := .pointer (some ⟨W.heap.size, 0, none⟩)) rfl (by kernel_rfl) (by kernel_rfl) (by kernel_rfl) (fun _ _ _ h => h) (Or.inl ⟨by rfl, ?_⟩) hs0 ?_
  · rintro w ⟨s1, s2⟩; go_simp
  refine wpAnyH_take (i := 7) (v := .int .i64 room) rfl (by kernel_rfl) (by kernel_rfl) (by kernel_rfl) (fun _ _ _ h => h) (Or.inl ⟨by rfl, ?_⟩) hs0 ?_
  · rintro w ⟨s1, s2⟩; go_simp
  refine wpAnyH_ready (rs := [8]) (by kernel_rfl) (by simp) ?_
  refine AllReadyH.cons rfl (fun KK hKK => ?_) AllReadyH.nil
  go_simp
  by_cases hro : (m0 : Int) + 1 ≤ room
  · refine (spend_ok _ _ _ hro).mono ?_
    rintro e w4 ⟨rfl, rfl⟩
    go_simp
    refine hKK.out _ _ hs0 (fun _ => ?_)
    clear hKK KK
    refine wpAnyH_done (by kernel_rfl) ?_ _
    go_upto_region 4 with fail
    have hj4 : J o r w3.drew := hJ.below _ _ _ _ HH.out.2.2.1 (Below.refl _ _).drew
    have hc3 : ∀ j, w3.drew.cell? ⟨W.heap.size, j, none⟩ = (#[.int .i64 room, .slice (some ⟨bm, 0, none⟩) K K, .func (.yield l) #[] #[]] : Array Value)[j]? := hs0.1
    have hc4 : ∀ j, w3.drew.cell? ⟨W.heap.size + 1, j, none⟩ = (#[.int .i64 (c.length : Int), .int .u64 (FW c 0 : Int), .int .u64 (FW c 1 : Int), .int .u64 (FW c 2 : Int), .int .u64 (FW c 3 : Int), .int .u64 (OW c 0 : Int), .int .u64 (OW c 1 : Int), .int .u64 (OW c 2 : Int), .int .u64 (OW c 3 : Int)] : Array Value)[j]? := (cells_block HH.out.2.2.2.2.1).1
    obtain ⟨fn, tmps, assign, body, hy, hR⟩ := hY o r w3.drew c hj4 HC.out.2.2 HC.out.2.1 HC.out.1 HPA.out
    clear hs0
    refine (wpIn_wide (n := m + 1)).1 ?_
    gi_wp2
    refine hR.mono ?_
    rintro e W3 ⟨r', hyk, ⟨rfl, hj'⟩ | ⟨rfl, hx⟩⟩
    all_goals have hbr : some bm ≠ r' := (hyk.2 bm (lt_of_get3 (show w3.drew.heap[bm]? = _ from HH.out.1)) (fun hb => by have := hJ.low _ hb; omega) hr).2
    all_goals have hyy : YK (XB X bm) r W r' W3 := (HH.out.2.1.trans (YK.below (Below.refl _ _).drew)).trans (hyk.wider (fun _ h => .inl h))
    · have hmf : MET W3 bm K (fun j => M j + lvl splT [c] [] j) := (show MET W3 bm K (cntD M 0) from hyk.blk (W := w3.drew) HH.out.1 (fun hb => by have := hJ.low _ hb; omega) hr).cong (cnt_nil M c)
      have hdk : dok splT room M [c] [] := dok_nil.2 (by rw [HH.out.2.2.2.2.2.1]; exact hro)
      have HZ : Hid (DP X J Jx bm K room M c [] o r W (.returned (.bool true)) W3) := .inl ⟨true, r', rfl, hbr, hyy, .inl ⟨rfl, hdk, hj', hmf⟩⟩
      clear hmf hyy hdk hyk hj' hR hy hc3 hc4 hj4
      gi_wp2
      go_wp2_with fail
      go_ret
      exact HZ.out
    · have HZ : Hid (DP X J Jx bm K room M c [] o r W (.returned (.bool false)) W3) := .inl ⟨false, r', rfl, hbr, hyy, .inr ⟨rfl, hx⟩⟩
      clear hR hy hc3 hc4 hj4
      gi_wp2
      go_wp2_with fail
      go_ret
      exact HZ.out
  · refine (spend_over _ _ _ (by omega)).mono ?_
    rintro e w4 ⟨rfl, rfl⟩
    refine ⟨rfl, .inr ⟨rfl, fun hd => hro ?_, o, r, hJ.below _ _ _ _ HH.out.2.2.1 (Below.refl _ _).drew⟩⟩
    rw [← HH.out.2.2.2.2.2.1]
    exact dok_nil.1 hd
end Go.Proofs.YtecgjlpmmailjaaGreatDoor
