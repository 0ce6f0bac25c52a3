import Derived.Test.YtnejbldociaapaaGreatDoorXJ2
import Derived.Laws.AppendOwnNone
namespace Go.Proofs.YtnejbldociaapaaGreatDoor
open Go.RowKit Go.Shelf
theorem res_sp2 {fn : Func} (tmps : Array Value) (W : World) (b : Nat) (v0 v1 v2 x : Value) {m : Nat × Nat} (hr : fn.results = #[.cell 4 24, .tmp 5]) (hp : tmps.getD 4 undef = .pointer (some ⟨b, 0, none⟩)) (hx : tmps.getD 5 undef = x) (h : W.heap[b]? = some (.cells #[v0, v1, v2] 24 m)) :
    (results fn tmps).run Tryz.prog W = .ok (.tuple #[.agg #[v0, v1, v2], x]) W := by
  have hc : ∀ j, W.cell? ⟨b, j, none⟩ = (#[v0, v1, v2] : Array Value)[j]? := by
    intro j; unfold World.cell?; rw [h]; simp
  have hp' : tmps[4]?.getD undef = .pointer (some ⟨b, 0, none⟩) := by simpa using hp
  have hx' : tmps[5]?.getD undef = x := by simpa using hx
  simp [results, hr, hp', hx', go_sem, hc]
theorem fits_any2 (b x : Int) (p : Option Addr) (n c : Nat) (w : World) : Calls Tryz.prog 33 #[.agg #[.int .i64 b, .slice p n c, .bool false], .int .i64 x] w fun e w' => e = .returned (.bool (!(b == 0) && (b == x))) ∧ Below w.heap.size w w' := by
  obtain ⟨w2, hw2⟩ : ∃ w2, w.alloc (.cells #[.int .i64 b, .slice p n c, .bool false] 24 (0, 0)) = w2 := ⟨_, rfl⟩
  have h0 : w2.heap[w.heap.size]? = some (.cells #[.int .i64 b, .slice p n c, .bool false] 24 (0, 0)) := by rw [← hw2]; exact alloc_get _ _
  have hB : Below w.heap.size w w2 := by rw [← hw2]; exact belA (Below.refl _ _) _
  obtain ⟨hc0, -⟩ := cells_block h0
  have HB : Hid (Below w.heap.size w w2) := hB
  clear h0 hB
  by_cases hz : b = 0
  · have m1 : (b != 0) = false := by simpa using hz
    have m2 : (b == 0) = true := by simpa using hz
    have HR : Hid ((!(b == 0) && (b == x)) = false) := by unfold Hid; rw [m2]; rfl
    clear hz m2
    go_enter Tryz.func33, Tryz.ntmps33
    go_wp2_with fail
    go_ret
    exact ⟨by rw [HR.out]; rfl, HB.out⟩
  · have m1 : (b != 0) = true := by simpa using hz
    have m2 : (b == 0) = false := by simpa using hz
    obtain ⟨q, hq⟩ : ∃ q, (b == x) = q := ⟨_, rfl⟩
    have HR : Hid ((!(b == 0) && (b == x)) = q) := by unfold Hid; rw [m2, hq]; rfl
    clear hz m2
    go_enter Tryz.func33, Tryz.ntmps33
    go_wp2_with fail
    go_ret
    exact ⟨by rw [HR.out]; rfl, HB.out⟩
def jnE (b b2 : Int) (A C : List (List UInt8 × List (List UInt8))) : Int := if (!(b == 0) && (b == b2)) = false then 11 else if szC (topC (A ++ C)) ≤ 128 then 0 else 3
def jnB (b b2 : Int) (A C : List (List UInt8 × List (List UInt8))) : Int := if jnE b b2 A C = 0 then b else 0
def jnT (b b2 : Int) (A C : List (List UInt8 × List (List UInt8))) : List (List UInt8 × List (List UInt8)) := if jnE b b2 A C = 0 then ordT (topC (A ++ C)) else []
set_option maxRecDepth 100000 in
set_option maxHeartbeats 4000000 in
theorem sJoin_any (b b2 : Int) (A C : List (List UInt8 × List (List UInt8))) (B1 B2 : Nat) (V1 V2 : Value) (w : World) (h1 : SPL w B1 V1 A) (h2 : SPL w B2 V2 C) (hs1 : szC A ≤ 128) (hs2 : szC C ≤ 128) (hg1 : gdC A) (hg2 : gdC C) :
    Calls Tryz.prog 16 #[.agg #[.int .i64 b, V1, .bool false], .agg #[.int .i64 b2, V2, .bool false]] w fun e w' => ∃ V, e = .returned (.tuple #[.agg #[.int .i64 (jnB b b2 A C), V, .bool false], .int .i64 (jnE b b2 A C)]) ∧ SPL w' w.heap.size V (jnT b b2 A C) ∧ Below w.heap.size w w' := by
  obtain ⟨p1, k1, rfl⟩ := h1.shape
  obtain ⟨p2, k2, rfl⟩ := h2.shape
  obtain ⟨n1, hn1⟩ : ∃ n, A.length = n := ⟨_, rfl⟩
  obtain ⟨n2, hn2⟩ : ∃ n, C.length = n := ⟨_, rfl⟩
  rw [hn1] at h1 ⊢
  rw [hn2] at h2 ⊢
  obtain ⟨wA, hwA⟩ : ∃ wA, (((w.alloc (.cells #[.int .i64 b, .slice p1 n1 k1, .bool false] 24 (0, 0))).alloc (.cells #[.int .i64 b2, .slice p2 n2 k2, .bool false] 24 (0, 0))).alloc (.cells #[.int .i64 0, .slice none 0 0, .bool false] 24 (0, 0))) = wA := ⟨_, rfl⟩
  have hBA : Below w.heap.size w wA := by rw [← hwA]; exact belA (belA (belA (Below.refl _ _) _) _) _
  have d1 : wA.heap[w.heap.size]? = some (.cells #[.int .i64 b, .slice p1 n1 k1, .bool false] 24 (0, 0)) := by rw [← hwA, Below.heap_alloc _ _ _ (by simp <;> omega)]; exact alw_0 _ _ _
  have d2 : wA.heap[w.heap.size + 1]? = some (.cells #[.int .i64 b2, .slice p2 n2 k2, .bool false] 24 (0, 0)) := by rw [← hwA, Below.heap_alloc _ _ _ (by simp <;> omega)]; exact alw_1 _ _ _
  have d3 : wA.heap[w.heap.size + 1 + 1]? = some (.cells #[.int .i64 0, .slice none 0 0, .bool false] 24 (0, 0)) := by rw [← hwA]; have := alloc_get ((w.alloc (.cells #[.int .i64 b, .slice p1 n1 k1, .bool false] 24 (0, 0))).alloc (.cells #[.int .i64 b2, .slice p2 n2 k2, .bool false] 24 (0, 0))) (.cells #[.int .i64 0, .slice none 0 0, .bool false] 24 (0, 0)); simpa using this
  have HD : Hid (∀ W, Below wA.heap.size wA W → W.heap[w.heap.size]? = some (.cells #[.int .i64 b, .slice p1 n1 k1, .bool false] 24 (0, 0)) ∧ W.heap[w.heap.size + 1]? = some (.cells #[.int .i64 b2, .slice p2 n2 k2, .bool false] 24 (0, 0)) ∧ W.heap[w.heap.size + 1 + 1]? = some (.cells #[.int .i64 0, .slice none 0 0, .bool false] 24 (0, 0)) ∧ SPL W B1 (.slice p1 n1 k1) A ∧ SPL W B2 (.slice p2 n2 k2) C ∧ Below w.heap.size w W) := fun W hW => ⟨keepblk3 hW d1, keepblk3 hW d2, keepblk3 hW d3, h1.below (bel0 hBA hW), h2.below (bel0 hBA hW), bel0 hBA hW⟩
  have HLT : Hid (w.heap.size + 1 + 1 < wA.heap.size) := lt_of_get3 d3
  have hmf : ∀ (fn : Fn) (first cap : Array Value) (w : World), (Instr.makeFunc fn first cap).run Tryz.prog w = .ok (.func fn first cap) w := fun _ _ _ _ => rfl
  obtain ⟨hc1, -⟩ := cells_block d1
  obtain ⟨hc2, -⟩ := cells_block d2
  have HS : Hid (szC A ≤ 128 ∧ szC C ≤ 128 ∧ gdC A ∧ gdC C) := ⟨hs1, hs2, hg1, hg2⟩
  clear hBA d1 d2 d3 h1 h2 hs1 hs2 hg1 hg2 hn1 hn2
  cases hf : (!(b == 0) && (b == b2)) with
  | false =>
    have e1 : jnE b b2 A C = 11 := by unfold jnE; rw [if_pos hf]
    have e2 : jnB b b2 A C = 0 := by unfold jnB; rw [e1]; rfl
    have e3 : jnT b b2 A C = [] := by unfold jnT; rw [e1]; rfl
    rw [e1, e2, e3]
    have HF : Hid (Calls Tryz.prog 33 #[.agg #[.int .i64 b, .slice p1 n1 k1, .bool false], .int .i64 b2] wA fun e w' => e = .returned (.bool false) ∧ Below wA.heap.size wA w') := by
      have h := fits_any2 b b2 p1 n1 k1 wA
      rw [hf] at h
      exact h
    clear e1 e2 e3 hf
    go_enter Tryz.func16, Tryz.ntmps16
    go_wp2_with fail
    refine HF.out.mono ?_
    rintro e W1 ⟨rfl, hb1⟩
    obtain ⟨-, -, k3, -, -, hB1⟩ := HD.out W1 hb1
    obtain ⟨hc3, hf3⟩ := cells_block k3
    have HP : Hid ((((W1.setCell ⟨w.heap.size + 1 + 1, 0, none⟩ (.int .i64 0)).setCell ⟨w.heap.size + 1 + 1, 1, none⟩ (.slice none 0 0)).setCell ⟨w.heap.size + 1 + 1, 2, none⟩ (.bool false)).heap[w.heap.size + 1 + 1]? = some (.cells #[.int .i64 0, .slice none 0 0, .bool false] 24 (0, 0)) ∧ Below w.heap.size w (((W1.setCell ⟨w.heap.size + 1 + 1, 0, none⟩ (.int .i64 0)).setCell ⟨w.heap.size + 1 + 1, 1, none⟩ (.slice none 0 0)).setCell ⟨w.heap.size + 1 + 1, 2, none⟩ (.bool false))) := ⟨put3_get _ _ _ k3, ((hB1.setCell (by simp; omega) _).setCell (by simp; omega) _).setCell (by simp; omega) _⟩
    clear hc1 hc2 k3 hwA hb1 hB1
    go_wp2_with fail
    refine bodyPost_ret (v := .tuple #[.agg #[.int .i64 0, .slice none 0 0, .bool false], .int .i64 11]) (res_sp2 _ _ (w.heap.size + 1 + 1) _ _ _ _ Tryz.results16 rfl rfl HP.out.1) rfl ?_
    exact ⟨_, rfl, SPL_nil _ _, HP.out.2⟩
  | true =>
    obtain ⟨ok, hok⟩ : ∃ ok, decide (szC (topC (A ++ C)) ≤ 128) = ok := ⟨_, rfl⟩
    have e1 : jnE b b2 A C = if ok = true then 0 else 3 := by
      unfold jnE
      rw [if_neg (by rw [hf]; simp), ← hok]
      by_cases h : szC (topC (A ++ C)) ≤ 128 <;> simp [h]
    have e2 : jnB b b2 A C = if ok = true then b else 0 := by unfold jnB; rw [e1]; cases ok <;> rfl
    have e3 : jnT b b2 A C = if ok = true then ordT (topC (A ++ C)) else [] := by unfold jnT; rw [e1]; cases ok <;> rfl
    rw [e1, e2, e3]
    have HF : Hid (Calls Tryz.prog 33 #[.agg #[.int .i64 b, .slice p1 n1 k1, .bool false], .int .i64 b2] wA fun e w' => e = .returned (.bool true) ∧ Below wA.heap.size wA w') := by
      have h := fits_any2 b b2 p1 n1 k1 wA
      rw [hf] at h
      exact h
    have HG : Hid (∀ W, Below wA.heap.size wA W → Calls Tryz.prog 34 #[.func (.func 35) #[] #[.pointer (some ⟨w.heap.size, 0, none⟩), .pointer (some ⟨w.heap.size + 1, 0, none⟩)]] W fun e w' => ∃ V, e = .returned (.tuple #[.agg #[.int .i64 (if ok = true then b else 0), V, .bool false], .int .i64 (if ok = true then 0 else 3)]) ∧ SPL w' W.heap.size V (if ok = true then ordT (topC (A ++ C)) else []) ∧ Below W.heap.size W w') := fun W hW => by
      refine giveJ b (ordT (topC (A ++ C))) ok w.heap.size (w.heap.size + 1) W (fun X hX => ?_)
      obtain ⟨k1', k2', -, s1, s2, -⟩ := HD.out X (bel0 hW hX)
      cases ok with
      | true =>
        refine (join1_ok b b2 A C B1 B2 p1 p2 n1 n2 k1 k2 _ _ X s1 s2 k1' k2' HS.out.1 HS.out.2.1 HS.out.2.2.1 HS.out.2.2.2 (of_decide_eq_true hok)).mono ?_
        rintro e w' ⟨hb, V, rfl, hv⟩
        exact ⟨hb, .inl ⟨rfl, V, rfl, hv⟩⟩
      | false =>
        refine (join1_over b b2 A C B1 B2 p1 p2 n1 n2 k1 k2 _ _ X s1 s2 k1' k2' HS.out.1 HS.out.2.1 HS.out.2.2.1 HS.out.2.2.2 (by have := of_decide_eq_false hok; omega)).mono ?_
        rintro e w' ⟨hb, rfl⟩
        exact ⟨hb, .inr ⟨rfl, rfl⟩⟩
    obtain ⟨Y, hY⟩ : ∃ Y, (if ok = true then ordT (topC (A ++ C)) else []) = Y := ⟨_, rfl⟩
    obtain ⟨bb, hbb⟩ : ∃ bb, (if ok = true then b else 0) = bb := ⟨_, rfl⟩
    obtain ⟨ee, hee⟩ : ∃ ee : Int, (if ok = true then (0 : Int) else 3) = ee := ⟨_, rfl⟩
    rw [hY, hbb, hee] at HG ⊢
    clear e1 e2 e3 hf hY hbb hee hok
    go_enter Tryz.func16, Tryz.ntmps16
    go_wp2_with fail
    refine HF.out.mono ?_
    rintro e W1 ⟨rfl, hb1⟩
    clear hc1 hc2 hwA
    go_wp2_with fail
    refine (HG.out W1 hb1).mono ?_
    rintro e W2 ⟨V, rfl, sv, hb2⟩
    obtain ⟨p8, c8, rfl⟩ := sv.shape
    obtain ⟨n8, hn8⟩ : ∃ n, Y.length = n := ⟨_, rfl⟩
    rw [hn8] at sv ⊢
    have hlt : w.heap.size + 1 + 1 < W1.heap.size := Nat.lt_of_lt_of_le HLT.out hb1.size
    obtain ⟨-, -, k3, -, -, hB1⟩ := HD.out W2 (bel0 hb1 hb2)
    obtain ⟨hc3, hf3⟩ := cells_block k3
    have HP : Hid ((((W2.setCell ⟨w.heap.size + 1 + 1, 0, none⟩ (.int .i64 bb)).setCell ⟨w.heap.size + 1 + 1, 1, none⟩ (.slice p8 n8 c8)).setCell ⟨w.heap.size + 1 + 1, 2, none⟩ (.bool false)).heap[w.heap.size + 1 + 1]? = some (.cells #[.int .i64 bb, .slice p8 n8 c8, .bool false] 24 (0, 0)) ∧ SPL (((W2.setCell ⟨w.heap.size + 1 + 1, 0, none⟩ (.int .i64 bb)).setCell ⟨w.heap.size + 1 + 1, 1, none⟩ (.slice p8 n8 c8)).setCell ⟨w.heap.size + 1 + 1, 2, none⟩ (.bool false)) w.heap.size (.slice p8 n8 c8) Y ∧ Below w.heap.size w (((W2.setCell ⟨w.heap.size + 1 + 1, 0, none⟩ (.int .i64 bb)).setCell ⟨w.heap.size + 1 + 1, 1, none⟩ (.slice p8 n8 c8)).setCell ⟨w.heap.size + 1 + 1, 2, none⟩ (.bool false))) := ⟨put3_get _ _ _ k3, (sv.kept (gr3 _ _ _ _ _) hlt).base (by omega), ((hB1.setCell (by simp; omega) _).setCell (by simp; omega) _).setCell (by simp; omega) _⟩
    clear k3 hb1 hB1 hb2 sv
    go_wp2_with fail
    refine bodyPost_ret (v := .tuple #[.agg #[.int .i64 bb, .slice p8 n8 c8, .bool false], .int .i64 ee]) (res_sp2 _ _ (w.heap.size + 1 + 1) _ _ _ _ Tryz.results16 rfl rfl HP.out.1) rfl ?_
    exact ⟨_, rfl, HP.out.2⟩
end Go.Proofs.YtnejbldociaapaaGreatDoor
namespace Go.Proofs.YtnejbldociaapaaGreatDoor
open Go.RowKit Go.Shelf
/-- append of no elements, whatever room the slice says it has -/
theorem app_none0 {P : Program} {w : World} {ops : Array Oper} {rest : List Oper} {o : Oper} {a : Act} {Q : Exit → Act → World → Prop} (hgd : o.guard = none) (s x : Operand) (t : TypeId)
    (ho : o.op = .call { callee := .builtin .append, args := #[s, x], argTypes := #[t, t] })
    (base : Nat) (e : TypeId) (i : TypeInfo) (size : Nat) (ht : P.underlying t = some (.slice e)) (hi : P.info? e = some i)
    (v : Value) (n c : Nat) (xs : List Value) (hs : a.eval s = v) (hown : w.ownsRow base e size v n xs) (hx : a.eval x = .slice none 0 c)
    (h : wpList P ops Q rest (a.put o.dst v) w) : wpList P ops Q (o :: rest) a w := by
  refine wpList_plain hgd fun K hK => ?_
  have hrun : (Builtin.append_ #[t, t] o.type #[v, .slice none 0 c]).run P w = .ok v w := by
    rcases hown.2 with ⟨rfl, rfl⟩ | ⟨g, cap, cur, rfl, _, _, hnc, _⟩
    · simp [Builtin.append_, run_underlying ht, sizeOf, typeInfo, hi, Builtin.lenOf, Builtin.firstCells]
    · simp [Builtin.append_, run_underlying ht, sizeOf, typeInfo, hi, Builtin.lenOf, Builtin.firstCells, hnc, storeCells]
  unfold Oper.wp
  simp [execOp, ho, resolve, invoke, builtin, hs, hx, hrun, Result.andThen]
  exact hK _ _ h
theorem rts_one (L : List ZT) : ∀ v ∈ rts L, v.oneCell' = true := fun v hv => by
  obtain ⟨z, _, hz⟩ := List.mem_flatMap.1 hv
  simp only [rtc, List.mem_cons, List.not_mem_nil, or_false] at hz
  rcases hz with rfl | rfl <;> rfl
theorem rts_news {W : World} {ad : Addr} {Z : List ZT} (h : IRR W (some ad) Z) : ∀ j u, (rts Z)[j]? = some u → W.cell? (ad.add j) = some u := fun j u hu => by
  have hm : j % 2 < 2 := Nat.mod_lt _ (by omega)
  have e := rts_get Z (j / 2) (j % 2) hm
  rw [show j / 2 * 2 + j % 2 = j by omega, hu] at e
  cases hz : Z[j / 2]? with
  | none => rw [hz] at e; cases e
  | some z =>
    rw [hz] at e
    obtain ⟨g, o0, e1, c0, c1⟩ := h W (Below.refl _ _) _ z hz
    injection e1 with e1
    subst e1
    have ea : (⟨g, o0, none⟩ : Addr).add j = ⟨g, o0 + j, none⟩ := by simp [Addr.add]
    rw [ea]
    rcases (show j % 2 = 0 ∨ j % 2 = 1 by omega) with h0 | h0
    · rw [h0] at e
      rw [show o0 + j = o0 + j / 2 * 2 by omega, c0]
      exact e.symm
    · rw [h0] at e
      rw [show o0 + j = o0 + j / 2 * 2 + 1 by omega, c1]
      exact e.symm
set_option maxRecDepth 100000 in
set_option maxHeartbeats 2000000 in
theorem dbound2 (b : Int) (V : Value) (Ts : List (List UInt8 × List (List UInt8))) (w : World) (h : RSR w V Ts) (ho : szC Ts ≤ 1000000) : Calls Tryz.prog 40 #[.agg #[.int .i64 b, V]] w fun e w' => ((128 < szC Ts ∧ e = .returned (.tuple #[.agg #[.int .i64 0, .slice none 0 0], .int .i64 3])) ∨ (¬ 128 < szC Ts ∧ e = .returned (.tuple #[.agg #[.int .i64 b, V], .int .i64 0]))) ∧ Below w.heap.size w w' := by
  obtain ⟨p, cp, rfl⟩ := h.shape
  obtain ⟨w2, hw2⟩ : ∃ w2, (w.alloc (.cells #[.int .i64 b, .slice p (Ts.length) cp] 27 (0, 0))).alloc (.cells #[.int .i64 0, .slice none 0 0] 27 (0, 0)) = w2 := ⟨_, rfl⟩
  have h0 : w2.heap[w.heap.size]? = some (.cells #[.int .i64 b, .slice p (Ts.length) cp] 27 (0, 0)) := by rw [← hw2]; exact alw_0 _ _ _
  have h1 : w2.heap[w.heap.size + 1]? = some (.cells #[.int .i64 0, .slice none 0 0] 27 (0, 0)) := by rw [← hw2]; exact alw_1 _ _ _
  have hB : Below w.heap.size w w2 := by rw [← hw2]; exact belA (belA (Below.refl _ _) _) _
  obtain ⟨hc0, -⟩ := cells_block h0
  have HS : Hid (Calls Tryz.prog 21 #[.agg #[.int .i64 b, .slice p (Ts.length) cp]] w2 fun e w' => e = .returned (.int .i64 (szC Ts : Int)) ∧ Below w2.heap.size w2 w') := dSizeL_any b _ Ts w2 (h.later hB) ho
  have HA : Hid (w2.heap[w.heap.size]? = some (.cells #[.int .i64 b, .slice p (Ts.length) cp] 27 (0, 0)) ∧ w2.heap[w.heap.size + 1]? = some (.cells #[.int .i64 0, .slice none 0 0] 27 (0, 0)) ∧ Below w.heap.size w w2) := ⟨h0, h1, hB⟩
  clear h0 h1 hB h
  by_cases hgt : (128 : Int) < (szC Ts : Int)
  · go_enter Tryz.func40, Tryz.ntmps40
    go_wp2_with fail
    refine HS.out.mono ?_
    rintro e W1 ⟨rfl, hb1⟩
    have k1 := keepblk3 hb1 HA.out.2.1
    obtain ⟨hcE, hfE⟩ := cells_block k1
    have HF : Hid (_ = _) := set2_get (.int .i64 0) (.slice none 0 0) k1
    have HBB : Hid (Below w.heap.size w ((W1.setCell ⟨w.heap.size + 1, 0, none⟩ (.int .i64 0)).setCell ⟨w.heap.size + 1, 1, none⟩ (.slice none 0 0))) := ((bel0 HA.out.2.2 hb1).setCell (Nat.le_succ _) _).setCell (Nat.le_succ _) _
    clear k1 hb1 hc0 hw2
    go_wp2_with fail
    refine bodyPost_ret (v := .tuple #[.agg #[.int .i64 0, .slice none 0 0], .int .i64 3]) (res_rs2 _ _ (w.heap.size + 1) _ _ Tryz.results40 rfl HF.out) rfl ?_
    exact ⟨.inl ⟨by omega, rfl⟩, HBB.out⟩
  · go_enter Tryz.func40, Tryz.ntmps40
    go_wp2_with fail
    refine HS.out.mono ?_
    rintro e W1 ⟨rfl, hb1⟩
    have k1 := keepblk3 hb1 HA.out.2.1
    have k0 := keepblk3 hb1 HA.out.1
    obtain ⟨hcE, hfE⟩ := cells_block k1
    obtain ⟨hcD, -⟩ := cells_block k0
    have HF : Hid (_ = _) := set2_get (.int .i64 b) (.slice p (Ts.length) cp) k1
    have HBB : Hid (Below w.heap.size w ((W1.setCell ⟨w.heap.size + 1, 0, none⟩ (.int .i64 b)).setCell ⟨w.heap.size + 1, 1, none⟩ (.slice p (Ts.length) cp))) := ((bel0 HA.out.2.2 hb1).setCell (Nat.le_succ _) _).setCell (Nat.le_succ _) _
    clear k1 k0 hb1 hc0 hw2
    go_wp2_with fail
    refine bodyPost_ret (v := .tuple #[.agg #[.int .i64 b, .slice p (Ts.length) cp], .int .i64 0]) (res_rs2 _ _ (w.heap.size + 1) _ _ Tryz.results40 rfl HF.out) rfl ?_
    exact ⟨.inr ⟨by omega, rfl⟩, HBB.out⟩
theorem dfit_any (b b2 : Int) (p1 p2 : Option Addr) (n1 n2 k1 k2 : Nat) (w : World) (hb : 0 ≤ b) : Calls Tryz.prog 39 #[.agg #[.int .i64 b, .slice p1 n1 k1], .agg #[.int .i64 b2, .slice p2 n2 k2]] w fun e w' => e = .returned (.bool (!(b == 0) && (b == b2))) ∧ Below w.heap.size w w' := by
  obtain ⟨w2, hw2⟩ : ∃ w2, (w.alloc (.cells #[.int .i64 b, .slice p1 n1 k1] 27 (0, 0))).alloc (.cells #[.int .i64 b2, .slice p2 n2 k2] 27 (0, 0)) = w2 := ⟨_, rfl⟩
  have h0 : w2.heap[w.heap.size]? = some (.cells #[.int .i64 b, .slice p1 n1 k1] 27 (0, 0)) := by rw [← hw2]; exact alw_0 _ _ _
  have h1 : w2.heap[w.heap.size + 1]? = some (.cells #[.int .i64 b2, .slice p2 n2 k2] 27 (0, 0)) := by rw [← hw2]; exact alw_1 _ _ _
  have hB : Below w.heap.size w w2 := by rw [← hw2]; exact belA (belA (Below.refl _ _) _) _
  obtain ⟨hc0, -⟩ := cells_block h0
  obtain ⟨hc1, -⟩ := cells_block h1
  have HB : Hid (Below w.heap.size w w2) := hB
  clear h0 h1 hB
  by_cases hz : b = 0
  · have m1 : ¬ (b > 0) := by omega
    have HR : Hid ((!(b == 0) && (b == b2)) = false) := by unfold Hid; rw [show (b == 0) = true by simpa using hz]; rfl
    clear hz hb
    go_enter Tryz.func39, Tryz.ntmps39
    go_wp2_with fail
    go_ret
    exact ⟨by rw [HR.out]; rfl, HB.out⟩
  · have m1 : b > 0 := by omega
    obtain ⟨q, hq⟩ : ∃ q, (b == b2) = q := ⟨_, rfl⟩
    have HR : Hid ((!(b == 0) && (b == b2)) = q) := by unfold Hid; rw [show (b == 0) = false by simpa using hz, hq]; rfl
    clear hz hb
    go_enter Tryz.func39, Tryz.ntmps39
    go_wp2_with fail
    go_ret
    exact ⟨by rw [HR.out]; rfl, HB.out⟩
theorem frm_ord {X : List (List UInt8 × List (List UInt8))} (h : ∀ t ∈ X, t.2.Pairwise (fun a b => leB a b = true)) : frmD (topC X) = ordT (topC X) := by
  unfold frmD ordT
  congr 2
  refine List.map_congr_left (fun t ht => ?_)
  rcases topCF_mem X [] t ht with h1 | h1
  · cases h1
  · rw [srtT_id (h t h1)]
end Go.Proofs.YtnejbldociaapaaGreatDoor
