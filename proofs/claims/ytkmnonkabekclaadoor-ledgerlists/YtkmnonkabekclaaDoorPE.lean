import Derived.Test.YtkmnonkabekclaaDoorPD
namespace Go.Proofs.YtkmnonkabekclaaDoor
open Go.RowKit Go.Shelf
/-- a row of texts of one's own -/
def OS (W : World) (B : Nat) (v : Value) (l : List (List UInt8)) : Prop := W.ownsRow B 9 1 v l.length (stZ l)
theorem OS_app {W : World} {B : Nat} {v : Value} {l m : List (List UInt8)} (h : W.ownsRow B 9 1 v (l.length + m.length) (stZ l ++ stZ m)) : OS W B v (l ++ m) := by
  unfold OS
  rw [List.length_append, show stZ (l ++ m) = stZ l ++ stZ m by simp [stZ]]
  exact h
theorem OS.below {W X : World} {B : Nat} {v : Value} {l : List (List UInt8)} (h : OS W B v l) (hb : Below W.heap.size W X) : OS X B v l := own_belZ h hb
theorem OS.at {W : World} {B n c g : Nat} {l : List (List UInt8)} (h : OS W B (.slice (some ⟨g, 0, none⟩) n c) l) {k : Nat} {x : List UInt8} (hx : l[k]? = some x) : W.cell? ⟨g, k, none⟩ = some (.string ⟨x.toArray⟩) := own_atZ h (stZ_at hx)
theorem OS.tr {W : World} {B n c : Nat} {p : Option Addr} {l : List (List UInt8)} (h : OS W B (.slice p n c) l) : TR W p l := fun k x hx => by
  have hk : k < l.length := (List.getElem?_eq_some_iff.1 hx).1
  obtain ⟨g, rfl⟩ := own_someZ h (by omega)
  exact ⟨g, 0, rfl, by rw [Nat.zero_add]; exact h.at hx⟩
theorem OS_empty {W : World} {B b : Nat} (h : W.heap[b]? = some (.cells #[] 9 (0, 0))) (hB : B ≤ b) : OS W B (.slice (some ⟨b, 0, none⟩) 0 0) [] :=
  ⟨rfl, .inr ⟨b, 0, #[], rfl, hB, h, Nat.le_refl _, by unfold maxLen; omega, rfl, rfl⟩⟩
theorem TR_new {W : World} {b t : Nat} {fr : Nat × Nat} {cs : Array Value} {l : List (List UInt8)} (h : W.heap[b]? = some (.cells cs t fr)) (hc : cs.toList = stZ l) : TR W (some ⟨b, 0, none⟩) l := fun k x hx => by
  refine ⟨b, 0, rfl, ?_⟩
  rw [Nat.zero_add, Lib.cell_of_heap h]
  have : cs.toList[k]? = some (.string ⟨x.toArray⟩) := by rw [hc]; exact stZ_at hx
  simpa using this
theorem app_none0S {P : Program} {w : World} {ops : Array Oper} {rest : List Oper} {o : Oper} {a : Act} {Q : Exit → Act → World → Prop} (hgd : o.guard = none) (s x : Operand) (t : TypeId)
    (ho : o.op = .call { callee := .builtin .append, args := #[s, x], argTypes := #[t, t] })
    (base : Nat) (e : TypeId) (i : TypeInfo) (size : Nat) (ht : P.underlying t = some (.slice e)) (hi : P.info? e = some i)
    (v : Value) (n c : Nat) (xs : List Value) (hs : a.eval s = v) (hown : w.ownsRow base e size v n xs) (hx : a.eval x = .slice none 0 c)
    (h : wpList P ops Q rest (a.put o.dst v) w) : wpList P ops Q (o :: rest) a w := by
  refine wpList_plain hgd fun K hK => ?_
  have hrun : (Builtin.append_ #[t, t] o.type #[v, .slice none 0 c]).run P w = .ok v w := by
    rcases hown.2 with ⟨rfl, rfl⟩ | ⟨g, cap, cur, rfl, _, _, hnc, _⟩
    · simp [Builtin.append_, run_underlying ht, sizeOf, typeInfo, hi, Builtin.lenOf, Builtin.firstCells]
    · simp [Builtin.append_, run_underlying ht, sizeOf, typeInfo, hi, Builtin.lenOf, Builtin.firstCells, hnc, storeCells]
  unfold Oper.wp
  simp [execOp, ho, resolve, invoke, builtin, hs, hx, hrun, Result.andThen]
  exact hK _ _ h
theorem stZ_one (l : List (List UInt8)) : ∀ u ∈ stZ l, u.oneCell' = true := by
  intro u hu
  simp only [stZ, List.mem_map] at hu
  obtain ⟨x, _, rfl⟩ := hu
  rfl
/-- append of texts to texts of one's own -/
theorem app_strs {w : World} {ops : Array Oper} {rest : List Oper} {o : Oper} {a : Act} {Q : Exit → Act → World → Prop} (hgd : o.guard = none) (s x : Operand)
    (ho : o.op = .call { callee := .builtin .append, args := #[s, x], argTypes := #[22, 22] })
    (B : Nat) (v : Value) (l : List (List UInt8)) (hs : a.eval s = v) (hown : OS w B v l) (p : Option Addr) (n c : Nat) (m : List (List UInt8)) (hx : a.eval x = .slice p n c) (hn : m.length = n) (hm : TR w p m) (hlen : l.length + n ≤ 1000000000) (hB : B ≤ w.heap.size)
    (h : ∀ v' w', OS w' B v' (l ++ m) → w.grownBy w' v.ownBlock → (v'.ownBlock = v.ownBlock ∨ v'.ownBlock = some w.heap.size) → wpList Tryd.prog ops Q rest (a.put o.dst v') w') : wpList Tryd.prog ops Q (o :: rest) a w := by
  obtain ⟨i0, hi, hz0, hz1, hz2⟩ := info_parts info_stZ
  cases p with
  | none =>
    have hm0 : m = [] := by
      cases m with
      | nil => rfl
      | cons y m =>
        obtain ⟨g, o, e, -⟩ := hm 0 y rfl
        cases e
    subst hm0
    subst hn
    refine app_none0S hgd s x 22 ho B 9 i0 1 Tryd.underlying22 hi v _ c _ hs hown hx (h v w ?_ ⟨rfl, rfl, rfl, Nat.le_refl _, fun _ _ _ => rfl⟩ (.inl rfl))
    rw [List.append_nil]
    exact hown
  | some ad =>
    refine wpList_append_own_at _ hgd s x 22 ho B 9 i0 _ 1 16 Tryd.underlying22 hi hz0 hz1 hz2 rfl (by decide) v _ _ hs hown ad n c (stZ m) hx (by rw [stZ_len, hn, Nat.mul_one]) ?_ (stZ_one _) (by unfold maxLen; omega) (by omega) hB (fun v' w' h1 h2 _ h4 => h v' w' (OS_app (by rw [hn]; exact h1)) h2 h4)
    intro j u hu
    have hj : j < m.length := by
      have := (List.getElem?_eq_some_iff.1 hu).1
      rwa [stZ_len] at this
    obtain ⟨g, o, e, hc⟩ := hm j m[j] (List.getElem?_eq_getElem hj)
    obtain rfl := Option.some.inj e
    have hadd : (⟨g, o, none⟩ : Addr).add j = ⟨g, o + j, none⟩ := by unfold Addr.add; split <;> simp_all
    rw [hadd, hc, ← stZ_at (List.getElem?_eq_getElem hj)]
    exact hu
def behT : List UInt8 := [98, 101, 104, 105, 110, 100]
def farT : List UInt8 := [102, 97, 114, 32, 98, 101, 104, 105, 110, 100]
set_option maxRecDepth 100000 in
set_option maxHeartbeats 4000000 in
theorem roomy_any (L : List (List UInt8)) (p : Option Addr) (n c : Nat) (w : World) (hn : L.length = n) (hL : n ≤ 200000) (hr : TR w p L) :
    Calls Tryd.prog 8 #[.slice p n c] w fun e w' => ∃ g cap, e = .returned (.slice (some ⟨g, 0, none⟩) n cap) ∧ n + 2 ≤ cap ∧ OS w' w.heap.size (.slice (some ⟨g, 0, none⟩) (n + 2) cap) (L ++ [behT, farT]) ∧ Below w.heap.size w w' := by
  have HR : Hid (TR w p L) := hr
  have HN : Hid (L.length = n) := hn
  clear hr hn
  have hA : ∀ (W : World) (o : Obj), Below w.heap.size w W → Below w.heap.size w (W.alloc o) := fun W o h => belAZ h o
  go_enter Tryd.func8, Tryd.ntmps8
  go_wp2_with (at_builtin; refine app_strs rfl _ _ rfl w.heap.size _ [] rfl (OS_empty (alloc_getZ _ _) (Nat.le_refl _)) _ _ _ L rfl HN.out (HR.out.below (hA _ _ (Below.refl _ _))) (by rw [List.length_nil]; omega) (hA _ _ (Below.refl _ _)).size ?_)
  intro v1 W1 o1 g1 _
  have b1 : Below w.heap.size w W1 := bel_grZ (hA _ _ (Below.refl _ _)) g1 (fun k e => by cases e; exact Nat.le_refl _)
  obtain ⟨p1, c1, rfl⟩ := shapeZ o1
  have HO1 : Hid (OS W1 w.heap.size (.slice p1 L.length c1) L) := o1
  have HB1 : Hid (Below w.heap.size w W1) := b1
  clear o1 g1 b1
  go_wp2_with (at_builtin; refine app_strs rfl _ _ rfl w.heap.size _ L rfl (HO1.out.below (belAZ (Below.refl _ _) _)) _ _ _ [behT, farT] rfl rfl (TR_new (alloc_getZ _ _) rfl) (by rw [HN.out]; omega) (hA _ _ HB1.out).size ?_)
  intro v2 W2 o2 g2 _
  have b2 : Below w.heap.size w W2 := bel_grZ (hA _ _ HB1.out) g2 (fun k e => (World.ownsRow.lt HO1.out k e).1)
  obtain ⟨p2, c2, rfl⟩ := shapeZ o2
  have hlen2 : (L ++ [behT, farT]).length = n + 2 := by rw [List.length_append, HN.out]; rfl
  rw [hlen2] at o2 ⊢
  obtain ⟨g, rfl⟩ := own_someZ o2 (by omega)
  have hcap : n + 2 ≤ c2 := by have := own_capZ o2; omega
  have HO2 : Hid (OS W2 w.heap.size (.slice (some ⟨g, 0, none⟩) (n + 2) c2) (L ++ [behT, farT])) := o2
  clear o2 g2 hlen2 HO1
  have y0 : (0 : Int) ≤ (n : Int) := by omega
  have y1 : (n : Int) ≤ (c2 : Int) := by omega
  go_wp2_with fail
  go_ret
  exact ⟨g, c2, rfl, hcap, HO2.out, b2⟩
set_option maxRecDepth 100000 in
set_option maxHeartbeats 4000000 in
theorem unturned_any (L : List (List UInt8)) (p : Option Addr) (n c g cap : Nat) (w : World) (hn : L.length = n) (hL : n ≤ 200000) (hcap : n + 2 ≤ cap) (hg : ∀ (k : Nat) (x : List UInt8), (L ++ [behT, farT])[k]? = some x → w.cell? ⟨g, k, none⟩ = some (.string ⟨x.toArray⟩)) (hr : TR w p L) :
    Calls Tryd.prog 10 #[.slice (some ⟨g, 0, none⟩) n cap, .slice p n c] w fun e w' => e = .returned (.bool true) ∧ Below w.heap.size w w' := by
  have HR : Hid (TR w p L) := hr
  have HN : Hid (L.length = n) := hn
  have HG : Hid (∀ W, Below w.heap.size w W → ∀ (k : Nat) (x : List UInt8), (L ++ [behT, farT])[k]? = some x → W.cell? ⟨g, k, none⟩ = some (.string ⟨x.toArray⟩)) := fun W hW k x hx => (hW.cell (World.block_lt_of_cell? w _ (hg k x hx))).trans (hg k x hx)
  clear hr hn hg
  obtain ⟨m, hm⟩ : ∃ m : Nat, n + 2 = m := ⟨_, rfl⟩
  have e2 : (n : Int) + 2 = (m : Int) := by omega
  have e3 : IntKind.i64.wrap (m : Int) = (m : Int) := by rw [IntKind.wrap_i64]; omega
  have y0 : (0 : Int) ≤ (m : Int) := by omega
  have y1 : (m : Int) ≤ (cap : Int) := by omega
  go_enter Tryd.func10, Tryd.ntmps10
  go_wp2_with fail
  go_loopw [7] (fun vi wr => ∃ i : Nat, vi = .int .i64 i ∧ i ≤ n ∧ Hid (Below w.heap.size w wr)) (fun vi _ => n - (intOf vi).toNat)
  case atStart => exact ⟨0, rfl, Nat.zero_le _, Below.refl _ _⟩
  case round =>
    obtain ⟨i, rfl, hi, HB⟩ := hrel
    by_cases hlt : i < n
    · obtain ⟨x, hxi⟩ : ∃ x, L[i]? = some x := ⟨_, List.getElem?_eq_getElem (by rw [HN.out]; omega)⟩
      have j1 : (i : Int) < (n : Int) := by omega
      have j2 : (i : Int) < (m : Int) := by omega
      have j0 : (0 : Int) ≤ (i : Int) := by omega
      obtain ⟨q, o, rfl, cx⟩ := (HR.out.below HB.out) i x hxi
      have cg := HG.out wr HB.out i x (by rw [List.getElem?_append_left (by rw [HN.out]; exact hlt)]; exact hxi)
      clear hxi
      go_wp2_with fail
      go_quiet (fail)
      go_wp2_with fail
      exact ⟨⟨i + 1, rfl, by omega, bel_drewZ nq HB.out⟩, by simp only [intOf]; omega⟩
    · obtain rfl : i = n := by omega
      have c1 := HG.out wr HB.out i behT (by rw [List.getElem?_append_right (by rw [HN.out]; exact Nat.le_refl _), HN.out, Nat.sub_self]; rfl)
      have c2 := HG.out wr HB.out (i + 1) farT (by rw [List.getElem?_append_right (by rw [HN.out]; omega), HN.out, show i + 1 - i = 1 by omega]; rfl)
      unfold behT at c1
      unfold farT at c2
      have j0 : (0 : Int) ≤ (i : Int) := by omega
      have j2 : (i : Int) < (m : Int) := by omega
      obtain ⟨i1, hi1⟩ : ∃ i1 : Nat, i + 1 = i1 := ⟨_, rfl⟩
      have e4 : (i : Int) + 1 = (i1 : Int) := by omega
      have e5 : IntKind.i64.wrap (i1 : Int) = (i1 : Int) := by rw [IntKind.wrap_i64]; omega
      have j3 : (0 : Int) ≤ (i1 : Int) := by omega
      have j4 : (i1 : Int) < (m : Int) := by omega
      rw [hi1] at c2
      clear hi1
      go_wp2_with fail
      go_ret
      exact ⟨rfl, HB.out⟩
end Go.Proofs.YtkmnonkabekclaaDoor
