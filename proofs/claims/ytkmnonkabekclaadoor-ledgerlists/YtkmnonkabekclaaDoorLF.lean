import Derived.Test.YtkmnonkabekclaaDoorLE
import Derived.Lib.AppendStr
import Derived.Lib.BufferWrite
import Derived.Maps.AppendAt
namespace Go.Proofs.YtkmnonkabekclaaDoor
open Go.RowKit
/-- the number of some bytes -/
def accN (l : List UInt8) : Nat := l.foldl (fun n b => n * 256 + b.toNat) 0
theorem accN_snoc (l : List UInt8) (x : UInt8) : accN (l ++ [x]) = accN l * 256 + x.toNat := by simp [accN, List.foldl_append]
theorem accN_lt : ∀ (n : Nat) (l : List UInt8), l.length = n → accN l < 256 ^ n := by
  intro n
  induction n with
  | zero => intro l h; rw [List.eq_nil_of_length_eq_zero h]; decide
  | succ n ih =>
    intro l h
    have e : l = l.dropLast ++ [l.getLast (by intro e; rw [e] at h; cases h)] := (List.dropLast_concat_getLast _).symm
    have h2 := ih l.dropLast (by simp [h])
    rw [e, accN_snoc, Nat.pow_succ]
    generalize accN l.dropLast = A at *
    have := (l.getLast (by intro e; rw [e] at h; cases h)).toNat_lt
    generalize (256 ^ n : Nat) = B at *
    omega
theorem accN_four {l : List UInt8} (h : 4 ≤ l.length) : accN (l.take 4) = numL l := by
  match l, h with
  | a :: b :: c :: d :: l, _ => simp [accN, numL]
theorem or8 {n x : Nat} (hn : n < 16777216) (hx : x < 256) : bits .or .i64 ((n : Int) * 256) (x : Int) = ((n * 256 + x : Nat) : Int) := by
  rw [show ((n : Int) * 256) = ((n * 256 : Nat) : Int) by omega, i64_or_nat _ _ (by omega) (by omega)]
  congr 1
  have := Nat.two_pow_add_eq_or_of_lt (i := 8) (b := x) (by omega) n
  rw [Nat.mul_comm n 256]
  exact this.symm
set_option maxRecDepth 100000 in
set_option maxHeartbeats 1000000 in
theorem numAt_any (l : List UInt8) (p : Option Addr) (n c q : Nat) (w : World) (hn : l.length = n) (hL : n ≤ 281474976710656) (hq : q + 4 ≤ n) (hc : n ≤ c) (hr : BR w p l) :
    Calls Tryd.prog 30 #[.slice p n c, .int .i64 q] w fun e w' => e = .returned (.int .i64 (numL (l.drop q))) ∧ w' = w := by
  have HR : Hid (BR w p l) := hr
  have HN : Hid (l.length = n) := hn
  clear hr hn
  have q0 : (0 : Int) ≤ (q : Int) := by omega
  have q1 : (q : Int) ≤ (q : Int) + 4 := by omega
  have q2 : (q : Int) + 4 ≤ (c : Int) := by omega
  obtain ⟨g, o, rfl⟩ : ∃ g o, p = some ⟨g, o, none⟩ := by
    obtain ⟨g, o, e, -⟩ := HR.out 0 (l[0]'(by rw [HN.out]; omega)) (List.getElem?_eq_getElem _)
    exact ⟨g, o, e⟩
  have HV : Hid (accN ((l.drop q).take 4) = numL (l.drop q)) := accN_four (by rw [List.length_drop, HN.out]; omega)
  go_enter Tryd.func30, Tryd.ntmps30
  go_wp2_with fail
  go_loopw [5, 14] (fun va vi wr => ∃ i a : Nat, vi = .int .i64 i ∧ i ≤ 4 ∧ va = .int .i64 a ∧ Hid (a = accN ((l.drop q).take i)) ∧ wr = w) (fun _ vi _ => 4 - (intOf vi).toNat)
  case atStart => exact ⟨0, 0, rfl, by decide, rfl, rfl, rfl⟩
  case round =>
    obtain ⟨i, a, rfl, hi, rfl, ha, rfl⟩ := hrel
    by_cases hlt : i < 4
    · have j1 : (i : Int) < 4 := by omega
      have j0 : (0 : Int) ≤ (i : Int) := by omega
      have a24 : a < 16777216 := by
        rw [ha.out]
        have h1 := accN_lt i ((l.drop q).take i) (by rw [List.length_take, List.length_drop, HN.out]; omega)
        exact Nat.lt_of_lt_of_le h1 (show 256 ^ i ≤ 256 ^ 3 from Nat.pow_le_pow_right (by decide) (by omega))
      obtain ⟨x, hx⟩ : ∃ x, l[q + i]? = some x := ⟨_, List.getElem?_eq_getElem (by rw [HN.out]; omega)⟩
      have hx2 : (l.drop q)[i]? = some x := by rw [List.getElem?_drop]; exact hx
      have hc0 := HR.out.at hx
      have hc1 : wr.cell? ⟨g, o + q + i, none⟩ = some (.int .u8 (x.toNat : Int)) := by rw [Nat.add_assoc]; exact hc0
      have hx8 := x.toNat_lt
      have hnew : accN ((l.drop q).take (i + 1)) = a * 256 + x.toNat := by rw [take_snoc hx2, accN_snoc, ← ha.out]
      obtain ⟨X, hX⟩ : ∃ X, x.toNat = X := ⟨_, rfl⟩
      rw [hX] at hc1 hx8 hnew
      have e1 := or8 a24 hx8
      have HZ : Hid (a * 256 + X = accN ((l.drop q).take (i + 1))) := hnew.symm
      clear hnew hX hc0
      generalize a * 256 + X = Z at *
      go_wp2_with fail
      exact ⟨⟨i + 1, Z, rfl, by omega, rfl, HZ, trivial⟩, by simp only [intOf]; omega⟩
    · obtain rfl : i = 4 := by omega
      rw [HV.out] at ha
      go_wp2_with fail
      go_ret
      exact ⟨by rw [ha.out]; rfl, rfl⟩
theorem info_u8 : (Tryd.prog.info? 5).map (fun i => (i.zero, i.size, i.bytes)) = some (some (.int .u8 0), 1, 1) := by kernel_rfl
/-- bytes of one's own -/
def OB (W : World) (B : Nat) (v : Value) (l : List UInt8) : Prop := W.ownsRow B 5 1 v l.length (Lib.byteCells l)
theorem cells_four {n : Nat} (hn : n < 4294967296) : Lib.byteCells (four n) = [.int .u8 ((n : Int) / 16777216), .int .u8 ((n : Int) / 65536 % 256), .int .u8 ((n : Int) / 256 % 256), .int .u8 ((n : Int) % 256)] := by
  have h : ∀ m : Nat, ((UInt8.ofNat m).toNat : Int) = (m : Int) % 256 := fun m => by rw [UInt8.toNat_ofNat']; omega
  simp only [Lib.byteCells, four, List.map_cons, List.map_nil, h]
  rw [show (((n / 16777216 : Nat) : Int) % 256) = (n : Int) / 16777216 by omega]
  simp
theorem OB_app {W : World} {B : Nat} {v : Value} {l m : List UInt8} (h : W.ownsRow B 5 1 v (l.length + m.length) (Lib.byteCells l ++ Lib.byteCells m)) : OB W B v (l ++ m) := by
  unfold OB
  rw [List.length_append, show Lib.byteCells (l ++ m) = Lib.byteCells l ++ Lib.byteCells m by simp [Lib.byteCells]]
  exact h
theorem OB.br {W : World} {B n c : Nat} {p : Option Addr} {l : List UInt8} (h : OB W B (.slice p n c) l) : BR W p l := fun k x hx => by
  have hk : k < l.length := (List.getElem?_eq_some_iff.1 hx).1
  obtain ⟨g, rfl⟩ := own_someZ h (by omega)
  refine ⟨g, 0, rfl, ?_⟩
  rw [Nat.zero_add]
  exact own_atZ h (by simp [Lib.byteCells, hx])
theorem OB.shape {W : World} {B : Nat} {v : Value} {l : List UInt8} (h : OB W B v l) : ∃ p c, v = .slice p l.length c ∧ l.length ≤ c := by
  rcases h.2 with ⟨e, h0⟩ | ⟨g, c, _, e, _, _, hc, _⟩
  · exact ⟨none, 0, by rw [h0]; exact e, by omega⟩
  · exact ⟨_, c, e, hc⟩
theorem OB.below {W X : World} {B : Nat} {v : Value} {l : List UInt8} (h : OB W B v l) (hb : Below W.heap.size W X) : OB X B v l := own_belZ h hb
theorem app_none0 {P : Program} {w : World} {ops : Array Oper} {rest : List Oper} {o : Oper} {a : Act} {Q : Exit → Act → World → Prop} (hgd : o.guard = none) (s x : Operand) (t : TypeId)
    (ho : o.op = .call { callee := .builtin .append, args := #[s, x], argTypes := #[t, t] })
    (base : Nat) (e : TypeId) (i : TypeInfo) (size : Nat) (ht : P.underlying t = some (.slice e)) (hi : P.info? e = some i)
    (v : Value) (n c : Nat) (xs : List Value) (hs : a.eval s = v) (hown : w.ownsRow base e size v n xs) (hx : a.eval x = .slice none 0 c)
    (h : wpList P ops Q rest (a.put o.dst v) w) : wpList P ops Q (o :: rest) a w := by
  refine wpList_plain hgd fun K hK => ?_
  have hrun : (Builtin.append_ #[t, t] o.type #[v, .slice none 0 c]).run P w = .ok v w := by
    rcases hown.2 with ⟨rfl, rfl⟩ | ⟨g, cap, cur, rfl, _, _, hnc, _⟩
    · simp [Builtin.append_, run_underlying ht, sizeOf, typeInfo, hi, Builtin.lenOf, Builtin.firstCells]
    · simp [Builtin.append_, run_underlying ht, sizeOf, typeInfo, hi, Builtin.lenOf, Builtin.firstCells, hnc, storeCells]
  unfold Oper.wp
  simp [execOp, ho, resolve, invoke, builtin, hs, hx, hrun, Result.andThen]
  exact hK _ _ h
/-- append of bytes to bytes of one's own -/
theorem app_bytes {w : World} {ops : Array Oper} {rest : List Oper} {o : Oper} {a : Act} {Q : Exit → Act → World → Prop} (hgd : o.guard = none) (s x : Operand)
    (ho : o.op = .call { callee := .builtin .append, args := #[s, x], argTypes := #[31, 31] })
    (B : Nat) (v : Value) (l : List UInt8) (hs : a.eval s = v) (hown : OB w B v l) (p : Option Addr) (n c : Nat) (m : List UInt8) (hx : a.eval x = .slice p n c) (hn : m.length = n) (hm : BR w p m) (hlen : l.length + n ≤ 1000000000) (hB : B ≤ w.heap.size)
    (h : ∀ v' w', OB w' B v' (l ++ m) → w.grownBy w' v.ownBlock → (v'.ownBlock = v.ownBlock ∨ v'.ownBlock = some w.heap.size) → wpList Tryd.prog ops Q rest (a.put o.dst v') w') : wpList Tryd.prog ops Q (o :: rest) a w := by
  obtain ⟨i0, hi, hz0, hz1, hz2⟩ := info_parts info_u8
  cases p with
  | none =>
    have hm0 : m = [] := by
      cases m with
      | nil => rfl
      | cons y m =>
        obtain ⟨g, o, e, -⟩ := hm 0 y rfl
        cases e
    subst hm0
    subst hn
    refine app_none0 hgd s x 31 ho B 5 i0 1 Tryd.underlying31 hi v _ c _ hs hown hx (h v w ?_ ⟨rfl, rfl, rfl, Nat.le_refl _, fun _ _ _ => rfl⟩ (.inl rfl))
    rw [List.append_nil]
    exact hown
  | some ad =>
    refine wpList_append_own_at _ hgd s x 31 ho B 5 i0 _ 1 1 Tryd.underlying31 hi hz0 hz1 hz2 rfl (by decide) v _ _ hs hown ad n c (Lib.byteCells m) hx (by rw [Lib.byteCells_length, hn, Nat.mul_one]) ?_ (Lib.byteCells_one _) (by unfold maxLen; omega) (by omega) hB (fun v' w' h1 h2 _ h4 => h v' w' (OB_app (by rw [hn]; exact h1)) h2 h4)
    intro j u hu
    have hj : j < m.length := by
      have := (List.getElem?_eq_some_iff.1 hu).1
      rwa [Lib.byteCells_length] at this
    obtain ⟨g, o, e, hc⟩ := hm j m[j] (List.getElem?_eq_getElem hj)
    obtain rfl := Option.some.inj e
    have hadd : (⟨g, o, none⟩ : Addr).add j = ⟨g, o + j, none⟩ := by unfold Addr.add; split <;> simp_all
    rw [hadd, hc]
    simpa [Lib.byteCells, hj] using hu
/-- append of a text to bytes of one's own -/
theorem app_text {w : World} {ops : Array Oper} {rest : List Oper} {o : Oper} {a : Act} {Q : Exit → Act → World → Prop} (hgd : o.guard = none) (s x : Operand)
    (ho : o.op = .call { callee := .builtin .append, args := #[s, x], argTypes := #[31, 9] })
    (B : Nat) (v : Value) (l : List UInt8) (hs : a.eval s = v) (hown : OB w B v l) (m : List UInt8) (hx : a.eval x = .string ⟨m.toArray⟩) (hlen : l.length + m.length ≤ 1000000000) (hB : B ≤ w.heap.size)
    (h : ∀ v' w', OB w' B v' (l ++ m) → w.grownBy w' v.ownBlock → wpList Tryd.prog ops Q rest (a.put o.dst v') w') : wpList Tryd.prog ops Q (o :: rest) a w := by
  obtain ⟨i0, hi, hz0, hz1, hz2⟩ := info_parts info_u8
  have hsz : (⟨m.toArray⟩ : ByteArray).size = m.length := rfl
  refine Lib.wpList_append_own_string _ hgd s x 31 9 ho B 5 i0 Tryd.underlying31 Tryd.underlying9 hi hz0 hz1 hz2 v _ _ hs hown _ hx (by rw [hsz]; unfold maxLen; omega) (by rw [hsz]; omega) hB (fun v' w' h1 h2 _ => h v' w' (OB_app ?_) h2)
  rw [hsz] at h1
  exact h1
theorem BR_new {W : World} {b t : Nat} {fr : Nat × Nat} {cs : Array Value} {l : List UInt8} (h : W.heap[b]? = some (.cells cs t fr)) (hc : cs.toList = Lib.byteCells l) : BR W (some ⟨b, 0, none⟩) l := fun k x hx => by
  refine ⟨b, 0, rfl, ?_⟩
  rw [Nat.zero_add, Lib.cell_of_heap h]
  have : cs.toList[k]? = some (.int .u8 (x.toNat : Int)) := by rw [hc]; simp [Lib.byteCells, hx]
  simpa using this
set_option maxRecDepth 100000 in
set_option maxHeartbeats 1000000 in
theorem withNum_any (l : List UInt8) (v : Value) (B n : Nat) (w : World) (hl : l.length ≤ 100000000) (hn : n < 4294967296) (hB : B ≤ w.heap.size) (h : OB w B v l) :
    Calls Tryd.prog 39 #[v, .int .i64 n] w fun e w' => ∃ v', e = .returned v' ∧ OB w' B v' (l ++ four n) ∧ w.grownBy w' v.ownBlock := by
  obtain ⟨p, c, rfl, hc⟩ := h.shape
  have hbA : ∀ o : Obj, Below w.heap.size w (w.alloc o) := fun o => (Below.refl _ _).alloc (Nat.le_refl _) o
  go_enter Tryd.func39, Tryd.ntmps39
  go_wp2_with (at_builtin; refine app_bytes rfl _ _ rfl B _ l rfl (OB.below h (hbA _)) _ _ _ (four n) rfl rfl (BR_new (alloc_getZ _ _) (cells_four hn).symm) ?c2 ?c4 ?_)
  case c2 => omega
  case c4 => simp; omega
  intro v' w' h1 h2 _
  obtain ⟨p', c', rfl, -⟩ := h1.shape
  go_wp2_with fail
  go_ret
  exact ⟨_, rfl, h1, gr_transZ (gr_belZ (hbA _) _) h2⟩
end Go.Proofs.YtkmnonkabekclaaDoor
