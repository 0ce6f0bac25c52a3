import Derived.Test.YtbdnpbiimbeflaaQV
import Derived.Test.YtbdnpbiimbeflaaBW
namespace Go.Proofs.Ytbdnpbiimbeflaa
open Go.RowKit Go.Shelf
set_option maxRecDepth 100000 in
theorem inForm_any (b : Int) (p : Option Addr) (n cp : Nat) (w : World) : Calls Try.prog 50 #[.agg #[.int .i64 b, .slice p n cp, .bool false]] w fun e w' => e = .returned (.agg #[.int .i64 b, .slice p n cp, .bool false]) ∧ Below w.heap.size w w' := by
  obtain ⟨w2, hw2⟩ : ∃ w2, (w.alloc (.cells #[.int .i64 b, .slice p n cp, .bool false] 34 (0, 0))).alloc (.cells #[.int .i64 0, .slice none 0 0, .bool false] 34 (0, 0)) = w2 := ⟨_, rfl⟩
  have h0 : w2.heap[w.heap.size]? = some (.cells #[.int .i64 b, .slice p n cp, .bool false] 34 (0, 0)) := by rw [← hw2]; exact alw_0 _ _ _
  have h1 : w2.heap[w.heap.size + 1]? = some (.cells #[.int .i64 0, .slice none 0 0, .bool false] 34 (0, 0)) := by rw [← hw2]; exact alw_1 _ _ _
  have hB : Below w.heap.size w w2 := by rw [← hw2]; exact belA (belA (Below.refl _ _) _) _
  obtain ⟨hc0, -⟩ := cells_block h0
  obtain ⟨hc1, hf1⟩ := cells_block h1
  have HF : Hid (_ = _) := keep3 h1 b (.slice p n cp) false
  have HB : Hid (Below w.heap.size w (((w2.setCell ⟨w.heap.size + 1, 0, none⟩ (.int .i64 b)).setCell ⟨w.heap.size + 1, 1, none⟩ (.slice p n cp)).setCell ⟨w.heap.size + 1, 2, none⟩ (.bool false))) := ((hB.setCell (Nat.le_succ _) _).setCell (Nat.le_succ _) _).setCell (Nat.le_succ _) _
  clear h0 h1 hB
  go_enter Try.func50, Try.ntmps50
  go_wp2_with fail
  refine bodyPost_ret (v := .agg #[.int .i64 b, .slice p n cp, .bool false]) (res_space _ _ (w.heap.size + 1) _ _ _ Try.results50 rfl HF.out) rfl ?_
  exact ⟨rfl, HB.out⟩
set_option maxRecDepth 100000 in
theorem fld1 (b : Int) (p : Option Addr) (n cp : Nat) (w : World) : (Instr.field 34 (.agg #[.int .i64 b, .slice p n cp, .bool false]) 1).run Try.prog w = .ok (.slice p n cp) w := by
  first | rfl | kernel_rfl | simp [Instr.field, go_sem, Try.underlying34]
set_option maxRecDepth 100000 in
theorem bits_any (b : Int) (p : Option Addr) (n cp : Nat) (w : World) : Calls Try.prog 32 #[.agg #[.int .i64 b, .slice p n cp, .bool false]] w fun e w' => e = .returned (.int .i64 b) ∧ Below w.heap.size w w' := by
  obtain ⟨w2, hw2⟩ : ∃ w2, w.alloc (.cells #[.int .i64 b, .slice p n cp, .bool false] 34 (0, 0)) = w2 := ⟨_, rfl⟩
  have h0 : w2.heap[w.heap.size]? = some (.cells #[.int .i64 b, .slice p n cp, .bool false] 34 (0, 0)) := by rw [← hw2]; exact alloc_get _ _
  have hB : Below w.heap.size w w2 := by rw [← hw2]; exact belA (Below.refl _ _) _
  obtain ⟨hc0, -⟩ := cells_block h0
  clear h0
  go_enter Try.func32, Try.ntmps32
  go_wp2_with fail
  go_ret
  exact ⟨rfl, hB⟩
def szO : Option (List UInt8 × List (List UInt8)) → Nat
  | none => 0
  | some (_, R) => 1 + R.length
def lnO : Option (List UInt8 × List (List UInt8)) → Nat
  | none => 0
  | some _ => 1
theorem SPV.shape2 {W : World} {B : Nat} {V : Value} {o : Option (List UInt8 × List (List UInt8))} (h : SPV W B V o) : ∃ p c, V = .slice p (lnO o) c := by
  match o, h with
  | none, h => exact ⟨_, _, h⟩
  | some (c, R), ⟨v, o1, _⟩ => exact shapeQ1 o1
theorem sizeO_any (V : Value) (o : Option (List UInt8 × List (List UInt8))) (B : Nat) (w : World) (h : SPV w B V o) (ho : szO o ≤ 1000000) : Calls Try.prog 47 #[V] w fun e w' => e = .returned (.int .i64 (szO o : Int)) ∧ Below w.heap.size w w' := by
  match o, h with
  | none, h =>
    obtain rfl : V = .slice none 0 0 := h
    exact size_any [] 0 none 0 w rfl (by omega) (by unfold szT; omega) (fun W hW k t ht => by cases ht)
  | some (c, R), ⟨v, o1, o2⟩ =>
    obtain ⟨q, k, rfl⟩ := shapeQ1 o2
    obtain ⟨p, cp, rfl⟩ := shapeQ1 o1
    have ho' : 1 + R.length ≤ 1000000 := ho
    have hz : szT [⟨c, q, R.length, k⟩] = 1 + R.length := by simp [szT]
    have h1 := size_any [⟨c, q, R.length, k⟩] 1 p cp w rfl (by omega) (by rw [hz]; omega) (IRT_one o1)
    rw [hz] at h1
    exact h1
set_option maxRecDepth 100000 in
theorem sSize_any (b : Int) (V : Value) (o : Option (List UInt8 × List (List UInt8))) (B : Nat) (w : World) (h : SPV w B V o) (ho : szO o ≤ 1000000) : Calls Try.prog 33 #[.agg #[.int .i64 b, V, .bool false]] w fun e w' => e = .returned (.int .i64 (szO o : Int)) ∧ Below w.heap.size w w' := by
  obtain ⟨p, cp, rfl⟩ := h.shape2
  obtain ⟨w2, hw2⟩ : ∃ w2, w.alloc (.cells #[.int .i64 b, .slice p (lnO o) cp, .bool false] 34 (0, 0)) = w2 := ⟨_, rfl⟩
  have h0 : w2.heap[w.heap.size]? = some (.cells #[.int .i64 b, .slice p (lnO o) cp, .bool false] 34 (0, 0)) := by rw [← hw2]; exact alloc_get _ _
  have hB : Below w.heap.size w w2 := by rw [← hw2]; exact belA (Below.refl _ _) _
  obtain ⟨hc0, -⟩ := cells_block h0
  have HI : Hid (Calls Try.prog 50 #[.agg #[.int .i64 b, .slice p (lnO o) cp, .bool false]] w2 fun e w' => e = .returned (.agg #[.int .i64 b, .slice p (lnO o) cp, .bool false]) ∧ Below w2.heap.size w2 w') := inForm_any b p _ cp w2
  have HS : Hid (∀ W, Below w2.heap.size w2 W → Calls Try.prog 47 #[.slice p (lnO o) cp] W fun e w' => e = .returned (.int .i64 (szO o : Int)) ∧ Below W.heap.size W w') := fun W hW => sizeO_any _ o B W (h.below (bel0 hB hW)) ho
  clear h0 h
  have hfl := fld1
  go_enter Try.func33, Try.ntmps33
  go_wp2_with fail
  refine HI.out.mono ?_
  rintro e W1 ⟨rfl, hb1⟩
  go_wp2_with fail
  refine (HS.out W1 hb1).mono ?_
  rintro e W2 ⟨rfl, hb2⟩
  go_wp2_with fail
  go_ret
  exact ⟨rfl, bel0 hB (bel0 hb1 hb2)⟩
/-- the text of what is taken away -/
def txL (R : List (List UInt8)) : List UInt8 := R.flatMap (fun r => 45 :: r)
def txO : Option (List UInt8 × List (List UInt8)) → List UInt8
  | none => [110, 111, 110, 101]
  | some (c, R) => c ++ txL R
theorem txL_step {R : List (List UInt8)} {k : Nat} {t : List UInt8} (h : R[k]? = some t) : txL (R.take (k + 1)) = txL (R.take k) ++ (45 :: t) := by
  unfold txL
  rw [List.take_add_one, h, List.flatMap_append]
  simp
theorem txL_len {R : List (List UInt8)} (hR : ∀ t ∈ R, good t = true) : (txL R).length ≤ 257 * R.length := by
  induction R with
  | nil => simp [txL]
  | cons t r ih =>
    have h1 := ih (fun x hx => hR x (List.mem_cons_of_mem _ hx))
    have h2 := good_len (hR t List.mem_cons_self)
    unfold txL at h1 ⊢
    rw [List.flatMap_cons, List.length_append, List.length_cons, List.length_cons]
    omega
theorem isB_below {W X : World} {B b : Nat} {bs : List Value} (h : Lib.IsBuilder 102 5 B b bs W) (hb : Below W.heap.size W X) : Lib.IsBuilder 102 5 B b bs X := by
  rcases h with ⟨h1, v, h2, h3, h4⟩ | ⟨h1, v, h2, h3, h4⟩
  · exact .inl ⟨h1, v, keepblk3 hb h2, own_belQ h3 hb, h4⟩
  · exact .inr ⟨h1, v, keepblk3 hb h2, own_belQ h3 hb, h4⟩
theorem own_KT {W X : World} {B n : Nat} {e : TypeId} {sz : Nat} {v : Value} {xs : List Value} (h : W.ownsRow B e sz v n xs) (k : KT W X) (n1 : e ≠ 102) (n2 : e ≠ 5) : X.ownsRow B e sz v n xs := by
  refine ⟨h.1, ?_⟩
  rcases h.2 with h2 | ⟨g, cap, cur, h1, h2, h3, h4⟩
  · exact .inl h2
  · exact .inr ⟨g, cap, cur, h1, h2, k _ _ _ _ h3 n1 n2, h4⟩
theorem ws_text (B b : Nat) (l t : List UInt8) (w : World) (h : Lib.IsBuilder 102 5 B b (Lib.byteCells l) w) (hlen : l.length + t.length ≤ 140737488355328) (hBw : B ≤ w.heap.size) :
    Calls Try.prog 51 #[.pointer (some ⟨b, 0, none⟩), .string ⟨t.toArray⟩] w fun e w' => e = .returned (.tuple #[.int .i64 (t.length : Int), .nilIface]) ∧ (Lib.IsBuilder 102 5 B b (Lib.byteCells (l ++ t)) w' ∧ Below B w w' ∧ KT w w') := by
  refine (ws_any B b (Lib.byteCells l) ⟨t.toArray⟩ w h (by rw [Lib.byteCells_length]; exact hlen) hBw).mono ?_
  rintro e w' ⟨rfl, h1, h2⟩
  refine ⟨rfl, ?_, h2⟩
  have e1 : Lib.byteCells (l ++ t) = Lib.byteCells l ++ Lib.strCells ⟨t.toArray⟩ := by
    unfold Lib.byteCells Lib.strCells
    rw [List.map_append]
  rw [e1]
  exact h1
end Go.Proofs.Ytbdnpbiimbeflaa
