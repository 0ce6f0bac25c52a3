import Derived.Test.YtecgjlpmmailjaaGreatDoorXAR
import Derived.Shelf.Strings.Search3
import Derived.Ground.NamesProg
import Derived.Test.YtecgjlpmmailjaaGreatDoorProg
import Derived.Test.YtecgjlpmmailjaaGreatDoorXAM
import Derived.Laws.Strings3
namespace Go.Proofs.YtecgjlpmmailjaaGreatDoor
open Go.RowKit Go.Shelf
theorem res_space2 {fn : Func} {p u : Tmp} {m : Nat × Nat} (tmps : Array Value) (W : World) (b : Nat) (v0 v1 v2 : Value) (hr : fn.results = #[.cell p 28, .tmp u]) (hp : tmps.getD p undef = .pointer (some ⟨b, 0, none⟩)) (h : W.heap[b]? = some (.cells #[v0, v1, v2] 28 m)) :
    (results fn tmps).run Tryz.prog W = .ok (.tuple #[.agg #[v0, v1, v2], tmps.getD u undef]) W := by
  have hc : ∀ j, W.cell? ⟨b, j, none⟩ = (#[v0, v1, v2] : Array Value)[j]? := by
    intro j; unfold World.cell?; rw [h]; simp
  rw [results_cell_tmp hr, hp]
  simp [go_sem, hc]
theorem keep3 {W : World} {b t : Nat} {x0 x1 x2 : Value} (h : W.heap[b]? = some (.cells #[x0, x1, x2] t (0, 0))) (v0 : Int) (v1 : Value) (v2 : Bool) : (((W.setCell ⟨b, 0, none⟩ (.int .i64 v0)).setCell ⟨b, 1, none⟩ v1).setCell ⟨b, 2, none⟩ (.bool v2)).heap[b]? = some (.cells #[.int .i64 v0, v1, .bool v2] t (0, 0)) := by
  have h0 := set_get (j := 0) (.int .i64 v0) h
  have h1 := set_get (j := 1) v1 h0
  have h2 := set_get (j := 2) (.bool v2) h1
  rw [h2]
  simp
set_option maxRecDepth 100000 in
theorem inForm_any (b : Int) (p : Option Addr) (n cp : Nat) (w : World) : Calls Tryz.prog 25 #[.agg #[.int .i64 b, .slice p n cp, .bool false]] w fun e w' => e = .returned (.agg #[.int .i64 b, .slice p n cp, .bool false]) ∧ Below w.heap.size w w' := by
  obtain ⟨w2, hw2⟩ : ∃ w2, (w.alloc (.cells #[.int .i64 b, .slice p n cp, .bool false] 28 (0, 0))).alloc (.cells #[.int .i64 0, .slice none 0 0, .bool false] 28 (0, 0)) = w2 := ⟨_, rfl⟩
  have h0 : w2.heap[w.heap.size]? = some (.cells #[.int .i64 b, .slice p n cp, .bool false] 28 (0, 0)) := by rw [← hw2]; exact alw_0 _ _ _
  have h1 : w2.heap[w.heap.size + 1]? = some (.cells #[.int .i64 0, .slice none 0 0, .bool false] 28 (0, 0)) := by rw [← hw2]; exact alw_1 _ _ _
  have hB : Below w.heap.size w w2 := by rw [← hw2]; exact belA (belA (Below.refl _ _) _) _
  obtain ⟨hc0, -⟩ := cells_block h0
  obtain ⟨hc1, hf1⟩ := cells_block h1
  have HF : Hid (_ = _) := keep3 h1 b (.slice p n cp) false
  have HB : Hid (Below w.heap.size w (((w2.setCell ⟨w.heap.size + 1, 0, none⟩ (.int .i64 b)).setCell ⟨w.heap.size + 1, 1, none⟩ (.slice p n cp)).setCell ⟨w.heap.size + 1, 2, none⟩ (.bool false))) := ((hB.setCell (Nat.le_succ _) _).setCell (Nat.le_succ _) _).setCell (Nat.le_succ _) _
  clear h0 h1 hB
  go_enter Tryz.func25, Tryz.ntmps25
  go_wp2_with fail
  refine bodyPost_ret (v := .agg #[.int .i64 b, .slice p n cp, .bool false]) (res_space _ _ (w.heap.size + 1) _ _ _ Tryz.results25 rfl HF.out) rfl ?_
  exact ⟨rfl, HB.out⟩
set_option maxRecDepth 100000 in
theorem fld1 (b : Int) (p : Option Addr) (n cp : Nat) (w : World) : (Instr.field 28 (.agg #[.int .i64 b, .slice p n cp, .bool false]) 1).run Tryz.prog w = .ok (.slice p n cp) w := by
  first | rfl | kernel_rfl | simp [Instr.field, go_sem, Tryz.underlying28]
set_option maxRecDepth 100000 in
theorem bits_any (b : Int) (p : Option Addr) (n cp : Nat) (w : World) : Calls Tryz.prog 14 #[.agg #[.int .i64 b, .slice p n cp, .bool false]] w fun e w' => e = .returned (.int .i64 b) ∧ Below w.heap.size w w' := by
  obtain ⟨w2, hw2⟩ : ∃ w2, w.alloc (.cells #[.int .i64 b, .slice p n cp, .bool false] 28 (0, 0)) = w2 := ⟨_, rfl⟩
  have h0 : w2.heap[w.heap.size]? = some (.cells #[.int .i64 b, .slice p n cp, .bool false] 28 (0, 0)) := by rw [← hw2]; exact alloc_get _ _
  have hB : Below w.heap.size w w2 := by rw [← hw2]; exact belA (Below.refl _ _) _
  obtain ⟨hc0, -⟩ := cells_block h0
  clear h0
  go_enter Tryz.func14, Tryz.ntmps14
  go_wp2_with fail
  go_ret
  exact ⟨rfl, hB⟩
/-- the text of what is taken away -/
def txL (R : List (List UInt8)) : List UInt8 := R.flatMap (fun r => 45 :: r)
theorem txL_step {R : List (List UInt8)} {k : Nat} {t : List UInt8} (h : R[k]? = some t) : txL (R.take (k + 1)) = txL (R.take k) ++ (45 :: t) := by
  unfold txL
  rw [List.take_add_one, h, List.flatMap_append]
  simp
theorem txL_len {R : List (List UInt8)} (hR : ∀ t ∈ R, good t = true) : (txL R).length ≤ 257 * R.length := by
  induction R with
  | nil => simp [txL]
  | cons t r ih =>
    have h1 := ih (fun x hx => hR x (List.mem_cons_of_mem _ hx))
    have h2 := good_len (hR t List.mem_cons_self)
    unfold txL at h1 ⊢
    rw [List.flatMap_cons, List.length_append, List.length_cons, List.length_cons]
    omega
theorem isB_below {W X : World} {B b : Nat} {bs : List Value} (h : Lib.IsBuilder 65 5 B b bs W) (hb : Below W.heap.size W X) : Lib.IsBuilder 65 5 B b bs X := by
  rcases h with ⟨h1, v, h2, h3, h4⟩ | ⟨h1, v, h2, h3, h4⟩
  · exact .inl ⟨h1, v, keepblk3 hb h2, own_belQ h3 hb, h4⟩
  · exact .inr ⟨h1, v, keepblk3 hb h2, own_belQ h3 hb, h4⟩
theorem own_KT {W X : World} {B n : Nat} {e : TypeId} {sz : Nat} {v : Value} {xs : List Value} (h : W.ownsRow B e sz v n xs) (k : KT W X) (n1 : e ≠ 65) (n2 : e ≠ 5) : X.ownsRow B e sz v n xs := by
  refine ⟨h.1, ?_⟩
  rcases h.2 with h2 | ⟨g, cap, cur, h1, h2, h3, h4⟩
  · exact .inl h2
  · exact .inr ⟨g, cap, cur, h1, h2, k _ _ _ _ h3 n1 n2, h4⟩
theorem ws_text (B b : Nat) (l t : List UInt8) (w : World) (h : Lib.IsBuilder 65 5 B b (Lib.byteCells l) w) (hlen : l.length + t.length ≤ 140737488355328) (hBw : B ≤ w.heap.size) :
    Calls Tryz.prog 26 #[.pointer (some ⟨b, 0, none⟩), .string ⟨t.toArray⟩] w fun e w' => e = .returned (.tuple #[.int .i64 (t.length : Int), .nilIface]) ∧ (Lib.IsBuilder 65 5 B b (Lib.byteCells (l ++ t)) w' ∧ Below B w w' ∧ KT w w') := by
  refine (ws_any B b (Lib.byteCells l) ⟨t.toArray⟩ w h (by rw [Lib.byteCells_length]; exact hlen) hBw).mono ?_
  rintro e w' ⟨rfl, h1, h2⟩
  refine ⟨rfl, ?_, h2⟩
  have e1 : Lib.byteCells (l ++ t) = Lib.byteCells l ++ Lib.strCells ⟨t.toArray⟩ := by
    unfold Lib.byteCells Lib.strCells
    rw [List.map_append]
  rw [e1]
  exact h1
/-- what stands while Text writes -/
def TXI (W1 wr : World) (l : List UInt8) : Prop := Lib.IsBuilder 65 5 W1.heap.size W1.heap.size (Lib.byteCells l) wr ∧ KT W1 wr ∧ Below W1.heap.size W1 wr
theorem TXI.below {W1 wr X : World} {l : List UInt8} (h : TXI W1 wr l) (hb : Below wr.heap.size wr X) : TXI W1 X l := ⟨isB_below h.1 hb, h.2.1.trans (KT_below hb), bel0 h.2.2 hb⟩
theorem TXI.write {W1 wr : World} {l : List UInt8} (h : TXI W1 wr l) (t : List UInt8) (hlen : l.length + t.length ≤ 140737488355328) :
    Calls Tryz.prog 26 #[.pointer (some ⟨W1.heap.size, 0, none⟩), .string ⟨t.toArray⟩] wr fun e w' => e = .returned (.tuple #[.int .i64 (t.length : Int), .nilIface]) ∧ TXI W1 w' (l ++ t) ∧ KT wr w' := by
  refine (ws_text W1.heap.size W1.heap.size l t wr h.1 hlen h.2.2.size).mono ?_
  rintro e w' ⟨rfl, h1, h2, h3⟩
  exact ⟨rfl, ⟨h1, h.2.1.trans h3, h.2.2.trans h2⟩, h3⟩
set_option maxRecDepth 100000 in
theorem sText_none (b : Int) (w : World) : Calls Tryz.prog 12 #[.agg #[.int .i64 b, .slice none 0 0, .bool false]] w fun e w' => e = .returned (.string ⟨#[110, 111, 110, 101]⟩) ∧ Below w.heap.size w w' := by
  obtain ⟨w2, hw2⟩ : ∃ w2, w.alloc (.cells #[.int .i64 b, .slice none 0 0, .bool false] 28 (0, 0)) = w2 := ⟨_, rfl⟩
  have h0 : w2.heap[w.heap.size]? = some (.cells #[.int .i64 b, .slice none 0 0, .bool false] 28 (0, 0)) := by rw [← hw2]; exact alloc_get _ _
  have hB : Below w.heap.size w w2 := by rw [← hw2]; exact belA (Below.refl _ _) _
  obtain ⟨hc0, -⟩ := cells_block h0
  have HI : Hid (Calls Tryz.prog 25 #[.agg #[.int .i64 b, .slice none 0 0, .bool false]] w2 fun e w' => e = .returned (.agg #[.int .i64 b, .slice none 0 0, .bool false]) ∧ Below w2.heap.size w2 w') := inForm_any b none 0 0 w2
  clear h0
  have hfl := fld1
  go_enter Tryz.func12, Tryz.ntmps12
  go_wp2_with fail
  refine HI.out.mono ?_
  rintro e W1 ⟨rfl, hb1⟩
  go_wp2_with fail
  go_ret
  exact ⟨rfl, bel0 hB hb1⟩
/-- pieces with a plus between them -/
def jn (L : List (List UInt8)) : List UInt8 := (L.flatMap (fun x => 43 :: x)).drop 1
theorem jn_first (x : List UInt8) : jn [x] = x := by simp [jn]
theorem jn_snoc {L : List (List UInt8)} (h : 0 < L.length) (x : List UInt8) : jn (L ++ [x]) = jn L ++ [43] ++ x := by
  unfold jn
  rw [List.flatMap_append, List.drop_append_of_le_length]
  · simp
  · cases L with
    | nil => exact absurd h (by simp)
    | cons y l => simp
def txZ (z : ZT) : List UInt8 := z.c ++ txL z.L
def txT (t : List UInt8 × List (List UInt8)) : List UInt8 := t.1 ++ txL t.2
/-- a space's text -/
def txC (Ts : List (List UInt8 × List (List UInt8))) : List UInt8 := if Ts = [] then [110, 111, 110, 101] else jn (Ts.map txT)
theorem jnZ_step0 {Z : List ZT} {z : ZT} (h : Z[0]? = some z) : jn ((Z.take 1).map txZ) = txZ z := by
  cases Z with
  | nil => cases h
  | cons y l =>
    obtain rfl : y = z := by simpa using h
    simp [jn]
theorem jnZ_step {Z : List ZT} {k : Nat} {z : ZT} (h : Z[k]? = some z) (hk : 0 < k) : jn ((Z.take (k + 1)).map txZ) = jn ((Z.take k).map txZ) ++ [43] ++ txZ z := by
  have hl := (List.getElem?_eq_some_iff.1 h).1
  rw [List.take_add_one, h, List.map_append]
  exact jn_snoc (by simp; omega) _
theorem jn_len (n m : Nat) (L : List (List UInt8)) (hL : L.length ≤ n) (h : ∀ x ∈ L, x.length ≤ m) : (jn L).length ≤ n * (m + 1) := by
  have h2 : ∀ L : List (List UInt8), (∀ x ∈ L, x.length ≤ m) → (L.flatMap (fun x => (43 : UInt8) :: x)).length ≤ L.length * (m + 1) := by
    intro L
    induction L with
    | nil => intro _; simp
    | cons y l ih =>
      intro h
      have h1 := ih (fun x hx => h x (List.mem_cons_of_mem _ hx))
      have h3 := h y List.mem_cons_self
      rw [List.flatMap_cons, List.length_append, List.length_cons, List.length_cons, Nat.add_mul]
      omega
  have h3 := h2 L h
  have h4 : L.length * (m + 1) ≤ n * (m + 1) := Nat.mul_le_mul_right _ hL
  unfold jn
  rw [List.length_drop]
  omega
end Go.Proofs.YtecgjlpmmailjaaGreatDoor
namespace Go.Proofs.YtecgjlpmmailjaaGreatDoor
open Go.RowKit Go.Shelf
set_option maxRecDepth 100000 in
set_option maxHeartbeats 8000000 in
theorem spText_pos (b : Int) (p : Option Addr) (cp n : Nat) (Z : List ZT) (B : Nat) (w : World) (hn : Z.length = n) (hp : 0 < n) (hN : n ≤ 128) (o1 : w.ownsRow B 67 10 (.slice p n cp) n (tes Z)) (hz : ZL w B Z) (ho : ∀ z ∈ Z, z.L.length ≤ 1000000) (gz : ∀ z ∈ Z, good z.c = true ∧ ∀ t ∈ z.L, good t = true) : Calls Tryz.prog 12 #[.agg #[.int .i64 b, .slice p n cp, .bool false]] w fun e w' => e = .returned (.string ⟨(jn (Z.map txZ)).toArray⟩) ∧ Below w.heap.size w w' := by
  obtain ⟨w2, hw2⟩ : ∃ w2, w.alloc (.cells #[.int .i64 b, .slice p n cp, .bool false] 28 (0, 0)) = w2 := ⟨_, rfl⟩
  have h0 : w2.heap[w.heap.size]? = some (.cells #[.int .i64 b, .slice p n cp, .bool false] 28 (0, 0)) := by rw [← hw2]; exact alloc_get _ _
  have hB : Below w.heap.size w w2 := by rw [← hw2]; exact belA (Below.refl _ _) _
  obtain ⟨hc0, -⟩ := cells_block h0
  have HI : Hid (Calls Tryz.prog 25 #[.agg #[.int .i64 b, .slice p n cp, .bool false]] w2 fun e w' => e = .returned (.agg #[.int .i64 b, .slice p n cp, .bool false]) ∧ Below w2.heap.size w2 w') := inForm_any b p n cp w2
  have HT : Hid (∀ W, KT w W → IRZ W p Z) := fun W hW => IRZ_own (own_KT o1 hW (by decide) (by decide)) hn
  have HZA : Hid (∀ z ∈ Z, (∀ W, KT w W → IRC W z.q z.L) ∧ z.L.length ≤ 1000000 ∧ good z.c = true ∧ ∀ t ∈ z.L, good t = true) := fun z hm => ⟨fun W hW => IRC_own (own_KT (hz z hm) hW (by decide) (by decide)) rfl, ho z hm, gz z hm⟩
  have HLB : Hid (∀ i, (jn ((Z.take i).map txZ)).length ≤ 257000000000) := fun i => by
    have h1 := jn_len 128 (256 + 257 * 1000000) ((Z.take i).map txZ) (by rw [List.length_map, List.length_take]; omega) (fun x hx => by
      obtain ⟨z, hz, rfl⟩ := List.mem_map.1 hx
      have hm := List.mem_of_mem_take hz
      have h2 := txL_len (gz z hm).2
      have h3 := good_len (gz z hm).1
      have h4 := ho z hm
      unfold txZ
      rw [List.length_append]
      omega)
    omega
  have HN : Hid (Z.length = n) := hn
  have hnb : ((n : Int) == 0) = false := by rw [beq_eq_false_iff_ne]; omega
  clear h0 o1 hz ho gz hn
  have hfl := fld1
  go_enter Tryz.func12, Tryz.ntmps12
  go_wp2_with fail
  refine HI.out.mono ?_
  rintro e W1 ⟨rfl, hb1⟩
  have KW : Hid (KT w W1 ∧ Below w.heap.size w W1) := ⟨KT_below (bel0 hB hb1), bel0 hB hb1⟩
  have H0 : Hid (TXI W1 (W1.alloc (.cells #[.pointer none, .slice none 0 0] 65 (0, 0))) []) := ⟨.inl ⟨Nat.le_refl _, .slice none 0 0, alloc_get _ _, World.ownsRow_nil _ _ _ _, by simp [Value.ownBlock]⟩, KT_below (belA (Below.refl _ _) _), belA (Below.refl _ _) _⟩
  clear hb1 hB hc0 hw2 HI
  go_wp2_with fail
  go_loopw [17] (fun v17 wr => ∃ i : Nat, v17 = .int .i64 i ∧ i ≤ n ∧ Hid (TXI W1 wr (jn ((Z.take i).map txZ)))) (fun v17 _ => n - (intOf v17).toNat)
  case atStart => exact ⟨0, rfl, Nat.zero_le _, H0⟩
  case round =>
    clear H0 hnb
    obtain ⟨i, rfl, hi, HX⟩ := hrel
    by_cases hlt : i < n
    · obtain ⟨z, hz⟩ : ∃ z, Z[i]? = some z := ⟨_, List.getElem?_eq_getElem (by rw [HN.out]; exact hlt)⟩
      obtain ⟨HZ', HZL', HZG'⟩ := HZA.out z (List.mem_of_getElem? hz)
      have HZ : Hid (∀ W, KT w W → IRC W z.q z.L) := HZ'
      have HZL : Hid (z.L.length ≤ 1000000) := HZL'
      have HZG : Hid (good z.c = true ∧ ∀ t ∈ z.L, good t = true) := HZG'
      have hln := HLB.out i
      clear HZ' HZL' HZG'
      by_cases hi0 : i = 0
      · subst hi0
        have HSTP : Hid (jn ((Z.take 1).map txZ) = txZ z) := jnZ_step0 hz
        have j1 : (0 : Int) < (n : Int) := by omega
        have HX0 : Hid (TXI W1 wr []) := HX
        clear HX hln
        rename Hid (TXI W1 wr []) => HX
        obtain ⟨g, o0, rfl, p0, p1, p2, p3, p4, p5, p6, p7, p8, p9⟩ := HT.out wr (KW.out.1.trans HX.out.2.1) wr (Below.refl _ _) 0 _ hz
        obtain ⟨c, q, k, R⟩ := z
        simp only at p0 p1 p2 p3 p4 p5 p6 p7 p8 p9 HZ HZL HZG
        rw [Nat.zero_mul, Nat.add_zero] at p0 p1 p2 p3 p4 p5 p6 p7 p8 p9
        clear hz
        have HG : Hid (good c = true ∧ ∀ t ∈ R, good t = true) := HZG
        have HC : Hid (∀ W, KT w W → IRC W q R) := HZ
        have hRl : R.length ≤ 1000000 := HZL.out
        have hcl := good_len HG.out.1
        have HLN : Hid (∀ j, (txL (R.take j)).length ≤ 257 * R.length) := fun j => by
          have h1 := txL_len (R := R.take j) (fun t ht => HG.out.2 t (List.mem_of_mem_take ht))
          have h2 : (R.take j).length ≤ R.length := by rw [List.length_take]; omega
          omega
        clear HZ HZG HZL
        obtain ⟨wa, hwa⟩ : ∃ wa, wr.alloc (.cells #[.int .i64 (c.length : Int), .int .u64 (FW c 0 : Int), .int .u64 (FW c 1 : Int), .int .u64 (FW c 2 : Int), .int .u64 (FW c 3 : Int), .int .u64 (OW c 0 : Int), .int .u64 (OW c 1 : Int), .int .u64 (OW c 2 : Int), .int .u64 (OW c 3 : Int), .slice q R.length k] 67 (0, 0)) = wa := ⟨_, rfl⟩
        have hal : Below wr.heap.size wr wa := by rw [← hwa]; exact belA (Below.refl _ _) _
        have hgt : wa.heap[wr.heap.size]? = some (.cells #[.int .i64 (c.length : Int), .int .u64 (FW c 0 : Int), .int .u64 (FW c 1 : Int), .int .u64 (FW c 2 : Int), .int .u64 (FW c 3 : Int), .int .u64 (OW c 0 : Int), .int .u64 (OW c 1 : Int), .int .u64 (OW c 2 : Int), .int .u64 (OW c 3 : Int), .slice q R.length k] 67 (0, 0)) := by rw [← hwa]; exact alloc_get _ _
        have hcw := (cells_block hgt).1
        have HGT : Hid (wa.heap[wr.heap.size]? = some (.cells #[.int .i64 (c.length : Int), .int .u64 (FW c 0 : Int), .int .u64 (FW c 1 : Int), .int .u64 (FW c 2 : Int), .int .u64 (FW c 3 : Int), .int .u64 (OW c 0 : Int), .int .u64 (OW c 1 : Int), .int .u64 (OW c 2 : Int), .int .u64 (OW c 3 : Int), .slice q R.length k] 67 (0, 0))) := hgt
        have HXa : Hid (TXI W1 wa []) := HX.out.below hal
        have HTx : Hid (Calls Tryz.prog 23 #[.agg #[.int .i64 (c.length : Int), .int .u64 (FW c 0 : Int), .int .u64 (FW c 1 : Int), .int .u64 (FW c 2 : Int), .int .u64 (FW c 3 : Int), .int .u64 (OW c 0 : Int), .int .u64 (OW c 1 : Int), .int .u64 (OW c 2 : Int), .int .u64 (OW c 3 : Int)]] wa fun e w' => e = .returned (.string ⟨c.toArray⟩) ∧ Below wa.heap.size wa w') := text_any c wa HG.out.1
        clear hgt HX hal
        go_wp2_with fail
        refine HTx.out.mono ?_
        rintro e W2 ⟨rfl, hb2⟩
        have HX2 := HXa.out.below hb2
        have HW2 : Hid (Calls Tryz.prog 26 #[.pointer (some ⟨W1.heap.size, 0, none⟩), .string ⟨c.toArray⟩] W2 fun e w' => e = .returned (.tuple #[.int .i64 (c.length : Int), .nilIface]) ∧ TXI W1 w' ([] ++ c) ∧ KT W2 w') := HX2.write c (by simp; omega)
        have hg2 := keepblk3 hb2 HGT.out
        have HG2 : Hid (W2.heap[wr.heap.size]? = some (.cells #[.int .i64 (c.length : Int), .int .u64 (FW c 0 : Int), .int .u64 (FW c 1 : Int), .int .u64 (FW c 2 : Int), .int .u64 (FW c 3 : Int), .int .u64 (OW c 0 : Int), .int .u64 (OW c 1 : Int), .int .u64 (OW c 2 : Int), .int .u64 (OW c 3 : Int), .slice q R.length k] 67 (0, 0))) := hg2
        clear hg2 HX2 hb2 hcw HTx HXa hwa p0 p1 p2 p3 p4 p5 p6 p7 p8 p9
        go_wp2_with fail
        refine HW2.out.mono ?_
        rintro e W3 ⟨rfl, HX3, kt3⟩
        have hcw3 := (cells_block (kt3 _ _ _ _ HG2.out (by decide) (by decide))).1
        obtain ⟨Y1, hY1⟩ : ∃ Y1, [] ++ c = Y1 := ⟨_, rfl⟩
        have hY1l : Y1.length ≤ 257000000300 := by rw [← hY1]; simp; omega
        have HYT : Hid ([] ++ c = Y1) := hY1
        rw [hY1] at HX3
        have H3 : Hid (TXI W1 W3 (Y1 ++ txL (R.take 0))) := by unfold Hid; simpa [txL] using HX3
        clear HX3 kt3 HW2 HG2 HGT hY1
        go_wp2_with fail
        go_loopw [32] (fun v32 ws => ∃ j : Nat, v32 = .int .i64 j ∧ j ≤ R.length ∧ Hid (TXI W1 ws (Y1 ++ txL (R.take j)))) (fun v32 _ => R.length - (intOf v32).toNat)
        case atStart => exact ⟨0, rfl, Nat.zero_le _, H3⟩
        case round =>
          clear H3 hcw3
          obtain ⟨j, rfl, hj, HY⟩ := hrel
          by_cases hlt : j < R.length
          · have j1 : (j : Int) < (R.length : Int) := by omega
            have j0 : (0 : Int) ≤ (j : Int) := by omega
            obtain ⟨t, ht⟩ : ∃ t, R[j]? = some t := ⟨_, List.getElem?_eq_getElem hlt⟩
            have hir := HC.out _ (KW.out.1.trans HY.out.2.1)
            obtain ⟨g2, o2, rfl, p0, p1, p2, p3, p4, p5, p6, p7, p8⟩ := hir _ (Below.refl _ _) j t ht
            have gt := HG.out.2 t (List.mem_of_getElem? ht)
            have htl := good_len gt
            have HST : Hid (Y1 ++ txL (R.take (j + 1)) = Y1 ++ txL (R.take j) ++ [45] ++ t) := by unfold Hid; rw [txL_step ht]; simp
            have hln := HLN.out j
            obtain ⟨Y, hY⟩ : ∃ Y, Y1 ++ txL (R.take j) = Y := ⟨_, rfl⟩
            have hYl : Y.length ≤ 257000000300 + 257 * 1000000 := by rw [← hY, List.length_append]; omega
            rw [hY] at HST HY
            clear hir ht hY
            obtain ⟨wb, hwb⟩ : ∃ wb, World.alloc wr (.cells #[.int .i64 (t.length : Int), .int .u64 (FW t 0 : Int), .int .u64 (FW t 1 : Int), .int .u64 (FW t 2 : Int), .int .u64 (FW t 3 : Int), .int .u64 (OW t 0 : Int), .int .u64 (OW t 1 : Int), .int .u64 (OW t 2 : Int), .int .u64 (OW t 3 : Int)] 58 (0, 0)) = wb := ⟨_, rfl⟩
            have hal : Below (World.heap wr).size wr wb := by rw [← hwb]; exact belA (Below.refl _ _) _
            have hgt : wb.heap[(World.heap wr).size]? = some (.cells #[.int .i64 (t.length : Int), .int .u64 (FW t 0 : Int), .int .u64 (FW t 1 : Int), .int .u64 (FW t 2 : Int), .int .u64 (FW t 3 : Int), .int .u64 (OW t 0 : Int), .int .u64 (OW t 1 : Int), .int .u64 (OW t 2 : Int), .int .u64 (OW t 3 : Int)] 58 (0, 0)) := by rw [← hwb]; exact alloc_get _ _
            have HGT : Hid (wb.heap[(World.heap wr).size]? = some (.cells #[.int .i64 (t.length : Int), .int .u64 (FW t 0 : Int), .int .u64 (FW t 1 : Int), .int .u64 (FW t 2 : Int), .int .u64 (FW t 3 : Int), .int .u64 (OW t 0 : Int), .int .u64 (OW t 1 : Int), .int .u64 (OW t 2 : Int), .int .u64 (OW t 3 : Int)] 58 (0, 0))) := hgt
            have HW4 : Hid (Calls Tryz.prog 26 #[.pointer (some ⟨W1.heap.size, 0, none⟩), .string ⟨#[45]⟩] wb fun e w' => e = .returned (.tuple #[.int .i64 1, .nilIface]) ∧ TXI W1 w' (Y ++ [45]) ∧ KT wb w') := (HY.out.below hal).write [45] (by simp; omega)
            clear hgt hal HY
            go_wp2_with fail
            refine HW4.out.mono ?_
            rintro e W4 ⟨rfl, HX4, kt4⟩
            have hcw4 := (cells_block (kt4 _ _ _ _ HGT.out (by decide) (by decide))).1
            have HX4' : Hid (TXI W1 W4 (Y ++ [45])) := HX4
            have HTx : Hid (Calls Tryz.prog 23 #[.agg #[.int .i64 (t.length : Int), .int .u64 (FW t 0 : Int), .int .u64 (FW t 1 : Int), .int .u64 (FW t 2 : Int), .int .u64 (FW t 3 : Int), .int .u64 (OW t 0 : Int), .int .u64 (OW t 1 : Int), .int .u64 (OW t 2 : Int), .int .u64 (OW t 3 : Int)]] W4 fun e w' => e = .returned (.string ⟨t.toArray⟩) ∧ Below W4.heap.size W4 w') := text_any t W4 gt
            clear HX4 kt4 HGT HW4 hwb p0 p1 p2 p3 p4 p5 p6 p7 p8
            go_wp2_with fail
            refine HTx.out.mono ?_
            rintro e W5 ⟨rfl, hb5⟩
            have HW5 : Hid (Calls Tryz.prog 26 #[.pointer (some ⟨W1.heap.size, 0, none⟩), .string ⟨t.toArray⟩] W5 fun e w' => e = .returned (.tuple #[.int .i64 (t.length : Int), .nilIface]) ∧ TXI W1 w' (Y ++ [45] ++ t) ∧ KT W5 w') := (HX4'.out.below hb5).write t (by simp; omega)
            clear hb5 HX4' HTx hcw4
            go_wp2_with fail
            refine HW5.out.mono ?_
            rintro e W6 ⟨rfl, HX6, -⟩
            have HX6' : Hid (TXI W1 W6 (Y1 ++ txL (R.take (j + 1)))) := by unfold Hid; rw [HST.out]; exact HX6
            clear HX6 HW5
            go_wp2_with fail
            go_roundw
            case rel => exact ⟨j + 1, by go_num, by omega, HX6'⟩
            case measure => simp [intOf]; omega
          · have j1 : ¬ (j : Int) < (R.length : Int) := by omega
            have e : R.take j = R := List.take_of_length_le (by omega)
            rw [e] at HY
            have HN : Hid (TXI W1 wr (jn ((Z.take (1)).map txZ))) := by
              unfold Hid
              rw [HSTP.out]
              have h1 := HY.out
              rw [← HYT.out] at h1
              unfold txZ
              simpa using h1
            clear e HY
            go_wp2_with fail
            go_roundw
            case rel => exact ⟨1, by go_num, by omega, HN⟩
            case measure => simp [intOf]; omega
      · have HSTP : Hid (jn ((Z.take (i + 1)).map txZ) = jn ((Z.take i).map txZ) ++ [43] ++ txZ z) := jnZ_step hz (by omega)
        have j1 : (i : Int) < (n : Int) := by omega
        have j0 : (0 : Int) ≤ (i : Int) := by omega
        have j2 : (0 : Int) < (i : Int) := by omega
        obtain ⟨YY, hYY⟩ : ∃ YY, jn ((Z.take i).map txZ) = YY := ⟨_, rfl⟩
        rw [hYY] at HX HSTP hln
        clear hYY
        obtain ⟨g, o0, rfl, p0, p1, p2, p3, p4, p5, p6, p7, p8, p9⟩ := HT.out wr (KW.out.1.trans HX.out.2.1) wr (Below.refl _ _) i _ hz
        obtain ⟨c, q, k, R⟩ := z
        simp only at p0 p1 p2 p3 p4 p5 p6 p7 p8 p9 HZ HZL HZG
        clear hz
        have HG : Hid (good c = true ∧ ∀ t ∈ R, good t = true) := HZG
        have HC : Hid (∀ W, KT w W → IRC W q R) := HZ
        have hRl : R.length ≤ 1000000 := HZL.out
        have hcl := good_len HG.out.1
        have HLN : Hid (∀ j, (txL (R.take j)).length ≤ 257 * R.length) := fun j => by
          have h1 := txL_len (R := R.take j) (fun t ht => HG.out.2 t (List.mem_of_mem_take ht))
          have h2 : (R.take j).length ≤ R.length := by rw [List.length_take]; omega
          omega
        clear HZ HZG HZL
        obtain ⟨wa, hwa⟩ : ∃ wa, wr.alloc (.cells #[.int .i64 (c.length : Int), .int .u64 (FW c 0 : Int), .int .u64 (FW c 1 : Int), .int .u64 (FW c 2 : Int), .int .u64 (FW c 3 : Int), .int .u64 (OW c 0 : Int), .int .u64 (OW c 1 : Int), .int .u64 (OW c 2 : Int), .int .u64 (OW c 3 : Int), .slice q R.length k] 67 (0, 0)) = wa := ⟨_, rfl⟩
        have hal : Below wr.heap.size wr wa := by rw [← hwa]; exact belA (Below.refl _ _) _
        have hgt : wa.heap[wr.heap.size]? = some (.cells #[.int .i64 (c.length : Int), .int .u64 (FW c 0 : Int), .int .u64 (FW c 1 : Int), .int .u64 (FW c 2 : Int), .int .u64 (FW c 3 : Int), .int .u64 (OW c 0 : Int), .int .u64 (OW c 1 : Int), .int .u64 (OW c 2 : Int), .int .u64 (OW c 3 : Int), .slice q R.length k] 67 (0, 0)) := by rw [← hwa]; exact alloc_get _ _
        have HGT0 : Hid (wa.heap[wr.heap.size]? = some (.cells #[.int .i64 (c.length : Int), .int .u64 (FW c 0 : Int), .int .u64 (FW c 1 : Int), .int .u64 (FW c 2 : Int), .int .u64 (FW c 3 : Int), .int .u64 (OW c 0 : Int), .int .u64 (OW c 1 : Int), .int .u64 (OW c 2 : Int), .int .u64 (OW c 3 : Int), .slice q R.length k] 67 (0, 0))) := hgt
        have HW0 : Hid (Calls Tryz.prog 26 #[.pointer (some ⟨W1.heap.size, 0, none⟩), .string ⟨#[43]⟩] wa fun e w' => e = .returned (.tuple #[.int .i64 1, .nilIface]) ∧ TXI W1 w' (YY ++ [43]) ∧ KT wa w') := (HX.out.below hal).write [43] (by simp; omega)
        clear hgt HX hal
        go_wp2_with fail
        refine HW0.out.mono ?_
        rintro e WA ⟨rfl, HXA, ktA⟩
        have hgA := ktA _ _ _ _ HGT0.out (by decide) (by decide)
        have hcw := (cells_block hgA).1
        have HGT : Hid (WA.heap[wr.heap.size]? = some (.cells #[.int .i64 (c.length : Int), .int .u64 (FW c 0 : Int), .int .u64 (FW c 1 : Int), .int .u64 (FW c 2 : Int), .int .u64 (FW c 3 : Int), .int .u64 (OW c 0 : Int), .int .u64 (OW c 1 : Int), .int .u64 (OW c 2 : Int), .int .u64 (OW c 3 : Int), .slice q R.length k] 67 (0, 0))) := hgA
        have HXa : Hid (TXI W1 WA (YY ++ [43])) := HXA
        have HTx : Hid (Calls Tryz.prog 23 #[.agg #[.int .i64 (c.length : Int), .int .u64 (FW c 0 : Int), .int .u64 (FW c 1 : Int), .int .u64 (FW c 2 : Int), .int .u64 (FW c 3 : Int), .int .u64 (OW c 0 : Int), .int .u64 (OW c 1 : Int), .int .u64 (OW c 2 : Int), .int .u64 (OW c 3 : Int)]] WA fun e w' => e = .returned (.string ⟨c.toArray⟩) ∧ Below WA.heap.size WA w') := text_any c WA HG.out.1
        clear hgA HXA ktA HW0 HGT0
        go_wp2_with fail
        refine HTx.out.mono ?_
        rintro e W2 ⟨rfl, hb2⟩
        have HX2 := HXa.out.below hb2
        have HW2 : Hid (Calls Tryz.prog 26 #[.pointer (some ⟨W1.heap.size, 0, none⟩), .string ⟨c.toArray⟩] W2 fun e w' => e = .returned (.tuple #[.int .i64 (c.length : Int), .nilIface]) ∧ TXI W1 w' ((YY ++ [43]) ++ c) ∧ KT W2 w') := HX2.write c (by simp; omega)
        have hg2 := keepblk3 hb2 HGT.out
        have HG2 : Hid (W2.heap[wr.heap.size]? = some (.cells #[.int .i64 (c.length : Int), .int .u64 (FW c 0 : Int), .int .u64 (FW c 1 : Int), .int .u64 (FW c 2 : Int), .int .u64 (FW c 3 : Int), .int .u64 (OW c 0 : Int), .int .u64 (OW c 1 : Int), .int .u64 (OW c 2 : Int), .int .u64 (OW c 3 : Int), .slice q R.length k] 67 (0, 0))) := hg2
        clear hg2 HX2 hb2 hcw HTx HXa hwa p0 p1 p2 p3 p4 p5 p6 p7 p8 p9
        go_wp2_with fail
        refine HW2.out.mono ?_
        rintro e W3 ⟨rfl, HX3, kt3⟩
        have hcw3 := (cells_block (kt3 _ _ _ _ HG2.out (by decide) (by decide))).1
        obtain ⟨Y1, hY1⟩ : ∃ Y1, (YY ++ [43]) ++ c = Y1 := ⟨_, rfl⟩
        have hY1l : Y1.length ≤ 257000000300 := by rw [← hY1]; simp; omega
        have HYT : Hid ((YY ++ [43]) ++ c = Y1) := hY1
        rw [hY1] at HX3
        have H3 : Hid (TXI W1 W3 (Y1 ++ txL (R.take 0))) := by unfold Hid; simpa [txL] using HX3
        clear HX3 kt3 HW2 HG2 HGT hY1
        go_wp2_with fail
        go_loopw [32] (fun v32 ws => ∃ j : Nat, v32 = .int .i64 j ∧ j ≤ R.length ∧ Hid (TXI W1 ws (Y1 ++ txL (R.take j)))) (fun v32 _ => R.length - (intOf v32).toNat)
        case atStart => exact ⟨0, rfl, Nat.zero_le _, H3⟩
        case round =>
          clear H3 hcw3
          obtain ⟨j, rfl, hj, HY⟩ := hrel
          by_cases hlt : j < R.length
          · have j1 : (j : Int) < (R.length : Int) := by omega
            have j0 : (0 : Int) ≤ (j : Int) := by omega
            obtain ⟨t, ht⟩ : ∃ t, R[j]? = some t := ⟨_, List.getElem?_eq_getElem hlt⟩
            have hir := HC.out _ (KW.out.1.trans HY.out.2.1)
            obtain ⟨g2, o2, rfl, p0, p1, p2, p3, p4, p5, p6, p7, p8⟩ := hir _ (Below.refl _ _) j t ht
            have gt := HG.out.2 t (List.mem_of_getElem? ht)
            have htl := good_len gt
            have HST : Hid (Y1 ++ txL (R.take (j + 1)) = Y1 ++ txL (R.take j) ++ [45] ++ t) := by unfold Hid; rw [txL_step ht]; simp
            have hln := HLN.out j
            obtain ⟨Y, hY⟩ : ∃ Y, Y1 ++ txL (R.take j) = Y := ⟨_, rfl⟩
            have hYl : Y.length ≤ 257000000300 + 257 * 1000000 := by rw [← hY, List.length_append]; omega
            rw [hY] at HST HY
            clear hir ht hY
            obtain ⟨wb, hwb⟩ : ∃ wb, World.alloc wr (.cells #[.int .i64 (t.length : Int), .int .u64 (FW t 0 : Int), .int .u64 (FW t 1 : Int), .int .u64 (FW t 2 : Int), .int .u64 (FW t 3 : Int), .int .u64 (OW t 0 : Int), .int .u64 (OW t 1 : Int), .int .u64 (OW t 2 : Int), .int .u64 (OW t 3 : Int)] 58 (0, 0)) = wb := ⟨_, rfl⟩
            have hal : Below (World.heap wr).size wr wb := by rw [← hwb]; exact belA (Below.refl _ _) _
            have hgt : wb.heap[(World.heap wr).size]? = some (.cells #[.int .i64 (t.length : Int), .int .u64 (FW t 0 : Int), .int .u64 (FW t 1 : Int), .int .u64 (FW t 2 : Int), .int .u64 (FW t 3 : Int), .int .u64 (OW t 0 : Int), .int .u64 (OW t 1 : Int), .int .u64 (OW t 2 : Int), .int .u64 (OW t 3 : Int)] 58 (0, 0)) := by rw [← hwb]; exact alloc_get _ _
            have HGT : Hid (wb.heap[(World.heap wr).size]? = some (.cells #[.int .i64 (t.length : Int), .int .u64 (FW t 0 : Int), .int .u64 (FW t 1 : Int), .int .u64 (FW t 2 : Int), .int .u64 (FW t 3 : Int), .int .u64 (OW t 0 : Int), .int .u64 (OW t 1 : Int), .int .u64 (OW t 2 : Int), .int .u64 (OW t 3 : Int)] 58 (0, 0))) := hgt
            have HW4 : Hid (Calls Tryz.prog 26 #[.pointer (some ⟨W1.heap.size, 0, none⟩), .string ⟨#[45]⟩] wb fun e w' => e = .returned (.tuple #[.int .i64 1, .nilIface]) ∧ TXI W1 w' (Y ++ [45]) ∧ KT wb w') := (HY.out.below hal).write [45] (by simp; omega)
            clear hgt hal HY
            go_wp2_with fail
            refine HW4.out.mono ?_
            rintro e W4 ⟨rfl, HX4, kt4⟩
            have hcw4 := (cells_block (kt4 _ _ _ _ HGT.out (by decide) (by decide))).1
            have HX4' : Hid (TXI W1 W4 (Y ++ [45])) := HX4
            have HTx : Hid (Calls Tryz.prog 23 #[.agg #[.int .i64 (t.length : Int), .int .u64 (FW t 0 : Int), .int .u64 (FW t 1 : Int), .int .u64 (FW t 2 : Int), .int .u64 (FW t 3 : Int), .int .u64 (OW t 0 : Int), .int .u64 (OW t 1 : Int), .int .u64 (OW t 2 : Int), .int .u64 (OW t 3 : Int)]] W4 fun e w' => e = .returned (.string ⟨t.toArray⟩) ∧ Below W4.heap.size W4 w') := text_any t W4 gt
            clear HX4 kt4 HGT HW4 hwb p0 p1 p2 p3 p4 p5 p6 p7 p8
            go_wp2_with fail
            refine HTx.out.mono ?_
            rintro e W5 ⟨rfl, hb5⟩
            have HW5 : Hid (Calls Tryz.prog 26 #[.pointer (some ⟨W1.heap.size, 0, none⟩), .string ⟨t.toArray⟩] W5 fun e w' => e = .returned (.tuple #[.int .i64 (t.length : Int), .nilIface]) ∧ TXI W1 w' (Y ++ [45] ++ t) ∧ KT W5 w') := (HX4'.out.below hb5).write t (by simp; omega)
            clear hb5 HX4' HTx hcw4
            go_wp2_with fail
            refine HW5.out.mono ?_
            rintro e W6 ⟨rfl, HX6, -⟩
            have HX6' : Hid (TXI W1 W6 (Y1 ++ txL (R.take (j + 1)))) := by unfold Hid; rw [HST.out]; exact HX6
            clear HX6 HW5
            go_wp2_with fail
            go_roundw
            case rel => exact ⟨j + 1, by go_num, by omega, HX6'⟩
            case measure => simp [intOf]; omega
          · have j1 : ¬ (j : Int) < (R.length : Int) := by omega
            have e : R.take j = R := List.take_of_length_le (by omega)
            rw [e] at HY
            have HN : Hid (TXI W1 wr (jn ((Z.take (i + 1)).map txZ))) := by
              unfold Hid
              rw [HSTP.out]
              have h1 := HY.out
              rw [← HYT.out] at h1
              unfold txZ
              simpa using h1
            clear e HY
            go_wp2_with fail
            go_roundw
            case rel => exact ⟨i + 1, by go_num, by omega, HN⟩
            case measure => simp [intOf]; omega
    · have j1 : ¬ (i : Int) < (n : Int) := by omega
      have e : Z.take i = Z := List.take_of_length_le (by rw [HN.out]; omega)
      rw [e] at HX
      clear e
      have HS : Hid (Calls Tryz.prog 27 #[.pointer (some ⟨W1.heap.size, 0, none⟩)] wr fun e w' => e = .returned (.string ⟨(jn (Z.map txZ)).toArray⟩) ∧ Below W1.heap.size wr w') := bstr_any W1.heap.size W1.heap.size _ wr HX.out.1 HX.out.2.2.size
      go_wp2_with fail
      refine HS.out.mono ?_
      rintro e W7 ⟨rfl, hb7⟩
      go_wp2_with fail
      go_ret
      exact ⟨rfl, KW.out.2.trans ((HX.out.2.2.trans hb7).mono KW.out.2.size)⟩
end Go.Proofs.YtecgjlpmmailjaaGreatDoor
namespace Go.Proofs
open Go.Shelf
def Tryz.l143_ren : Go.Shelf.Ren := ⟨fun | 143 => 57 | 219 => 74 | 217 => 90 | 225 => 91 | 224 => 92 | 267 => 93 | 266 => 108 | 314 => 109 | n => n, fun | 9 => 9 | 3 => 3 | 4 => 4 | 5 => 5 | 46 => 125 | 146 => 159 | 51 => 140 | n => n, fun | 1 => 2 | n => n⟩
theorem Tryz.l143 : Go.Proofs.Lays.n143 Tryz.prog Tryz.l143_ren := {
  mixed := by kernel_rfl
  f143 := Tryz.func57.trans (congrArg some (by kernel_rfl))
  f217 := Tryz.func90.trans (congrArg some (by kernel_rfl))
  f219 := Tryz.func74.trans (congrArg some (by kernel_rfl))
  f224 := Tryz.func92.trans (congrArg some (by kernel_rfl))
  f225 := Tryz.func91.trans (congrArg some (by kernel_rfl))
  f266 := Tryz.func108.trans (congrArg some (by kernel_rfl))
  f267 := Tryz.func93.trans (congrArg some (by kernel_rfl))
  f314 := Tryz.func109.trans (congrArg some (by kernel_rfl))
  t3 := Tryz.underlying3
  a3 := Tryz.isAgg3
  z3 := Tryz.sizeOf3
  v3 := Tryz.zeroValue3
  t4 := Tryz.underlying4
  a4 := Tryz.isAgg4
  z4 := Tryz.sizeOf4
  v4 := Tryz.zeroValue4
  t5 := Tryz.underlying5
  a5 := Tryz.isAgg5
  z5 := Tryz.sizeOf5
  v5 := Tryz.zeroValue5
  t9 := Tryz.underlying9
  a9 := Tryz.isAgg9
  z9 := Tryz.sizeOf9
  v9 := Tryz.zeroValue9
  t46 := Tryz.underlying125
  a46 := Tryz.isAgg125
  z46 := Tryz.sizeOf125
  v46 := Tryz.zeroValue125
  t51 := Tryz.underlying140
  a51 := Tryz.isAgg140
  z51 := Tryz.sizeOf140
  v51 := Tryz.zeroValue140
  t146 := Tryz.underlying159
  a146 := Tryz.isAgg159
  z146 := Tryz.sizeOf159
  v146 := Tryz.zeroValue159
  g1 := by kernel_rfl }
end Go.Proofs
namespace Go.Proofs.YtecgjlpmmailjaaGreatDoor
open Go.RowKit Go.Shelf

attribute [local go_sem] Oper.semAt_some
theorem idx_lt (l : List UInt8) (c : UInt8) : Lib.indexByte l c < l.length := by
  rcases Int.lt_or_le (Lib.indexByte l c) 0 with hi | hi
  · omega
  · obtain ⟨o, ho⟩ : ∃ o : Nat, Lib.indexByte l c = o := ⟨(Lib.indexByte l c).toNat, by omega⟩
    have := (List.getElem?_eq_some_iff.1 (Lib.indexByte_some ho).1).1
    omega
theorem ext_take (l : List UInt8) (i : Nat) : (ByteArray.mk l.toArray).extract 0 i = ⟨(l.take i).toArray⟩ := ByteArray.ext (by simp)
theorem ext_drop (l : List UInt8) (i : Nat) : (ByteArray.mk l.toArray).extract i l.length = ⟨(l.drop i).toArray⟩ := ByteArray.ext (by simp; exact List.take_of_length_le (by simp))

theorem index_sep (s : UInt8) (r : List UInt8) (w : World) : Calls Tryz.prog 57 #[.string ⟨r.toArray⟩, .string ⟨#[s]⟩] w fun e w' => e = .returned (.int .i64 (Lib.indexByte r s)) ∧ w' = w := Any.strings_Index_one Tryz.l143 ⟨r.toArray⟩ s w
theorem cell_of {W : World} {b : Nat} {v : Value} {t : TypeId} {m : Nat × Nat} (h : W.heap[b]? = some (.cells #[v] t m)) : W.cell? ⟨b, 0, none⟩ = some v := by
  unfold World.cell?; rw [h]; simp
theorem froz_of {W : World} {b : Nat} {v : Value} {t : TypeId} (h : W.heap[b]? = some (.cells #[v] t (0, 0))) : W.frozen? ⟨b, 0, none⟩ = false := by
  simp [World.frozen?, h]
def sLen (b : Nat) (W : World) : Nat := match W.cell? ⟨b, 0, none⟩ with
  | some (.string s) => s.size
  | _ => 0
theorem sLen_of {W : World} {b : Nat} {r : List UInt8} (h : W.cell? ⟨b, 0, none⟩ = some (.string ⟨r.toArray⟩)) : sLen b W = r.length := by
  unfold sLen; rw [h]; simp [ByteArray.size]
theorem splitSeq_in (s : UInt8) (r : List UInt8) (w : World) : Calls Tryz.prog 28 #[.string ⟨r.toArray⟩, .string ⟨#[s]⟩] w fun e w' => e = .returned (.func (.func 55) #[] #[.pointer (some ⟨w.heap.size + 1, 0, none⟩), .pointer (some ⟨w.heap.size, 0, none⟩), .pointer (some ⟨w.heap.size + 1 + 1, 0, none⟩)]) ∧ w' = ((w.alloc (.cells #[.string ⟨r.toArray⟩] 9)).alloc (.cells #[.string ⟨#[s]⟩] 9)).alloc (.cells #[.int .i64 0] 3) := by
  go_enter Tryz.func28, Tryz.ntmps28
  go_wp2
  go_ret
  exact ⟨rfl, rfl⟩

set_option maxRecDepth 100000 in
set_option maxHeartbeats 1000000 in
/-- strings.splitSeq's closure at a dot: the pieces, one behind the other -/
theorem split_in (s : UInt8) (n : Nat) (hn : 1 ≤ n) (l b : Nat) (J : List UInt8 → World → Prop) (Jx Je : World → Prop)
    (hbox : ∀ r W, J r W → W.heap[b]? = some (.cells #[.string ⟨r.toArray⟩] 9 (0, 0)) ∧ W.heap[b + 1]? = some (.cells #[.string ⟨#[s]⟩] 9 (0, 0)) ∧ W.heap[b + 1 + 1]? = some (.cells #[.int .i64 0] 3 (0, 0)) ∧ r.length ≤ 40000)
    (hY1 : ∀ r W (i : Nat), J r W → Lib.indexByte r s = i → YieldAt Fence.wide (n - 1) Tryz.prog l #[.string ⟨(r.take i).toArray⟩] W fun e W' =>
      (e = .returned (.bool true) ∧ W'.heap[b]? = some (.cells #[.string ⟨r.toArray⟩] 9 (0, 0)) ∧ W'.heap[b + 1]? = some (.cells #[.string ⟨#[s]⟩] 9 (0, 0)) ∧ J (r.drop (i + 1)) (W'.setCell ⟨b, 0, none⟩ (.string ⟨(r.drop (i + 1)).toArray⟩))) ∨ (e = .returned (.bool false) ∧ Jx W'))
    (hY2 : ∀ r W, J r W → Lib.indexByte r s < 0 → YieldAt Fence.wide (n - 1) Tryz.prog l #[.string ⟨r.toArray⟩] W fun e W' => (∃ x, e = .returned (.bool x)) ∧ Je W')
    (r0 : List UInt8) (W0 : World) (h0 : J r0 W0) :
    CallsIn Fence.wide n Tryz.prog 55 #[.func (.yield l) #[] #[], .pointer (some ⟨b + 1, 0, none⟩), .pointer (some ⟨b, 0, none⟩), .pointer (some ⟨b + 1 + 1, 0, none⟩)] W0 fun e W' => (∃ v, e = .returned v) ∧ (Jx W' ∨ Je W') := by
  obtain ⟨z1, z2, z3, z4⟩ := hbox _ _ h0
  have c2 := cell_of z2
  refine callsIn_of_wp Tryz.func55 rfl trivial ?_ rfl
  simp only [Tryz.ntmps55, List.size_toArray, List.length_cons, List.length_nil, Nat.reduceAdd, Nat.reduceSub, Array.replicate_succ, Array.replicate_zero, List.push_toArray, List.append_toArray, List.nil_append, List.cons_append]
  gi_wp2
  gi_loopw [7] (fun _ wr => ∃ r, J r wr) (fun _ wr => sLen b wr)
  case atStart => exact ⟨r0, h0⟩
  case round =>
    clear z1 z2 z3 z4 c2
    obtain ⟨r, hJ⟩ := hrel
    obtain ⟨z1, z2, z3, z4⟩ := hbox _ _ hJ
    have c1 := cell_of z1
    have c2 := cell_of z2
    have c3 := cell_of z3
    have hI := index_sep s r wr
    obtain ⟨di, hdi⟩ : ∃ di, Lib.indexByte r s = di := ⟨_, rfl⟩
    have hd1 : -1 ≤ di := by rw [← hdi]; exact Lib.indexByte_ge _ _
    have hd2 : di < r.length := by rw [← hdi]; exact idx_lt _ _
    rw [hdi] at hI
    by_cases hneg : di < 0
    · obtain ⟨fn, tmps, assign, body, hy, hR⟩ := hY2 r wr hJ (by rw [hdi]; exact hneg)
      gi_wp2_with (refine ⟨trivial, ?_⟩; gi_at_call 57; refine (callsIn_wide.2 hI).mono ?_; rintro e w' ⟨rfl, rfl⟩)
      refine hR.mono ?_
      rintro e W3 ⟨⟨x, rfl⟩, hJe⟩
      gi_wp2
      go_end0
      exact ⟨⟨_, rfl⟩, .inr hJe⟩
    · obtain ⟨i, rfl⟩ : ∃ i : Nat, di = i := ⟨di.toNat, by omega⟩
      have hnn : ¬ (i : Int) < 0 := by omega
      obtain ⟨fn, tmps, assign, body, hy, hR⟩ := hY1 r wr i hJ hdi
      have hE1 := ext_take r i
      have hE2 := ext_drop r (i + 1)
      gi_wp2_with (refine ⟨trivial, ?_⟩; gi_at_call 57; refine (callsIn_wide.2 hI).mono ?_; rintro e w' ⟨rfl, rfl⟩)
      refine hR.mono ?_
      rintro e W3 (⟨rfl, y1, y2, hJ3⟩ | ⟨rfl, hJx3⟩)
      · have d1 := cell_of y1
        have d2 := cell_of y2
        have f1 := froz_of y1
        have hm : sLen b (W3.setCell ⟨b, 0, none⟩ (.string ⟨(r.drop (i + 1)).toArray⟩)) < sLen b w' := by
          rw [sLen_of c1, sLen_of (cell_of (hbox _ _ hJ3).1)]
          simp; omega
        have HM : Hid (sLen b (W3.setCell ⟨b, 0, none⟩ (.string ⟨(r.drop (i + 1)).toArray⟩)) < sLen b w') := hm
        clear hm
        gi_wp2
        go_roundw
        case rel => exact ⟨_, hJ3⟩
        case measure => exact HM.out
      · gi_wp2
        refine bodyPost_ret (results_none rfl _ _ _) rfl ?_
        exact ⟨⟨_, rfl⟩, .inl hJx3⟩
end Go.Proofs.YtecgjlpmmailjaaGreatDoor
