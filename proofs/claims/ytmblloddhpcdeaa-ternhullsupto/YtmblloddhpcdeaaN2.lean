import Derived.Test.YtmblloddhpcdeaaN1
import Derived.Test.YtmblloddhpcdeaaL1
import Derived.RangeFuncBox
import Derived.OneCell
namespace Go.Proofs.Ytmblloddhpcdeaa
open Go.RowKit

theorem info_str2 : (Try.prog.info? 9).map (fun i => (i.zero, i.size, i.bytes)) = some (some (.string ⟨#[]⟩), 1, 16) := by kernel_rfl
/-- rows of unlike elements lie in unlike blocks -/
theorem own_ne {W : World} {B1 B2 : Nat} {e1 e2 : TypeId} {s1 s2 n1 n2 : Nat} {a v : Value} {xs ys : List Value} (h1 : W.ownsRow B1 e1 s1 a n1 xs) (h2 : W.ownsRow B2 e2 s2 v n2 ys) (hne : e1 ≠ e2) : a.ownBlock = none ∨ a.ownBlock ≠ v.ownBlock := by
  rcases h1.2 with ⟨rfl, _⟩ | ⟨g, c, cur, rfl, _, hg, _⟩
  · exact .inl rfl
  · refine .inr (fun e => ?_)
    rcases h2.2 with ⟨rfl, _⟩ | ⟨g2, c2, cur2, rfl, _, hg2, _⟩
    · cases e
    · have : g = g2 := by injection e
      subst this
      rw [hg] at hg2
      injection hg2 with h
      injection h with _ h _
      exact hne h
theorem own_one {w : World} (B : Nat) (t : List UInt8) (hB : B ≤ w.heap.size) : (w.alloc (.cells #[.string ⟨t.toArray⟩] 9)).ownsRow B 9 1 (.slice (some ⟨w.heap.size, 0, none⟩) 1 1) 1 (stx [t]) :=
  ⟨by simp [stx], .inr ⟨w.heap.size, 1, _, rfl, hB, alloc_get _ _, by omega, by unfold maxLen; omega, by simp, by simp [stx]⟩⟩
theorem own_pre {W : World} {B g c n m : Nat} {xs ys : List Value} (h : W.ownsRow B 27 9 (.slice (some ⟨g, 0, none⟩) (n + m) c) (n + m) (xs ++ ys)) (hx : xs.length = n * 9) : W.ownsRow B 27 9 (.slice (some ⟨g, 0, none⟩) n c) n xs := by
  rcases h.2 with ⟨e, _⟩ | ⟨g2, c2, cur, e, h1, h2, h3, h4, h5, h6⟩
  · cases e
  · injection e with e1 e2 e3
    injection e1 with e1
    injection e1 with e1
    subst e1 e3
    refine ⟨hx, .inr ⟨_, _, cur, rfl, h1, h2, by omega, h4, h5, ?_⟩⟩
    have : cur.toList.take (n * 9) = ((cur.toList.take ((n + m) * 9))).take (n * 9) := by rw [List.take_take]; congr 1; omega
    rw [this, h6, ← hx, List.take_left']
    rfl
theorem ces_len (L : List (List UInt8)) : (ces L).length = L.length * 9 := by
  induction L with
  | nil => rfl
  | cons t l ih =>
    show (ce9 t ++ ces l).length = _
    rw [List.length_append, ih, List.length_cons]
    show 9 + _ = _
    omega
theorem cubL_snoc (SL : List ByteArray) (k : Nat) (hk : k < SL.length) (S : ByteArray) (hS : SL.getD k ByteArray.empty = S) (P : List UInt8) (hP : cubeT S.data.toList = P) : cubL (SL.take (k + 1)) = cubL (SL.take k) ++ [P] := by
  rw [List.take_add_one, getD_at SL k hk, hS, ← hP]
  simp [cubL]

theorem own_shape {W : World} {B n : Nat} {e : TypeId} {sz : Nat} {v : Value} {xs : List Value} (h : W.ownsRow B e sz v n xs) : ∃ q c, v = .slice q n c := by
  rcases h.2 with ⟨rfl, rfl⟩ | ⟨g, c, _, rfl, _⟩
  · exact ⟨_, _, rfl⟩
  · exact ⟨_, _, rfl⟩
theorem own_shape2 {W : World} {B n : Nat} {e : TypeId} {sz : Nat} {v : Value} {xs : List Value} (h : W.ownsRow B e sz v (n + 2) xs) : ∃ g c, v = .slice (some ⟨g, 0, none⟩) (n + 2) c := by
  rcases h.2 with ⟨_, h⟩ | ⟨g, c, _, rfl, _⟩
  · omega
  · exact ⟨_, _, rfl⟩
theorem own_cap {W : World} {B n m g c : Nat} {e : TypeId} {sz : Nat} {xs : List Value} (h : W.ownsRow B e sz (.slice (some ⟨g, 0, none⟩) n c) m xs) : m ≤ c := by
  rcases h.2 with ⟨e, _⟩ | ⟨g2, c2, cur, e, _, _, h3, _⟩
  · cases e
  · injection e with _ _ e3
    omega
theorem hul_both (O : Option (List UInt8)) (gO : ∀ H, O = some H → good H = true) : ∃ K en, hulV O = .tuple #[cubeV K, .int .i64 en] ∧ hulR O = .tuple #[.string ⟨K.toArray⟩, .int .i64 en] ∧ good K = true := by
  cases O with
  | none => exact ⟨[], 11, rfl, rfl, good_nil⟩
  | some H => exact ⟨H, 0, rfl, rfl, gO H rfl⟩
theorem is_ownA (a : List UInt8) (w : World) (ha : good a = true) :
    Calls Try.prog 9 #[cubeV a, .string ⟨a.toArray⟩] w fun e w' => e = .returned (.bool true) ∧ Below w.heap.size w w' := by
  have h := is_list a a w ha (good_len ha)
  rw [show (a == a) = true by simp] at h
  exact h
theorem alloc_kept9 {W w' : World} {o : Obj} (hb : Below (W.alloc o).drew.heap.size (W.alloc o).drew w') : w'.heap[W.heap.size]? = some o :=
  (hb.block _ (by show W.heap.size < (W.alloc o).heap.size; simp)).trans (alloc_get W o)
theorem cellkeepH {W w' : World} {b : Nat} {cs : Array Value} (hb : Below W.heap.size W w') (hlt : b < W.heap.size) (h : ∀ j, W.cell? ⟨b, j, none⟩ = cs[j]?) : ∀ j, w'.cell? ⟨b, j, none⟩ = cs[j]? :=
  fun j => (hb.cell (p := ⟨b, j, none⟩) hlt).trans (h j)
theorem allockeepH {W : World} {b : Nat} {cs : Array Value} (hlt : b < W.heap.size) (h : ∀ j, W.cell? ⟨b, j, none⟩ = cs[j]?) (o : Obj) : ∀ j, (W.alloc o).cell? ⟨b, j, none⟩ = cs[j]? :=
  fun j => (World.cell?_alloc_lt W o ⟨b, j, none⟩ hlt).trans (h j)
theorem undrew9 {a w : World} (h : Below a.drew.heap.size a.drew w) : Below a.heap.size a w := ⟨h.os, h.tape, h.output, h.size, h.block⟩
theorem ltA9 {W : World} {b : Nat} (h : b < W.heap.size) (o : Obj) : b < (W.alloc o).heap.size := by simp; omega
theorem putkeepH {W : World} {b c : Nat} {cs : Array Value} (v0 v1 v2 v3 v4 v5 v6 v7 v8 : Value) (hne : c ≠ b) (h : ∀ j, W.cell? ⟨c, j, none⟩ = cs[j]?) : ∀ j, (put9 W b v0 v1 v2 v3 v4 v5 v6 v7 v8).cell? ⟨c, j, none⟩ = cs[j]? := fun j => by
  refine (World.cell?_of_block (w := W) ?_).trans (h j)
  unfold put9
  show _ = W.heap[c]?
  rw [Below.heap_setCell _ _ _ _ (by exact hne), Below.heap_setCell _ _ _ _ (by exact hne), Below.heap_setCell _ _ _ _ (by exact hne), Below.heap_setCell _ _ _ _ (by exact hne), Below.heap_setCell _ _ _ _ (by exact hne), Below.heap_setCell _ _ _ _ (by exact hne), Below.heap_setCell _ _ _ _ (by exact hne), Below.heap_setCell _ _ _ _ (by exact hne), Below.heap_setCell _ _ _ _ (by exact hne)]
theorem ne9 {W w' : World} {b : Nat} (hx : b < W.heap.size) (hb : Below W.drew.heap.size W.drew w') : b ≠ w'.heap.size := by have h : W.heap.size ≤ w'.heap.size := hb.size; omega
theorem own_put9o {W : World} {base b : Nat} {e : TypeId} {size : Nat} {v : Value} {n : Nat} {xs : List Value} (v0 v1 v2 v3 v4 v5 v6 v7 v8 : Value) (h : W.ownsRow base e size v n xs) (hb : v.ownBlock ≠ some b) : (put9 W b v0 v1 v2 v3 v4 v5 v6 v7 v8).ownsRow base e size v n xs := by
  have s := fun (W : World) (j : Nat) (u : Value) (h : W.ownsRow base e size v n xs) => ownsRow_setCell_other h (a := ⟨b, j, none⟩) hb u
  exact s _ _ _ (s _ _ _ (s _ _ _ (s _ _ _ (s _ _ _ (s _ _ _ (s _ _ _ (s _ _ _ (s _ _ _ h))))))))
theorem belA9 {a W : World} {o : Obj} (h : Below a.heap.size a W) : Below a.heap.size a (W.alloc o) := h.alloc h.size o
theorem allocB9 {a W : World} {o : Obj} (h : Below (a.alloc o).heap.size (a.alloc o) W) : Below a.heap.size a W := bel1 h
theorem fin9 {w w8 W : World} {b B1 B2 n1 n2 : Nat} {vR vA : Value} {xR xA : List Value} {x0 x1 x2 x3 x4 x5 x6 x7 x8 : Value} (hb : Below w8.heap.size w8 W) (hle : w8.heap.size ≤ b) (hk : W.heap[b]? = some (.cells #[x0, x1, x2, x3, x4, x5, x6, x7, x8] 27 (0, 0)))
    (oR : w8.ownsRow B1 27 9 vR n1 xR) (oA : w8.ownsRow B2 9 1 vA n2 xA) (hB : Below w.heap.size w w8) (v0 v1 v2 v3 v4 v5 v6 v7 v8 : Value) :
    (put9 W b v0 v1 v2 v3 v4 v5 v6 v7 v8).heap[b]? = some (.cells #[v0, v1, v2, v3, v4, v5, v6, v7, v8] 27 (0, 0)) ∧ (put9 W b v0 v1 v2 v3 v4 v5 v6 v7 v8).ownsRow B1 27 9 vR n1 xR ∧ (put9 W b v0 v1 v2 v3 v4 v5 v6 v7 v8).ownsRow B2 9 1 vA n2 xA ∧ Below w.heap.size w (put9 W b v0 v1 v2 v3 v4 v5 v6 v7 v8) := by
  have l1 := oR.lt b
  have l2 := oA.lt b
  refine ⟨put9_get _ _ _ _ _ _ _ _ _ hk, own_put9o _ _ _ _ _ _ _ _ _ (owns_below oR hb) (fun e => ?_), own_put9o _ _ _ _ _ _ _ _ _ (owns_below oA hb) (fun e => ?_), put9_below _ _ _ _ _ _ _ _ _ (bel0 hB hb) (Nat.le_trans hB.size hle)⟩
  · have := (l1 e).2; omega
  · have := (l2 e).2; omega
theorem ces_two (L : List (List UInt8)) (a b : List UInt8) : ces L ++ (ce9 a ++ ce9 b) = ces (L ++ [a, b]) := by simp [ces]
theorem ce_at2 {W : World} {B g cap k n : Nat} {R : List (List UInt8)} {P : List UInt8} (hown : W.ownsRow B 27 9 (.slice (some ⟨g, 0, none⟩) n cap) n (ces R)) (hn : R.length = n) (hP : R[k]? = some P) :
    W.cell? ⟨g, k * 9, none⟩ = some (.int .i64 (P.length : Int)) ∧ W.cell? ⟨g, k * 9 + 1, none⟩ = some (.int .u64 (FW P 0 : Int)) ∧ W.cell? ⟨g, k * 9 + 2, none⟩ = some (.int .u64 (FW P 1 : Int)) ∧ W.cell? ⟨g, k * 9 + 3, none⟩ = some (.int .u64 (FW P 2 : Int)) ∧ W.cell? ⟨g, k * 9 + 4, none⟩ = some (.int .u64 (FW P 3 : Int)) ∧ W.cell? ⟨g, k * 9 + 5, none⟩ = some (.int .u64 (OW P 0 : Int)) ∧ W.cell? ⟨g, k * 9 + 6, none⟩ = some (.int .u64 (OW P 1 : Int)) ∧ W.cell? ⟨g, k * 9 + 7, none⟩ = some (.int .u64 (OW P 2 : Int)) ∧ W.cell? ⟨g, k * 9 + 8, none⟩ = some (.int .u64 (OW P 3 : Int)) := by
  subst hn
  obtain ⟨h, e⟩ := List.getElem?_eq_some_iff.1 hP
  exact ce_at hown h e
theorem stx_at2 {W : World} {B g cap k n : Nat} {A : List (List UInt8)} {P : List UInt8} (hown : W.ownsRow B 9 1 (.slice (some ⟨g, 0, none⟩) n cap) n (stx A)) (hP : A[k]? = some P) :
    W.cell? ⟨g, k, none⟩ = some (.string ⟨P.toArray⟩) := by
  have hl : A.length = n := by have := hown.1; simpa [stx] using this
  subst hl
  obtain ⟨h, e⟩ := List.getElem?_eq_some_iff.1 hP
  exact stx_at hown h e
/-- the worlds in which the two rows and the hull stand -/
def hlC (gR cR gA cA B b n : Nat) (R A : List (List UInt8)) (K : List UInt8) (w W : World) : Prop :=
  W.ownsRow B 27 9 (.slice (some ⟨gR, 0, none⟩) (n + 2) cR) (n + 2) (ces R) ∧ W.ownsRow B 9 1 (.slice (some ⟨gA, 0, none⟩) (n + 1) cA) (n + 1) (stx A) ∧ W.heap[b]? = some (.cells (#[.int .i64 (K.length : Int), .int .u64 (FW K 0 : Int), .int .u64 (FW K 1 : Int), .int .u64 (FW K 2 : Int), .int .u64 (FW K 3 : Int), .int .u64 (OW K 0 : Int), .int .u64 (OW K 1 : Int), .int .u64 (OW K 2 : Int), .int .u64 (OW K 3 : Int)]) 27 (0, 0)) ∧ Below w.heap.size w W
theorem hlC.keep {gR cR gA cA B b n : Nat} {R A : List (List UInt8)} {K : List UInt8} {w W w' : World} (h : hlC gR cR gA cA B b n R A K w W) (hb : Below W.heap.size W w') : hlC gR cR gA cA B b n R A K w w' :=
  ⟨owns_below h.1 hb, owns_below h.2.1 hb, keepblk hb h.2.2.1, bel0 h.2.2.2 hb⟩
theorem wrapH (m : Nat) (h : m ≤ 2000000) : IntKind.i64.wrap (m : Int) = (m : Int) := by
  rw [IntKind.wrap_i64]
  omega
theorem bel_app2h {w wr w1 : World} {o : Obj} {base : Nat} {e : TypeId} {size : Nat} {v : Value} {n : Nat} {xs : List Value} (hB : Below w.heap.size w wr) (hown : wr.ownsRow base e size v n xs) (hg : (wr.alloc o).grownBy w1 v.ownBlock) (hb : w.heap.size ≤ base) : Below w.heap.size w w1 :=
  (belA hB o).grown hg (belA hB o).size (fun k h => Nat.le_trans hb (hown.lt k h).1)

set_option maxRecDepth 100000 in
set_option maxHeartbeats 6000000 in
theorem hulls_try (t : ByteArray) (p : Option Addr) (len cap : Nat) (SL : List ByteArray) (T : List UInt8) (w : World) (ht : t.size ≤ maxLen) (hT0 : cubeT t.data.toList = T)
    (hlen : SL.length = len) (hlb : len ≤ 1048576) (hcell0 : ∀ i, i < len → ∃ ad, p = some ad ∧ w.cell? (ad.add i) = some (.string (SL.getD i ByteArray.empty))) (hsz0 : ∀ s ∈ SL, s.size ≤ maxLen) (gT : good T = true) (gL0 : ∀ x ∈ cubL SL, good x = true) (O : Option (List UInt8)) (hO0 : hulF T (cubL SL) = O) (gO0 : ∀ H, O = some H → good H = true) :
    Calls Try.prog 8 #[.string t, .slice p len cap] w fun e w' => e = .returned (.bool true) ∧ Below w.heap.size w w' := by
  have hT : Hid (cubeT t.data.toList = T) := hT0
  have hcell : Hid (∀ i, i < len → ∃ ad, p = some ad ∧ w.cell? (ad.add i) = some (.string (SL.getD i ByteArray.empty))) := hcell0
  have hsz : Hid (∀ s ∈ SL, s.size ≤ maxLen) := hsz0
  have gL : Hid (∀ x ∈ cubL SL, good x = true) := gL0
  have hO : Hid (hulF T (cubL SL) = O) := hO0
  have gO : Hid (∀ H, O = some H → good H = true) := gO0
  clear hT0 hcell0 hsz0 gL0 hO0 gO0
  unfold maxLen at ht
  obtain ⟨iC, hiC, hzC0, hzC1, hzC2⟩ := info_parts infoC
  obtain ⟨iS, hiS, hzS0, hzS1, hzS2⟩ := info_parts info_str2
  go_enter Try.func8, Try.ntmps8
  go_wp2_with fail
  refine (made_D t T _ ht hT.out).mono ?_
  rintro e w1 ⟨rfl, hb1⟩
  unfold cubeV cv
  have kX : (w1.alloc (.cells #[.int .i64 (T.length : Int), .int .u64 (FW T 0 : Int), .int .u64 (FW T 1 : Int), .int .u64 (FW T 2 : Int), .int .u64 (FW T 3 : Int), .int .u64 (OW T 0 : Int), .int .u64 (OW T 1 : Int), .int .u64 (OW T 2 : Int), .int .u64 (OW T 3 : Int)] 27)).heap[w1.heap.size]? = some (.cells (#[.int .i64 (T.length : Int), .int .u64 (FW T 0 : Int), .int .u64 (FW T 1 : Int), .int .u64 (FW T 2 : Int), .int .u64 (FW T 3 : Int), .int .u64 (OW T 0 : Int), .int .u64 (OW T 1 : Int), .int .u64 (OW T 2 : Int), .int .u64 (OW T 3 : Int)]) 27 (0, 0)) := alloc_get _ _
  have BB := belA hb1 (.cells #[.int .i64 (T.length : Int), .int .u64 (FW T 0 : Int), .int .u64 (FW T 1 : Int), .int .u64 (FW T 2 : Int), .int .u64 (FW T 3 : Int), .int .u64 (OW T 0 : Int), .int .u64 (OW T 1 : Int), .int .u64 (OW T 2 : Int), .int .u64 (OW T 3 : Int)] 27)
  have hzw : w.heap.size ≤ w1.heap.size := hb1.size
  clear hb1
  go_wp2_with fail
  refine (refC_D t T _ ht hT.out).mono ?_
  rintro e w' ⟨rfl, rfl⟩
  have oA := own_one (w := w1.alloc (.cells #[.int .i64 (T.length : Int), .int .u64 (FW T 0 : Int), .int .u64 (FW T 1 : Int), .int .u64 (FW T 2 : Int), .int .u64 (FW T 3 : Int), .int .u64 (OW T 0 : Int), .int .u64 (OW T 1 : Int), .int .u64 (OW T 2 : Int), .int .u64 (OW T 3 : Int)] 27)) (w1.heap.size + 1) T (by simp)
  replace kX := allocblk kX (.cells #[.string ⟨T.toArray⟩] 9)
  replace BB := belA BB (.cells #[.string ⟨T.toArray⟩] 9)
  rw [World.size_alloc] at oA
  go_wp2
  go_loopw [7, 8, 9] (fun a v i wr => ∃ k : Nat, k ≤ len ∧ i = .int .i64 k ∧ wr.ownsRow (w1.heap.size + 1) 9 1 a (k + 1) (stx (T :: cubL (SL.take k))) ∧ wr.ownsRow (w1.heap.size + 1) 27 9 v k (ces (cubL (SL.take k))) ∧ wr.heap[w1.heap.size]? = some (.cells (#[.int .i64 (T.length : Int), .int .u64 (FW T 0 : Int), .int .u64 (FW T 1 : Int), .int .u64 (FW T 2 : Int), .int .u64 (FW T 3 : Int), .int .u64 (OW T 0 : Int), .int .u64 (OW T 1 : Int), .int .u64 (OW T 2 : Int), .int .u64 (OW T 3 : Int)]) 27 (0, 0)) ∧ Below w.heap.size w wr) (fun _ _ i _ => len - (intOf i).toNat)
  case atStart => exact ⟨0, Nat.zero_le _, rfl, oA, World.ownsRow_nil _ _ _ _, kX, BB⟩
  case round =>
    clear kX BB oA
    obtain ⟨k, hk, rfl, oA, hown, kX, hB⟩ := hrel
    by_cases hlt : k < len
    · have i0 : (0 : Int) ≤ (k : Int) := by omega
      have i1 : (k : Int) < (len : Int) := by omega
      obtain ⟨S, hS⟩ : ∃ S, SL.getD k ByteArray.empty = S := ⟨_, rfl⟩
      obtain ⟨ad, rfl, hc⟩ := hcell.out k hlt
      rw [hS] at hc
      have hsS : S.size ≤ 2 ^ 63 - 1 := hsz.out S (by rw [← hS]; exact getD_mem SL k (by omega))
      have hbk := World.block_lt_of_cell? w _ hc
      have cS : wr.cell? (ad.add k) = some (.string S) := (hB.cell hbk).trans hc
      have Hc : Hid (w.cell? (ad.add k) = some (.string S)) := hc
      clear hc
      obtain ⟨P, hP⟩ : ∃ P, cubeT S.data.toList = P := ⟨_, rfl⟩
      have HP : Hid (cubeT S.data.toList = P) := hP
      have hcl : Hid (cubL (SL.take (k + 1)) = cubL (SL.take k) ++ [P]) := cubL_snoc SL k (by omega) S hS P hP
      obtain ⟨M, hM⟩ : ∃ M, cubL (SL.take k) = M := ⟨_, rfl⟩
      rw [hM] at hcl oA hown
      clear hP hM hS
      go_wp2_with fail
      refine (made_D S P _ hsS HP.out).mono ?_
      rintro e w3 ⟨rfl, hb3⟩
      replace kX := keepblk hb3 kX
      have hown3 := owns_below hown hb3
      have oA3 := owns_below oA hb3
      have B3 := bel0 hB hb3
      unfold cubeV cv
      clear hown hB hb3 oA cS
      go_wp2_with (first | (at_builtin; refine wpList_append_own _ rfl _ _ 44 rfl (w1.heap.size + 1) 27 iC _ 9 72 Try.underlying44 hiC hzC0 hzC1 hzC2 rfl (by decide) _ _ _ rfl ((hown3.alloc _).alloc _) ⟨w3.heap.size + 1, 0, none⟩ 1 1 (ce9 P) rfl rfl (World.news_of_block (cs := #[.int .i64 (P.length : Int), .int .u64 (FW P 0 : Int), .int .u64 (FW P 1 : Int), .int .u64 (FW P 2 : Int), .int .u64 (FW P 3 : Int), .int .u64 (OW P 0 : Int), .int .u64 (OW P 1 : Int), .int .u64 (OW P 2 : Int), .int .u64 (OW P 3 : Int)]) (t := 27) (fr := (0, 0)) (alloc2_new _ _ _)) (by simp [ce9, Value.oneCell']) (by unfold maxLen; omega) (by omega) (by have := lt_of_get kX; simp; omega) ?_; intro v' w4 hown4 hgrow _; have B4 := bel_app3 B3 hown3 hgrow (by omega); have cS4 : w4.cell? (ad.add k) = some (.string S) := (B4.cell hbk).trans Hc.out; have kX4 := growblk3 hgrow (allocblk (allocblk kX _) _) (fun e => by have := (hown3.lt _ e.symm).1; omega); have oA4 := ((oA3.alloc _).alloc _).kept hgrow (own_ne oA3 hown3 (by decide)); clear kX oA3 hown3 hgrow B3) | (go_at_call 20; refine (refC_D S P _ hsS HP.out).mono ?_; rintro e w' ⟨rfl, rfl⟩) | (at_builtin; refine wpList_append_own _ rfl _ _ 43 rfl (w1.heap.size + 1) 9 iS (.string ⟨#[]⟩) 1 16 Try.underlying43 hiS hzS0 hzS1 hzS2 rfl (by decide) _ _ _ rfl (oA4.alloc _) ⟨_, 0, none⟩ 1 1 [.string ⟨P.toArray⟩] rfl rfl (cell_one_new _ _ _) (by simp [Value.oneCell']) (by unfold maxLen; omega) (by omega) (by have := lt_of_get kX4; simp; omega) ?_; intro v2 w5 oA5 hgrow5 _))
      have B5 := bel_app2h B4 oA4 hgrow5 (by omega)
      have kX5 := growblk3 hgrow5 (allocblk kX4 _) (fun e => by have := (oA4.lt _ e.symm).1; omega)
      have hown5 := (hown4.alloc _).kept hgrow5 (own_ne hown4 oA4 (by decide))
      go_roundw
      case rel => exact ⟨k + 1, by omega, by go_num, by rw [hcl.out, ← List.cons_append, stx_snoc]; exact oA5, by rw [hcl.out, ces_snoc]; exact hown5, kX5, B5⟩
      case measure => simp [intOf]; omega
    · have i1 : ¬ (k : Int) < (len : Int) := by omega
      have hkl : SL.take k = SL := List.take_of_length_le (by omega)
      rw [hkl] at hown oA
      obtain ⟨L, hL⟩ : ∃ L, cubL SL = L := ⟨_, rfl⟩
      have hLl : L.length = len := by rw [← hL]; simp [cubL, hlen]
      rw [hL] at hown oA
      obtain rfl : k = L.length := by omega
      have HO : Hid (hulF T L = O) := by unfold Hid; rw [← hL]; exact hO.out
      have HG : Hid (∀ x ∈ L, good x = true) := by unfold Hid; rw [← hL]; exact gL.out
      clear hkl hL hO gL hcell hsz hlen
      subst hLl
      obtain ⟨pl, cl, rfl⟩ := own_shape hown
      obtain ⟨gA, cA, rfl⟩ := ownsRow_succ oA
      obtain ⟨A7, h7⟩ : ∃ A, allT 7 = A := ⟨_, rfl⟩
      obtain ⟨A9, h9⟩ : ∃ A, allT 9 = A := ⟨_, rfl⟩
      have g7 : good A7 = true := by rw [← h7]; exact good_allT 7
      have g9 : good A9 = true := by rw [← h9]; exact good_allT 9
      have H7 : Hid (∀ W, Calls Try.prog 10 #[.int .i64 7] W fun e w' => e = .returned (cubeV A7) ∧ Below W.heap.size W w') := fun W => by rw [← h7]; exact allV 7 W
      have H9 : Hid (∀ W, Calls Try.prog 10 #[.int .i64 9] W fun e w' => e = .returned (cubeV A9) ∧ Below W.heap.size W w') := fun W => by rw [← h9]; exact allV 9 W
      clear h7 h9
      go_wp2_with fail
      refine (H7.out _).mono ?_
      rintro e w6 ⟨rfl, hb6⟩
      replace kX := keepblk hb6 kX
      replace hown := owns_below hown hb6
      replace oA := owns_below oA hb6
      replace hB := bel0 hB hb6
      clear hb6
      go_wp2_with fail
      refine (H9.out _).mono ?_
      rintro e w7 ⟨rfl, hb7⟩
      replace kX := keepblk hb7 kX
      replace hown := owns_below hown hb7
      replace oA := owns_below oA hb7
      replace hB := bel0 hB hb7
      clear hb7
      unfold cubeV cv
      go_wp2_with (at_builtin; refine wpList_append_own _ rfl _ _ 44 rfl (w1.heap.size + 1) 27 iC _ 9 72 Try.underlying44 hiC hzC0 hzC1 hzC2 rfl (by decide) _ _ _ rfl (hown.alloc _) ⟨w7.heap.size, 0, none⟩ 2 2 (ce9 A7 ++ ce9 A9) rfl rfl (World.news_of_block (cs := #[.int .i64 (A7.length : Int), .int .u64 (FW A7 0 : Int), .int .u64 (FW A7 1 : Int), .int .u64 (FW A7 2 : Int), .int .u64 (FW A7 3 : Int), .int .u64 (OW A7 0 : Int), .int .u64 (OW A7 1 : Int), .int .u64 (OW A7 2 : Int), .int .u64 (OW A7 3 : Int), .int .i64 (A9.length : Int), .int .u64 (FW A9 0 : Int), .int .u64 (FW A9 1 : Int), .int .u64 (FW A9 2 : Int), .int .u64 (FW A9 3 : Int), .int .u64 (OW A9 0 : Int), .int .u64 (OW A9 1 : Int), .int .u64 (OW A9 2 : Int), .int .u64 (OW A9 3 : Int)]) (t := 27) (fr := (0, 0)) (alloc_get _ _)) (by simp [ce9, Value.oneCell']) (by unfold maxLen; omega) (by omega) (by have := lt_of_get kX; simp; omega) ?_; intro v' w8 oR hgrow _; obtain ⟨gR, cR, rfl⟩ := own_shape2 oR)
      have hB8 := bel_app2h hB hown hgrow (by omega)
      replace kX := growblk3 hgrow (allocblk kX _) (fun e => by have := (hown.lt _ e.symm).1; omega)
      replace oA := (oA.alloc _).kept hgrow (own_ne oA hown (by decide))
      clear hown hgrow hB
      have oP := own_pre oR (ces_len L)
      have hcR := own_cap oR
      have n0 : (0 : Int) ≤ (L.length : Int) := by omega
      have n1 : (L.length : Int) ≤ (cR : Int) := by omega
      have cX := (cells_block kX).1
      obtain ⟨K, en, hVV, hRR, gK⟩ := hul_both O gO.out
      have HC : Hid (∀ W, Below w8.heap.size w8 W → Calls Try.prog 21 #[.agg #[.int .i64 (T.length : Int), .int .u64 (FW T 0 : Int), .int .u64 (FW T 1 : Int), .int .u64 (FW T 2 : Int), .int .u64 (FW T 3 : Int), .int .u64 (OW T 0 : Int), .int .u64 (OW T 1 : Int), .int .u64 (OW T 2 : Int), .int .u64 (OW T 3 : Int)], .slice (some ⟨gR, 0, none⟩) L.length cR] W fun e w' => e = .returned (.tuple #[.agg #[.int .i64 (K.length : Int), .int .u64 (FW K 0 : Int), .int .u64 (FW K 1 : Int), .int .u64 (FW K 2 : Int), .int .u64 (FW K 3 : Int), .int .u64 (OW K 0 : Int), .int .u64 (OW K 1 : Int), .int .u64 (OW K 2 : Int), .int .u64 (OW K 3 : Int)], .int .i64 en]) ∧ Below W.heap.size W w') := by
        intro W hW
        have h := hull_any T L _ _ W gT HG.out (by omega) (owns_below oP hW)
        rw [HO.out, hVV] at h
        exact h
      have HR : Hid (∀ W, W.ownsRow (w1.heap.size + 1) 9 1 (.slice (some ⟨gA, 0, none⟩) (L.length + 1) cA) (L.length + 1) (stx (T :: L)) → Calls Try.prog 23 #[.slice (some ⟨gA, 0, none⟩) (L.length + 1) cA] W fun e w' => e = .returned (.tuple #[.string ⟨K.toArray⟩, .int .i64 en]) ∧ Below W.heap.size W w') := by
        intro W hW
        rw [← hRR]
        exact rHull_D T L O gA cA _ W gT (by omega) HO.out hW
      clear hVV hRR gO HO
      go_cut [14, 15] (fun h e wc => ∃ b, h = .pointer (some ⟨b, 0, none⟩) ∧ e = .int .i64 en ∧ wc.heap[b]? = some (.cells (#[.int .i64 (K.length : Int), .int .u64 (FW K 0 : Int), .int .u64 (FW K 1 : Int), .int .u64 (FW K 2 : Int), .int .u64 (FW K 3 : Int), .int .u64 (OW K 0 : Int), .int .u64 (OW K 1 : Int), .int .u64 (OW K 2 : Int), .int .u64 (OW K 3 : Int)]) 27 (0, 0)) ∧ wc.ownsRow (w1.heap.size + 1) 27 9 (.slice (some ⟨gR, 0, none⟩) (L.length + 2) cR) (L.length + 2) (ces L ++ (ce9 A7 ++ ce9 A9)) ∧ wc.ownsRow (w1.heap.size + 1) 9 1 (.slice (some ⟨gA, 0, none⟩) (L.length + 1) cA) (L.length + 1) (stx (T :: L)) ∧ Below w.heap.size w wc)
      case first =>
        have hx := lt_of_get kX
        have PR : Hid (w8.ownsRow (w1.heap.size + 1) 27 9 (.slice (some ⟨gR, 0, none⟩) (L.length + 2) cR) (L.length + 2) (ces L ++ (ce9 A7 ++ ce9 A9))) := oR
        have PA : Hid (w8.ownsRow (w1.heap.size + 1) 9 1 (.slice (some ⟨gA, 0, none⟩) (L.length + 1) cA) (L.length + 1) (stx (T :: L))) := oA
        have PB : Hid (Below w.heap.size w w8) := hB8
        clear oR oA hB8 H7 H9 HR g7 g9 hiC hzC0 hzC1 hzC2 hiS hzS0 hzS1 hzS2 kX HG oP gK hcR ht hT hzw i1 hk hlb gT
        go_region_with (go_at_call 21; refine (HC.out _ (by first | with_reducible exact (Below.refl _ _).drew | with_reducible exact ((Below.refl _ _).alloc (Nat.le_refl _) _).drew)).mono ?_; rintro e w9 ⟨rfl, hb9⟩; first | (have hk9 := alloc_kept9 hb9; have hc9 := (cells_block hk9).1; have hf9 := (cells_block hk9).2) | skip)
        · go_wp2
          go_meet
          exact ⟨_, rfl, rfl, alloc_get _ _, (owns_below PR.out (undrew9 hb9)).alloc _, (owns_below PA.out (undrew9 hb9)).alloc _, belA (bel0 PB.out (undrew9 hb9)) _⟩
        · go_wp2
          go_meet
          exact ⟨_, rfl, rfl, fin9 (allocB9 (undrew9 hb9)) (Nat.le_refl _) hk9 PR.out PA.out PB.out _ _ _ _ _ _ _ _ _⟩
        · go_wp2
          go_meet
          exact ⟨_, rfl, rfl, fin9 (allocB9 (undrew9 hb9)) (Nat.le_refl _) hk9 PR.out PA.out PB.out _ _ _ _ _ _ _ _ _⟩
      case rest =>
        obtain ⟨b, rfl, rfl, kH, oR, oA, hB⟩ := hcut
        rw [ces_two] at oR
        obtain ⟨R, hR⟩ : ∃ R, L ++ [A7, A9] = R := ⟨_, rfl⟩
        rw [hR] at oR
        have hRl : Hid (R.length = L.length + 2) := by unfold Hid; rw [← hR]; simp
        have r7 : Hid (R[L.length]? = some A7) := by unfold Hid; rw [← hR]; simp
        obtain ⟨m, hm⟩ : ∃ m : Nat, m = L.length + 1 := ⟨_, rfl⟩
        have r9 : Hid (R[m]? = some A9) := by unfold Hid; rw [← hR, hm]; simp
        have rL : Hid (∀ i (h : i < L.length), R[i]? = some L[i]) := by
          intro i h
          rw [← hR, List.getElem?_append_left h, List.getElem?_eq_getElem h]
        have m0 : (L.length : Int) < (L.length : Int) + 2 := by omega
        have m1 : (L.length : Int) + 1 = (m : Int) := by omega
        have m2 : (0 : Int) ≤ (m : Int) := by omega
        have m3 : (m : Int) < (L.length : Int) + 2 := by omega
        have m4 : IntKind.i64.wrap (m : Int) = (m : Int) := wrapH m (by omega)
        have e7 : ∀ W, (Op.equalIn 10000 27 (.agg #[.int .i64 (A7.length : Int), .int .u64 (FW A7 0 : Int), .int .u64 (FW A7 1 : Int), .int .u64 (FW A7 2 : Int), .int .u64 (FW A7 3 : Int), .int .u64 (OW A7 0 : Int), .int .u64 (OW A7 1 : Int), .int .u64 (OW A7 2 : Int), .int .u64 (OW A7 3 : Int)]) (.agg #[.int .i64 (A7.length : Int), .int .u64 (FW A7 0 : Int), .int .u64 (FW A7 1 : Int), .int .u64 (FW A7 2 : Int), .int .u64 (FW A7 3 : Int), .int .u64 (OW A7 0 : Int), .int .u64 (OW A7 1 : Int), .int .u64 (OW A7 2 : Int), .int .u64 (OW A7 3 : Int)])).run Try.prog W = .ok true W := fun W => by rw [eql_cube A7 A7 g7 g7 W]; simp
        have e9 : ∀ W, (Op.equalIn 10000 27 (.agg #[.int .i64 (A9.length : Int), .int .u64 (FW A9 0 : Int), .int .u64 (FW A9 1 : Int), .int .u64 (FW A9 2 : Int), .int .u64 (FW A9 3 : Int), .int .u64 (OW A9 0 : Int), .int .u64 (OW A9 1 : Int), .int .u64 (OW A9 2 : Int), .int .u64 (OW A9 3 : Int)]) (.agg #[.int .i64 (A9.length : Int), .int .u64 (FW A9 0 : Int), .int .u64 (FW A9 1 : Int), .int .u64 (FW A9 2 : Int), .int .u64 (FW A9 3 : Int), .int .u64 (OW A9 0 : Int), .int .u64 (OW A9 1 : Int), .int .u64 (OW A9 2 : Int), .int .u64 (OW A9 3 : Int)])).run Try.prog W = .ok true W := fun W => by rw [eql_cube A9 A9 g9 g9 W]; simp
        have hLb : L.length ≤ 1048576 := by omega
        have Hm : Hid (m = L.length + 1) := hm
        clear hm hR
        go_wp2_with fail
        refine quiet_lit4 (C := hlC gR cR gA cA (w1.heap.size + 1) b L.length R (T :: L) K w) (by kernel_rfl) (by kernel_rfl) ⟨oR.drew, oA.drew, kH, hB.drew⟩ ?_
        clear oR oA kH hB
        go_big_quiet_want
        go_big_quiet_op
        go_big_quiet_on
        go_big_quiet_want
        go_big_quiet_op
        go_big_quiet_on
        go_big_quiet_want
        refine ⟨.pointer (some ⟨gR, L.length * 9, none⟩), fun W hW => ?_, ?_⟩
        · go_simp
        go_big_quiet_on
        simp only [Act.put, List.setIfInBounds_toArray, List.set_cons_zero, List.set_cons_succ]
        go_big_quiet_want
        refine ⟨.agg #[.int .i64 (A7.length : Int), .int .u64 (FW A7 0 : Int), .int .u64 (FW A7 1 : Int), .int .u64 (FW A7 2 : Int), .int .u64 (FW A7 3 : Int), .int .u64 (OW A7 0 : Int), .int .u64 (OW A7 1 : Int), .int .u64 (OW A7 2 : Int), .int .u64 (OW A7 3 : Int)], fun W hW => ?_, ?_⟩
        · obtain ⟨x0, x1, x2, x3, x4, x5, x6, x7, x8⟩ := ce_at2 hW.1 hRl.out r7.out
          go_simp
        go_big_quiet_on
        simp only [Act.put, List.setIfInBounds_toArray, List.set_cons_zero, List.set_cons_succ]
        go_big_quiet_want
        refine ⟨.agg #[.int .i64 (A7.length : Int), .int .u64 (FW A7 0 : Int), .int .u64 (FW A7 1 : Int), .int .u64 (FW A7 2 : Int), .int .u64 (FW A7 3 : Int), .int .u64 (OW A7 0 : Int), .int .u64 (OW A7 1 : Int), .int .u64 (OW A7 2 : Int), .int .u64 (OW A7 3 : Int)], fun W hW => ?_, ?_⟩
        · go_simp
          refine (H7.out _).mono ?_
          rintro e w' ⟨rfl, hb⟩
          exact ⟨rfl, hW.keep hb⟩
        go_big_quiet_on
        simp only [Act.put, List.setIfInBounds_toArray, List.set_cons_zero, List.set_cons_succ]
        go_big_quiet_want
        refine ⟨.bool false, fun W hW => ?_, ?_⟩
        · go_simp
        go_big_quiet_on
        simp only [Act.put, List.setIfInBounds_toArray, List.set_cons_zero, List.set_cons_succ]
        go_big_quiet_want
        go_big_quiet_op
        go_big_quiet_on
        go_big_quiet_want
        go_big_quiet_op
        go_big_quiet_on
        go_big_quiet_want
        go_big_quiet_op
        go_big_quiet_on
        go_big_quiet_want
        refine ⟨.int .i64 (m : Int), fun W hW => ?_, ?_⟩
        · go_simp
        go_big_quiet_on
        simp only [Act.put, List.setIfInBounds_toArray, List.set_cons_zero, List.set_cons_succ]
        go_big_quiet_want
        refine ⟨.pointer (some ⟨gR, m * 9, none⟩), fun W hW => ?_, ?_⟩
        · go_simp
        go_big_quiet_on
        simp only [Act.put, List.setIfInBounds_toArray, List.set_cons_zero, List.set_cons_succ]
        go_big_quiet_want
        refine ⟨.agg #[.int .i64 (A9.length : Int), .int .u64 (FW A9 0 : Int), .int .u64 (FW A9 1 : Int), .int .u64 (FW A9 2 : Int), .int .u64 (FW A9 3 : Int), .int .u64 (OW A9 0 : Int), .int .u64 (OW A9 1 : Int), .int .u64 (OW A9 2 : Int), .int .u64 (OW A9 3 : Int)], fun W hW => ?_, ?_⟩
        · obtain ⟨x0, x1, x2, x3, x4, x5, x6, x7, x8⟩ := ce_at2 hW.1 hRl.out r9.out
          go_simp
        go_big_quiet_on
        simp only [Act.put, List.setIfInBounds_toArray, List.set_cons_zero, List.set_cons_succ]
        go_big_quiet_want
        refine ⟨.agg #[.int .i64 (A9.length : Int), .int .u64 (FW A9 0 : Int), .int .u64 (FW A9 1 : Int), .int .u64 (FW A9 2 : Int), .int .u64 (FW A9 3 : Int), .int .u64 (OW A9 0 : Int), .int .u64 (OW A9 1 : Int), .int .u64 (OW A9 2 : Int), .int .u64 (OW A9 3 : Int)], fun W hW => ?_, ?_⟩
        · go_simp
          refine (H9.out _).mono ?_
          rintro e w' ⟨rfl, hb⟩
          exact ⟨rfl, hW.keep hb⟩
        go_big_quiet_on
        simp only [Act.put, List.setIfInBounds_toArray, List.set_cons_zero, List.set_cons_succ]
        go_big_quiet_want
        refine ⟨.bool false, fun W hW => ?_, ?_⟩
        · go_simp
        go_big_quiet_on
        simp only [Act.put, List.setIfInBounds_toArray, List.set_cons_zero, List.set_cons_succ]
        go_big_quiet_want
        refine ⟨.bool false, fun W hW => ?_, ?_⟩
        · go_simp
        go_big_quiet_on
        simp only [Act.put, List.setIfInBounds_toArray, List.set_cons_zero, List.set_cons_succ]
        refine wpQuiet_nil ?_
        intro W1 hW1
        obtain ⟨oR, oA, kH, hB⟩ := hW1
        go_wp2
        go_loopw [16] (fun i wr => ∃ k : Nat, k ≤ L.length ∧ i = .int .i64 k ∧ hlC gR cR gA cA (w1.heap.size + 1) b L.length R (T :: L) K w wr) (fun i _ => L.length - (intOf i).toNat)
        case atStart => exact ⟨0, Nat.zero_le _, rfl, oR, oA, kH, hB⟩
        case round =>
          clear oR oA kH hB
          obtain ⟨k, hk', rfl, hC⟩ := hrel
          by_cases hlt2 : k < L.length
          · have k0 : (0 : Int) ≤ (k : Int) := by omega
            have k1 : (k : Int) < (L.length : Int) := by omega
            have k2 : (k : Int) < (L.length : Int) + 2 := by omega
            obtain ⟨j, hj⟩ : ∃ j : Nat, j = k + 1 := ⟨_, rfl⟩
            have k3 : (k : Int) + 1 = (j : Int) := by omega
            have k4 : IntKind.i64.wrap (j : Int) = (j : Int) := wrapH j (by omega)
            have k5 : (0 : Int) ≤ (j : Int) := by omega
            have k7 : j < m := by rw [Hm.out]; omega
            obtain ⟨P, hP⟩ : ∃ P, L[k] = P := ⟨_, rfl⟩
            have gP : good P = true := HG.out P (by rw [← hP]; exact List.getElem_mem hlt2)
            have rP : Hid (R[k]? = some P) := by unfold Hid; rw [rL.out k hlt2, hP]
            have sP : Hid ((T :: L)[j]? = some P) := by unfold Hid; rw [hj, List.getElem?_cons_succ, List.getElem?_eq_getElem hlt2, hP]
            have hj' : Hid (j = k + 1) := hj
            clear hP hj
            go_wp2
            refine quiet_lit4 (C := hlC gR cR gA cA (w1.heap.size + 1) b L.length R (T :: L) K w) (by kernel_rfl) (by kernel_rfl) ⟨hC.1.drew, hC.2.1.drew, hC.2.2.1, hC.2.2.2.drew⟩ ?_
            clear hC
            go_big_quiet_want
            go_big_quiet_op
            go_big_quiet_on
            go_big_quiet_want
            go_big_quiet_op
            go_big_quiet_on
            go_big_quiet_want
            refine ⟨.pointer (some ⟨gR, k * 9, none⟩), fun W hW => ?_, ?_⟩
            · go_simp
            go_big_quiet_on
            simp only [Act.put, List.setIfInBounds_toArray, List.set_cons_zero, List.set_cons_succ]
            go_big_quiet_want
            refine ⟨.agg #[.int .i64 (P.length : Int), .int .u64 (FW P 0 : Int), .int .u64 (FW P 1 : Int), .int .u64 (FW P 2 : Int), .int .u64 (FW P 3 : Int), .int .u64 (OW P 0 : Int), .int .u64 (OW P 1 : Int), .int .u64 (OW P 2 : Int), .int .u64 (OW P 3 : Int)], fun W hW => ?_, ?_⟩
            · obtain ⟨x0, x1, x2, x3, x4, x5, x6, x7, x8⟩ := ce_at2 hW.1 hRl.out rP.out
              go_simp
            go_big_quiet_on
            simp only [Act.put, List.setIfInBounds_toArray, List.set_cons_zero, List.set_cons_succ]
            go_big_quiet_want
            go_big_quiet_op
            go_big_quiet_on
            go_big_quiet_want
            go_big_quiet_op
            go_big_quiet_on
            go_big_quiet_want
            refine ⟨.int .i64 (j : Int), fun W hW => ?_, ?_⟩
            · go_simp
            go_big_quiet_on
            simp only [Act.put, List.setIfInBounds_toArray, List.set_cons_zero, List.set_cons_succ]
            go_big_quiet_want
            refine ⟨.pointer (some ⟨gA, j, none⟩), fun W hW => ?_, ?_⟩
            · go_simp
            go_big_quiet_on
            simp only [Act.put, List.setIfInBounds_toArray, List.set_cons_zero, List.set_cons_succ]
            go_big_quiet_want
            refine ⟨.string ⟨P.toArray⟩, fun W hW => ?_, ?_⟩
            · have x0 := stx_at2 hW.2.1 sP.out
              go_simp
            go_big_quiet_on
            simp only [Act.put, List.setIfInBounds_toArray, List.set_cons_zero, List.set_cons_succ]
            go_big_quiet_want
            refine ⟨.bool true, fun W hW => ?_, ?_⟩
            · go_simp
              refine (is_ownA P _ gP).mono ?_
              rintro e w' ⟨rfl, hb⟩
              exact ⟨rfl, hW.keep hb⟩
            go_big_quiet_on
            simp only [Act.put, List.setIfInBounds_toArray, List.set_cons_zero, List.set_cons_succ]
            go_big_quiet_want
            go_big_quiet_op
            go_big_quiet_on
            refine wpQuiet_nil ?_
            intro W2 hW2
            go_wp2
            go_roundw
            case rel => exact ⟨k + 1, by omega, by go_num, hW2⟩
            case measure => simp [intOf]; omega
          · have k1 : ¬ (k : Int) < (L.length : Int) := by omega
            obtain ⟨_, oA, kH, hB⟩ := hC
            have ee : (en == en) = true := by simp
            go_wp2_with fail
            refine (HR.out _ oA).mono ?_
            rintro e w10 ⟨rfl, hb10⟩
            replace kH := keepblk hb10 kH
            replace hB := bel0 hB hb10
            have cH := (cells_block kH).1
            clear oA hb10
            go_wp2_with fail
            refine (num_any en _).mono ?_
            rintro e w11 ⟨rfl, rfl⟩
            go_wp2_with fail
            refine (is_ownA K _ gK).mono ?_
            rintro e w12 ⟨rfl, hb12⟩
            go_wp2_with fail
            go_ret
            exact ⟨rfl, bel0 hB hb12⟩
end Go.Proofs.Ytmblloddhpcdeaa
