import Derived.Test.YtffgkjmfeannoaaGreatDoorXBQ
import Derived.Deep.RegionHeld3
import Derived.Deep.Cut
import Derived.Deep.CutRange
namespace Go.Proofs.YtffgkjmfeannoaaGreatDoor.Ex
open Go.RowKit
variable {w0 W X : World} {b : Nat} {pt : Option Addr} {ct : Nat} {L : List XTok} {i m e : Nat} {Q : List Nat} {out : List Nd}
def DB (w0 : World) (b : Nat) (pt : Option Addr) (ct : Nat) (L : List XTok) (Q : List Nat) (m : Nat) (out : List Nd) (bt : Nat) (W : World) (i e : Nat) (t : Ts) : Prop := DS w0 b pt ct L W i Q out m e ∧ BT W bt (tsB t)
theorem DB.below {bt : Nat} {t : Ts} (h : DB w0 b pt ct L Q m out bt W i e t) (hb : Below W.heap.size W X) : DB w0 b pt ct L Q m out bt X i e t := ⟨h.1.below hb, h.2.below hb⟩
theorem db_ne {bt : Nat} {cs : Array Value} (h : BT W bt cs) (hs : DS w0 b pt ct L W i Q out m e) : bt ≠ b := by
  rintro rfl
  obtain ⟨⟨vo, vn, h1, _⟩, _⟩ := hs
  unfold BT at h
  rw [h] at h1
  injection h1 with h1
  injection h1 with _ h1 _
  cases h1
theorem DS.other {bt j : Nat} {cs : Array Value} (hs : DS w0 b pt ct L W i Q out m e) (h : BT W bt cs) (hbt : w0.heap.size ≤ bt) (u : Value) : DS w0 b pt ct L (W.setCell ⟨bt, j, none⟩ u) i Q out m e := by
  have hne := db_ne h hs
  obtain ⟨⟨vo, vn, h1, h2, h3⟩, h4⟩ := hs
  exact ⟨⟨vo, vn, (heap_setCell_other W ⟨bt, j, none⟩ b u (fun e => hne e.symm)).trans h1, World.ownsRow.kept h2 (gr_setZ _ _ _ _) (.inr (own_box_ne h2 h (by decide))), World.ownsRow.kept h3 (gr_setZ _ _ _ _) (.inr (own_box_ne h3 h (by decide)))⟩, h4.setCell hbt _⟩
theorem DB.put {bt : Nat} {t t' : Ts} (h : DB w0 b pt ct L Q m out bt W i e t) (hbt : w0.heap.size ≤ bt) (j : Nat) (u : Value) (hj : (tsB t).setIfInBounds j u = tsB t') : DB w0 b pt ct L Q m out bt (W.setCell ⟨bt, j, none⟩ u) i e t' := ⟨h.1.other h.2 hbt u, by rw [← hj]; exact h.2.set u⟩
theorem DB.on {bt i1 : Nat} {t : Ts} (h : DB w0 b pt ct L Q m out bt W i e t) (hb : w0.heap.size ≤ b) : DB w0 b pt ct L Q m out bt (W.setCell ⟨b, 1, none⟩ (.int .i64 (i1 : Int))) i1 e t := ⟨h.1.set hb (i' := i1) (m' := m) (e' := e) 1 _ (fun vo vn => by simp), h.2.other (db_ne h.2 h.1) _⟩
theorem DB.cells {bt : Nat} {t : Ts} (h : DB w0 b pt ct L Q m out bt W i e t) : (W.cell? ⟨b, 0, none⟩ = some (.slice pt L.length ct) ∧ W.cell? ⟨b, 1, none⟩ = some (.int .i64 (i : Int)) ∧ W.cell? ⟨b, 5, none⟩ = some (.int .i64 (e : Int)) ∧ W.frozen? ⟨b, 1, none⟩ = false) ∧ (W.cell? ⟨bt, 1, none⟩ = some (.int .i64 (t.o : Int)) ∧ W.cell? ⟨bt, 2, none⟩ = some (.int .i64 (t.fm : Int)) ∧ W.cell? ⟨bt, 6, none⟩ = some (.string ⟨t.p.toArray⟩)) ∧ ∀ j, W.frozen? ⟨bt, j, none⟩ = false := by
  obtain ⟨c0, c1, c4, c5, cf⟩ := h.1.cells
  have g := (cellsZ h.2).1
  exact ⟨⟨c0, c1, c5, cf 1⟩, ⟨by rw [g]; rfl, by rw [g]; rfl, by rw [g]; rfl⟩, (cellsZ h.2).2⟩
theorem DB.box {bt : Nat} {t : Ts} (h : DB w0 b pt ct L Q m out bt W i e t) : W.cell? ⟨bt, 0, none⟩ = some (.string ⟨t.f.toArray⟩) ∧ W.cell? ⟨bt, 1, none⟩ = some (.int .i64 (t.o : Int)) ∧ W.cell? ⟨bt, 2, none⟩ = some (.int .i64 (t.fm : Int)) ∧ W.cell? ⟨bt, 3, none⟩ = some (.int .i64 t.lo) ∧ W.cell? ⟨bt, 4, none⟩ = some (.int .i64 t.hi) ∧ W.cell? ⟨bt, 5, none⟩ = some (.int .i64 t.ln) ∧ W.cell? ⟨bt, 6, none⟩ = some (.string ⟨t.p.toArray⟩) := by
  have g := (cellsZ h.2).1
  exact ⟨by rw [g]; rfl, by rw [g]; rfl, by rw [g]; rfl, by rw [g]; rfl, by rw [g]; rfl, by rw [g]; rfl, by rw [g]; rfl⟩
set_option maxHeartbeats 4000000 in
theorem DB.pushN {bt : Nat} {t : Ts} (x : Nd) (h : DB w0 b pt ct L Q m out bt W i e t) (hb : w0.heap.size ≤ b) (hout : out.length ≤ 1000) : ∃ vn q n c W3, W.cell? ⟨b, 3, none⟩ = some vn ∧
    (Builtin.append_ #[25, 25] 25 #[vn, .slice (some ⟨W.heap.size, 0, none⟩) 1 1]).run Tryz.prog (W.alloc (.cells #[.int .i64 (x.k : Int), .string ⟨x.t.f.toArray⟩, .int .i64 (x.t.o : Int), .int .i64 (x.t.fm : Int), .int .i64 x.t.lo, .int .i64 x.t.hi, .int .i64 x.t.ln, .string ⟨x.t.p.toArray⟩] 50 (0, 0))) = .ok (.slice q n c) W3 ∧
    (W.alloc (.cells #[.int .i64 (x.k : Int), .string ⟨x.t.f.toArray⟩, .int .i64 (x.t.o : Int), .int .i64 (x.t.fm : Int), .int .i64 x.t.lo, .int .i64 x.t.hi, .int .i64 x.t.ln, .string ⟨x.t.p.toArray⟩] 50 (0, 0))).cell? ⟨b, 3, none⟩ = some vn ∧
    BT (W.alloc (.cells #[.int .i64 (x.k : Int), .string ⟨x.t.f.toArray⟩, .int .i64 (x.t.o : Int), .int .i64 (x.t.fm : Int), .int .i64 x.t.lo, .int .i64 x.t.hi, .int .i64 x.t.ln, .string ⟨x.t.p.toArray⟩] 50 (0, 0))) bt (tsB t) ∧
    W3.cell? ⟨b, 3, none⟩ = some vn ∧ W3.frozen? ⟨b, 3, none⟩ = false ∧ BT W3 bt (tsB t) ∧ BT (W3.setCell ⟨b, 3, none⟩ (.slice q n c)) bt (tsB t) ∧ DS w0 b pt ct L (W3.setCell ⟨b, 3, none⟩ (.slice q n c)) i Q (out ++ [x]) m e := by
  have hne := db_ne h.2 h.1
  obtain ⟨⟨⟨vo, vn, h1, h2, h3⟩, h4⟩, hB⟩ := h
  obtain ⟨W2, hW2⟩ : ∃ W2, W.alloc (.cells #[.int .i64 (x.k : Int), .string ⟨x.t.f.toArray⟩, .int .i64 (x.t.o : Int), .int .i64 (x.t.fm : Int), .int .i64 x.t.lo, .int .i64 x.t.hi, .int .i64 x.t.ln, .string ⟨x.t.p.toArray⟩] 50 (0, 0)) = W2 := ⟨_, rfl⟩
  have b2 : Below W.heap.size W W2 := by rw [← hW2]; exact belAZ (Below.refl _ _) _
  have hnb : W2.heap[W.heap.size]? = some (.cells #[.int .i64 (x.k : Int), .string ⟨x.t.f.toArray⟩, .int .i64 (x.t.o : Int), .int .i64 (x.t.fm : Int), .int .i64 x.t.lo, .int .i64 x.t.hi, .int .i64 x.t.ln, .string ⟨x.t.p.toArray⟩] 50 (0, 0)) := by rw [← hW2]; exact alloc_getZ _ _
  have k1 := keepZ b2 h1
  have k2 := own_belZ h2 b2
  have k3 : OWN W2 w0.heap.size vn out := own_belZ h3 b2
  have kB := hB.below b2
  obtain ⟨i0, hi, hz0, hz1, hz2⟩ := info_parts info_nd
  obtain ⟨v', W3, hr, o3, g3, n3⟩ := appZ (TS := 25) (nb := W.heap.size) 25 Tryz.underlying25 hi hz0 hz1 hz2 rfl (by decide) k3 (Nat.le_trans h4.size b2.size) (news := ndC x) rfl (World.news_of_block hnb) (fun u hu => by simp only [ndC, List.mem_cons, List.not_mem_nil, or_false] at hu; rcases hu with rfl | rfl | rfl | rfl | rfl | rfl | rfl | rfl <;> rfl) (by omega) (by decide)
  obtain ⟨q9, c9, hv9⟩ : ∃ q9 c9, v' = .slice q9 (out.length + 1) c9 := shapeZ o3
  subst hv9
  have hbk : W3.heap[b]? = W2.heap[b]? := g3.block b (lt_getZ k1) (fun e => own_box_ne k3 k1 (by decide) e.symm)
  have k4 := hbk.trans k1
  have kB3 : BT W3 bt (tsB t) := (g3.block bt (lt_getZ kB) (fun e => own_box_ne k3 kB (by decide) e.symm)).trans kB
  have o3' : OWN W3 w0.heap.size (.slice q9 (out.length + 1) c9) (out ++ [x]) := by
    unfold OWN
    rw [nds_snoc, List.length_append, List.length_singleton]
    exact o3
  have k5 : OWB W3 w0.heap.size vo Q := World.ownsRow.kept k2 g3 (own_neZ k2 k3 (by decide))
  refine ⟨vn, q9, out.length + 1, c9, W3, by rw [(cellsZ h1).1]; rfl, by rw [hW2]; exact hr, by rw [hW2, (cellsZ k1).1]; rfl, by rw [hW2]; exact kB, by rw [(cellsZ k4).1]; rfl, (cellsZ k4).2 3, kB3, kB3.other hne _, ⟨vo, .slice q9 (out.length + 1) c9, by rw [set_getZ _ k4]; simp, World.ownsRow.kept k5 (gr_setZ _ _ _ _) (.inr (own_box_ne k5 k4 (by decide))), World.ownsRow.kept o3' (gr_setZ _ _ _ _) (.inr (own_box_ne o3' k4 (by decide)))⟩, (bel_grZ (bel0Z h4 b2) g3 (fun k e => (World.ownsRow.lt k3 k e).1)).setCell hb _⟩
def DVQ (w0 : World) (b : Nat) (pt : Option Addr) (ct : Nat) (L : List XTok) (Q : List Nat) (m : Nat) (out : List Nd) (bt i : Nat) (t : Ts) (r : Option Int) (en : Ending) (W' : World) : Prop :=
  match r with
  | none => en = .returned (.int .i64 0) ∧ DB w0 b pt ct L Q m out bt W' i 50 t
  | some v => en = .returned (.int .i64 v) ∧ DB w0 b pt ct L Q m out bt W' (i + 1) 0 t
def TSM (w0 : World) (b : Nat) (pt : Option Addr) (ct : Nat) (L : List XTok) (Q : List Nat) (m : Nat) (out : List Nd) (r : Except Nat (Nat × Ts)) (W' : World) : Prop := match r with
  | .error p => ∃ out', DS w0 b pt ct L W' p Q out' m 50
  | .ok q => DS w0 b pt ct L W' q.1 Q (out ++ [⟨3, q.2⟩]) m 0
def TSQ (w0 : World) (b : Nat) (pt : Option Addr) (ct : Nat) (L : List XTok) (Q : List Nat) (m : Nat) (out : List Nd) (r : Except Nat (Nat × Ts)) (en : Ending) (W' : World) : Prop :=
  en = .returned (.tuple #[]) ∧ TSM w0 b pt ct L Q m out r W'
theorem bel7 {B b : Nat} {w W : World} (h : Below B w W) (hb : B ≤ b) (v0 v1 v2 v3 v4 v5 v6 : Value) : Below B w (((((((W.setCell ⟨b, 0, none⟩ v0).setCell ⟨b, 1, none⟩ v1).setCell ⟨b, 2, none⟩ v2).setCell ⟨b, 3, none⟩ v3).setCell ⟨b, 4, none⟩ v4).setCell ⟨b, 5, none⟩ v5).setCell ⟨b, 6, none⟩ v6) :=
  ((((((h.setCell hb _).setCell hb _).setCell hb _).setCell hb _).setCell hb _).setCell hb _).setCell hb _
theorem XR_tok {p : Option Addr} {k : Nat} (h : XR W p L) (hk : k < L.length) : ∃ g o, p = some ⟨g, o, none⟩ ∧ W.cell? ⟨g, o + k * 4, none⟩ = some (.int .i64 (tokAt L k).1) ∧ W.cell? ⟨g, o + k * 4 + 1, none⟩ = some (.string ⟨(tokAt L k).2.1.toArray⟩) := by
  have ht : L[k]? = some (tokAt L k) := by unfold tokAt; rw [List.getD_eq_getElem?_getD, List.getElem?_eq_getElem hk]; rfl
  obtain ⟨g, o, e, h0, h1, _⟩ := h k _ ht
  exact ⟨g, o, e, h0, h1⟩
set_option maxRecDepth 100000 in
set_option maxHeartbeats 32000000 in
theorem rtest_any (hX : XR w0 pt L) (hb : w0.heap.size ≤ b) (hlen : L.length ≤ 100000) (hS : shT L) (hil : i < L.length) (hout : out.length ≤ 1000) (h : DS w0 b pt ct L W i Q out m 0) :
    Calls Tryz.prog 25 #[.pointer (some ⟨b, 0, none⟩)] W (TSQ w0 b pt ct L Q m out (tsX L (i + 1) (tokAt L i).2.1)) := by
  obtain ⟨i1, hi1⟩ : ∃ k, k = i + 1 := ⟨_, rfl⟩
  obtain ⟨i2, hi2⟩ : ∃ k, k = i + 2 := ⟨_, rfl⟩
  obtain ⟨i3, hi3⟩ : ∃ k, k = i + 3 := ⟨_, rfl⟩
  obtain ⟨i4, hi4⟩ : ∃ k, k = i + 4 := ⟨_, rfl⟩
  obtain ⟨i5, hi5⟩ : ∃ k, k = i + 5 := ⟨_, rfl⟩
  obtain ⟨bt, hbt⟩ : ∃ bt, W.heap.size = bt := ⟨_, rfl⟩
  obtain ⟨N, hN⟩ : ∃ N, opN (tokAt L i1) = N := ⟨_, rfl⟩
  obtain ⟨f, hf⟩ : ∃ f, (tokAt L i).2.1 = f := ⟨_, rfl⟩
  have HBB : Hid (w0.heap.size ≤ b ∧ w0.heap.size ≤ bt) := ⟨hb, by rw [← hbt]; exact h.2.size⟩
  have HOUT : Hid (out.length ≤ 1000) := hout
  have HOP : Hid (∀ U e t, DB w0 b pt ct L Q m out bt U i1 e t → Calls Tryz.prog 39 #[.pointer (some ⟨b, 0, none⟩)] U fun en W' => en = .returned (.int .i64 (N : Int)) ∧ DB w0 b pt ct L Q m out bt W' i1 e t) := fun U e t hU => (rop_any hX hlen hU.1).mono fun en W' he => ⟨by rw [← hN]; exact he.1, by rw [he.2]; exact hU⟩
  have HSG : Hid (∀ (sg : List UInt8) U j e t, DB w0 b pt ct L Q m out bt U j e t → Calls Tryz.prog 21 #[.pointer (some ⟨b, 0, none⟩), .int .i64 (j : Int), .string ⟨sg.toArray⟩] U fun en W' => en = .returned (.bool (isS (tokAt L j) sg)) ∧ DB w0 b pt ct L Q m out bt W' j e t) := fun sg U j e t hU => (sign_any j sg hX hlen hU.1).mono fun en W' he => ⟨he.1, by rw [he.2]; exact hU⟩
  have HFL : Hid (∀ U j t, DB w0 b pt ct L Q m out bt U j 0 t → Calls Tryz.prog 26 #[.pointer (some ⟨b, 0, none⟩), .int .i64 50, .int .i64 (j : Int)] U fun en W' => en = .returned (.tuple #[]) ∧ DB w0 b pt ct L Q m out bt W' j 50 t) := fun U j t hU => (fail0_any 50 j hb hU.1).mono fun en W' he => ⟨he.1, he.2.1, he.2.2 _ _ (db_ne hU.2 hU.1) hU.2⟩
  have HVL : Hid (∀ U j t, DB w0 b pt ct L Q m out bt U j 0 t → Calls Tryz.prog 41 #[.pointer (some ⟨b, 0, none⟩)] U (DVQ w0 b pt ct L Q m out bt j t (nvX (tokAt L j)))) := fun U j t hU => (rvalue_any hX hb hlen hS hU.1).mono fun en W' he => by
    unfold DVQ
    unfold RVQ at he
    cases hr : nvX (tokAt L j) with
    | none => rw [hr] at he; exact ⟨he.1.1, he.1.2, he.2 _ _ (db_ne hU.2 hU.1) hU.2⟩
    | some v => rw [hr] at he; exact ⟨he.1.1, he.1.2, he.2 _ _ (db_ne hU.2 hU.1) hU.2⟩
  have HTK : Hid (∀ U j e t, DB w0 b pt ct L Q m out bt U j e t → j < L.length → ∃ g o, pt = some ⟨g, o, none⟩ ∧ U.cell? ⟨g, o + j * 4, none⟩ = some (.int .i64 (tokAt L j).1) ∧ U.cell? ⟨g, o + j * 4 + 1, none⟩ = some (.string ⟨(tokAt L j).2.1.toArray⟩)) := fun U j e t hU hj => XR_tok (hX.below hU.1.2) hj
  have HTX : Hid (tsX L (i + 1) f = if N = 0 then .error i1 else vlX L i2 f N) := by show tsX _ _ _ = _; unfold tsX; rw [← hi1, hN, hi1, hi2]
  have HN6 : Hid (N ≤ 6 ∧ (N ≠ 0 → i1 < L.length)) := ⟨by rw [← hN]; exact opN_le _, fun h0 => opN_in (by rw [hN]; exact h0)⟩
  have HIX : Hid (i1 = i + 1 ∧ i2 = i1 + 1 ∧ i3 = i2 + 1 ∧ i4 = i3 + 1 ∧ i5 = i4 + 1 ∧ L.length ≤ 100000 ∧ i < L.length) := ⟨by omega, by omega, by omega, by omega, by omega, hlen, hil⟩
  have HIN : Hid ((∀ j, isS (tokAt L j) [47] = true → j < L.length) ∧ (∀ j, isS (tokAt L j) [46, 46] = true → j < L.length) ∧ ∀ j v, nvX (tokAt L j) = some v → j < L.length) := ⟨fun j hj => isS_in hj, fun j hj => isS_in hj, fun j v hj => (nvX_in L j).resolve_right (by rw [hj]; exact nofun)⟩
  rw [hf]
  obtain ⟨R, hR⟩ : ∃ R, tsX L (i + 1) f = R := ⟨_, rfl⟩
  rw [hR] at HTX ⊢
  clear hR
  obtain ⟨g, o, rfl, g0, g1⟩ := XR_tok (hX.below h.2) hil
  rw [hf] at g1
  obtain ⟨c0, c1, c4, c5, cf⟩ := h.cells
  obtain ⟨n, hn⟩ : ∃ n, L.length = n := ⟨_, rfl⟩
  rw [hn] at c0
  have HCC : Hid (∀ U, Below W.heap.size W U → U.cell? ⟨b, 0, none⟩ = some (.slice (some ⟨g, o, none⟩) n ct) ∧ U.cell? ⟨b, 1, none⟩ = some (.int .i64 (i : Int)) ∧ U.cell? ⟨g, o + i * 4 + 1, none⟩ = some (.string ⟨f.toArray⟩)) := fun U hU => ⟨(hU.cell (World.block_lt_of_cell? W _ c0)).trans c0, (hU.cell (World.block_lt_of_cell? W _ c1)).trans c1, (hU.cell (World.block_lt_of_cell? W _ g1)).trans g1⟩
  have HDB : Hid (∀ U, Below W.heap.size W U → U.heap[W.heap.size]? = some (.cells #[.string ⟨f.toArray⟩, .int .i64 0, .int .i64 0, .int .i64 0, .int .i64 0, .int .i64 0, .string ⟨#[]⟩] 48 (0, 0)) → DB w0 b (some ⟨g, o, none⟩) ct L Q m out bt U i 0 ⟨f, 0, 0, 0, 0, 0, []⟩) := fun U hU hx => ⟨h.below hU, by rw [← hbt]; exact hx⟩
  have j0 : (i : Int) < (n : Int) := by omega
  have y1 : IntKind.i64.wrap ((i : Int) + 1) = (i1 : Int) := by rw [IntKind.wrap_i64]; omega
  have HNL : Hid (L.length = n) := hn
  have HBT : Hid (W.heap.size = bt) := hbt
  clear hX hb hlen hS hil hout h hi1 hi2 hi3 hi4 hi5 hN hf cf c4 hn c5 g0 hbt c0 c1 g1
  go_enter Tryz.func25, Tryz.ntmps25
  go_wp2_with fail
  go_cut [2] from 4 to 15 (fun v wc => v = .pointer (some ⟨bt, 0, none⟩) ∧ Hid (DB w0 b (some ⟨g, o, none⟩) ct L Q m out bt wc i 0 ⟨f, 0, 0, 0, 0, 0, []⟩))
  case first =>
    go_region_held3 (fun U => U.cell? ⟨b, 0, none⟩ = some (.slice (some ⟨g, o, none⟩) n ct) ∧ U.cell? ⟨b, 1, none⟩ = some (.int .i64 (i : Int)) ∧ U.cell? ⟨g, o + i * 4 + 1, none⟩ = some (.string ⟨f.toArray⟩)) (first | with_reducible exact HCC.out _ (Below.refl _ _) | with_reducible exact HCC.out _ (Below.refl _ _).drew | with_reducible exact HCC.out _ (belAZ (Below.refl _ _) _) | with_reducible exact HCC.out _ (belAZ (Below.refl _ _).drew _) | exact HCC.out _ (bel7 (belAZ (Below.refl _ _) _) (Nat.le_refl _) _ _ _ _ _ _ _) | exact HCC.out _ (bel7 (belAZ (Below.refl _ _).drew _) (Nat.le_refl _) _ _ _ _ _ _ _)) (fail)
    all_goals go_wp2
    all_goals go_meet
    exact ⟨by rw [HBT.out], HDB.out _ (belAZ (Below.refl _ _) _).drew (alloc_getZ _ _)⟩
  case rest =>
  obtain ⟨rfl, HD0⟩ := hcut
  rename World => wc
  obtain ⟨⟨d0, d1, d5, df⟩, _, _⟩ := HD0.out.cells
  rw [HNL.out] at d0
  have HO1 := HOP.out _ _ _ (HD0.out.on (i1 := i1) HBB.out.1)
  clear HDB HCC HBT HD0
  go_wp2_with fail
  refine HO1.mono ?_
  rintro en W1 ⟨rfl, s1⟩
  have s2 := s1.put HBB.out.2 (t' := ⟨f, N, 0, 0, 0, 0, []⟩) 1 (.int .i64 (N : Int)) rfl
  have q0 : W1.cell? ⟨bt, 1, none⟩ = some (.int .i64 0) := s1.cells.2.1.1
  have q1 := s1.cells.2.2 1
  obtain ⟨⟨c0, c1, c5, cf⟩, ⟨e1, e2, e6⟩, ef⟩ := s2.cells
  simp only at e1 e2 e6
  by_cases h0 : N = 0
  · have y0 : ((N : Int) == 0) = true := beq_iff_eq.2 (by omega)
    have HF1 := HFL.out _ _ _ s2
    rw [if_pos h0] at HTX
    obtain rfl := HTX.out
    clear s1 s2 HO1 HTX h0
    go_wp2_with fail
    refine HF1.mono ?_
    rintro en W2 ⟨rfl, s3⟩
    have HD := hideL s3
    clear HF1 s3
    go_wp2_with fail
    go_end0
    exact ⟨rfl, out, HD.out.1⟩
  rw [if_neg h0] at HTX
  have y0 : ((N : Int) == 0) = false := beq_eq_false_iff_ne.2 (by omega)
  have hi1 := HN6.out.2 h0
  have y2 : IntKind.i64.wrap ((i1 : Int) + 1) = (i2 : Int) := by have := HIX.out; rw [IntKind.wrap_i64]; omega
  have s3 := s2.on (i1 := i2) HBB.out.1
  obtain ⟨W2, hW2⟩ : ∃ W2, (W1.setCell ⟨bt, 1, none⟩ (.int .i64 (N : Int))).setCell ⟨b, 1, none⟩ (.int .i64 (i2 : Int)) = W2 := ⟨_, rfl⟩
  rw [hW2] at s3
  have HW2 := hideL hW2
  have HS3 := hideL s3
  clear HO1 s1 s2 s3 hW2 h0
  go_wp2_with fail
  rw [HW2.out]
  obtain ⟨⟨d0, d1, d5, df⟩, ⟨e1', e2', e6'⟩, ef'⟩ := HS3.out.cells
  simp only at e1' e2' e6'
  rw [HNL.out] at d0
  clear HW2 c0 c1 c5 cf e1 e2 e6 ef q1 q0
  obtain ⟨KP, hKP⟩ : ∃ KP, KP = decide (N ≤ 2 ∧ i2 < n ∧ (tokAt L i2).1 = 5) := ⟨_, rfl⟩
  have HKP := hideL hKP
  have HTK2 : Hid (i2 < n → W2.cell? ⟨g, o + i2 * 4, none⟩ = some (.int .i64 (tokAt L i2).1)) := fun hin => by
    obtain ⟨g', o', e, t0, t1⟩ := HTK.out W2 i2 0 _ HS3.out (by rw [HNL.out]; exact hin)
    injection e with e
    injection e with e3 e4 _
    subst e3 e4
    exact t0
  clear hKP
  go_cut [70] from 42 to 69 (fun v wc => v = .bool KP ∧ Hid (DB w0 b (some ⟨g, o, none⟩) ct L Q m out bt wc i2 0 ⟨f, N, 0, 0, 0, 0, []⟩))
  case first =>
    by_cases hN2 : N ≤ 2
    · have j2 : (N : Int) ≤ 2 := by omega
      by_cases hin : i2 < n
      · have j3 : (i2 : Int) < (n : Int) := by omega
        have t0 := HTK2.out hin
        obtain ⟨tk, htk⟩ : ∃ tk, (tokAt L i2).1 = tk := ⟨_, rfl⟩
        rw [htk] at t0 HKP
        by_cases h5 : tk = 5
        · subst h5
          obtain rfl : KP = true := by rw [HKP.out]; exact decide_eq_true ⟨hN2, hin, rfl⟩
          clear HKP HTK2 htk
          go_quiet (fail)
          go_wp2
          go_meet
          exact ⟨by trivial, HS3.out.below (bel_drewZ nq (Below.refl _ _))⟩
        · have y5 : (tk == 5) = false := beq_eq_false_iff_ne.2 h5
          obtain rfl : KP = false := by rw [HKP.out]; exact decide_eq_false (fun h => h5 h.2.2)
          clear HKP HTK2 htk h5
          go_quiet (fail)
          go_wp2
          go_meet
          exact ⟨by trivial, HS3.out.below (bel_drewZ nq (Below.refl _ _))⟩
      · have j3 : ¬ (i2 : Int) < (n : Int) := by omega
        obtain rfl : KP = false := by rw [HKP.out]; exact decide_eq_false (fun h => hin h.2.1)
        clear HKP HTK2
        go_quiet (fail)
        go_wp2
        go_meet
        exact ⟨by trivial, HS3.out.below (bel_drewZ nq (Below.refl _ _))⟩
    · have j2 : ¬ (N : Int) ≤ 2 := by omega
      obtain rfl : KP = false := by rw [HKP.out]; exact decide_eq_false (fun h => hN2 h.1)
      clear HKP HTK2
      go_quiet (fail)
      go_wp2
      go_meet
      exact ⟨by trivial, HS3.out.below (bel_drewZ nq (Below.refl _ _))⟩
  case rest =>
  obtain ⟨rfl, HS4⟩ := hcut
  rename World => wc
  clear HS3 HTK2 d0 d1 d5 df e1' e2' e6' ef'
  have HRR : Hid (R = vlX L i2 f N) := HTX.out
  clear HTX
  go_upto_if 70 with fail
  go_cut [3] from 71 to 174 (fun v3 wd => ∃ (j e : Nat) (t : Ts), Hid (DB w0 b (some ⟨g, o, none⟩) ct L Q m out bt wd j e t ∧ ((e = 50 ∧ R = .error j) ∨ (e = 0 ∧ R = .ok (j, t)))))
  case first =>
    obtain ⟨⟨d0, d1, d5, df⟩, ⟨e1, e2, e6⟩, ef⟩ := HS4.out.cells
    simp only at e1 e2 e6
    rw [HNL.out] at d0
    cases KP with
    | true =>
      obtain ⟨hN2, hin, hk5⟩ := of_decide_eq_true HKP.out.symm
      have j3 : (i2 : Int) < (n : Int) := by omega
      obtain ⟨g', o', e, -, t1⟩ := HTK.out wc i2 0 _ HS4.out (by rw [HNL.out]; exact hin)
      injection e with e
      injection e with e3 e4 _
      subst e3 e4
      obtain ⟨⟨tk, tx, tl, tc⟩, ht⟩ : ∃ t, tokAt L i2 = t := ⟨_, rfl⟩
      rw [ht] at t1 hk5
      simp only at t1 hk5
      have HPB : Hid (patB (tokAt L i2) = (decide (2 ≤ tx.length) && ((tx.headD 0 == 37) && digB (tx.drop 1)))) := by
        show patB _ = _
        unfold patB
        rw [ht]
        simp only
        rw [hk5, ofB_pat, patD_eq]
        rfl
      have HBAD : Hid (patB (tokAt L i2) = false → R = .error i2) := fun hp => by
        rw [HRR.out]
        unfold vlX
        rw [if_neg (by rw [hp]; exact fun h => absurd h.2 (by decide))]
        have : nvX (tokAt L i2) = none := by unfold nvX; rw [ht]; simp only; rw [if_neg (by rw [hk5]; decide)]
        rw [this]
      have HGOOD : Hid (patB (tokAt L i2) = true → R = .ok (i3, ⟨f, N, 4, 0, 0, 0, tx.drop 1⟩)) := fun hp => by
        rw [HRR.out]
        unfold vlX
        rw [if_pos ⟨hN2, hp⟩, ht, HIX.out.2.2.1]
      clear HKP hk5 ht HRR
      go_wp2_with fail
      go_quiet (fail)
      obtain ⟨W5, hW5⟩ : ∃ W5, wc.drewN nq = W5 := ⟨_, rfl⟩
      have s5 : DB w0 b (some ⟨g, o, none⟩) ct L Q m out bt W5 i2 0 ⟨f, N, 0, 0, 0, 0, []⟩ := by rw [← hW5]; exact HS4.out.below (bel_drewZ nq (Below.refl _ _))
      rw [hW5]
      have HS5 := hideL s5
      clear hW5 HS4 d0 d1 d5 df e1 e2 e6 ef t1 s5
      by_cases hl2 : tx.length < 2
      · have k1 : (tx.length : Int) < 2 := by omega
        obtain rfl := HBAD.out (by rw [HPB.out, decide_eq_false (by omega)]; rfl)
        have d1 := HS5.out.cells.1.2.1
        have HF1 := HFL.out _ _ _ HS5.out
        clear HPB HGOOD HBAD
        go_wp2_with fail
        refine HF1.mono ?_
        rintro en W6 ⟨rfl, s6⟩
        have HD := hideL s6
        clear HF1 s6
        go_wp2_with fail
        go_end0
        exact ⟨rfl, out, HD.out.1⟩
      · have k1 : ¬ (tx.length : Int) < 2 := by omega
        obtain ⟨d, hd, hld⟩ := byte_get tx 0 (by omega)
        have j9 : (0 : Int) < (tx.length : Int) := by omega
        have HHD : Hid (tx.headD 0 = d) := by
          show _ = _
          cases tx with
          | nil => cases hld
          | cons x y => exact Option.some.inj hld
        rw [HHD.out, decide_eq_true (by omega : 2 ≤ tx.length), Bool.true_and] at HPB
        by_cases hd37 : d = 37
        · have k2 : ((d.toNat : Int) != 37) = false := by rw [hd37]; rfl
          have k3 : ((d.toNat : Int) == 37) = true := by rw [hd37]; rfl
          rw [beq_iff_eq.2 hd37, Bool.true_and] at HPB
          obtain ⟨ty, hty⟩ : ∃ y, tx.drop 1 = y := ⟨_, rfl⟩
          have HEX : Hid (ByteArray.extract ⟨tx.toArray⟩ 1 tx.length = ⟨ty.toArray⟩) := by show ByteArray.extract _ _ _ = _; rw [ext_drop1, hty]
          rw [hty] at HPB HGOOD
          have HDG : Calls Tryz.prog 40 #[.string (ByteArray.extract ⟨tx.toArray⟩ 1 tx.length)] W5 fun e w' => e = .returned (.bool (digB ty)) ∧ w' = W5 := by rw [HEX.out]; exact digits_any ty W5
          have hsz : 1 ≤ ByteArray.size ⟨tx.toArray⟩ := by simp [ByteArray.size]; omega
          have d1 := HS5.out.cells.1.2.1
          clear hld HHD hd37 hty hl2
          cases hdg : digB ty with
          | false =>
            rw [hdg] at HDG HPB
            obtain rfl := HBAD.out HPB.out
            have HF1 := HFL.out _ _ _ HS5.out
            clear HPB HGOOD HBAD hdg
            go_wp2_with fail
            refine HDG.mono ?_
            rintro en W6 ⟨rfl, hw⟩
            obtain rfl := hw.symm
            clear hw HDG
            go_wp2_with fail
            refine HF1.mono ?_
            rintro en W6 ⟨rfl, s6⟩
            have HD := hideL s6
            clear HF1 s6
            go_wp2_with fail
            go_end0
            exact ⟨rfl, out, HD.out.1⟩
          | true =>
            rw [hdg] at HDG HPB
            have HRG := hideL (HGOOD.out HPB.out)
            have q1 := HS5.out.put HBB.out.2 (t' := ⟨f, N, 4, 0, 0, 0, []⟩) 2 (.int .i64 4) rfl
            have q2 := q1.put HBB.out.2 (t' := ⟨f, N, 4, 0, 0, 0, ty⟩) 6 (.string (ByteArray.extract ⟨tx.toArray⟩ 1 tx.length)) (by rw [HEX.out]; rfl)
            have HQ := hideL (q2.on (i1 := i3) HBB.out.1)
            have y3 : IntKind.i64.wrap ((i2 : Int) + 1) = (i3 : Int) := by have := HIX.out; rw [IntKind.wrap_i64]; omega
            have a2 : W5.cell? ⟨bt, 2, none⟩ = some (.int .i64 0) := HS5.out.cells.2.1.2.1
            have af := HS5.out.cells.2.2 2
            have a6 : (W5.setCell ⟨bt, 2, none⟩ (.int .i64 4)).cell? ⟨bt, 6, none⟩ = some (.string ⟨#[]⟩) := q1.cells.2.1.2.2
            have af6 := q1.cells.2.2 6
            have b1 := q2.cells.1.2.1
            have bf1 := q2.cells.1.2.2.2
            clear HPB HGOOD HBAD hdg q1 q2
            go_wp2_with fail
            refine HDG.mono ?_
            rintro en W6 ⟨rfl, hw⟩
            obtain rfl := hw.symm
            clear hw HDG
            go_wp2
            go_meet
            exact ⟨i3, 0, _, HQ.out, .inr ⟨rfl, HRG.out⟩⟩
        · have k3 : ((d.toNat : Int) == 37) = false := u8_ne (d := 37) hd37
          have k2 : ((d.toNat : Int) != 37) = true := by simp only [bne, k3]; rfl
          obtain rfl := HBAD.out (by rw [HPB.out, beq_eq_false_iff_ne.2 hd37]; rfl)
          have d1 := HS5.out.cells.1.2.1
          have HF1 := HFL.out _ _ _ HS5.out
          clear HPB HGOOD HBAD hld HHD hd37 hl2
          go_wp2_with fail
          refine HF1.mono ?_
          rintro en W6 ⟨rfl, s6⟩
          have HD := hideL s6
          clear HF1 s6
          go_wp2_with fail
          go_end0
          exact ⟨rfl, out, HD.out.1⟩
    | false =>
      have HRV : Hid (R = match nvX (tokAt L i2) with
          | none => .error i2
          | some v => if 2 < N then .ok (i3, ⟨f, N, 1, v, 0, 0, []⟩)
            else if isS (tokAt L i3) [47] = true then (match nvX (tokAt L i4) with
              | none => .error i4
              | some w => .ok (i5, ⟨f, N, 2, v, 0, w, []⟩))
            else if isS (tokAt L i3) [46, 46] = true then (match nvX (tokAt L i4) with
              | none => .error i4
              | some w => .ok (i5, ⟨f, N, 3, v, w, 0, []⟩))
            else .ok (i3, ⟨f, N, 1, v, 0, 0, []⟩)) := by
        show R = _
        rw [HRR.out]
        have hx := HIX.out
        have ei3 : i3 = i2 + 1 := hx.2.2.1
        have ei4 : i4 = i2 + 2 := by omega
        have ei5 : i5 = i2 + 3 := by omega
        unfold vlX
        rw [if_neg, ei3, ei4, ei5]
        · rfl
        · rintro ⟨h1, h2⟩
          have hk := HKP.out.symm
          rw [decide_eq_false_iff_not] at hk
          refine hk ⟨h1, by rw [← HNL.out]; exact patB_in h2, ?_⟩
          unfold patB at h2
          exact beq_iff_eq.1 (Bool.and_eq_true _ _ ▸ h2 : _ ∧ _).1
      clear HRR HKP HIN
      have s5 := HS4.out.put HBB.out.2 (t' := ⟨f, N, 1, 0, 0, 0, []⟩) 2 (.int .i64 1) rfl
      have HV1 := HVL.out _ _ _ s5
      have ef2 := ef 2
      clear s5 ef d0 d5 df e6
      go_wp2_with fail
      refine HV1.mono ?_
      intro en W5 he
      cases hnv : nvX (tokAt L i2) with
      | none =>
        rw [hnv] at he HRV
        obtain ⟨rfl, s6⟩ := he
        have HS7 := hideL (s6.put HBB.out.2 (t' := ⟨f, N, 1, 0, 0, 0, []⟩) 3 (.int .i64 0) rfl)
        have f3 : W5.cell? ⟨bt, 3, none⟩ = some (.int .i64 0) := s6.box.2.2.2.1
        have ff3 := s6.cells.2.2 3
        obtain ⟨⟨d0, d1', d5, df⟩, ⟨a1, a2, a6⟩, af⟩ := HS7.out.cells
        simp only at a1 a2
        clear hnv s6 HV1
        go_wp2
        go_meet
        exact ⟨i2, 50, _, HS7.out, .inl ⟨rfl, HRV.out⟩⟩
      | some v =>
        rw [hnv] at he HRV
        obtain ⟨rfl, s6⟩ := he
        have HI3 : Hid (i2 + 1 = i3) := HIX.out.2.2.1.symm
        rw [HI3.out] at s6
        have s7 := s6.put HBB.out.2 (t' := ⟨f, N, 1, v, 0, 0, []⟩) 3 (.int .i64 v) rfl
        have f3 : W5.cell? ⟨bt, 3, none⟩ = some (.int .i64 0) := s6.box.2.2.2.1
        have ff3 := s6.cells.2.2 3
        obtain ⟨⟨d0, d1', d5, df⟩, ⟨a1, a2, a6⟩, af⟩ := s7.cells
        simp only at a1 a2 HRV
        by_cases hN2 : N ≤ 2
        · have j2 : (N : Int) ≤ 2 := by omega
          rw [if_neg (by omega)] at HRV
          have HA1 := HSG.out [47] _ _ _ _ s7
          clear hnv s6 HV1 s7 af
          cases hs1 : isS (tokAt L i3) [47] with
          | true =>
            rw [hs1] at HA1 HRV
            rw [if_pos rfl] at HRV
            clear hs1
            go_wp2_with fail
            refine HA1.mono ?_
            rintro en W6 ⟨rfl, s8⟩
            clear HA1
            have y4 : IntKind.i64.wrap ((i3 : Int) + 1) = (i4 : Int) := by have := HIX.out; rw [IntKind.wrap_i64]; omega
            have q1 := s8.on (i1 := i4) HBB.out.1
            have q2 := q1.put HBB.out.2 (t' := ⟨f, N, 2, v, 0, 0, []⟩) 2 (.int .i64 2) rfl
            have HV2 := HVL.out _ _ _ q2
            have b1 := s8.cells.1.2.1
            have bf1 := s8.cells.1.2.2.2
            have b2 : (W6.setCell ⟨b, 1, none⟩ (.int .i64 (i4 : Int))).cell? ⟨bt, 2, none⟩ = some (.int .i64 1) := q1.cells.2.1.2.1
            have bf2 := q1.cells.2.2 2
            clear q1 q2 s8
            go_wp2_with fail
            refine HV2.mono ?_
            intro en W7 he
            cases hnv : nvX (tokAt L i4) with
            | none =>
              rw [hnv] at he HRV
              obtain ⟨rfl, s9⟩ := he
              have HQ := hideL (s9.put HBB.out.2 (t' := ⟨f, N, 2, v, 0, 0, []⟩) 5 (.int .i64 0) rfl)
              have g3 : W7.cell? ⟨bt, 5, none⟩ = some (.int .i64 0) := s9.box.2.2.2.2.2.1
              have gf3 := s9.cells.2.2 5
              clear hnv s9 HV2
              go_wp2
              go_meet
              exact ⟨i4, 50, _, HQ.out, .inl ⟨rfl, HRV.out⟩⟩
            | some w =>
              rw [hnv] at he HRV
              obtain ⟨rfl, s9⟩ := he
              have HQ := hideL (s9.put HBB.out.2 (t' := ⟨f, N, 2, v, 0, w, []⟩) 5 (.int .i64 w) rfl)
              have g3 : W7.cell? ⟨bt, 5, none⟩ = some (.int .i64 0) := s9.box.2.2.2.2.2.1
              have gf3 := s9.cells.2.2 5
              have HI5 : Hid (i4 + 1 = i5) := HIX.out.2.2.2.2.1.symm
              rw [HI5.out] at HQ
              clear hnv s9 HV2
              go_wp2
              go_meet
              exact ⟨i5, 0, _, HQ.out, .inr ⟨rfl, HRV.out⟩⟩
          | false =>
            rw [hs1] at HA1 HRV
            rw [if_neg (by decide)] at HRV
            clear hs1
            go_wp2_with fail
            refine HA1.mono ?_
            rintro en W6 ⟨rfl, s8⟩
            have HA2 := HSG.out [46, 46] _ _ _ _ s8
            obtain ⟨⟨p0, p1, p5, pf⟩, ⟨o1, o2, o6⟩, of⟩ := s8.cells
            simp only at o1 o2
            clear HA1 s8 of
            cases hs2 : isS (tokAt L i3) [46, 46] with
            | true =>
              rw [hs2] at HA2 HRV
              rw [if_pos rfl] at HRV
              clear hs2
              go_wp2_with fail
              refine HA2.mono ?_
              rintro en W6' ⟨rfl, s8⟩
              obtain ⟨W6, rfl⟩ : ∃ W6, W6 = W6' := ⟨_, rfl⟩
              clear HA2 p0 p1 p5 pf o1 o2 o6
              have y4 : IntKind.i64.wrap ((i3 : Int) + 1) = (i4 : Int) := by have := HIX.out; rw [IntKind.wrap_i64]; omega
              have q1 := s8.on (i1 := i4) HBB.out.1
              have q2 := q1.put HBB.out.2 (t' := ⟨f, N, 3, v, 0, 0, []⟩) 2 (.int .i64 3) rfl
              have HV2 := HVL.out _ _ _ q2
              have b1 := s8.cells.1.2.1
              have bf1 := s8.cells.1.2.2.2
              have b2 : (W6.setCell ⟨b, 1, none⟩ (.int .i64 (i4 : Int))).cell? ⟨bt, 2, none⟩ = some (.int .i64 1) := q1.cells.2.1.2.1
              have bf2 := q1.cells.2.2 2
              clear q1 q2 s8
              go_wp2_with fail
              refine HV2.mono ?_
              intro en W7 he
              cases hnv : nvX (tokAt L i4) with
              | none =>
                rw [hnv] at he HRV
                obtain ⟨rfl, s9⟩ := he
                have HQ := hideL (s9.put HBB.out.2 (t' := ⟨f, N, 3, v, 0, 0, []⟩) 4 (.int .i64 0) rfl)
                have g3 : W7.cell? ⟨bt, 4, none⟩ = some (.int .i64 0) := s9.box.2.2.2.2.1
                have gf3 := s9.cells.2.2 4
                clear hnv s9 HV2
                go_wp2
                go_meet
                exact ⟨i4, 50, _, HQ.out, .inl ⟨rfl, HRV.out⟩⟩
              | some w =>
                rw [hnv] at he HRV
                obtain ⟨rfl, s9⟩ := he
                have HQ := hideL (s9.put HBB.out.2 (t' := ⟨f, N, 3, v, w, 0, []⟩) 4 (.int .i64 w) rfl)
                have g3 : W7.cell? ⟨bt, 4, none⟩ = some (.int .i64 0) := s9.box.2.2.2.2.1
                have gf3 := s9.cells.2.2 4
                have HI5 : Hid (i4 + 1 = i5) := HIX.out.2.2.2.2.1.symm
                rw [HI5.out] at HQ
                clear hnv s9 HV2
                go_wp2
                go_meet
                exact ⟨i5, 0, _, HQ.out, .inr ⟨rfl, HRV.out⟩⟩
            | false =>
              rw [hs2] at HA2 HRV
              rw [if_neg (by decide)] at HRV
              clear hs2
              go_wp2_with fail
              refine HA2.mono ?_
              rintro en W7 ⟨rfl, s9⟩
              have HQ := hideL s9
              clear HA2 s9
              go_wp2
              go_meet
              exact ⟨i3, 0, _, HQ.out, .inr ⟨rfl, HRV.out⟩⟩
        · have j2 : ¬ (N : Int) ≤ 2 := by omega
          rw [if_pos (by omega)] at HRV
          have HS7 := hideL s7
          clear hnv s6 HV1 s7
          go_wp2
          go_meet
          exact ⟨i3, 0, _, HS7.out, .inr ⟨rfl, HRV.out⟩⟩
  case rest =>
  obtain ⟨j, e, t, HE⟩ := hcut
  rename World => wd
  have hs0 : BT wd.drew bt (tsB t) := HE.out.1.2
  have sd : DB w0 b (some ⟨g, o, none⟩) ct L Q m out bt wd.drew j e t := HE.out.1.below (Below.refl _ _).drew
  obtain ⟨vn, q9, n9, c9, W3, hc3, hr, hc23, hs2, hc33, hf3, hs3, hs4, kds⟩ := sd.pushN ⟨3, t⟩ HBB.out.1 HOUT.out
  have HFIN : Hid (TSM w0 b (some ⟨g, o, none⟩) ct L Q m out R (W3.setCell ⟨b, 3, none⟩ (.slice q9 n9 c9))) := by
    rcases HE.out.2 with ⟨rfl, rfl⟩ | ⟨rfl, rfl⟩
    · exact ⟨_, kds⟩
    · exact kds
  obtain ⟨W2, hW2⟩ : ∃ W2, wd.drew.alloc (.cells #[.int .i64 3, .string ⟨t.f.toArray⟩, .int .i64 (t.o : Int), .int .i64 (t.fm : Int), .int .i64 t.lo, .int .i64 t.hi, .int .i64 t.ln, .string ⟨t.p.toArray⟩] 50 (0, 0)) = W2 := ⟨_, rfl⟩
  have hc23 : W2.cell? ⟨b, 3, none⟩ = some vn := by rw [← hW2]; exact hc23
  have hs2 : BT W2 bt (tsB t) := by rw [← hW2]; exact hs2
  have HR : Hid ((Builtin.append_ #[25, 25] 25 #[vn, .slice (some ⟨wd.drew.heap.size, 0, none⟩) 1 1]).run Tryz.prog W2 = .ok (.slice q9 n9 c9) W3) := by rw [← hW2]; exact hr
  clear HE sd hr kds HRR HKP HS4 HTK HNL HIN HIX HN6 HVL HFL HSG HOP
  go_wp2_with fail
  refine wp_region_held_drew (S := fun U => BT U bt (tsB t)) (by kernel_rfl) hs0 (fun _ => ?_)
  refine wpAnyH_take (i := 0) (v := .pointer (some ⟨b, 0, none⟩)) rfl (by kernel_rfl) (by kernel_rfl) (by kernel_rfl) (fun _ _ _ h => h) (Or.inl ⟨by rfl, ?_⟩) hs0 ?_
  · rintro w s1; go_simp
  refine wpAnyH_take (i := 1) (v := .pointer (some ⟨b, 0, none⟩)) rfl (by kernel_rfl) (by kernel_rfl) (by kernel_rfl) (fun _ _ _ h => h) (Or.inl ⟨by rfl, ?_⟩) hs0 ?_
  · rintro w s1; go_simp
  refine wpAnyH_take (i := 2) (v := .pointer (some ⟨b, 0, none⟩)) rfl (by kernel_rfl) (by kernel_rfl) (by kernel_rfl) (fun _ _ _ h => h) (Or.inl ⟨by rfl, ?_⟩) hs0 ?_
  · rintro w s1; go_simp
  refine wpAnyH_take (i := 3) (v := .pointer (some ⟨b, 3, none⟩)) rfl (by kernel_rfl) (by kernel_rfl) (by kernel_rfl) (fun _ _ _ h => h) (Or.inl ⟨by rfl, ?_⟩) hs0 ?_
  · rintro w s1; go_simp
  refine wpAnyH_take (i := 5) (v := .agg #[.string ⟨t.f.toArray⟩, .int .i64 (t.o : Int), .int .i64 (t.fm : Int), .int .i64 t.lo, .int .i64 t.hi, .int .i64 t.ln, .string ⟨t.p.toArray⟩]) rfl (by kernel_rfl) (by kernel_rfl) (by kernel_rfl) (fun _ _ _ h => h) (Or.inl ⟨by rfl, ?_⟩) hs0 ?_
  · rintro w s1; have q3 := (cellsZ s1).1; unfold tsB at q3; go_simp
  refine wpAnyH_take (i := 6) (v := .agg #[.int .i64 3, .string ⟨t.f.toArray⟩, .int .i64 (t.o : Int), .int .i64 (t.fm : Int), .int .i64 t.lo, .int .i64 t.hi, .int .i64 t.ln, .string ⟨t.p.toArray⟩]) rfl (by kernel_rfl) (by kernel_rfl) (by kernel_rfl) (fun _ _ _ h => h) (Or.inl ⟨by rfl, ?_⟩) hs0 ?_
  · rintro w s1; go_simp
  refine wpAnyH_ready (rs := [4, 7]) (by kernel_rfl) (by simp) ?_
  refine AllReadyH.cons rfl (fun KK hKK => ?_) (AllReadyH.cons rfl (fun KK hKK => ?_) AllReadyH.nil)
  · go_simp
    refine hKK.out _ _ hs0 (fun _ => ?_)
    clear hKK KK
    refine wpAnyH_ready (rs := [7]) (by kernel_rfl) (by simp) ?_
    refine AllReadyH.cons rfl (fun KK hKK => ?_) AllReadyH.nil
    go_simp
    refine hKK.out _ _ hs2 (fun _ => ?_)
    clear hKK KK
    refine wpAnyH_ready (rs := [8]) (by kernel_rfl) (by simp) ?_
    refine AllReadyH.cons rfl (fun KK hKK => ?_) AllReadyH.nil
    refine step_run (by rfl) _ _ _ (by rfl) (by rfl) (by rfl) HR.out ?_
    refine hKK.out _ _ hs3 (fun _ => ?_)
    clear hKK KK
    refine wpAnyH_take (i := 9) (v := .pointer (some ⟨b, 0, none⟩)) rfl (by kernel_rfl) (by kernel_rfl) (by kernel_rfl) (fun _ _ _ h => h) (Or.inl ⟨by rfl, ?_⟩) hs3 ?_
    · rintro w s1; go_simp
    refine wpAnyH_take (i := 10) (v := .pointer (some ⟨b, 3, none⟩)) rfl (by kernel_rfl) (by kernel_rfl) (by kernel_rfl) (fun _ _ _ h => h) (Or.inl ⟨by rfl, ?_⟩) hs3 ?_
    · rintro w s1; go_simp
    refine wpAnyH_ready (rs := [11]) (by kernel_rfl) (by simp) ?_
    refine AllReadyH.cons rfl (fun KK hKK => ?_) AllReadyH.nil
    go_simp
    refine hKK.out _ _ hs4 (fun _ => ?_)
    clear hKK KK
    refine wpAnyH_done (by kernel_rfl) ?_ _
    go_wp2_with fail
    go_end0
    exact ⟨rfl, HFIN.out⟩
  · go_simp
    refine hKK.out _ _ hs2 (fun _ => ?_)
    clear hKK KK
    refine wpAnyH_ready (rs := [4]) (by kernel_rfl) (by simp) ?_
    refine AllReadyH.cons rfl (fun KK hKK => ?_) AllReadyH.nil
    go_simp
    refine hKK.out _ _ hs2 (fun _ => ?_)
    clear hKK KK
    refine wpAnyH_ready (rs := [8]) (by kernel_rfl) (by simp) ?_
    refine AllReadyH.cons rfl (fun KK hKK => ?_) AllReadyH.nil
    refine step_run (by rfl) _ _ _ (by rfl) (by rfl) (by rfl) HR.out ?_
    refine hKK.out _ _ hs3 (fun _ => ?_)
    clear hKK KK
    refine wpAnyH_take (i := 9) (v := .pointer (some ⟨b, 0, none⟩)) rfl (by kernel_rfl) (by kernel_rfl) (by kernel_rfl) (fun _ _ _ h => h) (Or.inl ⟨by rfl, ?_⟩) hs3 ?_
    · rintro w s1; go_simp
    refine wpAnyH_take (i := 10) (v := .pointer (some ⟨b, 3, none⟩)) rfl (by kernel_rfl) (by kernel_rfl) (by kernel_rfl) (fun _ _ _ h => h) (Or.inl ⟨by rfl, ?_⟩) hs3 ?_
    · rintro w s1; go_simp
    refine wpAnyH_ready (rs := [11]) (by kernel_rfl) (by simp) ?_
    refine AllReadyH.cons rfl (fun KK hKK => ?_) AllReadyH.nil
    go_simp
    refine hKK.out _ _ hs4 (fun _ => ?_)
    clear hKK KK
    refine wpAnyH_done (by kernel_rfl) ?_ _
    go_wp2_with fail
    go_end0
    exact ⟨rfl, HFIN.out⟩
end Go.Proofs.YtffgkjmfeannoaaGreatDoor.Ex
