import Derived.Test.YthlgjdadkmpbbaaDoorXBO
import Derived.Deep.DeepCutAuto
import Derived.Deep.CutRange
import Derived.Test.YthlgjdadkmpbbaaDoorXBL
import Derived.Deep.RegionHeld3
namespace Go.Proofs.YthlgjdadkmpbbaaDoor
open Go.RowKit Go.Shelf
theorem info_lst : (Tryd.prog.info? 23).map (fun i => (i.zero, i.size, i.bytes)) = some (some (.slice none 0 0), 1, 24) := by kernel_rfl
theorem rown_atN {W : World} {B n c : Nat} {e : TypeId} {sz : Nat} {o : Option Addr} {xs : List Value} (h : W.ownsRow B e sz (.slice o n c) n xs) (hn : 0 < n) : ∃ g : Nat, o = some ⟨g, 0, none⟩ ∧ n ≤ c := by
  rcases h.2 with ⟨e1, e2⟩ | ⟨g, cap, cur, e1, _, _, h4, _⟩
  · omega
  · injection e1 with a1 a2 a3
    exact ⟨g, a1, by omega⟩
set_option maxRecDepth 100000 in
set_option maxHeartbeats 1000000 in
theorem mark_all (n : Int) (w : World) (hn : -1000000000000000 ≤ n ∧ n ≤ 1000000000000000) : Calls Tryd.prog 6 #[.int .i64 n] w fun e w' => e = .returned (iagg (markT n)) ∧ Below w.heap.size w w' := by
  obtain ⟨h0, h1⟩ := hn
  have e1 : IntKind.i64.wrap (100 + n) = 100 + n := by rw [IntKind.wrap_i64]; omega
  have e2 : IntKind.i64.wrap (-n) = -n := by rw [IntKind.wrap_i64]; omega
  go_enter Tryd.func6, Tryd.ntmps6
  go_wp2_with fail
  refine bodyPost_ret (res_mark _ _ w.heap.size (100 + n) [109, 97, 114, 107] n (-n) rfl (alloc_get _ _)) rfl ?_
  refine ⟨rfl, ?_⟩
  exact (Below.refl _ _).alloc (Nat.le_refl _) _
theorem bel_undN {a W : World} (h : Below a.drew.heap.size a.drew W) : Below a.heap.size a W := ⟨h.os, h.tape, h.output, h.size, h.block⟩
theorem lst_cell {W : World} {B g n c : Nat} {H : List (Value × List ITok)} (h : W.ownsRow B 23 1 (.slice (some ⟨g, 0, none⟩) n c) n (H.map (·.1))) {j : Nat} {x : Value × List ITok} (hx : H[j]? = some x) : W.cell? ⟨g, j, none⟩ = some x.1 := by
  have hl := h.1
  have hj := (List.getElem?_eq_some_iff.1 hx).1
  rw [List.length_map] at hl
  rw [h.cellAt j (by omega), List.getElem?_map, hx]
  rfl
theorem IR_of_own {W : World} {B n c : Nat} {p : Option Addr} {T : List ITok} (h : W.ownsRow B 29 4 (.slice p n c) n (iels T)) : IR W p T := by
  cases T with
  | nil => exact fun W' hW k t ht => by simp at ht
  | cons t T =>
    have hl := h.1
    rw [iels_len, List.length_cons] at hl
    obtain ⟨g, rfl, -⟩ := rown_atN h (by omega)
    exact IR_own h (fun k t ht => ht)
theorem rows_same {W : World} {x y : Value} {T : List ITok} (hx : TR W (x, T)) (hy : TR W (y, T)) (hl : T.length ≤ 65536) : Calls Tryd.prog 5 #[x, y] W fun e w' => e = .returned (.bool true) ∧ Below W.heap.size W w' := by
  obtain ⟨B1, o1⟩ := hx
  obtain ⟨B2, o2⟩ := hy
  simp only at o1 o2
  obtain ⟨p1, c1, rfl⟩ := shapeP o1
  obtain ⟨p2, c2, rfl⟩ := shapeP o2
  exact sameAllI_any T p1 p2 c1 c2 W (by omega) (IR_of_own o1) (IR_of_own o2)
/-- the tokens of the text that is scanned in round j -/
def tokAt (L : List (List UInt8)) (j : Nat) : List ITok := (scanM (L.getD (j % L.length) [])).1.map tI
/-- what stands in the first loop -/
def IA (w : World) (L : List (List UInt8)) (i : Nat) (lv wv : Value) (W : World) : Prop :=
  ∃ H Q, ISt w W H Q lv wv ∧ H.length = i ∧ Q.length = i ∧ ∀ j, j < i → (∃ x, H[j]? = some (x, tokAt L j)) ∧ ∃ y, Q[j]? = some (y, tokAt L j)
/-- the marks of a list -/
def mkR (j m : Nat) : List ITok := (List.range m).map fun (k : Nat) => markT (100000 * (j : Int) + (k : Int))
theorem mkR_len (j m : Nat) : (mkR j m).length = m := by unfold mkR; simp
theorem mkR_at {j m k : Nat} (h : k < m) : (mkR j m)[k]? = some (markT (100000 * (j : Int) + (k : Int))) := by unfold mkR; rw [List.getElem?_map, List.getElem?_range h]; rfl
theorem mk_set {Tk : List ITok} {i m k : Nat} (hk : k < m) (hm : Tk.length = m) : ((mkR i m).take k ++ Tk.drop k).set k (markT (100000 * (i : Int) + (k : Int))) = (mkR i m).take (k + 1) ++ Tk.drop (k + 1) := by
  have hl : ((mkR i m).take k).length = k := by rw [List.length_take, mkR_len]; omega
  rw [List.set_append_right _ _ (by omega), hl, Nat.sub_self, List.take_add_one, mkR_at hk, List.append_assoc]
  congr 1
  rw [List.drop_eq_getElem_cons (by omega), List.set_cons_zero]
  rfl
theorem set_same {α : Type} {l : List α} {i : Nat} {x : α} (h : l[i]? = some x) : l.set i x = l := by
  apply List.ext_getElem?
  intro j
  rw [List.getElem?_set]
  split
  · rename_i e
    subst e
    split
    · exact h.symm
    · rename_i hl
      exact absurd (List.getElem?_eq_some_iff.1 h).1 hl
  · rfl
/-- what stands in the third loop: the first i lists are marked -/
def IC (w : World) (L : List (List UInt8)) (z : Nat) (lv wv : Value) (Q H : List (Value × List ITok)) (i : Nat) (W : World) : Prop :=
  ∃ H1, ISt w W H1 Q lv wv ∧ H1.length = z ∧ ∀ j, j < z → ∃ x, H[j]? = some (x, tokAt L j) ∧ H1[j]? = some (x, if j < i then mkR j (tokAt L j).length else tokAt L j)
/-- the marks behind a list -/
def gmR (j : Nat) : List ITok := (List.range 96).map fun (k : Nat) => markT (-100000 * (j : Int) - (k : Int) - 1)
theorem gmR_len (j : Nat) : (gmR j).length = 96 := by unfold gmR; simp
theorem gmR_take {j k : Nat} (h : k < 96) : (gmR j).take (k + 1) = (gmR j).take k ++ [markT (-100000 * (j : Int) - (k : Int) - 1)] := by
  rw [List.take_add_one]
  unfold gmR
  rw [List.getElem?_map, List.getElem?_range h]
  rfl
/-- what is known of the lists that are gone on from -/
def GS (L : List (List UInt8)) (i : Nat) (H Q G : List (Value × List ITok)) : Prop := ∀ (j : Nat) (g : Value × List ITok), G[j]? = some g → g.2 = mkR j (tokAt L j).length ++ gmR j ∧ (∀ (j2 : Nat) (h : Value × List ITok), i ≤ j2 → H[j2]? = some h → disN g.1 h.1) ∧ ∀ q ∈ Q, disN g.1 q.1
/-- what stands while one list is gone on from -/
structure KD (w W : World) (i : Nat) (H Q G : List (Value × List ITok)) (lv wv gv x : Value) (T : List ITok) (k : Nat) (v : Value) : Prop where
  tr : TR W (v, T ++ (gmR i).take k)
  cr : CRW W (x, T)
  sh : v.ownBlock = x.ownBlock ∨ disN x v
  jd : JD w W (i + 1) H Q G lv wv gv
  jo : JO v.ownBlock (i + 1) H Q G
  bs : ∀ b, v.ownBlock = some b → w.heap.size ≤ b
theorem KD.below {w W X : World} {i : Nat} {H Q G : List (Value × List ITok)} {lv wv gv x v : Value} {T : List ITok} {k : Nat} (h : KD w W i H Q G lv wv gv x T k v) (hb : Below W.heap.size W X) : KD w X i H Q G lv wv gv x T k v :=
  ⟨h.tr.below hb, h.cr.below hb, h.sh, h.jd.below hb, h.jo, h.bs⟩
theorem iels_snoc (S : List ITok) (t : ITok) : iels (S ++ [t]) = iels S ++ icel t := by unfold iels; simp
theorem KD.fits {w W X : World} {i : Nat} {H Q G : List (Value × List ITok)} {lv wv gv x : Value} {T Sk : List ITok} {k n c g B : Nat} {t : ITok} (h : KD w W i H Q G lv wv gv x T k (.slice (some ⟨g, 0, none⟩) n c)) (_h1 : T ++ (gmR i).take k = Sk) (h2 : Sk.length = n) (h3 : T ++ (gmR i).take (k + 1) = Sk ++ [t]) (o7 : X.ownsRow B 29 4 (.slice (some ⟨g, 0, none⟩) (n + 1) c) (n + 1) (iels Sk ++ icel t)) (hg : W.grownBy X (some g)) : KD w X i H Q G lv wv gv x T (k + 1) (.slice (some ⟨g, 0, none⟩) (n + 1) c) := by
  obtain ⟨B0, o0⟩ := h.tr
  have tr7 : TR X (.slice (some ⟨g, 0, none⟩) (n + 1) c, T ++ (gmR i).take (k + 1)) := ⟨B, by
    simp only
    rw [h3, List.length_append, h2, iels_snoc]
    exact o7⟩
  refine ⟨tr7, ?_, h.sh, h.jd.kept o0 hg h.jo h.bs, h.jo, h.bs⟩
  rcases h.sh with e | e
  · obtain ⟨px, cx, ex, hl, hc⟩ := h.cr
    obtain ⟨q7, c7, e7, hl7, hc7⟩ := tr7.crw
    simp only at ex hl hc e7 hl7 hc7
    injection e7 with e8 _ _
    subst e8
    refine ⟨px, cx, ex, fun b hb => Nat.lt_of_lt_of_le (hl b hb) hg.size, fun j u hu => ?_⟩
    obtain ⟨g2, rfl, _⟩ := hc j u hu
    have e9 : g = g2 := by
      rw [ex] at e
      injection e
    subst e9
    obtain ⟨g3, e3, r⟩ := hc7 j u (by rw [List.getElem?_append_left (List.getElem?_eq_some_iff.1 hu).1]; exact hu)
    injection e3 with e3
    injection e3 with e3
    subst e3
    exact ⟨g, rfl, r⟩
  · exact h.cr.kept hg (offN_dis e.symm)
theorem KD.grows {w W X : World} {i : Nat} {H Q G : List (Value × List ITok)} {lv wv gv x v v7 : Value} {T Sk : List ITok} {k n : Nat} {t : ITok} (h : KD w W i H Q G lv wv gv x T k v) (_h1 : T ++ (gmR i).take k = Sk) (h2 : Sk.length = n) (h3 : T ++ (gmR i).take (k + 1) = Sk ++ [t]) (o7 : X.ownsRow W.heap.size 29 4 v7 (n + 1) (iels Sk ++ icel t)) (hg : W.grownBy X none) : KD w X i H Q G lv wv gv x T (k + 1) v7 := by
  have hb := below_of_none hg
  have off : ∀ {y : Value}, (∀ b, y.ownBlock = some b → b < W.heap.size) → offN v7.ownBlock y := fun hy => by
    refine offN_dis (fun b e1 e2 => ?_)
    have := (o7.lt b e1).1
    have := hy b e2
    omega
  have jd := h.jd
  obtain ⟨_, _, _, hl, _⟩ := h.cr
  refine ⟨⟨_, by
    simp only
    rw [h3, List.length_append, h2, iels_snoc]
    exact o7⟩, h.cr.below hb, .inr (fun b e1 e2 => ?_), jd.below hb, ⟨fun j y a b => off (jd.hk j y a b).lt, fun j y g a b => ?_, fun q hq => off (jd.qk q hq).lt⟩, fun b e => Nat.le_trans jd.be.size (o7.lt b e).1⟩
  · have := (o7.lt b e2).1
    have := hl b e1
    omega
  · obtain ⟨r1, r2⟩ := jd.fk j y g a b
    obtain ⟨_, _, _, l1, _⟩ := r1
    obtain ⟨_, _, _, l2, _⟩ := r2
    exact ⟨off l1, off l2⟩
theorem KD.start {w W : World} {L : List (List UInt8)} {i : Nat} {H Q G : List (Value × List ITok)} {lv wv gv x : Value} {T : List ITok} (h : JD w W i H Q G lv wv gv) (hl : G.length = i) (hs : GS L i H Q G) (hx : H[i]? = some (x, T)) (pw : (H.map (·.1)).Pairwise disN) (hq : ∀ h ∈ H, ∀ q ∈ Q, disN h.1 q.1) (hb : ∀ h ∈ H, ∀ k, h.1.ownBlock = some k → w.heap.size ≤ k) : KD w W i H Q G lv wv gv x T 0 x := by
  have tx := h.hk i _ (Nat.le_refl _) hx
  have hm := List.mem_of_getElem? hx
  refine ⟨by rw [List.take_zero, List.append_nil]; exact tx, tx.crw, .inl rfl, h.next, ⟨fun j y hj hy => offN_dis (pw_at pw hx hy (by omega)), fun j y g hy hg => ?_, fun q hq2 => offN_dis (hq _ hm q hq2)⟩, hb _ hm⟩
  have hj : j < G.length := (List.getElem?_eq_some_iff.1 hg).1
  exact ⟨offN_dis (pw_at pw hx hy (by omega)), offN_dis (((hs j g hg).2.1 i _ (Nat.le_refl _) hx).symm)⟩
theorem below_cell {W X : World} {g j : Nat} {v : Value} (hb : Below W.heap.size W X) (h : W.cell? ⟨g, j, none⟩ = some v) : X.cell? ⟨g, j, none⟩ = some v :=
  (hb.cell (World.block_lt_of_cell? W _ h)).trans h
/-- a token of a mark lies at a place -/
def tok4 (W : World) (b o : Nat) (N : Int) : Prop := W.cell? ⟨b, o, none⟩ = some (.int .i64 (100 + N)) ∧ W.cell? ⟨b, o + 1, none⟩ = some (.string ⟨#[109, 97, 114, 107]⟩) ∧ W.cell? ⟨b, o + 2, none⟩ = some (.int .i64 N) ∧ W.cell? ⟨b, o + 3, none⟩ = some (.int .i64 (-N))
/-- a token lies in a block -/
def TB (W : World) (b : Nat) (t : ITok) : Prop := W.heap[b]? = some (.cells #[.int .i64 t.1, .string ⟨t.2.1.toArray⟩, .int .i64 t.2.2.1, .int .i64 t.2.2.2] 29 (0, 0))
theorem tb_put {W : World} {b : Nat} {x0 x1 x2 x3 : Value} {N : Int} (h : W.heap[b]? = some (.cells #[x0, x1, x2, x3] 29 (0, 0))) : TB ((((W.setCell ⟨b, 0, none⟩ (.int .i64 (100 + N))).setCell ⟨b, 1, none⟩ (.string ⟨#[109, 97, 114, 107]⟩)).setCell ⟨b, 2, none⟩ (.int .i64 N)).setCell ⟨b, 3, none⟩ (.int .i64 (-N))) b (markT N) := by
  have h0 := Go.heap_setCell_same W b 0 _ _ (.int .i64 (100 + N)) h
  have h1 := Go.heap_setCell_same _ b 1 _ _ (.string ⟨#[109, 97, 114, 107]⟩) h0
  have h2 := Go.heap_setCell_same _ b 2 _ _ (.int .i64 N) h1
  have h3 := Go.heap_setCell_same _ b 3 _ _ (.int .i64 (-N)) h2
  unfold TB
  rw [h3]
  rfl
theorem tb_new (w : World) (N : Int) : TB (w.alloc (.cells #[.int .i64 (100 + N), .string ⟨#[109, 97, 114, 107]⟩, .int .i64 N, .int .i64 (-N)] 29 (0, 0))) w.heap.size (markT N) := alloc_get _ _
theorem tb_tok {W : World} {b : Nat} {N : Int} (h : TB W b (markT N)) : tok4 W b 0 N := by
  unfold TB at h
  exact ⟨cell_of_row W _ 0 _ _ _ h, cell_of_row W _ 1 _ _ _ h, cell_of_row W _ 2 _ _ _ h, cell_of_row W _ 3 _ _ _ h⟩
theorem tokE1 {i m k : Nat} (h : k < m) : (mkR i m ++ gmR i)[k]? = some (markT (100000 * (i : Int) + (k : Int))) := by
  rw [List.getElem?_append_left (by rw [mkR_len]; exact h)]
  exact mkR_at h
theorem tokE2 {i m k : Nat} (h : m ≤ k) (h2 : k < m + 96) : (mkR i m ++ gmR i)[k]? = some (markT (-100000 * (i : Int) - ((k : Int) - (m : Int)) - 1)) := by
  rw [List.getElem?_append_right (by rw [mkR_len]; exact h), mkR_len]
  unfold gmR
  rw [List.getElem?_map, List.getElem?_range (by omega)]
  show some (markT (-100000 * (i : Int) - ((k - m : Nat) : Int) - 1)) = _
  rw [Int.ofNat_sub h]
theorem rblk_cellsN {W : World} {b T : Nat} {cs : Array Value} (h : W.heap[b]? = some (.cells cs T (0, 0))) : (∀ j, W.cell? ⟨b, j, none⟩ = cs[j]?) ∧ ∀ j, W.frozen? ⟨b, j, none⟩ = false := by
  constructor
  · intro j; unfold World.cell?; rw [h]; simp
  · intro j; unfold World.frozen?; rw [h]; simp
set_option maxRecDepth 100000 in
set_option maxHeartbeats 8000000 in
theorem scanIsNew_part (L : List (List UInt8)) (n n0 : Nat) (o : Option Addr) (c : Nat) (w : World) (hL : L.length = n0) (hcs : (n ≤ 40 ∧ n0 = n) ∨ (40 < n ∧ n0 = 40)) (hnc : n ≤ c) (hn0 : 0 < n0) (hr : IRS w o L) (hl : ∀ t ∈ L, t.length ≤ 281474976710656) (hv1 : SH w) (hv4 : SG w) (hv5 : VW w) (hlen : ∀ t ∈ L, (scanM t).1.length ≤ 65536) :
    Calls Tryd.prog 3 #[.slice o n c] w fun e w' => e = .returned (.bool true) ∧ Below w.heap.size w w' := by
  have h40 : n0 ≤ 40 := by omega
  have HOG : Hid (∃ g q, o = some ⟨g, q, none⟩) := by
    obtain ⟨t, ht⟩ : ∃ t, L[0]? = some t := ⟨_, List.getElem?_eq_getElem (by omega)⟩
    obtain ⟨g, q, e, -⟩ := hr w (Below.refl _ _) 0 t ht
    exact ⟨g, q, e⟩
  obtain ⟨i0, hi, hz0, hz1, hz2⟩ := info_parts info_tok
  obtain ⟨il, hil, hl0, hl1, hl2⟩ := info_parts info_lst
  have HL : Hid (L.length = n0) := hL
  have HR : Hid (IRS w o L) := hr
  have HSA : Hid (Calls Tryd.prog 4 #[.string ⟨#[97]⟩] w fun e w' => ∃ p c, e = .returned (.tuple #[.slice p 2 c, .int .i64 0, .int .i64 0, .int .i64 0]) ∧ Below w.heap.size w w') := by
    obtain ⟨p, q, hs⟩ := scan_a
    refine (scan_any [97] w (by decide) hv1 hv4 (FOK_of hv5)).mono ?_
    rintro e w' ⟨v, rfl, ho, hb⟩
    rw [hs] at ho ⊢
    obtain ⟨p2, c2, rfl⟩ := shapeP ho
    exact ⟨p2, c2, rfl, hb⟩
  have HSC : Hid (∀ (W : World) (j : Nat) (t : List UInt8), Below w.heap.size w W → L[j % n0]? = some t → Calls Tryd.prog 4 #[.string ⟨t.toArray⟩] W fun e w' => ∃ v e1 e2 e3, e = .returned (.tuple #[v, .int .i64 e1, .int .i64 e2, .int .i64 e3]) ∧ w'.ownsRow W.heap.size 29 4 v (tokAt L j).length (iels (tokAt L j)) ∧ Below W.heap.size W w') := fun W j t hW ht => by
    refine (scan_any t W (hl t (List.mem_of_getElem? ht)) (hv1.below hW) (hv4.below hW) (FOK_of (hv5.below hW))).mono ?_
    rintro e w' ⟨v, rfl, ho, hb⟩
    refine ⟨v, _, _, _, rfl, ?_, hb⟩
    unfold tokAt
    rw [hL, show L.getD (j % n0) [] = t by simp [List.getD, ht], List.length_map, ← tcels_i]
    exact ho
  have HTL : Hid (∀ j, (tokAt L j).length ≤ 65536) := fun j => by
    unfold tokAt
    rw [List.length_map, hL]
    have hlt : j % n0 < L.length := by rw [hL]; exact Nat.mod_lt _ hn0
    obtain ⟨t, ht⟩ : ∃ t, L[j % n0]? = some t := ⟨_, List.getElem?_eq_getElem hlt⟩
    rw [show L.getD (j % n0) [] = t by simp [List.getD, ht]]
    exact hlen t (List.mem_of_getElem? ht)
  have k1 : ¬ (40 : Int) < (n0 : Int) := by omega
  have k2 : (n0 : Int) ≠ 0 := by omega
  clear hL hr hl hv1 hv4 hv5 hlen
  go_enter Tryd.func3, Tryd.ntmps3
  go_wp2_with fail
  refine HSA.out.mono ?_
  rintro e W0 ⟨pa, ca, rfl, hb0⟩
  clear HSA
  go_upto_if 47 with fail
  go_cut [0] from 45 to 50 (fun v wc => v = .slice o n0 c ∧ W0 = wc)
  case first =>
    clear HSC HTL HR HL k1
    rcases hcs with ⟨h1, h2⟩ | ⟨h1, h2⟩
    · have k1 : ¬ (40 : Int) < (n : Int) := by omega
      go_wp2_with fail
      go_meet
      exact ⟨by rw [h2], rfl⟩
    · have k1 : (40 : Int) < (n : Int) := by omega
      have k3 : (40 : Int) ≤ (c : Int) := by omega
      have k4 : 40 ≤ c := by omega
      obtain ⟨g0, q0, rfl⟩ := HOG.out
      go_wp2_with fail
      go_meet
      exact ⟨by rw [h2], rfl⟩
  obtain ⟨hv0, hw0⟩ := hcut
  subst hv0
  subst hw0
  clear hcs hnc HOG
  go_wp2_with fail
  go_loopw [8, 9, 11] (fun v8 v9 v11 wr => ∃ i : Nat, v11 = .int .i64 (i : Int) ∧ i ≤ 2 * n0 ∧ IA w L i v8 v9 wr) (fun _ _ v11 _ => 2 * n0 - (intOf v11).toNat)
  case atStart => exact ⟨0, rfl, Nat.zero_le _, [], [], ISt.start w W0 hb0, rfl, rfl, fun j h => by omega⟩
  case round =>
    clear hb0
    obtain ⟨i, rfl, hin, hIA⟩ := hrel
    by_cases hlt : i < 2 * n0
    · have j1 : (i : Int) < 2 * (n0 : Int) := by omega
      have j0 : (0 : Int) ≤ (i : Int) := by omega
      obtain ⟨H, Q, hS, hH, hQ, hT⟩ := hIA
      have hmlt : i % n0 < n0 := Nat.mod_lt _ hn0
      obtain ⟨t, ht⟩ : ∃ t, L[i % n0]? = some t := ⟨_, List.getElem?_eq_getElem (by rw [HL.out]; exact hmlt)⟩
      obtain ⟨g, o0, rfl, p0⟩ := HR.out wr hS.be (i % n0) t ht
      have j2 : (0 : Int) ≤ (i : Int) % (n0 : Int) := by omega
      have j3 : (i : Int) % (n0 : Int) < (n0 : Int) := by omega
      have HS1 := HSC.out wr i t hS.be ht
      obtain ⟨Tk, hTk⟩ : ∃ T, tokAt L i = T := ⟨_, rfl⟩
      have hTl : Tk.length ≤ 65536 := by rw [← hTk]; exact HTL.out i
      obtain ⟨m, hml⟩ : ∃ m, Tk.length = m := ⟨_, rfl⟩
      rw [hml] at hTl
      rw [hTk, hml] at HS1
      have HST : Hid (ISt w wr H Q u8 u9 ∧ H.length = i ∧ Q.length = i ∧ (∀ j, j < i → (∃ x, H[j]? = some (x, tokAt L j)) ∧ ∃ y, Q[j]? = some (y, tokAt L j)) ∧ tokAt L i = Tk) := ⟨hS, hH, hQ, hT, hTk⟩
      have HS1' : Hid (Calls Tryd.prog 4 #[.string ⟨t.toArray⟩] wr fun e w' => ∃ v e1 e2 e3, e = .returned (.tuple #[v, .int .i64 e1, .int .i64 e2, .int .i64 e3]) ∧ w'.ownsRow wr.heap.size 29 4 v m (iels Tk) ∧ Below wr.heap.size wr w') := HS1
      clear hS hH hQ hT hTk HS1 ht
      go_wp2_with fail
      refine HS1'.out.mono ?_
      rintro e W1 ⟨v, e1, e2, e3, rfl, ov, hb1⟩
      clear HS1'
      obtain ⟨pv, cv, rfl⟩ := shapeP ov
      obtain ⟨hS, hH, hQ, hT, hTk⟩ := HST.out
      have hS1 := hS.below hb1
      have oL := hS1.lo
      have HOV : Hid (W1.ownsRow wr.heap.size 29 4 (.slice pv m cv) m (iels Tk)) := ov
      have hHl : H.length ≤ 80 := by omega
      have hw1 : w.heap.size ≤ W1.heap.size := hS1.be.size
      clear hS hH hQ hT hTk ov
      go_upto_region 13 with (at_builtin; refine wpList_append_lies _ rfl _ _ 27 rfl w.heap.size 23 il _ 1 24 Tryd.underlying27 hil hl0 hl1 hl2 rfl (by decide) _ H.length (H.map (·.1)) rfl (oL.alloc _) ⟨_, 0, none⟩ 1 1 [.slice pv m cv] rfl rfl (World.news_of_block (cs := #[.slice pv m cv]) (t := 23) (fr := (0, 0)) (alloc_get _ _)) (by simp [Value.oneCell']) (by omega) (by unfold maxLen; omega) (by omega) (by simp; omega) _ rfl ?_; intro gl cl W2 o2 hg2 hat2 hlt2)
      have hal : Below W1.heap.size W1 (W1.alloc (.cells #[.slice pv m cv] 23 (0, 0))) := (Below.refl _ _).alloc (Nat.le_refl _) _
      have ovA := owns_below HOV.out hal
      have hS2 : ISt w W2 (H ++ [(.slice pv m cv, Tk)]) Q (.slice (some ⟨gl, 0, none⟩) (H.length + 1) cl) u9 :=
        (hS1.below hal).list (N := (.slice pv m cv, Tk)) o2 hg2 (hat2.imp id (fun e => by rw [e]; exact Nat.le_refl _)) ⟨_, by rw [show ((Value.slice pv m cv, Tk) : Value × List ITok).2.length = m from hml]; exact ovA⟩ (fun k e => by have := (HOV.out.lt k e).1; have := HST.out.1.be.size; omega) (fun x hx => by obtain ⟨B, ox⟩ := HST.out.1.hk x hx; exact disN_new HOV.out ox (Nat.le_refl _)) (fun q hq => by obtain ⟨B, oq⟩ := HST.out.1.qk q hq; exact (disN_new HOV.out oq (Nat.le_refl _)).symm)
      have HS2 : Hid (ISt w W2 (H ++ [(.slice pv m cv, Tk)]) Q (.slice (some ⟨gl, 0, none⟩) (H.length + 1) cl) u9) := hS2
      have HOW : Hid (∃ B, W2.ownsRow B 29 4 (.slice pv m cv) m (iels Tk)) := by
        obtain ⟨B, o9⟩ := hS2.hk (.slice pv m cv, Tk) (by simp)
        rw [show (Value.slice pv m cv, Tk).2.length = m from hml] at o9
        exact ⟨B, o9⟩
      clear o2 hg2 hat2 hlt2 ovA hal hS1 oL hS2
      go_wp2_with (at_make; refine wpList_make_full _ rfl _ _ 23 rfl W2.heap.size 29 i0 (.agg #[.int .i64 0, .string ⟨#[]⟩, .int .i64 0, .int .i64 0]) 4 Tryd.underlying23 hi hz0 hz1 .i64 .i64 _ _ m rfl rfl rfl rfl (by rw [hz2]; omega) (by unfold maxLen; omega) (Nat.le_refl _) ?_; intro w3 hO3 hg3)
      rw [iels_made] at hO3
      have O3 : Hid (w3.ownsRow W2.heap.size 29 4 (.slice (some ⟨W2.heap.size, 0, none⟩) m m) m (iels (List.replicate m zeroT))) := hO3
      have B3 : Hid (Below W2.heap.size W2 w3) := (Below.refl _ _).grown hg3 (Nat.le_refl _) (fun k e => by cases e)
      clear hO3 hg3 HOV hb1 p0
      go_loopw [17] (fun vk wq => ∃ k : Nat, k ≤ m ∧ vk = .int .i64 k ∧ wq.ownsRow W2.heap.size 29 4 (.slice (some ⟨W2.heap.size, 0, none⟩) m m) m (iels (Tk.take k ++ List.replicate (m - k) zeroT)) ∧ Below W2.heap.size W2 wq) (fun vk _ => m - (intOf vk).toNat)
      case atStart => exact ⟨0, Nat.zero_le _, rfl, O3.out, B3.out⟩
      case round =>
        clear O3 B3
        obtain ⟨k, hk, rfl, o1, hB⟩ := hrel
        by_cases hkm : k < m
        · have q1 : (k : Int) < (m : Int) := by omega
          have q0 : (0 : Int) ≤ (k : Int) := by omega
          obtain ⟨x, hx⟩ : ∃ x, Tk[k]? = some x := ⟨_, List.getElem?_eq_getElem (by rw [hml]; exact hkm)⟩
          have htl : (Tk.take k).length = k := by rw [List.length_take, hml]; omega
          have f1 := fill_set Tk k (m - (k + 1)) hx
          rw [show (m - (k + 1)) + 1 = m - k by omega] at f1
          have l1 : k < (Tk.take k ++ List.replicate (m - k) zeroT).length := by rw [List.length_append, htl, List.length_replicate]; omega
          obtain ⟨zt1, hzt1⟩ : ∃ z, (Tk.take k ++ List.replicate (m - k) zeroT)[k]? = some z := ⟨_, List.getElem?_eq_getElem l1⟩
          obtain ⟨x0, x1, x2, x3⟩ := itok_cell o1 hzt1
          have q9 := put4k_own x o1 l1
          rw [f1] at q9
          have Q9 : Hid ((put4k wr W2.heap.size k x).ownsRow W2.heap.size 29 4 (.slice (some ⟨W2.heap.size, 0, none⟩) m m) m (iels (Tk.take (k + 1) ++ List.replicate (m - (k + 1)) zeroT))) := q9.1
          have hB9 : Hid (Below W2.heap.size W2 (put4k wr W2.heap.size k x)) := hB.grown q9.2 hB.size (fun k e => by injection e with e; omega)
          have fr1 : ∀ j, wr.frozen? ⟨W2.heap.size, j, none⟩ = false := o1.frozenAt
          obtain ⟨B, oW⟩ := HOW.out
          obtain ⟨gv, rfl, -⟩ := rown_atN oW (by omega)
          obtain ⟨p1, p2, p3, p4⟩ := itok_cell (owns_below oW hB) hx
          obtain ⟨a, xs, ln, cl2⟩ := x
          simp only at p1 p2 p3 p4
          clear q9 o1 f1 htl l1 hx hzt1 oW
          go_wp2_with fail
          go_roundw
          case rel => exact ⟨k + 1, by omega, by go_num, Q9.out, hB9.out⟩
          case measure => simp [intOf]; omega
        · have q1 : ¬ (k : Int) < (m : Int) := by omega
          obtain rfl : k = m := by omega
          have c1 : Tk.take k ++ List.replicate (k - k) zeroT = Tk := by
            rw [Nat.sub_self, List.take_of_length_le (by rw [hml]; exact Nat.le_refl _)]
            simp
          rw [c1] at o1
          have HO1 : Hid (wr.ownsRow W2.heap.size 29 4 (.slice (some ⟨W2.heap.size, 0, none⟩) k k) k (iels Tk)) := o1
          have hS4 := HS2.out.below hB
          have oQ := hS4.wo
          have hQl : Q.length ≤ 80 := by have := HST.out.2.2.1; omega
          have hw4 : w.heap.size ≤ wr.heap.size := hS4.be.size
          clear o1 c1
          go_wp2_with (at_builtin; refine wpList_append_lies _ rfl _ _ 27 rfl w.heap.size 23 il _ 1 24 Tryd.underlying27 hil hl0 hl1 hl2 rfl (by decide) _ Q.length (Q.map (·.1)) rfl (oQ.alloc _) ⟨_, 0, none⟩ 1 1 [.slice (some ⟨W2.heap.size, 0, none⟩) k k] rfl rfl (World.news_of_block (cs := #[.slice (some ⟨W2.heap.size, 0, none⟩) k k]) (t := 23) (fr := (0, 0)) (alloc_get _ _)) (by simp [Value.oneCell']) (by omega) (by unfold maxLen; omega) (by omega) (by simp; omega) _ rfl ?_; intro gw cw W5 o5 hg5 hat5 hlt5)
          have hal : Below wr.heap.size wr (wr.alloc (.cells #[.slice (some ⟨W2.heap.size, 0, none⟩) k k] 23 (0, 0))) := (Below.refl _ _).alloc (Nat.le_refl _) _
          have hS5 := (hS4.below hal).was (N := (.slice (some ⟨W2.heap.size, 0, none⟩) k k, Tk)) o5 hg5 (hat5.imp id (fun e => by rw [e]; exact Nat.le_refl _)) ⟨_, by rw [show ((Value.slice (some ⟨W2.heap.size, 0, none⟩) k k, Tk) : Value × List ITok).2.length = k from hml]; exact owns_below HO1.out hal⟩ (fun x hx => by obtain ⟨B, ox⟩ := HS2.out.hk x hx; exact disN_new HO1.out ox (Nat.le_refl _))
          have HIA : Hid (IA w L (i + 1) (.slice (some ⟨gl, 0, none⟩) (H.length + 1) cl) (.slice (some ⟨gw, 0, none⟩) (Q.length + 1) cw) W5) := by
            obtain ⟨-, hH, hQ, hT, hTk⟩ := HST.out
            refine ⟨_, _, hS5, by simp [hH], by simp [hQ], fun j hj => ?_⟩
            by_cases e : j < i
            · obtain ⟨⟨x, hx⟩, y, hy⟩ := hT j e
              exact ⟨⟨x, by rw [List.getElem?_append_left (by omega)]; exact hx⟩, y, by rw [List.getElem?_append_left (by omega)]; exact hy⟩
            · obtain rfl : j = i := by omega
              rw [hTk]
              exact ⟨⟨_, by rw [← hH, List.getElem?_concat_length]⟩, _, by rw [← hQ, List.getElem?_concat_length]⟩
          clear o5 hg5 hat5 hlt5 hal hS4 hS5 oQ HS2 HOW HO1
          go_wp2_with fail
          go_roundw
          case rel => exact ⟨i + 1, by go_num, by omega, HIA.out⟩
          case measure => simp [intOf]; omega
    · have j1 : ¬ (i : Int) < 2 * (n0 : Int) := by omega
      obtain rfl : i = 2 * n0 := by omega
      obtain ⟨H, Q, hS, hH, hQ, hT⟩ := hIA
      obtain ⟨W3, rfl⟩ : ∃ W3, W3 = wr := ⟨wr, rfl⟩
      obtain ⟨z, hzz⟩ : ∃ z, 2 * n0 = z := ⟨_, rfl⟩
      have hzI : (2 : Int) * (n0 : Int) = (z : Int) := by omega
      rw [hzz] at hH hQ hT
      have oL := hS.lo
      have oW := hS.wo
      rw [hH] at oL
      rw [hQ] at oW
      obtain ⟨pl, cl, rfl⟩ := shapeP oL
      obtain ⟨gl, rfl, hcl⟩ := rown_atN oL (by omega)
      obtain ⟨pw, cw, rfl⟩ := shapeP oW
      obtain ⟨gw, rfl, hcw⟩ := rown_atN oW (by omega)
      have HS3 : Hid (ISt w W3 H Q (.slice (some ⟨gl, 0, none⟩) z cl) (.slice (some ⟨gw, 0, none⟩) z cw) ∧ H.length = z ∧ Q.length = z ∧ ∀ j, j < z → (∃ x, H[j]? = some (x, tokAt L j)) ∧ ∃ y, Q[j]? = some (y, tokAt L j)) := ⟨hS, hH, hQ, hT⟩
      have HCE : Hid (∀ W, Below W3.heap.size W3 W → (∀ j x, H[j]? = some x → W.cell? ⟨gl, j, none⟩ = some x.1) ∧ ∀ j x, Q[j]? = some x → W.cell? ⟨gw, j, none⟩ = some x.1) := fun W hW => ⟨fun j x hx => lst_cell (owns_below oL hW) hx, fun j x hx => lst_cell (owns_below oW hW) hx⟩
      clear hS hH hQ hT oL oW
      go_upto_region 19 with fail
      go_wp2_with fail
      go_loopw [18] (fun v18 wr => ∃ i : Nat, v18 = .int .i64 (i : Int) ∧ i ≤ z ∧ Below W3.heap.size W3 wr) (fun v18 _ => z - (intOf v18).toNat)
      case atStart => exact ⟨0, rfl, Nat.zero_le _, Below.refl _ _⟩
      case round =>
        obtain ⟨i, rfl, hin, hB⟩ := hrel
        by_cases hiz : i < z
        · have q1 : (i : Int) < 2 * (n0 : Int) := by omega
          have q0 : (0 : Int) ≤ (i : Int) := by omega
          have q2 : (i : Int) < (z : Int) := by omega
          have q3 : (0 : Int) ≤ (i : Int) % (n0 : Int) := by omega
          have q4 : (i : Int) % (n0 : Int) < (z : Int) := by have := Int.emod_lt_of_pos (i : Int) (b := (n0 : Int)) (by omega); omega
          obtain ⟨⟨x, hx⟩, y, hy⟩ := HS3.out.2.2.2 i hiz
          have em : ((i : Int) % (n0 : Int)).toNat = i % n0 := by omega
          have kk1 : ((n0 : Int) == 0) = false := beq_false_of_ne k2
          have kk2 : (i : Int).tmod (n0 : Int) = (i : Int) % (n0 : Int) := Int.tmod_eq_emod_of_nonneg q0
          have kk3 : IntKind.i64.wrap ((i : Int) % (n0 : Int)) = (i : Int) % (n0 : Int) := by rw [IntKind.wrap_i64]; omega
          have hlt2 : i % n0 < z := by have := Nat.mod_lt i hn0; omega
          obtain ⟨-, y2, hy2⟩ := HS3.out.2.2.2 (i % n0) hlt2
          have ee : tokAt L (i % n0) = tokAt L i := by unfold tokAt; rw [HL.out, Nat.mod_mod]
          rw [ee] at hy2
          obtain ⟨Tk, hTk⟩ : ∃ T, tokAt L i = T := ⟨_, rfl⟩
          have hTl : Tk.length ≤ 65536 := by rw [← hTk]; exact HTL.out i
          rw [hTk] at hx hy hy2
          have HC1 : Hid (∀ W, Below W3.heap.size W3 W → Calls Tryd.prog 5 #[x, y] W fun e w' => e = .returned (.bool true) ∧ Below W.heap.size W w') := fun W hW => rows_same ((HS3.out.1.hk _ (List.mem_of_getElem? hx)).below hW) ((HS3.out.1.qk _ (List.mem_of_getElem? hy)).below hW) hTl
          have HC2 : Hid (∀ W, Below W3.heap.size W3 W → Calls Tryd.prog 5 #[y, y2] W fun e w' => e = .returned (.bool true) ∧ Below W.heap.size W w') := fun W hW => rows_same ((HS3.out.1.qk _ (List.mem_of_getElem? hy)).below hW) ((HS3.out.1.qk _ (List.mem_of_getElem? hy2)).below hW) hTl
          have HC0 : Hid (∀ W, Below W3.heap.size W3 W → W.cell? ⟨gl, i, none⟩ = some x ∧ W.cell? ⟨gw, i, none⟩ = some y ∧ W.cell? ⟨gw, ((i : Int) % (n0 : Int)).toNat, none⟩ = some y2) := fun W hW => ⟨(HCE.out W hW).1 i _ hx, (HCE.out W hW).2 i _ hy, by rw [em]; exact (HCE.out W hW).2 _ _ hy2⟩
          have p0 := HC0.out _ hB
          clear hx hy hy2 hTk hTl ee em
          go_upto_region 22 with fail
          refine quiet_lit3 (C := fun W => Below W3.heap.size W3 W) (by kernel_rfl) (by kernel_rfl) (show Below _ _ _ from hB.drew) ?_
          go_big_quiet_want
          go_big_quiet_op
          go_big_quiet_on
          go_big_quiet_want
          go_big_quiet_op
          go_big_quiet_on
          go_big_quiet_want
          refine ⟨.pointer (some ⟨gl, i, none⟩), fun W hW => ?_, ?_⟩
          · go_simp
          go_big_quiet_on
          simp only [Act.put, List.setIfInBounds_toArray, List.set_cons_zero, List.set_cons_succ]
          go_big_quiet_want
          refine ⟨x, fun W hW => ?_, ?_⟩
          · obtain ⟨c1, c2, c3⟩ := HC0.out W hW
            go_simp
          go_big_quiet_on
          simp only [Act.put, List.setIfInBounds_toArray, List.set_cons_zero, List.set_cons_succ]
          go_big_quiet_want
          go_big_quiet_op
          go_big_quiet_on
          go_big_quiet_want
          go_big_quiet_op
          go_big_quiet_on
          go_big_quiet_want
          refine ⟨.pointer (some ⟨gw, i, none⟩), fun W hW => ?_, ?_⟩
          · go_simp
          go_big_quiet_on
          simp only [Act.put, List.setIfInBounds_toArray, List.set_cons_zero, List.set_cons_succ]
          go_big_quiet_want
          refine ⟨y, fun W hW => ?_, ?_⟩
          · obtain ⟨c1, c2, c3⟩ := HC0.out W hW
            go_simp
          go_big_quiet_on
          simp only [Act.put, List.setIfInBounds_toArray, List.set_cons_zero, List.set_cons_succ]
          go_big_quiet_want
          refine ⟨.bool true, fun W hW => ?_, ?_⟩
          · go_simp
            refine (HC1.out _ hW).mono ?_
            rintro e w7 ⟨rfl, hb⟩
            exact ⟨rfl, bel0 hW hb⟩
          go_big_quiet_on
          simp only [Act.put, List.setIfInBounds_toArray, List.set_cons_zero, List.set_cons_succ]
          go_big_quiet_want
          refine ⟨.bool false, fun W hW => ?_, ?_⟩
          · go_simp
          go_big_quiet_on
          simp only [Act.put, List.setIfInBounds_toArray, List.set_cons_zero, List.set_cons_succ]
          go_big_quiet_want
          go_big_quiet_op
          go_big_quiet_on
          go_big_quiet_want
          go_big_quiet_op
          go_big_quiet_on
          go_big_quiet_want
          go_big_quiet_op
          go_big_quiet_on
          go_big_quiet_want
          refine ⟨.pointer (some ⟨gw, i, none⟩), fun W hW => ?_, ?_⟩
          · go_simp
          go_big_quiet_on
          simp only [Act.put, List.setIfInBounds_toArray, List.set_cons_zero, List.set_cons_succ]
          go_big_quiet_want
          refine ⟨y, fun W hW => ?_, ?_⟩
          · obtain ⟨c1, c2, c3⟩ := HC0.out W hW
            go_simp
          go_big_quiet_on
          simp only [Act.put, List.setIfInBounds_toArray, List.set_cons_zero, List.set_cons_succ]
          go_big_quiet_want
          go_big_quiet_op
          go_big_quiet_on
          go_big_quiet_want
          go_big_quiet_op
          go_big_quiet_on
          go_big_quiet_want
          go_big_quiet_op
          go_big_quiet_on
          go_big_quiet_want
          refine ⟨.int .i64 ((i : Int) % (n0 : Int)), fun W hW => ?_, ?_⟩
          · go_simp
            rw [if_neg (by omega)]
            exact ⟨rfl, rfl⟩
          go_big_quiet_on
          simp only [Act.put, List.setIfInBounds_toArray, List.set_cons_zero, List.set_cons_succ]
          go_big_quiet_want
          refine ⟨.pointer (some ⟨gw, ((i : Int) % (n0 : Int)).toNat, none⟩), fun W hW => ?_, ?_⟩
          · go_simp
          go_big_quiet_on
          simp only [Act.put, List.setIfInBounds_toArray, List.set_cons_zero, List.set_cons_succ]
          go_big_quiet_want
          refine ⟨y2, fun W hW => ?_, ?_⟩
          · obtain ⟨c1, c2, c3⟩ := HC0.out W hW
            go_simp
          go_big_quiet_on
          simp only [Act.put, List.setIfInBounds_toArray, List.set_cons_zero, List.set_cons_succ]
          go_big_quiet_want
          refine ⟨.bool true, fun W hW => ?_, ?_⟩
          · go_simp
            refine (HC2.out _ hW).mono ?_
            rintro e w7 ⟨rfl, hb⟩
            exact ⟨rfl, bel0 hW hb⟩
          go_big_quiet_on
          simp only [Act.put, List.setIfInBounds_toArray, List.set_cons_zero, List.set_cons_succ]
          go_big_quiet_want
          refine ⟨.bool false, fun W hW => ?_, ?_⟩
          · go_simp
          go_big_quiet_on
          simp only [Act.put, List.setIfInBounds_toArray, List.set_cons_zero, List.set_cons_succ]
          go_big_quiet_want
          refine ⟨.bool false, fun W hW => ?_, ?_⟩
          · go_simp
          go_big_quiet_on
          simp only [Act.put, List.setIfInBounds_toArray, List.set_cons_zero, List.set_cons_succ]
          refine wpQuiet_nil ?_
          intro W hW
          clear HC0 HC1 HC2 p0
          go_wp2_with fail
          go_roundw
          case rel => exact ⟨i + 1, by go_num, by omega, hW⟩
          case measure => simp [intOf]; omega
        · have q1 : ¬ (i : Int) < 2 * (n0 : Int) := by omega
          obtain rfl : i = z := by omega
          obtain ⟨W4, rfl⟩ : ∃ W4, W4 = wr := ⟨wr, rfl⟩
          have HS4 : Hid (IC w L i (.slice (some ⟨gl, 0, none⟩) i cl) (.slice (some ⟨gw, 0, none⟩) i cw) Q H 0 W4) := by
            obtain ⟨hS, hH, hQ, hT⟩ := HS3.out
            refine ⟨H, hS.below hB, hH, fun j hj => ?_⟩
            obtain ⟨⟨x, hx⟩, -⟩ := hT j hj
            exact ⟨x, hx, by rw [if_neg (by omega)]; exact hx⟩
          clear HCE
          obtain ⟨z, rfl⟩ : ∃ z, z = i := ⟨i, rfl⟩
          go_wp2_with fail
          go_loopw [19] (fun v19 wr => ∃ i : Nat, v19 = .int .i64 (i : Int) ∧ i ≤ z ∧ IC w L z (.slice (some ⟨gl, 0, none⟩) z cl) (.slice (some ⟨gw, 0, none⟩) z cw) Q H i wr) (fun v19 _ => z - (intOf v19).toNat)
          case atStart => exact ⟨0, rfl, Nat.zero_le _, HS4.out⟩
          case round =>
            clear HS4 hB
            obtain ⟨i, rfl, hin, hIC⟩ := hrel
            by_cases hiz : i < z
            · have q1 : (i : Int) < 2 * (n0 : Int) := by omega
              have q0 : (0 : Int) ≤ (i : Int) := by omega
              have q2 : (i : Int) < (z : Int) := by omega
              obtain ⟨H1, hS1, hl1, hT1⟩ := hIC
              obtain ⟨x, hx, hx1⟩ := hT1 i hiz
              rw [if_neg (by omega)] at hx1
              obtain ⟨Tk, hTk⟩ : ∃ T, tokAt L i = T := ⟨_, rfl⟩
              have hTl : Tk.length ≤ 65536 := by rw [← hTk]; exact HTL.out i
              rw [hTk] at hx1
              obtain ⟨m, hml⟩ : ∃ m, Tk.length = m := ⟨_, rfl⟩
              obtain ⟨Bx, ox⟩ := hS1.hk _ (List.mem_of_getElem? hx1)
              simp only at ox
              rw [hml] at ox hTl
              obtain ⟨px, cx, rfl⟩ := shapeP ox
              have HT1 : Hid (H1.length = z ∧ (∀ j, j < z → ∃ x, H[j]? = some (x, tokAt L j) ∧ H1[j]? = some (x, if j < i then mkR j (tokAt L j).length else tokAt L j)) ∧ H[i]? = some (.slice px m cx, tokAt L i) ∧ H1[i]? = some (.slice px m cx, Tk) ∧ tokAt L i = Tk) := ⟨hl1, hT1, hx, hx1, hTk⟩
              have HS5 : Hid (ISt w wr (H1.set i (.slice px m cx, (mkR i m).take 0 ++ Tk.drop 0)) Q (.slice (some ⟨gl, 0, none⟩) z cl) (.slice (some ⟨gw, 0, none⟩) z cw)) := by
                unfold Hid
                rw [List.take_zero, List.drop_zero, List.nil_append, set_same hx1]
                exact hS1
              clear hS1 hl1 hT1 hx hx1 hTk ox
              go_wp2_with fail
              go_loopw [20] (fun v20 wr => ∃ k : Nat, v20 = .int .i64 (k : Int) ∧ k ≤ m ∧ ISt w wr (H1.set i (.slice px m cx, (mkR i m).take k ++ Tk.drop k)) Q (.slice (some ⟨gl, 0, none⟩) z cl) (.slice (some ⟨gw, 0, none⟩) z cw)) (fun v20 _ => m - (intOf v20).toNat)
              case atStart => exact ⟨0, rfl, Nat.zero_le _, HS5.out⟩
              case round =>
                clear HS5
                obtain ⟨k, rfl, hkm, hS⟩ := hrel
                have hset : (H1.set i (.slice px m cx, (mkR i m).take k ++ Tk.drop k))[i]? = some (.slice px m cx, (mkR i m).take k ++ Tk.drop k) := List.getElem?_set_self (by rw [HT1.out.1]; exact hiz)
                have hlen : ((mkR i m).take k ++ Tk.drop k).length = m := by
                  rw [List.length_append, List.length_take, List.length_drop, mkR_len, hml]
                  omega
                have oL := hS.lo
                rw [List.length_set, HT1.out.1] at oL
                have p0 : wr.cell? ⟨gl, i, none⟩ = some (.slice px m cx) := lst_cell oL hset
                by_cases hk : k < m
                · have r1 : (k : Int) < (m : Int) := by omega
                  have r0 : (0 : Int) ≤ (k : Int) := by omega
                  obtain ⟨Bx, ox⟩ := hS.hk _ (List.mem_of_getElem? hset)
                  simp only at ox
                  rw [hlen] at ox
                  obtain ⟨gx, rfl, hcx⟩ := rown_atN ox (by omega)
                  obtain ⟨N, hN⟩ : ∃ N, 100000 * (i : Int) + (k : Int) = N := ⟨_, rfl⟩
                  have hNb : -1000000000000000 ≤ N ∧ N ≤ 1000000000000000 := by omega
                  have nn1 : IntKind.i64.wrap (100000 * (i : Int)) = 100000 * (i : Int) := by rw [IntKind.wrap_i64]; omega
                  have nn2 : IntKind.i64.wrap (100000 * (i : Int) + (k : Int)) = N := by rw [IntKind.wrap_i64]; omega
                  have HMK : Hid (∀ W, Calls Tryd.prog 6 #[.int .i64 N] W fun e w' => e = .returned (.agg #[.int .i64 (100 + N), .string ⟨#[109, 97, 114, 107]⟩, .int .i64 N, .int .i64 (-N)]) ∧ Below W.heap.size W w') := fun W => mark_all N W hNb
                  obtain ⟨zt, hzt⟩ : ∃ t, ((mkR i m).take k ++ Tk.drop k)[k]? = some t := ⟨_, List.getElem?_eq_getElem (by rw [hlen]; exact hk)⟩
                  have HCL : Hid (∀ W, Below wr.heap.size wr W → W.cell? ⟨gl, i, none⟩ = some (.slice (some ⟨gx, 0, none⟩) m cx) ∧ (∃ v0 v1 v2 v3, W.cell? ⟨gx, k * 4, none⟩ = some v0 ∧ W.cell? ⟨gx, k * 4 + 1, none⟩ = some v1 ∧ W.cell? ⟨gx, k * 4 + 2, none⟩ = some v2 ∧ W.cell? ⟨gx, k * 4 + 3, none⟩ = some v3) ∧ ∀ j, W.frozen? ⟨gx, j, none⟩ = false) := fun W hW => by
                    obtain ⟨a0, a1, a2, a3⟩ := itok_cell (owns_below ox hW) hzt
                    exact ⟨lst_cell (owns_below oL hW) hset, ⟨_, _, _, _, a0, a1, a2, a3⟩, (owns_below ox hW).frozenAt⟩
                  have HPO : Hid (∀ W, Below wr.heap.size wr W → ISt w (put4k W gx k (markT N)) (H1.set i (.slice (some ⟨gx, 0, none⟩) m cx, (mkR i m).take (k + 1) ++ Tk.drop (k + 1))) Q (.slice (some ⟨gl, 0, none⟩) z cl) (.slice (some ⟨gw, 0, none⟩) z cw)) := fun W hW => by
                    have hp := put4k_own (markT N) (owns_below ox hW) (by rw [hlen]; exact hk)
                    have hm := mk_set (Tk := Tk) (i := i) (m := m) hk hml
                    rw [hN] at hm
                    rw [hm] at hp
                    have hw := (hS.below hW).write (T' := (mkR i m).take (k + 1) ++ Tk.drop (k + 1)) hset hp.2 ⟨Bx, by
                      simp only
                      rw [show ((mkR i m).take (k + 1) ++ Tk.drop (k + 1)).length = m by rw [← hm, List.length_set, hlen]]
                      exact hp.1⟩
                    rw [List.set_set] at hw
                    exact hw
                  have HKS : Hid (∀ W, Below wr.heap.size wr W → (put4k W gx k (markT N)).cell? ⟨gl, i, none⟩ = some (.slice (some ⟨gx, 0, none⟩) m cx)) := fun W hW => by
                    have h9 := (HPO.out W hW).lo
                    rw [List.length_set, HT1.out.1] at h9
                    exact lst_cell h9 (List.getElem?_set_self (by rw [HT1.out.1]; exact hiz))
                  clear hS hset hlen oL ox hzt hNb hN
                  go_upto_region 30 with fail
                  go_region_held3 (fun W => W.cell? ⟨gl, i, none⟩ = some (.slice (some ⟨gx, 0, none⟩) m cx)) (first | exact p0 | exact ks6 | exact c6) (first | (go_at_call 6; refine (HMK.out _).mono ?_; rintro e w6 ⟨rfl, hb6⟩; have hB6 : Below wr.heap.size wr w6 := (by first | exact hb6 | exact bel_undN hb6); obtain ⟨c6, ⟨v0, v1, v2, v3, y0, y1, y2, y3⟩, f6⟩ := HCL.out w6 hB6; have ks6 := HKS.out w6 hB6; unfold put4k markT at ks6))
                  have HP6 := HPO.out w6 hB6
                  unfold put4k markT at HP6
                  simp only at HP6
                  clear HPO HKS HCL HMK ks6 c6 y0 y1 y2 y3 f6 p0 nn1 nn2
                  go_wp2_with fail
                  go_roundw
                  case rel => exact ⟨k + 1, by go_num, by omega, HP6⟩
                  case measure => simp [intOf]; omega
                · have r1 : ¬ (k : Int) < (m : Int) := by omega
                  obtain rfl : k = m := by omega
                  have HIC : Hid (IC w L z (.slice (some ⟨gl, 0, none⟩) z cl) (.slice (some ⟨gw, 0, none⟩) z cw) Q H (i + 1) wr) := by
                    rw [List.take_of_length_le (by rw [mkR_len]; exact Nat.le_refl _), List.drop_of_length_le (by rw [hml]; exact Nat.le_refl _), List.append_nil] at hS
                    obtain ⟨hl1, hT1, hx, hx1, hTk⟩ := HT1.out
                    refine ⟨_, hS, by rw [List.length_set]; exact hl1, fun j hj => ?_⟩
                    by_cases e : j = i
                    · subst e
                      refine ⟨_, hx, ?_⟩
                      rw [List.getElem?_set_self (by rw [hl1]; exact hj), if_pos (by omega), hTk, hml]
                    · obtain ⟨x, h1, h2⟩ := hT1 j hj
                      refine ⟨x, h1, ?_⟩
                      rw [List.getElem?_set_ne (fun h => e h.symm), h2]
                      by_cases e2 : j < i
                      · rw [if_pos e2, if_pos (by omega)]
                      · rw [if_neg e2, if_neg (by omega)]
                  clear hS hset hlen oL
                  go_wp2_with fail
                  go_roundw
                  case rel => exact ⟨i + 1, by go_num, by omega, HIC.out⟩
                  case measure => simp [intOf]; omega
            · have q1 : ¬ (i : Int) < 2 * (n0 : Int) := by omega
              obtain rfl : i = z := by omega
              obtain ⟨z, rfl⟩ : ∃ z, z = i := ⟨i, rfl⟩
              obtain ⟨H1, hS1, hl1, hT1⟩ := hIC
              obtain ⟨W5, rfl⟩ : ∃ W5, W5 = wr := ⟨wr, rfl⟩
              have HST : Hid (H1.length = z ∧ (∀ j, j < z → ∃ x, H1[j]? = some (x, mkR j (tokAt L j).length)) ∧ (H1.map (·.1)).Pairwise disN ∧ (∀ h ∈ H1, ∀ q ∈ Q, disN h.1 q.1) ∧ ∀ h ∈ H1, ∀ k, h.1.ownBlock = some k → w.heap.size ≤ k) := ⟨hl1, fun j hj => by
                obtain ⟨x, -, h2⟩ := hT1 j hj
                rw [if_pos hj] at h2
                exact ⟨x, h2⟩, hS1.pw, hS1.hq, hS1.hb⟩
              have HJ0 : Hid (JD w W5 0 H1 Q [] (.slice (some ⟨gl, 0, none⟩) z cl) (.slice (some ⟨gw, 0, none⟩) z cw) (.slice none 0 0)) := JD.start hS1
              have HQT : Hid ((∀ j, j < z → ∃ y, Q[j]? = some (y, tokAt L j)) ∧ Q.length = z) := ⟨fun j hj => (HS3.out.2.2.2 j hj).2, HS3.out.2.2.1⟩
              clear hS1 hl1 hT1 HS3
              go_wp2_with fail
              go_loopw [10, 21] (fun v10 v21 wr => ∃ (i : Nat) (G : List (Value × List ITok)), v21 = .int .i64 (i : Int) ∧ i ≤ z ∧ JD w wr i H1 Q G (.slice (some ⟨gl, 0, none⟩) z cl) (.slice (some ⟨gw, 0, none⟩) z cw) v10 ∧ G.length = i ∧ GS L i H1 Q G) (fun _ v21 _ => z - (intOf v21).toNat)
              case atStart => exact ⟨0, [], rfl, Nat.zero_le _, HJ0.out, rfl, fun j g hg => by simp at hg⟩
              case round =>
                clear HJ0
                obtain ⟨i, G, rfl, hin, hJ, hGl, hGS⟩ := hrel
                by_cases hiz : i < z
                · have q1 : (i : Int) < 2 * (n0 : Int) := by omega
                  have q0 : (0 : Int) ≤ (i : Int) := by omega
                  have q2 : (i : Int) < (z : Int) := by omega
                  obtain ⟨x, hx⟩ := HST.out.2.1 i hiz
                  obtain ⟨T, hT⟩ : ∃ T, mkR i (tokAt L i).length = T := ⟨_, rfl⟩
                  have hTl : T.length ≤ 65536 := by rw [← hT, mkR_len]; exact HTL.out i
                  rw [hT] at hx
                  have tx := hJ.hk i _ (Nat.le_refl _) hx
                  have oL := hJ.lo
                  rw [HST.out.1] at oL
                  have p0 : wr.cell? ⟨gl, i, none⟩ = some x := lst_cell oL hx
                  have HG0 : Hid (G.length = i ∧ GS L i H1 Q G ∧ H1[i]? = some (x, T) ∧ mkR i (tokAt L i).length = T ∧ disN u10 x) := ⟨hGl, hGS, hx, hT, by
                    obtain ⟨B, o⟩ := tx
                    exact dis_off (own_neN o hJ.go (by decide))⟩
                  have HK0 : Hid (KD w wr i H1 Q G (.slice (some ⟨gl, 0, none⟩) z cl) (.slice (some ⟨gw, 0, none⟩) z cw) u10 x T 0 x) := KD.start hJ hGl hGS hx HST.out.2.2.1 HST.out.2.2.2.1 HST.out.2.2.2.2
                  clear hx hT tx oL hJ hGl hGS
                  go_wp2_with fail
                  go_loopw [22, 23] (fun v22 v23 wr => ∃ k : Nat, v23 = .int .i64 (k : Int) ∧ k ≤ 96 ∧ KD w wr i H1 Q G (.slice (some ⟨gl, 0, none⟩) z cl) (.slice (some ⟨gw, 0, none⟩) z cw) u10 x T k v22) (fun _ v23 _ => 96 - (intOf v23).toNat)
                  case atStart => exact ⟨0, rfl, by omega, HK0.out⟩
                  case round =>
                    clear HK0 p0
                    obtain ⟨k, rfl, hk96, hK⟩ := hrel
                    by_cases hk : k < 96
                    · have r1 : (k : Int) < 96 := by omega
                      obtain ⟨N, hN⟩ : ∃ N, -100000 * (i : Int) - (k : Int) - 1 = N := ⟨_, rfl⟩
                      have HMK : Hid (∀ W, Calls Tryd.prog 6 #[.int .i64 N] W fun e w' => e = .returned (.agg #[.int .i64 (100 + N), .string ⟨#[109, 97, 114, 107]⟩, .int .i64 N, .int .i64 (-N)]) ∧ Below W.heap.size W w') := fun W => mark_all N W (by omega)
                      have HKK : Hid (KD w wr i H1 Q G (.slice (some ⟨gl, 0, none⟩) z cl) (.slice (some ⟨gw, 0, none⟩) z cw) u10 x T k u22) := hK
                      have HNN : Hid (gmR i = gmR i ∧ (gmR i).take (k + 1) = (gmR i).take k ++ [markT N]) := ⟨rfl, by rw [← hN]; exact gmR_take hk⟩
                      clear hK
                      obtain ⟨Sk, hSk⟩ : ∃ S, T ++ (gmR i).take k = S := ⟨_, rfl⟩
                      have hSl : Sk.length ≤ 65632 := by rw [← hSk, List.length_append, List.length_take, gmR_len]; omega
                      obtain ⟨n1, hn1⟩ : ∃ n1, Sk.length = n1 := ⟨_, rfl⟩
                      rw [hn1] at hSl
                      obtain ⟨p1, c1, hu⟩ : ∃ p1 c1, u22 = .slice p1 n1 c1 := by
                        obtain ⟨B, o9⟩ := HKK.out.tr
                        simp only at o9
                        rw [hSk, hn1] at o9
                        exact shapeP o9
                      subst hu
                      have HSS : Hid (T ++ (gmR i).take k = Sk ∧ Sk.length = n1 ∧ T ++ (gmR i).take (k + 1) = Sk ++ [markT N]) := ⟨hSk, hn1, by rw [HNN.out.2, ← List.append_assoc, hSk]⟩
                      have HOO : Hid (∀ W, Below wr.heap.size wr W → ∃ B, W.ownsRow B 29 4 (.slice p1 n1 c1) n1 (iels Sk)) := fun W hW => by
                        obtain ⟨B, o9⟩ := (HKK.out.below hW).tr
                        simp only at o9
                        rw [hSk, hn1] at o9
                        exact ⟨B, o9⟩
                      have hlen1 : (iels Sk).length = n1 * 4 := by rw [iels_len, hn1]
                      have nn1 : IntKind.i64.wrap (-100000 * (i : Int)) = -100000 * (i : Int) := by rw [IntKind.wrap_i64]; omega
                      have nn2 : IntKind.i64.wrap (-100000 * (i : Int) - (k : Int)) = -100000 * (i : Int) - (k : Int) := by rw [IntKind.wrap_i64]; omega
                      have nn3 : IntKind.i64.wrap (-100000 * (i : Int) - (k : Int) - 1) = N := by rw [IntKind.wrap_i64]; omega
                      clear hSk hn1 HNN hN
                      by_cases room : n1 + 1 ≤ c1
                      · obtain ⟨g1, rfl⟩ : ∃ g1 : Nat, p1 = some ⟨g1, 0, none⟩ := by
                          obtain ⟨B, o9⟩ := HOO.out wr (Below.refl _ _)
                          rcases o9.2 with ⟨e, _⟩ | ⟨g, cap, cur, e, _⟩
                          · injection e with _ _ e3
                            omega
                          · injection e with e1 _ _
                            exact ⟨g, e1⟩
                        go_wp2_with fail
                        refine (HMK.out _).mono ?_
                        rintro e w6 ⟨rfl, hb6⟩
                        obtain ⟨B1, o1'⟩ := HOO.out w6 hb6
                        have hK6 := HKK.out.below hb6
                        clear HMK
                        go_wp2_with (at_builtin; refine wpList_append_fits _ rfl _ _ 23 rfl B1 29 i0 4 Tryd.underlying23 hi hz1 g1 n1 c1 _ rfl (o1'.alloc _) ⟨_, 0, none⟩ 1 1 [.int .i64 (100 + N), .string ⟨#[109, 97, 114, 107]⟩, .int .i64 N, .int .i64 (-N)] rfl rfl (World.news_of_block (cs := #[.int .i64 (100 + N), .string ⟨#[109, 97, 114, 107]⟩, .int .i64 N, .int .i64 (-N)]) (t := 29) (fr := (0, 0)) (alloc_get _ _)) (by simp [Value.oneCell']) room ?_; intro w7 o7 hg7)
                        have hK7 := (hK6.below ((Below.refl _ _).alloc (Nat.le_refl _) _)).fits HSS.out.1 HSS.out.2.1 HSS.out.2.2 o7 hg7
                        clear hK6 o7 hg7 o1' HOO HKK
                        go_roundw
                        case rel => exact ⟨k + 1, by go_num, by omega, hK7⟩
                        case measure => simp [intOf]; omega
                      · have hnone : p1 = none → n1 = 0 ∧ c1 = 0 := fun e => by
                          subst e
                          obtain ⟨B, o9⟩ := HOO.out wr (Below.refl _ _)
                          rcases o9.2 with ⟨e, h0⟩ | ⟨g, cap, cur, e, _⟩
                          · injection e with _ _ e3
                            exact ⟨h0, e3⟩
                          · injection e with e1 _ _
                            cases e1
                        go_wp2_with fail
                        refine (HMK.out _).mono ?_
                        rintro e w6 ⟨rfl, hb6⟩
                        obtain ⟨B1, o1'⟩ := HOO.out w6 hb6
                        have hK6 := HKK.out.below hb6
                        have hold1 : ∀ b, p1 = some b → ∀ j u, (iels Sk)[j]? = some u → (w6.alloc (.cells #[.int .i64 (100 + N), .string ⟨#[109, 97, 114, 107]⟩, .int .i64 N, .int .i64 (-N)] 29 (0, 0))).cell? (b.add j) = some u := fun b e j u hu => by
                          subst e
                          rcases o1'.2 with ⟨e, _⟩ | ⟨g, cap, cur, e, _⟩
                          · cases e
                          · injection e with e1 _ _
                            injection e1 with e1
                            subst e1
                            exact (o1'.alloc _).cells rfl j u hu
                        clear HMK
                        go_wp2_with (at_builtin; refine wpList_append_grows _ rfl _ _ 23 rfl 29 i0 _ 4 40 Tryd.underlying23 hi hz0 hz1 hz2 rfl (by decide) p1 n1 c1 (iels Sk) rfl hnone hlen1 hold1 ⟨_, 0, none⟩ 1 1 [.int .i64 (100 + N), .string ⟨#[109, 97, 114, 107]⟩, .int .i64 N, .int .i64 (-N)] rfl rfl (World.news_of_block (cs := #[.int .i64 (100 + N), .string ⟨#[109, 97, 114, 107]⟩, .int .i64 N, .int .i64 (-N)]) (t := 29) (fr := (0, 0)) (alloc_get _ _)) (by simp [Value.oneCell']) (by omega) (by unfold maxLen; omega) (by omega) ?_; intro v7 w7 o7 hg7)
                        have hK7 := (hK6.below ((Below.refl _ _).alloc (Nat.le_refl _) (.cells #[.int .i64 (100 + N), .string ⟨#[109, 97, 114, 107]⟩, .int .i64 N, .int .i64 (-N)] 29 (0, 0)))).grows HSS.out.1 HSS.out.2.1 HSS.out.2.2 o7 hg7
                        clear hK6 o7 hg7 o1' HOO HKK hold1
                        go_roundw
                        case rel => exact ⟨k + 1, by go_num, by omega, hK7⟩
                        case measure => simp [intOf]; omega
                    · have r1 : ¬ (k : Int) < 96 := by omega
                      obtain rfl : k = 96 := by omega
                      obtain ⟨p1, n1, c1, hu⟩ : ∃ p1 n1 c1, u22 = .slice p1 n1 c1 := by
                        obtain ⟨p1, c1, e, -⟩ := hK.tr.crw
                        exact ⟨p1, _, c1, e⟩
                      subst hu
                      have HKK : Hid (KD w wr i H1 Q G (.slice (some ⟨gl, 0, none⟩) z cl) (.slice (some ⟨gw, 0, none⟩) z cw) u10 x T 96 (.slice p1 n1 c1)) := hK
                      have oG := hK.jd.go
                      have hGl : G.length ≤ 80 := by have := HG0.out.1; omega
                      have hw9 : w.heap.size ≤ wr.heap.size := hK.jd.be.size
                      clear hK
                      go_wp2_with (at_builtin; refine wpList_append_lies _ rfl _ _ 27 rfl w.heap.size 23 il _ 1 24 Tryd.underlying27 hil hl0 hl1 hl2 rfl (by decide) _ G.length (G.map (·.1)) rfl (oG.alloc _) ⟨_, 0, none⟩ 1 1 [.slice p1 n1 c1] rfl rfl (World.news_of_block (cs := #[.slice p1 n1 c1]) (t := 23) (fr := (0, 0)) (alloc_get _ _)) (by simp [Value.oneCell']) (by omega) (by unfold maxLen; omega) (by omega) (by simp; omega) _ rfl ?_; intro gg cg W7 o7 hg7 hat7 hlt7)
                      have hK6 := HKK.out.below ((Below.refl _ _).alloc (Nat.le_refl _) (.cells #[.slice p1 n1 c1] 23 (0, 0)))
                      have e96 : (gmR i).take 96 = gmR i := List.take_of_length_le (by rw [gmR_len]; exact Nat.le_refl _)
                      have hJ7 := hK6.jd.more (N := (.slice p1 n1 c1, T ++ gmR i)) HG0.out.1 o7 hg7 (hat7.imp id (fun e => by rw [e]; exact Nat.le_refl _)) HG0.out.2.2.1 hK6.cr (by rw [← e96]; exact hK6.tr) HG0.out.2.2.2.2
                      have HFI : Hid (JD w W7 (i + 1) H1 Q (G ++ [(.slice p1 n1 c1, T ++ gmR i)]) (.slice (some ⟨gl, 0, none⟩) z cl) (.slice (some ⟨gw, 0, none⟩) z cw) (.slice (some ⟨gg, 0, none⟩) (G.length + 1) cg) ∧ (G ++ [((.slice p1 n1 c1, T ++ gmR i) : Value × List ITok)]).length = i + 1 ∧ GS L (i + 1) H1 Q (G ++ [(.slice p1 n1 c1, T ++ gmR i)])) := by
                        refine ⟨hJ7, by rw [List.length_append, HG0.out.1]; rfl, fun j g hg => ?_⟩
                        by_cases hj : j < G.length
                        · rw [List.getElem?_append_left hj] at hg
                          obtain ⟨a1, a2, a3⟩ := HG0.out.2.1 j g hg
                          exact ⟨a1, fun j2 h e1 e2 => a2 j2 h (by omega) e2, a3⟩
                        · rw [List.getElem?_append_right (by omega)] at hg
                          have hj0 : j - G.length = 0 := by
                            have := (List.getElem?_eq_some_iff.1 hg).1
                            simp at this
                            omega
                          rw [hj0] at hg
                          have hg2 : (.slice p1 n1 c1, T ++ gmR i) = g := by simpa using hg
                          subst hg2
                          have hji : j = i := by have := HG0.out.1; omega
                          subst hji
                          exact ⟨by rw [HG0.out.2.2.2.1], fun j2 h e1 e2 => dis_off (hK6.jo.hk j2 h e1 e2), fun q hq => dis_off (hK6.jo.qk q hq)⟩
                      clear hK6 hJ7 o7 hg7 hat7 hlt7 oG HKK
                      go_wp2_with fail
                      go_roundw
                      case rel => exact ⟨i + 1, _, by go_num, by omega, HFI.out.1, HFI.out.2.1, HFI.out.2.2⟩
                      case measure => simp [intOf]; omega
                · have q1 : ¬ (i : Int) < 2 * (n0 : Int) := by omega
                  obtain rfl : i = z := by omega
                  obtain ⟨z, rfl⟩ : ∃ z, z = i := ⟨i, rfl⟩
                  obtain ⟨W8, rfl⟩ : ∃ W8, W8 = wr := ⟨wr, rfl⟩
                  have oG := hJ.go
                  rw [hGl] at oG
                  obtain ⟨pg, cg, rfl⟩ := shapeP oG
                  obtain ⟨gg, rfl, hcg⟩ := rown_atN oG (by omega)
                  have HE : Hid (∀ i, i < z → ∃ x g m, H1[i]? = some (x, mkR i m) ∧ G[i]? = some (g, mkR i m ++ gmR i) ∧ m ≤ 65536 ∧ CRW W8 (x, mkR i m) ∧ CRW W8 (g, mkR i m ++ gmR i) ∧ W8.cell? ⟨gl, i, none⟩ = some x ∧ W8.cell? ⟨gg, i, none⟩ = some g) := fun i hi => by
                    obtain ⟨x, hx⟩ := HST.out.2.1 i hi
                    obtain ⟨g, hg⟩ : ∃ g, G[i]? = some g := ⟨_, List.getElem?_eq_getElem (by omega)⟩
                    have h2 := (hGS i g hg).1
                    obtain ⟨c1, c2⟩ := hJ.fk i _ g hx hg
                    have oL := hJ.lo
                    rw [HST.out.1] at oL
                    obtain ⟨g1, g2⟩ := g
                    simp only at h2
                    subst h2
                    exact ⟨x, g1, _, hx, hg, HTL.out i, c1, c2, lst_cell oL hx, lst_cell oG hg⟩
                  have HQ8 : Hid (JD w W8 z H1 Q G (.slice (some ⟨gl, 0, none⟩) z cl) (.slice (some ⟨gw, 0, none⟩) z cw) (.slice (some ⟨gg, 0, none⟩) z cg)) := hJ
                  have hbe := hJ.be
                  clear oG hJ hGS hGl
                  go_wp2_with fail
                  go_loopw [24] (fun v24 wr => ∃ i : Nat, v24 = .int .i64 (i : Int) ∧ i ≤ z ∧ Below W8.heap.size W8 wr) (fun v24 _ => z - (intOf v24).toNat)
                  case atStart => exact ⟨0, rfl, Nat.zero_le _, Below.refl _ _⟩
                  case round =>
                    obtain ⟨i, rfl, hin, hB⟩ := hrel
                    by_cases hiz : i < z
                    · have q1 : (i : Int) < 2 * (n0 : Int) := by omega
                      have q0 : (0 : Int) ≤ (i : Int) := by omega
                      have q2 : (i : Int) < (z : Int) := by omega
                      obtain ⟨x, g, m, -, -, hm, cx, cgr, e1, e2⟩ := HE.out i hiz
                      obtain ⟨px, cx2, ex, -⟩ := id cx
                      obtain ⟨pg, cg2, eg, -⟩ := id cgr
                      simp only at ex eg
                      rw [mkR_len] at ex
                      rw [List.length_append, mkR_len, gmR_len] at eg
                      subst ex eg
                      have HCX : Hid (CRW W8 (.slice px m cx2, mkR i m) ∧ CRW W8 (.slice pg (m + 96) cg2, mkR i m ++ gmR i) ∧ W8.cell? ⟨gl, i, none⟩ = some (.slice px m cx2) ∧ W8.cell? ⟨gg, i, none⟩ = some (.slice pg (m + 96) cg2)) := ⟨cx, cgr, e1, e2⟩
                      clear cx cgr e1 e2
                      go_wp2_with fail
                      go_loopw [25, 26] (fun v25 _ wr => ∃ k : Nat, v25 = .int .i64 (k : Int) ∧ k ≤ m + 96 ∧ Below W8.heap.size W8 wr) (fun v25 _ _ => m + 96 - (intOf v25).toNat)
                      case atStart => exact ⟨0, rfl, Nat.zero_le _, hB⟩
                      case round =>
                        clear hB
                        obtain ⟨k, rfl, hkm, hB⟩ := hrel
                        have p0 : wr.cell? ⟨gl, i, none⟩ = some (.slice px m cx2) := below_cell hB HCX.out.2.2.1
                        have p1 : wr.cell? ⟨gg, i, none⟩ = some (.slice pg (m + 96) cg2) := below_cell hB HCX.out.2.2.2
                        by_cases hk : k < m + 96
                        · have r1 : (k : Int) < (m : Int) + 96 := by omega
                          have r0 : (0 : Int) ≤ (k : Int) := by omega
                          obtain ⟨N1, hN1⟩ : ∃ N, 100000 * (i : Int) + (k : Int) = N := ⟨_, rfl⟩
                          obtain ⟨N2, hN2⟩ : ∃ N, -100000 * (i : Int) - ((k : Int) - (m : Int)) - 1 = N := ⟨_, rfl⟩
                          have HMK1 : Hid (∀ W, Calls Tryd.prog 6 #[.int .i64 N1] W fun e w' => e = .returned (.agg #[.int .i64 (100 + N1), .string ⟨#[109, 97, 114, 107]⟩, .int .i64 N1, .int .i64 (-N1)]) ∧ Below W.heap.size W w') := fun W => mark_all N1 W (by omega)
                          have HMK2 : Hid (∀ W, Calls Tryd.prog 6 #[.int .i64 N2] W fun e w' => e = .returned (.agg #[.int .i64 (100 + N2), .string ⟨#[109, 97, 114, 107]⟩, .int .i64 N2, .int .i64 (-N2)]) ∧ Below W.heap.size W w') := fun W => mark_all N2 W (by omega)
                          have nn1 : IntKind.i64.wrap (100000 * (i : Int)) = 100000 * (i : Int) := by rw [IntKind.wrap_i64]; omega
                          have nn2 : IntKind.i64.wrap (100000 * (i : Int) + (k : Int)) = N1 := by rw [IntKind.wrap_i64]; omega
                          have HK : Hid (∃ NN, (mkR i m ++ gmR i)[k]? = some (markT NN) ∧ (k < m → NN = N1) ∧ (m ≤ k → NN = N2)) := by
                            by_cases hkm2 : k < m
                            · refine ⟨N1, ?_, fun _ => rfl, fun h => by omega⟩
                              rw [← hN1]
                              exact tokE1 hkm2
                            · refine ⟨N2, ?_, fun h => by omega, fun _ => rfl⟩
                              rw [← hN2]
                              exact tokE2 (by omega) hk
                          obtain ⟨NN, hNN, hNa, hNb⟩ := HK.out
                          have HNN : Hid ((mkR i m ++ gmR i)[k]? = some (markT NN) ∧ (k < m → NN = N1) ∧ (m ≤ k → NN = N2)) := ⟨hNN, hNa, hNb⟩
                          have HN : Hid (100000 * (i : Int) + (k : Int) = N1 ∧ -100000 * (i : Int) - ((k : Int) - (m : Int)) - 1 = N2) := ⟨hN1, hN2⟩
                          obtain ⟨bg, rfl, HTG⟩ : ∃ bg, pg = some ⟨bg, 0, none⟩ ∧ Hid (∀ W, Below W8.heap.size W8 W → tok4 W bg (k * 4) NN) := by
                            obtain ⟨_, _, e3, _, c3⟩ := HCX.out.2.1
                            obtain ⟨bg, ex, -⟩ := c3 k _ hNN
                            injection e3 with e4 _ _
                            subst e4
                            refine ⟨bg, ex, fun W hW => ?_⟩
                            obtain ⟨_, _, e5, _, c5⟩ := HCX.out.2.1.below hW
                            obtain ⟨bg2, ex2, -, t0, t1, t2, t3⟩ := c5 k _ hNN
                            injection e5 with e6 _ _
                            subst e6
                            rw [ex] at ex2
                            injection ex2 with ex3
                            injection ex3 with ex4
                            subst ex4
                            exact ⟨t0, t1, t2, t3⟩
                          have HCG : Hid (∀ W, Below W8.heap.size W8 W → W.cell? ⟨gg, i, none⟩ = some (.slice (some ⟨bg, 0, none⟩) (m + 96) cg2)) := fun W hW => below_cell hW HCX.out.2.2.2
                          have HCL : Hid (∀ W, Below W8.heap.size W8 W → W.cell? ⟨gl, i, none⟩ = some (.slice px m cx2)) := fun W hW => below_cell hW HCX.out.2.2.1
                          have HSM : Hid (∀ W, Calls Tryd.prog 7 #[.agg #[.int .i64 (100 + NN), .string ⟨#[109, 97, 114, 107]⟩, .int .i64 NN, .int .i64 (-NN)], .agg #[.int .i64 (100 + NN), .string ⟨#[109, 97, 114, 107]⟩, .int .i64 NN, .int .i64 (-NN)]] W fun e w' => e = .returned (.bool true) ∧ Below W.heap.size W w') := fun W => sameI_any (markT NN) W
                          clear HE HK hNN hNa hNb hN1 hN2
                          go_upto_region 46 with fail
                          go_cut [26] (fun v wc => ∃ b : Nat, v = .pointer (some ⟨b, 0, none⟩) ∧ TB wc b (markT N1) ∧ W8.heap.size ≤ b ∧ Below W8.heap.size W8 wc)
                          case first =>
                            go_wp2_with fail
                            refine (HMK1.out _).mono ?_
                            rintro e w6 ⟨rfl, hb6⟩
                            have hB6 := bel0 hB hb6
                            have hz6 := hB6.size
                            clear HMK1 HMK2
                            go_wp2_with fail
                            go_meet
                            exact ⟨w6.heap.size, rfl, tb_new w6 N1, hz6, hB6.alloc hz6 _⟩
                          case rest =>
                            clear p0 p1 hB
                            obtain ⟨b, rfl, tb, hbb, hB⟩ := hcut
                            obtain ⟨w9, rfl⟩ : ∃ w9, w9 = wc := ⟨wc, rfl⟩
                            clear HMK1
                            have p0 := HCL.out _ hB
                            go_upto_if 203 with fail
                            go_cut [26] (fun v wc => v = .pointer (some ⟨b, 0, none⟩) ∧ TB wc b (markT NN) ∧ Below W8.heap.size W8 wc)
                            case first =>
                              by_cases hkm2 : k < m
                              · have r3 : ¬ (m : Int) ≤ (k : Int) := by omega
                                go_wp2_with fail
                                go_meet
                                exact ⟨rfl, by rw [HNN.out.2.1 hkm2]; exact tb, hB⟩
                              · have r3 : (m : Int) ≤ (k : Int) := by omega
                                have n1 : IntKind.i64.wrap (-100000 * (i : Int)) = -100000 * (i : Int) := by rw [IntKind.wrap_i64]; omega
                                have n2 : IntKind.i64.wrap ((k : Int) - (m : Int)) = (k : Int) - (m : Int) := by rw [IntKind.wrap_i64]; omega
                                have n3 : IntKind.i64.wrap (-100000 * (i : Int) - ((k : Int) - (m : Int))) = -100000 * (i : Int) - ((k : Int) - (m : Int)) := by rw [IntKind.wrap_i64]; omega
                                have n4 : IntKind.i64.wrap (-100000 * (i : Int) - ((k : Int) - (m : Int)) - 1) = N2 := by rw [IntKind.wrap_i64]; have := HN.out.2; omega
                                go_wp2_with fail
                                refine (HMK2.out _).mono ?_
                                rintro e w6 ⟨rfl, hb6⟩
                                have tb6 := keepblk hb6 tb
                                have hB6 := bel0 hB hb6
                                obtain ⟨f0, f1, f2, f3⟩ := tb_tok tb6
                                have ff : ∀ j, w6.frozen? ⟨b, j, none⟩ = false := (rblk_cellsN tb6).2
                                clear HMK2
                                go_wp2_with fail
                                go_meet
                                exact ⟨rfl, by rw [HNN.out.2.2 (by omega)]; exact tb_put tb6, (((hB6.setCell hbb _).setCell hbb _).setCell hbb _).setCell hbb _⟩
                            case rest =>
                              clear tb hB nn1 nn2 HMK2 p0
                              obtain ⟨rfl, tb, hB⟩ := hcut
                              obtain ⟨wx, rfl⟩ : ∃ wx, wx = wc := ⟨wc, rfl⟩
                              have HTB : Hid (∀ W, Below wx.heap.size wx W → tok4 W b 0 NN) := fun W hW => tb_tok (keepblk hW tb)
                              have HGA : Hid (∀ W, Below wx.heap.size wx W → tok4 W bg (k * 4) NN) := fun W hW => HTG.out W (bel0 hB hW)
                              have HGC : Hid (∀ W, Below wx.heap.size wx W → W.cell? ⟨gg, i, none⟩ = some (.slice (some ⟨bg, 0, none⟩) (m + 96) cg2)) := fun W hW => HCG.out W (bel0 hB hW)
                              have HLC : Hid (∀ W, Below wx.heap.size wx W → W.cell? ⟨gl, i, none⟩ = some (.slice px m cx2)) := fun W hW => HCL.out W (bel0 hB hW)
                              by_cases hkm2 : k < m
                              · have r2 : (k : Int) < (m : Int) := by omega
                                obtain ⟨bx, rfl, HXA⟩ : ∃ bx, px = some ⟨bx, 0, none⟩ ∧ Hid (∀ W, Below wx.heap.size wx W → tok4 W bx (k * 4) NN) := by
                                  obtain ⟨_, _, e3, _, c3⟩ := HCX.out.1
                                  obtain ⟨bx, ex, -⟩ := c3 k _ (mkR_at hkm2)
                                  injection e3 with e4 _ _
                                  subst e4
                                  refine ⟨bx, ex, fun W hW => ?_⟩
                                  obtain ⟨_, _, e5, _, c5⟩ := HCX.out.1.below (bel0 hB hW)
                                  obtain ⟨bg2, ex2, -, t0, t1, t2, t3⟩ := c5 k _ (mkR_at hkm2)
                                  injection e5 with e6 _ _
                                  subst e6
                                  rw [ex] at ex2
                                  injection ex2 with ex3
                                  injection ex3 with ex4
                                  subst ex4
                                  rw [HNN.out.2.1 hkm2, ← HN.out.1]
                                  exact ⟨t0, t1, t2, t3⟩
                                clear HCX HTG HCG HCL HNN HN tb
                                go_upto_region 49 with fail
                                refine quiet_lit3 (C := fun W => Below wx.heap.size wx W) (by kernel_rfl) (by kernel_rfl) (show Below _ _ _ from (Below.refl _ _).drew) ?_
                                go_big_quiet_want
                                go_big_quiet_op
                                go_big_quiet_on
                                go_big_quiet_want
                                go_big_quiet_op
                                go_big_quiet_on
                                go_big_quiet_want
                                refine ⟨.pointer (some ⟨gg, i, none⟩), fun W hW => ?_, ?_⟩
                                · go_simp
                                go_big_quiet_on
                                simp only [Act.put, List.setIfInBounds_toArray, List.set_cons_zero, List.set_cons_succ]
                                go_big_quiet_want
                                refine ⟨.slice (some ⟨bg, 0, none⟩) (m + 96) cg2, fun W hW => ?_, ?_⟩
                                · have c1 := HGC.out W hW
                                  go_simp
                                go_big_quiet_on
                                simp only [Act.put, List.setIfInBounds_toArray, List.set_cons_zero, List.set_cons_succ]
                                go_big_quiet_want
                                go_big_quiet_op
                                go_big_quiet_on
                                go_big_quiet_want
                                refine ⟨.pointer (some ⟨bg, k * 4, none⟩), fun W hW => ?_, ?_⟩
                                · go_simp
                                go_big_quiet_on
                                simp only [Act.put, List.setIfInBounds_toArray, List.set_cons_zero, List.set_cons_succ]
                                go_big_quiet_want
                                refine ⟨.agg #[.int .i64 (100 + NN), .string ⟨#[109, 97, 114, 107]⟩, .int .i64 NN, .int .i64 (-NN)], fun W hW => ?_, ?_⟩
                                · obtain ⟨c1, c2, c3, c4⟩ := HGA.out W hW
                                  go_simp
                                go_big_quiet_on
                                simp only [Act.put, List.setIfInBounds_toArray, List.set_cons_zero, List.set_cons_succ]
                                go_big_quiet_want
                                refine ⟨.agg #[.int .i64 (100 + NN), .string ⟨#[109, 97, 114, 107]⟩, .int .i64 NN, .int .i64 (-NN)], fun W hW => ?_, ?_⟩
                                · obtain ⟨c1, c2, c3, c4⟩ := HTB.out W hW
                                  go_simp
                                go_big_quiet_on
                                simp only [Act.put, List.setIfInBounds_toArray, List.set_cons_zero, List.set_cons_succ]
                                go_big_quiet_want
                                refine ⟨.bool true, fun W hW => ?_, ?_⟩
                                · go_simp
                                  refine (HSM.out _).mono ?_
                                  rintro e w7 ⟨rfl, hb⟩
                                  exact ⟨rfl, bel0 hW hb⟩
                                go_big_quiet_on
                                simp only [Act.put, List.setIfInBounds_toArray, List.set_cons_zero, List.set_cons_succ]
                                go_big_quiet_want
                                refine ⟨.bool false, fun W hW => ?_, ?_⟩
                                · go_simp
                                go_big_quiet_on
                                simp only [Act.put, List.setIfInBounds_toArray, List.set_cons_zero, List.set_cons_succ]
                                go_big_quiet_want
                                go_big_quiet_op
                                go_big_quiet_on
                                go_big_quiet_want
                                go_big_quiet_op
                                go_big_quiet_on
                                go_big_quiet_want
                                go_big_quiet_op
                                go_big_quiet_on
                                go_big_quiet_want
                                go_big_quiet_op
                                go_big_quiet_on
                                go_big_quiet_want
                                refine ⟨.pointer (some ⟨gl, i, none⟩), fun W hW => ?_, ?_⟩
                                · go_simp
                                go_big_quiet_on
                                simp only [Act.put, List.setIfInBounds_toArray, List.set_cons_zero, List.set_cons_succ]
                                go_big_quiet_want
                                refine ⟨.slice (some ⟨bx, 0, none⟩) m cx2, fun W hW => ?_, ?_⟩
                                · have c1 := HLC.out W hW
                                  go_simp
                                go_big_quiet_on
                                simp only [Act.put, List.setIfInBounds_toArray, List.set_cons_zero, List.set_cons_succ]
                                go_big_quiet_want
                                refine ⟨.int .i64 (m : Int), fun W hW => ?_, ?_⟩
                                · go_simp
                                go_big_quiet_on
                                simp only [Act.put, List.setIfInBounds_toArray, List.set_cons_zero, List.set_cons_succ]
                                go_big_quiet_want
                                refine ⟨.bool true, fun W hW => ?_, ?_⟩
                                · go_simp
                                go_big_quiet_on
                                simp only [Act.put, List.setIfInBounds_toArray, List.set_cons_zero, List.set_cons_succ]
                                go_big_quiet_want
                                go_big_quiet_op
                                go_big_quiet_on
                                go_big_quiet_want
                                go_big_quiet_op
                                go_big_quiet_on
                                go_big_quiet_want
                                go_big_quiet_op
                                go_big_quiet_on
                                go_big_quiet_want
                                refine ⟨.pointer (some ⟨gl, i, none⟩), fun W hW => ?_, ?_⟩
                                · go_simp
                                go_big_quiet_on
                                simp only [Act.put, List.setIfInBounds_toArray, List.set_cons_zero, List.set_cons_succ]
                                go_big_quiet_want
                                refine ⟨.slice (some ⟨bx, 0, none⟩) m cx2, fun W hW => ?_, ?_⟩
                                · have c1 := HLC.out W hW
                                  go_simp
                                go_big_quiet_on
                                simp only [Act.put, List.setIfInBounds_toArray, List.set_cons_zero, List.set_cons_succ]
                                go_big_quiet_want
                                go_big_quiet_op
                                go_big_quiet_on
                                go_big_quiet_want
                                refine ⟨.pointer (some ⟨bx, k * 4, none⟩), fun W hW => ?_, ?_⟩
                                · go_simp
                                go_big_quiet_on
                                simp only [Act.put, List.setIfInBounds_toArray, List.set_cons_zero, List.set_cons_succ]
                                go_big_quiet_want
                                refine ⟨.agg #[.int .i64 (100 + NN), .string ⟨#[109, 97, 114, 107]⟩, .int .i64 NN, .int .i64 (-NN)], fun W hW => ?_, ?_⟩
                                · obtain ⟨c1, c2, c3, c4⟩ := HXA.out W hW
                                  go_simp
                                go_big_quiet_on
                                simp only [Act.put, List.setIfInBounds_toArray, List.set_cons_zero, List.set_cons_succ]
                                go_big_quiet_want
                                refine ⟨.agg #[.int .i64 (100 + NN), .string ⟨#[109, 97, 114, 107]⟩, .int .i64 NN, .int .i64 (-NN)], fun W hW => ?_, ?_⟩
                                · obtain ⟨c1, c2, c3, c4⟩ := HTB.out W hW
                                  go_simp
                                go_big_quiet_on
                                simp only [Act.put, List.setIfInBounds_toArray, List.set_cons_zero, List.set_cons_succ]
                                go_big_quiet_want
                                refine ⟨.bool true, fun W hW => ?_, ?_⟩
                                · go_simp
                                  refine (HSM.out _).mono ?_
                                  rintro e w7 ⟨rfl, hb⟩
                                  exact ⟨rfl, bel0 hW hb⟩
                                go_big_quiet_on
                                simp only [Act.put, List.setIfInBounds_toArray, List.set_cons_zero, List.set_cons_succ]
                                go_big_quiet_want
                                refine ⟨.bool false, fun W hW => ?_, ?_⟩
                                · go_simp
                                go_big_quiet_on
                                simp only [Act.put, List.setIfInBounds_toArray, List.set_cons_zero, List.set_cons_succ]
                                go_big_quiet_want
                                refine ⟨.bool false, fun W hW => ?_, ?_⟩
                                · go_simp
                                go_big_quiet_on
                                simp only [Act.put, List.setIfInBounds_toArray, List.set_cons_zero, List.set_cons_succ]
                                go_big_quiet_want
                                refine ⟨.bool false, fun W hW => ?_, ?_⟩
                                · go_simp
                                go_big_quiet_on
                                simp only [Act.put, List.setIfInBounds_toArray, List.set_cons_zero, List.set_cons_succ]
                                refine wpQuiet_nil ?_
                                intro W hW
                                clear HTB HGA HGC HLC HSM HXA
                                go_wp2_with fail
                                go_roundw
                                case rel => exact ⟨k + 1, by go_num, by omega, bel0 hB hW⟩
                                case measure => simp [intOf]; omega
                              · have r2 : ¬ (k : Int) < (m : Int) := by omega
                                clear HCX HTG HCG HCL HNN HN tb
                                go_upto_region 49 with fail
                                refine quiet_lit3 (C := fun W => Below wx.heap.size wx W) (by kernel_rfl) (by kernel_rfl) (show Below _ _ _ from (Below.refl _ _).drew) ?_
                                go_big_quiet_want
                                go_big_quiet_op
                                go_big_quiet_on
                                go_big_quiet_want
                                go_big_quiet_op
                                go_big_quiet_on
                                go_big_quiet_want
                                refine ⟨.pointer (some ⟨gg, i, none⟩), fun W hW => ?_, ?_⟩
                                · go_simp
                                go_big_quiet_on
                                simp only [Act.put, List.setIfInBounds_toArray, List.set_cons_zero, List.set_cons_succ]
                                go_big_quiet_want
                                refine ⟨.slice (some ⟨bg, 0, none⟩) (m + 96) cg2, fun W hW => ?_, ?_⟩
                                · have c1 := HGC.out W hW
                                  go_simp
                                go_big_quiet_on
                                simp only [Act.put, List.setIfInBounds_toArray, List.set_cons_zero, List.set_cons_succ]
                                go_big_quiet_want
                                go_big_quiet_op
                                go_big_quiet_on
                                go_big_quiet_want
                                refine ⟨.pointer (some ⟨bg, k * 4, none⟩), fun W hW => ?_, ?_⟩
                                · go_simp
                                go_big_quiet_on
                                simp only [Act.put, List.setIfInBounds_toArray, List.set_cons_zero, List.set_cons_succ]
                                go_big_quiet_want
                                refine ⟨.agg #[.int .i64 (100 + NN), .string ⟨#[109, 97, 114, 107]⟩, .int .i64 NN, .int .i64 (-NN)], fun W hW => ?_, ?_⟩
                                · obtain ⟨c1, c2, c3, c4⟩ := HGA.out W hW
                                  go_simp
                                go_big_quiet_on
                                simp only [Act.put, List.setIfInBounds_toArray, List.set_cons_zero, List.set_cons_succ]
                                go_big_quiet_want
                                refine ⟨.agg #[.int .i64 (100 + NN), .string ⟨#[109, 97, 114, 107]⟩, .int .i64 NN, .int .i64 (-NN)], fun W hW => ?_, ?_⟩
                                · obtain ⟨c1, c2, c3, c4⟩ := HTB.out W hW
                                  go_simp
                                go_big_quiet_on
                                simp only [Act.put, List.setIfInBounds_toArray, List.set_cons_zero, List.set_cons_succ]
                                go_big_quiet_want
                                refine ⟨.bool true, fun W hW => ?_, ?_⟩
                                · go_simp
                                  refine (HSM.out _).mono ?_
                                  rintro e w7 ⟨rfl, hb⟩
                                  exact ⟨rfl, bel0 hW hb⟩
                                go_big_quiet_on
                                simp only [Act.put, List.setIfInBounds_toArray, List.set_cons_zero, List.set_cons_succ]
                                go_big_quiet_want
                                refine ⟨.bool false, fun W hW => ?_, ?_⟩
                                · go_simp
                                go_big_quiet_on
                                simp only [Act.put, List.setIfInBounds_toArray, List.set_cons_zero, List.set_cons_succ]
                                go_big_quiet_want
                                go_big_quiet_op
                                go_big_quiet_on
                                go_big_quiet_want
                                go_big_quiet_op
                                go_big_quiet_on
                                go_big_quiet_want
                                go_big_quiet_op
                                go_big_quiet_on
                                go_big_quiet_want
                                go_big_quiet_op
                                go_big_quiet_on
                                go_big_quiet_want
                                refine ⟨.pointer (some ⟨gl, i, none⟩), fun W hW => ?_, ?_⟩
                                · go_simp
                                go_big_quiet_on
                                simp only [Act.put, List.setIfInBounds_toArray, List.set_cons_zero, List.set_cons_succ]
                                go_big_quiet_want
                                refine ⟨.slice px m cx2, fun W hW => ?_, ?_⟩
                                · have c1 := HLC.out W hW
                                  go_simp
                                go_big_quiet_on
                                simp only [Act.put, List.setIfInBounds_toArray, List.set_cons_zero, List.set_cons_succ]
                                go_big_quiet_want
                                refine ⟨.int .i64 (m : Int), fun W hW => ?_, ?_⟩
                                · go_simp
                                go_big_quiet_on
                                simp only [Act.put, List.setIfInBounds_toArray, List.set_cons_zero, List.set_cons_succ]
                                go_big_quiet_want
                                refine ⟨.bool false, fun W hW => ?_, ?_⟩
                                · go_simp
                                go_big_quiet_on
                                simp only [Act.put, List.setIfInBounds_toArray, List.set_cons_zero, List.set_cons_succ]
                                go_big_quiet_want
                                go_big_quiet_op
                                go_big_quiet_on
                                go_big_quiet_skip
                                go_big_quiet_skip
                                go_big_quiet_skip
                                go_big_quiet_skip
                                go_big_quiet_skip
                                go_big_quiet_skip
                                go_big_quiet_skip
                                go_big_quiet_skip
                                go_big_quiet_skip
                                go_big_quiet_skip
                                go_big_quiet_want
                                refine ⟨.bool false, fun W hW => ?_, ?_⟩
                                · go_simp
                                go_big_quiet_on
                                simp only [Act.put, List.setIfInBounds_toArray, List.set_cons_zero, List.set_cons_succ]
                                go_big_quiet_want
                                refine ⟨.bool false, fun W hW => ?_, ?_⟩
                                · go_simp
                                go_big_quiet_on
                                simp only [Act.put, List.setIfInBounds_toArray, List.set_cons_zero, List.set_cons_succ]
                                refine wpQuiet_nil ?_
                                intro W hW
                                clear HTB HGA HGC HLC HSM
                                go_wp2_with fail
                                go_roundw
                                case rel => exact ⟨k + 1, by go_num, by omega, bel0 hB hW⟩
                                case measure => simp [intOf]; omega
                        · have r1 : ¬ (k : Int) < (m : Int) + 96 := by omega
                          go_wp2_with fail
                          go_roundw
                          case rel => exact ⟨i + 1, by go_num, by omega, hB⟩
                          case measure => simp [intOf]; omega
                    · have q1 : ¬ (i : Int) < 2 * (n0 : Int) := by omega
                      clear HE
                      obtain ⟨W9, rfl⟩ : ∃ W9, W9 = wr := ⟨wr, rfl⟩
                      have hJ9 := HQ8.out.below hB
                      have HQ9 : Hid (Below w.heap.size w W9 ∧ (∀ q ∈ Q, TR W9 q) ∧ W9.ownsRow w.heap.size 23 1 (.slice (some ⟨gw, 0, none⟩) z cw) Q.length (Q.map (·.1))) := ⟨hJ9.be, hJ9.qk, hJ9.wo⟩
                      clear hJ9 HQ8
                      go_wp2_with fail
                      go_loopw [27] (fun v27 wr => ∃ i : Nat, v27 = .int .i64 (i : Int) ∧ i ≤ n0 ∧ Below W9.heap.size W9 wr) (fun v27 _ => n0 - (intOf v27).toNat)
                      case atStart => exact ⟨0, rfl, Nat.zero_le _, Below.refl _ _⟩
                      case round =>
                        clear hB
                        obtain ⟨i, rfl, hin, hB⟩ := hrel
                        by_cases hi0 : i < n0
                        · have q3 : (i : Int) < (n0 : Int) := by omega
                          have q0 : (0 : Int) ≤ (i : Int) := by omega
                          have q4 : (i : Int) < (z : Int) := by omega
                          obtain ⟨t, ht⟩ : ∃ t, L[i]? = some t := ⟨_, List.getElem?_eq_getElem (by rw [HL.out]; exact hi0)⟩
                          have hbw := bel0 HQ9.out.1 hB
                          obtain ⟨g, o0, rfl, p0⟩ := HR.out wr hbw i t ht
                          have HS1 := HSC.out wr i t hbw (by rw [Nat.mod_eq_of_lt hi0]; exact ht)
                          obtain ⟨y, hy⟩ := HQT.out.1 i (by omega)
                          obtain ⟨Tk, hTk⟩ : ∃ T, tokAt L i = T := ⟨_, rfl⟩
                          have hTl : Tk.length ≤ 65536 := by rw [← hTk]; exact HTL.out i
                          rw [hTk] at HS1 hy
                          have HYY : Hid (∀ W, Below wr.heap.size wr W → W.cell? ⟨gw, i, none⟩ = some y ∧ TR W (y, Tk)) := fun W hW => by
                            have hW9 := bel0 hB hW
                            have o9 := HQ9.out.2.2
                            rw [HQT.out.2] at o9
                            exact ⟨lst_cell (owns_below o9 hW9) hy, (HQ9.out.2.1 _ (List.mem_of_getElem? hy)).below hW9⟩
                          have HS2 : Hid (Calls Tryd.prog 4 #[.string ⟨t.toArray⟩] wr fun e w' => ∃ v e1 e2 e3, e = .returned (.tuple #[v, .int .i64 e1, .int .i64 e2, .int .i64 e3]) ∧ w'.ownsRow wr.heap.size 29 4 v Tk.length (iels Tk) ∧ Below wr.heap.size wr w') := HS1
                          clear ht hy hTk HS1
                          go_wp2_with fail
                          refine HS2.out.mono ?_
                          rintro e w6 ⟨v, e1, e2, e3, rfl, ov, hb6⟩
                          obtain ⟨p6, h6⟩ := HYY.out w6 hb6
                          have HSM := rows_same (⟨_, ov⟩ : TR w6 (v, Tk)) h6 hTl
                          clear HS2 ov h6
                          go_wp2_with fail
                          refine HSM.mono ?_
                          rintro e w7 ⟨rfl, hb7⟩
                          go_wp2_with fail
                          go_roundw
                          case rel => exact ⟨i + 1, by go_num, by omega, bel0 hB (bel0 hb6 hb7)⟩
                          case measure => simp [intOf]; omega
                        · have q3 : ¬ (i : Int) < (n0 : Int) := by omega
                          go_wp2_with fail
                          go_ret
                          exact ⟨rfl, bel0 HQ9.out.1 hB⟩
end Go.Proofs.YthlgjdadkmpbbaaDoor
