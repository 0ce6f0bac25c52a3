import Derived.Test.YtnboehlbcjfndaaGreatDoorZZB
import Derived.Deep.CutBlock
import Derived.Test.YtnboehlbcjfndaaGreatDoorYAA
import Derived.Deep.RegionHeld3
namespace Go.Proofs.YtnboehlbcjfndaaGreatDoor
open Go.RowKit
def felZ (F : List (List UInt8 × Int)) : List Value := F.flatMap (fun f => [.string ⟨f.1.toArray⟩, .int .i64 f.2])
theorem felZ_at : ∀ (F : List (List UInt8 × Int)) (i : Nat) (f : List UInt8 × Int), F[i]? = some f → (felZ F)[i * 2]? = some (.string ⟨f.1.toArray⟩) ∧ (felZ F)[i * 2 + 1]? = some (.int .i64 f.2)
  | [], i, f, h => by simp at h
  | Y :: r, 0, f, h => by
    have e1 : Y = f := by simpa using h
    subst e1
    exact ⟨rfl, rfl⟩
  | Y :: r, i + 1, f, h => by
    have ih := felZ_at r i f (by simpa using h)
    have e1 : felZ (Y :: r) = [.string ⟨Y.1.toArray⟩, .int .i64 Y.2] ++ felZ r := rfl
    rw [e1, show (i + 1) * 2 = i * 2 + 2 by omega]
    refine ⟨?_, ?_⟩
    · rw [List.getElem?_append_right (by simp), show i * 2 + 2 - ([Value.string ⟨Y.1.toArray⟩, .int .i64 Y.2]).length = i * 2 by simp]; exact ih.1
    · rw [List.getElem?_append_right (by simp), show i * 2 + 2 + 1 - ([Value.string ⟨Y.1.toArray⟩, .int .i64 Y.2]).length = i * 2 + 1 by simp]; exact ih.2
theorem felZ_len (F : List (List UInt8 × Int)) : (felZ F).length = F.length * 2 := by
  induction F with
  | nil => rfl
  | cons a r ih =>
    show ([Value.string ⟨a.1.toArray⟩, .int .i64 a.2] ++ felZ r).length = _
    rw [List.length_append, ih, List.length_cons]
    simp
    omega
/-- a row of fields that is read -/
def FRZ (W : World) (p : Option Addr) (F : List (List UInt8 × Int)) : Prop := ∀ X, Below W.heap.size W X → ∀ (k : Nat) (f : List UInt8 × Int), F[k]? = some f → ∃ g, p = some ⟨g, 0, none⟩ ∧ X.cell? ⟨g, k * 2, none⟩ = some (.string ⟨f.1.toArray⟩) ∧ X.cell? ⟨g, k * 2 + 1, none⟩ = some (.int .i64 f.2)
theorem FRZ.later {W X : World} {p : Option Addr} {F : List (List UInt8 × Int)} (h : FRZ W p F) (hb : Below W.heap.size W X) : FRZ X p F := fun Y hY => h Y (bel0Z hb hY)
/-- the script -/
def ISZ (w : World) (q : Option Addr) (n : Nat) : Prop := ∀ W : World, Below w.heap.size w W → ∀ i : Nat, i < n → ∃ g o0 kd sa sb sc ss, q = some ⟨g, o0, none⟩ ∧ W.cell? ⟨g, o0 + i * 5, none⟩ = some (.int .i64 kd) ∧ W.cell? ⟨g, o0 + i * 5 + 1, none⟩ = some (.int .i64 sa) ∧ W.cell? ⟨g, o0 + i * 5 + 2, none⟩ = some (.int .i64 sb) ∧ W.cell? ⟨g, o0 + i * 5 + 3, none⟩ = some (.int .i64 sc) ∧ W.cell? ⟨g, o0 + i * 5 + 4, none⟩ = some (.string ⟨(ss : List UInt8).toArray⟩) ∧ ss.length ≤ 281474976710656
def EQZ (H S : List HZ) : Prop := ∀ (j : Nat) (e f : HZ), H[j]? = some e → S[j]? = some f → e.L = f.L ∧ e.V = f.V
/-- a block of another type stands while a row grows -/
theorem box_keepZ {W X : World} {B n b : Nat} {T T2 : TypeId} {sz : Nat} {v : Value} {xs : List Value} {cs : Array Value} {m : Nat × Nat} (h : W.ownsRow B T sz v n xs) (hb : W.heap[b]? = some (.cells cs T2 m)) (hne : T ≠ T2) (hg : W.grownBy X v.ownBlock) : X.heap[b]? = some (.cells cs T2 m) := by
  refine (hg.block b (lt_getZ hb) (fun e => ?_)).trans hb
  rcases h.2 with ⟨rfl, _⟩ | ⟨g, c, cur, rfl, _, hg2, _⟩
  · cases e
  · have : g = b := by injection e with e; exact e.symm
    subst this
    rw [hb] at hg2
    injection hg2 with hg2
    injection hg2 with _ hg2 _
    exact hne hg2.symm
theorem EQZ.snoc {H S : List HZ} {e f : HZ} (h : EQZ H S) (hl : H.length = S.length) (h1 : e.L = f.L) (h2 : e.V = f.V) : EQZ (H ++ [e]) (S ++ [f]) := fun j a b ha hb => by
  rcases at_snoc ha with ha1 | ⟨i1, i2⟩
  · rcases at_snoc hb with hb1 | ⟨j1, j2⟩
    · exact h j a b ha1 hb1
    · have := (List.getElem?_eq_some_iff.1 ha1).1
      omega
  · rcases at_snoc hb with hb1 | ⟨j1, j2⟩
    · have := (List.getElem?_eq_some_iff.1 hb1).1
      omega
    · rw [i2, j2]
      exact ⟨h1, h2⟩
theorem P3.mid {bt : Nat → List UInt8} {wP W X : World} {H : List HZ} {i : Nat} {K : List KB} {hv bv : Value} {e : HZ} {b : List UInt8} {mk : Int} {G1 G2' : Value} (h : P3 bt wP W H i K hv bv) (he : H[i]? = some e) (hz : KPZ b mk wP.heap.size e.L.length e.V.length e.a G1 e.b G2' W X) : X.ownsRow wP.heap.size 49 5 hv H.length (hvs H) ∧ (∃ xs, X.ownsRow wP.heap.size 49 5 bv K.length xs ∧ BKZ xs K) ∧ Below wP.heap.size wP X := by
  have hi := h.hh i e (Nat.le_refl _) he
  obtain ⟨z1, z2, g⟩ := hz
  obtain ⟨xs, b1, b2⟩ := h.ob
  exact ⟨own_g2 h.oh g (own_neZ h.oh hi.l (by decide)) (own_neZ h.oh hi.v (by decide)), ⟨xs, own_g2 b1 g (own_neZ b1 hi.l (by decide)) (own_neZ b1 hi.v (by decide)), b2⟩, g.belowTo h.be (fun k e => (hi.lta.1 k e).1) (fun k e => (hi.lta.2 k e).1)⟩
theorem KPZ.below {b : List UInt8} {mk : Int} {B n1 n2 : Nat} {v1 G1 v2 G2' : Value} {w X Y : World} (h : KPZ b mk B n1 n2 v1 G1 v2 G2' w X) (hb : Below X.heap.size X Y) : KPZ b mk B n1 n2 v1 G1 v2 G2' w Y := ⟨h.1.below hb, h.2.1.below hb, h.2.2.below hb⟩
/-- an append in a region that draws, by its run -/
theorem step_runZ {P : Program} {ops : Array Oper} {o : Oper} {a : Act} {w w' : World} {K : Act → World → Prop} {Q : Exit → Act → World → Prop} {E : Prop} {v u v' : Value} (hgd : o.guard = none) (s x : Operand) (t : TypeId) (ho : o.op = .call { callee := .builtin .append, args := #[s, x], argTypes := #[t, t] }) (hs : a.eval s = v) (hx : a.eval x = u) (hr : (Builtin.append_ #[t, t] o.type #[v, u]).run P w = .ok v' w') (h : K (a.put o.dst v') w') : if Region.wanted o (yielded ops a.tmps) = true then Oper.wp P o a w K Q else E := by
  have hw : Region.wanted o (yielded ops a.tmps) = true := by simp [Region.wanted, hgd]
  rw [if_pos hw]
  unfold Oper.wp execOp
  simp only [ho, resolve, invoke, builtin, Sem.run_bind, Sem.run_pure, Result.andThen_ok, List.map_toArray, List.map_cons, List.map_nil, hs, hx, hr]
  exact h
theorem own_capZ {W : World} {B n m g c : Nat} {e : TypeId} {sz : Nat} {xs : List Value} (h : W.ownsRow B e sz (.slice (some ⟨g, 0, none⟩) n c) m xs) : m ≤ c := by
  rcases h.2 with ⟨e, _⟩ | ⟨g2, c2, cur, e, _, _, h3, _⟩
  · cases e
  · injection e with _ _ e3
    omega
theorem info_fdZ : (Tryz.prog.info? 39).map (fun i => (i.zero, i.size, i.bytes)) = some (some (.agg #[.string ⟨#[]⟩, .int .i64 0]), 2, 24) := by kernel_rfl
theorem info_kpZ : (Tryz.prog.info? 49).map (fun i => (i.zero, i.size, i.bytes)) = some (some (.agg #[.slice none 0 0, .slice none 0 0, .slice none 0 0, .slice none 0 0, .int .i64 0]), 5, 104) := by kernel_rfl
set_option maxRecDepth 100000 in
set_option maxHeartbeats 16000000 in
theorem own_core (bt : Nat → List UInt8) (F : List (List UInt8 × Int)) (nf : Nat) (ad q : Option Addr) (m1 cap1 ns cs : Nat) (w : World) (hF : F.length = nf) (hF1 : 1 ≤ nf) (hF8 : nf ≤ 8)
    (hLay : ∀ W, Below w.heap.size w W → Calls Tryz.prog 6 #[.slice ad m1 cap1] W fun e w' => ∃ v, e = .returned v ∧ w'.ownsRow W.heap.size 39 2 v nf (felZ F) ∧ Below W.heap.size W w')
    (hC : ∀ W p c kd sa sb sc ss, Below w.heap.size w W → FRZ W p F → nf ≤ c → (ss : List UInt8).length ≤ 281474976710656 → Calls Tryz.prog 16 #[.slice p nf c, .agg #[.int .i64 kd, .int .i64 sa, .int .i64 sb, .int .i64 sc, .string ⟨ss.toArray⟩]] W fun e w' => ∃ p1 c1 p2 c2 L V, e = .returned (.tuple #[.slice p1 L.length c1, .slice p2 V.length c2, .bool true]) ∧ HO w' W.heap.size ⟨p1, c1, p2, c2, L, V⟩ ∧ Below W.heap.size W w')
    (hRo : ∀ W p c kd sa sb sc ss, Below w.heap.size w W → FRZ W p F → nf ≤ c → (ss : List UInt8).length ≤ 281474976710656 → Calls Tryz.prog 19 #[.slice p nf c, .agg #[.int .i64 kd, .int .i64 sa, .int .i64 sb, .int .i64 sc, .string ⟨ss.toArray⟩]] W fun e w' => e = .returned (.bool true) ∧ Below W.heap.size W w')
    (hB : ∀ (j : Nat) (W : World), j ≤ 100000 → Calls Tryz.prog 37 #[.int .i64 (j : Int), .int .i64 12] W fun e w' => e = .returned (.string ⟨(bt j).toArray⟩) ∧ Below W.heap.size W w')
    (hSa : ∀ W p1 c1 p2 c2 L B1 B2, OWZ 9 W B1 (.slice p1 L.length c1) (stZ L) → OWZ 9 W B2 (.slice p2 L.length c2) (stZ L) → L.length ≤ 8589934592 → Calls Tryz.prog 22 #[.slice p1 L.length c1, .slice p2 L.length c2] W fun e w' => e = .returned (.bool true) ∧ Below W.heap.size W w')
    (hAl : ∀ W p1 c1 p2 c2 L B1 B2, OWZ 3 W B1 (.slice p1 L.length c1) (inZ L) → OWZ 3 W B2 (.slice p2 L.length c2) (inZ L) → L.length ≤ 8589934592 → Calls Tryz.prog 23 #[.slice p1 L.length c1, .slice p2 L.length c2] W fun e w' => e = .returned (.bool true) ∧ Below W.heap.size W w')
    (hKn : ∀ W, Below w.heap.size w W → Calls Tryz.prog 15 #[] W fun e w' => e = .returned (.bool true) ∧ Below W.heap.size W w')
    (hSc : ISZ w q ns) : Calls Tryz.prog 4 #[.slice ad m1 cap1, .slice q ns cs] w fun e w' => e = .returned (.bool true) ∧ Below w.heap.size w w' := by
  obtain ⟨iF, hiF, hzF0, hzF1, hzF2⟩ := info_parts info_fdZ
  obtain ⟨iK, hiK, hzK0, hzK1, hzK2⟩ := info_parts info_kpZ
  have HLA : Hid (∀ W, Below w.heap.size w W → Calls Tryz.prog 6 #[.slice ad m1 cap1] W fun e w' => ∃ v, e = .returned v ∧ w'.ownsRow W.heap.size 39 2 v nf (felZ F) ∧ Below W.heap.size W w') := hLay
  have HC : Hid (∀ W p c kd sa sb sc ss, Below w.heap.size w W → FRZ W p F → nf ≤ c → (ss : List UInt8).length ≤ 281474976710656 → Calls Tryz.prog 16 #[.slice p nf c, .agg #[.int .i64 kd, .int .i64 sa, .int .i64 sb, .int .i64 sc, .string ⟨ss.toArray⟩]] W fun e w' => ∃ p1 c1 p2 c2 L V, e = .returned (.tuple #[.slice p1 L.length c1, .slice p2 V.length c2, .bool true]) ∧ HO w' W.heap.size ⟨p1, c1, p2, c2, L, V⟩ ∧ Below W.heap.size W w') := hC
  have HRO : Hid (∀ W p c kd sa sb sc ss, Below w.heap.size w W → FRZ W p F → nf ≤ c → (ss : List UInt8).length ≤ 281474976710656 → Calls Tryz.prog 19 #[.slice p nf c, .agg #[.int .i64 kd, .int .i64 sa, .int .i64 sb, .int .i64 sc, .string ⟨ss.toArray⟩]] W fun e w' => e = .returned (.bool true) ∧ Below W.heap.size W w') := hRo
  have HBT : Hid (∀ (j : Nat) (W : World), j ≤ 100000 → Calls Tryz.prog 37 #[.int .i64 (j : Int), .int .i64 12] W fun e w' => e = .returned (.string ⟨(bt j).toArray⟩) ∧ Below W.heap.size W w') := hB
  have HSC : Hid (ISZ w q ns ∧ F.length = nf) := ⟨hSc, hF⟩
  have HSA : Hid (∀ W p1 c1 p2 c2 L B1 B2, OWZ 9 W B1 (.slice p1 L.length c1) (stZ L) → OWZ 9 W B2 (.slice p2 L.length c2) (stZ L) → L.length ≤ 8589934592 → Calls Tryz.prog 22 #[.slice p1 L.length c1, .slice p2 L.length c2] W fun e w' => e = .returned (.bool true) ∧ Below W.heap.size W w') := hSa
  have HAL : Hid (∀ W p1 c1 p2 c2 L B1 B2, OWZ 3 W B1 (.slice p1 L.length c1) (inZ L) → OWZ 3 W B2 (.slice p2 L.length c2) (inZ L) → L.length ≤ 8589934592 → Calls Tryz.prog 23 #[.slice p1 L.length c1, .slice p2 L.length c2] W fun e w' => e = .returned (.bool true) ∧ Below W.heap.size W w') := hAl
  have HKN : Hid (∀ W, Below w.heap.size w W → Calls Tryz.prog 15 #[] W fun e w' => e = .returned (.bool true) ∧ Below W.heap.size W w') := hKn
  clear hLay hC hRo hB hSc hF hSa hAl hKn
  have hl1 := HLA.out w (Below.refl _ _)
  go_enter Tryz.func4, Tryz.ntmps4
  go_wp2_with fail
  refine hl1.mono ?_
  rintro e w1 ⟨v5, rfl, o5, hb1⟩
  clear hl1
  obtain ⟨p5, c5, rfl⟩ := shapeZ o5
  have HB1 : Hid (Below w.heap.size w w1) := hb1
  have oF : (w1.alloc (.cells #[.string ⟨#[114, 111, 111, 109]⟩, .int .i64 77] 39 (0, 0))).ownsRow w.heap.size 39 2 (.slice p5 nf c5) nf (felZ F) := own_belZ o5 (belAZ (Below.refl _ _) _)
  have hbs : w.heap.size ≤ (w1.alloc (.cells #[.string ⟨#[114, 111, 111, 109]⟩, .int .i64 77] 39 (0, 0))).heap.size := (belAZ hb1 _).size
  clear o5 hb1
  go_upto_region 3 with (at_builtin; refine wpList_append_own _ rfl _ _ 23 rfl w.heap.size 39 iF _ 2 24 Tryz.underlying23 hiF hzF0 hzF1 hzF2 rfl (by decide) _ _ _ rfl oF ⟨_, 0, none⟩ 1 1 [.string ⟨#[114, 111, 111, 109]⟩, .int .i64 77] rfl rfl (World.news_of_block (cs := #[.string ⟨#[114, 111, 111, 109]⟩, .int .i64 77]) (t := 39) (fr := (0, 0)) (alloc_getZ _ _)) (by simp [Value.oneCell']) (by unfold maxLen; omega) (by omega) hbs ?_; intro v6 w2 o6 g6 _)
  obtain ⟨p6, c6, rfl⟩ := shapeZ o6
  obtain ⟨g6b, rfl⟩ := own_someZ o6 (by omega)
  have hc6 : nf + 1 ≤ c6 := own_capZ o6
  have n0 : (0 : Int) ≤ (nf : Int) := by omega
  have n1 : (nf : Int) ≤ (c6 : Int) := by omega
  have HO6 : Hid (w2.ownsRow w.heap.size 39 2 (.slice (some ⟨g6b, 0, none⟩) (nf + 1) c6) (nf + 1) (felZ F ++ [.string ⟨#[114, 111, 111, 109]⟩, .int .i64 77]) ∧ Below w.heap.size w w2) := ⟨o6, bel_grZ (belAZ HB1.out _) g6 (fun k e => (oF.lt k e).1)⟩
  clear o6 g6 oF hbs HB1
  have hl2 := HLA.out w2 HO6.out.2
  go_wp2_with fail
  refine hl2.mono ?_
  rintro e w3 ⟨v7, rfl, o7, hb3⟩
  clear hl2
  obtain ⟨p7, c7, rfl⟩ := shapeZ o7
  obtain ⟨g7, rfl⟩ := own_someZ o7 (by omega)
  obtain ⟨wP, hwP⟩ : ∃ wP, w3 = wP := ⟨_, rfl⟩
  have HF : Hid (∀ U, Below w3.heap.size w3 U → FRZ U (some ⟨g6b, 0, none⟩) F ∧ FRZ U (some ⟨g7, 0, none⟩) F ∧ U.cell? ⟨g6b, nf * 2, none⟩ = some (.string ⟨#[114, 111, 111, 109]⟩) ∧ U.cell? ⟨g6b, nf * 2 + 1, none⟩ = some (.int .i64 77) ∧ Below w.heap.size w U) := fun U hU => by
    have h6 : ∀ X, Below U.heap.size U X → X.ownsRow w.heap.size 39 2 (.slice (some ⟨g6b, 0, none⟩) (nf + 1) c6) (nf + 1) (felZ F ++ [.string ⟨#[114, 111, 111, 109]⟩, .int .i64 77]) := fun X hX => own_belZ HO6.out.1 (bel0Z hb3 (bel0Z hU hX))
    have hfl : (felZ F).length = nf * 2 := by rw [felZ_len, HSC.out.2]
    refine ⟨fun X hX k f hf => ⟨g6b, rfl, ?_, ?_⟩, fun X hX k f hf => ?_, own_atZ (h6 U (Below.refl _ _)) ?_, own_atZ (h6 U (Below.refl _ _)) ?_, bel0Z HO6.out.2 (bel0Z hb3 hU)⟩
    · have hk := (List.getElem?_eq_some_iff.1 hf).1
      exact own_atZ (h6 X hX) (by rw [List.getElem?_append_left (by rw [felZ_len]; omega)]; exact (felZ_at F k f hf).1)
    · have hk := (List.getElem?_eq_some_iff.1 hf).1
      exact own_atZ (h6 X hX) (by rw [List.getElem?_append_left (by rw [felZ_len]; omega)]; exact (felZ_at F k f hf).2)
    · have o7' := own_belZ o7 (bel0Z hU hX)
      exact ⟨g7, rfl, own_atZ o7' (felZ_at F k f hf).1, own_atZ o7' (felZ_at F k f hf).2⟩
    · rw [List.getElem?_append_right (by rw [hfl]; exact Nat.le_refl _), hfl, Nat.sub_self]; rfl
    · rw [List.getElem?_append_right (by rw [hfl]; omega), hfl, show nf * 2 + 1 - nf * 2 = 1 by omega]; rfl
  clear o7 hb3 HO6 HLA hiF hzF0 hzF1 hzF2 iF
  subst hwP
  rename World => wP
  go_wp2_with fail
  go_loopw [8, 9, 10, 11] (fun v8 v9 v10 v11 wr => ∃ (r nh nb : Nat) (ph pw pb : Option Addr) (ch cw cb : Nat), v11 = .int .i64 (r : Int) ∧ v9 = .slice ph nh ch ∧ v10 = .slice pw nh cw ∧ v8 = .slice pb nb cb ∧ r ≤ 2 ∧ nh ≤ 200 * r ∧ nb ≤ 100 * r ∧ Hid (∃ H S K, H.length = nh ∧ S.length = nh ∧ K.length = nb ∧ EQZ H S ∧ PS bt wP wr H S K (.slice ph nh ch) (.slice pw nh cw) (.slice pb nb cb))) (fun _ _ _ v11 _ => 2 - (intOf v11).toNat)
  case atStart => exact ⟨0, 0, 0, none, none, none, 0, 0, 0, rfl, rfl, rfl, rfl, by omega, by omega, by omega, [], [], [], rfl, rfl, rfl, (fun j e f h => by simp at h), PS.start bt wP⟩
  case round =>
    obtain ⟨r, nh, nb, ph, pw, pb, ch, cw, cb, rfl, rfl, rfl, rfl, hr2, hnh, hnb, HR⟩ := hrel
    by_cases hrl : r < 2
    · have r1 : (r : Int) < 2 := by omega
      go_wp2_with fail
      go_loopw [8, 9, 10, 12] (fun v8 v9 v10 v12 ws => ∃ (n nh nb : Nat) (ph pw pb : Option Addr) (ch cw cb : Nat), v12 = .int .i64 (n : Int) ∧ v9 = .slice ph nh ch ∧ v10 = .slice pw nh cw ∧ v8 = .slice pb nb cb ∧ n ≤ 100 ∧ nh ≤ 200 * r + 2 * n ∧ nb ≤ 100 * r + n ∧ Hid (∃ H S K, H.length = nh ∧ S.length = nh ∧ K.length = nb ∧ EQZ H S ∧ PS bt wP ws H S K (.slice ph nh ch) (.slice pw nh cw) (.slice pb nb cb))) (fun _ _ _ v12 _ => 100 - (intOf v12).toNat)
      case atStart => exact ⟨0, nh, nb, ph, pw, pb, ch, cw, cb, rfl, rfl, rfl, rfl, by omega, by omega, by omega, HR⟩
      case round =>
        clear HR hnh hnb
        rename World => ws
        obtain ⟨n, nh, nb, ph, pw, pb, ch, cw, cb, rfl, rfl, rfl, rfl, hn1, hnh, hnb, HR⟩ := hrel
        by_cases h1 : n < ns
        · by_cases h2 : n < 100
          · have i0 : (0 : Int) ≤ (n : Int) := by omega
            have i1 : (n : Int) < (ns : Int) := by omega
            have i2 : (n : Int) < 100 := by omega
            obtain ⟨H, S, K, hH, hS, hK, hEQ, hps⟩ := HR.out
            obtain ⟨g, o0, kd, sa, sb, sc, ss, rfl, s0, s1, s2, s3, s4, hss⟩ := HSC.out.1 ws (HF.out ws hps.be).2.2.2.2 n h1
            have HSS : Hid (ss.length ≤ 281474976710656) := hss
            have HL0 : Hid (H.length = nh ∧ S.length = nh ∧ K.length = nb ∧ EQZ H S) := ⟨hH, hS, hK, hEQ⟩
            have HP0 : Hid (PS bt wP (ws.alloc (.cells #[.int .i64 kd, .int .i64 sa, .int .i64 sb, .int .i64 sc, .string ⟨ss.toArray⟩] 45 (0, 0))) H S K (.slice ph nh ch) (.slice pw nh cw) (.slice pb nb cb)) := hps.below (belAZ (Below.refl _ _) _)
            obtain ⟨b13, hb13⟩ : ∃ b13, ws.heap.size = b13 := ⟨_, rfl⟩
            have HB0 : Hid ((ws.alloc (.cells #[.int .i64 kd, .int .i64 sa, .int .i64 sb, .int .i64 sc, .string ⟨ss.toArray⟩] 45 (0, 0))).heap[b13]? = some (.cells #[.int .i64 kd, .int .i64 sa, .int .i64 sb, .int .i64 sc, .string ⟨ss.toArray⟩] 45 (0, 0))) := by
              unfold Hid
              rw [← hb13]
              exact alloc_getZ _ _
            clear HR hH hS hK hEQ hps hss
            have HC1 := HC.out (ws.alloc (.cells #[.int .i64 kd, .int .i64 sa, .int .i64 sb, .int .i64 sc, .string ⟨ss.toArray⟩] 45 (0, 0))) (some ⟨g6b, 0, none⟩) c6 kd sa sb sc ss (HF.out _ HP0.out.be).2.2.2.2 (HF.out _ HP0.out.be).1 (by omega) HSS.out
            go_wp2_with fail
            refine HC1.mono ?_
            rintro e y1 ⟨p11, c11, p21, c21, L1, V1, rfl, ho1, hb1⟩
            clear HC1
            have HA1 : Hid (PS bt wP (y1.alloc (.cells #[.slice p11 L1.length c11, .slice none 0 0, .slice p21 V1.length c21, .slice none 0 0, .int .i64 0] 49 (0, 0))) H S K (.slice ph nh ch) (.slice pw nh cw) (.slice pb nb cb) ∧ HO y1 ((ws.alloc (.cells #[.int .i64 kd, .int .i64 sa, .int .i64 sb, .int .i64 sc, .string ⟨ss.toArray⟩] 45 (0, 0)))).heap.size ⟨p11, c11, p21, c21, L1, V1⟩ ∧ Below ((ws.alloc (.cells #[.int .i64 kd, .int .i64 sa, .int .i64 sb, .int .i64 sc, .string ⟨ss.toArray⟩] 45 (0, 0)))).heap.size ((ws.alloc (.cells #[.int .i64 kd, .int .i64 sa, .int .i64 sb, .int .i64 sc, .string ⟨ss.toArray⟩] 45 (0, 0)))) y1) := ⟨HP0.out.below (belAZ hb1 _), ho1, hb1⟩
            obtain ⟨hv1, X1, hr1, o1, g1, n1⟩ := appZ (T := 49) (TS := 43) 43 Tryz.underlying43 hiK hzK0 hzK1 hzK2 rfl (by decide) HA1.out.1.oh HA1.out.1.be.size (by rfl) (World.news_of_block (alloc_getZ _ _)) (by simp [Value.oneCell']) (by rw [HL0.out.1]; omega) (by decide)
            obtain ⟨ph1, ch1, rfl⟩ := shapeZ o1
            have HXB1 : Hid (X1.heap[b13]? = some (.cells #[.int .i64 kd, .int .i64 sa, .int .i64 sb, .int .i64 sc, .string ⟨ss.toArray⟩] 45 (0, 0))) := box_keepZ HA1.out.1.oh (keepZ (belAZ hb1 _) HB0.out) (by decide) g1
            have HQ1 : Hid (PS bt wP X1 (H ++ [⟨p11, c11, p21, c21, L1, V1⟩]) S K (.slice ph1 (nh + 1) ch1) (.slice pw nh cw) (.slice pb nb cb)) := by
              have h := PS.held HP0.out (belAZ hb1 _) (ho1.below (belAZ (Below.refl _ _) _)) o1 g1 n1
              rw [HL0.out.1] at h
              exact h
            rw [HL0.out.1] at hr1
            have HR1 : Hid _ := hr1
            clear hr1 o1 g1 n1 ho1 hb1
            go_upto_region 18 with (at_builtin; refine wpList_runZ rfl _ _ 43 rfl rfl rfl HR1.out ?_; clear HR1)
            clear HA1
            have HO1 : Hid (HO X1 wP.heap.size ⟨p11, c11, p21, c21, L1, V1⟩) := HQ1.out.hh (H).length _ (by simp)
            have HCP1 := copied_any L1 p11 L1.length c11 wP.heap.size X1 rfl (Nat.le_trans HO1.out.s1 (by omega)) HO1.out.l
            go_wp2_with fail
            refine HCP1.mono ?_
            rintro e z1 ⟨va1, rfl, oa1, hba1⟩
            clear HCP1
            obtain ⟨pa1, ca1, rfl⟩ := oa1.shape
            rw [stZ_len] at oa1 ⊢
            have HIN1 := ints_any V1 p21 V1.length c21 wP.heap.size z1 rfl (Nat.le_trans HO1.out.s2 (by omega)) (HO1.out.v.below hba1)
            have HOA1 : Hid (OWZ 9 z1 X1.heap.size (.slice pa1 L1.length ca1) (stZ L1) ∧ Below X1.heap.size X1 z1) := ⟨oa1, hba1⟩
            clear oa1 hba1
            go_wp2_with fail
            refine HIN1.mono ?_
            rintro e zz1 ⟨vz1, rfl, oz1, hbz1⟩
            clear HIN1
            obtain ⟨pz1, cz1, rfl⟩ := oz1.shape
            rw [inZ_len] at oz1 ⊢
            have hbx1 : Below X1.heap.size X1 (zz1.alloc (.cells #[.slice pa1 L1.length ca1, .slice none 0 0, .slice pz1 V1.length cz1, .slice none 0 0, .int .i64 0] 49 (0, 0))) := belAZ (bel0Z HOA1.out.2 hbz1) _
            have hps1 := HQ1.out.below hbx1
            obtain ⟨sv1, Y1, hr1, o1, g1, n1⟩ := appZ (T := 49) (TS := 43) 43 Tryz.underlying43 hiK hzK0 hzK1 hzK2 rfl (by decide) hps1.osx hps1.be.size (by rfl) (World.news_of_block (alloc_getZ _ _)) (by simp [Value.oneCell']) (by rw [HL0.out.2.1]; omega) (by decide)
            obtain ⟨pw1, cw1, rfl⟩ := shapeZ o1
            have HYB1 : Hid (Y1.heap[b13]? = some (.cells #[.int .i64 kd, .int .i64 sa, .int .i64 sb, .int .i64 sc, .string ⟨ss.toArray⟩] 45 (0, 0))) := box_keepZ hps1.osx (keepZ hbx1 HXB1.out) (by decide) g1
            have HW1 : Hid (PS bt wP Y1 (H ++ [⟨p11, c11, p21, c21, L1, V1⟩]) (S ++ [⟨pa1, ca1, pz1, cz1, L1, V1⟩]) K (.slice ph1 (nh + 1) ch1) (.slice pw1 (nh + 1) cw1) (.slice pb nb cb)) := by
              have h := PS.was hps1 (e := ⟨pa1, ca1, pz1, cz1, L1, V1⟩) (B := X1.heap.size) ⟨(HOA1.out.1.below hbz1).below (belAZ (Below.refl _ _) _), OWZ.base (oz1.below (belAZ (Below.refl _ _) _)) HOA1.out.2.size, HO1.out.s1, HO1.out.s2⟩ HQ1.out.be.size o1 g1 n1
              rw [HL0.out.2.1] at h
              exact h
            rw [HL0.out.2.1] at hr1
            have HR1 : Hid _ := hr1
            clear hr1 o1 g1 n1 oz1 hbz1 hbx1 hps1 HOA1 HO1 HQ1 HXB1
            go_upto_region 19 with (at_builtin; refine wpList_runZ rfl _ _ 43 rfl rfl rfl HR1.out ?_; clear HR1)
            clear s0 s1 s2 s3 s4 HP0 HB0
            have HL1 : Hid ((H ++ [HZ.mk p11 c11 p21 c21 L1 V1]).length = nh + 1 ∧ (S ++ [HZ.mk pa1 ca1 pz1 cz1 L1 V1]).length = nh + 1 ∧ K.length = nb ∧ EQZ (H ++ [⟨p11, c11, p21, c21, L1, V1⟩]) (S ++ [⟨pa1, ca1, pz1, cz1, L1, V1⟩])) := ⟨by rw [List.length_append, HL0.out.1]; rfl, by rw [List.length_append, HL0.out.2.1]; rfl, HL0.out.2.2.1, HL0.out.2.2.2.snoc (HL0.out.1.trans HL0.out.2.1.symm) rfl rfl⟩
            clear HL0
            by_cases hr1 : r = 1
            · subst hr1
              have HX : Hid (∃ H S K, H.length = nh + 1 ∧ S.length = nh + 1 ∧ K.length = nb ∧ EQZ H S ∧ PS bt wP Y1 H S K (.slice ph1 (nh + 1) ch1) (.slice pw1 (nh + 1) cw1) (.slice pb nb cb)) := ⟨_, _, K, HL1.out.1, HL1.out.2.1, HL1.out.2.2.1, HL1.out.2.2.2, HW1.out⟩
              clear HL1 HW1 HYB1
              go_wp2_with fail
              go_roundw
              case rel => exact ⟨n + 1, nh + 1, nb, ph1, pw1, pb, ch1, cw1, cb, by go_num, rfl, rfl, rfl, by omega, by omega, by omega, HX⟩
              case measure => simp [intOf]; omega
            · have r0n : ¬ (r : Int) = 1 := by omega
              have r0b : ((r : Int) == 1) = false := by simpa using r0n
              obtain ⟨u0, -⟩ := cellsZ HYB1.out
              have HC2 := HC.out Y1 (some ⟨g6b, 0, none⟩) c6 kd sa sb sc ss (HF.out _ HW1.out.be).2.2.2.2 (HF.out _ HW1.out.be).1 (by omega) HSS.out
              go_wp2_with fail
              refine HC2.mono ?_
              rintro e y2 ⟨p12, c12, p22, c22, L2, V2, rfl, ho2, hb2⟩
              clear HC2
              have HA2 : Hid (PS bt wP (y2.alloc (.cells #[.slice p12 L2.length c12, .slice none 0 0, .slice p22 V2.length c22, .slice none 0 0, .int .i64 0] 49 (0, 0))) (H ++ [HZ.mk p11 c11 p21 c21 L1 V1]) (S ++ [HZ.mk pa1 ca1 pz1 cz1 L1 V1]) K (.slice ph1 (nh + 1) ch1) (.slice pw1 (nh + 1) cw1) (.slice pb nb cb) ∧ HO y2 (Y1).heap.size ⟨p12, c12, p22, c22, L2, V2⟩ ∧ Below (Y1).heap.size (Y1) y2) := ⟨HW1.out.below (belAZ hb2 _), ho2, hb2⟩
              obtain ⟨hv2, X2, hr2, o2, g2, n2⟩ := appZ (T := 49) (TS := 43) 43 Tryz.underlying43 hiK hzK0 hzK1 hzK2 rfl (by decide) HA2.out.1.oh HA2.out.1.be.size (by rfl) (World.news_of_block (alloc_getZ _ _)) (by simp [Value.oneCell']) (by rw [HL1.out.1]; omega) (by decide)
              obtain ⟨ph2, ch2, rfl⟩ := shapeZ o2
              have HXB2 : Hid (X2.heap[b13]? = some (.cells #[.int .i64 kd, .int .i64 sa, .int .i64 sb, .int .i64 sc, .string ⟨ss.toArray⟩] 45 (0, 0))) := box_keepZ HA2.out.1.oh (keepZ (belAZ hb2 _) HYB1.out) (by decide) g2
              have HQ2 : Hid (PS bt wP X2 ((H ++ [HZ.mk p11 c11 p21 c21 L1 V1]) ++ [⟨p12, c12, p22, c22, L2, V2⟩]) (S ++ [HZ.mk pa1 ca1 pz1 cz1 L1 V1]) K (.slice ph2 ((nh + 1) + 1) ch2) (.slice pw1 (nh + 1) cw1) (.slice pb nb cb)) := by
                have h := PS.held HW1.out (belAZ hb2 _) (ho2.below (belAZ (Below.refl _ _) _)) o2 g2 n2
                rw [HL1.out.1] at h
                exact h
              rw [HL1.out.1] at hr2
              have HR2 : Hid _ := hr2
              clear hr2 o2 g2 n2 ho2 hb2
              go_upto_region 22 with (at_builtin; refine wpList_runZ rfl _ _ 43 rfl rfl rfl HR2.out ?_; clear HR2)
              clear HA2
              have HO2 : Hid (HO X2 wP.heap.size ⟨p12, c12, p22, c22, L2, V2⟩) := HQ2.out.hh ((H ++ [HZ.mk p11 c11 p21 c21 L1 V1])).length _ (by simp)
              have HCP2 := copied_any L2 p12 L2.length c12 wP.heap.size X2 rfl (Nat.le_trans HO2.out.s1 (by omega)) HO2.out.l
              go_wp2_with fail
              refine HCP2.mono ?_
              rintro e z2 ⟨va2, rfl, oa2, hba2⟩
              clear HCP2
              obtain ⟨pa2, ca2, rfl⟩ := oa2.shape
              rw [stZ_len] at oa2 ⊢
              have HIN2 := ints_any V2 p22 V2.length c22 wP.heap.size z2 rfl (Nat.le_trans HO2.out.s2 (by omega)) (HO2.out.v.below hba2)
              have HOA2 : Hid (OWZ 9 z2 X2.heap.size (.slice pa2 L2.length ca2) (stZ L2) ∧ Below X2.heap.size X2 z2) := ⟨oa2, hba2⟩
              clear oa2 hba2
              go_wp2_with fail
              refine HIN2.mono ?_
              rintro e zz2 ⟨vz2, rfl, oz2, hbz2⟩
              clear HIN2
              obtain ⟨pz2, cz2, rfl⟩ := oz2.shape
              rw [inZ_len] at oz2 ⊢
              have hbx2 : Below X2.heap.size X2 (zz2.alloc (.cells #[.slice pa2 L2.length ca2, .slice none 0 0, .slice pz2 V2.length cz2, .slice none 0 0, .int .i64 0] 49 (0, 0))) := belAZ (bel0Z HOA2.out.2 hbz2) _
              have hps2 := HQ2.out.below hbx2
              obtain ⟨sv2, Y2, hr2, o2, g2, n2⟩ := appZ (T := 49) (TS := 43) 43 Tryz.underlying43 hiK hzK0 hzK1 hzK2 rfl (by decide) hps2.osx hps2.be.size (by rfl) (World.news_of_block (alloc_getZ _ _)) (by simp [Value.oneCell']) (by rw [HL1.out.2.1]; omega) (by decide)
              obtain ⟨pw2, cw2, rfl⟩ := shapeZ o2
              have HYB2 : Hid (Y2.heap[b13]? = some (.cells #[.int .i64 kd, .int .i64 sa, .int .i64 sb, .int .i64 sc, .string ⟨ss.toArray⟩] 45 (0, 0))) := box_keepZ hps2.osx (keepZ hbx2 HXB2.out) (by decide) g2
              have HW2 : Hid (PS bt wP Y2 ((H ++ [HZ.mk p11 c11 p21 c21 L1 V1]) ++ [⟨p12, c12, p22, c22, L2, V2⟩]) ((S ++ [HZ.mk pa1 ca1 pz1 cz1 L1 V1]) ++ [⟨pa2, ca2, pz2, cz2, L2, V2⟩]) K (.slice ph2 ((nh + 1) + 1) ch2) (.slice pw2 ((nh + 1) + 1) cw2) (.slice pb nb cb)) := by
                have h := PS.was hps2 (e := ⟨pa2, ca2, pz2, cz2, L2, V2⟩) (B := X2.heap.size) ⟨(HOA2.out.1.below hbz2).below (belAZ (Below.refl _ _) _), OWZ.base (oz2.below (belAZ (Below.refl _ _) _)) HOA2.out.2.size, HO2.out.s1, HO2.out.s2⟩ HQ2.out.be.size o2 g2 n2
                rw [HL1.out.2.1] at h
                exact h
              rw [HL1.out.2.1] at hr2
              have HR2 : Hid _ := hr2
              clear hr2 o2 g2 n2 oz2 hbz2 hbx2 hps2 HOA2 HO2 HQ2 HXB2
              go_upto_region 23 with (at_builtin; refine wpList_runZ rfl _ _ 43 rfl rfl rfl HR2.out ?_; clear HR2)
              clear u0 HW1 HYB1
              obtain ⟨u0, -⟩ := cellsZ HYB2.out
              have HC3 := HC.out Y2 (some ⟨g6b, 0, none⟩) c6 kd sa sb sc ss (HF.out _ HW2.out.be).2.2.2.2 (HF.out _ HW2.out.be).1 (by omega) HSS.out
              go_wp2_with fail
              refine HC3.mono ?_
              rintro e y3 ⟨p13, c13, p23, c23, L3, V3, rfl, ho3, hb3⟩
              clear HC3 u0
              obtain ⟨u0, -⟩ := cellsZ (keepZ hb3 HYB2.out)
              have hw3 : Below wP.heap.size wP y3 := bel0Z HW2.out.be hb3
              have HR3 := HRO.out y3 (some ⟨g6b, 0, none⟩) c6 kd sa sb sc ss (HF.out _ hw3).2.2.2.2 (HF.out _ hw3).1 (by omega) HSS.out
              go_wp2_with fail
              refine HR3.mono ?_
              rintro e y4 ⟨rfl, hb4⟩
              have HO3 : Hid (HO y4 Y2.heap.size ⟨p13, c13, p23, c23, L3, V3⟩ ∧ Below Y2.heap.size Y2 y4) := ⟨ho3.below hb4, bel0Z hb3 hb4⟩
              clear HR3 u0 hw3 ho3 hb3 hb4
              have HKE := kept_any (bt nb) (stZ L3) (inZ V3) p13 p23 L3.length c13 V3.length c23 Y2.heap.size nb (mkZ nb) y4 (stZ_len _) (inZ_len _) HO3.out.1.l HO3.out.1.v HO3.out.1.s1 HO3.out.1.s2 (by omega) rfl (fun W => HBT.out nb W (by omega))
              go_wp2_with fail
              refine HKE.mono ?_
              rintro e y5 ⟨q13, d13, q23, d23, rfl, hz3⟩
              clear HKE
              have hK5 : KP bt y5 Y2.heap.size ⟨p13, c13, L3.length, q13, d13, p23, c23, V3.length, q23, d23⟩ nb := hz3.kp HO3.out.2.size HO3.out.1.s1 HO3.out.1.s2
              have hB5 : Below Y2.heap.size Y2 y5 := (hz3.2.2).belowTo HO3.out.2 (fun k e => (HO3.out.1.lta.1 k e).1) (fun k e => (HO3.out.1.lta.2 k e).1)
              have hps5 := HW2.out.below (belAZ hB5 (.cells #[.slice p13 L3.length c13, .slice q13 (L3.length + 64) d13, .slice p23 V3.length c23, .slice q23 (V3.length + 64) d23, .int .i64 (nb : Int)] 49 (0, 0)))
              obtain ⟨xs5, hx1, hx2⟩ := hps5.ob
              obtain ⟨bv6, Z6, hr6, o6, g6, n6⟩ := appZ (T := 49) (TS := 43) 43 Tryz.underlying43 hiK hzK0 hzK1 hzK2 rfl (by decide) hx1 hps5.be.size (by rfl) (World.news_of_block (alloc_getZ _ _)) (by simp [Value.oneCell']) (by rw [HL1.out.2.2.1]; omega) (by decide)
              obtain ⟨pb6, cb6, rfl⟩ := shapeZ o6
              have HPB : Hid (PS bt wP Z6 (H ++ [HZ.mk p11 c11 p21 c21 L1 V1] ++ [HZ.mk p12 c12 p22 c22 L2 V2]) (S ++ [HZ.mk pa1 ca1 pz1 cz1 L1 V1] ++ [HZ.mk pa2 ca2 pz2 cz2 L2 V2]) (K ++ [⟨p13, c13, L3.length, q13, d13, p23, c23, V3.length, q23, d23⟩]) (.slice ph2 (nh + 1 + 1) ch2) (.slice pw2 (nh + 1 + 1) cw2) (.slice pb6 (nb + 1) cb6)) := by
                have h := PS.book HW2.out (k := ⟨p13, c13, L3.length, q13, d13, p23, c23, V3.length, q23, d23⟩) (bv2 := .slice pb6 (K.length + 1) cb6) (X := Z6) (belAZ hB5 (.cells #[.slice p13 L3.length c13, .slice q13 (L3.length + 64) d13, .slice p23 V3.length c23, .slice q23 (V3.length + 64) d23, .int .i64 (nb : Int)] 49 (0, 0))) (by rw [HL1.out.2.2.1]; exact hK5.below (belAZ (Below.refl _ _) _)) (fun xs' a b => by
                  obtain ⟨v9, W9, hr9, o9, -, -⟩ := appZ (T := 49) (TS := 43) 43 Tryz.underlying43 hiK hzK0 hzK1 hzK2 rfl (by decide) a hps5.be.size (by rfl) (World.news_of_block (alloc_getZ _ _)) (by simp [Value.oneCell']) (by rw [HL1.out.2.2.1]; omega) (by decide)
                  rw [hr6] at hr9
                  injection hr9 with e1 e2
                  subst e1 e2
                  refine ⟨_, o9, ?_⟩
                  have hs := b.snoc (e := ⟨p13, c13, L3.length, q13, d13, p23, c23, V3.length, q23, d23⟩) a.1
                  unfold KB.vs at hs
                  rw [HL1.out.2.2.1] at hs
                  exact hs) g6 n6
                rw [HL1.out.2.2.1] at h
                exact h
              rw [HL1.out.2.2.1] at hr6
              have HR6 : Hid _ := hr6
              have HLK : Hid ((K ++ [KB.mk p13 c13 L3.length q13 d13 p23 c23 V3.length q23 d23]).length = nb + 1) := by
                unfold Hid
                rw [List.length_append, HL1.out.2.2.1]
                rfl
              have HL2 : Hid ((H ++ [HZ.mk p11 c11 p21 c21 L1 V1] ++ [HZ.mk p12 c12 p22 c22 L2 V2]).length = nh + 1 + 1 ∧ (S ++ [HZ.mk pa1 ca1 pz1 cz1 L1 V1] ++ [HZ.mk pa2 ca2 pz2 cz2 L2 V2]).length = nh + 1 + 1 ∧ (K ++ [KB.mk p13 c13 L3.length q13 d13 p23 c23 V3.length q23 d23]).length = nb + 1 ∧ EQZ (H ++ [HZ.mk p11 c11 p21 c21 L1 V1] ++ [HZ.mk p12 c12 p22 c22 L2 V2]) (S ++ [HZ.mk pa1 ca1 pz1 cz1 L1 V1] ++ [HZ.mk pa2 ca2 pz2 cz2 L2 V2])) := ⟨by rw [List.length_append, HL1.out.1]; rfl, by rw [List.length_append, HL1.out.2.1]; rfl, HLK.out, HL1.out.2.2.2.snoc (HL1.out.1.trans HL1.out.2.1.symm) rfl rfl⟩
              clear hr6 o6 g6 n6 hx1 hx2 hps5 hK5 hB5 hz3 HO3 HW2 HYB2 HL1
              go_upto_region 28 with (at_builtin; refine wpList_runZ rfl _ _ 43 rfl rfl rfl HR6.out ?_; clear HR6)
              obtain ⟨xs6, hx1, hx2⟩ := HPB.out.ob
              have HSN := seen_any bt (K ++ [KB.mk p13 c13 L3.length q13 d13 p23 c23 V3.length q23 d23]) xs6 pb6 (nb + 1) cb6 wP.heap.size wP.heap.size Z6 HLK.out (by omega) (by rw [HLK.out] at hx1; exact hx1) hx2 HPB.out.kk HBT.out
              clear hx1 hx2 HLK
              go_wp2_with fail
              refine HSN.mono ?_
              rintro e Z7 ⟨rfl, hb7⟩
              have HP7 : Hid (PS bt wP Z7 (H ++ [HZ.mk p11 c11 p21 c21 L1 V1] ++ [HZ.mk p12 c12 p22 c22 L2 V2]) (S ++ [HZ.mk pa1 ca1 pz1 cz1 L1 V1] ++ [HZ.mk pa2 ca2 pz2 cz2 L2 V2]) (K ++ [⟨p13, c13, L3.length, q13, d13, p23, c23, V3.length, q23, d23⟩]) (.slice ph2 (nh + 1 + 1) ch2) (.slice pw2 (nh + 1 + 1) cw2) (.slice pb6 (nb + 1) cb6)) := HPB.out.below hb7
              obtain ⟨-, -, k1, k2, -⟩ := HF.out Z7 HP7.out.be
              have f0 : (0 : Int) ≤ (nf : Int) := by omega
              have f1 : (nf : Int) < (nf : Int) + 1 := by omega
              clear hb7 HPB HSN
              go_wp2_with fail
              clear k1 k2
              go_loopw [24] (fun v24 wt => ∃ j : Nat, v24 = .int .i64 (j : Int) ∧ j ≤ nf ∧ Hid (PS bt wP wt (H ++ [HZ.mk p11 c11 p21 c21 L1 V1] ++ [HZ.mk p12 c12 p22 c22 L2 V2]) (S ++ [HZ.mk pa1 ca1 pz1 cz1 L1 V1] ++ [HZ.mk pa2 ca2 pz2 cz2 L2 V2]) (K ++ [⟨p13, c13, L3.length, q13, d13, p23, c23, V3.length, q23, d23⟩]) (.slice ph2 (nh + 1 + 1) ch2) (.slice pw2 (nh + 1 + 1) cw2) (.slice pb6 (nb + 1) cb6))) (fun v24 _ => nf - (intOf v24).toNat)
              case atStart => exact ⟨0, rfl, Nat.zero_le _, HP7⟩
              case round =>
                clear HP7
                rename World => wt
                obtain ⟨j, rfl, hj, HRT⟩ := hrel
                by_cases hjl : j < nf
                · have j0 : (0 : Int) ≤ (j : Int) := by omega
                  have j1 : (j : Int) < (nf : Int) := by omega
                  obtain ⟨f, hf⟩ : ∃ f, F[j]? = some f := ⟨_, List.getElem?_eq_getElem (by rw [HSC.out.2]; exact hjl)⟩
                  have HKQ : Hid (∀ U, Below wt.heap.size wt U → U.cell? ⟨g6b, j * 2, none⟩ = some (.string ⟨f.1.toArray⟩) ∧ U.cell? ⟨g6b, j * 2 + 1, none⟩ = some (.int .i64 f.2) ∧ U.cell? ⟨g7, j * 2, none⟩ = some (.string ⟨f.1.toArray⟩) ∧ U.cell? ⟨g7, j * 2 + 1, none⟩ = some (.int .i64 f.2)) := fun U hU => by
                    obtain ⟨a1, a2, -⟩ := HF.out U (bel0Z HRT.out.be hU)
                    obtain ⟨x, e1, x1, x2⟩ := a1 U (Below.refl _ _) j f hf
                    obtain ⟨y, e2, x3, x4⟩ := a2 U (Below.refl _ _) j f hf
                    injection e1 with e1
                    injection e1 with e1
                    injection e2 with e2
                    injection e2 with e2
                    subst e1 e2
                    exact ⟨x1, x2, x3, x4⟩
                  clear hf
                  obtain ⟨fn, fb⟩ := f
                  simp only at HKQ
                  go_wp2_with fail
                  refine quiet_lit3 (C := fun U => Below wt.heap.size wt U) (by kernel_rfl) (by kernel_rfl) (show Below _ _ _ from (Below.refl _ _).drew) ?_
                  go_big_quiet_want
                  go_big_quiet_op
                  go_big_quiet_on
                  go_big_quiet_want
                  go_big_quiet_op
                  go_big_quiet_on
                  go_big_quiet_want
                  refine ⟨.pointer (some ⟨g6b, j * 2, none⟩), fun W hW => ?_, ?_⟩
                  · go_simp
                  go_big_quiet_on
                  simp only [Act.put, List.setIfInBounds_toArray, List.set_cons_zero, List.set_cons_succ]
                  go_big_quiet_want
                  refine ⟨.agg #[.string ⟨fn.toArray⟩, .int .i64 fb], fun W hW => ?_, ?_⟩
                  · obtain ⟨s1, s2, s3, s4⟩ := HKQ.out W hW
                    go_simp
                  go_big_quiet_on
                  simp only [Act.put, List.setIfInBounds_toArray, List.set_cons_zero, List.set_cons_succ]
                  go_big_quiet_want
                  go_big_quiet_op
                  go_big_quiet_on
                  go_big_quiet_want
                  go_big_quiet_op
                  go_big_quiet_on
                  go_big_quiet_want
                  refine ⟨.pointer (some ⟨g7, j * 2, none⟩), fun W hW => ?_, ?_⟩
                  · go_simp
                  go_big_quiet_on
                  simp only [Act.put, List.setIfInBounds_toArray, List.set_cons_zero, List.set_cons_succ]
                  go_big_quiet_want
                  refine ⟨.agg #[.string ⟨fn.toArray⟩, .int .i64 fb], fun W hW => ?_, ?_⟩
                  · obtain ⟨s1, s2, s3, s4⟩ := HKQ.out W hW
                    go_simp
                  go_big_quiet_on
                  simp only [Act.put, List.setIfInBounds_toArray, List.set_cons_zero, List.set_cons_succ]
                  go_big_quiet_want
                  refine ⟨.bool false, fun W hW => ?_, ?_⟩
                  · go_simp
                  go_big_quiet_on
                  simp only [Act.put, List.setIfInBounds_toArray, List.set_cons_zero, List.set_cons_succ]
                  refine wpQuiet_nil ?_
                  intro z5 hz5
                  have HX : Hid (PS bt wP z5 (H ++ [HZ.mk p11 c11 p21 c21 L1 V1] ++ [HZ.mk p12 c12 p22 c22 L2 V2]) (S ++ [HZ.mk pa1 ca1 pz1 cz1 L1 V1] ++ [HZ.mk pa2 ca2 pz2 cz2 L2 V2]) (K ++ [⟨p13, c13, L3.length, q13, d13, p23, c23, V3.length, q23, d23⟩]) (.slice ph2 (nh + 1 + 1) ch2) (.slice pw2 (nh + 1 + 1) cw2) (.slice pb6 (nb + 1) cb6)) := HRT.out.below hz5
                  clear hz5 HKQ HRT
                  go_wp2_with fail
                  go_roundw
                  case rel => exact ⟨j + 1, by go_num, by omega, HX⟩
                  case measure => simp [intOf]; omega
                · have j1 : ¬ (j : Int) < (nf : Int) := by omega
                  have HX : Hid (∃ H S K, H.length = nh + 1 + 1 ∧ S.length = nh + 1 + 1 ∧ K.length = nb + 1 ∧ EQZ H S ∧ PS bt wP wt H S K (.slice ph2 (nh + 1 + 1) ch2) (.slice pw2 (nh + 1 + 1) cw2) (.slice pb6 (nb + 1) cb6)) := ⟨_, _, _, HL2.out.1, HL2.out.2.1, HL2.out.2.2.1, HL2.out.2.2.2, HRT.out⟩
                  clear HRT HL2
                  go_wp2_with fail
                  go_roundw
                  case rel => exact ⟨n + 1, nh + 1 + 1, nb + 1, ph2, pw2, pb6, ch2, cw2, cb6, by go_num, rfl, rfl, rfl, by omega, by omega, by omega, HX⟩
                  case measure => simp [intOf]; omega
          · have i1 : (n : Int) < (ns : Int) := by omega
            have i2 : ¬ (n : Int) < 100 := by omega
            go_wp2_with fail
            go_roundw
            case rel => exact ⟨r + 1, nh, nb, ph, pw, pb, ch, cw, cb, by go_num, rfl, rfl, rfl, by omega, by omega, by omega, HR⟩
            case measure => simp [intOf]; omega
        · have i1 : ¬ (n : Int) < (ns : Int) := by omega
          go_wp2_with fail
          go_roundw
          case rel => exact ⟨r + 1, nh, nb, ph, pw, pb, ch, cw, cb, by go_num, rfl, rfl, rfl, by omega, by omega, by omega, HR⟩
          case measure => simp [intOf]; omega
    · have r1 : ¬ (r : Int) < 2 := by omega
      obtain ⟨H, S, K, hH, hS, hK, hEQ, hps⟩ := HR.out
      rename World => wc
      have hnh4 : nh ≤ 400 := by omega
      have hnb2 : nb ≤ 200 := by omega
      have HL : Hid (H.length = nh ∧ S.length = nh ∧ K.length = nb ∧ EQZ H S) := ⟨hH, hS, hK, hEQ⟩
      have HP : Hid (PS bt wP wc H S K (.slice ph nh ch) (.slice pw nh cw) (.slice pb nb cb)) := hps
      clear HR hH hS hK hEQ hps hnh hnb hr2
      go_wp2_with fail
      go_loopw [25] (fun v25 wx => ∃ k : Nat, v25 = .int .i64 (k : Int) ∧ k ≤ nh ∧ Hid (PS bt wP wx H S K (.slice ph nh ch) (.slice pw nh cw) (.slice pb nb cb))) (fun v25 _ => nh - (intOf v25).toNat)
      case atStart => exact ⟨0, rfl, Nat.zero_le _, HP⟩
      case round =>
        clear HP
        rename World => wx
        obtain ⟨k, rfl, hk, HR⟩ := hrel
        by_cases hlt : k < nh
        · have k0 : (0 : Int) ≤ (k : Int) := by omega
          have k1 : (k : Int) < (nh : Int) := by omega
          obtain ⟨e, he⟩ : ∃ e, H[k]? = some e := ⟨_, List.getElem?_eq_getElem (by rw [HL.out.1]; exact hlt)⟩
          obtain ⟨f, hf⟩ : ∃ f, S[k]? = some f := ⟨_, List.getElem?_eq_getElem (by rw [HL.out.2.1]; exact hlt)⟩
          obtain ⟨q1, q2⟩ := HL.out.2.2.2 k e f he hf
          obtain ⟨p1, c1, p2, c2, L, V⟩ := e
          obtain ⟨a1, d1, a2, d2, L', V'⟩ := f
          simp only at q1 q2
          subst q1 q2
          obtain ⟨gh, rfl⟩ := own_someZ HR.out.oh (by rw [HL.out.1]; omega)
          obtain ⟨gw, rfl⟩ := own_someZ HR.out.osx (by rw [HL.out.2.1]; omega)
          obtain ⟨m1, hm1⟩ : ∃ m, L.length = m := ⟨_, rfl⟩
          obtain ⟨m2, hm2⟩ : ∃ m, V.length = m := ⟨_, rfl⟩
          have HKQ : Hid (∀ U, Below wx.heap.size wx U → U.cell? ⟨gh, k * 5, none⟩ = some (.slice p1 m1 c1) ∧ U.cell? ⟨gh, k * 5 + 2, none⟩ = some (.slice p2 m2 c2) ∧ U.cell? ⟨gw, k * 5, none⟩ = some (.slice a1 m1 d1) ∧ U.cell? ⟨gw, k * 5 + 2, none⟩ = some (.slice a2 m2 d2)) := fun U hU => by
            have s := hvs_at H k _ he
            have s' := hvs_at S k _ hf
            have o := own_belZ HR.out.oh hU
            have o' := own_belZ HR.out.osx hU
            rw [← hm1, ← hm2]
            exact ⟨own_atZ o s.1, own_atZ o s.2.2.1, own_atZ o' s'.1, own_atZ o' s'.2.2.1⟩
          have HS1 : Hid (∀ U, Below wx.heap.size wx U → Calls Tryz.prog 22 #[.slice p1 m1 c1, .slice a1 m1 d1] U fun e w' => e = .returned (.bool true) ∧ Below U.heap.size U w') := fun U hU => by
            have o := (HR.out.hh k _ he).below hU
            have o' := (HR.out.ss k _ hf).below hU
            have h := HSA.out U p1 c1 a1 d1 L _ _ o.l o'.l o.s1
            rw [hm1] at h
            exact h
          have HS2 : Hid (∀ U, Below wx.heap.size wx U → Calls Tryz.prog 23 #[.slice p2 m2 c2, .slice a2 m2 d2] U fun e w' => e = .returned (.bool true) ∧ Below U.heap.size U w') := fun U hU => by
            have o := (HR.out.hh k _ he).below hU
            have o' := (HR.out.ss k _ hf).below hU
            have h := HAL.out U p2 c2 a2 d2 V _ _ o.v o'.v o.s2
            rw [hm2] at h
            exact h
          clear he hf hm1 hm2
          go_wp2_with fail
          refine quiet_lit3 (C := fun U => Below wx.heap.size wx U) (by kernel_rfl) (by kernel_rfl) (show Below _ _ _ from (Below.refl _ _).drew) ?_
          go_big_quiet_want
          go_big_quiet_op
          go_big_quiet_on
          go_big_quiet_want
          go_big_quiet_op
          go_big_quiet_on
          go_big_quiet_want
          refine ⟨.pointer (some ⟨gh, k * 5, none⟩), fun W hW => ?_, ?_⟩
          · go_simp
          go_big_quiet_on
          simp only [Act.put, List.setIfInBounds_toArray, List.set_cons_zero, List.set_cons_succ]
          go_big_quiet_want
          refine ⟨.pointer (some ⟨gh, k * 5, none⟩), fun W hW => ?_, ?_⟩
          · go_simp
          go_big_quiet_on
          simp only [Act.put, List.setIfInBounds_toArray, List.set_cons_zero, List.set_cons_succ]
          go_big_quiet_want
          refine ⟨.slice p1 m1 c1, fun W hW => ?_, ?_⟩
          · obtain ⟨s1, s2, s3, s4⟩ := HKQ.out W hW
            go_simp
          go_big_quiet_on
          simp only [Act.put, List.setIfInBounds_toArray, List.set_cons_zero, List.set_cons_succ]
          go_big_quiet_want
          go_big_quiet_op
          go_big_quiet_on
          go_big_quiet_want
          go_big_quiet_op
          go_big_quiet_on
          go_big_quiet_want
          refine ⟨.pointer (some ⟨gw, k * 5, none⟩), fun W hW => ?_, ?_⟩
          · go_simp
          go_big_quiet_on
          simp only [Act.put, List.setIfInBounds_toArray, List.set_cons_zero, List.set_cons_succ]
          go_big_quiet_want
          refine ⟨.pointer (some ⟨gw, k * 5, none⟩), fun W hW => ?_, ?_⟩
          · go_simp
          go_big_quiet_on
          simp only [Act.put, List.setIfInBounds_toArray, List.set_cons_zero, List.set_cons_succ]
          go_big_quiet_want
          refine ⟨.slice a1 m1 d1, fun W hW => ?_, ?_⟩
          · obtain ⟨s1, s2, s3, s4⟩ := HKQ.out W hW
            go_simp
          go_big_quiet_on
          simp only [Act.put, List.setIfInBounds_toArray, List.set_cons_zero, List.set_cons_succ]
          go_big_quiet_want
          refine ⟨.bool true, fun W hW => ?_, ?_⟩
          · go_simp
            refine (HS1.out W hW).mono ?_
            rintro e w7 ⟨rfl, hb⟩
            exact ⟨rfl, bel0Z hW hb⟩
          go_big_quiet_on
          simp only [Act.put, List.setIfInBounds_toArray, List.set_cons_zero, List.set_cons_succ]
          go_big_quiet_want
          refine ⟨.bool false, fun W hW => ?_, ?_⟩
          · go_simp
          go_big_quiet_on
          simp only [Act.put, List.setIfInBounds_toArray, List.set_cons_zero, List.set_cons_succ]
          go_big_quiet_want
          go_big_quiet_op
          go_big_quiet_on
          go_big_quiet_want
          go_big_quiet_op
          go_big_quiet_on
          go_big_quiet_want
          go_big_quiet_op
          go_big_quiet_on
          go_big_quiet_want
          refine ⟨.pointer (some ⟨gh, k * 5, none⟩), fun W hW => ?_, ?_⟩
          · go_simp
          go_big_quiet_on
          simp only [Act.put, List.setIfInBounds_toArray, List.set_cons_zero, List.set_cons_succ]
          go_big_quiet_want
          refine ⟨.pointer (some ⟨gh, k * 5 + 2, none⟩), fun W hW => ?_, ?_⟩
          · go_simp
          go_big_quiet_on
          simp only [Act.put, List.setIfInBounds_toArray, List.set_cons_zero, List.set_cons_succ]
          go_big_quiet_want
          refine ⟨.slice p2 m2 c2, fun W hW => ?_, ?_⟩
          · obtain ⟨s1, s2, s3, s4⟩ := HKQ.out W hW
            go_simp
          go_big_quiet_on
          simp only [Act.put, List.setIfInBounds_toArray, List.set_cons_zero, List.set_cons_succ]
          go_big_quiet_want
          go_big_quiet_op
          go_big_quiet_on
          go_big_quiet_want
          go_big_quiet_op
          go_big_quiet_on
          go_big_quiet_want
          refine ⟨.pointer (some ⟨gw, k * 5, none⟩), fun W hW => ?_, ?_⟩
          · go_simp
          go_big_quiet_on
          simp only [Act.put, List.setIfInBounds_toArray, List.set_cons_zero, List.set_cons_succ]
          go_big_quiet_want
          refine ⟨.pointer (some ⟨gw, k * 5 + 2, none⟩), fun W hW => ?_, ?_⟩
          · go_simp
          go_big_quiet_on
          simp only [Act.put, List.setIfInBounds_toArray, List.set_cons_zero, List.set_cons_succ]
          go_big_quiet_want
          refine ⟨.slice a2 m2 d2, fun W hW => ?_, ?_⟩
          · obtain ⟨s1, s2, s3, s4⟩ := HKQ.out W hW
            go_simp
          go_big_quiet_on
          simp only [Act.put, List.setIfInBounds_toArray, List.set_cons_zero, List.set_cons_succ]
          go_big_quiet_want
          refine ⟨.bool true, fun W hW => ?_, ?_⟩
          · go_simp
            refine (HS2.out W hW).mono ?_
            rintro e w7 ⟨rfl, hb⟩
            exact ⟨rfl, bel0Z hW hb⟩
          go_big_quiet_on
          simp only [Act.put, List.setIfInBounds_toArray, List.set_cons_zero, List.set_cons_succ]
          go_big_quiet_want
          refine ⟨.bool false, fun W hW => ?_, ?_⟩
          · go_simp
          go_big_quiet_on
          simp only [Act.put, List.setIfInBounds_toArray, List.set_cons_zero, List.set_cons_succ]
          go_big_quiet_want
          refine ⟨.bool false, fun W hW => ?_, ?_⟩
          · go_simp
          go_big_quiet_on
          simp only [Act.put, List.setIfInBounds_toArray, List.set_cons_zero, List.set_cons_succ]
          refine wpQuiet_nil ?_
          intro z5 hz5
          have HX : Hid (PS bt wP z5 H S K (.slice (some ⟨gh, 0, none⟩) nh ch) (.slice (some ⟨gw, 0, none⟩) nh cw) (.slice pb nb cb)) := HR.out.below hz5
          clear hz5 HKQ HR HS1 HS2
          go_wp2_with fail
          go_roundw
          case rel => exact ⟨k + 1, by go_num, by omega, HX⟩
          case measure => simp [intOf]; omega
        · have k1 : ¬ (k : Int) < (nh : Int) := by omega
          have HP3 : Hid (P3 bt wP wx H 0 K (.slice ph nh ch) (.slice pb nb cb)) := HR.out.to3
          have HLH : Hid (H.length = nh) := HL.out.1
          have HK0 : Hid (∃ K, K.length = nb ∧ P3 bt wP wx H 0 K (.slice ph nh ch) (.slice pb nb cb)) := ⟨K, HL.out.2.2.1, HP3.out⟩
          clear HR HL HSA HAL hk hlt HP3
          go_wp2_with fail
          go_loopw [8, 26] (fun v8 v26 wy => ∃ (k nb : Nat) (pb : Option Addr) (cb : Nat), v26 = .int .i64 (k : Int) ∧ v8 = .slice pb nb cb ∧ k ≤ nh ∧ nb ≤ 200 + k ∧ Hid (∃ K, K.length = nb ∧ P3 bt wP wy H k K (.slice ph nh ch) (.slice pb nb cb))) (fun _ v26 _ => nh - (intOf v26).toNat)
          case atStart => exact ⟨0, nb, pb, cb, rfl, rfl, Nat.zero_le _, by omega, HK0⟩
          case round =>
            clear HK0 hnb2 k1
            rename World => wy
            obtain ⟨k, nb, pb, cb, rfl, rfl, hk, hnb, HR0⟩ := hrel
            obtain ⟨K, hK, hp3⟩ := HR0.out
            have HR : Hid (P3 bt wP wy H k K (.slice ph nh ch) (.slice pb nb cb) ∧ K.length = nb) := ⟨hp3, hK⟩
            clear HR0 hK hp3
            by_cases hlt : k < nh
            · have k0 : (0 : Int) ≤ (k : Int) := by omega
              have k1 : (k : Int) < (nh : Int) := by omega
              obtain ⟨e, he⟩ : ∃ e, H[k]? = some e := ⟨_, List.getElem?_eq_getElem (by rw [HLH.out]; exact hlt)⟩
              obtain ⟨p1, c1, p2, c2, L, V⟩ := e
              obtain ⟨gh, rfl⟩ := own_someZ HR.out.1.oh (by rw [HLH.out]; omega)
              obtain ⟨m1, hm1⟩ : ∃ m, L.length = m := ⟨_, rfl⟩
              obtain ⟨m2, hm2⟩ : ∃ m, V.length = m := ⟨_, rfl⟩
              have hp3d : P3 bt wP wy.drew H k K (.slice (some ⟨gh, 0, none⟩) nh ch) (.slice pb nb cb) := HR.out.1.below (Below.refl _ _).drew
              have hoi := hp3d.hh k _ (Nat.le_refl _) he
              have hm1' : m1 ≤ 8589934592 := by rw [← hm1]; exact hoi.s1
              have hm2' : m2 ≤ 8589934592 := by rw [← hm2]; exact hoi.s2
              have hol : OWZ 9 wy.drew wP.heap.size (.slice p1 m1 c1) (stZ L) := by rw [← hm1]; exact hoi.l
              have hov : OWZ 3 wy.drew wP.heap.size (.slice p2 m2 c2) (inZ V) := by rw [← hm2]; exact hoi.v
              have HKE := kept_any (bt nb) (stZ L) (inZ V) p1 p2 m1 c1 m2 c2 wP.heap.size nb (mkZ nb) wy.drew ((stZ_len _).trans hm1) ((inZ_len _).trans hm2) hol hov hm1' hm2' (by omega) rfl (fun W => HBT.out nb W (by omega))
              have hat : ∀ U : World, U.ownsRow wP.heap.size 49 5 (.slice (some ⟨gh, 0, none⟩) nh ch) H.length (hvs H) → U.cell? ⟨gh, k * 5, none⟩ = some (.slice p1 m1 c1) ∧ U.cell? ⟨gh, k * 5 + 2, none⟩ = some (.slice p2 m2 c2) := fun U o => by
                have s := hvs_at H k _ he
                rw [← hm1, ← hm2]
                exact ⟨own_atZ o s.1, own_atZ o s.2.2.1⟩
              have hs0 : wy.drew.cell? ⟨gh, k * 5, none⟩ = some (.slice p1 m1 c1) ∧ wy.drew.cell? ⟨gh, k * 5 + 2, none⟩ = some (.slice p2 m2 c2) := hat _ hp3d.oh
              have HT : Hid (∀ q1 d1 q2 d2 y5, KPZ (bt nb) (mkZ nb) wP.heap.size m1 m2 (.slice p1 m1 c1) (.slice q1 (m1 + 64) d1) (.slice p2 m2 c2) (.slice q2 (m2 + 64) d2) wy.drew y5 → (y5.cell? ⟨gh, k * 5, none⟩ = some (.slice p1 m1 c1) ∧ y5.cell? ⟨gh, k * 5 + 2, none⟩ = some (.slice p2 m2 c2)) ∧ ((y5.alloc (.cells #[.slice p1 m1 c1, .slice q1 (m1 + 64) d1, .slice p2 m2 c2, .slice q2 (m2 + 64) d2, .int .i64 (nb : Int)] 49 (0, 0))).cell? ⟨gh, k * 5, none⟩ = some (.slice p1 m1 c1) ∧ (y5.alloc (.cells #[.slice p1 m1 c1, .slice q1 (m1 + 64) d1, .slice p2 m2 c2, .slice q2 (m2 + 64) d2, .int .i64 (nb : Int)] 49 (0, 0))).cell? ⟨gh, k * 5 + 2, none⟩ = some (.slice p2 m2 c2)) ∧ ∃ pb6 cb6 Z6, (Builtin.append_ #[43, 43] 43 #[.slice pb nb cb, .slice (some ⟨y5.heap.size, 0, none⟩) 1 1]).run Tryz.prog (y5.alloc (.cells #[.slice p1 m1 c1, .slice q1 (m1 + 64) d1, .slice p2 m2 c2, .slice q2 (m2 + 64) d2, .int .i64 (nb : Int)] 49 (0, 0))) = .ok (.slice pb6 (nb + 1) cb6) Z6 ∧ (Z6.cell? ⟨gh, k * 5, none⟩ = some (.slice p1 m1 c1) ∧ Z6.cell? ⟨gh, k * 5 + 2, none⟩ = some (.slice p2 m2 c2)) ∧ Hid (∃ K, K.length = nb + 1 ∧ P3 bt wP Z6 H (k + 1) K (.slice (some ⟨gh, 0, none⟩) nh ch) (.slice pb6 (nb + 1) cb6))) := fun q1 d1 q2 d2 y5 hz => by
                have hKl := HR.out.2
                subst hm1 hm2
                have hbA : Below y5.heap.size y5 (y5.alloc (.cells #[.slice p1 L.length c1, .slice q1 (L.length + 64) d1, .slice p2 V.length c2, .slice q2 (V.length + 64) d2, .int .i64 (nb : Int)] 49 (0, 0))) := belAZ (Below.refl _ _) _
                have md := hp3d.mid he hz
                have hz' := hz.below hbA
                obtain ⟨oh', ⟨xs5, hx1, hx2⟩, be'⟩ := hp3d.mid he hz'
                obtain ⟨bv6, Z6, hr6, o6, g6, n6⟩ := appZ (T := 49) (TS := 43) 43 Tryz.underlying43 hiK hzK0 hzK1 hzK2 rfl (by decide) hx1 be'.size (by rfl) (World.news_of_block (alloc_getZ _ _)) (by simp [Value.oneCell']) (by rw [hKl]; omega) (by decide)
                obtain ⟨pb6, cb6, rfl⟩ := shapeZ o6
                have hz2 : KPZ (bt K.length) (mkZ K.length) wP.heap.size L.length V.length (.slice p1 L.length c1) (.slice q1 (L.length + 64) d1) (.slice p2 V.length c2) (.slice q2 (V.length + 64) d2) wy.drew (y5.alloc (.cells #[.slice p1 L.length c1, .slice q1 (L.length + 64) d1, .slice p2 V.length c2, .slice q2 (V.length + 64) d2, .int .i64 (nb : Int)] 49 (0, 0))) := by rw [hKl]; exact hz'
                have h3 := P3.kept hp3d he hz2 (bv2 := .slice pb6 (K.length + 1) cb6) (Y := Z6) (fun xs' a b => by
                  obtain ⟨v9, W9, hr9, o9, -, -⟩ := appZ (T := 49) (TS := 43) 43 Tryz.underlying43 hiK hzK0 hzK1 hzK2 rfl (by decide) a be'.size (by rfl) (World.news_of_block (alloc_getZ _ _)) (by simp [Value.oneCell']) (by rw [hKl]; omega) (by decide)
                  rw [hr6] at hr9
                  injection hr9 with e1 e2
                  subst e1 e2
                  refine ⟨_, o9, ?_⟩
                  have hs := b.snoc (e := ⟨p1, c1, L.length, q1, d1, p2, c2, V.length, q2, d2⟩) a.1
                  unfold KB.vs at hs
                  rw [hKl] at hs
                  exact hs) g6 n6
                rw [hKl] at hr6
                refine ⟨hat _ md.1, hat _ oh', pb6, cb6, Z6, hr6, hat _ h3.oh, _, ?_, by rw [hKl] at h3; exact h3⟩
                rw [List.length_append, hKl]
                rfl
              clear he hm1 hm2 hp3d hoi hol hov hat hm1' hm2'
              go_wp2_with fail
              refine wp_region_held_drew (S := fun U => U.cell? ⟨gh, k * 5, none⟩ = some (.slice p1 m1 c1) ∧ U.cell? ⟨gh, k * 5 + 2, none⟩ = some (.slice p2 m2 c2)) (by kernel_rfl) hs0 (fun _ => ?_)
              refine wpAnyH_take (i := 0) (v := .slice pb nb cb) rfl (by kernel_rfl) (by kernel_rfl) (by kernel_rfl) (fun _ _ _ h => h) (Or.inl ⟨by rfl, ?_⟩) hs0 ?_
              · rintro w ⟨s1, s2⟩; go_simp
              refine wpAnyH_take (i := 1) (v := .slice (some ⟨gh, 0, none⟩) nh ch) rfl (by kernel_rfl) (by kernel_rfl) (by kernel_rfl) (fun _ _ _ h => h) (Or.inl ⟨by rfl, ?_⟩) hs0 ?_
              · rintro w ⟨s1, s2⟩; go_simp
              refine wpAnyH_take (i := 2) (v := .int .i64 (k : Int)) rfl (by kernel_rfl) (by kernel_rfl) (by kernel_rfl) (fun _ _ _ h => h) (Or.inl ⟨by rfl, ?_⟩) hs0 ?_
              · rintro w ⟨s1, s2⟩; go_simp
              refine wpAnyH_take (i := 3) (v := .pointer (some ⟨gh, k * 5, none⟩)) rfl (by kernel_rfl) (by kernel_rfl) (by kernel_rfl) (fun _ _ _ h => h) (Or.inl ⟨by rfl, ?_⟩) hs0 ?_
              · rintro w ⟨s1, s2⟩; go_simp
              refine wpAnyH_take (i := 4) (v := .pointer (some ⟨gh, k * 5, none⟩)) rfl (by kernel_rfl) (by kernel_rfl) (by kernel_rfl) (fun _ _ _ h => h) (Or.inl ⟨by rfl, ?_⟩) hs0 ?_
              · rintro w ⟨s1, s2⟩; go_simp
              refine wpAnyH_take (i := 5) (v := .slice p1 m1 c1) rfl (by kernel_rfl) (by kernel_rfl) (by kernel_rfl) (fun _ _ _ h => h) (Or.inl ⟨by rfl, ?_⟩) hs0 ?_
              · rintro w ⟨s1, s2⟩; go_simp
              refine wpAnyH_take (i := 6) (v := .slice (some ⟨gh, 0, none⟩) nh ch) rfl (by kernel_rfl) (by kernel_rfl) (by kernel_rfl) (fun _ _ _ h => h) (Or.inl ⟨by rfl, ?_⟩) hs0 ?_
              · rintro w ⟨s1, s2⟩; go_simp
              refine wpAnyH_take (i := 7) (v := .int .i64 (k : Int)) rfl (by kernel_rfl) (by kernel_rfl) (by kernel_rfl) (fun _ _ _ h => h) (Or.inl ⟨by rfl, ?_⟩) hs0 ?_
              · rintro w ⟨s1, s2⟩; go_simp
              refine wpAnyH_take (i := 8) (v := .pointer (some ⟨gh, k * 5, none⟩)) rfl (by kernel_rfl) (by kernel_rfl) (by kernel_rfl) (fun _ _ _ h => h) (Or.inl ⟨by rfl, ?_⟩) hs0 ?_
              · rintro w ⟨s1, s2⟩; go_simp
              refine wpAnyH_take (i := 9) (v := .pointer (some ⟨gh, k * 5 + 2, none⟩)) rfl (by kernel_rfl) (by kernel_rfl) (by kernel_rfl) (fun _ _ _ h => h) (Or.inl ⟨by rfl, ?_⟩) hs0 ?_
              · rintro w ⟨s1, s2⟩; go_simp
              refine wpAnyH_take (i := 10) (v := .slice p2 m2 c2) rfl (by kernel_rfl) (by kernel_rfl) (by kernel_rfl) (fun _ _ _ h => h) (Or.inl ⟨by rfl, ?_⟩) hs0 ?_
              · rintro w ⟨s1, s2⟩; go_simp
              refine wpAnyH_take (i := 11) (v := .slice pb nb cb) rfl (by kernel_rfl) (by kernel_rfl) (by kernel_rfl) (fun _ _ _ h => h) (Or.inl ⟨by rfl, ?_⟩) hs0 ?_
              · rintro w ⟨s1, s2⟩; go_simp
              refine wpAnyH_take (i := 12) (v := .int .i64 (nb : Int)) rfl (by kernel_rfl) (by kernel_rfl) (by kernel_rfl) (fun _ _ _ h => h) (Or.inl ⟨by rfl, ?_⟩) hs0 ?_
              · rintro w ⟨s1, s2⟩; go_simp
              refine wpAnyH_ready (rs := [13]) (by kernel_rfl) (by simp) ?_
              refine AllReadyH.cons rfl (fun KK hKK => ?_) AllReadyH.nil
              go_simp
              refine HKE.mono ?_
              rintro e y5 ⟨q1, d1, q2, d2, rfl, hz⟩
              obtain ⟨hc5, hc6, pb6, cb6, Z6, hr6, hc7, HX⟩ := HT.out q1 d1 q2 d2 y5 hz
              clear hz HKE HT
              have HR6 : Hid _ := hr6
              clear hr6
              go_simp
              refine hKK.out _ _ hc5 (fun _ => ?_)
              clear hKK KK
              refine wpAnyH_ready (rs := [14]) (by kernel_rfl) (by simp) ?_
              refine AllReadyH.cons rfl (fun KK hKK => ?_) AllReadyH.nil
              go_simp
              refine hKK.out _ _ hc6 (fun _ => ?_)
              clear hKK KK
              refine wpAnyH_ready (rs := [15]) (by kernel_rfl) (by simp) ?_
              refine AllReadyH.cons rfl (fun KK hKK => ?_) AllReadyH.nil
              refine step_runZ (by rfl) _ _ _ (by rfl) (by rfl) (by rfl) HR6.out ?_
              refine hKK.out _ _ hc7 (fun _ => ?_)
              clear hKK KK HR6
              refine wpAnyH_ready (rs := [16]) (by kernel_rfl) (by simp) ?_
              refine AllReadyH.cons rfl (fun KK hKK => ?_) AllReadyH.nil
              go_simp
              refine hKK.out _ _ hc7 (fun _ => ?_)
              clear hKK KK hc5 hc6 hc7
              refine wpAnyH_done (by kernel_rfl) ?_ _
              go_wp2_with fail
              go_roundw
              case rel => exact ⟨k + 1, nb + 1, pb6, cb6, by go_num, rfl, by omega, by omega, HX⟩
              case measure => simp [intOf]; omega
            · have k1 : ¬ (k : Int) < (nh : Int) := by omega
              obtain ⟨xs6, hx1, hx2⟩ := HR.out.1.ob
              have HSN := seen_any bt K xs6 pb nb cb wP.heap.size wP.heap.size wy HR.out.2 (by omega) (by rw [HR.out.2] at hx1; exact hx1) hx2 HR.out.1.kk HBT.out
              clear hx1 hx2
              go_wp2_with fail
              refine HSN.mono ?_
              rintro e Z7 ⟨rfl, hb7⟩
              have HB7 : Hid (Below wP.heap.size wP Z7) := bel0Z HR.out.1.be hb7
              have HK7 := HKN.out Z7 (HF.out Z7 HB7.out).2.2.2.2
              clear HSN hb7
              go_wp2_with fail
              refine HK7.mono ?_
              rintro e Z8 ⟨rfl, hb8⟩
              have HB8 : Hid (Below w.heap.size w Z8) := (HF.out Z8 (bel0Z HB7.out hb8)).2.2.2.2
              clear HK7 hb8
              go_wp2_with fail
              go_ret
              exact ⟨rfl, HB8.out⟩
end Go.Proofs.YtnboehlbcjfndaaGreatDoor
