import Derived.Test.YtecgjlpmmailjaaGreatDoorXE3
import Derived.Deep.CutBlock
namespace Go.Proofs.YtecgjlpmmailjaaGreatDoor
open Go.RowKit
/-- the spaces, as they lie -/
def OLK (PQ : World → XP → Prop) (b : Int) (B : Nat) (Xs : List XP) (pv : Option Addr) (nl cv : Nat) (W : World) : Prop := Xs.length = nl ∧ W.ownsRow B 28 3 (.slice pv nl cv) nl (spx b Xs) ∧ ∀ X ∈ Xs, PQ W X
/-- what the book's lists are -/
def KOK (K : List EN) : Prop := ∀ e ∈ K, e.L.length ≤ 2048 ∧ (∀ y ∈ e.L, good y = true) ∧ (e.L ≠ [] → e.sd = tdT 0 e.L)
theorem bk_at {W : World} {B : Nat} {g n c m : Nat} {xs : List Value} {K : List EN} {Gf : Nat → Value} {k0 k : Nat} {e : EN} (h : W.ownsRow B 39 4 (.slice (some ⟨g, 0, none⟩) n c) m xs) (hx : BX xs K Gf k0) (he : K[k]? = some e) : W.cell? ⟨g, k * 4, none⟩ = some (.slice e.p e.L.length e.c) ∧ W.cell? ⟨g, k * 4 + 1, none⟩ = some (if k < k0 then Gf k else .slice none 0 0) ∧ W.cell? ⟨g, k * 4 + 2, none⟩ = some (.int .i64 (k : Int)) ∧ W.cell? ⟨g, k * 4 + 3, none⟩ = some (.string ⟨e.sd.toArray⟩) := by
  obtain ⟨h1, h2, h3, h4⟩ := hx k e he
  rw [Nat.mul_comm k 4]
  exact ⟨own_atK h h1, own_atK h h2, own_atK h h3, own_atK h h4⟩
def put4k (W : World) (g k : Nat) (v0 v1 v2 v3 : Value) : World := (((W.setCell ⟨g, k * 4, none⟩ v0).setCell ⟨g, k * 4 + 1, none⟩ v1).setCell ⟨g, k * 4 + 2, none⟩ v2).setCell ⟨g, k * 4 + 3, none⟩ v3
theorem put4k_own {W : World} {B : Nat} {T : TypeId} {s g n c : Nat} {xs : List Value} (k : Nat) (v0 v1 v2 v3 : Value) (h : W.ownsRow B T s (.slice (some ⟨g, 0, none⟩) n c) n xs) : (put4k W g k v0 v1 v2 v3).ownsRow B T s (.slice (some ⟨g, 0, none⟩) n c) n ((((xs.set (4 * k) v0).set (4 * k + 1) v1).set (4 * k + 2) v2).set (4 * k + 3) v3) := by
  unfold put4k
  rw [Nat.mul_comm k 4]
  exact (World.ownsRow.stored (World.ownsRow.stored (World.ownsRow.stored (World.ownsRow.stored h _ _).1 _ _).1 _ _).1 _ _).1
theorem put4k_gr (W : World) (g k : Nat) (v0 v1 v2 v3 : Value) : W.grownBy (put4k W g k v0 v1 v2 v3) (some g) := grown_trans (gr_set W g _ v0) (grown_trans (gr_set _ g _ v1) (grown_trans (gr_set _ g _ v2) (gr_set _ g _ v3)))
set_option maxRecDepth 100000 in
set_option maxHeartbeats 16000000 in
theorem keeps_core (b : Int) (LL : List UInt8 → List (List UInt8)) (EE : List UInt8 → Int) (PQ : World → XP → Prop) (q qa : Option Addr) (nt ct na ca : Nat) (TL : List (List UInt8)) (w : World)
    (hPB : ∀ W W' X, PQ W X → Below W.heap.size W W' → PQ W' X)
    (hPG : ∀ (W W' : World) (X : XP) (B : Nat) (T : TypeId) (s : Nat) (v : Value) (n : Nat) (xs : List Value), PQ W X → W.ownsRow B T s v n xs → (T = 28 ∨ T = 9) → W.grownBy W' v.ownBlock → PQ W' X)
    (hA : ∀ W, Calls Tryz.prog 4 #[] W fun e w' => e = .returned (.bool true) ∧ Below W.heap.size W w')
    (hP : ∀ W x, x ∈ TL → Calls Tryz.prog 5 #[.int .i64 b, .string ⟨x.toArray⟩] W fun e w' => ∃ B p n c E, e = .returned (.tuple #[.agg #[.int .i64 B, .slice p n c, .bool false], .int .i64 E]) ∧ (E = 0 → B = b ∧ PQ w' ⟨p, n, c, x⟩) ∧ Below W.heap.size W w')
    (hE : ∀ W X, PQ W X → Calls Tryz.prog 6 #[.agg #[.int .i64 b, .slice X.p X.n X.c, .bool false], .int .i64 2048] W fun e w' => ∃ pv cv, e = .returned (.tuple #[.slice pv (LL X.x).length cv, .int .i64 (EE X.x)]) ∧ OWC w' W.heap.size (.slice pv (LL X.x).length cv) (LL X.x) ∧ Below W.heap.size W w')
    (hL : ∀ x, (LL x).length ≤ 2048 ∧ (∀ y ∈ LL x, good y = true) ∧ (LL x ≠ [] → EE x = 0))
    (hT : TL.length = nt ∧ LSK w q TL) (hAs : ISK w qa na) : Calls Tryz.prog 3 #[.int .i64 b, .slice q nt ct, .slice qa na ca] w fun e w' => e = .returned (.bool true) ∧ Below w.heap.size w w' := by
  obtain ⟨iP, hiP, hzP0, hzP1, hzP2⟩ := info_parts info_spK
  obtain ⟨iS, hiS, hzS0, hzS1, hzS2⟩ := info_parts info_stK
  obtain ⟨iK, hiK, hzK0, hzK1, hzK2⟩ := info_parts info_kpK
  have HA := hA w
  have HP : Hid (∀ W x, x ∈ TL → Calls Tryz.prog 5 #[.int .i64 b, .string ⟨x.toArray⟩] W fun e w' => ∃ B p n c E, e = .returned (.tuple #[.agg #[.int .i64 B, .slice p n c, .bool false], .int .i64 E]) ∧ (E = 0 → B = b ∧ PQ w' ⟨p, n, c, x⟩) ∧ Below W.heap.size W w') := hP
  have HE : Hid ((∀ W X, PQ W X → Calls Tryz.prog 6 #[.agg #[.int .i64 b, .slice X.p X.n X.c, .bool false], .int .i64 2048] W fun e w' => ∃ pv cv, e = .returned (.tuple #[.slice pv (LL X.x).length cv, .int .i64 (EE X.x)]) ∧ OWC w' W.heap.size (.slice pv (LL X.x).length cv) (LL X.x) ∧ Below W.heap.size W w') ∧ (∀ x, (LL x).length ≤ 2048 ∧ (∀ y ∈ LL x, good y = true) ∧ (LL x ≠ [] → EE x = 0))) := ⟨hE, hL⟩
  have HQ : Hid ((∀ W W' X, PQ W X → Below W.heap.size W W' → PQ W' X) ∧ (∀ (W W' : World) (X : XP) (B : Nat) (T : TypeId) (s : Nat) (v : Value) (n : Nat) (xs : List Value), PQ W X → W.ownsRow B T s v n xs → (T = 28 ∨ T = 9) → W.grownBy W' v.ownBlock → PQ W' X)) := ⟨hPB, hPG⟩
  have HT : Hid (TL.length = nt ∧ LSK w q TL ∧ ISK w qa na) := ⟨hT.1, hT.2, hAs⟩
  clear hA hP hE hL hPB hPG hT hAs
  go_enter Tryz.func3, Tryz.ntmps3
  go_wp2_with fail
  refine HA.mono ?_
  rintro e w1 ⟨rfl, hb1⟩
  have HB1 : Hid (Below w.heap.size w w1) := hb1
  clear hb1 HA
  go_upto_block 0 with fail
  go_cut [7] (fun v7 wc => ∃ (nl : Nat) (pv : Option Addr) (cv : Nat), v7 = .slice pv nl cv ∧ nl ≤ 8 ∧ Hid (∃ Xs, OLK PQ b w.heap.size Xs pv nl cv wc ∧ Below w.heap.size w wc))
  case first =>
    go_wp2_with fail
    go_loopw [7, 8] (fun v7 v8 wr => ∃ (i nl : Nat) (pv : Option Addr) (cv : Nat), v8 = .int .i64 (i : Int) ∧ v7 = .slice pv nl cv ∧ nl ≤ i ∧ i ≤ 8 ∧ Hid (∃ Xs, OLK PQ b w.heap.size Xs pv nl cv wr ∧ Below w.heap.size w wr)) (fun _ v8 _ => 8 - (intOf v8).toNat)
    case atStart => exact ⟨0, 0, none, 0, rfl, rfl, by omega, by omega, [], ⟨rfl, World.ownsRow_nil _ _ _ _, fun X h => by cases h⟩, HB1.out⟩
    case round =>
      obtain ⟨i, nl, pv, cv, rfl, rfl, hni, hi8, HR⟩ := hrel
      by_cases h1 : i < nt
      · by_cases h2 : i < 8
        · have i0 : (0 : Int) ≤ (i : Int) := by omega
          have i1 : (i : Int) < (nt : Int) := by omega
          have i2 : (i : Int) < 8 := by omega
          obtain ⟨Xs, ho0, hb0⟩ := HR.out
          obtain ⟨x, hx0⟩ : ∃ x, TL[i]? = some x := ⟨_, List.getElem?_eq_getElem (by rw [HT.out.1]; exact h1)⟩
          obtain ⟨ad, rfl, hcx⟩ := HT.out.2.1 wr hb0 i x hx0
          have HI := HP.out wr x (List.mem_of_getElem? hx0)
          have HO : Hid (OLK PQ b w.heap.size Xs pv nl cv wr ∧ Below w.heap.size w wr) := ⟨ho0, hb0⟩
          clear HR ho0 hb0 hx0
          go_wp2_with fail
          refine HI.mono ?_
          rintro e y1 ⟨B, p, n, c, E, rfl, hok, hc1⟩
          clear hcx HI
          by_cases hE : E = 0
          · subst hE
            obtain ⟨rfl, hpq⟩ := hok rfl
            have HY : Hid (PQ y1 ⟨p, n, c, x⟩ ∧ Below wr.heap.size wr y1) := ⟨hpq, hc1⟩
            clear hpq hc1 hok
            have oL : ((y1.alloc (.cells #[.int .i64 B, .slice p n c, .bool false] 28 (0, 0))).alloc (.cells #[.int .i64 B, .slice p n c, .bool false] 28 (0, 0))).ownsRow w.heap.size 28 3 (.slice pv nl cv) nl (spx B Xs) := own_belQ HO.out.1.2.1 (bel0 HY.out.2 (belA (belA (Below.refl _ _) _) _))
            have hbs : w.heap.size ≤ ((y1.alloc (.cells #[.int .i64 B, .slice p n c, .bool false] 28 (0, 0))).alloc (.cells #[.int .i64 B, .slice p n c, .bool false] 28 (0, 0))).heap.size := (bel0 HO.out.2 (bel0 HY.out.2 (belA (belA (Below.refl _ _) _) _))).size
            go_wp2_with (at_builtin; refine wpList_append_own _ rfl _ _ 25 rfl w.heap.size 28 iP _ 3 40 Tryz.underlying25 hiP hzP0 hzP1 hzP2 rfl (by decide) _ _ _ rfl oL ⟨_, 0, none⟩ 1 1 [.int .i64 B, .slice p n c, .bool false] rfl rfl (World.news_of_block (cs := #[.int .i64 B, .slice p n c, .bool false]) (t := 28) (fr := (0, 0)) (alw_1 _ _ _)) (by simp [Value.oneCell']) (by unfold maxLen; omega) (by omega) hbs ?_; intro v9 w9 o9 g9 _)
            obtain ⟨p9, c9, rfl⟩ := shapeQ1 o9
            have HX : Hid (∃ Xs, OLK PQ B w.heap.size Xs p9 (nl + 1) c9 w9 ∧ Below w.heap.size w w9) := by
              have hb2 : Below y1.heap.size y1 ((y1.alloc (.cells #[.int .i64 B, .slice p n c, .bool false] 28 (0, 0))).alloc (.cells #[.int .i64 B, .slice p n c, .bool false] 28 (0, 0))) := belA (belA (Below.refl _ _) _) _
              refine ⟨Xs ++ [⟨p, n, c, x⟩], ⟨by rw [List.length_append, HO.out.1.1]; rfl, by rw [spx_snoc]; exact o9, fun X hX => ?_⟩, (bel0 HO.out.2 (bel0 HY.out.2 hb2)).grown g9 hbs (fun k e => (oL.lt k e).1)⟩
              have hX2 : PQ y1 X := by
                rcases List.mem_append.1 hX with hX | hX
                · exact HQ.out.1 _ _ _ (HO.out.1.2.2 X hX) HY.out.2
                · obtain rfl := List.mem_singleton.1 hX
                  exact HY.out.1
              exact HQ.out.2 _ _ _ _ _ _ _ _ _ (HQ.out.1 _ _ _ hX2 hb2) oL (.inl rfl) g9
            clear o9 g9 oL hbs
            go_wp2_with fail
            go_roundw
            case rel => exact ⟨i + 1, nl + 1, p9, c9, by go_num, rfl, by omega, by omega, HX⟩
            case measure => simp [intOf]; omega
          · have HX : Hid (∃ Xs, OLK PQ b w.heap.size Xs pv nl cv (y1.alloc (.cells #[.int .i64 B, .slice p n c, .bool false] 28 (0, 0))) ∧ Below w.heap.size w (y1.alloc (.cells #[.int .i64 B, .slice p n c, .bool false] 28 (0, 0)))) := by
              have hb2 : Below wr.heap.size wr (y1.alloc (.cells #[.int .i64 B, .slice p n c, .bool false] 28 (0, 0))) := belA hc1 _
              exact ⟨Xs, ⟨HO.out.1.1, own_belQ HO.out.1.2.1 hb2, fun X hX => HQ.out.1 _ _ _ (HO.out.1.2.2 X hX) hb2⟩, bel0 HO.out.2 hb2⟩
            have e1 : (E == 0) = false := by simpa using hE
            clear hok hc1
            go_wp2_with fail
            go_roundw
            case rel => exact ⟨i + 1, nl, pv, cv, by go_num, rfl, by omega, by omega, HX⟩
            case measure => simp [intOf]; omega
        · have i1 : (i : Int) < (nt : Int) := by omega
          have i2 : ¬ (i : Int) < 8 := by omega
          go_wp2_with fail
          go_meet
          exact ⟨nl, pv, cv, rfl, by omega, HR⟩
      · have i1 : ¬ (i : Int) < (nt : Int) := by omega
        go_wp2_with fail
        go_meet
        exact ⟨nl, pv, cv, rfl, by omega, HR⟩
  case rest =>
    obtain ⟨nl, pl, cl, rfl, hnl, HR⟩ := hcut
    rename World => wa
    obtain ⟨Xs, hol, hba⟩ := HR.out
    have HO : Hid (OLK PQ b w.heap.size Xs pl nl cl wa ∧ Below w.heap.size w wa) := ⟨hol, hba⟩
    clear HR hol hba HP HB1 hiP hzP0 hzP1 hzP2 iP
    by_cases hn0 : nl = 0
    · subst hn0
      go_wp2_with fail
      go_ret
      exact ⟨rfl, HO.out.2⟩
    · have n0 : ¬ (nl : Int) = 0 := by omega
      have n0b : ((nl : Int) == 0) = false := by simpa using hn0
      go_wp2_with fail
      go_loopw [11, 12] (fun v11 v12 wr => ∃ (i : Nat) (pv : Option Addr) (cv : Nat), v12 = .int .i64 (i : Int) ∧ v11 = .slice pv i cv ∧ i ≤ nl ∧ Hid (OLK PQ b w.heap.size Xs pl nl cl wr ∧ wr.ownsRow w.heap.size 9 1 (.slice pv i cv) i (txK LL EE (Xs.take i)) ∧ Below w.heap.size w wr)) (fun _ v12 _ => nl - (intOf v12).toNat)
      case atStart => exact ⟨0, none, 0, rfl, rfl, Nat.zero_le _, HO.out.1, World.ownsRow_nil _ _ _ _, HO.out.2⟩
      case round =>
        clear HO
        obtain ⟨i, pf, cf, rfl, rfl, hin, HR⟩ := hrel
        by_cases hlt : i < nl
        · have i0 : (0 : Int) ≤ (i : Int) := by omega
          have i1 : (i : Int) < (nl : Int) := by omega
          obtain ⟨⟨hl1, hl2, hl3⟩, hf, hb0⟩ := HR.out
          obtain ⟨X, hX⟩ : ∃ X, Xs[i]? = some X := ⟨_, List.getElem?_eq_getElem (by rw [hl1]; exact hlt)⟩
          have PQX := hl3 X (List.mem_of_getElem? hX)
          obtain ⟨gl, rfl⟩ := own_someK hl2 hn0
          obtain ⟨s1, s2, s3⟩ := spx_at b Xs i X hX
          have c1 := own_atK hl2 s1
          have c2 := own_atK hl2 s2
          have c3 := own_atK hl2 s3
          have HXI : Hid (Xs[i]? = some X) := hX
          clear hX s1 s2 s3 hl1 hl2 hl3 hf hb0
          have HEX := HE.out.1 wr X PQX
          obtain ⟨m, hm⟩ : ∃ m, (LL X.x).length = m := ⟨_, rfl⟩
          rw [hm] at HEX
          have HM : Hid ((LL X.x).length = m) := hm
          clear hm
          go_wp2_with fail
          refine HEX.mono ?_
          rintro e WY ⟨pm, cm, rfl, hom, hbm⟩
          clear HEX
          have hkm := HE.out.2 X.x
          have hml : m ≤ 2048 := by rw [← HM.out]; exact hkm.1
          have HTD := told_any (LL X.x) m pm cm (EE X.x) WY HM.out (by omega) (IRC_own (n := m) (by unfold OWC at hom; rw [HM.out] at hom; exact hom) HM.out) hkm.2.1
          have HB2 : Hid (Below wr.heap.size wr WY) := hbm
          clear hom hbm hkm c1 c2 c3 PQX
          go_wp2_with fail
          refine HTD.mono ?_
          rintro e y2 ⟨rfl, hb2⟩
          have hb3 : Below wr.heap.size wr y2 := bel0 HB2.out hb2
          clear HTD HB2 hb2
          obtain ⟨tx, htx⟩ : ∃ tx, tdT (EE X.x) (LL X.x) = tx := ⟨_, rfl⟩
          simp only [htx]
          have oF : (y2.alloc (.cells #[.string ⟨tx.toArray⟩] 9 (0, 0))).ownsRow w.heap.size 9 1 (.slice pf i cf) i (txK LL EE (Xs.take i)) := own_belQ HR.out.2.1 (belA hb3 _)
          have hbs : w.heap.size ≤ (y2.alloc (.cells #[.string ⟨tx.toArray⟩] 9 (0, 0))).heap.size := (bel0 HR.out.2.2 (belA hb3 _)).size
          go_wp2_with (at_builtin; refine wpList_append_own _ rfl _ _ 22 rfl w.heap.size 9 iS _ 1 16 Tryz.underlying22 hiS hzS0 hzS1 hzS2 rfl (by decide) _ _ _ rfl oF ⟨_, 0, none⟩ 1 1 [.string ⟨tx.toArray⟩] rfl rfl (World.news_of_block (cs := #[.string ⟨tx.toArray⟩]) (t := 9) (fr := (0, 0)) (alloc_get _ _)) (by simp [Value.oneCell']) (by unfold maxLen; omega) (by omega) hbs ?_; intro v9 w9 o9 g9 _)
          obtain ⟨p9, c9, rfl⟩ := shapeQ1 o9
          have HX : Hid (OLK PQ b w.heap.size Xs (some ⟨gl, 0, none⟩) nl cl w9 ∧ w9.ownsRow w.heap.size 9 1 (.slice p9 (i + 1) c9) (i + 1) (txK LL EE (Xs.take (i + 1))) ∧ Below w.heap.size w w9) := by
            have hb4 : Below wr.heap.size wr (y2.alloc (.cells #[.string ⟨tx.toArray⟩] 9 (0, 0))) := belA hb3 _
            obtain ⟨⟨hl1, hl2, hl3⟩, hf, hb0⟩ := HR.out
            have hl4 := own_belQ hl2 hb4
            refine ⟨⟨hl1, hl4.kept g9 (own_neK hl4 oF (by decide)), fun X hX => HQ.out.2 _ _ _ _ _ _ _ _ _ (HQ.out.1 _ _ _ (hl3 X hX) hb4) oF (.inr rfl) g9⟩, ?_, (bel0 hb0 hb4).grown g9 hbs (fun k e => (oF.lt k e).1)⟩
            rw [txK_succ HXI.out]
            unfold TT
            rw [htx]
            exact o9
          clear o9 g9 oF hbs htx
          go_wp2_with fail
          go_roundw
          case rel => exact ⟨i + 1, p9, c9, by go_num, rfl, by omega, HX⟩
          case measure => simp [intOf]; omega
        · have i1 : ¬ (i : Int) < (nl : Int) := by omega
          obtain rfl : nl = i := by omega
          obtain ⟨gl, rfl⟩ := own_someK HR.out.1.2.1 hn0
          obtain ⟨gf, rfl⟩ := own_someK HR.out.2.1 hn0
          rename World => wP
          have HF : Hid (∀ U, Below wP.heap.size wP U → (∀ (i : Nat) (X : XP), Xs[i]? = some X → U.cell? ⟨gl, i * 3, none⟩ = some (.int .i64 b) ∧ U.cell? ⟨gl, i * 3 + 1, none⟩ = some (.slice X.p X.n X.c) ∧ U.cell? ⟨gl, i * 3 + 2, none⟩ = some (.bool false) ∧ PQ U X ∧ U.cell? ⟨gf, i, none⟩ = some (.string ⟨(TT LL EE X).toArray⟩)) ∧ Below w.heap.size w U) := fun U hU => by
            obtain ⟨⟨hl1, hl2, hl3⟩, hf, hb0⟩ := HR.out
            rw [List.take_of_length_le (by omega)] at hf
            have hl2' := own_belQ hl2 hU
            have hf' := own_belQ hf hU
            refine ⟨fun j X hX => ?_, bel0 hb0 hU⟩
            obtain ⟨s1, s2, s3⟩ := spx_at b Xs j X hX
            exact ⟨own_atK hl2' s1, own_atK hl2' s2, own_atK hl2' s3, HQ.out.1 _ _ _ (hl3 X (List.mem_of_getElem? hX)) hU, own_atK hf' (txK_at hX)⟩
          have HN : Hid (Xs.length = nl) := HR.out.1.1
          clear HR HQ hin hlt i1 hiS hzS0 hzS1 hzS2 iS
          go_wp2_with fail
          go_loopw [15, 16] (fun v15 v16 wr => ∃ (r nb : Nat) (pb : Option Addr) (cb : Nat), v16 = .int .i64 (r : Int) ∧ v15 = .slice pb nb cb ∧ r ≤ 2 ∧ nb ≤ 20 * r ∧ Hid (∃ K, K.length = nb ∧ KOK K ∧ SE wP wr K 0 (.slice pb nb cb))) (fun _ v16 _ => 2 - (intOf v16).toNat)
          case atStart => exact ⟨0, 0, none, 0, rfl, rfl, by omega, by omega, [], rfl, (fun e h => by cases h), SE.start wP⟩
          case round =>
            obtain ⟨r, nb, pb, cb, rfl, rfl, hr2, hnb, HR⟩ := hrel
            by_cases hrl : r < 2
            · have r1 : (r : Int) < 2 := by omega
              go_wp2_with fail
              go_loopw [15, 17] (fun v15 v17 ws => ∃ (n nb : Nat) (pb : Option Addr) (cb : Nat), v17 = .int .i64 (n : Int) ∧ v15 = .slice pb nb cb ∧ n ≤ 20 ∧ nb ≤ 20 * r + n ∧ Hid (∃ K, K.length = nb ∧ KOK K ∧ SE wP ws K 0 (.slice pb nb cb))) (fun _ v17 _ => 20 - (intOf v17).toNat)
              case atStart => exact ⟨0, nb, pb, cb, rfl, rfl, by omega, by omega, HR⟩
              case round =>
                clear HR hnb
                rename World => ws
                obtain ⟨n, nb, pb, cb, rfl, rfl, hn20, hnb, HR⟩ := hrel
                by_cases h1 : n < na
                · by_cases h2 : n < 20
                  · have i0 : (0 : Int) ≤ (n : Int) := by omega
                    have i1 : (n : Int) < (na : Int) := by omega
                    have i2 : (n : Int) < 20 := by omega
                    obtain ⟨K, hKl, hKO, hse⟩ := HR.out
                    have HS : Hid (K.length = nb ∧ KOK K ∧ SE wP ws K 0 (.slice pb nb cb)) := ⟨hKl, hKO, hse⟩
                    obtain ⟨ad, z, rfl, hcz, hz1, hz2⟩ := HT.out.2.2 ws (HF.out ws hse.be).2 n h1
                    have HPL := place_any z ws hz1 hz2
                    clear HR hKl hKO hse hz1 hz2
                    go_wp2_with fail
                    refine HPL.mono ?_
                    rintro e y1 ⟨j, hj8, rfl, hb1⟩
                    have HB1 : Hid (Below ws.heap.size ws y1) := hb1
                    clear hcz HPL hb1
                    obtain ⟨t, ht⟩ : ∃ t : Nat, j % nl = t := ⟨_, rfl⟩
                    have htl : t < nl := by rw [← ht]; exact Nat.mod_lt _ (by omega)
                    have e3 : (j : Int).tmod (nl : Int) = (t : Int) := by rw [← ht]; rfl
                    have e4 : IntKind.i64.wrap (t : Int) = (t : Int) := by rw [IntKind.wrap_i64]; omega
                    have t0 : (0 : Int) ≤ (t : Int) := by omega
                    have t1 : (t : Int) < (nl : Int) := by omega
                    clear ht hj8
                    obtain ⟨X, hX⟩ : ∃ X, Xs[t]? = some X := ⟨_, List.getElem?_eq_getElem (by rw [HN.out]; exact htl)⟩
                    have HXI : Hid (Xs[t]? = some X) := hX
                    clear hX
                    obtain ⟨c1, c2, c3, PQX, -⟩ := (HF.out y1 (bel0 HS.out.2.2.be HB1.out)).1 t X HXI.out
                    have HEX := HE.out.1 y1 X PQX
                    obtain ⟨m, hm⟩ : ∃ m, (LL X.x).length = m := ⟨_, rfl⟩
                    rw [hm] at HEX
                    have HM : Hid ((LL X.x).length = m) := hm
                    clear hm
                    go_wp2_with fail
                    refine HEX.mono ?_
                    rintro e WY ⟨pm, cm, rfl, hom, hbm⟩
                    clear HEX
                    have hkm := HE.out.2 X.x
                    have hml : m ≤ 2048 := by rw [← HM.out]; exact hkm.1
                    obtain ⟨tx, htx⟩ : ∃ tx, TT LL EE X = tx := ⟨_, rfl⟩
                    have HTX : Hid (TT LL EE X = tx) := htx
                    have HB2 : Hid (Below y1.heap.size y1 WY ∧ OWC WY y1.heap.size (.slice pm m cm) (LL X.x) ∧ Below wP.heap.size wP WY) := ⟨hbm, hom, bel0 (bel0 HS.out.2.2.be HB1.out) hbm⟩
                    have HKQ : Hid (∀ U, Below WY.heap.size WY U → U.cell? ⟨gf, t, none⟩ = some (.string ⟨tx.toArray⟩)) := fun U hU => by
                      rw [← htx]
                      exact ((HF.out U (bel0 HB2.out.2.2 hU)).1 t X HXI.out).2.2.2.2
                    have HTD : Hid (∀ U, Below WY.heap.size WY U → Calls Tryz.prog 7 #[.slice pm m cm, .int .i64 (EE X.x)] U fun e w' => e = .returned (.string ⟨tx.toArray⟩) ∧ Below U.heap.size U w') := fun U hU => by
                      have h := told_any (LL X.x) m pm cm (EE X.x) U HM.out (by omega) (IRC_own (n := m) (by have o := HB2.out.2.1.below hU; unfold OWC at o; rw [HM.out] at o; exact o) HM.out) (HE.out.2 X.x).2.1
                      unfold TT at htx
                      rw [htx] at h
                      exact h
                    clear hom hbm hkm c1 c2 c3 PQX htx
                    go_wp2_with fail
                    refine quiet_litL (C := fun U => Below WY.heap.size WY U) (by kernel_rfl) (by kernel_rfl) (show Below _ _ _ from (Below.refl _ _).drew) ?_
                    go_big_quiet_want
                    go_big_quiet_op
                    go_big_quiet_on
                    go_big_quiet_want
                    go_big_quiet_op
                    go_big_quiet_on
                    go_big_quiet_want
                    refine ⟨.string ⟨tx.toArray⟩, fun W hW => ?_, ?_⟩
                    · go_simp
                      refine (HTD.out W hW).mono ?_
                      rintro e w7 ⟨rfl, hb⟩
                      exact ⟨rfl, bel0 hW hb⟩
                    go_big_quiet_on
                    simp only [Act.put, List.setIfInBounds_toArray, List.set_cons_zero, List.set_cons_succ]
                    go_big_quiet_want
                    go_big_quiet_op
                    go_big_quiet_on
                    go_big_quiet_want
                    go_big_quiet_op
                    go_big_quiet_on
                    go_big_quiet_want
                    refine ⟨.pointer (some ⟨gf, t, none⟩), fun W hW => ?_, ?_⟩
                    · go_simp
                    go_big_quiet_on
                    simp only [Act.put, List.setIfInBounds_toArray, List.set_cons_zero, List.set_cons_succ]
                    go_big_quiet_want
                    refine ⟨.string ⟨tx.toArray⟩, fun W hW => ?_, ?_⟩
                    · have s1 := HKQ.out W hW
                      go_simp
                    go_big_quiet_on
                    simp only [Act.put, List.setIfInBounds_toArray, List.set_cons_zero, List.set_cons_succ]
                    go_big_quiet_want
                    refine ⟨.bool false, fun W hW => ?_, ?_⟩
                    · go_simp
                    go_big_quiet_on
                    simp only [Act.put, List.setIfInBounds_toArray, List.set_cons_zero, List.set_cons_succ]
                    refine wpQuiet_nil ?_
                    intro z5 hz5
                    clear HTD
                    have c1 := HKQ.out z5 hz5
                    have hse8 : SE wP (z5.alloc (.cells #[.slice pm m cm, .slice none 0 0, .int .i64 (nb : Int), .string ⟨tx.toArray⟩] 39 (0, 0))) K 0 (.slice pb nb cb) := HS.out.2.2.below (belA (bel0 (bel0 HB1.out HB2.out.1) hz5) _)
                    have HSE8 : Hid (SE wP (z5.alloc (.cells #[.slice pm m cm, .slice none 0 0, .int .i64 (nb : Int), .string ⟨tx.toArray⟩] 39 (0, 0))) K 0 (.slice pb nb cb) ∧ OWC (z5.alloc (.cells #[.slice pm m cm, .slice none 0 0, .int .i64 (nb : Int), .string ⟨tx.toArray⟩] 39 (0, 0))) y1.heap.size (.slice pm m cm) (LL X.x)) := ⟨hse8, HB2.out.2.1.below (belA hz5 _)⟩
                    obtain ⟨xs, hx1, hx2⟩ := hse8.bo
                    have HX2 : Hid (BX xs K nilG 0) := hx2
                    have hbs : wP.heap.size ≤ (z5.alloc (.cells #[.slice pm m cm, .slice none 0 0, .int .i64 (nb : Int), .string ⟨tx.toArray⟩] 39 (0, 0))).heap.size := hse8.be.size
                    have oB : (z5.alloc (.cells #[.slice pm m cm, .slice none 0 0, .int .i64 (nb : Int), .string ⟨tx.toArray⟩] 39 (0, 0))).ownsRow wP.heap.size 39 4 (.slice pb nb cb) nb xs := by have h := hx1; rw [HS.out.1] at h; exact h
                    clear hx1 hx2 hse8
                    go_wp2_with (at_builtin; refine wpList_append_own _ rfl _ _ 36 rfl wP.heap.size 39 iK _ 4 72 Tryz.underlying36 hiK hzK0 hzK1 hzK2 rfl (by decide) _ _ _ rfl oB ⟨_, 0, none⟩ 1 1 [.slice pm m cm, .slice none 0 0, .int .i64 (nb : Int), .string ⟨tx.toArray⟩] rfl rfl (World.news_of_block (cs := #[.slice pm m cm, .slice none 0 0, .int .i64 (nb : Int), .string ⟨tx.toArray⟩]) (t := 39) (fr := (0, 0)) (alloc_get _ _)) (by simp [Value.oneCell']) (by unfold maxLen; omega) (by omega) hbs ?_; intro v9 w9 o9 g9 _)
                    obtain ⟨p9, c9, rfl⟩ := shapeQ1 o9
                    have HX : Hid (∃ K, K.length = nb + 1 ∧ KOK K ∧ SE wP w9 K 0 (.slice p9 (nb + 1) c9)) := by
                      have hv : (EN.mk pm cm (LL X.x) tx).v = .slice pm m cm := by show Value.slice pm (LL X.x).length cm = _; rw [HM.out]
                      have hl := HE.out.2 X.x
                      refine ⟨K ++ [⟨pm, cm, LL X.x, tx⟩], by rw [List.length_append, HS.out.1]; rfl, fun e he => ?_, SE.snoc (e := ⟨pm, cm, LL X.x, tx⟩) (N := y1.heap.size) (xs := xs) HSE8.out.1 (by rw [hv]; exact HSE8.out.2) (bel0 HS.out.2.2.be HB1.out).size (fun j f hf bb g1 g2 => ?_) (by rw [HS.out.1]; exact oB) HX2.out (by rw [hv, HS.out.1]; exact o9) g9⟩
                      · rcases List.mem_append.1 he with he | he
                        · exact HS.out.2.1 e he
                        · obtain rfl := List.mem_singleton.1 he
                          refine ⟨hl.1, hl.2.1, fun h => ?_⟩
                          show tx = tdT 0 (LL X.x)
                          rw [← HTX.out]
                          unfold TT
                          rw [hl.2.2 h]
                      · have a1 := ((HS.out.2.2.own j f hf).lt bb g1).2
                        rw [hv] at g2
                        have a2 := (HB2.out.2.1.lt bb g2).1
                        have a3 := HB1.out.size
                        omega
                    clear o9 g9 oB hbs HSE8 HX2 HB2 HKQ hz5 c1
                    go_wp2_with fail
                    go_roundw
                    case rel => exact ⟨n + 1, nb + 1, p9, c9, by go_num, rfl, by omega, by omega, HX⟩
                    case measure => simp [intOf]; omega
                  · have i1 : (n : Int) < (na : Int) := by omega
                    have i2 : ¬ (n : Int) < 20 := by omega
                    go_wp2_with fail
                    go_roundw
                    case rel => exact ⟨r + 1, nb, pb, cb, by go_num, rfl, by omega, by omega, HR⟩
                    case measure => simp [intOf]; omega
                · have i1 : ¬ (n : Int) < (na : Int) := by omega
                  go_wp2_with fail
                  go_roundw
                  case rel => exact ⟨r + 1, nb, pb, cb, by go_num, rfl, by omega, by omega, HR⟩
                  case measure => simp [intOf]; omega
            · have r1 : ¬ (r : Int) < 2 := by omega
              obtain ⟨K, hKl, hKO, hse⟩ := HR.out
              rename World => wc
              have HS : Hid (K.length = nb ∧ KOK K) := ⟨hKl, hKO⟩
              have HSE : Hid (SE wP wc K 0 (.slice pb nb cb)) := hse
              have hn40 : nb ≤ 40 := by omega
              clear HR hKl hKO hse hnb hiK hzK0 hzK1 hzK2 iK
              go_wp2_with fail
              go_loopw [21] (fun v21 wx => ∃ k : Nat, v21 = .int .i64 (k : Int) ∧ k ≤ nb ∧ Hid (SE wP wx K 0 (.slice pb nb cb))) (fun v21 _ => nb - (intOf v21).toNat)
              case atStart => exact ⟨0, rfl, Nat.zero_le _, HSE⟩
              case round =>
                clear HSE
                rename World => wx
                obtain ⟨k, rfl, hk, HR⟩ := hrel
                by_cases hlt : k < nb
                · have hHid : True := trivial
                  have k1 : (k : Int) < (nb : Int) := by omega
                  have k0 : (0 : Int) ≤ (k : Int) := by omega
                  obtain ⟨en, he⟩ : ∃ e, K[k]? = some e := ⟨_, List.getElem?_eq_getElem (by rw [HS.out.1]; exact hlt)⟩
                  have hok := HS.out.2 en (List.mem_of_getElem? he)
                  obtain ⟨pe, ce, L, sd⟩ := en
                  obtain ⟨m, hm⟩ : ∃ m, L.length = m := ⟨_, rfl⟩
                  have hml : m ≤ 2048 := by rw [← hm]; exact hok.1
                  have HEN : Hid (K[k]? = some ⟨pe, ce, L, sd⟩ ∧ L.length = m) := ⟨he, hm⟩
                  obtain ⟨xs, hx1, hx2⟩ := HR.out.bo
                  obtain ⟨gb, rfl⟩ := own_someK hx1 (by rw [HS.out.1]; omega)
                  have HKQ : Hid (∀ U, Below wx.heap.size wx U → U.cell? ⟨gb, k * 4, none⟩ = some (.slice pe m ce) ∧ U.cell? ⟨gb, k * 4 + 3, none⟩ = some (.string ⟨sd.toArray⟩)) := fun U hU => by
                    have h := bk_at (own_belQ hx1 hU) hx2 he
                    rw [← hm]
                    exact ⟨h.1, h.2.2.2⟩
                  by_cases hm0 : m = 0
                  · subst hm0
                    clear he hok hm hx1 hx2
                    go_wp2_with fail
                    refine quiet_litL (C := fun U => Below wx.heap.size wx U) (by kernel_rfl) (by kernel_rfl) (show Below _ _ _ from (Below.refl _ _).drew) ?_
                    go_big_quiet_want
                    go_big_quiet_op
                    go_big_quiet_on
                    go_big_quiet_want
                    go_big_quiet_op
                    go_big_quiet_on
                    go_big_quiet_want
                    refine ⟨.pointer (some ⟨gb, k * 4, none⟩), fun W hW => ?_, ?_⟩
                    · go_simp
                    go_big_quiet_on
                    simp only [Act.put, List.setIfInBounds_toArray, List.set_cons_zero, List.set_cons_succ]
                    go_big_quiet_want
                    refine ⟨.pointer (some ⟨gb, k * 4, none⟩), fun W hW => ?_, ?_⟩
                    · go_simp
                    go_big_quiet_on
                    simp only [Act.put, List.setIfInBounds_toArray, List.set_cons_zero, List.set_cons_succ]
                    go_big_quiet_want
                    refine ⟨.slice pe 0 ce, fun W hW => ?_, ?_⟩
                    · obtain ⟨s1, s2⟩ := HKQ.out W hW
                      go_simp
                    go_big_quiet_on
                    simp only [Act.put, List.setIfInBounds_toArray, List.set_cons_zero, List.set_cons_succ]
                    go_big_quiet_want
                    refine ⟨.int .i64 0, fun W hW => ?_, ?_⟩
                    · go_simp
                    go_big_quiet_on
                    simp only [Act.put, List.setIfInBounds_toArray, List.set_cons_zero, List.set_cons_succ]
                    go_big_quiet_want
                    refine ⟨.bool false, fun W hW => ?_, ?_⟩
                    · go_simp
                    go_big_quiet_on
                    simp only [Act.put, List.setIfInBounds_toArray, List.set_cons_zero, List.set_cons_succ]
                    go_big_quiet_want
                    go_big_quiet_op
                    go_big_quiet_on
                    go_big_quiet_skip
                    go_big_quiet_skip
                    go_big_quiet_skip
                    go_big_quiet_skip
                    go_big_quiet_skip
                    go_big_quiet_skip
                    go_big_quiet_skip
                    go_big_quiet_skip
                    go_big_quiet_skip
                    go_big_quiet_skip
                    go_big_quiet_skip
                    go_big_quiet_skip
                    go_big_quiet_want
                    refine ⟨.bool false, fun W hW => ?_, ?_⟩
                    · go_simp
                    go_big_quiet_on
                    simp only [Act.put, List.setIfInBounds_toArray, List.set_cons_zero, List.set_cons_succ]
                    refine wpQuiet_nil ?_
                    intro z5 hz5
                    have HX : Hid (SE wP z5 K 0 (.slice (some ⟨gb, 0, none⟩) nb cb)) := HR.out.below hz5
                    clear hz5 HKQ
                    go_wp2_with fail
                    go_roundw
                    case rel => exact ⟨k + 1, by go_num, by omega, HX⟩
                    case measure => simp [intOf]; omega
                  · have m1 : (m : Int) > 0 := by omega
                    have m2 : (0 : Int) < (m : Int) := by omega
                    have HTD : Hid (∀ U, Below wx.heap.size wx U → Calls Tryz.prog 7 #[.slice pe m ce, .int .i64 0] U fun e w' => e = .returned (.string ⟨sd.toArray⟩) ∧ Below U.heap.size U w') := fun U hU => by
                      have o := (HR.out.own k _ he).below hU
                      rw [if_neg (Nat.not_lt_zero _)] at o
                      have h := told_any L m pe ce 0 U hm (by omega) (IRC_own (n := m) (by unfold OWC EN.v at o; rw [show (EN.mk pe ce L sd).L.length = m from hm] at o; exact o) hm) hok.2.1
                      rw [← hok.2.2 (fun e => hm0 (by rw [← hm]; show L.length = 0; rw [show L = [] from e]; rfl))] at h
                      exact h
                    clear he hok hm hx1 hx2
                    go_wp2_with fail
                    refine quiet_litL (C := fun U => Below wx.heap.size wx U) (by kernel_rfl) (by kernel_rfl) (show Below _ _ _ from (Below.refl _ _).drew) ?_
                    go_big_quiet_want
                    go_big_quiet_op
                    go_big_quiet_on
                    go_big_quiet_want
                    go_big_quiet_op
                    go_big_quiet_on
                    go_big_quiet_want
                    refine ⟨.pointer (some ⟨gb, k * 4, none⟩), fun W hW => ?_, ?_⟩
                    · go_simp
                    go_big_quiet_on
                    simp only [Act.put, List.setIfInBounds_toArray, List.set_cons_zero, List.set_cons_succ]
                    go_big_quiet_want
                    refine ⟨.pointer (some ⟨gb, k * 4, none⟩), fun W hW => ?_, ?_⟩
                    · go_simp
                    go_big_quiet_on
                    simp only [Act.put, List.setIfInBounds_toArray, List.set_cons_zero, List.set_cons_succ]
                    go_big_quiet_want
                    refine ⟨.slice pe m ce, fun W hW => ?_, ?_⟩
                    · obtain ⟨s1, s2⟩ := HKQ.out W hW
                      go_simp
                    go_big_quiet_on
                    simp only [Act.put, List.setIfInBounds_toArray, List.set_cons_zero, List.set_cons_succ]
                    go_big_quiet_want
                    refine ⟨.int .i64 (m : Int), fun W hW => ?_, ?_⟩
                    · go_simp
                    go_big_quiet_on
                    simp only [Act.put, List.setIfInBounds_toArray, List.set_cons_zero, List.set_cons_succ]
                    go_big_quiet_want
                    refine ⟨.bool true, fun W hW => ?_, ?_⟩
                    · go_simp
                      omega
                    go_big_quiet_on
                    simp only [Act.put, List.setIfInBounds_toArray, List.set_cons_zero, List.set_cons_succ]
                    go_big_quiet_want
                    go_big_quiet_op
                    go_big_quiet_on
                    go_big_quiet_want
                    go_big_quiet_op
                    go_big_quiet_on
                    go_big_quiet_want
                    go_big_quiet_op
                    go_big_quiet_on
                    go_big_quiet_want
                    refine ⟨.pointer (some ⟨gb, k * 4, none⟩), fun W hW => ?_, ?_⟩
                    · go_simp
                    go_big_quiet_on
                    simp only [Act.put, List.setIfInBounds_toArray, List.set_cons_zero, List.set_cons_succ]
                    go_big_quiet_want
                    refine ⟨.pointer (some ⟨gb, k * 4, none⟩), fun W hW => ?_, ?_⟩
                    · go_simp
                    go_big_quiet_on
                    simp only [Act.put, List.setIfInBounds_toArray, List.set_cons_zero, List.set_cons_succ]
                    go_big_quiet_want
                    refine ⟨.slice pe m ce, fun W hW => ?_, ?_⟩
                    · obtain ⟨s1, s2⟩ := HKQ.out W hW
                      go_simp
                    go_big_quiet_on
                    simp only [Act.put, List.setIfInBounds_toArray, List.set_cons_zero, List.set_cons_succ]
                    go_big_quiet_want
                    refine ⟨.string ⟨sd.toArray⟩, fun W hW => ?_, ?_⟩
                    · go_simp
                      refine (HTD.out W hW).mono ?_
                      rintro e w7 ⟨rfl, hb⟩
                      exact ⟨rfl, bel0 hW hb⟩
                    go_big_quiet_on
                    simp only [Act.put, List.setIfInBounds_toArray, List.set_cons_zero, List.set_cons_succ]
                    go_big_quiet_want
                    go_big_quiet_op
                    go_big_quiet_on
                    go_big_quiet_want
                    go_big_quiet_op
                    go_big_quiet_on
                    go_big_quiet_want
                    refine ⟨.pointer (some ⟨gb, k * 4, none⟩), fun W hW => ?_, ?_⟩
                    · go_simp
                    go_big_quiet_on
                    simp only [Act.put, List.setIfInBounds_toArray, List.set_cons_zero, List.set_cons_succ]
                    go_big_quiet_want
                    refine ⟨.pointer (some ⟨gb, k * 4 + 3, none⟩), fun W hW => ?_, ?_⟩
                    · go_simp
                    go_big_quiet_on
                    simp only [Act.put, List.setIfInBounds_toArray, List.set_cons_zero, List.set_cons_succ]
                    go_big_quiet_want
                    refine ⟨.string ⟨sd.toArray⟩, fun W hW => ?_, ?_⟩
                    · obtain ⟨s1, s2⟩ := HKQ.out W hW
                      go_simp
                    go_big_quiet_on
                    simp only [Act.put, List.setIfInBounds_toArray, List.set_cons_zero, List.set_cons_succ]
                    go_big_quiet_want
                    refine ⟨.bool false, fun W hW => ?_, ?_⟩
                    · go_simp
                    go_big_quiet_on
                    simp only [Act.put, List.setIfInBounds_toArray, List.set_cons_zero, List.set_cons_succ]
                    go_big_quiet_want
                    refine ⟨.bool false, fun W hW => ?_, ?_⟩
                    · go_simp
                    go_big_quiet_on
                    simp only [Act.put, List.setIfInBounds_toArray, List.set_cons_zero, List.set_cons_succ]
                    refine wpQuiet_nil ?_
                    intro z5 hz5
                    clear HTD
                    have HX : Hid (SE wP z5 K 0 (.slice (some ⟨gb, 0, none⟩) nb cb)) := HR.out.below hz5
                    clear hz5 HKQ
                    go_wp2_with fail
                    go_roundw
                    case rel => exact ⟨k + 1, by go_num, by omega, HX⟩
                    case measure => simp [intOf]; omega
                · have k1 : ¬ (k : Int) < (nb : Int) := by omega
                  clear hk hlt
                  go_wp2_with fail
                  go_loopw [22] (fun v22 wy => ∃ k : Nat, v22 = .int .i64 (k : Int) ∧ k ≤ nb ∧ Hid (SE wP wy K k (.slice pb nb cb))) (fun v22 _ => nb - (intOf v22).toNat)
                  case atStart => exact ⟨0, rfl, Nat.zero_le _, HR⟩
                  case round =>
                    clear HR k1
                    rename World => wy
                    obtain ⟨k, rfl, hk, HR⟩ := hrel
                    by_cases hlt : k < nb
                    · have hHid : True := trivial
                      have k1 : (k : Int) < (nb : Int) := by omega
                      have k0 : (0 : Int) ≤ (k : Int) := by omega
                      obtain ⟨en, he⟩ : ∃ e, K[k]? = some e := ⟨_, List.getElem?_eq_getElem (by rw [HS.out.1]; exact hlt)⟩
                      have hok := HS.out.2 en (List.mem_of_getElem? he)
                      obtain ⟨pe, ce, L, sd⟩ := en
                      obtain ⟨m, hm⟩ : ∃ m, L.length = m := ⟨_, rfl⟩
                      have hml : m ≤ 2048 := by rw [← hm]; exact hok.1
                      have HEN : Hid (K[k]? = some ⟨pe, ce, L, sd⟩ ∧ L.length = m) := ⟨he, hm⟩
                      obtain ⟨xs, hx1, hx2⟩ := HR.out.bo
                      obtain ⟨gb, rfl⟩ := own_someK hx1 (by rw [HS.out.1]; omega)
                      obtain ⟨c1, c2, c3, c4⟩ := bk_at hx1 hx2 he
                      rw [if_neg (Nat.not_lt_zero _)] at c2
                      have o := HR.out.own k _ he
                      rw [if_neg (Nat.lt_irrefl _)] at o
                      have HW := write_any (.slice pe m ce) L k m wP.heap.size sd wy (by unfold EN.v at o; rw [show (EN.mk pe ce L sd).L.length = m from hm] at o; exact o) hm (by omega) (by omega)
                      rw [show (EN.mk pe ce L sd).L.length = m from hm] at c1
                      clear he hok hm hx1 hx2 o
                      go_wp2_with fail
                      refine HW.mono ?_
                      rintro e y1 ⟨⟨u, rfl⟩, ho, hg⟩
                      have HX : Hid (SE wP y1 K (k + 1) (.slice (some ⟨gb, 0, none⟩) nb cb)) := by
                        have hv : (EN.mk pe ce L sd).v = .slice pe m ce := by show Value.slice pe L.length ce = _; rw [HEN.out.2]
                        exact HR.out.write HEN.out.1 (by rw [hv]; show OWC _ _ _ (mks k L.length); rw [HEN.out.2]; exact ho) (by rw [hv]; exact hg)
                      clear HW ho hg c1 c2 c3 c4
                      go_wp2_with fail
                      go_roundw
                      case rel => exact ⟨k + 1, by go_num, by omega, HX⟩
                      case measure => simp [intOf]; omega
                    · have k1 : ¬ (k : Int) < (nb : Int) := by omega
                      obtain ⟨NF, hNF⟩ : ∃ NF, wy.heap.size = NF := ⟨_, rfl⟩
                      have HSF : Hid (∃ Gf, SF wP wy K NF Gf 0 (.slice pb nb cb)) := by
                        have h := HR.out
                        have e1 : k = K.length := by rw [HS.out.1]; omega
                        rw [e1] at h
                        rw [← hNF]
                        exact ⟨_, h.toF⟩
                      clear HR hk hlt hNF
                      go_wp2_with fail
                      go_loopw [23] (fun v23 wz => ∃ k : Nat, v23 = .int .i64 (k : Int) ∧ k ≤ nb ∧ Hid (∃ Gf, SF wP wz K NF Gf k (.slice pb nb cb))) (fun v23 _ => nb - (intOf v23).toNat)
                      case atStart => exact ⟨0, rfl, Nat.zero_le _, HSF⟩
                      case round =>
                        clear HSF k1
                        rename World => wz
                        obtain ⟨k, rfl, hk, HR0⟩ := hrel
                        obtain ⟨Gf, hr0⟩ := HR0.out
                        have HR : Hid (SF wP wz K NF Gf k (.slice pb nb cb)) := hr0
                        clear HR0 hr0
                        by_cases hlt : k < nb
                        · have hHid : True := trivial
                          have k1 : (k : Int) < (nb : Int) := by omega
                          have k0 : (0 : Int) ≤ (k : Int) := by omega
                          obtain ⟨en, he⟩ : ∃ e, K[k]? = some e := ⟨_, List.getElem?_eq_getElem (by rw [HS.out.1]; exact hlt)⟩
                          have hok := HS.out.2 en (List.mem_of_getElem? he)
                          obtain ⟨pe, ce, L, sd⟩ := en
                          obtain ⟨m, hm⟩ : ∃ m, L.length = m := ⟨_, rfl⟩
                          have hml : m ≤ 2048 := by rw [← hm]; exact hok.1
                          have HEN : Hid (K[k]? = some ⟨pe, ce, L, sd⟩ ∧ L.length = m) := ⟨he, hm⟩
                          obtain ⟨xs, hx1, hx2⟩ := HR.out.bo
                          obtain ⟨gb, rfl⟩ := own_someK hx1 (by rw [HS.out.1]; omega)
                          obtain ⟨c1, c2, c3, c4⟩ := bk_at hx1 hx2 he
                          rw [if_neg (Nat.lt_irrefl _)] at c2
                          have o := HR.out.own k _ he (Nat.le_refl _)
                          have o' : OWC wz wP.heap.size (.slice pe m ce) (mks k m) := by
                            unfold EN.v at o
                            rw [show (EN.mk pe ce L sd).L.length = m from hm] at o
                            exact o
                          have HW := grown_any pe ce (mks k m) k m wP.heap.size sd wz o' (mks_len k m) (by omega) (by omega)
                          rw [show (EN.mk pe ce L sd).L.length = m from hm] at c1
                          have HO : Hid (wz.ownsRow wP.heap.size 39 4 (.slice (some ⟨gb, 0, none⟩) nb cb) nb xs ∧ BX xs K Gf k ∧ OWC wz wP.heap.size (.slice pe m ce) (mks k m)) := ⟨by have h := hx1; rw [HS.out.1] at h; exact h, hx2, o'⟩
                          clear he hok hm hx1 hx2 o o'
                          go_wp2_with fail
                          refine HW.mono ?_
                          rintro e y1 ⟨q9, c9, rfl, hgk, hg⟩
                          clear HW c1 c2 c3 c4
                          have oy : y1.ownsRow wP.heap.size 39 4 (.slice (some ⟨gb, 0, none⟩) nb cb) nb xs := HO.out.1.kept hg (own_neK HO.out.1 HO.out.2.2 (by decide))
                          obtain ⟨c1, c2, c3, c4⟩ := bk_at oy HO.out.2.1 HEN.out.1
                          have fr : ∀ j, y1.frozen? ⟨gb, j, none⟩ = false := oy.frozenAt
                          have HX : Hid (∃ Gf, SF wP (put4k y1 gb k (.slice pe m ce) (.slice q9 (m + 96) c9) (.int .i64 (k : Int)) (.string ⟨sd.toArray⟩)) K NF Gf (k + 1) (.slice (some ⟨gb, 0, none⟩) nb cb)) := by
                            have hv : (EN.mk pe ce L sd).v = .slice pe m ce := by show Value.slice pe L.length ce = _; rw [HEN.out.2]
                            refine ⟨_, SF.grow (X := y1) (G := .slice q9 (m + 96) c9) HR.out HEN.out.1 (by rw [hv]; show GRK _ _ _ _ (mks k L.length) _ _; rw [HEN.out.2]; exact hgk) (by rw [hv]; exact hg) (put4k_gr _ _ _ _ _ _ _) (fun ys hy => ?_)⟩
                            rw [HS.out.1] at hy ⊢
                            rw [hv]
                            exact put4k_own k _ _ _ _ hy
                          clear hgk hg oy
                          unfold put4k at HX
                          go_wp2_with fail
                          go_roundw
                          case rel => exact ⟨k + 1, by go_num, by omega, HX⟩
                          case measure => simp [intOf]; omega
                        · have k1 : ¬ (k : Int) < (nb : Int) := by omega
                          obtain rfl : nb = k := by omega
                          clear hk hlt
                          go_wp2_with fail
                          go_loopw [24] (fun v24 wg => ∃ t : Nat, v24 = .int .i64 (t : Int) ∧ t ≤ nl ∧ Hid (SF wP wg K NF Gf nb (.slice pb nb cb))) (fun v24 _ => nl - (intOf v24).toNat)
                          case atStart => exact ⟨0, rfl, Nat.zero_le _, HR⟩
                          case round =>
                            clear HR k1
                            rename World => wg
                            obtain ⟨t, rfl, ht, HR⟩ := hrel
                            by_cases htl : t < nl
                            · have t0 : (0 : Int) ≤ (t : Int) := by omega
                              have t1 : (t : Int) < (nl : Int) := by omega
                              obtain ⟨X, hX⟩ : ∃ X, Xs[t]? = some X := ⟨_, List.getElem?_eq_getElem (by rw [HN.out]; exact htl)⟩
                              have HXI : Hid (Xs[t]? = some X) := hX
                              clear hX
                              obtain ⟨c1, c2, c3, PQX, -⟩ := (HF.out wg (HR.out.be)).1 t X HXI.out
                              have HEX := HE.out.1 wg X PQX
                              obtain ⟨m, hm⟩ : ∃ m, (LL X.x).length = m := ⟨_, rfl⟩
                              rw [hm] at HEX
                              have HM : Hid ((LL X.x).length = m) := hm
                              clear hm
                              go_wp2_with fail
                              refine HEX.mono ?_
                              rintro e WY ⟨pm, cm, rfl, hom, hbm⟩
                              clear HEX
                              have hkm := HE.out.2 X.x
                              have hml : m ≤ 2048 := by rw [← HM.out]; exact hkm.1
                              obtain ⟨tx, htx⟩ : ∃ tx, TT LL EE X = tx := ⟨_, rfl⟩
                              have HTX : Hid (TT LL EE X = tx) := htx
                              have HB2 : Hid (Below wg.heap.size wg WY ∧ OWC WY wg.heap.size (.slice pm m cm) (LL X.x) ∧ Below wP.heap.size wP WY) := ⟨hbm, hom, bel0 (HR.out.be) hbm⟩
                              have HKQ : Hid (∀ U, Below WY.heap.size WY U → U.cell? ⟨gf, t, none⟩ = some (.string ⟨tx.toArray⟩)) := fun U hU => by
                                rw [← htx]
                                exact ((HF.out U (bel0 HB2.out.2.2 hU)).1 t X HXI.out).2.2.2.2
                              have HTD : Hid (∀ U, Below WY.heap.size WY U → Calls Tryz.prog 7 #[.slice pm m cm, .int .i64 (EE X.x)] U fun e w' => e = .returned (.string ⟨tx.toArray⟩) ∧ Below U.heap.size U w') := fun U hU => by
                                have h := told_any (LL X.x) m pm cm (EE X.x) U HM.out (by omega) (IRC_own (n := m) (by have o := HB2.out.2.1.below hU; unfold OWC at o; rw [HM.out] at o; exact o) HM.out) (HE.out.2 X.x).2.1
                                unfold TT at htx
                                rw [htx] at h
                                exact h
                              clear hom hbm hkm c1 c2 c3 PQX htx
                              go_wp2_with fail
                              refine quiet_litL (C := fun U => Below WY.heap.size WY U) (by kernel_rfl) (by kernel_rfl) (show Below _ _ _ from (Below.refl _ _).drew) ?_
                              go_big_quiet_want
                              go_big_quiet_op
                              go_big_quiet_on
                              go_big_quiet_want
                              go_big_quiet_op
                              go_big_quiet_on
                              go_big_quiet_want
                              refine ⟨.string ⟨tx.toArray⟩, fun W hW => ?_, ?_⟩
                              · go_simp
                                refine (HTD.out W hW).mono ?_
                                rintro e w7 ⟨rfl, hb⟩
                                exact ⟨rfl, bel0 hW hb⟩
                              go_big_quiet_on
                              simp only [Act.put, List.setIfInBounds_toArray, List.set_cons_zero, List.set_cons_succ]
                              go_big_quiet_want
                              go_big_quiet_op
                              go_big_quiet_on
                              go_big_quiet_want
                              go_big_quiet_op
                              go_big_quiet_on
                              go_big_quiet_want
                              refine ⟨.pointer (some ⟨gf, t, none⟩), fun W hW => ?_, ?_⟩
                              · go_simp
                              go_big_quiet_on
                              simp only [Act.put, List.setIfInBounds_toArray, List.set_cons_zero, List.set_cons_succ]
                              go_big_quiet_want
                              refine ⟨.string ⟨tx.toArray⟩, fun W hW => ?_, ?_⟩
                              · have s1 := HKQ.out W hW
                                go_simp
                              go_big_quiet_on
                              simp only [Act.put, List.setIfInBounds_toArray, List.set_cons_zero, List.set_cons_succ]
                              go_big_quiet_want
                              refine ⟨.bool false, fun W hW => ?_, ?_⟩
                              · go_simp
                              go_big_quiet_on
                              simp only [Act.put, List.setIfInBounds_toArray, List.set_cons_zero, List.set_cons_succ]
                              refine wpQuiet_nil ?_
                              intro z5 hz5
                              clear HTD
                              have HX : Hid (SF wP z5 K NF Gf nb (.slice pb nb cb)) := HR.out.below (bel0 HB2.out.1 hz5)
                              clear HB2 HKQ hz5
                              go_wp2_with fail
                              go_roundw
                              case rel => exact ⟨t + 1, by go_num, by omega, HX⟩
                              case measure => simp [intOf]; omega
                            · have t1 : ¬ (t : Int) < (nl : Int) := by omega
                              clear ht htl
                              go_wp2_with fail
                              go_loopw [27] (fun v27 wh => ∃ k : Nat, v27 = .int .i64 (k : Int) ∧ k ≤ nb ∧ Hid (SF wP wh K NF Gf nb (.slice pb nb cb))) (fun v27 _ => nb - (intOf v27).toNat)
                              case atStart => exact ⟨0, rfl, Nat.zero_le _, HR⟩
                              case round =>
                                clear HR t1
                                rename World => wh
                                obtain ⟨k, rfl, hk, HR⟩ := hrel
                                have HEX : Hid (Below w.heap.size w wh) := (HF.out wh HR.out.be).2
                                by_cases hlt : k < nb
                                · have hHid : True := trivial
                                  have k1 : (k : Int) < (nb : Int) := by omega
                                  have k0 : (0 : Int) ≤ (k : Int) := by omega
                                  obtain ⟨en, he⟩ : ∃ e, K[k]? = some e := ⟨_, List.getElem?_eq_getElem (by rw [HS.out.1]; exact hlt)⟩
                                  have hok := HS.out.2 en (List.mem_of_getElem? he)
                                  obtain ⟨pe, ce, L, sd⟩ := en
                                  obtain ⟨m, hm⟩ : ∃ m, L.length = m := ⟨_, rfl⟩
                                  have hml : m ≤ 2048 := by rw [← hm]; exact hok.1
                                  have HEN : Hid (K[k]? = some ⟨pe, ce, L, sd⟩ ∧ L.length = m) := ⟨he, hm⟩
                                  obtain ⟨xs, hx1, hx2⟩ := HR.out.bo
                                  obtain ⟨gb, rfl⟩ := own_someK hx1 (by rw [HS.out.1]; omega)
                                  obtain ⟨c1, c2, c3, c4⟩ := bk_at hx1 hx2 he
                                  rw [if_pos hlt] at c2
                                  obtain ⟨N2, -, gk⟩ := HR.out.grw k _ he hlt
                                  obtain ⟨q9, c9, hG⟩ := gk.shape
                                  rw [hG] at c2 gk
                                  have hv : (EN.mk pe ce L sd).v = .slice pe m ce := by show Value.slice pe L.length ce = _; rw [hm]
                                  have e5 : (mks k (EN.mk pe ce L sd).L.length ++ mkG k 96).length = m + 96 := by rw [List.length_append, mks_len, mkG_len]; show L.length + 96 = _; rw [hm]
                                  rw [e5] at c2 gk
                                  rw [hv, show (EN.mk pe ce L sd).L.length = m from hm] at gk
                                  rw [show (EN.mk pe ce L sd).L.length = m from hm] at c1
                                  have HW := still_any pe q9 ce c9 k m sd wh gk.rd.1 gk.rd.2 (by omega) (by omega)
                                  clear he hok hm hx1 hx2 gk hG hv e5
                                  go_wp2_with fail
                                  refine HW.mono ?_
                                  rintro e y1 ⟨rfl, hg⟩
                                  have HX : Hid (SF wP y1 K NF Gf nb (.slice (some ⟨gb, 0, none⟩) nb cb)) := HR.out.below hg
                                  clear HW hg c1 c2 c3 c4
                                  go_wp2_with fail
                                  go_roundw
                                  case rel => exact ⟨k + 1, by go_num, by omega, HX⟩
                                  case measure => simp [intOf]; omega
                                · have k1 : ¬ (k : Int) < (nb : Int) := by omega
                                  go_wp2_with fail
                                  go_ret
                                  exact ⟨rfl, HEX.out⟩
end Go.Proofs.YtecgjlpmmailjaaGreatDoor
