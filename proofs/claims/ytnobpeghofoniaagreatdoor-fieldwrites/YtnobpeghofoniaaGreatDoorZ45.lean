import Derived.Test.YtnobpeghofoniaaGreatDoorZ44
namespace Go.Proofs.YtnobpeghofoniaaGreatDoor
open Go.RowKit Go.Shelf
/-- sets that Word takes together -/
def setsB (L S : List IFld) : Prop := S.length ≤ 12 ∧ (∀ s ∈ S, setB L s) ∧ (S.map (·.1)).Nodup
theorem any_take {S : List IFld} {j : Nat} {t : IFld} (y : List UInt8) (h : S[j]? = some t) : (S.take (j + 1)).any (fun s => s.1 == y) = ((S.take j).any (fun s => s.1 == y) || t.1 == y) := by
  rw [List.take_add_one, h, Option.toList_some, List.any_append]
  simp
theorem set_more {L S : List IFld} {k : Nat} {x : List UInt8} {b : Nat} {v : Int} (hf : L[k]? = some (x, (b : Int))) (hs : ∀ s ∈ S, setB L s) (hn : (S.map (·.1)).Nodup) (ha : S.any (fun s => s.1 == x) = false) :
    (∀ s ∈ S ++ [(x, v % ((2 ^ b : Nat) : Int))], setB L s) ∧ ((S ++ [(x, v % ((2 ^ b : Nat) : Int))]).map (·.1)).Nodup := by
  have hp : 0 < 2 ^ b := Nat.pow_pos (by decide)
  obtain ⟨P, hP⟩ : ∃ P, 2 ^ b = P := ⟨_, rfl⟩
  rw [hP] at hp ⊢
  have HP : Hid (2 ^ b = P) := hP
  have hP0 : (P : Int) ≠ 0 := Int.natCast_ne_zero.2 (Nat.ne_of_gt hp)
  have hP1 : (0 : Int) < (P : Int) := Int.natCast_pos.2 hp
  clear hP
  constructor
  · intro s h
    rcases List.mem_append.1 h with h | h
    · exact hs s h
    · rw [List.mem_singleton.1 h]
      refine ⟨k, _, hf, rfl, Int.emod_nonneg _ hP0, ?_⟩
      have h1 := Int.emod_lt_of_pos v hP1
      show v % (P : Int) ≤ ((2 ^ (b : Int).toNat - 1 : Nat) : Int)
      rw [Int.toNat_natCast, HP.out]
      clear HP
      omega
  · rw [List.map_append, List.nodup_append]
    refine ⟨hn, by simp, fun a h1 c h2 e => ?_⟩
    simp only [List.map_cons, List.map_nil, List.mem_singleton] at h2
    obtain ⟨t, ht, rfl⟩ := List.mem_map.1 h1
    have := List.any_eq_false.1 ha t ht
    exact this (by rw [e, h2]; exact beq_self_eq_true x)
set_option maxRecDepth 100000 in
set_option maxHeartbeats 8000000 in
theorem sets_any (L : List IFld) (o : Option Addr) (c : Nat) (ws : List Int) (o1 : Option Addr) (c1 : Nat) (vs : List Int) (o2 : Option Addr) (c2 : Nat) (w : World) (h0 : 0 < L.length) (hL : L.length ≤ 12) (hp : posB L) (hr : IRF w o L) (hr1 : IRV w o1 ws) (hr2 : IRV w o2 vs) :
    Calls Tryz.prog 8 #[.slice o L.length c, .slice o1 ws.length c1, .slice o2 vs.length c2] w fun e w' => ∃ (v : Value) (S : List IFld), e = .returned v ∧ setsB L S ∧ w'.ownsRow w.heap.size 37 2 v S.length (fels S) ∧ Below w.heap.size w w' := by
  obtain ⟨i0, hi, hz0, hz1, hz2⟩ := info_parts info_set
  have HR : Hid (IRF w o L) := hr
  have HR1 : Hid (IRV w o1 ws) := hr1
  have HR2 : Hid (IRV w o2 vs) := hr2
  have HP : Hid (posB L) := hp
  clear hr hr1 hr2 hp
  go_enter Tryz.func8, Tryz.ntmps8
  go_wp2_with fail
  go_loopw [7, 8] (fun v vi wr => ∃ (i : Nat) (S : List IFld), vi = .int .i64 i ∧ i ≤ 12 ∧ S.length ≤ i ∧ Hid (∀ s ∈ S, setB L s) ∧ Hid ((S.map (·.1)).Nodup) ∧ wr.ownsRow w.heap.size 37 2 v S.length (fels S) ∧ Below w.heap.size w wr) (fun _ vi _ => 12 - (intOf vi).toNat)
  case atStart => exact ⟨0, [], rfl, by omega, by simp, fun s h => by simp at h, List.nodup_nil, World.ownsRow_nil _ _ _ _, Below.refl _ _⟩
  case round =>
    obtain ⟨i, S, rfl, hi12, hS, HS, HN, hown, hB⟩ := hrel
    obtain ⟨pv, cv, rfl⟩ := shapeP hown
    by_cases hlt1 : i < ws.length
    · have j1 : (i : Int) < (ws.length : Int) := by omega
      have j0 : (0 : Int) ≤ (i : Int) := by omega
      by_cases hlt2 : i < vs.length
      · have j2 : (i : Int) < (vs.length : Int) := by omega
        by_cases hlt3 : i < 12
        · have j3 : (i : Int) < 12 := by omega
          obtain ⟨a, ha⟩ : ∃ a, ws[i]? = some a := ⟨_, List.getElem?_eq_getElem hlt1⟩
          obtain ⟨y, hy⟩ : ∃ y, vs[i]? = some y := ⟨_, List.getElem?_eq_getElem hlt2⟩
          obtain ⟨g1, q1, rfl, r1⟩ := HR1.out wr hB i a ha
          obtain ⟨g2, q2, rfl, -⟩ := HR2.out wr hB i y hy
          have X2 : Hid (∀ W, Below w.heap.size w W → W.cell? ⟨g2, q2 + i, none⟩ = some (.int .i64 y)) := fun W hW => by
            obtain ⟨g3, q3, e, h⟩ := HR2.out W hW i y hy
            injection e with e
            injection e with e1 e2
            subst e1 e2
            exact h
          have hk0 := Int.emod_nonneg a (show (L.length : Int) ≠ 0 by omega)
          have hk1 := Int.emod_lt_of_pos a (show (0 : Int) < (L.length : Int) by omega)
          obtain ⟨k, hk⟩ : ∃ k : Nat, a % (L.length : Int) = (k : Int) := ⟨(a % (L.length : Int)).toNat, by omega⟩
          have HNR : ∀ W : World, Calls Tryz.prog 14 #[.int .i64 a, .int .i64 (L.length : Int)] W fun e w' => e = .returned (.int .i64 (k : Int)) ∧ w' = W := fun W => by
            rw [← hk]
            exact near_any a (L.length : Int) W (by omega) (by omega)
          rw [hk] at hk0 hk1
          obtain ⟨f, hf⟩ : ∃ f, L[k]? = some f := ⟨_, List.getElem?_eq_getElem (by omega)⟩
          obtain ⟨g, o0, rfl, -⟩ := HR.out wr hB k f hf
          have XF : Hid (∀ W, Below w.heap.size w W → W.cell? ⟨g, o0 + k * 2, none⟩ = some (.string ⟨f.1.toArray⟩) ∧ W.cell? ⟨g, o0 + k * 2 + 1, none⟩ = some (.int .i64 f.2)) := fun W hW => by
            obtain ⟨g3, q3, e, h⟩ := HR.out W hW k f hf
            injection e with e
            injection e with e1 e2
            subst e1 e2
            exact h
          have hbits := HP.out f (List.mem_of_getElem? hf)
          obtain ⟨x, bi⟩ := f
          obtain ⟨b, rfl⟩ : ∃ b : Nat, bi = (b : Int) := ⟨bi.toNat, by simp only at hbits; omega⟩
          simp only at hbits XF
          have HF : Hid (L[k]? = some (x, (b : Int))) := hf
          clear hf ha hy hk
          go_wp2_with fail
          refine (HNR _).mono ?_
          rintro e W3 ⟨rfl, rfl⟩
          go_wp2_with fail
          go_loopw [10, 11] (fun vt vj wi => ∃ (j : Nat) (t : Bool), vj = .int .i64 j ∧ j ≤ S.length ∧ vt = .bool t ∧ Hid (t = (S.take j).any (fun s => s.1 == x)) ∧ wi.ownsRow w.heap.size 37 2 (.slice pv S.length cv) S.length (fels S) ∧ Below w.heap.size w wi) (fun _ vj _ => S.length - (intOf vj).toNat)
          case atStart => exact ⟨0, false, rfl, Nat.zero_le _, rfl, rfl, hown, hB⟩
          case round =>
            clear hown hB r1
            obtain ⟨j, t, rfl, hj, rfl, ht, hown, hB⟩ := hrel
            obtain ⟨z0, z1⟩ := XF.out _ hB
            have hBs := hB.size
            by_cases hjS : j < S.length
            · have k1 : (j : Int) < (S.length : Int) := by omega
              have k0 : (0 : Int) ≤ (j : Int) := by omega
              obtain ⟨u, hu⟩ : ∃ u, S[j]? = some u := ⟨_, List.getElem?_eq_getElem hjS⟩
              have hat := any_take x hu
              rw [← ht.out] at hat
              obtain ⟨g5, rfl⟩ := own_at hown (by omega)
              have c0 := (hown.cellAt (j * 2) (by omega)).trans (fels_at S j u hu).1
              have XS : Hid (∀ W, Below wr.heap.size wr W → W.cell? ⟨g5, j * 2, none⟩ = some (.string ⟨u.1.toArray⟩)) := fun W hW => ((owns_below hown hW).cellAt (j * 2) (by omega)).trans (fels_at S j u hu).1
              clear c0
              cases t with
              | true =>
                have HAT : Hid (true = (S.take (j + 1)).any (fun s => s.1 == x)) := by unfold Hid; rw [hat]; rfl
                clear hat ht hu
                go_wp2_with fail
                refine quiet_lit3 (C := fun W => Below wr.heap.size wr W) (by kernel_rfl) (by kernel_rfl) (show Below _ _ _ from (Below.refl _ _).drew) ?_
                go_big_quiet_want
                go_big_quiet_op
                go_big_quiet_on
                go_big_quiet_want
                go_big_quiet_op
                go_big_quiet_on
                go_big_quiet_skip
                go_big_quiet_skip
                go_big_quiet_skip
                go_big_quiet_skip
                go_big_quiet_skip
                go_big_quiet_skip
                go_big_quiet_skip
                go_big_quiet_skip
                go_big_quiet_skip
                go_big_quiet_skip
                go_big_quiet_skip
                go_big_quiet_want
                refine ⟨.bool true, fun W hW => ?_, ?_⟩
                · go_simp
                go_big_quiet_on
                simp only [Act.put, List.setIfInBounds_toArray, List.set_cons_zero, List.set_cons_succ]
                go_big_quiet_want
                go_big_quiet_op
                go_big_quiet_on
                refine wpQuiet_nil ?_
                intro W hW
                go_wp2_with fail
                go_roundw
                case rel => exact ⟨j + 1, true, by go_num, by omega, rfl, HAT, owns_below hown hW, bel0 hB hW⟩
                case measure => simp [intOf]; omega
              | false =>
                obtain ⟨un, uv⟩ := u
                simp only at XS hat
                by_cases hux : un = x
                · have HAT : Hid (true = (S.take (j + 1)).any (fun s => s.1 == x)) := by unfold Hid; rw [hat, hux, beq_self_eq_true]; rfl
                  subst hux
                  have hne : (un == un) = true := beq_self_eq_true un
                  clear hat ht hu
                  go_wp2_with fail
                  refine quiet_lit3 (C := fun W => Below wr.heap.size wr W) (by kernel_rfl) (by kernel_rfl) (show Below _ _ _ from (Below.refl _ _).drew) ?_
                  go_big_quiet_want
                  go_big_quiet_op
                  go_big_quiet_on
                  go_big_quiet_want
                  go_big_quiet_op
                  go_big_quiet_on
                  go_big_quiet_want
                  go_big_quiet_op
                  go_big_quiet_on
                  go_big_quiet_want
                  go_big_quiet_op
                  go_big_quiet_on
                  go_big_quiet_want
                  refine ⟨.pointer (some ⟨g5, j * 2, none⟩), fun W hW => ?_, ?_⟩
                  · go_simp
                  go_big_quiet_on
                  simp only [Act.put, List.setIfInBounds_toArray, List.set_cons_zero, List.set_cons_succ]
                  go_big_quiet_want
                  refine ⟨.pointer (some ⟨g5, j * 2, none⟩), fun W hW => ?_, ?_⟩
                  · go_simp
                  go_big_quiet_on
                  simp only [Act.put, List.setIfInBounds_toArray, List.set_cons_zero, List.set_cons_succ]
                  go_big_quiet_want
                  refine ⟨.string ⟨un.toArray⟩, fun W hW => ?_, ?_⟩
                  · have z5 := XS.out W hW
                    go_simp
                  go_big_quiet_on
                  simp only [Act.put, List.setIfInBounds_toArray, List.set_cons_zero, List.set_cons_succ]
                  go_big_quiet_want
                  go_big_quiet_op
                  go_big_quiet_on
                  go_big_quiet_want
                  go_big_quiet_op
                  go_big_quiet_on
                  go_big_quiet_want
                  refine ⟨.pointer (some ⟨g, o0 + k * 2, none⟩), fun W hW => ?_, ?_⟩
                  · go_simp
                  go_big_quiet_on
                  simp only [Act.put, List.setIfInBounds_toArray, List.set_cons_zero, List.set_cons_succ]
                  go_big_quiet_want
                  refine ⟨.pointer (some ⟨g, o0 + k * 2, none⟩), fun W hW => ?_, ?_⟩
                  · go_simp
                  go_big_quiet_on
                  simp only [Act.put, List.setIfInBounds_toArray, List.set_cons_zero, List.set_cons_succ]
                  go_big_quiet_want
                  refine ⟨.string ⟨un.toArray⟩, fun W hW => ?_, ?_⟩
                  · obtain ⟨z6, z7⟩ := XF.out W (bel0 hB hW)
                    go_simp
                  go_big_quiet_on
                  simp only [Act.put, List.setIfInBounds_toArray, List.set_cons_zero, List.set_cons_succ]
                  go_big_quiet_want
                  refine ⟨.bool true, fun W hW => ?_, ?_⟩
                  · go_simp
                  go_big_quiet_on
                  simp only [Act.put, List.setIfInBounds_toArray, List.set_cons_zero, List.set_cons_succ]
                  go_big_quiet_want
                  refine ⟨.bool true, fun W hW => ?_, ?_⟩
                  · go_simp
                  go_big_quiet_on
                  simp only [Act.put, List.setIfInBounds_toArray, List.set_cons_zero, List.set_cons_succ]
                  go_big_quiet_want
                  go_big_quiet_op
                  go_big_quiet_on
                  refine wpQuiet_nil ?_
                  intro W hW
                  go_wp2_with fail
                  go_roundw
                  case rel => exact ⟨j + 1, true, by go_num, by omega, rfl, HAT, owns_below hown hW, bel0 hB hW⟩
                  case measure => simp [intOf]; omega
                · have HAT : Hid (false = (S.take (j + 1)).any (fun s => s.1 == x)) := by unfold Hid; rw [hat, beq_eq_false_iff_ne.2 hux]; rfl
                  have hne : (un == x) = false := beq_eq_false_iff_ne.2 hux
                  clear hat ht hu
                  go_wp2_with fail
                  refine quiet_lit3 (C := fun W => Below wr.heap.size wr W) (by kernel_rfl) (by kernel_rfl) (show Below _ _ _ from (Below.refl _ _).drew) ?_
                  go_big_quiet_want
                  go_big_quiet_op
                  go_big_quiet_on
                  go_big_quiet_want
                  go_big_quiet_op
                  go_big_quiet_on
                  go_big_quiet_want
                  go_big_quiet_op
                  go_big_quiet_on
                  go_big_quiet_want
                  go_big_quiet_op
                  go_big_quiet_on
                  go_big_quiet_want
                  refine ⟨.pointer (some ⟨g5, j * 2, none⟩), fun W hW => ?_, ?_⟩
                  · go_simp
                  go_big_quiet_on
                  simp only [Act.put, List.setIfInBounds_toArray, List.set_cons_zero, List.set_cons_succ]
                  go_big_quiet_want
                  refine ⟨.pointer (some ⟨g5, j * 2, none⟩), fun W hW => ?_, ?_⟩
                  · go_simp
                  go_big_quiet_on
                  simp only [Act.put, List.setIfInBounds_toArray, List.set_cons_zero, List.set_cons_succ]
                  go_big_quiet_want
                  refine ⟨.string ⟨un.toArray⟩, fun W hW => ?_, ?_⟩
                  · have z5 := XS.out W hW
                    go_simp
                  go_big_quiet_on
                  simp only [Act.put, List.setIfInBounds_toArray, List.set_cons_zero, List.set_cons_succ]
                  go_big_quiet_want
                  go_big_quiet_op
                  go_big_quiet_on
                  go_big_quiet_want
                  go_big_quiet_op
                  go_big_quiet_on
                  go_big_quiet_want
                  refine ⟨.pointer (some ⟨g, o0 + k * 2, none⟩), fun W hW => ?_, ?_⟩
                  · go_simp
                  go_big_quiet_on
                  simp only [Act.put, List.setIfInBounds_toArray, List.set_cons_zero, List.set_cons_succ]
                  go_big_quiet_want
                  refine ⟨.pointer (some ⟨g, o0 + k * 2, none⟩), fun W hW => ?_, ?_⟩
                  · go_simp
                  go_big_quiet_on
                  simp only [Act.put, List.setIfInBounds_toArray, List.set_cons_zero, List.set_cons_succ]
                  go_big_quiet_want
                  refine ⟨.string ⟨x.toArray⟩, fun W hW => ?_, ?_⟩
                  · obtain ⟨z6, z7⟩ := XF.out W (bel0 hB hW)
                    go_simp
                  go_big_quiet_on
                  simp only [Act.put, List.setIfInBounds_toArray, List.set_cons_zero, List.set_cons_succ]
                  go_big_quiet_want
                  refine ⟨.bool false, fun W hW => ?_, ?_⟩
                  · go_simp
                  go_big_quiet_on
                  simp only [Act.put, List.setIfInBounds_toArray, List.set_cons_zero, List.set_cons_succ]
                  go_big_quiet_want
                  refine ⟨.bool false, fun W hW => ?_, ?_⟩
                  · go_simp
                  go_big_quiet_on
                  simp only [Act.put, List.setIfInBounds_toArray, List.set_cons_zero, List.set_cons_succ]
                  go_big_quiet_want
                  go_big_quiet_op
                  go_big_quiet_on
                  refine wpQuiet_nil ?_
                  intro W hW
                  go_wp2_with fail
                  go_roundw
                  case rel => exact ⟨j + 1, false, by go_num, by omega, rfl, HAT, owns_below hown hW, bel0 hB hW⟩
                  case measure => simp [intOf]; omega
            · have k1 : ¬ (j : Int) < (S.length : Int) := by omega
              have hall : t = S.any (fun s => s.1 == x) := by rw [ht.out, List.take_of_length_le (by omega)]
              cases t with
              | true =>
                clear hall ht
                go_wp2_with fail
                go_roundw
                case rel => exact ⟨i + 1, S, by go_num, by omega, by omega, HS, HN, hown, hB⟩
                case measure => simp [intOf]; omega
              | false =>
                obtain ⟨m1, m2⟩ := set_more (v := y) HF.out HS.out HN.out hall.symm
                have hp2 : 2 ^ b ≤ 2 ^ 32 := Nat.pow_le_pow_right (by decide) (by omega)
                have hp0 : 0 < 2 ^ b := Nat.pow_pos (by decide)
                have e1 : IntKind.i64.wrap ((2 : Int) ^ b) = ((2 ^ b : Nat) : Int) := by rw [pow_cast, IntKind.wrap_i64]; omega
                obtain ⟨P, hP⟩ : ∃ P : Nat, 2 ^ b = P := ⟨_, rfl⟩
                rw [hP] at e1 hp0 hp2 m1 m2
                have hPa : (0 : Int) < (P : Int) := Int.natCast_pos.2 hp0
                have hPb : (P : Int) ≤ 4294967296 := Int.ofNat_le.2 hp2
                clear hP hp0 hp2
                have s0 : (0 : Int) ≤ (b : Int) := by omega
                have s1 : (b : Int) < 64 := by omega
                have z2 := X2.out _ hB
                obtain ⟨r, hr⟩ : ∃ r, y % (P : Int) = r := ⟨_, rfl⟩
                rw [hr] at m1 m2
                have HNV : ∀ W : World, Calls Tryz.prog 14 #[.int .i64 y, .int .i64 (P : Int)] W fun e w' => e = .returned (.int .i64 r) ∧ w' = W := fun W => by
                  rw [← hr]
                  exact near_any y (P : Int) W hPa hPb
                have M1 : Hid (∀ s ∈ S ++ [(x, r)], setB L s) := m1
                have M2 : Hid (((S ++ [(x, r)]).map (·.1)).Nodup) := m2
                have HL1 : Hid ((S ++ [(x, r)]).length = S.length + 1) := by unfold Hid; simp
                have HE : Hid (fels (S ++ [(x, r)]) = fels S ++ fcel (x, r)) := fels_snoc S (x, r)
                have hownd : wr.drew.ownsRow w.heap.size 37 2 (.slice pv S.length cv) S.length (fels S) := owns_below hown (Below.refl _ _).drew
                clear hall ht hr m1 m2
                go_wp2_with fail
                go_region_law ((first | (refine step_append_lies _ (by rfl) _ _ 25 (by rfl) w.heap.size 37 i0 _ 2 24 Tryz.underlying25 hi hz0 hz1 hz2 rfl (by decide) _ S.length (fels S) (by rfl) (by first | exact hownd.alloc _ | exact hown.alloc _) ⟨wr.heap.size, 0, none⟩ 1 1 (fcel (x, r)) (by rfl) rfl (World.news_of_block (cs := #[.string ⟨x.toArray⟩, .int .i64 r]) (t := 37) (fr := (0, 0)) (heap_alloc_new _ _)) (by simp [fcel, Value.oneCell']) (by decide) (by unfold maxLen; omega) (by omega) (by simp; omega) _ rfl ?_; intro g5 c5 w5 oB hg5 _ _) | (go_simp; go_at_call 14; refine (HNV _).mono ?_; rintro e w1 ⟨rfl, rfl⟩)))
                all_goals
                  go_wp2_with fail
                  go_roundw
                  case rel => exact ⟨i + 1, S ++ [(x, r)], by go_num, by omega, by rw [HL1.out]; omega, M1, M2, by rw [HL1.out, HE.out]; exact oB, (by first | exact Below.grown ((hB.alloc hBs _).drew) hg5 (by simp; omega) (fun k e => (hown.lt k e).1) | exact Below.grown ((hB.drew).alloc hBs _) hg5 (by simp; omega) (fun k e => (hown.lt k e).1))⟩
                  case measure => simp [intOf]; omega
        · have j3 : ¬ (i : Int) < 12 := by omega
          have HO : Hid (wr.ownsRow w.heap.size 37 2 (.slice pv S.length cv) S.length (fels S)) := hown
          clear hown
          go_wp2_with fail
          go_ret
          exact ⟨_, rfl, S, ⟨by omega, HS.out, HN.out⟩, HO.out, hB⟩
      · have j2 : ¬ (i : Int) < (vs.length : Int) := by omega
        have HO : Hid (wr.ownsRow w.heap.size 37 2 (.slice pv S.length cv) S.length (fels S)) := hown
        clear hown
        go_wp2_with fail
        go_ret
        exact ⟨_, rfl, S, ⟨by omega, HS.out, HN.out⟩, HO.out, hB⟩
    · have j1 : ¬ (i : Int) < (ws.length : Int) := by omega
      have HO : Hid (wr.ownsRow w.heap.size 37 2 (.slice pv S.length cv) S.length (fels S)) := hown
      clear hown
      go_wp2_with fail
      go_ret
      exact ⟨_, rfl, S, ⟨by omega, HS.out, HN.out⟩, HO.out, hB⟩
end Go.Proofs.YtnobpeghofoniaaGreatDoor
