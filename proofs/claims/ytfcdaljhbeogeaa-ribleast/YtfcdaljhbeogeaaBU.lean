import Derived.Test.YtfcdaljhbeogeaaBT
namespace Go.Proofs.Ytfcdaljhbeogeaa
open Go.RowKit
set_option maxRecDepth 100000 in
set_option maxHeartbeats 2000000 in
theorem copied_own (L : List IRt) (o : Option Addr) (c : Nat) (w : World) (hL : L.length ≤ 270) (hr : IRR w o L) :
    Calls Try.prog 15 #[.slice o L.length c] w fun e w' => ∃ g c' : Nat, e = .returned (.slice (some ⟨g, 0, none⟩) L.length c') ∧ L.length + 2 ≤ c' ∧ w'.ownsRow w.heap.size 59 4 (.slice (some ⟨g, 0, none⟩) (L.length + 2) c') (L.length + 2) (rels (L ++ [(91, 0, 0, 0), (92, 0, 0, 0)])) ∧ Below w.heap.size w w' := by
  obtain ⟨i0, hi, hz0, hz1, hz2⟩ := info_parts info_rt
  have hlr := rels_len L
  cases o with
  | none =>
    have h0 : L = [] := by
      cases L with
      | nil => rfl
      | cons r L =>
        obtain ⟨g, o0, e, -⟩ := hr w (Below.refl _ _) 0 r rfl
        cases e
    subst h0
    show Calls Try.prog 15 #[.slice none 0 c] w _
    go_enter Try.func15, Try.ntmps15
    go_wp2_with (at_builtin; refine wpList_append_own _ rfl _ _ 36 rfl w.heap.size 59 i0 _ 4 32 Try.underlying36 hi hz0 hz1 hz2 rfl (by decide) _ _ _ rfl (World.ownsRow_nil _ _ _ _) ⟨_, 0, none⟩ 2 2 [.int .i64 91, .int .i64 0, .int .i64 0, .int .i64 0, .int .i64 92, .int .i64 0, .int .i64 0, .int .i64 0] rfl rfl (World.news_of_block (cs := #[.int .i64 91, .int .i64 0, .int .i64 0, .int .i64 0, .int .i64 92, .int .i64 0, .int .i64 0, .int .i64 0]) (t := 59) (fr := (0, 0)) (alloc_get _ _)) (by simp [Value.oneCell']) (by unfold maxLen; omega) (by omega) (by simp) ?_; intro v6 w6 oB hg6 _; obtain ⟨p6, c6, rfl⟩ := shapeP oB; obtain ⟨g6, rfl⟩ := rown_at oB (by omega); have hc6 := rown_cap oB; have k1 : (0 : Int) ≤ (c6 : Int) := by omega)
    go_ret
    refine ⟨g6, c6, rfl, by simpa using hc6, ?_, ?_⟩
    · exact oB
    · exact ((Below.refl w.heap.size w).alloc (Nat.le_refl _) _).grown hg6 (by simp) (fun k e => by cases e)
  | some ad =>
    have HNW : Hid (∀ (j : Nat) (u : Value), (rels L)[j]? = some u → w.cell? (ad.add j) = some u) := fun j u h => by
      cases L with
      | nil => simp [rels] at h
      | cons r L =>
        obtain ⟨g, o0, e, -⟩ := hr w (Below.refl _ _) 0 r rfl
        injection e with e
        subst e
        have := rels_news hr j u h
        unfold Addr.add
        split
        · rename_i e
          subst e
          simpa using this
        · exact this
    have HON : Hid (∀ u ∈ rels L, u.oneCell' = true) := rels_one
    obtain ⟨n, hn⟩ : ∃ n, L.length = n := ⟨_, rfl⟩
    rw [hn] at hlr hL ⊢
    clear hr hn
    obtain ⟨v0, hv0⟩ : ∃ v0, Value.slice none 0 0 = v0 := ⟨_, rfl⟩
    have oZ : w.ownsRow w.heap.size 59 4 v0 0 [] := by rw [← hv0]; exact World.ownsRow_nil _ _ _ _
    go_enter Try.func15, Try.ntmps15
    go_upto_region 2 with fail
    simp only [hv0]
    clear hv0
    go_wp2_with (at_builtin; first | (have chk := oA; refine wpList_append_own _ rfl _ _ 36 rfl w.heap.size 59 i0 _ 4 32 Try.underlying36 hi hz0 hz1 hz2 rfl (by decide) _ _ _ rfl (oA.alloc _) ⟨_, 0, none⟩ 2 2 [.int .i64 91, .int .i64 0, .int .i64 0, .int .i64 0, .int .i64 92, .int .i64 0, .int .i64 0, .int .i64 0] rfl rfl (World.news_of_block (cs := #[.int .i64 91, .int .i64 0, .int .i64 0, .int .i64 0, .int .i64 92, .int .i64 0, .int .i64 0, .int .i64 0]) (t := 59) (fr := (0, 0)) (alloc_get _ _)) (by simp [Value.oneCell']) (by unfold maxLen; omega) (by omega) (by have := hg5.size; simp; omega) ?_; intro v6 w6 oB hg6 _; obtain ⟨p6, c6, rfl⟩ := shapeP oB; obtain ⟨g6, rfl⟩ := rown_at oB (by omega); have hc6 := rown_cap oB; have k1 : (n : Int) ≤ (c6 : Int) := by omega) | (refine wpList_append_own _ rfl _ _ 36 rfl w.heap.size 59 i0 _ 4 32 Try.underlying36 hi hz0 hz1 hz2 rfl (by decide) _ 0 [] rfl oZ ad n c (rels L) rfl hlr HNW.out HON.out (by unfold maxLen; omega) (by omega) (Nat.le_refl _) ?_; intro v5 w5 oA hg5 _))
    have hB5 : Below w.heap.size w w5 := (Below.refl _ _).grown hg5 (Nat.le_refl _) (fun k e => (oZ.lt k e).1)
    go_ret
    rw [List.nil_append, Nat.zero_add] at oB
    refine ⟨g6, c6, rfl, by omega, ?_, ?_⟩
    · rw [rels_app]
      exact oB
    · exact (hB5.alloc hB5.size _).grown hg6 (by have := hg5.size; simp; omega) (fun k e => (oA.lt k e).1)
theorem IRR_of_own {W : World} {B n c : Nat} {o : Option Addr} {L : List IRt} (h : W.ownsRow B 59 4 (.slice o n c) n (rels L)) : IRR W o L := by
  have hl : L.length = n := by
    have := h.1
    rw [rels_len] at this
    omega
  cases L with
  | nil => exact fun W' _ k r hr => by simp at hr
  | cons r L =>
    obtain ⟨g, rfl⟩ := rown_at h (by rw [← hl]; simp)
    exact IRR_own h
theorem IRR_pre {W : World} {o : Option Addr} {L M : List IRt} (h : IRR W o (L ++ M)) : IRR W o L := fun W' hW k r hr => h W' hW k r (by rw [List.getElem?_append_left (List.getElem?_eq_some_iff.1 hr).1]; exact hr)
theorem rels_upd (K : List IRt) (i : Nat) (t : IRt) (z : Int) (ht : K[i]? = some t) : (rels K).set (i * 4 + 3) (.int .i64 z) = rels (K.set i (t.1, t.2.1, t.2.2.1, z)) := by
  have hl := rels_len K
  have hi := (List.getElem?_eq_some_iff.1 ht).1
  apply List.ext_getElem?
  intro j
  obtain ⟨q, m, rfl, hm⟩ : ∃ q m, j = q * 4 + m ∧ m < 4 := ⟨j / 4, j % 4, by omega, by omega⟩
  rw [rels_get _ q m hm]
  by_cases hq : q = i
  · subst hq
    rw [List.getElem?_set_self hi]
    rcases (show m = 0 ∨ m = 1 ∨ m = 2 ∨ m = 3 by omega) with rfl | rfl | rfl | rfl
    · rw [List.getElem?_set_ne (by omega), rels_get K q 0 hm, ht]; rfl
    · rw [List.getElem?_set_ne (by omega), rels_get K q 1 hm, ht]; rfl
    · rw [List.getElem?_set_ne (by omega), rels_get K q 2 hm, ht]; rfl
    · rw [List.getElem?_set_self (by omega)]; rfl
  · rw [List.getElem?_set_ne (by omega), List.getElem?_set_ne (fun e => hq e.symm), rels_get K q m hm]
theorem rels_set4 (K : List IRt) (i : Nat) (t : IRt) (hi : i < K.length) : ((((rels K).set (i * 4) (.int .i64 t.1)).set (i * 4 + 1) (.int .i64 t.2.1)).set (i * 4 + 2) (.int .i64 t.2.2.1)).set (i * 4 + 3) (.int .i64 t.2.2.2) = rels (K.set i t) := by
  have hl := rels_len K
  apply List.ext_getElem?
  intro j
  obtain ⟨q, m, rfl, hm⟩ : ∃ q m, j = q * 4 + m ∧ m < 4 := ⟨j / 4, j % 4, by omega, by omega⟩
  rw [rels_get _ q m hm]
  by_cases hq : q = i
  · subst hq
    rw [List.getElem?_set_self hi]
    rcases (show m = 0 ∨ m = 1 ∨ m = 2 ∨ m = 3 by omega) with rfl | rfl | rfl | rfl
    · rw [List.getElem?_set_ne (by omega), List.getElem?_set_ne (by omega), List.getElem?_set_ne (by omega)]
      show ((rels K).set (q * 4) _)[q * 4]? = _
      rw [List.getElem?_set_self (by omega)]; rfl
    · rw [List.getElem?_set_ne (by omega), List.getElem?_set_ne (by omega), List.getElem?_set_self (by simp; omega)]; rfl
    · rw [List.getElem?_set_ne (by omega), List.getElem?_set_self (by simp; omega)]; rfl
    · rw [List.getElem?_set_self (by simp; omega)]; rfl
  · rw [List.getElem?_set_ne (by omega), List.getElem?_set_ne (by omega), List.getElem?_set_ne (by omega), List.getElem?_set_ne (by omega), List.getElem?_set_ne (fun e => hq e.symm), rels_get K q m hm]
def putr (W : World) (g i : Nat) (t : IRt) : World := (((W.setCell ⟨g, i * 4, none⟩ (.int .i64 t.1)).setCell ⟨g, i * 4 + 1, none⟩ (.int .i64 t.2.1)).setCell ⟨g, i * 4 + 2, none⟩ (.int .i64 t.2.2.1)).setCell ⟨g, i * 4 + 3, none⟩ (.int .i64 t.2.2.2)
theorem gr_tr {a b c : World} {r : Option Nat} (h1 : a.grownBy b r) (h2 : b.grownBy c r) : a.grownBy c r :=
  ⟨h2.os.trans h1.os, h2.tape.trans h1.tape, h2.output.trans h1.output, Nat.le_trans h1.size h2.size, fun k hk hr => (h2.block k (Nat.lt_of_lt_of_le hk h1.size) hr).trans (h1.block k hk hr)⟩
theorem putr_own {W : World} {B g n c i : Nat} {K : List IRt} (t : IRt) (h : W.ownsRow B 59 4 (.slice (some ⟨g, 0, none⟩) n c) n (rels K)) (hi : i < K.length) : (putr W g i t).ownsRow B 59 4 (.slice (some ⟨g, 0, none⟩) n c) n (rels (K.set i t)) ∧ W.grownBy (putr W g i t) (some g) := by
  have s0 := h.stored (i * 4) (.int .i64 t.1)
  have s1 := s0.1.stored (i * 4 + 1) (.int .i64 t.2.1)
  have s2 := s1.1.stored (i * 4 + 2) (.int .i64 t.2.2.1)
  have s3 := s2.1.stored (i * 4 + 3) (.int .i64 t.2.2.2)
  rw [← rels_set4 K i t hi]
  exact ⟨s3.1, gr_tr s0.2 (gr_tr s1.2 (gr_tr s2.2 s3.2))⟩
/-- the first i have the outs of those from the end -/
def chg (L : List IRt) : Nat → List IRt
  | 0 => L
  | i + 1 => (chg L i).set i ((L.getD i (0, 0, 0, 0)).1, (L.getD i (0, 0, 0, 0)).2.1, (L.getD i (0, 0, 0, 0)).2.2.1, (L.getD (L.length - 1 - i) (0, 0, 0, 0)).2.2.2)
theorem chg_len (L : List IRt) : ∀ i, (chg L i).length = L.length
  | 0 => rfl
  | i + 1 => by rw [chg, List.length_set, chg_len L i]
theorem chg_at (L : List IRt) : ∀ i j, i ≤ j → (chg L i)[j]? = L[j]?
  | 0, _, _ => rfl
  | i + 1, j, h => by rw [chg, List.getElem?_set_ne (by omega), chg_at L i j (by omega)]
set_option maxRecDepth 100000 in
set_option maxHeartbeats 2000000 in
theorem changed_any (L : List IRt) (o : Option Addr) (c : Nat) (w : World) (hL : L.length ≤ 270) (hr : IRR w o L) :
    Calls Try.prog 20 #[.slice o L.length c] w fun e w' => ∃ v : Value, e = .returned v ∧ w'.ownsRow w.heap.size 59 4 v L.length (rels (chg L L.length)) ∧ Below w.heap.size w w' := by
  obtain ⟨i0, hi, hz0, hz1, hz2⟩ := info_parts info_rt
  have hlr := rels_len L
  cases o with
  | none =>
    have h0 : L = [] := by
      cases L with
      | nil => rfl
      | cons r L =>
        obtain ⟨g, o0, e, -⟩ := hr w (Below.refl _ _) 0 r rfl
        cases e
    subst h0
    show Calls Try.prog 20 #[.slice none 0 c] w _
    go_enter Try.func20, Try.ntmps20
    go_wp2_with fail
    go_loopw [4] (fun v4 wr => v4 = .int .i64 0 ∧ wr = w) (fun _ _ => 0)
    case atStart => exact ⟨rfl, rfl⟩
    case round =>
      obtain ⟨rfl, rfl⟩ := hrel
      go_wp2_with fail
      go_ret
      exact ⟨_, rfl, World.ownsRow_nil _ _ _ _, Below.refl _ _⟩
  | some ad =>
    have HI : Hid (IRR w (some ad) L) := hr
    have HNW : Hid (∀ (j : Nat) (u : Value), (rels L)[j]? = some u → w.cell? (ad.add j) = some u) := fun j u h => by
      cases L with
      | nil => simp [rels] at h
      | cons r L =>
        obtain ⟨g, o0, e, -⟩ := hr w (Below.refl _ _) 0 r rfl
        injection e with e
        subst e
        have := rels_news hr j u h
        unfold Addr.add
        split
        · rename_i e
          subst e
          simpa using this
        · exact this
    have HON : Hid (∀ u ∈ rels L, u.oneCell' = true) := rels_one
    obtain ⟨n, hn⟩ : ∃ n, L.length = n := ⟨_, rfl⟩
    have HN : Hid (L.length = n) := hn
    rw [hn] at hlr hL ⊢
    clear hr hn
    obtain ⟨v0, hv0⟩ : ∃ v0, Value.slice none 0 0 = v0 := ⟨_, rfl⟩
    have oZ : w.ownsRow w.heap.size 59 4 v0 0 [] := by rw [← hv0]; exact World.ownsRow_nil _ _ _ _
    go_enter Try.func20, Try.ntmps20
    go_upto_region 2 with fail
    simp only [hv0]
    clear hv0
    go_wp2_with (at_builtin; refine wpList_append_own _ rfl _ _ 36 rfl w.heap.size 59 i0 _ 4 32 Try.underlying36 hi hz0 hz1 hz2 rfl (by decide) _ 0 [] rfl oZ ad n c (rels L) rfl hlr HNW.out HON.out (by unfold maxLen; omega) (by omega) (Nat.le_refl _) ?_; intro v5 w5 oA hg5 _)
    have hB5 : Below w.heap.size w w5 := (Below.refl _ _).grown hg5 (Nat.le_refl _) (fun k e => (oZ.lt k e).1)
    rw [Nat.zero_add, List.nil_append] at oA
    have HA : Hid (w5.ownsRow w.heap.size 59 4 v5 n (rels L)) := oA
    clear oA hg5 oZ HNW HON hlr
    go_loopw [4] (fun vi wr => ∃ i : Nat, vi = .int .i64 (i : Int) ∧ i ≤ n ∧ Hid (wr.ownsRow w.heap.size 59 4 v5 n (rels (chg L i))) ∧ Below w.heap.size w wr) (fun vi _ => n - (intOf vi).toNat)
    case atStart => exact ⟨0, rfl, Nat.zero_le _, HA, hB5⟩
    case round =>
      obtain ⟨i, rfl, hin, hO, hB⟩ := hrel
      clear HA hB5
      by_cases hlt : i < n
      · have j1 : (i : Int) < (n : Int) := by omega
        have j0 : (0 : Int) ≤ (i : Int) := by omega
        obtain ⟨k, hk⟩ : ∃ k, n - 1 - i = k := ⟨_, rfl⟩
        have ek : (n : Int) - 1 - (i : Int) = (k : Int) := by omega
        have j2 : (0 : Int) ≤ (k : Int) := by omega
        have j3 : (k : Int) < (n : Int) := by omega
        obtain ⟨t, ht⟩ : ∃ t, L[k]? = some t := ⟨_, List.getElem?_eq_getElem (by rw [HN.out]; omega)⟩
        obtain ⟨x, hx⟩ : ∃ x, L[i]? = some x := ⟨_, List.getElem?_eq_getElem (by rw [HN.out]; omega)⟩
        obtain ⟨g, o0, e, -, -, -, p3⟩ := HI.out wr hB k t ht
        injection e with e
        subst e
        obtain ⟨g5, c5, rfl⟩ := rown_form hO.out (by omega)
        have hxc : (chg L i)[i]? = some x := (chg_at L i i (Nat.le_refl _)).trans hx
        have q3 := (rel_at hO.out hxc).2.2.2
        have z3 := hO.out.frozenAt (i * 4 + 3)
        have hst := hO.out.stored (i * 4 + 3) (.int .i64 t.2.2.2)
        have ech : (rels (chg L i)).set (i * 4 + 3) (.int .i64 t.2.2.2) = rels (chg L (i + 1)) := by
          rw [rels_upd _ _ _ _ hxc, chg]
          rw [show L.getD i (0, 0, 0, 0) = x by simp [List.getD, hx], HN.out, hk, show L.getD k (0, 0, 0, 0) = t by simp [List.getD, ht]]
        rw [ech] at hst
        have HST : Hid ((wr.setCell ⟨g5, i * 4 + 3, none⟩ (.int .i64 t.2.2.2)).ownsRow w.heap.size 59 4 (.slice (some ⟨g5, 0, none⟩) n c5) n (rels (chg L (i + 1))) ∧ Below w.heap.size w (wr.setCell ⟨g5, i * 4 + 3, none⟩ (.int .i64 t.2.2.2))) := ⟨hst.1, hB.grown hst.2 hB.size (fun k e => (hO.out.lt k e).1)⟩
        obtain ⟨t0, t1, t2, t3⟩ := t
        simp only at p3 HST
        clear hst ech hxc hx ht hO
        go_wp2_with fail
        go_roundw
        case rel => exact ⟨i + 1, by go_num, by omega, HST.out.1, HST.out.2⟩
        case measure => simp [intOf]; omega
      · have j1 : ¬ (i : Int) < (n : Int) := by omega
        obtain rfl : i = n := by omega
        go_wp2_with fail
        go_ret
        exact ⟨_, rfl, hO.out, hB⟩
set_option maxRecDepth 100000 in
set_option maxHeartbeats 2000000 in
theorem lay_any {W : World} {B g n c c' : Nat} {K M D : List IRt} {vm : Value} (hn : n ≤ 270) (hK : K.length = n) (hD : D.length = n) (h : W.ownsRow B 59 4 (.slice (some ⟨g, 0, none⟩) (n + 2) c) (n + 2) (rels (K ++ M))) {Bm : Nat} (hm : W.ownsRow Bm 59 4 vm n (rels D)) (hne : ∀ k, vm.ownBlock = some k → k ≠ g) :
    Calls Try.prog 21 #[.slice (some ⟨g, 0, none⟩) n c', vm] W fun e w' => e = .returned (.tuple #[]) ∧ w'.ownsRow B 59 4 (.slice (some ⟨g, 0, none⟩) (n + 2) c) (n + 2) (rels (D ++ M)) ∧ W.grownBy w' (some g) := by
  have H0 : Hid (W.ownsRow B 59 4 (.slice (some ⟨g, 0, none⟩) (n + 2) c) (n + 2) (rels (K ++ M))) := h
  have HM : Hid (∀ w', W.grownBy w' (some g) → w'.ownsRow Bm 59 4 vm n (rels D)) := fun w' hg => hm.kept hg (by
    cases e : vm.ownBlock with
    | none => exact .inl rfl
    | some k => exact .inr (fun e2 => hne k e (by injection e2)))
  have HD : Hid (D.length = n ∧ K.length = n) := ⟨hD, hK⟩
  obtain ⟨qm, cm, rfl⟩ := shapeP hm
  clear h hne hD hK hm
  go_enter Try.func21, Try.ntmps21
  go_wp2_with fail
  go_loopw [4] (fun vi wr => ∃ i : Nat, vi = .int .i64 (i : Int) ∧ i ≤ n ∧ Hid (wr.ownsRow B 59 4 (.slice (some ⟨g, 0, none⟩) (n + 2) c) (n + 2) (rels ((D.take i ++ K.drop i) ++ M)) ∧ W.grownBy wr (some g))) (fun vi _ => n - (intOf vi).toNat)
  case atStart => exact ⟨0, rfl, Nat.zero_le _, by simpa using H0.out, grown_of_below (Below.refl _ _) _⟩
  case round =>
    obtain ⟨i, rfl, hin, hO⟩ := hrel
    clear H0
    by_cases hlt : i < n
    · have j1 : (i : Int) < (n : Int) := by omega
      have j0 : (0 : Int) ≤ (i : Int) := by omega
      obtain ⟨t, ht⟩ : ∃ t, D[i]? = some t := ⟨_, List.getElem?_eq_getElem (by rw [HD.out.1]; omega)⟩
      obtain ⟨x, hx⟩ : ∃ x, K[i]? = some x := ⟨_, List.getElem?_eq_getElem (by rw [HD.out.2]; omega)⟩
      have hmr := HM.out wr hO.out.2
      obtain ⟨gm, rfl⟩ := rown_at hmr (by omega)
      obtain ⟨p0, p1, p2, p3⟩ := rel_at hmr ht
      have hlen : (D.take i ++ K.drop i).length = n := by rw [List.length_append, List.length_take, List.length_drop, HD.out.1, HD.out.2]; omega
      have hxi : ((D.take i ++ K.drop i) ++ M)[i]? = some x := by
        rw [List.getElem?_append_left (by omega), List.getElem?_append_right (by rw [List.length_take, HD.out.1]; omega), List.length_take, HD.out.1, Nat.min_eq_left hin, Nat.sub_self, List.getElem?_drop, Nat.add_zero]
        exact hx
      obtain ⟨q0, q1, q2, q3⟩ := rel_at hO.out.1 hxi
      have hz := fun j => hO.out.1.frozenAt j
      have hp := putr_own (i := i) t hO.out.1 (by rw [List.length_append, hlen]; omega)
      have es : ((D.take i ++ K.drop i) ++ M).set i t = (D.take (i + 1) ++ K.drop (i + 1)) ++ M := by
        rw [List.set_append_left _ _ (by omega), List.set_append_right _ _ (by rw [List.length_take, HD.out.1]; omega), List.length_take, HD.out.1, Nat.min_eq_left hin, Nat.sub_self, List.drop_eq_getElem_cons (by rw [HD.out.2]; omega), List.set_cons_zero, List.take_add_one, ht]
        simp
      rw [es] at hp
      have HP : Hid ((putr wr g i t).ownsRow B 59 4 (.slice (some ⟨g, 0, none⟩) (n + 2) c) (n + 2) (rels ((D.take (i + 1) ++ K.drop (i + 1)) ++ M)) ∧ W.grownBy (putr wr g i t) (some g)) := ⟨hp.1, gr_tr hO.out.2 hp.2⟩
      obtain ⟨t0, t1, t2, t3⟩ := t
      simp only at p0 p1 p2 p3
      clear hp es hxi hlen hx ht hmr hO
      go_wp2_with fail
      go_roundw
      case rel => exact ⟨i + 1, by go_num, by omega, HP⟩
      case measure => simp [intOf]; omega
    · have j1 : ¬ (i : Int) < (n : Int) := by omega
      obtain rfl : i = n := by omega
      go_wp2_with fail
      go_end0
      have hf := hO.out
      rw [List.take_of_length_le (by rw [HD.out.1]; exact Nat.le_refl _), List.drop_eq_nil_of_le (by rw [HD.out.2]; exact Nat.le_refl _), List.append_nil] at hf
      exact ⟨rfl, hf.1, hf.2⟩
end Go.Proofs.Ytfcdaljhbeogeaa
