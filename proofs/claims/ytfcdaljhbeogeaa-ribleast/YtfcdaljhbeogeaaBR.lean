import Derived.Test.YtfcdaljhbeogeaaBQ
import Derived.Test.YtfcdaljhbeogeaaBK
import Derived.Laws.EntriesVeiled
namespace Go.Proofs.Ytfcdaljhbeogeaa
open Go.RowKit
theorem rcf_enter {P : Program} {f : FuncId} {fn : Func} {c : Code} (hf : P.funcs[f]? = some fn) (hname : (fn.name == "runtime.NumGoroutine") = false) (hb : fn.body = some c) (args : Array Value) (w : World) : (callFunc f args).run P w = .ok (.enter f args) w := by
  have h1 : fn.name ≠ "runtime.NumGoroutine" := by simpa using hname
  simp [callFunc, hf, h1, hb]
theorem rows_apart {W : World} {B1 B2 n1 n2 s1 s2 : Nat} {e1 e2 : TypeId} {v1 v2 : Value} {x1 x2 : List Value} (h1 : W.ownsRow B1 e1 s1 v1 n1 x1) (h2 : W.ownsRow B2 e2 s2 v2 n2 x2) (hne : e1 ≠ e2) : v1.ownBlock = none ∨ v1.ownBlock ≠ v2.ownBlock := by
  rcases h1.2 with ⟨rfl, _⟩ | ⟨g, c, cur, rfl, _, hg, _⟩
  · exact .inl rfl
  · refine .inr (fun e => ?_)
    rcases h2.2 with ⟨rfl, _⟩ | ⟨g2, c2, cur2, rfl, _, hg2, _⟩
    · cases e
    · have : g = g2 := by injection e
      subst this
      rw [hg] at hg2
      exact hne (by injection hg2 with hg2; injection hg2 with _ h2 _)
/-- the heap of places in laid -/
def XL (w : World) (rv : Value) (vl : Value) (O : List IRt) : HX := { w0 := w, B := w.heap.size, hb := w.heap.size, ho := 0, cs := #[.slice none 0 0, .func (.func 51) #[rv] #[]], t := 70, K := 51, rv := rv, I := fun W => W.ownsRow w.heap.size 59 4 vl O.length (rels O) ∧ vl.ownBlock ≠ some w.heap.size }
theorem XL_ok (w : World) (rv vl : Value) (O : List IRt) : HC (XL w rv vl O) where
  bs := Nat.le_refl _
  bB := Nat.le_refl _
  i0 := by show (0 : Nat) < 2; omega
  f1 := rfl
  ty := by show (70 : Nat) ≠ 3; decide
  cf := fun args W => rcf_enter Try.func51 (by kernel_rfl) rfl args W
  iK := fun W W' h hk => ⟨hk.own h.1 (by decide) h.2, h.2⟩
theorem ord_len : ∀ {O L : List IRt}, O.Pairwise (fun a b => plt (rpre a) (rpre b)) → (∀ o ∈ O, o ∈ L) → O.length ≤ L.length
  | [], L, _, _ => Nat.zero_le _
  | o :: O, L, h, hm => by
    obtain ⟨h1, h2⟩ := List.pairwise_cons.1 h
    have hmo := hm o List.mem_cons_self
    have ih := ord_len (O := O) (L := L.erase o) h2 (fun x hx => by
      have hne : x ≠ o := fun e => plt_irrefl (e ▸ h1 x hx)
      exact (List.mem_erase_of_ne hne).2 (hm x (List.mem_cons_of_mem _ hx)))
    have := List.length_erase_of_mem hmo
    have := List.length_pos_of_mem hmo
    rw [List.length_cons]
    omega
theorem um_of {m : Nat} (h : m + 1 ≤ 256) : wrap64 (m : Int) = (m : Int) := w64 (by omega) (by omega)
theorem fit256 {m : Nat} (h : m ≤ 256) : m + 1 ≤ maxLen := by unfold maxLen; omega
theorem fit257 {m : Nat} (h : m + 1 ≤ 256) : m + 1 + 1 ≤ maxLen := by unfold maxLen; omega
theorem plA_at {L : List IRt} {a b : Nat} {r s : IRt} (ha : L[a]? = some r) (hb : L[b]? = some s) : plA L a b = decide (or4 (cmp3 s.2.2.1 r.2.2.1) (cmp3 r.2.1 s.2.1) (cmp3 r.1 s.1) (cmp3 (a : Int) (b : Int)) < 0) := by
  unfold plA
  simp only [List.getD, ha, hb, Option.getD_some]
theorem XL_fa (w : World) (L : List IRt) (o : Option Addr) (c : Nat) (vl : Value) (O : List IRt) (hL : L.length ≤ 256) (hr : IRR w o L) : FA (XL w (.slice o L.length c) vl O) (plA L) L.length := fun a b W hW ha hb => by
  obtain ⟨r, hra⟩ : ∃ r, L[a]? = some r := ⟨_, List.getElem?_eq_getElem ha⟩
  obtain ⟨s, hsb⟩ : ∃ s, L[b]? = some s := ⟨_, List.getElem?_eq_getElem hb⟩
  rw [plA_at hra hsb]
  exact bahead_raw L o c a b r s W hL hra hsb (hr.later hW)
/-- how much a heap holds -/
def hlen (W : World) (b o : Nat) : Nat := match W.cell? ⟨b, o, none⟩ with
  | some (.slice _ n _) => n
  | _ => 0
theorem HS.hlen {X : HX} (C : HC X) {W : World} {v : Value} {V : List Nat} (h : HS X W v V) : hlen W X.hb X.ho = V.length := by
  unfold Go.Proofs.Ytfcdaljhbeogeaa.hlen
  rw [h.c0 C]
  obtain ⟨p, c, rfl⟩ := shapeP h.own
  rfl
theorem HS.list {w W W1 : World} {rv vl vl' v : Value} {O O' : List IRt} {V : List Nat} (h : HS (XL w rv vl O) W v V) (hg : W.grownBy W1 vl.ownBlock) (ho : W1.ownsRow w.heap.size 59 4 vl' O'.length (rels O')) : HS (XL w rv vl' O') W1 v V := by
  have hb1 : W1.heap[w.heap.size]? = some (.cells (hcel (XL w rv vl O) v) 70 (0, 0)) := (hg.block _ (lt_of_get h.blk) (fun e => h.inv.2 e.symm)).trans h.blk
  exact ⟨hb1, h.own.kept hg (rows_apart h.own h.inv.1 (by decide)), h.bel.grown hg (h.bw (XL_ok w rv vl O)) (fun k e => (h.inv.1.lt k e).1), ho, rown_not ho hb1 (by decide)⟩
theorem rel_last {W : World} {B g n c : Nat} {O : List IRt} {l : IRt} (h : W.ownsRow B 59 4 (.slice (some ⟨g, 0, none⟩) (n + 1) c) (n + 1) (rels (O ++ [l]))) (hn : O.length = n) : W.cell? ⟨g, n * 4 + 1, none⟩ = some (.int .i64 l.2.1) ∧ W.cell? ⟨g, n * 4 + 2, none⟩ = some (.int .i64 l.2.2.1) := by
  have e : (O ++ [l])[n]? = some l := by rw [List.getElem?_append_right (by omega), hn, Nat.sub_self]; rfl
  have a := fun m (hm : m < 4) => (h.cellAt (n * 4 + m) (by omega)).trans (rels_get (O ++ [l]) n m hm)
  simp only [e, Option.bind_some] at a
  exact ⟨a 1 (by decide), a 2 (by decide)⟩
set_option maxRecDepth 100000 in
set_option maxHeartbeats 4000000 in
theorem blaid_any (L : List IRt) (o : Option Addr) (c : Nat) (w : World) (hL : L.length ≤ 256) (hr : IRR w o L) :
    Calls Try.prog 36 #[.slice o L.length c] w fun e w' => ∃ (O : List IRt) (v : Value), e = .returned v ∧ OrdOf L O ∧ w'.ownsRow w.heap.size 59 4 v O.length (rels O) ∧ Below w.heap.size w w' := by
  obtain ⟨i0, hi, hz0, hz1, hz2⟩ := info_parts info_rt
  have HFA : Hid (∀ (vl : Value) (O : List IRt), FA (XL w (.slice o L.length c) vl O) (plA L) L.length) := fun vl O => XL_fa w L o c vl O hL hr
  have HI : Hid (IRR w o L) := hr
  obtain ⟨n, hn⟩ : ∃ n, L.length = n := ⟨_, rfl⟩
  have HN : Hid (L.length = n) := hn
  rw [hn] at HFA hL ⊢
  obtain ⟨rv, hrv⟩ : ∃ rv, Value.slice o n c = rv := ⟨_, rfl⟩
  rw [hrv] at HFA
  have hW0 : Hid (HS (XL w rv (.slice none 0 0) []) (w.alloc (.cells #[.slice none 0 0, .func (.func 51) #[rv] #[]] 70)) (.slice none 0 0) []) := ⟨alloc_get _ _, World.ownsRow_nil _ _ _ _, (Below.refl _ _).alloc (Nat.le_refl _) _, World.ownsRow_nil _ _ _ _, fun e => by cases e⟩
  clear hr hn
  subst hrv
  go_enter Try.func36, Try.ntmps36
  go_wp2_with fail
  generalize (w.alloc (.cells #[.slice none 0 0, .func (.func 51) #[Value.slice o n c] #[]] 70)) = w1 at hW0 ⊢
  go_loopw [13] (fun vk wr => ∃ (k : Nat) (V : List Nat) (v : Value), vk = .int .i64 (k : Int) ∧ k ≤ n ∧ Hid (V.Perm (List.range k) ∧ hp (plA L) V ∧ HS (XL w (.slice o n c) (.slice none 0 0) []) wr v V)) (fun vk _ => n - (intOf vk).toNat)
  case atStart => exact ⟨0, [], _, rfl, Nat.zero_le _, List.Perm.refl _, fun i x y h0 hx => by simp at hx, hW0.out⟩
  case round =>
    obtain ⟨k, V, v, rfl, hk, hV⟩ := hrel
    by_cases hlt : k < n
    · have j1 : (k : Int) < (n : Int) := by omega
      have HPT : Hid (Calls Try.prog 52 #[.pointer (some ⟨w.heap.size, 0, none⟩), .int .i64 (k : Int)] wr fun e w' => e = .returned (.tuple #[]) ∧ ∃ v' V', V'.Perm (V ++ [k]) ∧ hp (plA L) V' ∧ HS (XL w (.slice o n c) (.slice none 0 0) []) w' v' V') := hput_any (XL_ok _ _ _ _) (plA_swo L) (HFA.out _ _) hV.out.2.2 hV.out.2.1 (fun x hx => by have := List.mem_range.1 (hV.out.1.subset hx); omega) (by rw [hV.out.1.length_eq, List.length_range]; omega) hlt
      go_wp2_with fail
      refine HPT.out.mono ?_
      rintro e W2 ⟨rfl, v2, V2, a1, a2, a3⟩
      go_wp2_with fail
      go_roundw
      case rel => exact ⟨k + 1, V2, v2, by go_num, by omega, a1.trans (by rw [List.range_succ]; exact List.Perm.append_right _ hV.out.1), a2, a3⟩
      case measure => simp [intOf]; omega
    · have j1 : ¬ (k : Int) < (n : Int) := by omega
      obtain rfl : k = n := by omega
      have HV : Hid (LInv L [] V [] ∧ hp (plA L) V ∧ HS (XL w (.slice o k c) (.slice none 0 0) []) wr v V) := ⟨LInv.start (by rw [HN.out]; exact hV.out.1), hV.out.2⟩
      clear hV
      go_wp2_with fail
      clear hW0
      go_loopw [5] (fun vl wz => ∃ (Tk V : List Nat) (v : Value) (O : List IRt), Hid (LInv L Tk V O ∧ hp (plA L) V ∧ HS (XL w (.slice o k c) vl O) wz v V)) (fun _ wz => hlen wz w.heap.size 0)
      case atStart => exact ⟨[], V, v, [], HV.out⟩
      case round =>
        clear HV j1
        obtain ⟨Tk, V, vh, O, hV⟩ := hrel
        have HE0 := hempty_any (XL_ok w (.slice o k c) u5 O) hV.out.2.2
        by_cases hV0 : V.length = 0
        · rw [decide_eq_true hV0] at HE0
          have HE : Hid (Calls Try.prog 48 #[.pointer (some ⟨w.heap.size, 0, none⟩)] wr fun e w' => e = .returned (.bool true) ∧ w' = wr) := HE0
          clear HE0
          obtain rfl : V = [] := List.length_eq_zero_iff.1 hV0
          go_wp2_with fail
          refine HE.out.mono ?_
          rintro e W2 ⟨rfl, rfl⟩
          go_wp2_with fail
          go_ret
          exact ⟨O, _, rfl, hV.out.1.done, hV.out.2.2.inv.1, hV.out.2.2.bel⟩
        · rw [decide_eq_false hV0] at HE0
          have HE : Hid (Calls Try.prog 48 #[.pointer (some ⟨w.heap.size, 0, none⟩)] wr fun e w' => e = .returned (.bool false) ∧ w' = wr) := HE0
          clear HE0
          obtain ⟨x, hx⟩ : ∃ x, V[0]? = some x := ⟨_, List.getElem?_eq_getElem (by omega)⟩
          have hxk : x < L.length := hV.out.1.lt (List.mem_of_getElem? hx)
          have HT : Hid (Calls Try.prog 49 #[.pointer (some ⟨w.heap.size, 0, none⟩)] wr fun e w' => e = .returned (.int .i64 (x : Int)) ∧ ∃ v' V', V.Perm (x :: V') ∧ hp (plA L) V' ∧ HS (XL w (.slice o k c) u5 O) w' v' V') := htake_any (XL_ok _ _ _ _) (plA_swo L) (HFA.out _ _) hV.out.2.2 hV.out.2.1 (fun y hy => by rw [← HN.out]; exact hV.out.1.lt hy) (by have := hV.out.1.per.length_eq; rw [List.length_append, List.length_range, HN.out] at this; omega) hx
          have HM : Hid (∀ y ∈ V, plA L y x = false) := hp_min (plA_swo L) hV.out.2.1 hx
          obtain ⟨r, hrx⟩ : ∃ r, L[x]? = some r := ⟨_, List.getElem?_eq_getElem hxk⟩
          have HG : Hid (L.getD x (0, 0, 0, 0) = r) := by unfold Hid; simp [List.getD, hrx]
          have HLI : Hid (LInv L Tk V O) := hV.out.1
          have HLN : Hid (hlen wr w.heap.size 0 = V.length) := hV.out.2.2.hlen (XL_ok _ _ _ _)
          obtain ⟨g, o0, rfl, -⟩ := HI.out w (Below.refl _ _) x r hrx
          have XR : Hid (∀ W, Below w.heap.size w W → W.cell? ⟨g, o0 + x * 4, none⟩ = some (.int .i64 r.1) ∧ W.cell? ⟨g, o0 + x * 4 + 1, none⟩ = some (.int .i64 r.2.1) ∧ W.cell? ⟨g, o0 + x * 4 + 2, none⟩ = some (.int .i64 r.2.2.1) ∧ W.cell? ⟨g, o0 + x * 4 + 3, none⟩ = some (.int .i64 r.2.2.2)) := fun W hW => by
            obtain ⟨g3, q3, e, h⟩ := HI.out W hW x r hrx
            injection e with e
            injection e with e1 e2
            subst e1 e2
            exact h
          have j0 : (0 : Int) ≤ (x : Int) := by omega
          have j1 : (x : Int) < (k : Int) := by have := HN.out; omega
          clear hx hrx hV hxk
          go_wp2_with fail
          refine HE.out.mono ?_
          rintro e W1 ⟨rfl, rfl⟩
          go_wp2_with fail
          refine HT.out.mono ?_
          rintro e W2 ⟨rfl, v2, V2, a1, a2, a3⟩
          have HV2 : Hid (V.Perm (x :: V2) ∧ hp (plA L) V2 ∧ HS (XL w (.slice (some ⟨g, o0, none⟩) k c) u5 O) W2 v2 V2) := ⟨a1, a2, a3⟩
          obtain ⟨p0, p1, p2, p3⟩ := XR.out W2 a3.bel
          clear a1 a2 a3
          obtain ⟨r0, r1, r2, r3⟩ := r
          simp only at p0 p1 p2 p3
          obtain ⟨OB, hOB⟩ : ∃ OB : Obj, Obj.cells #[.int .i64 r0, .int .i64 r1, .int .i64 r2, .int .i64 r3] 59 = OB := ⟨_, rfl⟩
          have hR : (W2.alloc OB).heap[W2.heap.size]? = some (.cells #[.int .i64 r0, .int .i64 r1, .int .i64 r2, .int .i64 r3] 59 (0, 0)) := by rw [← hOB]; exact alloc_get _ _
          have h3 : HS (XL w (.slice (some ⟨g, o0, none⟩) k c) u5 O) (W2.alloc OB) v2 V2 := HV2.out.2.2.below (XL_ok _ _ _ _) ((Below.refl _ _).alloc (Nat.le_refl _) _)
          have HSH : Hid (V.Perm (x :: V2) ∧ hp (plA L) V2) := ⟨HV2.out.1, HV2.out.2.1⟩
          have HLT : Hid (V2.length < V.length) := by unfold Hid; rw [HSH.out.1.length_eq, List.length_cons]; omega
          have hO256 : Hid (O.length ≤ 256) := by
            unfold Hid
            have h1 := HLI.out.srt
            refine Nat.le_trans (ord_len h1 (fun o ho => (bst_some (HLI.out.own o ho)).1)) ?_
            rw [HN.out]
            exact hL
          clear HV2
          rcases (show O = [] ∨ ∃ O0 l, O = O0 ++ [l] by
            by_cases h0 : O = []
            · exact .inl h0
            · exact .inr ⟨O.dropLast, O.getLast h0, (List.dropLast_concat_getLast h0).symm⟩) with rfl | ⟨O0, l, rfl⟩
          · obtain ⟨q5, c5, rfl⟩ := shapeP h3.inv.1
            have HNL : Hid (∀ o, ([] : List IRt).getLast? = some o → rpre o ≠ rpre (L.getD x (0, 0, 0, 0))) := fun o h => by cases h
            have H3 : Hid (HS (XL w (.slice (some ⟨g, o0, none⟩) k c) (.slice q5 ([] : List IRt).length c5) []) (W2.alloc OB) v2 V2) := h3
            clear h3
            go_upto_region 11 with fail
            try rw [hOB]
            generalize W2.alloc OB = W3 at hR H3 ⊢
            generalize W2.heap.size = R at hR ⊢
            clear p0 p1 p2 p3 hOB
            refine quiet_lit3 (C := fun W => Below W3.heap.size W3 W) (by kernel_rfl) (by kernel_rfl) (show Below _ _ _ from (Below.refl _ _).drew) ?_
            go_big_quiet_want
            go_big_quiet_op
            go_big_quiet_on
            go_big_quiet_want
            refine ⟨.bool true, fun W hW => ?_, ?_⟩
            · go_simp
            go_big_quiet_on
            simp only [Act.put, List.setIfInBounds_toArray, List.set_cons_zero, List.set_cons_succ]
            go_big_quiet_want
            go_big_quiet_op
            go_big_quiet_on
            go_big_quiet_skip
            go_big_quiet_skip
            go_big_quiet_skip
            go_big_quiet_skip
            go_big_quiet_skip
            go_big_quiet_skip
            go_big_quiet_skip
            go_big_quiet_skip
            go_big_quiet_want
            refine ⟨.bool true, fun W hW => ?_, ?_⟩
            · go_simp
            go_big_quiet_on
            simp only [Act.put, List.setIfInBounds_toArray, List.set_cons_zero, List.set_cons_succ]
            go_big_quiet_want
            go_big_quiet_op
            go_big_quiet_on
            go_big_quiet_skip
            go_big_quiet_skip
            go_big_quiet_skip
            go_big_quiet_skip
            go_big_quiet_skip
            go_big_quiet_skip
            go_big_quiet_skip
            go_big_quiet_skip
            go_big_quiet_want
            refine ⟨.bool true, fun W hW => ?_, ?_⟩
            · go_simp
            go_big_quiet_on
            simp only [Act.put, List.setIfInBounds_toArray, List.set_cons_zero, List.set_cons_succ]
            refine wpQuiet_nil ?_
            intro W hW
            obtain ⟨y0, y1, y2, y3⟩ : W.cell? ⟨R, 0, none⟩ = some (.int .i64 r0) ∧ W.cell? ⟨R, 1, none⟩ = some (.int .i64 r1) ∧ W.cell? ⟨R, 2, none⟩ = some (.int .i64 r2) ∧ W.cell? ⟨R, 3, none⟩ = some (.int .i64 r3) := ⟨cell_of_row _ _ 0 _ _ _ (keepblk hW hR), cell_of_row _ _ 1 _ _ _ (keepblk hW hR), cell_of_row _ _ 2 _ _ _ (keepblk hW hR), cell_of_row _ _ 3 _ _ _ (keepblk hW hR)⟩
            have h5 := (H3.out.below (XL_ok _ _ _ _) hW).below (XL_ok _ _ _ _) ((Below.refl _ _).alloc (Nat.le_refl _) (.cells #[.int .i64 r0, .int .i64 r1, .int .i64 r2, .int .i64 r3] 59))
            have H5 : Hid (HS (XL w (.slice (some ⟨g, o0, none⟩) k c) (.slice q5 ([] : List IRt).length c5) ([])) (W.alloc (.cells #[.int .i64 r0, .int .i64 r1, .int .i64 r2, .int .i64 r3] 59)) v2 V2) := h5
            have ow := h5.inv.1
            have hbw : w.heap.size ≤ (W.alloc (.cells #[.int .i64 r0, .int .i64 r1, .int .i64 r2, .int .i64 r3] 59)).heap.size := h5.bw (XL_ok _ _ _ _)
            have h256 := hO256.out

            clear h5
            go_wp2_with (at_builtin; refine wpList_append_own _ rfl _ _ 36 rfl w.heap.size 59 i0 _ 4 32 Try.underlying36 hi hz0 hz1 hz2 rfl (by decide) _ _ _ rfl ow ⟨_, 0, none⟩ 1 1 [.int .i64 r0, .int .i64 r1, .int .i64 r2, .int .i64 r3] rfl rfl (World.news_of_block (cs := #[.int .i64 r0, .int .i64 r1, .int .i64 r2, .int .i64 r3]) (t := 59) (fr := (0, 0)) (alloc_get _ _)) (by simp [Value.oneCell']) (by unfold maxLen; omega) (by omega) hbw ?_; intro v6 w6 oB hg6 _)
            have oC : w6.ownsRow w.heap.size 59 4 v6 (([]) ++ [(r0, r1, r2, r3)]).length (rels (([]) ++ [(r0, r1, r2, r3)])) := by
              rw [rels_app, List.length_append]
              exact oB
            have h6 := H5.out.list hg6 oC
            go_roundw
            case rel =>
              have hn := HLI.out.new HSH.out.1 HM.out HNL.out
              rw [HG.out] at hn
              exact ⟨Tk ++ [x], V2, v2, ([]) ++ [(r0, r1, r2, r3)], hn, HSH.out.2, h6⟩
            case measure =>
              have := h6.hlen (XL_ok _ _ _ _)
              show hlen w6 w.heap.size 0 < hlen W1 w.heap.size 0
              rw [HLN.out]
              exact Nat.lt_of_le_of_lt (Nat.le_of_eq this) HLT.out
          · obtain ⟨m, hm⟩ : ∃ m, O0.length = m := ⟨_, rfl⟩
            have hml : (O0 ++ [l]).length = m + 1 := by simp [hm]
            obtain ⟨g5, c5, rfl⟩ : ∃ g5 c5, u5 = .slice (some ⟨g5, 0, none⟩) (m + 1) c5 := by
              have := rown_form h3.inv.1 (by rw [hml]; omega)
              rw [hml] at this
              exact this
            have H3 : Hid (HS (XL w (.slice (some ⟨g, o0, none⟩) k c) (.slice (some ⟨g5, 0, none⟩) (m + 1) c5) (O0 ++ [l])) (W2.alloc OB) v2 V2) := h3
            have HML : Hid (O0.length = m ∧ (O0 ++ [l]).length = m + 1) := ⟨hm, hml⟩
            have HLA : Hid ((O0 ++ [l]).getLast? = some l) := by unfold Hid; simp
            have k0 : ¬ (m : Int) < 0 := by omega
            have k1 : (m : Int) < (m : Int) + 1 := by omega
            have k2 : (0 : Int) ≤ (m : Int) := by omega
            have um : m + 1 ≤ 256 := hml ▸ hO256.out
            clear h3 hm hml
            go_upto_region 11 with fail
            try rw [hOB]
            generalize W2.alloc OB = W3 at hR H3 ⊢
            generalize W2.heap.size = R at hR ⊢
            clear p0 p1 p2 p3 hOB
            have XC : Hid (∀ W, Below W3.heap.size W3 W → W.cell? ⟨g5, m * 4 + 1, none⟩ = some (.int .i64 l.2.1) ∧ W.cell? ⟨g5, m * 4 + 2, none⟩ = some (.int .i64 l.2.2.1) ∧ W.cell? ⟨R, 1, none⟩ = some (.int .i64 r1) ∧ W.cell? ⟨R, 2, none⟩ = some (.int .i64 r2)) := fun W hW => by
              have h4 := (H3.out.below (XL_ok _ _ _ _) hW).inv.1
              rw [HML.out.2] at h4
              have h5 := rel_last h4 HML.out.1
              exact ⟨h5.1, h5.2, cell_of_row _ _ 1 _ _ _ (keepblk hW hR), cell_of_row _ _ 2 _ _ _ (keepblk hW hR)⟩
            obtain ⟨l0, l1, l2, l3⟩ := l
            simp only at XC
            by_cases d1 : l2 = r2
            · subst d1
              have e1 : (l2 == l2) = true := beq_self_eq_true l2
              by_cases d2 : l1 = r1
              · subst d2
                have e2 : (l1 == l1) = true := beq_self_eq_true l1
                refine quiet_lit3 (C := fun W => Below W3.heap.size W3 W) (by kernel_rfl) (by kernel_rfl) (show Below _ _ _ from (Below.refl _ _).drew) ?_
                go_big_quiet_want
                go_big_quiet_op
                go_big_quiet_on
                go_big_quiet_want
                refine ⟨.bool false, fun W hW => ?_, ?_⟩
                · go_simp
                go_big_quiet_on
                simp only [Act.put, List.setIfInBounds_toArray, List.set_cons_zero, List.set_cons_succ]
                go_big_quiet_want
                go_big_quiet_op
                go_big_quiet_on
                go_big_quiet_want
                go_big_quiet_op
                go_big_quiet_on
                go_big_quiet_want
                go_big_quiet_op
                go_big_quiet_on
                go_big_quiet_want
                refine ⟨.pointer (some ⟨g5, m * 4, none⟩), fun W hW => ?_, ?_⟩
                · go_simp
                go_big_quiet_on
                simp only [Act.put, List.setIfInBounds_toArray, List.set_cons_zero, List.set_cons_succ]
                go_big_quiet_want
                refine ⟨.pointer (some ⟨g5, m * 4 + 2, none⟩), fun W hW => ?_, ?_⟩
                · go_simp
                go_big_quiet_on
                simp only [Act.put, List.setIfInBounds_toArray, List.set_cons_zero, List.set_cons_succ]
                go_big_quiet_want
                refine ⟨.int .i64 l2, fun W hW => ?_, ?_⟩
                · obtain ⟨x0, x1, x2, x3⟩ := XC.out W hW
                  go_simp
                go_big_quiet_on
                simp only [Act.put, List.setIfInBounds_toArray, List.set_cons_zero, List.set_cons_succ]
                go_big_quiet_want
                refine ⟨.pointer (some ⟨R, 2, none⟩), fun W hW => ?_, ?_⟩
                · go_simp
                go_big_quiet_on
                simp only [Act.put, List.setIfInBounds_toArray, List.set_cons_zero, List.set_cons_succ]
                go_big_quiet_want
                refine ⟨.int .i64 l2, fun W hW => ?_, ?_⟩
                · obtain ⟨x0, x1, x2, x3⟩ := XC.out W hW
                  go_simp
                go_big_quiet_on
                simp only [Act.put, List.setIfInBounds_toArray, List.set_cons_zero, List.set_cons_succ]
                go_big_quiet_want
                refine ⟨.bool false, fun W hW => ?_, ?_⟩
                · go_simp
                go_big_quiet_on
                simp only [Act.put, List.setIfInBounds_toArray, List.set_cons_zero, List.set_cons_succ]
                go_big_quiet_want
                refine ⟨.bool false, fun W hW => ?_, ?_⟩
                · go_simp
                go_big_quiet_on
                simp only [Act.put, List.setIfInBounds_toArray, List.set_cons_zero, List.set_cons_succ]
                go_big_quiet_want
                go_big_quiet_op
                go_big_quiet_on
                go_big_quiet_want
                go_big_quiet_op
                go_big_quiet_on
                go_big_quiet_want
                go_big_quiet_op
                go_big_quiet_on
                go_big_quiet_want
                refine ⟨.pointer (some ⟨g5, m * 4, none⟩), fun W hW => ?_, ?_⟩
                · go_simp
                go_big_quiet_on
                simp only [Act.put, List.setIfInBounds_toArray, List.set_cons_zero, List.set_cons_succ]
                go_big_quiet_want
                refine ⟨.pointer (some ⟨g5, m * 4 + 1, none⟩), fun W hW => ?_, ?_⟩
                · go_simp
                go_big_quiet_on
                simp only [Act.put, List.setIfInBounds_toArray, List.set_cons_zero, List.set_cons_succ]
                go_big_quiet_want
                refine ⟨.int .i64 l1, fun W hW => ?_, ?_⟩
                · obtain ⟨x0, x1, x2, x3⟩ := XC.out W hW
                  go_simp
                go_big_quiet_on
                simp only [Act.put, List.setIfInBounds_toArray, List.set_cons_zero, List.set_cons_succ]
                go_big_quiet_want
                refine ⟨.pointer (some ⟨R, 1, none⟩), fun W hW => ?_, ?_⟩
                · go_simp
                go_big_quiet_on
                simp only [Act.put, List.setIfInBounds_toArray, List.set_cons_zero, List.set_cons_succ]
                go_big_quiet_want
                refine ⟨.int .i64 l1, fun W hW => ?_, ?_⟩
                · obtain ⟨x0, x1, x2, x3⟩ := XC.out W hW
                  go_simp
                go_big_quiet_on
                simp only [Act.put, List.setIfInBounds_toArray, List.set_cons_zero, List.set_cons_succ]
                go_big_quiet_want
                refine ⟨.bool false, fun W hW => ?_, ?_⟩
                · go_simp
                go_big_quiet_on
                simp only [Act.put, List.setIfInBounds_toArray, List.set_cons_zero, List.set_cons_succ]
                go_big_quiet_want
                refine ⟨.bool false, fun W hW => ?_, ?_⟩
                · go_simp
                go_big_quiet_on
                simp only [Act.put, List.setIfInBounds_toArray, List.set_cons_zero, List.set_cons_succ]
                refine wpQuiet_nil ?_
                intro W hW
                clear um
                go_wp2_with fail
                go_roundw
                case rel => exact ⟨Tk ++ [x], V2, v2, O0 ++ [(l0, l1, l2, l3)], HLI.out.same HSH.out.1 HM.out HLA.out (by rw [HG.out]; rfl), HSH.out.2, H3.out.below (XL_ok _ _ _ _) hW⟩
                case measure =>
                  have := (H3.out.below (XL_ok _ _ _ _) hW).hlen (XL_ok _ _ _ _)
                  show hlen W w.heap.size 0 < hlen W1 w.heap.size 0
                  rw [HLN.out]
                  exact Nat.lt_of_le_of_lt (Nat.le_of_eq this) HLT.out
              · have e2 : (l1 == r1) = false := beq_eq_false_iff_ne.2 d2
                have e3 : (l1 != r1) = true := by rw [bne, e2]; rfl
                have HNL : Hid (∀ o, (O0 ++ [(l0, l1, l2, l3)]).getLast? = some o → rpre o ≠ rpre (L.getD x (0, 0, 0, 0))) := fun o h => by
                  rw [HLA.out] at h
                  cases h
                  rw [HG.out]
                  exact fun e => d2 (Prod.mk.inj e).2
                refine quiet_lit3 (C := fun W => Below W3.heap.size W3 W) (by kernel_rfl) (by kernel_rfl) (show Below _ _ _ from (Below.refl _ _).drew) ?_
                go_big_quiet_want
                go_big_quiet_op
                go_big_quiet_on
                go_big_quiet_want
                refine ⟨.bool false, fun W hW => ?_, ?_⟩
                · go_simp
                go_big_quiet_on
                simp only [Act.put, List.setIfInBounds_toArray, List.set_cons_zero, List.set_cons_succ]
                go_big_quiet_want
                go_big_quiet_op
                go_big_quiet_on
                go_big_quiet_want
                go_big_quiet_op
                go_big_quiet_on
                go_big_quiet_want
                go_big_quiet_op
                go_big_quiet_on
                go_big_quiet_want
                refine ⟨.pointer (some ⟨g5, m * 4, none⟩), fun W hW => ?_, ?_⟩
                · go_simp
                go_big_quiet_on
                simp only [Act.put, List.setIfInBounds_toArray, List.set_cons_zero, List.set_cons_succ]
                go_big_quiet_want
                refine ⟨.pointer (some ⟨g5, m * 4 + 2, none⟩), fun W hW => ?_, ?_⟩
                · go_simp
                go_big_quiet_on
                simp only [Act.put, List.setIfInBounds_toArray, List.set_cons_zero, List.set_cons_succ]
                go_big_quiet_want
                refine ⟨.int .i64 l2, fun W hW => ?_, ?_⟩
                · obtain ⟨x0, x1, x2, x3⟩ := XC.out W hW
                  go_simp
                go_big_quiet_on
                simp only [Act.put, List.setIfInBounds_toArray, List.set_cons_zero, List.set_cons_succ]
                go_big_quiet_want
                refine ⟨.pointer (some ⟨R, 2, none⟩), fun W hW => ?_, ?_⟩
                · go_simp
                go_big_quiet_on
                simp only [Act.put, List.setIfInBounds_toArray, List.set_cons_zero, List.set_cons_succ]
                go_big_quiet_want
                refine ⟨.int .i64 l2, fun W hW => ?_, ?_⟩
                · obtain ⟨x0, x1, x2, x3⟩ := XC.out W hW
                  go_simp
                go_big_quiet_on
                simp only [Act.put, List.setIfInBounds_toArray, List.set_cons_zero, List.set_cons_succ]
                go_big_quiet_want
                refine ⟨.bool false, fun W hW => ?_, ?_⟩
                · go_simp
                go_big_quiet_on
                simp only [Act.put, List.setIfInBounds_toArray, List.set_cons_zero, List.set_cons_succ]
                go_big_quiet_want
                refine ⟨.bool false, fun W hW => ?_, ?_⟩
                · go_simp
                go_big_quiet_on
                simp only [Act.put, List.setIfInBounds_toArray, List.set_cons_zero, List.set_cons_succ]
                go_big_quiet_want
                go_big_quiet_op
                go_big_quiet_on
                go_big_quiet_want
                go_big_quiet_op
                go_big_quiet_on
                go_big_quiet_want
                go_big_quiet_op
                go_big_quiet_on
                go_big_quiet_want
                refine ⟨.pointer (some ⟨g5, m * 4, none⟩), fun W hW => ?_, ?_⟩
                · go_simp
                go_big_quiet_on
                simp only [Act.put, List.setIfInBounds_toArray, List.set_cons_zero, List.set_cons_succ]
                go_big_quiet_want
                refine ⟨.pointer (some ⟨g5, m * 4 + 1, none⟩), fun W hW => ?_, ?_⟩
                · go_simp
                go_big_quiet_on
                simp only [Act.put, List.setIfInBounds_toArray, List.set_cons_zero, List.set_cons_succ]
                go_big_quiet_want
                refine ⟨.int .i64 l1, fun W hW => ?_, ?_⟩
                · obtain ⟨x0, x1, x2, x3⟩ := XC.out W hW
                  go_simp
                go_big_quiet_on
                simp only [Act.put, List.setIfInBounds_toArray, List.set_cons_zero, List.set_cons_succ]
                go_big_quiet_want
                refine ⟨.pointer (some ⟨R, 1, none⟩), fun W hW => ?_, ?_⟩
                · go_simp
                go_big_quiet_on
                simp only [Act.put, List.setIfInBounds_toArray, List.set_cons_zero, List.set_cons_succ]
                go_big_quiet_want
                refine ⟨.int .i64 r1, fun W hW => ?_, ?_⟩
                · obtain ⟨x0, x1, x2, x3⟩ := XC.out W hW
                  go_simp
                go_big_quiet_on
                simp only [Act.put, List.setIfInBounds_toArray, List.set_cons_zero, List.set_cons_succ]
                go_big_quiet_want
                refine ⟨.bool true, fun W hW => ?_, ?_⟩
                · go_simp
                go_big_quiet_on
                simp only [Act.put, List.setIfInBounds_toArray, List.set_cons_zero, List.set_cons_succ]
                go_big_quiet_want
                refine ⟨.bool true, fun W hW => ?_, ?_⟩
                · go_simp
                go_big_quiet_on
                simp only [Act.put, List.setIfInBounds_toArray, List.set_cons_zero, List.set_cons_succ]
                refine wpQuiet_nil ?_
                intro W hW
                obtain ⟨y0, y1, y2, y3⟩ : W.cell? ⟨R, 0, none⟩ = some (.int .i64 r0) ∧ W.cell? ⟨R, 1, none⟩ = some (.int .i64 r1) ∧ W.cell? ⟨R, 2, none⟩ = some (.int .i64 l2) ∧ W.cell? ⟨R, 3, none⟩ = some (.int .i64 r3) := ⟨cell_of_row _ _ 0 _ _ _ (keepblk hW hR), cell_of_row _ _ 1 _ _ _ (keepblk hW hR), cell_of_row _ _ 2 _ _ _ (keepblk hW hR), cell_of_row _ _ 3 _ _ _ (keepblk hW hR)⟩
                have h5 := (H3.out.below (XL_ok _ _ _ _) hW).below (XL_ok _ _ _ _) ((Below.refl _ _).alloc (Nat.le_refl _) (.cells #[.int .i64 r0, .int .i64 r1, .int .i64 l2, .int .i64 r3] 59))
                have H5 : Hid (HS (XL w (.slice (some ⟨g, o0, none⟩) k c) (.slice (some ⟨g5, 0, none⟩) (m + 1) c5) (O0 ++ [(l0, l1, l2, l3)])) (W.alloc (.cells #[.int .i64 r0, .int .i64 r1, .int .i64 l2, .int .i64 r3] 59)) v2 V2) := h5
                have ow := h5.inv.1
                have hbw : w.heap.size ≤ (W.alloc (.cells #[.int .i64 r0, .int .i64 r1, .int .i64 l2, .int .i64 r3] 59)).heap.size := h5.bw (XL_ok _ _ _ _)
                have h256 := hO256.out
                rw [HML.out.2] at ow h256
                clear h5
                go_wp2_with (at_builtin; refine wpList_append_own _ rfl _ _ 36 rfl w.heap.size 59 i0 _ 4 32 Try.underlying36 hi hz0 hz1 hz2 rfl (by decide) _ _ _ rfl ow ⟨_, 0, none⟩ 1 1 [.int .i64 r0, .int .i64 r1, .int .i64 l2, .int .i64 r3] rfl rfl (World.news_of_block (cs := #[.int .i64 r0, .int .i64 r1, .int .i64 l2, .int .i64 r3]) (t := 59) (fr := (0, 0)) (alloc_get _ _)) (by simp [Value.oneCell']) (by unfold maxLen; omega) (by omega) hbw ?_; intro v6 w6 oB hg6 _)
                have oC : w6.ownsRow w.heap.size 59 4 v6 ((O0 ++ [(l0, l1, l2, l3)]) ++ [(r0, r1, l2, r3)]).length (rels ((O0 ++ [(l0, l1, l2, l3)]) ++ [(r0, r1, l2, r3)])) := by
                  rw [rels_app, List.length_append, HML.out.2]
                  exact oB
                have h6 := H5.out.list hg6 oC
                go_roundw
                case rel =>
                  have hn := HLI.out.new HSH.out.1 HM.out HNL.out
                  rw [HG.out] at hn
                  exact ⟨Tk ++ [x], V2, v2, (O0 ++ [(l0, l1, l2, l3)]) ++ [(r0, r1, l2, r3)], hn, HSH.out.2, h6⟩
                case measure =>
                  have := h6.hlen (XL_ok _ _ _ _)
                  show hlen w6 w.heap.size 0 < hlen W1 w.heap.size 0
                  rw [HLN.out]
                  exact Nat.lt_of_le_of_lt (Nat.le_of_eq this) HLT.out
            · have e1 : (l2 == r2) = false := beq_eq_false_iff_ne.2 d1
              have e3 : (l2 != r2) = true := by rw [bne, e1]; rfl
              have HNL : Hid (∀ o, (O0 ++ [(l0, l1, l2, l3)]).getLast? = some o → rpre o ≠ rpre (L.getD x (0, 0, 0, 0))) := fun o h => by
                rw [HLA.out] at h
                cases h
                rw [HG.out]
                exact fun e => d1 (Prod.mk.inj e).1
              refine quiet_lit3 (C := fun W => Below W3.heap.size W3 W) (by kernel_rfl) (by kernel_rfl) (show Below _ _ _ from (Below.refl _ _).drew) ?_
              go_big_quiet_want
              go_big_quiet_op
              go_big_quiet_on
              go_big_quiet_want
              refine ⟨.bool false, fun W hW => ?_, ?_⟩
              · go_simp
              go_big_quiet_on
              simp only [Act.put, List.setIfInBounds_toArray, List.set_cons_zero, List.set_cons_succ]
              go_big_quiet_want
              go_big_quiet_op
              go_big_quiet_on
              go_big_quiet_want
              go_big_quiet_op
              go_big_quiet_on
              go_big_quiet_want
              go_big_quiet_op
              go_big_quiet_on
              go_big_quiet_want
              refine ⟨.pointer (some ⟨g5, m * 4, none⟩), fun W hW => ?_, ?_⟩
              · go_simp
              go_big_quiet_on
              simp only [Act.put, List.setIfInBounds_toArray, List.set_cons_zero, List.set_cons_succ]
              go_big_quiet_want
              refine ⟨.pointer (some ⟨g5, m * 4 + 2, none⟩), fun W hW => ?_, ?_⟩
              · go_simp
              go_big_quiet_on
              simp only [Act.put, List.setIfInBounds_toArray, List.set_cons_zero, List.set_cons_succ]
              go_big_quiet_want
              refine ⟨.int .i64 l2, fun W hW => ?_, ?_⟩
              · obtain ⟨x0, x1, x2, x3⟩ := XC.out W hW
                go_simp
              go_big_quiet_on
              simp only [Act.put, List.setIfInBounds_toArray, List.set_cons_zero, List.set_cons_succ]
              go_big_quiet_want
              refine ⟨.pointer (some ⟨R, 2, none⟩), fun W hW => ?_, ?_⟩
              · go_simp
              go_big_quiet_on
              simp only [Act.put, List.setIfInBounds_toArray, List.set_cons_zero, List.set_cons_succ]
              go_big_quiet_want
              refine ⟨.int .i64 r2, fun W hW => ?_, ?_⟩
              · obtain ⟨x0, x1, x2, x3⟩ := XC.out W hW
                go_simp
              go_big_quiet_on
              simp only [Act.put, List.setIfInBounds_toArray, List.set_cons_zero, List.set_cons_succ]
              go_big_quiet_want
              refine ⟨.bool true, fun W hW => ?_, ?_⟩
              · go_simp
              go_big_quiet_on
              simp only [Act.put, List.setIfInBounds_toArray, List.set_cons_zero, List.set_cons_succ]
              go_big_quiet_want
              refine ⟨.bool true, fun W hW => ?_, ?_⟩
              · go_simp
              go_big_quiet_on
              simp only [Act.put, List.setIfInBounds_toArray, List.set_cons_zero, List.set_cons_succ]
              go_big_quiet_want
              go_big_quiet_op
              go_big_quiet_on
              go_big_quiet_skip
              go_big_quiet_skip
              go_big_quiet_skip
              go_big_quiet_skip
              go_big_quiet_skip
              go_big_quiet_skip
              go_big_quiet_skip
              go_big_quiet_skip
              go_big_quiet_want
              refine ⟨.bool true, fun W hW => ?_, ?_⟩
              · go_simp
              go_big_quiet_on
              simp only [Act.put, List.setIfInBounds_toArray, List.set_cons_zero, List.set_cons_succ]
              refine wpQuiet_nil ?_
              intro W hW
              obtain ⟨y0, y1, y2, y3⟩ : W.cell? ⟨R, 0, none⟩ = some (.int .i64 r0) ∧ W.cell? ⟨R, 1, none⟩ = some (.int .i64 r1) ∧ W.cell? ⟨R, 2, none⟩ = some (.int .i64 r2) ∧ W.cell? ⟨R, 3, none⟩ = some (.int .i64 r3) := ⟨cell_of_row _ _ 0 _ _ _ (keepblk hW hR), cell_of_row _ _ 1 _ _ _ (keepblk hW hR), cell_of_row _ _ 2 _ _ _ (keepblk hW hR), cell_of_row _ _ 3 _ _ _ (keepblk hW hR)⟩
              have h5 := (H3.out.below (XL_ok _ _ _ _) hW).below (XL_ok _ _ _ _) ((Below.refl _ _).alloc (Nat.le_refl _) (.cells #[.int .i64 r0, .int .i64 r1, .int .i64 r2, .int .i64 r3] 59))
              have H5 : Hid (HS (XL w (.slice (some ⟨g, o0, none⟩) k c) (.slice (some ⟨g5, 0, none⟩) (m + 1) c5) (O0 ++ [(l0, l1, l2, l3)])) (W.alloc (.cells #[.int .i64 r0, .int .i64 r1, .int .i64 r2, .int .i64 r3] 59)) v2 V2) := h5
              have ow := h5.inv.1
              have hbw : w.heap.size ≤ (W.alloc (.cells #[.int .i64 r0, .int .i64 r1, .int .i64 r2, .int .i64 r3] 59)).heap.size := h5.bw (XL_ok _ _ _ _)
              have h256 := hO256.out
              rw [HML.out.2] at ow h256
              clear h5
              go_wp2_with (at_builtin; refine wpList_append_own _ rfl _ _ 36 rfl w.heap.size 59 i0 _ 4 32 Try.underlying36 hi hz0 hz1 hz2 rfl (by decide) _ _ _ rfl ow ⟨_, 0, none⟩ 1 1 [.int .i64 r0, .int .i64 r1, .int .i64 r2, .int .i64 r3] rfl rfl (World.news_of_block (cs := #[.int .i64 r0, .int .i64 r1, .int .i64 r2, .int .i64 r3]) (t := 59) (fr := (0, 0)) (alloc_get _ _)) (by simp [Value.oneCell']) (by unfold maxLen; omega) (by omega) hbw ?_; intro v6 w6 oB hg6 _)
              have oC : w6.ownsRow w.heap.size 59 4 v6 ((O0 ++ [(l0, l1, l2, l3)]) ++ [(r0, r1, r2, r3)]).length (rels ((O0 ++ [(l0, l1, l2, l3)]) ++ [(r0, r1, r2, r3)])) := by
                rw [rels_app, List.length_append, HML.out.2]
                exact oB
              have h6 := H5.out.list hg6 oC
              go_roundw
              case rel =>
                have hn := HLI.out.new HSH.out.1 HM.out HNL.out
                rw [HG.out] at hn
                exact ⟨Tk ++ [x], V2, v2, (O0 ++ [(l0, l1, l2, l3)]) ++ [(r0, r1, r2, r3)], hn, HSH.out.2, h6⟩
              case measure =>
                have := h6.hlen (XL_ok _ _ _ _)
                show hlen w6 w.heap.size 0 < hlen W1 w.heap.size 0
                rw [HLN.out]
                exact Nat.lt_of_le_of_lt (Nat.le_of_eq this) HLT.out
end Go.Proofs.Ytfcdaljhbeogeaa
