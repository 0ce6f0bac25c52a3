import Derived.Test.YthlgjdadkmpbbaaDoorXAJ
import Derived.Deep.RegionLaw
import Derived.Deep.AppendLies
namespace Go.Proofs.YthlgjdadkmpbbaaDoor
open Go.RowKit Go.Shelf
theorem wrapN (k : Nat) (h : k ≤ 1000000) : IntKind.i64.wrap ((k : Int) + 1) = (k : Int) + 1 := by rw [IntKind.wrap_i64]; omega
theorem ret_i {a b : Int} (h : a = b) : Ending.returned (.int .i64 a) = .returned (.int .i64 b) := by rw [h]
set_option maxRecDepth 100000 in
set_option maxHeartbeats 1000000 in
theorem classOf_any (r : Int) (w : World) : Calls Tryd.prog 18 #[.int .i32 r] w fun e w' => e = .returned (.int .i64 (cls r : Int)) ∧ w' = w := by
  obtain ⟨c, hc⟩ : ∃ c, cls r = c := ⟨_, rfl⟩
  have HC : Hid (cls r = c) := hc
  rw [hc]
  clear hc
  go_enter Tryd.func18, Tryd.ntmps18
  go_wp2
  all_goals
    go_ret
    refine ⟨ret_i ?_, rfl⟩
    have hc := HC.out
    unfold cls at hc
    simp_all <;> (try (repeat' split at hc)) <;> omega
set_option maxRecDepth 100000 in
set_option maxHeartbeats 1000000 in
theorem class_any {X : MX} (hC : MC X) {W : World} {now fst line head : Nat} {v : Value} {D : List Tok} (h : MS X W now fst line head v D) {j : Nat} (hj : AT X.l now j) :
    Calls Tryd.prog 14 #[.pointer (some ⟨X.b, 0, none⟩)] W fun e w' => e = .returned (.int .i64 (kl X.l j : Int)) ∧ MS X w' now fst line head v D := by
  have hM : Hid (MS X W now fst line head v D) := h
  have hc1 := h.c1
  have hc2 := h.c2
  have hx := h.cr hC hj
  have hlt := hj.lt
  have hle := hj.le
  have hlen := hC.len
  have n0 : (0 : Int) ≤ (now : Int) := by omega
  have n1 : (now : Int) < ((chars X.l 0).length : Int) := by omega
  obtain ⟨r, hr⟩ : ∃ r, chr X.l j = r := ⟨_, rfl⟩
  have HR : Hid (kl X.l j = cls r) := by unfold Hid kl; rw [hr]
  rw [HR.out]
  rw [hr] at hx
  clear hr h hC hj
  go_enter Tryd.func14, Tryd.ntmps14
  go_wp2_with fail
  go_quiet ((go_at_call 18; exact Calls.quiet_of_same (classOf_any _ _)))
  go_wp2_with fail
  go_ret
  exact ⟨rfl, hM.out.drewN _⟩
def inW (l : List UInt8) (j : Nat) : Bool := decide (kl l j = 3) || decide (kl l j = 4)
set_option maxRecDepth 100000 in
theorem inWord_any {X : MX} (hC : MC X) {W : World} {now fst line head : Nat} {v : Value} {D : List Tok} (h : MS X W now fst line head v D) {j : Nat} (hj : AT X.l now j) :
    Calls Tryd.prog 21 #[.pointer (some ⟨X.b, 0, none⟩)] W fun e w' => e = .returned (.bool (inW X.l j)) ∧ MS X w' now fst line head v D := by
  have H := class_any hC h hj
  obtain ⟨c, hc⟩ : ∃ c, kl X.l j = c := ⟨_, rfl⟩
  obtain ⟨r, hr⟩ : ∃ r, inW X.l j = r := ⟨_, rfl⟩
  have HR : Hid (inW X.l j = (decide (c = 3) || decide (c = 4))) := by unfold Hid inW; rw [hc]
  rw [HR.out]
  rw [hc] at H
  clear hc hr h hC hj
  by_cases h3 : c = 3
  · subst h3
    go_enter Tryd.func21, Tryd.ntmps21
    go_wp2_with fail
    refine H.mono ?_
    rintro e w1 ⟨rfl, h1⟩
    go_wp2_with fail
    go_ret
    exact ⟨rfl, h1⟩
  · have e3 : ((c : Int) == 3) = false := by rw [beq_eq_false_iff_ne]; omega
    by_cases h4 : c = 4
    · subst h4
      go_enter Tryd.func21, Tryd.ntmps21
      go_wp2_with fail
      refine H.mono ?_
      rintro e w1 ⟨rfl, h1⟩
      go_wp2_with fail
      go_ret
      exact ⟨rfl, h1⟩
    · have e4 : ((c : Int) == 4) = false := by rw [beq_eq_false_iff_ne]; omega
      have HB : Hid ((decide (c = 3) || decide (c = 4)) = false) := by unfold Hid; simp [h3, h4]
      rw [HB.out]
      go_enter Tryd.func21, Tryd.ntmps21
      go_wp2_with fail
      refine H.mono ?_
      rintro e w1 ⟨rfl, h1⟩
      go_wp2_with fail
      go_ret
      exact ⟨rfl, h1⟩
set_option maxRecDepth 100000 in
theorem column_any {X : MX} {W : World} {now fst line head : Nat} {v : Value} {D : List Tok} (h : MS X W now fst line head v D) {ch : Nat} (hh : head ≤ ch) (hm : ch ≤ 16384) :
    Calls Tryd.prog 11 #[.pointer (some ⟨X.b, 0, none⟩), .int .i64 (ch : Int)] W fun e w' => e = .returned (.int .i64 ((ch - head + 1 : Nat) : Int)) ∧ w' = W := by
  have hc5 := h.c5
  have H1 : Hid ((ch : Int) - (head : Int) + 1 = ((ch - head + 1 : Nat) : Int)) := by unfold Hid; omega
  clear h
  go_enter Tryd.func11, Tryd.ntmps11
  go_wp2_with fail
  go_ret
  exact ⟨ret_i H1.out, rfl⟩
theorem dec_int (a b : Nat) : ((a : Int) == (b : Int)) = decide (a = b) := by
  by_cases h : a = b
  · subst h; simp
  · have : ((a : Int) == (b : Int)) = false := by rw [beq_eq_false_iff_ne]; omega
    rw [this, decide_eq_false h]
/-- a dot, and one of that class behind it -/
def dotA (l : List UInt8) (j c : Nat) : Bool := decide (kl l j = 5) && decide (kl l (j + 1) = c)
theorem kl5 {l : List UInt8} {j : Nat} (h : kl l j = 5) : j < l.length ∧ bt l j = 46 := by
  unfold kl cls at h
  by_cases h1 : chr l j = 46
  · exact (chr_asc l j 46 (by decide)).1 h1
  · repeat' split at h
    all_goals first | omega | contradiction
set_option maxRecDepth 100000 in
set_option maxHeartbeats 1000000 in
theorem dotAhead_any {X : MX} (hC : MC X) {W : World} {now fst line head : Nat} {v : Value} {D : List Tok} (h : MS X W now fst line head v D) {j : Nat} (hj : AT X.l now j) (c : Nat) (_ : c < 100) :
    Calls Tryd.prog 22 #[.pointer (some ⟨X.b, 0, none⟩), .int .i64 (c : Int)] W fun e w' => e = .returned (.bool (dotA X.l j c)) ∧ MS X w' now fst line head v D := by
  have H : Hid (∀ W', MS X W' now fst line head v D → Calls Tryd.prog 14 #[.pointer (some ⟨X.b, 0, none⟩)] W' fun e w' => e = .returned (.int .i64 (kl X.l j : Int)) ∧ MS X w' now fst line head v D) := fun W' h' => class_any hC h' hj
  by_cases h5 : kl X.l j = 5
  · obtain ⟨hjl, hb⟩ := kl5 h5
    have hj1 := hj.asc hjl (by omega)
    have hlt := hj1.lt
    have hle := hj.le
    have hlen := hC.len
    have n0 : (0 : Int) ≤ (now : Int) := by omega
    have n1 : (now : Int) + 1 < ((chars X.l 0).length : Int) := by omega
    have n2 : (0 : Int) ≤ (now : Int) + 1 := by omega
    rw [h5] at H
    obtain ⟨r, hr⟩ : ∃ r, chr X.l (j + 1) = r := ⟨_, rfl⟩
    have HX : Hid (∀ W', MS X W' now fst line head v D → W'.cell? ⟨X.b, 1, none⟩ = some (.slice (some ⟨X.g, 0, none⟩) (chars X.l 0).length X.cap) ∧ W'.cell? ⟨X.b, 2, none⟩ = some (.int .i64 (now : Int)) ∧ W'.cell? ⟨X.g, (now + 1) * 2, none⟩ = some (.int .i32 r)) := fun W' h' => ⟨h'.c1, h'.c2, by rw [← hr]; exact h'.cr hC hj1⟩
    have HR : Hid (dotA X.l j c = decide (cls r = c)) := by unfold Hid dotA; rw [h5]; unfold kl; rw [hr]; rfl
    rw [HR.out]
    clear hr hj hj1 h5 hb
    go_enter Tryd.func22, Tryd.ntmps22
    go_wp2_with fail
    refine quiet_lit3 (C := fun W => MS X W now fst line head v D) (by kernel_rfl) (by kernel_rfl) (MS.drew h) ?_
    go_big_quiet_want
    go_big_quiet_op
    go_big_quiet_on
    go_big_quiet_want
    refine ⟨.int .i64 5, fun W hW => ?_, ?_⟩
    · go_simp
      refine (H.out W hW).mono ?_
      rintro e w7 ⟨rfl, hb⟩
      exact ⟨rfl, hb⟩
    go_big_quiet_on
    simp only [Act.put, List.setIfInBounds_toArray, List.set_cons_zero, List.set_cons_succ]
    go_big_quiet_want
    refine ⟨.bool true, fun W hW => ?_, ?_⟩
    · go_simp
    go_big_quiet_on
    simp only [Act.put, List.setIfInBounds_toArray, List.set_cons_zero, List.set_cons_succ]
    go_big_quiet_want
    go_big_quiet_op
    go_big_quiet_on
    go_big_quiet_want
    go_big_quiet_op
    go_big_quiet_on
    go_big_quiet_want
    refine ⟨.pointer (some ⟨X.b, 0, none⟩), fun W hW => ?_, ?_⟩
    · go_simp
    go_big_quiet_on
    simp only [Act.put, List.setIfInBounds_toArray, List.set_cons_zero, List.set_cons_succ]
    go_big_quiet_want
    refine ⟨.pointer (some ⟨X.b, 1, none⟩), fun W hW => ?_, ?_⟩
    · go_simp
    go_big_quiet_on
    simp only [Act.put, List.setIfInBounds_toArray, List.set_cons_zero, List.set_cons_succ]
    go_big_quiet_want
    refine ⟨.slice (some ⟨X.g, 0, none⟩) (chars X.l 0).length X.cap, fun W hW => ?_, ?_⟩
    · obtain ⟨x1, x2, x3⟩ := HX.out W hW
      go_simp
    go_big_quiet_on
    simp only [Act.put, List.setIfInBounds_toArray, List.set_cons_zero, List.set_cons_succ]
    go_big_quiet_want
    go_big_quiet_op
    go_big_quiet_on
    go_big_quiet_want
    refine ⟨.pointer (some ⟨X.b, 0, none⟩), fun W hW => ?_, ?_⟩
    · go_simp
    go_big_quiet_on
    simp only [Act.put, List.setIfInBounds_toArray, List.set_cons_zero, List.set_cons_succ]
    go_big_quiet_want
    refine ⟨.pointer (some ⟨X.b, 2, none⟩), fun W hW => ?_, ?_⟩
    · go_simp
    go_big_quiet_on
    simp only [Act.put, List.setIfInBounds_toArray, List.set_cons_zero, List.set_cons_succ]
    go_big_quiet_want
    refine ⟨.int .i64 (now : Int), fun W hW => ?_, ?_⟩
    · obtain ⟨x1, x2, x3⟩ := HX.out W hW
      go_simp
    go_big_quiet_on
    simp only [Act.put, List.setIfInBounds_toArray, List.set_cons_zero, List.set_cons_succ]
    go_big_quiet_want
    refine ⟨.int .i64 ((now : Int) + 1), fun W hW => ?_, ?_⟩
    · go_simp
      exact wrapN now (by omega)
    go_big_quiet_on
    simp only [Act.put, List.setIfInBounds_toArray, List.set_cons_zero, List.set_cons_succ]
    go_big_quiet_want
    refine ⟨.pointer (some ⟨X.g, (now + 1) * 2, none⟩), fun W hW => ?_, ?_⟩
    · go_simp
    go_big_quiet_on
    simp only [Act.put, List.setIfInBounds_toArray, List.set_cons_zero, List.set_cons_succ]
    go_big_quiet_want
    refine ⟨.pointer (some ⟨X.g, (now + 1) * 2, none⟩), fun W hW => ?_, ?_⟩
    · go_simp
    go_big_quiet_on
    simp only [Act.put, List.setIfInBounds_toArray, List.set_cons_zero, List.set_cons_succ]
    go_big_quiet_want
    refine ⟨.int .i32 r, fun W hW => ?_, ?_⟩
    · obtain ⟨x1, x2, x3⟩ := HX.out W hW
      go_simp
    go_big_quiet_on
    simp only [Act.put, List.setIfInBounds_toArray, List.set_cons_zero, List.set_cons_succ]
    go_big_quiet_want
    refine ⟨.int .i64 (cls r : Int), fun W hW => ?_, ?_⟩
    · go_simp
      refine (classOf_any r W).mono ?_
      rintro e w7 ⟨rfl, rfl⟩
      exact ⟨rfl, hW⟩
    go_big_quiet_on
    simp only [Act.put, List.setIfInBounds_toArray, List.set_cons_zero, List.set_cons_succ]
    go_big_quiet_want
    go_big_quiet_op
    go_big_quiet_on
    go_big_quiet_want
    refine ⟨.bool (decide (cls r = c)), fun W hW => ?_, ?_⟩
    · go_simp
      exact dec_int _ _
    go_big_quiet_on
    simp only [Act.put, List.setIfInBounds_toArray, List.set_cons_zero, List.set_cons_succ]
    go_big_quiet_want
    refine ⟨.bool (decide (cls r = c)), fun W hW => ?_, ?_⟩
    · go_simp
    go_big_quiet_on
    simp only [Act.put, List.setIfInBounds_toArray, List.set_cons_zero, List.set_cons_succ]
    go_big_quiet_want
    go_big_quiet_op
    go_big_quiet_on
    refine wpQuiet_nil ?_
    intro W hW
    go_wp2_with fail
    go_ret
    exact ⟨rfl, hW⟩
  · have e5 : ((kl X.l j : Int) == 5) = false := by rw [beq_eq_false_iff_ne]; omega
    have HR : Hid (dotA X.l j c = false) := by unfold Hid dotA; rw [decide_eq_false h5]; rfl
    rw [HR.out]
    obtain ⟨k, hk⟩ : ∃ k, kl X.l j = k := ⟨_, rfl⟩
    rw [hk] at H e5
    have hM : Hid (MS X W now fst line head v D) := h
    clear h5 hk hj h hC
    go_enter Tryd.func22, Tryd.ntmps22
    go_wp2_with fail
    refine quiet_lit3 (C := fun W => MS X W now fst line head v D) (by kernel_rfl) (by kernel_rfl) (MS.drew hM.out) ?_
    go_big_quiet_want
    go_big_quiet_op
    go_big_quiet_on
    go_big_quiet_want
    refine ⟨.int .i64 (k : Int), fun W hW => ?_, ?_⟩
    · go_simp
      refine (H.out W hW).mono ?_
      rintro e w7 ⟨rfl, hb⟩
      exact ⟨rfl, hb⟩
    go_big_quiet_on
    simp only [Act.put, List.setIfInBounds_toArray, List.set_cons_zero, List.set_cons_succ]
    go_big_quiet_want
    refine ⟨.bool false, fun W hW => ?_, ?_⟩
    · go_simp
    go_big_quiet_on
    simp only [Act.put, List.setIfInBounds_toArray, List.set_cons_zero, List.set_cons_succ]
    go_big_quiet_want
    go_big_quiet_op
    go_big_quiet_on
    go_big_quiet_skip
    go_big_quiet_skip
    go_big_quiet_skip
    go_big_quiet_skip
    go_big_quiet_skip
    go_big_quiet_skip
    go_big_quiet_skip
    go_big_quiet_skip
    go_big_quiet_skip
    go_big_quiet_skip
    go_big_quiet_skip
    go_big_quiet_skip
    go_big_quiet_skip
    go_big_quiet_skip
    go_big_quiet_skip
    go_big_quiet_want
    refine ⟨.bool false, fun W hW => ?_, ?_⟩
    · go_simp
    go_big_quiet_on
    simp only [Act.put, List.setIfInBounds_toArray, List.set_cons_zero, List.set_cons_succ]
    go_big_quiet_want
    go_big_quiet_op
    go_big_quiet_on
    refine wpQuiet_nil ?_
    intro W hW
    go_wp2_with fail
    go_ret
    exact ⟨rfl, hW⟩
end Go.Proofs.YthlgjdadkmpbbaaDoor
namespace Go.Proofs.YthlgjdadkmpbbaaDoor
open Go.RowKit Go.Shelf
theorem MS.grb {X : MX} {W W5 : World} {now fst line head : Nat} {v : Value} {D : List Tok} (h : MS X W now fst line head v D) (hg : W.grownBy W5 v.ownBlock) :
    W5.heap[X.b]? = some (.cells (mcells X now fst line head v) 38 (0, 0)) ∧ W5.heap[X.g]? = some (.cells X.gc 43 X.gf) ∧ Below X.w0.heap.size X.w0 W5 :=
  ⟨(hg.block X.b (lt_of_get h.blk) (fun e => own_not h.own h.blk (by decide) e.symm)).trans h.blk, (hg.block X.g (lt_of_get h.gk) (fun e => own_not h.own h.gk (by decide) e.symm)).trans h.gk, h.bel.grown hg h.bel.size (fun k e => (h.own.lt k e).1)⟩
theorem MS.after {X : MX} {W W5 : World} {now fst line head : Nat} {v : Value} {D : List Tok} (h : MS X W now fst line head v D) (hg : W.grownBy W5 v.ownBlock) :
    W5.cell? ⟨X.b, 6, none⟩ = some v ∧ W5.cell? ⟨X.b, 4, none⟩ = some (.int .i64 (line : Int)) ∧ W5.frozen? ⟨X.b, 6, none⟩ = false := by
  have hb := (h.grb hg).1
  exact ⟨cell_of_row W5 X.b 6 _ _ _ hb, cell_of_row W5 X.b 4 _ _ _ hb, by simp [World.frozen?, hb]⟩
theorem MS.hand {X : MX} (hC : MC X) {W W5 : World} {now fst line head : Nat} {v : Value} {D : List Tok} (h : MS X W now fst line head v D) {t : Tok} {g5 c5 : Nat}
    (ho : W5.ownsRow X.w0.heap.size 29 4 (.slice (some ⟨g5, 0, none⟩) (D.length + 1) c5) (D.length + 1) (tcels D ++ tcel t)) (hg : W.grownBy W5 v.ownBlock) :
    MS X (W5.setCell ⟨X.b, 6, none⟩ (.slice (some ⟨g5, 0, none⟩) (D.length + 1) c5)) now fst line head (.slice (some ⟨g5, 0, none⟩) (D.length + 1) c5) (D ++ [t]) := by
  obtain ⟨hb, hgg, hbel⟩ := h.grb hg
  refine ⟨?_, (heap_setCell_other W5 ⟨X.b, 6, none⟩ X.g _ h.bg).trans hgg, ?_, hbel.setCell (p := ⟨X.b, 6, none⟩) hC.bB _⟩
  · rw [heap_setCell_same W5 X.b 6 _ _ _ hb]; rfl
  · rw [List.length_append, tcels_snoc]
    exact ownsRow_setCell_other ho (a := ⟨X.b, 6, none⟩) (own_not ho hb (by decide)) _
set_option maxRecDepth 100000 in
set_option maxHeartbeats 2000000 in
theorem hand_any {X : MX} (hC : MC X) {W : World} {now fst line head : Nat} {v : Value} {D : List Tok} (h : MS X W now fst line head v D) (kind : Nat) (t : List UInt8) (ch : Nat) (hh : head ≤ ch) (hm : ch ≤ 16384) (hD : D.length ≤ 65536) :
    Calls Tryd.prog 24 #[.pointer (some ⟨X.b, 0, none⟩), .int .i64 (kind : Int), .string ⟨t.toArray⟩, .int .i64 (ch : Int)] W fun e w' => e = .returned (.tuple #[]) ∧ ∃ v', MS X w' now fst line head v' (D ++ [(kind, t, line, ch - head + 1)]) := by
  obtain ⟨i0, hi, hz0, hz1, hz2⟩ := info_parts info_tok
  have hc4 := h.c4
  have hc6 := h.c6
  have f6 := h.fz 6
  have HCol := column_any h.drew hh hm
  have hB := h.bel.size
  obtain ⟨c, hc⟩ : ∃ c, ch - head + 1 = c := ⟨_, rfl⟩
  rw [hc] at HCol ⊢
  have hown := h.own
  have hownd := h.drew.own
  obtain ⟨qv, cv, rfl⟩ := shapeP hown
  have hM : Hid (MS X W now fst line head (.slice qv D.length cv) D) := h
  have hbs : X.b < W.heap.size := lt_of_get h.blk
  clear hc h hh hm
  go_enter Tryd.func24, Tryd.ntmps24
  go_wp2_with fail
  go_region_law ((first | (refine step_append_lies _ (by rfl) _ _ 23 (by rfl) X.w0.heap.size 29 i0 _ 4 40 Tryd.underlying23 hi hz0 hz1 hz2 rfl (by decide) _ D.length (tcels D) (by rfl) (by first | exact hownd.alloc _ | exact hown.alloc _) ⟨W.heap.size, 0, none⟩ 1 1 (tcel (kind, t, line, c)) (by rfl) rfl (World.news_of_block (cs := #[.int .i64 (kind : Int), .string ⟨t.toArray⟩, .int .i64 (line : Int), .int .i64 (c : Int)]) (t := 29) (fr := (0, 0)) (heap_alloc_new _ _)) (by simp [tcel, Value.oneCell']) (by decide) (by unfold maxLen; omega) (by omega) (by simp; omega) _ rfl ?_; intro g5 c5 w5 oB hg5 _ _; obtain ⟨y6, y4, z6⟩ := (MS.drew (MS.alloc hM.out _)).after hg5; clear hc4 hc6) | (go_simp; go_at_call 11; refine HCol.mono ?_; rintro e w1 ⟨rfl, rfl⟩)))
  all_goals
    go_wp2_with fail
    go_end0
    exact ⟨rfl, _, MS.hand hC (MS.drew (MS.alloc hM.out _)) oB hg5⟩
end Go.Proofs.YthlgjdadkmpbbaaDoor
