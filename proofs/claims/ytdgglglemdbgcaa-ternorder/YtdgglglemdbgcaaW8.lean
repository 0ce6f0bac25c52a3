import Derived.Test.YtdgglglemdbgcaaW7
namespace Go.Proofs.Ytdgglglemdbgcaa
open Go.RowKit
theorem res_put2 {fn : Func} {p u : Tmp} {m : Nat × Nat} {x0 x1 x2 x3 x4 x5 x6 x7 x8 : Value} (tmps : Array Value) (W : World) (b : Nat) (n a1 a2 a3 a4 o1 o2 o3 o4 : Int) (hr : fn.results = #[.cell p 26, .tmp u]) (hp : tmps.getD p undef = .pointer (some ⟨b, 0, none⟩))
    (h : W.heap[b]? = some (.cells #[x0, x1, x2, x3, x4, x5, x6, x7, x8] 26 m)) :
    (results fn tmps).run Try.prog (put9 W b (.int .i64 n) (.int .u64 a1) (.int .u64 a2) (.int .u64 a3) (.int .u64 a4) (.int .u64 o1) (.int .u64 o2) (.int .u64 o3) (.int .u64 o4)).drew
      = .ok (.tuple #[cv n a1 a2 a3 a4 o1 o2 o3 o4, tmps.getD u undef]) (put9 W b (.int .i64 n) (.int .u64 a1) (.int .u64 a2) (.int .u64 a3) (.int .u64 a4) (.int .u64 o1) (.int .u64 o2) (.int .u64 o3) (.int .u64 o4)).drew := by
  have hg := put9_get (.int .i64 n) (.int .u64 a1) (.int .u64 a2) (.int .u64 a3) (.int .u64 a4) (.int .u64 o1) (.int .u64 o2) (.int .u64 o3) (.int .u64 o4) h
  generalize put9 W b (.int .i64 n) (.int .u64 a1) (.int .u64 a2) (.int .u64 a3) (.int .u64 a4) (.int .u64 o1) (.int .u64 o2) (.int .u64 o3) (.int .u64 o4) = V at hg ⊢
  exact res_cube2 tmps V.drew b n a1 a2 a3 a4 o1 o2 o3 o4 hr hp hg

theorem undrew {B : Nat} {a w : World} (h : Below B a.drew w) : Below B a w := ⟨h.os, h.tape, h.output, h.size, h.block⟩
theorem blk_keep {w w1 w2 : World} {o O : Obj} (hb1 : Below (w.alloc o).heap.size (w.alloc o) w1) (hb2 : Below (w1.alloc O).heap.size (w1.alloc O) w2) : w2.heap[w.heap.size]? = some o := by
  have hz : w.heap.size < w1.heap.size := by have := hb1.size; simp at this; omega
  rw [hb2.block _ (by simp; omega), Below.heap_alloc _ _ _ hz, hb1.block _ (by simp)]
  exact alloc_get _ _

set_option maxHeartbeats 1000000 in
theorem made_walk (s : ByteArray) (D : List UInt8) (E : Int) (w : World) (hs : s.size ≤ maxLen) (hg : good D = true) (hD0 : cubeT s.data.toList = D) (hE0 : refP s.data.toList = E) :
    Calls Try.prog 7 #[.string s] w fun e w' => e = .returned (.tuple #[cubeV D, .bool true]) ∧ Below w.heap.size w w' := by
  have hD : Hid (cubeT s.data.toList = D) := hD0
  have hE : Hid (refP s.data.toList = E) := hE0
  clear hD0 hE0
  have hl := good_len hg
  have eE : (E == E) = true := by simp
  have eD : (D == D) = true := by simp
  go_enter Try.func7, Try.ntmps7
  go_wp2_with (first | (go_at_call 22; refine (parse_D s _ hs D E hD.out hE.out).mono ?_; rintro e w1 ⟨rfl, hb1⟩; obtain ⟨hc1, hf1⟩ := bcell hb1; have hz1 : w.heap.size < w1.heap.size := by { have := hb1.size; simp at this; omega }; unfold cubeV cv) | (go_at_call 24; refine (refP_E s E _ hs hE.out).mono ?_; rintro e w' ⟨rfl, rfl⟩))
  go_region_with (first | (go_at_call 10; refine (refC_D s D _ hs hD.out).mono ?_; rintro e w' ⟨rfl, rfl⟩) | (go_at_call 25; refine (is_list D D _ hg hl).mono ?_; rintro e w2 ⟨rfl, hb2⟩; rw [eD]; obtain ⟨hc2, hf2⟩ := bcell hb2; have hz2 : w1.heap.size < w2.heap.size := by { have := hb2.size; simp at this; omega }; have hz3 : w.heap.size < w2.heap.size := Nat.lt_trans hz1 hz2))
  all_goals go_wp2
  all_goals go_region_with (go_at_call 18; refine (num_any _ _).mono ?_; rintro e w' ⟨rfl, rfl⟩)
  all_goals go_wp2
  all_goals
    have hk := blk_keep hb1 (undrew hb2)
    have hB2 := bel2 (bel1 hb1) (undrew hb2)
    clear hc1 hc2 hf1 hf2 hb1 hb2 hz1 hz2 hz3
    refine bodyPost_ret (v := .tuple #[cubeV D, .bool true]) ?_ ?_ ?_
    · exact res_put2 _ w2 w.heap.size _ _ _ _ _ _ _ _ _ Try.results7 rfl hk
    · rfl
    · exact ⟨rfl, Below.drew (put9_below _ _ _ _ _ _ _ _ _ hB2 (Nat.le_refl _))⟩

theorem made_any (s : ByteArray) (w : World) (hs : s.size ≤ maxLen) :
    Calls Try.prog 7 #[.string s] w fun e w' => e = .returned (.tuple #[cubeV (cubeT s.data.toList), .bool true]) ∧ Below w.heap.size w w' :=
  made_walk s _ _ w hs (good_cubeT _) rfl rfl

theorem made_D (s : ByteArray) (D : List UInt8) (w : World) (hs : s.size ≤ maxLen) (h : cubeT s.data.toList = D) :
    Calls Try.prog 7 #[.string s] w fun e w' => e = .returned (.tuple #[cubeV D, .bool true]) ∧ Below w.heap.size w w' := by
  subst h; exact made_any s w hs
end Go.Proofs.Ytdgglglemdbgcaa
