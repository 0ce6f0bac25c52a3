import Derived.Test.YtfcdaljhbeogeaaBN
namespace Go.Proofs.Ytfcdaljhbeogeaa
open Go.RowKit
theorem info_int8 : (Try.prog.info? 3).map (fun i => (i.zero, i.size, i.bytes)) = some (some (.int .i64 0), 1, 8) := by kernel_rfl
set_option maxRecDepth 100000 in
set_option maxHeartbeats 1000000 in
theorem hput_any {X : HX} (C : HC X) {lt : Nat → Nat → Bool} (S : SWO lt) {N : Nat} (F : FA X lt N) {W : World} {v : Value} {V : List Nat} (h : HS X W v V) (hh : hp lt V) (hV : ∀ x ∈ V, x < N) (hl : V.length ≤ 65535) {x : Nat} (hx : x < N) : Calls Try.prog 52 #[.pointer (some ⟨X.hb, X.ho, none⟩), .int .i64 (x : Int)] W fun e w' => e = .returned (.tuple #[]) ∧ ∃ v' V', V'.Perm (V ++ [x]) ∧ hp lt V' ∧ HS X w' v' V' := by
  obtain ⟨i0, hi, hz0, hz1, hz2⟩ := info_parts info_int8
  have hc := h.c0 C
  have hA : HS X (W.alloc (.cells #[.int .i64 (x : Int)] 3)) v V := h.below C ((Below.refl _ _).alloc (Nat.le_refl _) _)
  have HA : Hid (HS X (W.alloc (.cells #[.int .i64 (x : Int)] 3)) v V) := hA
  have ow := hA.own
  have hbw := hA.bw C
  obtain ⟨q, c, rfl⟩ := shapeP h.own
  have HRI : Hid (∀ (W2 : World) (v2 : Value), HS X W2 v2 (V ++ [x]) → Calls Try.prog 63 #[.pointer (some ⟨X.hb, X.ho, none⟩), .int .i64 (V.length : Int)] W2 fun e w' => e = .returned (.tuple #[]) ∧ ∃ V', V'.Perm (V ++ [x]) ∧ hp lt V' ∧ HS X w' v2 V') := fun W2 v2 h2 => by
    refine hrise_any C S F h2 (fun y hy => ?_) (by simp; omega) (by simp) (HR_put hh x)
    rcases List.mem_append.1 hy with hy | hy
    · exact hV y hy
    · rw [List.mem_singleton.1 hy]; exact hx
  have CC : Hid (HC X) := C
  have em : V.map nv ++ [.int .i64 (x : Int)] = (V ++ [x]).map nv := by simp [nv]
  have el : (V ++ [x]).length = V.length + 1 := by simp
  obtain ⟨n, hn⟩ : ∃ n, V.length = n := ⟨_, rfl⟩
  rw [hn] at hc ow HRI HA el
  clear h hA hh hV hx F S C
  go_enter Try.func52, Try.ntmps52
  go_wp2_with (at_builtin; refine wpList_append_own _ rfl _ _ 23 rfl X.B 3 i0 _ 1 8 Try.underlying23 hi hz0 hz1 hz2 rfl (by decide) _ _ _ rfl ow ⟨_, 0, none⟩ 1 1 [.int .i64 (x : Int)] rfl rfl (World.news_of_block (cs := #[.int .i64 (x : Int)]) (t := 3) (fr := (0, 0)) (alloc_get _ _)) (by simp [Value.oneCell']) (by unfold maxLen; omega) (by omega) hbw ?_; intro v6 w6 oB hg6 _; rw [em, ← el] at oB; have b6 := (hg6.block _ (lt_of_get HA.out.blk) (fun e => HA.out.nb CC.out e.symm)).trans HA.out.blk; have c6 := (cell_of_row w6 X.hb X.ho _ _ _ b6).trans ((cell_of_row _ X.hb X.ho _ _ _ HA.out.blk).symm.trans (HA.out.c0 CC.out)); have z6 : w6.frozen? ⟨X.hb, X.ho, none⟩ = false := (by simp [World.frozen?, b6]); clear b6; have h6 := HA.out.set CC.out hg6 oB; have c7 := h6.c0 CC.out; have HR6 : Hid (Calls Try.prog 63 #[.pointer (some ⟨X.hb, X.ho, none⟩), .int .i64 (n : Int)] (w6.setCell ⟨X.hb, X.ho, none⟩ v6) fun e w' => e = .returned (.tuple #[]) ∧ ∃ V', V'.Perm (V ++ [x]) ∧ hp lt V' ∧ HS X w' v6 V') := HRI.out _ _ h6; obtain ⟨p6, q6, rfl⟩ := shapeP oB; rw [el] at c7 HR6; clear h6 oB)
  refine HR6.out.mono ?_
  rintro e W3 ⟨rfl, V3, a1, a2, a3⟩
  go_wp2_with fail
  go_end0
  exact ⟨rfl, _, V3, a1, a2, a3⟩
end Go.Proofs.Ytfcdaljhbeogeaa
