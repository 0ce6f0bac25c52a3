import Derived.Test.YtcoipocebkbjgaaDoorY1
import Derived.Test.YtcoipocebkbjgaaDoorV6
import Derived.Test.YtcoipocebkbjgaaDoorVL
import Derived.Laws.Strings3
namespace Go.Proofs.YtcoipocebkbjgaaDoor
open Go.RowKit Go.Shelf

attribute [local go_sem] Oper.semAt_some

theorem index_dot (r : List UInt8) (w : World) : Calls Tryd.prog 68 #[.string ⟨r.toArray⟩, .string ⟨#[46]⟩] w fun e w' => e = .returned (.int .i64 (Lib.indexByte r 46)) ∧ w' = w := Any.strings_Index_one Tryd.l143 ⟨r.toArray⟩ 46 w
theorem cell_of {W : World} {b : Nat} {v : Value} {t : TypeId} {m : Nat × Nat} (h : W.heap[b]? = some (.cells #[v] t m)) : W.cell? ⟨b, 0, none⟩ = some v := by
  unfold World.cell?; rw [h]; simp
theorem froz_of {W : World} {b : Nat} {v : Value} {t : TypeId} (h : W.heap[b]? = some (.cells #[v] t (0, 0))) : W.frozen? ⟨b, 0, none⟩ = false := by
  simp [World.frozen?, h]
def sLen (b : Nat) (W : World) : Nat := match W.cell? ⟨b, 0, none⟩ with
  | some (.string s) => s.size
  | _ => 0
theorem sLen_of {W : World} {b : Nat} {r : List UInt8} (h : W.cell? ⟨b, 0, none⟩ = some (.string ⟨r.toArray⟩)) : sLen b W = r.length := by
  unfold sLen; rw [h]; simp [ByteArray.size]
theorem splitSeq_in (r : List UInt8) (w : World) : Calls Tryd.prog 69 #[.string ⟨r.toArray⟩, .string ⟨#[46]⟩] w fun e w' => e = .returned (.func (.func 107) #[] #[.pointer (some ⟨w.heap.size + 1, 0, none⟩), .pointer (some ⟨w.heap.size, 0, none⟩), .pointer (some ⟨w.heap.size + 1 + 1, 0, none⟩)]) ∧ w' = ((w.alloc (.cells #[.string ⟨r.toArray⟩] 9)).alloc (.cells #[.string ⟨#[46]⟩] 9)).alloc (.cells #[.int .i64 0] 3) := by
  go_enter Tryd.func69, Tryd.ntmps69
  go_wp2
  go_ret
  exact ⟨rfl, rfl⟩

set_option maxRecDepth 100000 in
set_option maxHeartbeats 1000000 in
/-- strings.splitSeq's closure at a dot: the pieces, one behind the other -/
theorem split_in (n : Nat) (hn : 1 ≤ n) (l b : Nat) (J : List UInt8 → World → Prop) (Jx Je : World → Prop)
    (hbox : ∀ r W, J r W → W.heap[b]? = some (.cells #[.string ⟨r.toArray⟩] 9 (0, 0)) ∧ W.heap[b + 1]? = some (.cells #[.string ⟨#[46]⟩] 9 (0, 0)) ∧ W.heap[b + 1 + 1]? = some (.cells #[.int .i64 0] 3 (0, 0)) ∧ r.length ≤ 16384)
    (hY1 : ∀ r W (i : Nat), J r W → Lib.indexByte r 46 = i → YieldAt Fence.wide (n - 1) Tryd.prog l #[.string ⟨(r.take i).toArray⟩] W fun e W' =>
      (e = .returned (.bool true) ∧ W'.heap[b]? = some (.cells #[.string ⟨r.toArray⟩] 9 (0, 0)) ∧ W'.heap[b + 1]? = some (.cells #[.string ⟨#[46]⟩] 9 (0, 0)) ∧ J (r.drop (i + 1)) (W'.setCell ⟨b, 0, none⟩ (.string ⟨(r.drop (i + 1)).toArray⟩))) ∨ (e = .returned (.bool false) ∧ Jx W'))
    (hY2 : ∀ r W, J r W → Lib.indexByte r 46 < 0 → YieldAt Fence.wide (n - 1) Tryd.prog l #[.string ⟨r.toArray⟩] W fun e W' => (∃ x, e = .returned (.bool x)) ∧ Je W')
    (r0 : List UInt8) (W0 : World) (h0 : J r0 W0) :
    CallsIn Fence.wide n Tryd.prog 107 #[.func (.yield l) #[] #[], .pointer (some ⟨b + 1, 0, none⟩), .pointer (some ⟨b, 0, none⟩), .pointer (some ⟨b + 1 + 1, 0, none⟩)] W0 fun e W' => (∃ v, e = .returned v) ∧ (Jx W' ∨ Je W') := by
  obtain ⟨z1, z2, z3, z4⟩ := hbox _ _ h0
  have c2 := cell_of z2
  refine callsIn_of_wp Tryd.func107 rfl trivial ?_ rfl
  simp only [Tryd.ntmps107, List.size_toArray, List.length_cons, List.length_nil, Nat.reduceAdd, Nat.reduceSub, Array.replicate_succ, Array.replicate_zero, List.push_toArray, List.append_toArray, List.nil_append, List.cons_append]
  gi_wp2
  gi_loopw [7] (fun _ wr => ∃ r, J r wr) (fun _ wr => sLen b wr)
  case atStart => exact ⟨r0, h0⟩
  case round =>
    clear z1 z2 z3 z4 c2
    obtain ⟨r, hJ⟩ := hrel
    obtain ⟨z1, z2, z3, z4⟩ := hbox _ _ hJ
    have c1 := cell_of z1
    have c2 := cell_of z2
    have c3 := cell_of z3
    have hI := index_dot r wr
    obtain ⟨di, hdi⟩ : ∃ di, Lib.indexByte r 46 = di := ⟨_, rfl⟩
    have hd1 : -1 ≤ di := by rw [← hdi]; exact Lib.indexByte_ge _ _
    have hd2 : di < r.length := by rw [← hdi]; exact idx_lt _ _
    rw [hdi] at hI
    by_cases hneg : di < 0
    · obtain ⟨fn, tmps, assign, body, hy, hR⟩ := hY2 r wr hJ (by rw [hdi]; exact hneg)
      gi_wp2_with (refine ⟨trivial, ?_⟩; gi_at_call 68; refine (callsIn_wide.2 hI).mono ?_; rintro e w' ⟨rfl, rfl⟩)
      refine hR.mono ?_
      rintro e W3 ⟨⟨x, rfl⟩, hJe⟩
      gi_wp2
      go_end0
      exact ⟨⟨_, rfl⟩, .inr hJe⟩
    · obtain ⟨i, rfl⟩ : ∃ i : Nat, di = i := ⟨di.toNat, by omega⟩
      have hnn : ¬ (i : Int) < 0 := by omega
      obtain ⟨fn, tmps, assign, body, hy, hR⟩ := hY1 r wr i hJ hdi
      have hE1 := ext_take r i
      have hE2 := ext_drop r (i + 1)
      gi_wp2_with (refine ⟨trivial, ?_⟩; gi_at_call 68; refine (callsIn_wide.2 hI).mono ?_; rintro e w' ⟨rfl, rfl⟩)
      refine hR.mono ?_
      rintro e W3 (⟨rfl, y1, y2, hJ3⟩ | ⟨rfl, hJx3⟩)
      · have d1 := cell_of y1
        have d2 := cell_of y2
        have f1 := froz_of y1
        have hm : sLen b (W3.setCell ⟨b, 0, none⟩ (.string ⟨(r.drop (i + 1)).toArray⟩)) < sLen b w' := by
          rw [sLen_of c1, sLen_of (cell_of (hbox _ _ hJ3).1)]
          simp; omega
        have HM : Hid (sLen b (W3.setCell ⟨b, 0, none⟩ (.string ⟨(r.drop (i + 1)).toArray⟩)) < sLen b w') := hm
        clear hm
        gi_wp2
        go_roundw
        case rel => exact ⟨_, hJ3⟩
        case measure => exact HM.out
      · gi_wp2
        refine bodyPost_ret (results_none rfl _ _ _) rfl ?_
        exact ⟨⟨_, rfl⟩, .inl hJx3⟩
end Go.Proofs.YtcoipocebkbjgaaDoor
