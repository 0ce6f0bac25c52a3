import Derived.Test.YtfhlgncpleleaaaDoorUD
namespace Go.Proofs.YtfhlgncpleleaaaDoor
open Go.RowKit Go.Shelf
/-- the table of words, but for its first -/
def TWD (w : World) : Prop := ∀ j : Nat, 1 ≤ j → j < 10 → w.cell? ⟨0, j, none⟩ = some (.string ⟨(wdT.getD j []).toArray⟩)
theorem WB.below {B b : Nat} {l : List UInt8} {w X : World} (h : WB B b l w) (hb : Below w.heap.size w X) : WB B b l X := by
  have at_ : ∀ {p : Value}, Lib.BuilderAt 39 5 B b p (Lib.byteCells l) w → Lib.BuilderAt 39 5 B b p (Lib.byteCells l) X := by
    rintro p ⟨h1, v, h2, h3, h4⟩
    exact ⟨h1, v, keepZ hb h2, own_belZ h3 hb, h4⟩
  rcases h with ⟨h0, h1, h2⟩ | ⟨h0, h⟩
  · exact .inl ⟨h0, h1, keepZ hb h2⟩
  · exact .inr ⟨h0, h.elim (fun x => .inl (at_ x)) (fun x => .inr (at_ x))⟩
theorem wdK_len (k : Int) : (wdK k).length ≤ 7 := by
  unfold wdK
  split
  · rename_i h
    obtain ⟨j, rfl⟩ : ∃ j : Nat, k = (j : Int) := ⟨k.toNat, by omega⟩
    rw [Int.toNat_natCast]
    have : ∀ j : Fin 10, (wdT.getD j.val []).length ≤ 7 := by decide
    exact this ⟨j, by omega⟩
  · decide
theorem fdT_len (b : Bool) : (fdT b).length ≤ 7 := by cases b <;> decide
theorem pH_len (k : Int) (b : Bool) : (pH k b).length ≤ 15 := by
  have := wdK_len k
  have := fdT_len b
  simp [pH]
  omega
set_option maxRecDepth 100000 in
set_option maxHeartbeats 4000000 in
theorem head_any (B b : Nat) (l : List UInt8) (k : Int) (fd : Bool) (w : World) (h : WB B b l w) (ht : TWD w) (hlen : l.length + 64 ≤ 140737488355328) (hBw : B ≤ w.heap.size) :
    Calls Tryd.prog 14 #[.pointer (some ⟨b, 0, none⟩), .int .i64 k, .bool fd] w fun e w' => QW B b l (pH k fd) w e w' := by
  have hpl := pH_len k fd
  have HW := ws_wb B b l (pH k fd) w h (pH_ne k fd) (by omega) hBw
  have hwl := wdK_len k
  have l1 : ¬ 9223372036854775807 < (wdK k).length + 7 := by omega
  have l2 : ¬ 9223372036854775807 < (wdK k).length + 8 := by omega
  have E1 : Hid (∀ f : List UInt8, fdT fd ++ [10] = f → (⟨(wdK k).toArray⟩ : ByteArray) ++ ⟨f.toArray⟩ = ⟨(pH k fd).toArray⟩) := fun f hf => by rw [baA', ← hf]; rfl
  clear h hlen hpl hwl
  by_cases hk : 0 < k ∧ k < 10
  · have HI := isq_yes k w hk.1 hk.2
    obtain ⟨j, rfl⟩ : ∃ j : Nat, k = (j : Int) := ⟨k.toNat, by omega⟩
    have hc := ht j (by omega) (by omega)
    have e0 : wdK (j : Int) = wdT.getD j [] := by unfold wdK; rw [if_pos hk, Int.toNat_natCast]
    rw [← e0] at hc
    have j0 : (0 : Int) ≤ (j : Int) := by omega
    have j1 : (j : Int) < 10 := hk.2
    obtain ⟨wd, hwd⟩ : ∃ wd, wdK (j : Int) = wd := ⟨_, rfl⟩
    rw [hwd] at hc l1 l2 E1
    clear hk ht e0 hwd
    cases fd
    · have e2 := E1.out [58, 32, 110, 111, 110, 101, 10] rfl
      have E2 : Hid _ := e2
      clear E1 e2
      go_enter Tryd.func14, Tryd.ntmps14
      go_wp2_with fail
      refine HI.mono ?_
      rintro e w0 ⟨rfl, rfl⟩
      go_wp2_with fail
      rw [E2.out]
      refine HW.mono ?_
      rintro e w1 ⟨rfl, h1, h2, h3⟩
      go_wp2_with fail
      go_end0
      exact ⟨rfl, h1, h2, h3⟩
    · have e2 := E1.out [58, 32, 102, 111, 117, 110, 100, 10] rfl
      have E2 : Hid _ := e2
      clear E1 e2
      go_enter Tryd.func14, Tryd.ntmps14
      go_wp2_with fail
      refine HI.mono ?_
      rintro e w0 ⟨rfl, rfl⟩
      go_wp2_with fail
      rw [E2.out]
      refine HW.mono ?_
      rintro e w1 ⟨rfl, h1, h2, h3⟩
      go_wp2_with fail
      go_end0
      exact ⟨rfl, h1, h2, h3⟩
  · have HI := isq_no k w hk
    have e0 : wdK k = [114, 101, 112, 108, 121] := if_neg hk
    rw [e0] at E1
    clear hk ht e0 l1 l2
    cases fd
    · have e2 := E1.out [58, 32, 110, 111, 110, 101, 10] rfl
      have E2 : Hid _ := e2
      clear E1 e2
      go_enter Tryd.func14, Tryd.ntmps14
      go_wp2_with fail
      refine HI.mono ?_
      rintro e w0 ⟨rfl, rfl⟩
      go_wp2_with fail
      first | rw [E2.out] | skip
      refine HW.mono ?_
      rintro e w1 ⟨rfl, h1, h2, h3⟩
      go_wp2_with fail
      go_end0
      exact ⟨rfl, h1, h2, h3⟩
    · have e2 := E1.out [58, 32, 102, 111, 117, 110, 100, 10] rfl
      have E2 : Hid _ := e2
      clear E1 e2
      go_enter Tryd.func14, Tryd.ntmps14
      go_wp2_with fail
      refine HI.mono ?_
      rintro e w0 ⟨rfl, rfl⟩
      go_wp2_with fail
      first | rw [E2.out] | skip
      refine HW.mono ?_
      rintro e w1 ⟨rfl, h1, h2, h3⟩
      go_wp2_with fail
      go_end0
      exact ⟨rfl, h1, h2, h3⟩
end Go.Proofs.YtfhlgncpleleaaaDoor
