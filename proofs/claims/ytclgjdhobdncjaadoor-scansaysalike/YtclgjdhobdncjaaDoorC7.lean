import Derived.Test.YtclgjdhobdncjaaDoorC6
import Derived.Test.YtclgjdhobdncjaaDoorAL
import Derived.Test.YtclgjdhobdncjaaDoorVL
import Derived.Laws.OwnMore
namespace Go.Proofs.YtclgjdhobdncjaaDoor
open Go.RowKit Go.Shelf
theorem shO_some {x y : Int} (h : shO x = some y) : 0 ≤ y ∧ y < 256 := by
  unfold shO at h
  repeat' split at h
  all_goals first
    | (injection h with h; omega)
    | cases h
theorem shO_none {x : Int} (h : shO x = none) : ∀ (k : Nat) (z : Int × Int), shortsL[k]? = some z → z.1 ≠ x := by
  intro k z hz e
  subst e
  match k, hz with
  | 0, hz => obtain rfl := Option.some.inj hz; exact absurd h (by decide)
  | 1, hz => obtain rfl := Option.some.inj hz; exact absurd h (by decide)
  | 2, hz => obtain rfl := Option.some.inj hz; exact absurd h (by decide)
  | 3, hz => obtain rfl := Option.some.inj hz; exact absurd h (by decide)
  | 4, hz => obtain rfl := Option.some.inj hz; exact absurd h (by decide)
  | k + 5, hz => simp at hz
theorem shO_of {k : Nat} {z : Int × Int} (hz : shortsL[k]? = some z) : shO z.1 = some z.2 := by
  match k, hz with
  | 0, hz => obtain rfl := Option.some.inj hz; rfl
  | 1, hz => obtain rfl := Option.some.inj hz; rfl
  | 2, hz => obtain rfl := Option.some.inj hz; rfl
  | 3, hz => obtain rfl := Option.some.inj hz; rfl
  | 4, hz => obtain rfl := Option.some.inj hz; rfl
  | k + 5, hz => simp at hz
/-- what escapeAt answers: how many characters, and a row of its own with what is said -/
def escR (w : World) (m : Nat) (b : List UInt8) (e : Ending) (w' : World) : Prop := ∃ v, e = .returned (.tuple #[v, .int .i64 (m : Int)]) ∧ w'.ownsRow w.heap.size 5 1 v b.length (Lib.byteCells b) ∧ Below w.heap.size w w'
set_option maxRecDepth 100000 in
set_option maxHeartbeats 1000000 in
theorem esc_short (ad : Addr) (n cap : Nat) (r : Int) (w : World) (hn : 2 ≤ n) (hn2 : n ≤ 16385) (h1 : w.cell? (ad.add 2) = some (.int .i32 r)) (g1 : r ≠ 120) (g2 : r ≠ 117) (hsh : SH w) :
    Calls Tryd.prog 25 #[.slice (some ad) n cap] w fun e w' => escR w (if shO r = none then 0 else 2) ((shO r).elim [] (fun y => [UInt8.ofNat y.toNat])) e w' := by
  have h1' : w.cell? ⟨ad.block, ad.off + 2, none⟩ = some (.int .i32 r) := by simpa [Addr.add] using h1
  have c0 : w.cell? ⟨0, 0, none⟩ = some (.int .i32 34) := hsh.cell 0
  have c1 : w.cell? ⟨0, 1, none⟩ = some (.int .i32 34) := hsh.cell 1
  have c2 : w.cell? ⟨0, 2, none⟩ = some (.int .i32 92) := hsh.cell 2
  have c3 : w.cell? ⟨0, 3, none⟩ = some (.int .i32 92) := hsh.cell 3
  have c4 : w.cell? ⟨0, 4, none⟩ = some (.int .i32 110) := hsh.cell 4
  have c5 : w.cell? ⟨0, 5, none⟩ = some (.int .i32 10) := hsh.cell 5
  have c6 : w.cell? ⟨0, 6, none⟩ = some (.int .i32 114) := hsh.cell 6
  have c7 : w.cell? ⟨0, 7, none⟩ = some (.int .i32 13) := hsh.cell 7
  have c8 : w.cell? ⟨0, 8, none⟩ = some (.int .i32 116) := hsh.cell 8
  have c9 : w.cell? ⟨0, 9, none⟩ = some (.int .i32 9) := hsh.cell 9
  have hix := fun k z h W => idx_short k z h W
  have e1 : (r == 120) = false := beq_eq_false_iff_ne.2 g1
  have e2 : (r == 117) = false := beq_eq_false_iff_ne.2 g2
  have i1 : (1 : Int) < (n : Int) := by omega
  clear hsh
  obtain ⟨M, hM0⟩ : ∃ M, (if shO r = none then 0 else 2) = M := ⟨_, rfl⟩
  obtain ⟨B, hB0⟩ : ∃ B, ((shO r).elim [] (fun y => [UInt8.ofNat y.toNat])) = B := ⟨_, rfl⟩
  rw [hM0, hB0]
  have hM : Hid ((if shO r = none then 0 else 2) = M) := hM0
  have hBB : Hid (((shO r).elim [] (fun y => [UInt8.ofNat y.toNat])) = B) := hB0
  clear hM0 hB0
  go_enter Tryd.func25, Tryd.ntmps25
  go_wp2_with fail
  go_loopw [17] (fun vk wr => ∃ k : Nat, vk = .int .i64 k ∧ k ≤ 5 ∧ (∀ (j : Nat) (z : Int × Int), j < k → shortsL[j]? = some z → z.1 ≠ r) ∧ Below w.heap.size w wr) (fun vk _ => 5 - (intOf vk).toNat)
  case atStart => exact ⟨0, rfl, by omega, fun j z hj => by omega, Below.refl _ _⟩
  case round =>
    clear c0 c1 c2 c3 c4 c5 c6 c7 c8 c9 h1 h1'
    obtain ⟨k, rfl, hk, hno, hB⟩ := hrel
    by_cases hk5 : k < 5
    · have hk5' : (k : Int) < 5 := by omega
      obtain ⟨z, hz⟩ : ∃ z, shortsL[k]? = some z := ⟨_, List.getElem?_eq_getElem hk5⟩
      have hx := fun W => hix k z hz W
      obtain ⟨z1, z2⟩ := z
      simp only at hx
      have HN : Hid (∀ (j : Nat) (z : Int × Int), j < k → shortsL[j]? = some z → z.1 ≠ r) := hno
      have HZ : Hid (shortsL[k]? = some (z1, z2)) := hz
      clear hix hno hz
      by_cases hzr : z1 = r
      · subst hzr
        have ho := shO_of HZ.out
        have hq := shO_some ho
        have hm : M = 2 := by rw [← hM.out, ho]; rfl
        have hb : B = [UInt8.ofNat z2.toNat] := by rw [← hBB.out, ho]; rfl
        subst hm hb
        clear hM hBB HN HZ
        have hsz := hB.size
        go_wp2_with fail
        go_ret2
        refine ⟨_, rfl, ?_, (hB.alloc hsz _).alloc (by simp; omega) _⟩
        have := World.ownsRow_lit (base := w.heap.size) (e := 5) (size := 1) (wr.alloc (Obj.cells #[Value.int IntKind.i32 z1, Value.int IntKind.i32 z2] 46)) #[Value.int .u8 z2] 1 (by simp; omega) (by unfold maxLen; omega) rfl
        have e : [Value.int .u8 z2] = Lib.byteCells [UInt8.ofNat z2.toNat] := congrArg (fun x => [x]) (hv8 _ _ (by omega) (by omega))
        rw [← e]
        simpa using this
      · have hzr' : (z1 == r) = false := beq_eq_false_iff_ne.2 hzr
        have hsz := hB.size
        have HN2 : Hid (∀ (j : Nat) (z : Int × Int), j < k + 1 → shortsL[j]? = some z → z.1 ≠ r) := fun j z hj hz => by
          by_cases h : j = k
          · subst h
            rw [HZ.out] at hz
            rw [← Option.some.inj hz]
            exact hzr
          · exact HN.out j z (by omega) hz
        clear HN HZ
        go_wp2_with fail
        go_roundw
        case rel => exact ⟨k + 1, by go_num, by omega, HN2.out, hB.alloc hsz _⟩
        case measure => simp [intOf]; omega
    · have hk5' : ¬ (k : Int) < 5 := by omega
      have ho : shO r = none := by
        cases h : shO r with
        | none => rfl
        | some y =>
          refine absurd h ?_
          have hn0 := hno 0 _ (by omega) rfl
          have hn1 := hno 1 _ (by omega) rfl
          have hn2 := hno 2 _ (by omega) rfl
          have hn3 := hno 3 _ (by omega) rfl
          have hn4 := hno 4 _ (by omega) rfl
          simp only at hn0 hn1 hn2 hn3 hn4
          unfold shO
          rw [if_neg (fun e => hn0 e.symm), if_neg (fun e => hn1 e.symm), if_neg (fun e => hn2 e.symm), if_neg (fun e => hn3 e.symm), if_neg (fun e => hn4 e.symm)]
          intro h
          cases h
      have hm : M = 0 := by rw [← hM.out, ho]; rfl
      have hb : B = [] := by rw [← hBB.out, ho]; rfl
      subst hm hb
      clear hix hM hBB ho hno
      go_wp2_with fail
      go_ret2
      exact ⟨_, rfl, World.ownsRow_nil _ _ _ _, hB⟩
end Go.Proofs.YtclgjdhobdncjaaDoor
