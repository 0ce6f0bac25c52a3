import Derived.Test.YtkmnonkabekclaaDoorPN
import Derived.Test.YtkmnonkabekclaaDoorPE
import Derived.Shelf.Strconv.Clone
namespace Go.Proofs.YtkmnonkabekclaaDoor
open Go.RowKit Go.Shelf
/-- the lines, unpacked -/
def unW (l : List UInt8) : Option (List (List UInt8)) :=
  if l = [] then some [] else
    match _h : un1 l with
    | none => none
    | some (_, y) => (unW y).map (fun r => ((un1 l).map (·.1)).getD [] :: r)
termination_by l.length
decreasing_by exact (un1_less _h).1
theorem unW_nil : unW [] = some [] := by rw [unW, if_pos rfl]
theorem unW_no {l : List UInt8} (h0 : l ≠ []) (h : un1 l = none) : unW l = none := by
  rw [unW, if_neg h0]
  split
  · rfl
  · rename_i h1
    rw [h] at h1
    cases h1
theorem unW_go {l x y : List UInt8} (h0 : l ≠ []) (h : un1 l = some (x, y)) : unW l = (unW y).map (x :: ·) := by
  rw [unW, if_neg h0]
  split
  · rename_i h1
    rw [h] at h1
    cases h1
  · rename_i x' y' h1
    rw [h] at h1
    injection h1 with h1
    injection h1 with e1 e2
    subst e1 e2
    rw [h]
    rfl
def sLen : Value → Nat
  | .string b => b.size
  | _ => 0
theorem clone_any (l : List UInt8) (w : World) (hl : l.length ≤ 16384) :
    Calls Tryd.prog 35 #[.string ⟨l.toArray⟩] w fun e w' => e = .returned (.string ⟨l.toArray⟩) ∧ Below w.heap.size w w' := by
  have HC : Calls Tryd.prog 43 #[.string ⟨l.toArray⟩] w fun e w' => e = .returned (.string ⟨l.toArray⟩) ∧ Below w.heap.size w w' := Any.stringslite_Clone Tryd.l316 ⟨l.toArray⟩ w (by simp [ByteArray.size]; omega)
  go_enter Tryd.func35, Tryd.ntmps35
  go_wp2_with fail
  refine HC.mono ?_
  rintro e w2 ⟨rfl, b2⟩
  go_wp2_with fail
  go_ret
  exact ⟨rfl, b2⟩
/-- what Unpack answers -/
def UNQ (l : List UInt8) (w : World) (e : Ending) (w' : World) : Prop :=
  (∃ v E, e = .returned (.tuple #[v, .int .i64 (E : Int)]) ∧ ((16384 < l.length ∧ E = 2 ∧ v = .slice none 0 0) ∨ (l.length ≤ 16384 ∧ ((unW l = none ∧ E = 193 ∧ v = .slice none 0 0) ∨ ∃ L, unW l = some L ∧ E = 0 ∧ OS w' w.heap.size v L)))) ∧ Below w.heap.size w w'
theorem OS_nil (W : World) (B : Nat) : OS W B (.slice none 0 0) [] := World.ownsRow_nil _ _ _ _
set_option maxRecDepth 100000 in
set_option maxHeartbeats 4000000 in
theorem unpack_any (l : List UInt8) (w : World) (hlm : l.length ≤ 281474976710656) (hv : VWP w) :
    Calls Tryd.prog 21 #[.string ⟨l.toArray⟩] w (UNQ l w) := by
  have HV : Hid (∀ W, Below w.heap.size w W → VWP W) := fun W h => hv.below h
  clear hv
  by_cases h1 : 16384 < l.length
  · have h1' : (16384 : Int) < (l.length : Int) := by omega
    have HE : Hid (UNQ l w (.returned (.tuple #[.slice none 0 0, .int .i64 ((2 : Nat) : Int)])) w) := ⟨⟨_, 2, rfl, .inl ⟨h1, rfl, rfl⟩⟩, Below.refl _ _⟩
    go_enter Tryd.func21, Tryd.ntmps21
    go_wp2_with fail
    go_ret2
    exact HE.out
  have h1' : ¬ (16384 : Int) < (l.length : Int) := by omega
  go_enter Tryd.func21, Tryd.ntmps21
  go_wp2_with fail
  go_loopw [4, 5] (fun va vr wr => ∃ (q : Option Addr) (k c : Nat) (acc : List (List UInt8)) (r : List UInt8), va = .slice q k c ∧ vr = .string ⟨r.toArray⟩ ∧ r.length ≤ l.length ∧ acc.length + r.length ≤ l.length ∧ Hid (OS wr w.heap.size (.slice q k c) acc ∧ Below w.heap.size w wr ∧ unW l = (unW r).map (acc ++ ·))) (fun _ vr _ => sLen vr)
  case atStart => exact ⟨none, 0, 0, [], l, rfl, rfl, Nat.le_refl _, by simp, OS_nil _ _, Below.refl _ _, by simp⟩
  case round =>
    obtain ⟨q, k, c, acc, r, rfl, rfl, hr, hac, HS⟩ := hrel
    by_cases h0 : r = []
    · subst h0
      have HE : Hid (UNQ l w (.returned (.tuple #[.slice q k c, .int .i64 ((0 : Nat) : Int)])) wr) := ⟨⟨_, 0, rfl, .inr ⟨by omega, .inr ⟨acc, by rw [HS.out.2.2, unW_nil]; simp, rfl, HS.out.1⟩⟩⟩, HS.out.2.1⟩
      go_wp2_with fail
      go_ret2
      exact HE.out
    · have HC := cutLine_any r wr (by omega) (HV.out wr HS.out.2.1)
      have e0 : (r == []) = false := beq_eq_false_iff_ne.2 h0
      cases hu : un1 r with
      | none =>
        rw [cuV_no hu] at HC
        have HE : Hid (∀ W, Below wr.heap.size wr W → UNQ l w (.returned (.tuple #[.slice none 0 0, .int .i64 ((193 : Nat) : Int)])) W) := fun W hW => ⟨⟨_, 193, rfl, .inr ⟨by omega, .inl ⟨by rw [HS.out.2.2, unW_no h0 hu]; rfl, rfl, rfl⟩⟩⟩, bel0Z HS.out.2.1 hW⟩
        clear hu h0
        go_wp2_with fail
        refine HC.mono ?_
        rintro e w1 ⟨rfl, b1⟩
        clear HC
        go_wp2_with fail
        go_ret2
        exact HE.out _ b1
      | some p =>
        obtain ⟨x, y⟩ := p
        obtain ⟨hy, hx⟩ := un1_less hu
        have e1 : cuV r = .tuple #[.string ⟨x.toArray⟩, .string ⟨y.toArray⟩, .bool true] := by unfold cuV; rw [hu]
        rw [e1] at HC
        have HU : Hid (unW l = (unW y).map ((acc ++ [x]) ++ ·)) := by
          rw [HS.out.2.2, unW_go h0 hu]
          cases unW y with
          | none => exact rfl
          | some q => simp only [Option.map_some, List.append_assoc, List.singleton_append]; exact trivial
        clear e1 hu h0
        go_wp2_with fail
        refine HC.mono ?_
        rintro e w1 ⟨rfl, b1⟩
        have HS1 : Hid (OS w1 w.heap.size (.slice q k c) acc ∧ Below w.heap.size w w1) := ⟨HS.out.1.below b1, bel0Z HS.out.2.1 b1⟩
        have HK := clone_any x w1 (by omega)
        clear HC b1 HS
        go_wp2_with fail
        refine HK.mono ?_
        rintro e w2 ⟨rfl, b2⟩
        have HS2 : Hid (OS w2 w.heap.size (.slice q k c) acc ∧ Below w.heap.size w w2) := ⟨HS1.out.1.below b2, bel0Z HS1.out.2 b2⟩
        clear HK b2 HS1
        go_wp2_with (at_builtin; refine app_strs rfl _ _ rfl w.heap.size _ acc rfl (HS2.out.1.below (belAZ (Below.refl _ _) _)) _ _ _ [x] rfl rfl (TR_new (alloc_getZ _ _) rfl) (by simp; omega) (belAZ HS2.out.2 _).size ?_)
        intro v3 w3 o3 g3 _
        obtain ⟨q3, c3, rfl⟩ := shapeZ o3
        have b3 : Below w.heap.size w w3 := bel_grZ (belAZ HS2.out.2 _) g3 (fun k e => (World.ownsRow.lt HS2.out.1 k e).1)
        have HS3 : Hid (OS w3 w.heap.size (.slice q3 (acc ++ [x]).length c3) (acc ++ [x]) ∧ Below w.heap.size w w3 ∧ unW l = (unW y).map ((acc ++ [x]) ++ ·)) := ⟨o3, b3, HU.out⟩
        clear o3 g3 b3 HS2 HU
        go_wp2_with fail
        exact ⟨⟨q3, _, c3, acc ++ [x], y, rfl, rfl, by omega, by simp; omega, HS3⟩, by simp only [sLen]; simp [ByteArray.size]; omega⟩
end Go.Proofs.YtkmnonkabekclaaDoor
