import Derived.Test.YtpbbmmkhlpkkbaaGreatDoorXE3
import Derived.Test.YtpbbmmkhlpkkbaaGreatDoorRows
import Derived.Test.YtpbbmmkhlpkkbaaGreatDoorCards
import Derived.Test.YtpbbmmkhlpkkbaaGreatDoorTie
import Derived.SizedLaws
import Derived.ChangeSame
import Derived.ChangeVars
import Derived.ChangeMaps5
import Derived.JoinedOf
import Derived.JoinedAt
import Derived.RowKit
import Derived.RowKit3
import Derived.RowKitTokens
import Derived.LaidLaws
import Derived.Lib.LaidTab
import Derived.Stop.LaidErr
import Derived.Handed
import Derived.ProofKit
import Derived.OpenShut
import Derived.ShutString
import Derived.ChangeOld
import Derived.Below
import Derived.Carry
import Derived.SliceStrings
namespace Go.Proofs.YtpbbmmkhlpkkbaaGreatDoor
open Go.ChangeShapes Go.WideShapes Go.ChangeAt Go.RowKit
open Go.ChangeMaps (open_string shut_string)

theorem laidU : laidOutB Tryz.prog = true := by kernel_rfl
theorem own_knobU : ownKnob Tryz.prog.godebug = none := by kernel_rfl
def cellsE : DataW Unit → List Value
  | .lit (.int k z) => [.int k z]
  | .lit (.string z) => [.string ⟨z.toArray⟩]
  | _ => []
def cellsF : DataW Unit → List Value
  | .agg xs => xs.flatMap cellsE
  | d => cellsE d
def cellsG : DataW Unit → List Value
  | .agg xs => xs.flatMap cellsF
  | d => cellsF d
def cellsV : DataW Unit → Array Value
  | .agg xs => (xs.flatMap cellsG).toArray
  | _ => #[]
def layV (d : DataW Unit) : Obj → Obj
  | .cells _ t frozen => .cells (cellsV d) t frozen
  | o => o
/-- the settled world with the tables as their initialisers lay them -/
noncomputable def laidWorldU (os : Os) : World :=
  let w0 := World.holding Tryz.prog os ⟨#[], #[], []⟩
  { w0 with heap := ((w0.heap.modify 2 (layV Rows.laid_unicode_utf8_acceptRanges)).modify 1 (layV Rows.laid_unicode_utf8_first)) }
theorem laid_metU (os : Os) (args : Array Value) : laidMet Tryz.prog Rows.spaceEdgesRow.laid ((laidWorldU os).forCall (fun _ _ => 0) ⟨#[], args, []⟩).memory :=
  laidMet_of_run' 8 (by kernel_rfl) (by kernel_rfl)
set_option maxRecDepth 100000 in
theorem spaceEdges_lifted (os : Os) (started : os.Started) (H : Type) (enc : TypeId × Value → H) :
    ReturnsInHanded {} Tryz.checked os 3 .any (fun w args => (Rows.spaceEdgesSpec.pre enc Tryz.prog Tryz.f3 Rows.spaceEdgesRow.domain false w args ∧ laidMet Tryz.prog Rows.spaceEdgesRow.laid w) ∧ sizedMet enc Tryz.prog Tryz.f3 (OpenSpec.ofChange Rows.spaceEdgesSpec) false w args)
      (Rows.spaceEdgesSpec.post enc Tryz.prog Tryz.f3 false true false false) := by
  refine returnsInHanded_of_change_and (C := Tryz.checked) (X := fun w _ => laidMet Tryz.prog Rows.spaceEdgesRow.laid w) (fun _ _ _ hh h => h.of_heap hh) own_knobU started (by kernel_rfl) Tryz.func3
    (ChangeSpec.witness_at (enc := enc) (C := Tryz.checked) (os := os) (X := fun w _ => laidMet Tryz.prog Rows.spaceEdgesRow.laid w) false (laidWorldU os) #[] 8 rfl (by kernel_rfl) (by kernel_rfl) (by kernel_rfl) (by kernel_rfl) (by kernel_rfl) (laid_metU os _)) ?_
  intro W base args ds gs before hval0 hW _ hsz0 _ _
  clear hsz0
  have hW' := hW
  obtain ⟨p, q, hA0, hV, rfl, _, _⟩ := hW
  have hA : DataW.TrodAll enc Tryz.prog W 0 (fun _ => true) true Tryz.f3.params.toList args.toList ds p := hA0
  rw [Tryz.params3] at hA
  obtain ⟨hargs, rfl, rfl⟩ := trodAll_nil hA
  obtain rfl : args = #[] := by cases args; simp_all
  obtain ⟨rfl, rfl⟩ := trodVars_none hV
  clear hA0 hval0
  simp only [List.append_nil] at hW'
  refine (edges_walk  W ).mono fun e W' ⟨he, hnx⟩ => ?_
  subst he
  exact ⟨_, rfl, _, _, _, [], _, [], hW', trodAll_mk1 (shut_bool Tryz.underlying4 _), trodAll_mk0, rfl, hnx.frame _, fun h => by cases h⟩

theorem spaceEdges_row : Rows.SpaceEdgesSaid :=
  OpenClaim.holds_of_wide 3 Tryz.f3 rfl rfl rfl rfl rfl rfl rfl ⟨rfl, rfl, rfl, rfl, rfl⟩ rfl rfl rfl rfl rfl (by kernel_rfl) Tryz.func3 (by kernel_rfl)
    (of_decide_eq_true (by kernel_rfl)) (by unfold Func.isWrapper; first | (rw [if_pos (by decide +kernel)]; kernel_rfl) | (rw [if_neg (by decide +kernel)]; exact ⟨rfl, rfl⟩))
    (fun os started H enc _ => spaceEdges_lifted os started H enc)

theorem spaceEdges_holds : Rows.SpaceEdgesCardSaid :=
  Claim7.holds_tied_plain_at .later [] [.data, .pinned] true Rows.spaceEdgesCard.stood.harness true
    spaceEdges_row (fun _ h => by cases h) (by kernel_rfl) (fun _ h => by cases h) spaceEdges_row_tie rfl ⟨rfl, rfl⟩ (by kernel_rfl) rfl
    (fun f fn hf hfn => by
      obtain rfl : f = 3 := Option.some.inj ((show Tryz.prog.funcNamed Rows.spaceEdgesRow.func = some 3 by kernel_rfl).symm.trans hf) |>.symm
      obtain rfl : fn = Tryz.f3 := (Option.some.inj (Tryz.func3.symm.trans hfn)).symm
      exact ⟨by kernel_rfl, fun j t ht => by
        rw [Tryz.params3] at ht
        simp at ht⟩)
    (by kernel_rfl)
#print axioms spaceEdges_holds
end Go.Proofs.YtpbbmmkhlpkkbaaGreatDoor
