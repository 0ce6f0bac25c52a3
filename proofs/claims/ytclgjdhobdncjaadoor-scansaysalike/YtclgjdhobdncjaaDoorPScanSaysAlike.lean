import Derived.Test.YtclgjdhobdncjaaDoorG3
import Derived.Test.YtclgjdhobdncjaaDoorRows
import Derived.Test.YtclgjdhobdncjaaDoorCards
import Derived.Test.YtclgjdhobdncjaaDoorTie
import Derived.SizedLaws
import Derived.ChangeSame
import Derived.ChangeVars
import Derived.ChangeMaps5
import Derived.JoinedOf
import Derived.JoinedAt
import Derived.RowKit
import Derived.RowKit3
import Derived.RowKitTokens
import Derived.LaidLaws
import Derived.Lib.LaidTab
import Derived.Stop.LaidErr
import Derived.Handed
import Derived.ProofKit
import Derived.OpenShut
import Derived.ShutString
namespace Go.Proofs.YtclgjdhobdncjaaDoor
open Go.ChangeShapes Go.WideShapes Go.ChangeAt Go.RowKit
open Go.ChangeMaps (open_string shut_string)

theorem own_knobU : ownKnob Tryd.prog.godebug = none := by kernel_rfl
def cellsE : DataW Unit → List Value
  | .lit (.int k z) => [.int k z]
  | _ => []
def cellsF : DataW Unit → List Value
  | .agg xs => xs.flatMap cellsE
  | d => cellsE d
def cellsV : DataW Unit → Array Value
  | .agg xs => (xs.flatMap cellsF).toArray
  | _ => #[]
def layV (d : DataW Unit) : Obj → Obj
  | .cells _ t frozen => .cells (cellsV d) t frozen
  | o => o
/-- the settled world with the tables as their initialisers lay them -/
noncomputable def laidWorldU (os : Os) : World :=
  let w0 := World.holding Tryd.prog os ⟨#[], #[], []⟩
  { w0 with heap := (((((w0.heap.modify 0 (layV Rows.laid_reach_scan_shorts)).modify 1 (layV Rows.laid_reach_scan_unseen)).modify 2 (layV Rows.laid_internal_strconv_uint64pow10)).modify 3 (layV Rows.laid_math_bits_deBruijn32tab)).modify 4 (layV Rows.laid_math_bits_deBruijn64tab)) }
theorem laid_metU (os : Os) (args : Array Value) : laidMet Tryd.prog Rows.scanSaysAlikeRow.laid ((laidWorldU os).forCall (fun _ _ => 0) ⟨#[], args, []⟩).memory :=
  laidMet_of_run' 8 (by kernel_rfl) (by kernel_rfl)
theorem gU : Tryd.prog.globalNamed "reach/scan.shorts" = some 0 := by kernel_rfl
theorem gtU : (Tryd.prog.globals[0]?).map (·.type) = some 47 := by kernel_rfl
theorem ciU : Tryd.prog.cellsOf 21 = 1 := by kernel_rfl
theorem ceU : Tryd.prog.cellsOf 46 = 2 := by kernel_rfl
theorem ctU : Tryd.prog.cellsOf 47 = 5 * 2 := by kernel_rfl
theorem SH_of {W : World} {rest : List (String × DataW Unit)} (h : laidMet Tryd.prog (("reach/scan.shorts", Rows.laid_reach_scan_shorts) :: rest) W) : SH W := by
  have hp : PairIs Tryd.prog W "reach/scan.shorts" .i32 shortsL := pairIs_of_head gU gtU Tryd.underlying47 Tryd.underlying46 rfl rfl rfl rfl Tryd.underlying21 ciU ceU ctU h
  unfold PairIs World.var? at hp
  rw [gU] at hp
  simp only [Option.bind_some] at hp
  split at hp
  · rename_i cs t fr hh
    have e : cs = shortsC := Option.some.inj hp
    exact ⟨_, _, by rw [hh, e]⟩
  · cases hp

theorem gN : Tryd.prog.globalNamed "reach/scan.unseen" = some 1 := by kernel_rfl
theorem gtN : (Tryd.prog.globals[1]?).map (·.type) = some 51 := by kernel_rfl
theorem ceN : Tryd.prog.cellsOf 50 = 2 := by kernel_rfl
theorem ctN : Tryd.prog.cellsOf 51 = 4 * 2 := by kernel_rfl
theorem UN_of {W : World} {rest : List (String × DataW Unit)} (h : laidMet Tryd.prog (("reach/scan.unseen", Rows.laid_reach_scan_unseen) :: rest) W) : UN W := by
  have hp : PairIs Tryd.prog W "reach/scan.unseen" .i32 unseenL := pairIs_of_head gN gtN Tryd.underlying51 Tryd.underlying50 rfl rfl rfl rfl Tryd.underlying21 ciU ceN ctN h
  unfold PairIs World.var? at hp
  rw [gN] at hp
  simp only [Option.bind_some] at hp
  split at hp
  · rename_i cs t fr hh
    have e : cs = unseenC := Option.some.inj hp
    exact ⟨_, _, by rw [hh, e]⟩
  · cases hp
theorem gD : Tryd.prog.globalNamed "math/bits.deBruijn64tab" = some 4 := by kernel_rfl
theorem gtD : (Tryd.prog.globals[4]?).map (·.type) = some 84 := by kernel_rfl
theorem ceD : Tryd.prog.cellsOf 5 = 1 := by kernel_rfl
theorem ctD : Tryd.prog.cellsOf 84 = 64 := by kernel_rfl
def tabD : List Int := Lib.deBruijn64tab.map (fun n : Nat => (n : Int))
theorem DB_of {W : World} {rest : List (String × DataW Unit)} (h : laidMet Tryd.prog (("math/bits.deBruijn64tab", Rows.laid_math_bits_deBruijn64tab) :: rest) W) : DB W := by
  have e : (Rows.laid_math_bits_deBruijn64tab : DataW Unit) = Lib.tabData .u8 tabD := by kernel_rfl
  rw [e] at h
  have ht : Lib.TabIs Tryd.prog W "math/bits.deBruijn64tab" .u8 tabD := Lib.tabIs_of_head gD gtD Tryd.underlying84 Tryd.underlying5 ceD ctD h
  intro j hj
  have hc := ht.cell gD j (by unfold tabD; rw [List.length_map]; exact hj)
  rw [hc]
  refine congrArg (fun z => some (Value.int .u8 z)) ?_
  unfold tabD
  simp [List.getD, List.getElem?_map, List.getElem?_eq_getElem hj]
set_option maxRecDepth 100000 in
theorem scanSaysAlike_lifted (os : Os) (started : os.Started) (H : Type) (enc : TypeId × Value → H) :
    ReturnsInHanded {} Tryd.checked os 4 .any (fun w args => (Rows.scanSaysAlikeSpec.pre enc Tryd.prog Tryd.f4 Rows.scanSaysAlikeRow.domain false w args ∧ laidMet Tryd.prog Rows.scanSaysAlikeRow.laid w) ∧ sizedMet enc Tryd.prog Tryd.f4 (OpenSpec.ofChange Rows.scanSaysAlikeSpec) false w args)
      (Rows.scanSaysAlikeSpec.post enc Tryd.prog Tryd.f4 false true false false) := by
  refine returnsInHanded_of_change_and (C := Tryd.checked) (X := fun w _ => laidMet Tryd.prog Rows.scanSaysAlikeRow.laid w) (fun _ _ _ hh h => h.of_heap hh) own_knobU started (by kernel_rfl) Tryd.func4
    (ChangeSpec.witness_at (enc := enc) (C := Tryd.checked) (os := os) (X := fun w _ => laidMet Tryd.prog Rows.scanSaysAlikeRow.laid w) false (laidWorldU os) #[.string ByteArray.empty] 8 rfl (by kernel_rfl) (by kernel_rfl) (by kernel_rfl) (by kernel_rfl) (by kernel_rfl) (laid_metU os _)) ?_
  intro W base args ds gs before hval0 hW _ hsz0 hL _
  have hval : ∀ (j : Nat) t v, Tryd.f4.params[j]? = some t → args[j]? = some v → Value.okWide Tryd.prog W .any base t v := hval0
  have hsz : (DataW.weightsEach Tryd.prog (Tryd.f4.params.toList ++ Rows.scanSaysAlikeSpec.plain.varTypes Tryd.prog) (ds ++ gs)).all (· ≤ reachBytes) = true := hsz0
  clear hsz0
  have hW' := hW
  obtain ⟨p, q, hA0, hV, rfl, _, _⟩ := hW
  have hA : DataW.TrodAll enc Tryd.prog W 0 (fun _ => true) true Tryd.f4.params.toList args.toList ds p := hA0
  rw [Tryd.params4] at hA hval hsz
  obtain ⟨v0, d0, rfl, rfl, h0⟩ := trodAll_one hA
  obtain ⟨rfl, rfl⟩ := trodVars_none hV
  obtain ⟨a0, rfl, rfl, rfl, w0⟩ := open_string Tryd.underlying9 (hval 0 9 v0 rfl rfl) h0
  clear hA0 hval0
  simp only [List.append_nil] at hW'
  have hlim : a0.size ≤ 281474976710656 := by
    have h1 := sized_string hsz (j := 0) (t := 9) rfl rfl
    have h2 := reachBytes_lt
    have e1 : a0.size = a0.data.size := rfl
    have e2 : a0.data.toList.length = a0.data.size := Array.length_toList
    have e3 : (2 : Nat) ^ 47 = 140737488355328 := by decide
    omega
  refine (scanSaysAlike_walk a0 W hlim (SH_of hL.tail.tail.tail) (UN_of hL.tail.tail.tail.tail) (DB_of hL.tail)).mono fun e W' ⟨he, hnx⟩ => ?_
  subst he
  refine ⟨_, rfl, _, _, _, [], [], [], hW', ?_, ?_, rfl, hnx.frame _, fun h => by cases h⟩
  · exact trodAll_mk1 (shut_bool Tryd.underlying4 _)
  · exact trodAll_mk1 (shut_string Tryd.underlying9 w0)

theorem scanSaysAlike_row : Rows.ScanSaysAlikeSaid :=
  OpenClaim.holds_of_wide 4 Tryd.f4 rfl rfl rfl rfl rfl rfl rfl ⟨rfl, rfl, rfl, rfl, rfl⟩ rfl rfl rfl rfl rfl (by kernel_rfl) Tryd.func4 (by kernel_rfl)
    (of_decide_eq_true (by kernel_rfl)) (by unfold Func.isWrapper; first | (rw [if_pos (by decide +kernel)]; kernel_rfl) | (rw [if_neg (by decide +kernel)]; exact ⟨rfl, rfl⟩))
    (fun os started H enc _ => scanSaysAlike_lifted os started H enc)

theorem scanSaysAlike_holds : Rows.ScanSaysAlikeCardSaid :=
  Claim7.holds_tied_plain_at .later [] [.data, .data, .data, .data, .data] true Rows.scanSaysAlikeCard.stood.harness false
    scanSaysAlike_row (fun _ h => by cases h) (by kernel_rfl) (fun _ h => by cases h) scanSaysAlike_row_tie rfl ⟨rfl, rfl⟩ (by kernel_rfl) rfl
    (fun f fn hf hfn => by
      obtain rfl : f = 4 := Option.some.inj ((show Tryd.prog.funcNamed Rows.scanSaysAlikeRow.func = some 4 by kernel_rfl).symm.trans hf) |>.symm
      obtain rfl : fn = Tryd.f4 := (Option.some.inj (Tryd.func4.symm.trans hfn)).symm
      exact ⟨by kernel_rfl, fun j t ht => by
        rw [Tryd.params4] at ht
        have h3 : t = 9 := by
          rcases j with _ | j
          · simpa using ht.symm
          · simp at ht
        subst h3
        exact (show Tryd.prog.wantsStandIn 9 = false by kernel_rfl)⟩)
    (by kernel_rfl)
#print axioms scanSaysAlike_holds
end Go.Proofs.YtclgjdhobdncjaaDoor
