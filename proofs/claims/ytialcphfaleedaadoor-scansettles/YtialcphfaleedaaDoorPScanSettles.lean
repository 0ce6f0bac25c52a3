import Derived.Test.YtialcphfaleedaaDoorZS
import Derived.Test.YtialcphfaleedaaDoorZ35
import Derived.Test.YtialcphfaleedaaDoorRows
import Derived.Test.YtialcphfaleedaaDoorCards
import Derived.Test.YtialcphfaleedaaDoorTie
import Derived.SizedLaws
import Derived.ChangeSame
import Derived.ChangeVars
import Derived.ChangeMaps5
import Derived.JoinedOf
import Derived.JoinedAt
import Derived.RowKit
import Derived.RowKit3
import Derived.RowKitTokens
import Derived.LaidLaws
import Derived.Lib.LaidTab
import Derived.Stop.LaidErr
import Derived.Handed
import Derived.ProofKit
import Derived.OpenShut
import Derived.ShutString
namespace Go.Proofs.YtialcphfaleedaaDoor
open Go.ChangeShapes Go.WideShapes Go.ChangeAt Go.RowKit
open Go.ChangeMaps (open_string shut_string)

theorem own_knobU : ownKnob Tryd.prog.godebug = none := by kernel_rfl
theorem gV_pow : Tryd.prog.globalNamed "internal/strconv.uint64pow10" = some 8 := by kernel_rfl
theorem gtV_pow : (Tryd.prog.globals[8]?).map (·.type) = some 142 := by kernel_rfl
theorem ceV_pow : Tryd.prog.cellsOf 105 = 1 := by kernel_rfl
theorem ctV_pow : Tryd.prog.cellsOf 142 = 20 := by kernel_rfl
theorem gV_syn : Tryd.prog.globalNamed "strconv.ErrSyntax" = some 6 := by kernel_rfl
theorem gtV_syn : (Tryd.prog.globals[6]?).map (·.type) = some 107 := by kernel_rfl
theorem gV_rng : Tryd.prog.globalNamed "strconv.ErrRange" = some 7 := by kernel_rfl
theorem gtV_rng : (Tryd.prog.globals[7]?).map (·.type) = some 107 := by kernel_rfl
theorem starV : "*errors.errorString" = "*" ++ "errors.errorString" := by decide
theorem rowV_es (u : TypeId) (h : Tryd.prog.typeName? 3 u = some "*errors.errorString") : u = 138 :=
  typeName_ptr_named (nm := "errors.errorString") (by rw [← starV]; kernel_rfl) (by kernel_rfl) (by decide) u (by rw [← starV]; exact h)
theorem cellsV_es : Tryd.prog.cellsOf 140 = 1 := by kernel_rfl
theorem cellsV_s : Tryd.prog.cellsOf 9 = 1 := by kernel_rfl
def cellsE : DataW Unit → List Value
  | .lit (.int k z) => [.int k z]
  | .lit (.string z) => [.string ⟨z.toArray⟩]
  | _ => []
def cellsF : DataW Unit → List Value
  | .agg xs => xs.flatMap cellsE
  | d => cellsE d
def cellsG : DataW Unit → List Value
  | .agg xs => xs.flatMap cellsF
  | d => cellsF d
def cellsV : DataW Unit → Array Value
  | .agg xs => (xs.flatMap cellsG).toArray
  | _ => #[]
def layV (d : DataW Unit) : Obj → Obj
  | .cells _ t frozen => .cells (cellsV d) t frozen
  | o => o
def layE (a : Nat) : Obj → Obj
  | .cells _ t frozen => .cells #[.iface 138 (.pointer (some ⟨a, 0, none⟩))] t frozen
  | o => o
abbrev synS : ByteArray := { data := #[105, 110, 118, 97, 108, 105, 100, 32, 115, 121, 110, 116, 97, 120] }
abbrev rngS : ByteArray := { data := #[118, 97, 108, 117, 101, 32, 111, 117, 116, 32, 111, 102, 32, 114, 97, 110, 103, 101] }
noncomputable def lowV : Nat := (World.holding Tryd.prog default ⟨#[], #[], []⟩).heap.size
/-- the settled world with the tables and the two errors as their initialisers lay them -/
noncomputable def laidWorldU (os : Os) : World :=
  let w0 := World.holding Tryd.prog os ⟨#[.cells #[.string synS] 140, .cells #[.string rngS] 140], #[], []⟩
  { w0 with heap := ((((((((((w0.heap.modify 9 (layV Rows.laid_math_bits_deBruijn32tab)).modify 10 (layV Rows.laid_math_bits_deBruijn64tab)).modify 8 (layV Rows.laid_internal_strconv_uint64pow10)).modify 4 (layV Rows.laid_unicode_utf8_acceptRanges)).modify 7 (layE (lowV + 1))).modify 6 (layE lowV)).modify 0 (layV Rows.laid_reach_scan_joined)).modify 2 (layV Rows.laid_reach_scan_shorts)).modify 1 (layV Rows.laid_reach_scan_signs)).modify 3 (layV Rows.laid_unicode_utf8_first)) }
theorem laid_metU (os : Os) (args : Array Value) : laidMet Tryd.prog Rows.scanSettlesRow.laid ((laidWorldU os).forCall (fun _ _ => 0) ⟨#[], args, []⟩).memory :=
  laidMet_of_run' 8 (by kernel_rfl) (by kernel_rfl)
theorem gU : Tryd.prog.globalNamed "reach/scan.shorts" = some 2 := by kernel_rfl
theorem gtU : (Tryd.prog.globals[2]?).map (·.type) = some 94 := by kernel_rfl
theorem ciU : Tryd.prog.cellsOf 21 = 1 := by kernel_rfl
theorem ceU : Tryd.prog.cellsOf 93 = 2 := by kernel_rfl
theorem ctU : Tryd.prog.cellsOf 94 = 5 * 2 := by kernel_rfl
theorem SH_of {W : World} {rest : List (String × DataW Unit)} (h : laidMet Tryd.prog (("reach/scan.shorts", Rows.laid_reach_scan_shorts) :: rest) W) : SH W := by
  have hp : PairIs Tryd.prog W "reach/scan.shorts" .i32 shortsL := pairIs_of_head gU gtU Tryd.underlying94 Tryd.underlying93 rfl rfl rfl rfl Tryd.underlying21 ciU ceU ctU h
  unfold PairIs World.var? at hp
  rw [gU] at hp
  simp only [Option.bind_some] at hp
  split at hp
  · rename_i cs t fr hh
    have e : cs = shortsC := Option.some.inj hp
    exact ⟨_, _, by rw [hh, e]⟩
  · cases hp

theorem gG : Tryd.prog.globalNamed "reach/scan.signs" = some 1 := by kernel_rfl
theorem gtG : (Tryd.prog.globals[1]?).map (·.type) = some 66 := by kernel_rfl
theorem ceG : Tryd.prog.cellsOf 9 = 1 := by kernel_rfl
theorem ctG : Tryd.prog.cellsOf 66 = 16 := by kernel_rfl
theorem SG_of {W : World} {rest : List (String × DataW Unit)} (h : laidMet Tryd.prog (("reach/scan.signs", Rows.laid_reach_scan_signs) :: rest) W) : SG W := by
  have e : (Rows.laid_reach_scan_signs : DataW Unit) = strData signsL := by kernel_rfl
  rw [e] at h
  have hp := strs_of_head gG gtG Tryd.underlying66 Tryd.underlying9 ceG ctG h
  unfold World.var? at hp
  rw [gG] at hp
  simp only [Option.bind_some] at hp
  split at hp
  · rename_i cs t fr hh
    have e : cs = signsC := Option.some.inj hp
    exact ⟨_, _, by rw [hh, e]⟩
  · cases hp
theorem JT_of {W : World} {rest : List (String × DataW Unit)} (h : laidMet Tryd.prog (("reach/scan.joined", Rows.laid_reach_scan_joined) :: rest) W) : JT W := by
  have e : (Rows.laid_reach_scan_joined : DataW Unit) = .agg (joinedT.map fun z => .agg [tokData z.1, tokData z.2]) := by kernel_rfl
  rw [e] at h
  have hp := joins_of_head gJ gtJ Tryd.underlying59 Tryd.underlying58 rfl rfl rfl rfl Tryd.underlying29 rfl rfl rfl rfl rfl rfl rfl rfl Tryd.underlying3 Tryd.underlying9 cJ0 cJ1 cJ4 cJ8 cJ112 h
  unfold World.var? at hp
  rw [gJ] at hp
  simp only [Option.bind_some] at hp
  split at hp
  · rename_i cs t fr hh
    have e : cs = joinedC := Option.some.inj hp
    exact ⟨_, _, by rw [hh, e]⟩
  · cases hp
set_option maxRecDepth 100000 in
theorem scanSettles_lifted (os : Os) (started : os.Started) (H : Type) (enc : TypeId × Value → H) :
    ReturnsInHanded {} Tryd.checked os 6 .any (fun w args => (Rows.scanSettlesSpec.pre enc Tryd.prog Tryd.f6 Rows.scanSettlesRow.domain false w args ∧ laidMet Tryd.prog Rows.scanSettlesRow.laid w) ∧ sizedMet enc Tryd.prog Tryd.f6 (OpenSpec.ofChange Rows.scanSettlesSpec) false w args)
      (Rows.scanSettlesSpec.post enc Tryd.prog Tryd.f6 false true false false) := by
  refine returnsInHanded_of_change_and (C := Tryd.checked) (X := fun w _ => laidMet Tryd.prog Rows.scanSettlesRow.laid w) (fun _ _ _ hh h => h.of_heap hh) own_knobU started (by kernel_rfl) Tryd.func6
    (ChangeSpec.witness_at (enc := enc) (C := Tryd.checked) (os := os) (X := fun w _ => laidMet Tryd.prog Rows.scanSettlesRow.laid w) false (laidWorldU os) #[.string ByteArray.empty] 8 rfl (by kernel_rfl) (by kernel_rfl) (by kernel_rfl) (by kernel_rfl) (by kernel_rfl) (laid_metU os _)) ?_
  intro W base args ds gs before hval0 hW _ hsz0 hL _
  have hval : ∀ (j : Nat) t v, Tryd.f6.params[j]? = some t → args[j]? = some v → Value.okWide Tryd.prog W .any base t v := hval0
  have hsz : (DataW.weightsEach Tryd.prog (Tryd.f6.params.toList ++ Rows.scanSettlesSpec.plain.varTypes Tryd.prog) (ds ++ gs)).all (· ≤ reachBytes) = true := hsz0
  clear hsz0
  have hW' := hW
  obtain ⟨p, q, hA0, hV, rfl, _, _⟩ := hW
  have hA : DataW.TrodAll enc Tryd.prog W 0 (fun _ => true) true Tryd.f6.params.toList args.toList ds p := hA0
  rw [Tryd.params6] at hA hval hsz
  obtain ⟨v0, d0, rfl, rfl, h0⟩ := trodAll_one hA
  obtain ⟨rfl, rfl⟩ := trodVars_none hV
  obtain ⟨a0, rfl, rfl, rfl, w0⟩ := open_string Tryd.underlying9 (hval 0 9 v0 rfl rfl) h0
  clear hA0 hval0
  simp only [List.append_nil] at hW'
  have hlim : a0.size ≤ 281474976710656 := by
    have h1 := sized_string hsz (j := 0) (t := 9) rfl rfl
    have h2 := reachBytes_lt
    have e1 : a0.size = a0.data.size := rfl
    have e2 : a0.data.toList.length = a0.data.size := Array.length_toList
    have e3 : (2 : Nat) ^ 47 = 140737488355328 := by decide
    omega
  have htab : Lib.TabIs Tryd.prog W "internal/strconv.uint64pow10" .u64 Lib.pow10Tab := Lib.tabIs_of_head gV_pow gtV_pow Tryd.underlying142 Tryd.underlying105 ceV_pow ctV_pow hL.tail.tail
  obtain ⟨b0, s0, hv0, -, -, -⟩ := laid_sentinel hL.tail.tail.tail.tail gV_rng gtV_rng Tryd.underlying107 rowV_es Tryd.underlying138 Tryd.underlying140 rfl rfl Tryd.underlying9 cellsV_es cellsV_s
  obtain ⟨b1, s1, hv1, -, -, -⟩ := laid_sentinel hL.tail.tail.tail.tail.tail gV_syn gtV_syn Tryd.underlying107 rowV_es Tryd.underlying138 Tryd.underlying140 rfl rfl Tryd.underlying9 cellsV_es cellsV_s
  refine (scanSettles_walk a0 W hlim (SH_of hL.tail.tail.tail.tail.tail.tail.tail) (SG_of hL.tail.tail.tail.tail.tail.tail.tail.tail) ⟨htab, ⟨_, _, hv1⟩, ⟨_, _, hv0⟩⟩ (JT_of hL.tail.tail.tail.tail.tail.tail)).mono fun e W' ⟨he, hnx⟩ => ?_
  subst he
  refine ⟨_, rfl, _, _, _, [], [], [], hW', ?_, ?_, rfl, hnx.frame _, fun h => by cases h⟩
  · exact trodAll_mk1 (shut_bool Tryd.underlying4 _)
  · exact trodAll_mk1 (shut_string Tryd.underlying9 w0)

theorem scanSettles_row : Rows.ScanSettlesSaid :=
  OpenClaim.holds_of_wide 6 Tryd.f6 rfl rfl rfl rfl rfl rfl rfl ⟨rfl, rfl, rfl, rfl, rfl⟩ rfl rfl rfl rfl rfl (by kernel_rfl) Tryd.func6 (by kernel_rfl)
    (of_decide_eq_true (by kernel_rfl)) (by unfold Func.isWrapper; first | (rw [if_pos (by decide +kernel)]; kernel_rfl) | (rw [if_neg (by decide +kernel)]; exact ⟨rfl, rfl⟩))
    (fun os started H enc _ => scanSettles_lifted os started H enc)

theorem scanSettles_holds : Rows.ScanSettlesCardSaid :=
  Claim7.holds_tied_plain_at .later [] [.data, .data, .data, .data, .sentinel, .sentinel, .data, .data, .data, .pinned] true Rows.scanSettlesCard.stood.harness true
    scanSettles_row (fun _ h => by cases h) (by kernel_rfl) (fun _ h => by cases h) scanSettles_row_tie rfl ⟨rfl, rfl⟩ (by kernel_rfl) rfl
    (fun f fn hf hfn => by
      obtain rfl : f = 6 := Option.some.inj ((show Tryd.prog.funcNamed Rows.scanSettlesRow.func = some 6 by kernel_rfl).symm.trans hf) |>.symm
      obtain rfl : fn = Tryd.f6 := (Option.some.inj (Tryd.func6.symm.trans hfn)).symm
      exact ⟨by kernel_rfl, fun j t ht => by
        rw [Tryd.params6] at ht
        have h3 : t = 9 := by
          rcases j with _ | j
          · simpa using ht.symm
          · simp at ht
        subst h3
        exact (show Tryd.prog.wantsStandIn 9 = false by kernel_rfl)⟩)
    (by kernel_rfl)
#print axioms scanSettles_holds
end Go.Proofs.YtialcphfaleedaaDoor
