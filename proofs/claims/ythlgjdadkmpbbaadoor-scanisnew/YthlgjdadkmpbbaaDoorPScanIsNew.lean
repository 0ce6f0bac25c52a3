import Derived.Test.YthlgjdadkmpbbaaDoorXBQ
import Derived.Test.YthlgjdadkmpbbaaDoorXBR
import Derived.Test.YthlgjdadkmpbbaaDoorRows
import Derived.Test.YthlgjdadkmpbbaaDoorCards
import Derived.Test.YthlgjdadkmpbbaaDoorTie
import Derived.SizedLaws
import Derived.ChangeSame
import Derived.ChangeVars
import Derived.ChangeMaps5
import Derived.JoinedOf
import Derived.JoinedAt
import Derived.RowKit
import Derived.RowKit3
import Derived.RowKitTokens
import Derived.LaidLaws
import Derived.Lib.LaidTab
import Derived.Stop.LaidErr
import Derived.Handed
import Derived.ProofKit
import Derived.OpenShut
import Derived.ShutString
import Derived.ChangeOld
import Derived.Below
import Derived.Carry
import Derived.SliceStrings
import Derived.Test.YthlgjdadkmpbbaaDoorXBO
namespace Go.Proofs.YthlgjdadkmpbbaaDoor
open Go.ChangeShapes Go.WideShapes Go.ChangeAt Go.RowKit
open Go.ChangeMaps (open_string shut_string)

theorem laidU : laidOutB Tryd.prog = true := by kernel_rfl
theorem own_knobU : ownKnob Tryd.prog.godebug = none := by kernel_rfl
theorem gV_pow : Tryd.prog.globalNamed "internal/strconv.uint64pow10" = some 7 := by kernel_rfl
theorem gtV_pow : (Tryd.prog.globals[7]?).map (·.type) = some 131 := by kernel_rfl
theorem ceV_pow : Tryd.prog.cellsOf 94 = 1 := by kernel_rfl
theorem ctV_pow : Tryd.prog.cellsOf 131 = 20 := by kernel_rfl
theorem gV_syn : Tryd.prog.globalNamed "strconv.ErrSyntax" = some 5 := by kernel_rfl
theorem gtV_syn : (Tryd.prog.globals[5]?).map (·.type) = some 96 := by kernel_rfl
theorem gV_rng : Tryd.prog.globalNamed "strconv.ErrRange" = some 6 := by kernel_rfl
theorem gtV_rng : (Tryd.prog.globals[6]?).map (·.type) = some 96 := by kernel_rfl
theorem starV : "*errors.errorString" = "*" ++ "errors.errorString" := by decide
theorem rowV_es (u : TypeId) (h : Tryd.prog.typeName? 3 u = some "*errors.errorString") : u = 127 :=
  typeName_ptr_named (nm := "errors.errorString") (by rw [← starV]; kernel_rfl) (by kernel_rfl) (by decide) u (by rw [← starV]; exact h)
theorem cellsV_es : Tryd.prog.cellsOf 129 = 1 := by kernel_rfl
theorem cellsV_s : Tryd.prog.cellsOf 9 = 1 := by kernel_rfl
def cellsE : DataW Unit → List Value
  | .lit (.int k z) => [.int k z]
  | .lit (.string z) => [.string ⟨z.toArray⟩]
  | _ => []
def cellsF : DataW Unit → List Value
  | .agg xs => xs.flatMap cellsE
  | d => cellsE d
def cellsG : DataW Unit → List Value
  | .agg xs => xs.flatMap cellsF
  | d => cellsF d
def cellsV : DataW Unit → Array Value
  | .agg xs => (xs.flatMap cellsG).toArray
  | _ => #[]
def layV (d : DataW Unit) : Obj → Obj
  | .cells _ t frozen => .cells (cellsV d) t frozen
  | o => o
def layE (a : Nat) : Obj → Obj
  | .cells _ t frozen => .cells #[.iface 127 (.pointer (some ⟨a, 0, none⟩))] t frozen
  | o => o
abbrev synS : ByteArray := { data := #[105, 110, 118, 97, 108, 105, 100, 32, 115, 121, 110, 116, 97, 120] }
abbrev rngS : ByteArray := { data := #[118, 97, 108, 117, 101, 32, 111, 117, 116, 32, 111, 102, 32, 114, 97, 110, 103, 101] }
noncomputable def lowV : Nat := (World.holding Tryd.prog default ⟨#[], #[], []⟩).heap.size
/-- the settled world with the tables and the two errors as their initialisers lay them -/
noncomputable def laidWorldU (os : Os) : World :=
  let w0 := World.holding Tryd.prog os ⟨#[.cells #[.string synS] 129, .cells #[.string rngS] 129], #[], []⟩
  { w0 with heap := (((((((((w0.heap.modify 8 (layV Rows.laid_math_bits_deBruijn32tab)).modify 9 (layV Rows.laid_math_bits_deBruijn64tab)).modify 7 (layV Rows.laid_internal_strconv_uint64pow10)).modify 3 (layV Rows.laid_unicode_utf8_acceptRanges)).modify 6 (layE (lowV + 1))).modify 5 (layE lowV)).modify 1 (layV Rows.laid_reach_scan_shorts)).modify 0 (layV Rows.laid_reach_scan_signs)).modify 2 (layV Rows.laid_unicode_utf8_first)) }
theorem laid_metU (os : Os) (args : Array Value) : laidMet Tryd.prog Rows.scanIsNewRow.laid ((laidWorldU os).forCall (fun _ _ => 0) ⟨#[], args, []⟩).memory :=
  laidMet_of_run' 8 (by kernel_rfl) (by kernel_rfl)
theorem gU : Tryd.prog.globalNamed "reach/scan.shorts" = some 1 := by kernel_rfl
theorem gtU : (Tryd.prog.globals[1]?).map (·.type) = some 82 := by kernel_rfl
theorem ciU : Tryd.prog.cellsOf 21 = 1 := by kernel_rfl
theorem ceU : Tryd.prog.cellsOf 81 = 2 := by kernel_rfl
theorem ctU : Tryd.prog.cellsOf 82 = 5 * 2 := by kernel_rfl
theorem SH_of {W : World} {rest : List (String × DataW Unit)} (h : laidMet Tryd.prog (("reach/scan.shorts", Rows.laid_reach_scan_shorts) :: rest) W) : SH W := by
  have hp : PairIs Tryd.prog W "reach/scan.shorts" .i32 shortsL := pairIs_of_head gU gtU Tryd.underlying82 Tryd.underlying81 rfl rfl rfl rfl Tryd.underlying21 ciU ceU ctU h
  unfold PairIs World.var? at hp
  rw [gU] at hp
  simp only [Option.bind_some] at hp
  split at hp
  · rename_i cs t fr hh
    have e : cs = shortsC := Option.some.inj hp
    exact ⟨_, _, by rw [hh, e]⟩
  · cases hp

theorem gG : Tryd.prog.globalNamed "reach/scan.signs" = some 0 := by kernel_rfl
theorem gtG : (Tryd.prog.globals[0]?).map (·.type) = some 54 := by kernel_rfl
theorem ceG : Tryd.prog.cellsOf 9 = 1 := by kernel_rfl
theorem ctG : Tryd.prog.cellsOf 54 = 16 := by kernel_rfl
theorem SG_of {W : World} {rest : List (String × DataW Unit)} (h : laidMet Tryd.prog (("reach/scan.signs", Rows.laid_reach_scan_signs) :: rest) W) : SG W := by
  have e : (Rows.laid_reach_scan_signs : DataW Unit) = strData signsL := by kernel_rfl
  rw [e] at h
  have hp := strs_of_head gG gtG Tryd.underlying54 Tryd.underlying9 ceG ctG h
  unfold World.var? at hp
  rw [gG] at hp
  simp only [Option.bind_some] at hp
  split at hp
  · rename_i cs t fr hh
    have e : cs = signsC := Option.some.inj hp
    exact ⟨_, _, by rw [hh, e]⟩
  · cases hp
set_option maxRecDepth 100000 in
theorem scanIsNew_lifted (os : Os) (started : os.Started) (H : Type) (enc : TypeId × Value → H) :
    ReturnsInHanded {} Tryd.checked os 3 .any (fun w args => (Rows.scanIsNewSpec.pre enc Tryd.prog Tryd.f3 Rows.scanIsNewRow.domain false w args ∧ laidMet Tryd.prog Rows.scanIsNewRow.laid w) ∧ sizedMet enc Tryd.prog Tryd.f3 (OpenSpec.ofChange Rows.scanIsNewSpec) false w args)
      (Rows.scanIsNewSpec.post enc Tryd.prog Tryd.f3 false true false false) := by
  refine returnsInHanded_of_change_and (C := Tryd.checked) (X := fun w _ => laidMet Tryd.prog Rows.scanIsNewRow.laid w) (fun _ _ _ hh h => h.of_heap hh) own_knobU started (by kernel_rfl) Tryd.func3
    (ChangeSpec.witness_at (enc := enc) (C := Tryd.checked) (os := os) (X := fun w _ => laidMet Tryd.prog Rows.scanIsNewRow.laid w) false (laidWorldU os) #[.slice none 0 0] 8 rfl (by kernel_rfl) (by kernel_rfl) (by kernel_rfl) (by kernel_rfl) (by kernel_rfl) (laid_metU os _)) ?_
  intro W base args ds gs before hval0 hW _ hsz0 hL _
  have hval : ∀ (j : Nat) t v, Tryd.f3.params[j]? = some t → args[j]? = some v → Value.okWide Tryd.prog W .any base t v := hval0
  have hsz : (DataW.weightsEach Tryd.prog (Tryd.f3.params.toList ++ Rows.scanIsNewSpec.plain.varTypes Tryd.prog) (ds ++ gs)).all (· ≤ reachBytes) = true := hsz0
  clear hsz0
  have hW' := hW
  obtain ⟨p, q, hA0, hV, rfl, _, _⟩ := hW
  have hA : DataW.TrodAll enc Tryd.prog W 0 (fun _ => true) true Tryd.f3.params.toList args.toList ds p := hA0
  rw [Tryd.params3] at hA hval hsz
  obtain ⟨v0, d0, rfl, rfl, h0⟩ := trodAll_one hA
  obtain ⟨rfl, rfl⟩ := trodVars_none hV
  obtain ⟨ad, len, cap, rfl⟩ := okWide_slice Tryd.underlying22 (hval 0 22 v0 rfl rfl)
  have k1 := h0
  have lt1 : ∀ x ∈ p, x.block < W.heap.size := by obtain ⟨m, hm⟩ := k1; exact DataW.trod_lt m _ _ _ hm
  clear hA0 hval0
  simp only [List.append_nil] at hW'
  obtain ⟨L, hLn, hcap, hstr, hcell⟩ : ∃ L : List (List UInt8), L.length = len ∧ len ≤ cap ∧ (∀ t ∈ L, t.length ≤ 281474976710656) ∧ IRS W ad L := by
    obtain ⟨fuel, hf⟩ := h0
    rcases open_strings Tryd.underlying22 Tryd.underlying9 (by kernel_rfl) hf with ⟨hcs, hx⟩ | ⟨x, l, c, ss, hcs, _, hl, hm, hz, hx, hcell, hws⟩
    · simp [Value.cells] at hcs
      obtain ⟨rfl, rfl, rfl⟩ := hcs
      exact ⟨[], rfl, Nat.le_refl _, fun t ht => by simp at ht, fun W' hW' k t ht => by simp at ht⟩
    · simp [Value.cells] at hcs
      obtain ⟨rfl, rfl, rfl⟩ := hcs
      have hz' : ss.length = cap := by simpa using hz
      have hx1 : d0 = .slice (strs (ss.take len)) (strs (ss.drop len)) := by injection hx
      subst hx1
      have s1 := sized_strsN (j := 0) hsz rfl rfl
      have h2 := reachBytes_lt
      have e3 : (2 : Nat) ^ 47 = 140737488355328 := by decide
      refine ⟨(ss.take len).map (·.data.toList), by simp; omega, hl, fun t ht => ?_, irs_of (by omega) hcell⟩
      obtain ⟨s, hs, rfl⟩ := List.mem_map.1 ht
      have := s1 s hs
      omega
  have htab : Lib.TabIs Tryd.prog W "internal/strconv.uint64pow10" .u64 Lib.pow10Tab := Lib.tabIs_of_head gV_pow gtV_pow Tryd.underlying131 Tryd.underlying94 ceV_pow ctV_pow hL.tail.tail
  obtain ⟨b0, s0, hv0, -, -, -⟩ := laid_sentinel hL.tail.tail.tail.tail gV_rng gtV_rng Tryd.underlying96 rowV_es Tryd.underlying127 Tryd.underlying129 rfl rfl Tryd.underlying9 cellsV_es cellsV_s
  obtain ⟨b1, s1, hv1, -, -, -⟩ := laid_sentinel hL.tail.tail.tail.tail.tail gV_syn gtV_syn Tryd.underlying96 rowV_es Tryd.underlying127 Tryd.underlying129 rfl rfl Tryd.underlying9 cellsV_es cellsV_s
  refine (scanIsNew_walk L len ad cap W hLn hcap hstr hcell (SH_of hL.tail.tail.tail.tail.tail.tail) (SG_of hL.tail.tail.tail.tail.tail.tail.tail) ⟨htab, ⟨_, _, hv1⟩, ⟨_, _, hv0⟩⟩).mono fun e W' ⟨he, hnx⟩ => ?_
  subst he
  exact ⟨_, rfl, _, _, _, [], _, [], hW', trodAll_mk1 (shut_bool Tryd.underlying4 _), trodAll_mk1 (Below.trod laidU (by kernel_rfl) (of_decide_eq_true (by kernel_rfl)) k1 hnx lt1), rfl, hnx.frame _, fun h => by cases h⟩

theorem scanIsNew_row : Rows.ScanIsNewSaid :=
  OpenClaim.holds_of_wide 3 Tryd.f3 rfl rfl rfl rfl rfl rfl rfl ⟨rfl, rfl, rfl, rfl, rfl⟩ rfl rfl rfl rfl rfl (by kernel_rfl) Tryd.func3 (by kernel_rfl)
    (of_decide_eq_true (by kernel_rfl)) (by unfold Func.isWrapper; first | (rw [if_pos (by decide +kernel)]; kernel_rfl) | (rw [if_neg (by decide +kernel)]; exact ⟨rfl, rfl⟩))
    (fun os started H enc _ => scanIsNew_lifted os started H enc)

theorem scanIsNew_holds : Rows.ScanIsNewCardSaid :=
  Claim7.holds_tied_plain_at .later [] [.data, .data, .data, .data, .sentinel, .sentinel, .data, .data, .pinned] true Rows.scanIsNewCard.stood.harness true
    scanIsNew_row (fun _ h => by cases h) (by kernel_rfl) (fun _ h => by cases h) scanIsNew_row_tie rfl ⟨rfl, rfl⟩ (by kernel_rfl) rfl
    (fun f fn hf hfn => by
      obtain rfl : f = 3 := Option.some.inj ((show Tryd.prog.funcNamed Rows.scanIsNewRow.func = some 3 by kernel_rfl).symm.trans hf) |>.symm
      obtain rfl : fn = Tryd.f3 := (Option.some.inj (Tryd.func3.symm.trans hfn)).symm
      exact ⟨by kernel_rfl, fun j t ht => by
        rw [Tryd.params3] at ht
        have h3 : t = 22 := by
          rcases j with _ | j
          · simpa using ht.symm
          · simp at ht
        subst h3
        exact (show Tryd.prog.wantsStandIn 22 = false by kernel_rfl)⟩)
    (by kernel_rfl)
#print axioms scanIsNew_holds
end Go.Proofs.YthlgjdadkmpbbaaDoor
