import Derived.Test.YtepokgainceidaaGreatDoorYBU
import Derived.Test.YtepokgainceidaaGreatDoorYAY
import Derived.Test.YtepokgainceidaaGreatDoorRows
import Derived.Test.YtepokgainceidaaGreatDoorCards
import Derived.Test.YtepokgainceidaaGreatDoorTie
import Derived.SizedLaws
import Derived.ChangeSame
import Derived.ChangeVars
import Derived.ChangeMaps5
import Derived.JoinedOf
import Derived.JoinedAt
import Derived.RowKit
import Derived.RowKit3
import Derived.RowKitTokens
import Derived.LaidLaws
import Derived.Lib.LaidTab
import Derived.Stop.LaidErr
import Derived.Handed
import Derived.ProofKit
import Derived.OpenShut
import Derived.ShutString
import Derived.ChangeOld
import Derived.Below
import Derived.Carry
namespace Go.Proofs.YtepokgainceidaaGreatDoor
open Go.ChangeShapes Go.WideShapes Go.ChangeAt Go.RowKit
open Go.ChangeMaps (open_string shut_string)

theorem laidU : laidOutB Tryz.prog = true := by kernel_rfl
theorem own_knobU : ownKnob Tryz.prog.godebug = none := by kernel_rfl
theorem gV_pow : Tryz.prog.globalNamed "internal/strconv.uint64pow10" = some 4 := by kernel_rfl
theorem gtV_pow : (Tryz.prog.globals[4]?).map (·.type) = some 211 := by kernel_rfl
theorem ceV_pow : Tryz.prog.cellsOf 119 = 1 := by kernel_rfl
theorem ctV_pow : Tryz.prog.cellsOf 211 = 20 := by kernel_rfl
theorem gV_syn : Tryz.prog.globalNamed "strconv.ErrSyntax" = some 9 := by kernel_rfl
theorem gtV_syn : (Tryz.prog.globals[9]?).map (·.type) = some 134 := by kernel_rfl
theorem gV_rng : Tryz.prog.globalNamed "strconv.ErrRange" = some 10 := by kernel_rfl
theorem gtV_rng : (Tryz.prog.globals[10]?).map (·.type) = some 134 := by kernel_rfl
theorem starV : "*errors.errorString" = "*" ++ "errors.errorString" := by decide
theorem rowV_es (u : TypeId) (h : Tryz.prog.typeName? 3 u = some "*errors.errorString") : u = 251 :=
  typeName_ptr_named (nm := "errors.errorString") (by rw [← starV]; kernel_rfl) (by kernel_rfl) (by decide) u (by rw [← starV]; exact h)
theorem cellsV_es : Tryz.prog.cellsOf 253 = 1 := by kernel_rfl
theorem cellsV_s : Tryz.prog.cellsOf 9 = 1 := by kernel_rfl
def cellsE : DataW Unit → List Value
  | .lit (.int k z) => [.int k z]
  | .lit (.string z) => [.string ⟨z.toArray⟩]
  | _ => []
def cellsF : DataW Unit → List Value
  | .agg xs => xs.flatMap cellsE
  | d => cellsE d
def cellsG : DataW Unit → List Value
  | .agg xs => xs.flatMap cellsF
  | d => cellsF d
def cellsV : DataW Unit → Array Value
  | .agg xs => (xs.flatMap cellsG).toArray
  | _ => #[]
def layV (d : DataW Unit) : Obj → Obj
  | .cells _ t frozen => .cells (cellsV d) t frozen
  | o => o
def layE (a : Nat) : Obj → Obj
  | .cells _ t frozen => .cells #[.iface 251 (.pointer (some ⟨a, 0, none⟩))] t frozen
  | o => o
abbrev synS : ByteArray := { data := #[105, 110, 118, 97, 108, 105, 100, 32, 115, 121, 110, 116, 97, 120] }
abbrev rngS : ByteArray := { data := #[118, 97, 108, 117, 101, 32, 111, 117, 116, 32, 111, 102, 32, 114, 97, 110, 103, 101] }
noncomputable def lowV : Nat := (World.holding Tryz.prog default ⟨#[], #[], []⟩).heap.size
noncomputable def laidWorldU (os : Os) : World :=
  let w0 := World.holding Tryz.prog os ⟨#[.cells #[.string synS] 253, .cells #[.string rngS] 253], #[], []⟩
  { w0 with heap := (((((((((w0.heap.modify 1 (layV Rows.laid_math_bits_deBruijn32tab)).modify 2 (layV Rows.laid_math_bits_deBruijn64tab)).modify 4 (layV Rows.laid_internal_strconv_uint64pow10)).modify 7 (layV Rows.laid_unicode_utf8_acceptRanges)).modify 10 (layE (lowV + 1))).modify 9 (layE lowV)).modify 8 (layV Rows.laid_reach_scan_shorts)).modify 5 (layV Rows.laid_reach_scan_signs)).modify 6 (layV Rows.laid_unicode_utf8_first)) }
theorem laid_metU (os : Os) (args : Array Value) : laidMet Tryz.prog Rows.fieldShowsRow.laid ((laidWorldU os).forCall (fun _ _ => 0) ⟨#[], args, []⟩).memory :=
  laidMet_of_run' 8 (by kernel_rfl) (by kernel_rfl)
theorem gU : Tryz.prog.globalNamed "reach/scan.shorts" = some 8 := by kernel_rfl
theorem gtU : (Tryz.prog.globals[8]?).map (·.type) = some 232 := by kernel_rfl
theorem ciU : Tryz.prog.cellsOf 21 = 1 := by kernel_rfl
theorem ceU : Tryz.prog.cellsOf 231 = 2 := by kernel_rfl
theorem ctU : Tryz.prog.cellsOf 232 = 5 * 2 := by kernel_rfl
theorem SH_of {W : World} {rest : List (String × DataW Unit)} (h : laidMet Tryz.prog (("reach/scan.shorts", Rows.laid_reach_scan_shorts) :: rest) W) : SH W := by
  have hp : PairIs Tryz.prog W "reach/scan.shorts" .i32 shortsL := pairIs_of_head gU gtU Tryz.underlying232 Tryz.underlying231 rfl rfl rfl rfl Tryz.underlying21 ciU ceU ctU h
  unfold PairIs World.var? at hp
  rw [gU] at hp
  simp only [Option.bind_some] at hp
  split at hp
  · rename_i cs t fr hh
    have e : cs = shortsC := Option.some.inj hp
    exact ⟨_, _, by rw [hh, e]⟩
  · cases hp

theorem gD : Tryz.prog.globalNamed "math/bits.deBruijn64tab" = some 2 := by kernel_rfl
theorem gtD : (Tryz.prog.globals[2]?).map (·.type) = some 201 := by kernel_rfl
theorem ceD : Tryz.prog.cellsOf 5 = 1 := by kernel_rfl
theorem ctD : Tryz.prog.cellsOf 201 = 64 := by kernel_rfl
def tabD : List Int := Lib.deBruijn64tab.map (fun n : Nat => (n : Int))
theorem DB_of {W : World} {rest : List (String × DataW Unit)} (h : laidMet Tryz.prog (("math/bits.deBruijn64tab", Rows.laid_math_bits_deBruijn64tab) :: rest) W) : DB W := by
  have e : (Rows.laid_math_bits_deBruijn64tab : DataW Unit) = Lib.tabData .u8 tabD := by kernel_rfl
  rw [e] at h
  have ht : Lib.TabIs Tryz.prog W "math/bits.deBruijn64tab" .u8 tabD := Lib.tabIs_of_head gD gtD Tryz.underlying201 Tryz.underlying5 ceD ctD h
  intro j hj
  have hc := ht.cell gD j (by unfold tabD; rw [List.length_map]; exact hj)
  rw [hc]
  refine congrArg (fun z => some (Value.int .u8 z)) ?_
  unfold tabD
  simp [List.getD, List.getElem?_map, List.getElem?_eq_getElem hj]
theorem gG : Tryz.prog.globalNamed "reach/scan.signs" = some 5 := by kernel_rfl
theorem gtG : (Tryz.prog.globals[5]?).map (·.type) = some 213 := by kernel_rfl
theorem ceG : Tryz.prog.cellsOf 9 = 1 := by kernel_rfl
theorem ctG : Tryz.prog.cellsOf 213 = 16 := by kernel_rfl
theorem SG_of {W : World} {rest : List (String × DataW Unit)} (h : laidMet Tryz.prog (("reach/scan.signs", Rows.laid_reach_scan_signs) :: rest) W) : SG W := by
  have e : (Rows.laid_reach_scan_signs : DataW Unit) = strData signsL := by kernel_rfl
  rw [e] at h
  have hp := strs_of_head gG gtG Tryz.underlying213 Tryz.underlying9 ceG ctG h
  unfold World.var? at hp
  rw [gG] at hp
  simp only [Option.bind_some] at hp
  split at hp
  · rename_i cs t fr hh
    have e : cs = signsC := Option.some.inj hp
    exact ⟨_, _, by rw [hh, e]⟩
  · cases hp
set_option maxRecDepth 100000 in
theorem fieldShows_lifted (os : Os) (started : os.Started) (H : Type) (enc : TypeId × Value → H) :
    ReturnsInHanded {} Tryz.checked os 4 .any (fun w args => (Rows.fieldShowsSpec.pre enc Tryz.prog Tryz.f4 Rows.fieldShowsRow.domain false w args ∧ laidMet Tryz.prog Rows.fieldShowsRow.laid w) ∧ sizedMet enc Tryz.prog Tryz.f4 (OpenSpec.ofChange Rows.fieldShowsSpec) false w args)
      (Rows.fieldShowsSpec.post enc Tryz.prog Tryz.f4 false true false false) := by
  refine returnsInHanded_of_change_and (C := Tryz.checked) (X := fun w _ => laidMet Tryz.prog Rows.fieldShowsRow.laid w) (fun _ _ _ hh h => h.of_heap hh) own_knobU started (by kernel_rfl) Tryz.func4
    (ChangeSpec.witness_at (enc := enc) (C := Tryz.checked) (os := os) (X := fun w _ => laidMet Tryz.prog Rows.fieldShowsRow.laid w) false (laidWorldU os) #[.slice none 0 0, .string ByteArray.empty] 8 rfl (by kernel_rfl) (by kernel_rfl) (by kernel_rfl) (by kernel_rfl) (by kernel_rfl) (laid_metU os _)) ?_
  intro W base args ds gs before hval0 hW _ hsz0 hL _
  have hval : ∀ (j : Nat) t v, Tryz.f4.params[j]? = some t → args[j]? = some v → Value.okWide Tryz.prog W .any base t v := hval0
  have hsz : (DataW.weightsEach Tryz.prog (Tryz.f4.params.toList ++ Rows.fieldShowsSpec.plain.varTypes Tryz.prog) (ds ++ gs)).all (· ≤ reachBytes) = true := hsz0
  clear hsz0
  have hW' := hW
  obtain ⟨p, q, hA0, hV, rfl, _, _⟩ := hW
  have hA : DataW.TrodAll enc Tryz.prog W 0 (fun _ => true) true Tryz.f4.params.toList args.toList ds p := hA0
  rw [Tryz.params4] at hA hval hsz
  obtain ⟨v0, vs0, d0, ds0, p0, q0, hargs, rfl, rfl, h0, r0⟩ := trodAll_cons hA
  obtain ⟨v1, vs1, d1, ds1, p1, q1, rfl, rfl, rfl, h1, r1⟩ := trodAll_cons r0
  obtain ⟨rfl, rfl, rfl⟩ := trodAll_nil r1
  obtain rfl : args = #[v0, v1] := by cases args; simp_all
  obtain ⟨rfl, rfl⟩ := trodVars_none hV
  obtain ⟨ad, len, cap, rfl⟩ := okWide_slice Tryz.underlying22 (hval 0 22 v0 rfl rfl)
  obtain ⟨a1, rfl, rfl, rfl, w1⟩ := open_string Tryz.underlying9 (hval 1 9 v1 rfl rfl) h1
  have k1 := h0
  have lt1 : ∀ x ∈ p0, x.block < W.heap.size := by obtain ⟨m, hm⟩ := k1; exact DataW.trod_lt m _ _ _ hm
  clear hA0 hval0
  simp only [List.append_nil] at hW'
  obtain ⟨L, hLn, hcap, hcell, hlenb, hstr⟩ : ∃ L : List IFld, L.length = len ∧ len ≤ cap ∧ IRF W ad L ∧ len * 24 ≤ 140737488355328 ∧ ∀ f ∈ L, f.1.length ≤ 281474976710656 := by
    obtain ⟨fuel, hf⟩ := h0
    rcases open_flds hf with ⟨hcs, hx⟩ | ⟨a, l, c, L, spare, hcs, hl, hlc, hx, hc⟩
    · simp [Value.cells] at hcs
      obtain ⟨rfl, rfl, rfl⟩ := hcs
      exact ⟨[], rfl, Nat.le_refl _, fun W' hW' k t ht => by simp at ht, by omega, fun t ht => by simp at ht⟩
    · simp [Value.cells] at hcs
      obtain ⟨rfl, rfl, rfl⟩ := hcs
      simp only at hx
      subst hx
      obtain ⟨s1, s2⟩ := sized_flds (j := 0) hsz rfl rfl
      have h2 := reachBytes_lt
      have e3 : (2 : Nat) ^ 47 = 140737488355328 := by decide
      refine ⟨L, hl, hlc, fun Wz hz k t ht => ?_, by omega, fun t ht => by have := s2 t ht; omega⟩
      obtain ⟨g, o0, rfl, c0, c1⟩ := hc k t ht
      have hk : ∀ {p : Addr} {v : Value}, W.cell? p = some v → Wz.cell? p = some v := fun h => (hz.cell (World.block_lt_of_cell? W _ h)).trans h
      exact ⟨g, o0, rfl, hk c0, hk c1⟩
  have hlim1 : a1.size ≤ 281474976710656 := by
    have h1 := sized_string hsz (j := 1) (t := 9) rfl rfl
    have h2 := reachBytes_lt
    have e1 : a1.size = a1.data.size := rfl
    have e2 : a1.data.toList.length = a1.data.size := Array.length_toList
    have e3 : (2 : Nat) ^ 47 = 140737488355328 := by decide
    omega
  have htab : Lib.TabIs Tryz.prog W "internal/strconv.uint64pow10" .u64 Lib.pow10Tab := Lib.tabIs_of_head gV_pow gtV_pow Tryz.underlying211 Tryz.underlying119 ceV_pow ctV_pow hL.tail.tail
  obtain ⟨b0, s0, hv0, -, -, -⟩ := laid_sentinel hL.tail.tail.tail.tail gV_rng gtV_rng Tryz.underlying134 rowV_es Tryz.underlying251 Tryz.underlying253 rfl rfl Tryz.underlying9 cellsV_es cellsV_s
  obtain ⟨b1, s1, hv1, -, -, -⟩ := laid_sentinel hL.tail.tail.tail.tail.tail gV_syn gtV_syn Tryz.underlying134 rowV_es Tryz.underlying251 Tryz.underlying253 rfl rfl Tryz.underlying9 cellsV_es cellsV_s
  refine (fieldShows_walk L len ad cap a1 W hLn hcap hlenb hstr hcell hlim1 (SH_of hL.tail.tail.tail.tail.tail.tail) (DB_of hL.tail) (SG_of hL.tail.tail.tail.tail.tail.tail.tail) ⟨htab, ⟨_, _, hv1⟩, ⟨_, _, hv0⟩⟩).mono fun e W' ⟨he, hnx⟩ => ?_
  subst he
  exact ⟨_, rfl, _, _, _, [], _, [], hW', trodAll_mk1 (shut_bool Tryz.underlying4 _), trodAll_cons_mk (Below.trod laidU (by kernel_rfl) (of_decide_eq_true (by kernel_rfl)) k1 hnx lt1) (trodAll_cons_mk (shut_string Tryz.underlying9 w1) trodAll_mk0), rfl, hnx.frame _, fun h => by cases h⟩

theorem fieldShows_row : Rows.FieldShowsSaid :=
  OpenClaim.holds_of_wide 4 Tryz.f4 rfl rfl rfl rfl rfl rfl rfl ⟨rfl, rfl, rfl, rfl, rfl⟩ rfl rfl rfl rfl rfl (by kernel_rfl) Tryz.func4 (by kernel_rfl)
    (of_decide_eq_true (by kernel_rfl)) (by unfold Func.isWrapper; first | (rw [if_pos (by decide +kernel)]; kernel_rfl) | (rw [if_neg (by decide +kernel)]; exact ⟨rfl, rfl⟩))
    (fun os started H enc _ => fieldShows_lifted os started H enc)

theorem fieldShows_holds : Rows.FieldShowsCardSaid :=
  Claim7.holds_tied_plain_at .later [] [.data, .data, .data, .data, .sentinel, .sentinel, .data, .data, .pinned] true Rows.fieldShowsCard.stood.harness true
    fieldShows_row (fun _ h => by cases h) (by kernel_rfl) (fun _ h => by cases h) fieldShows_row_tie rfl ⟨rfl, rfl⟩ (by kernel_rfl) rfl
    (fun f fn hf hfn => by
      obtain rfl : f = 4 := Option.some.inj ((show Tryz.prog.funcNamed Rows.fieldShowsRow.func = some 4 by kernel_rfl).symm.trans hf) |>.symm
      obtain rfl : fn = Tryz.f4 := (Option.some.inj (Tryz.func4.symm.trans hfn)).symm
      exact ⟨by kernel_rfl, fun j t ht => by
        rw [Tryz.params4] at ht
        have h3 : t = 22 ∨ t = 9 := by
          rcases j with _ | _ | j
          · exact .inl (by simpa using ht.symm)
          · exact .inr (by simpa using ht.symm)
          · simp at ht
        rcases h3 with rfl | rfl
        · exact (show Tryz.prog.wantsStandIn 22 = false by kernel_rfl)
        · exact (show Tryz.prog.wantsStandIn 9 = false by kernel_rfl)⟩)
    (by kernel_rfl)
#print axioms fieldShows_holds
end Go.Proofs.YtepokgainceidaaGreatDoor
