import Derived.Test.YtmfakcfmkmppfaaGreatDoorVBO
import Derived.Test.YtmfakcfmkmppfaaGreatDoorVBP
import Derived.Test.YtmfakcfmkmppfaaGreatDoorCards
import Derived.Test.YtmfakcfmkmppfaaGreatDoorTie
import Derived.ChangeVars
import Derived.ChangeMaps5
import Derived.JoinedOf
import Derived.JoinedAt
import Derived.RowKit
import Derived.RowKit3
import Derived.RowKitTokens
import Derived.LaidLaws
import Derived.Stop.LaidErr
import Derived.Handed
import Derived.OpenShut
import Derived.ShutString
import Derived.ChangeOld
import Derived.Carry
namespace Go.Proofs.YtmfakcfmkmppfaaGreatDoor
open Go.ChangeShapes Go.WideShapes Go.ChangeAt Go.RowKit
open Go.ChangeMaps (open_string shut_string)

theorem laidU:laidOutB Tryz.prog=true:=by kernel_rfl
theorem own_knobU:ownKnob Tryz.prog.godebug=none:=by kernel_rfl
theorem gV_pow:Tryz.prog.globalNamed "internal/strconv.uint64pow10" = some 7:=by kernel_rfl
theorem gtV_pow:(Tryz.prog.globals[7]?).map (·.type)=some 271:=by kernel_rfl
theorem ceV_pow:Tryz.prog.cellsOf 66=1:=by kernel_rfl
theorem ctV_pow:Tryz.prog.cellsOf 271=20:=by kernel_rfl
theorem gV_syn:Tryz.prog.globalNamed "strconv.ErrSyntax" = some 5:=by kernel_rfl
theorem gtV_syn:(Tryz.prog.globals[5]?).map (·.type)=some 242:=by kernel_rfl
theorem gV_rng:Tryz.prog.globalNamed "strconv.ErrRange" = some 6:=by kernel_rfl
theorem gtV_rng:(Tryz.prog.globals[6]?).map (·.type)=some 242:=by kernel_rfl
theorem starV : "*errors.errorString" = "*" ++ "errors.errorString" := by decide
theorem rowV_es (u:TypeId) (h:Tryz.prog.typeName? 3 u=some "*errors.errorString"):u=267:=
 typeName_ptr_named (nm:= "errors.errorString") (by rw [<-starV];kernel_rfl) (by kernel_rfl) (by decide) u (by rw [<-starV];exact h)
theorem cellsV_es:Tryz.prog.cellsOf 269=1:=by kernel_rfl
theorem cellsV_s:Tryz.prog.cellsOf 9=1:=by kernel_rfl
def cellsE:DataW Unit->List Value
 | .lit (.int k z)=>[.int k z]
 | .lit (.string z)=>[.string ⟨z.toArray⟩]
 | _=>[]
def cellsF:DataW Unit->List Value
 | .agg xs=>xs.flatMap cellsE
 | d=>cellsE d
def cellsG:DataW Unit->List Value
 | .agg xs=>xs.flatMap cellsF
 | d=>cellsF d
def cellsV:DataW Unit->Array Value
 | .agg xs=>(xs.flatMap cellsG).toArray
 | _=>#[]
def layV (d:DataW Unit):Obj->Obj
 | .cells _ t frozen=>.cells (cellsV d) t frozen
 | o=>o
def layE (a:Nat):Obj->Obj
 | .cells _ t frozen=>.cells #[.iface 267 (.pointer (some ⟨a,0,none⟩))] t frozen
 | o=>o
abbrev synS:ByteArray:={ data:=#[105,110,118,97,108,105,100,32,115,121,110,116,97,120] }
abbrev rngS:ByteArray:={ data:=#[118,97,108,117,101,32,111,117,116,32,111,102,32,114,97,110,103,101] }
noncomputable def lowV:Nat:=(World.holding Tryz.prog default ⟨#[],#[],[]⟩).heap.size
noncomputable def laidWorldU (os:Os):World:=
 let w0:=World.holding Tryz.prog os ⟨#[.cells #[.string synS] 269,.cells #[.string rngS] 269],#[],[]⟩
 { w0 with heap:=(((((((((w0.heap.modify 8 (layV Rows.laid_math_bits_deBruijn32tab)).modify 9 (layV Rows.laid_math_bits_deBruijn64tab)).modify 7 (layV Rows.laid_internal_strconv_uint64pow10)).modify 2 (layV Rows.laid_unicode_utf8_acceptRanges)).modify 6 (layE (lowV+1))).modify 5 (layE lowV)).modify 4 (layV Rows.laid_reach_scan_shorts)).modify 0 (layV Rows.laid_reach_scan_signs)).modify 1 (layV Rows.laid_unicode_utf8_first)) }
theorem laid_metU (os:Os) (args:Array Value):laidMet Tryz.prog Rows.stepNestedRow.laid ((laidWorldU os).forCall (fun _ _=>0) ⟨#[],args,[]⟩).memory:=
 laidMet_of_run' 8 (by kernel_rfl) (by kernel_rfl)
theorem gU:Tryz.prog.globalNamed "reach/scan.shorts" = some 4:=by kernel_rfl
theorem gtU:(Tryz.prog.globals[4]?).map (·.type)=some 235:=by kernel_rfl
theorem ciU:Tryz.prog.cellsOf 21=1:=by kernel_rfl
theorem ceU:Tryz.prog.cellsOf 234=2:=by kernel_rfl
theorem ctU:Tryz.prog.cellsOf 235=5*2:=by kernel_rfl
theorem SH_of {W:World} {rest:List (String×DataW Unit)} (h:laidMet Tryz.prog (("reach/scan.shorts", Rows.laid_reach_scan_shorts) :: rest) W):SH W:=by
 have hp:zm9 Tryz.prog W "reach/scan.shorts" .i32 zda:=zhb gU gtU Tryz.underlying235 Tryz.underlying234 rfl rfl rfl rfl Tryz.underlying21 ciU ceU ctU h;unfold zm9 World.var? at hp;rw [gU] at hp;simp only [Option.bind_some] at hp
 split at hp
 ·rename_i cs t fr hh
  have e:cs=zia:=Option.some.inj hp;exact ⟨_,_,by rw [hh,e]⟩
 ·cases hp

theorem gG:Tryz.prog.globalNamed "reach/scan.signs" = some 0:=by kernel_rfl
theorem gtG:(Tryz.prog.globals[0]?).map (·.type)=some 209:=by kernel_rfl
theorem ceG:Tryz.prog.cellsOf 9=1:=by kernel_rfl
theorem ctG:Tryz.prog.cellsOf 209=16:=by kernel_rfl
theorem SG_of {W:World} {rest:List (String×DataW Unit)} (h:laidMet Tryz.prog (("reach/scan.signs", Rows.laid_reach_scan_signs) :: rest) W):SG W:=by
 have e:(Rows.laid_reach_scan_signs:DataW Unit)=zh7 zdq:=by kernel_rfl
 rw [e] at h;have hp:=zjj gG gtG Tryz.underlying209 Tryz.underlying9 ceG ctG h;unfold World.var? at hp;rw [gG] at hp;simp only [Option.bind_some] at hp
 split at hp
 ·rename_i cs t fr hh
  have e:cs=zl8:=Option.some.inj hp;exact ⟨_,_,by rw [hh,e]⟩
 ·cases hp
set_option maxRecDepth 100000 in
set_option maxHeartbeats 4000000 in
theorem stepNested_lifted (os:Os) (started:os.Started) (H:Type) (enc:TypeId×Value->H) :
  ReturnsInHanded {} Tryz.checked os 3 .any (fun w args=>(Rows.stepNestedSpec.pre enc Tryz.prog Tryz.f3 Rows.stepNestedRow.domain false w args/\laidMet Tryz.prog Rows.stepNestedRow.laid w)/\sizedMet enc Tryz.prog Tryz.f3 (OpenSpec.ofChange Rows.stepNestedSpec) false w args)
   (Rows.stepNestedSpec.post enc Tryz.prog Tryz.f3 false true false false):=by
 refine returnsInHanded_of_change_and (C:=Tryz.checked) (X:=fun w _=>laidMet Tryz.prog Rows.stepNestedRow.laid w) (fun _ _ _ hh h=>h.of_heap hh) own_knobU started (by kernel_rfl) Tryz.func3
  (ChangeSpec.witness_at (enc:=enc) (C:=Tryz.checked) (os:=os) (X:=fun w _=>laidMet Tryz.prog Rows.stepNestedRow.laid w) false (laidWorldU os) #[.agg #[.int .i64 0,.slice none 0 0,.slice none 0 0,.slice none 0 0],.agg #[.int .i64 0,.string ByteArray.empty],.int .i64 0,.int .i64 0,.int .i64 0] 8 rfl (by kernel_rfl) (by kernel_rfl) (by kernel_rfl) (by kernel_rfl) (by kernel_rfl) (laid_metU os _)) ?_
 intro W base args ds gs before hval0 hW _ hsz0 hL _;have hval:∀ (j:Nat) t v,Tryz.f3.params[j]?=some t->args[j]?=some v->Value.okWide Tryz.prog W .any base t v:=hval0;have hsz:(DataW.weightsEach Tryz.prog (Tryz.f3.params.toList++Rows.stepNestedSpec.plain.varTypes Tryz.prog) (ds++gs)).all (·<=reachBytes)=true:=hsz0;clear hsz0;have hW':=hW;obtain ⟨p,q,hA0,hV,rfl,_,_⟩:=hW;have hA:DataW.TrodAll enc Tryz.prog W 0 (fun _=>true) true Tryz.f3.params.toList args.toList ds p:=hA0;rw [Tryz.params3] at hA hval hsz;obtain ⟨v0,vs0,d0,ds0,p0,q0,hargs,rfl,rfl,h0,r0⟩:=trodAll_cons hA;obtain ⟨v1,vs1,d1,ds1,p1,q1,rfl,rfl,rfl,h1,r1⟩:=trodAll_cons r0;obtain ⟨v2,vs2,d2,ds2,p2,q2,rfl,rfl,rfl,h2,r2⟩:=trodAll_cons r1;obtain ⟨v3,vs3,d3,ds3,p3,q3,rfl,rfl,rfl,h3,r3⟩:=trodAll_cons r2;obtain ⟨v4,vs4,d4,ds4,p4,q4,rfl,rfl,rfl,h4,r4⟩:=trodAll_cons r3;obtain ⟨rfl,rfl,rfl⟩:=trodAll_nil r4;obtain rfl:args=#[v0,v1,v2,v3,v4]:=by cases args;simp_all
 obtain ⟨rfl,rfl⟩:=trodVars_none hV;obtain ⟨cs0,rfl,hcs0⟩:=okWide_struct Tryz.underlying26 (hval 0 26 v0 rfl rfl);obtain ⟨cs1,rfl,hcs1⟩:=okWide_struct Tryz.underlying28 (hval 1 28 v1 rfl rfl);obtain ⟨a2,rfl,rfl,rfl,w2⟩:=open_int Tryz.underlying3 (hval 2 3 v2 rfl rfl) h2;obtain ⟨a3,rfl,rfl,rfl,w3⟩:=open_int Tryz.underlying3 (hval 3 3 v3 rfl rfl) h3;obtain ⟨a4,rfl,rfl,rfl,w4⟩:=open_int Tryz.underlying3 (hval 4 3 v4 rfl rfl) h4;have k0:=h0;have lt0:∀ x∈p0,x.block < W.heap.size:=by obtain ⟨m,hm⟩:=k0;exact DataW.trod_lt m _ _ _ hm
 have k1:=h1;have lt1:∀ x∈p1,x.block < W.heap.size:=by obtain ⟨m,hm⟩:=k1;exact DataW.trod_lt m _ _ _ hm
 clear hA0 hval0;simp only [List.append_nil] at hW';obtain ⟨n0,nv0,hc0,hln0,hok0⟩:∃ (n:Nt.NN) (v:Nt.NV),cs0=Nt.nnA n v/\Nt.LN W n v/\Nt.okN n:=by
  obtain ⟨fuel,hf⟩:=h0;obtain ⟨n,v,e1,e2,e3⟩:=Nt.open_net9 hf (fun k hk=>by
   have:=List.all_eq_true.1 hsz _ (DataW.weights_mem_each (j:=0) rfl rfl k hk)
   simpa using this)
  exact ⟨n,v,Array.ext' e1,e2,e3⟩
 subst hc0;obtain ⟨st1,hc1,hs1⟩:∃ s:Int×List UInt8,cs1=#[.int .i64 s.1,.string ⟨s.2.toArray⟩]/\Nt.okS s.2:=by
  obtain ⟨fuel,hf⟩:=h1;obtain ⟨s,e1,e2⟩:=Nt.open_state9 hf (fun k hk=>by
   have:=List.all_eq_true.1 hsz _ (DataW.weights_mem_each (j:=1) rfl rfl k hk)
   simpa using this)
  exact ⟨s,Array.ext' e1,e2⟩
 subst hc1;have htab:Lib.TabIs Tryz.prog W "internal/strconv.uint64pow10" .u64 Lib.pow10Tab:=Lib.tabIs_of_head gV_pow gtV_pow Tryz.underlying271 Tryz.underlying66 ceV_pow ctV_pow hL.tail.tail;obtain ⟨b0,s0,hv0,-,-,-⟩:=laid_sentinel hL.tail.tail.tail.tail gV_rng gtV_rng Tryz.underlying242 rowV_es Tryz.underlying267 Tryz.underlying269 rfl rfl Tryz.underlying9 cellsV_es cellsV_s;obtain ⟨b1,s1,hv1,-,-,-⟩:=laid_sentinel hL.tail.tail.tail.tail.tail gV_syn gtV_syn Tryz.underlying242 rowV_es Tryz.underlying267 Tryz.underlying269 rfl rfl Tryz.underlying9 cellsV_es cellsV_s;have HVW:VW W:=⟨htab,⟨_,_,hv1⟩,⟨_,_,hv0⟩⟩;have HTB:Nt.TAB W:=fun U hU=>⟨(SH_of hL.tail.tail.tail.tail.tail.tail).below hU,(SG_of hL.tail.tail.tail.tail.tail.tail.tail).below hU,HVW.below hU⟩;refine (Nt.stepNested_walk n0 nv0 st1 a2 a3 a4 W hln0 hok0 hs1 HTB).mono fun e W' ⟨he,hnx⟩=>?_;subst he;exact ⟨_,rfl,_,_,_,[],_,[],hW',trodAll_mk1 (shut_bool Tryz.underlying4 _),(trodAll_cons_mk (Below.trod laidU (by kernel_rfl) (of_decide_eq_true (by kernel_rfl)) k0 hnx lt0) (trodAll_cons_mk (Below.trod laidU (by kernel_rfl) (of_decide_eq_true (by kernel_rfl)) k1 hnx lt1) (trodAll_cons_mk (shut_int Tryz.underlying3 w2) (trodAll_cons_mk (shut_int Tryz.underlying3 w3) (trodAll_cons_mk (shut_int Tryz.underlying3 w4) trodAll_mk0))))),rfl,hnx.frame _,fun h=>by cases h⟩

theorem stepNested_row:Rows.StepNestedSaid:=
 OpenClaim.holds_of_wide 3 Tryz.f3 rfl rfl rfl rfl rfl rfl rfl ⟨rfl,rfl,rfl,rfl,rfl⟩ rfl rfl rfl rfl rfl (by kernel_rfl) Tryz.func3 (by kernel_rfl)
  (of_decide_eq_true (by kernel_rfl)) (by unfold Func.isWrapper;first | (rw [if_pos (by decide +kernel)];kernel_rfl) | (rw [if_neg (by decide +kernel)];exact ⟨rfl,rfl⟩))
  (fun os started H enc _=>stepNested_lifted os started H enc)

theorem stepNested_holds:Rows.StepNestedCardSaid:=
 Claim7.holds_tied_plain_at .later [] [.data,.data,.data,.data,.sentinel,.sentinel,.data,.data,.pinned] true Rows.stepNestedCard.stood.harness true
  stepNested_row (fun _ h=>by cases h) (by kernel_rfl) (fun _ h=>by cases h) stepNested_row_tie rfl ⟨rfl,rfl⟩ (by kernel_rfl) rfl
  (fun f fn hf hfn=>by
   obtain rfl:f=3:=Option.some.inj ((show Tryz.prog.funcNamed Rows.stepNestedRow.func=some 3 by kernel_rfl).symm.trans hf) |>.symm;obtain rfl:fn=Tryz.f3:=(Option.some.inj (Tryz.func3.symm.trans hfn)).symm;exact ⟨by kernel_rfl,fun j t ht=>by
    rw [Tryz.params3] at ht;have h3:t=26∨t=28∨t=3:=by
     rcases j with _ | _ | _ | _ | _ | j
     ·exact (.inl (by simpa using ht.symm))
     ·exact (.inr (.inl (by simpa using ht.symm)))
     ·exact (.inr (.inr (by simpa using ht.symm)))
     ·exact (.inr (.inr (by simpa using ht.symm)))
     ·exact (.inr (.inr (by simpa using ht.symm)))
     ·simp at ht
    rcases h3 with rfl | rfl | rfl
    ·exact (show Tryz.prog.wantsStandIn 26=false by kernel_rfl)
    ·exact (show Tryz.prog.wantsStandIn 28=false by kernel_rfl)
    ·exact (show Tryz.prog.wantsStandIn 3=false by kernel_rfl)⟩)
  (by kernel_rfl)
#print axioms stepNested_holds
end Go.Proofs.YtmfakcfmkmppfaaGreatDoor
