import Derived.Test.YtbplhianpelmfaaGreatDoorYBM
import Derived.Shelf.Spec.SlicesGrow
import Derived.Ground.Names8Prog
import Derived.Test.YtbplhianpelmfaaGreatDoorYBL
namespace Go.Proofs.YtbplhianpelmfaaGreatDoor.Nt
open Go.RowKit Go.Shelf
noncomputable def flwM (n:NN) (s:Int×List UInt8) (Q:List Int):List UInt8×Int×Int:=if 130 < Q.length then ([],0,2) else if chkM n s=0 then folM n s Q else ([],0,chkM n s)
set_option maxRecDepth 100000 in
set_option maxHeartbeats 16000000 in
theorem sfollow_any (n:NN) (v:NV) (p:Int) (h:List UInt8) (Q:List Int) (qp:Option Addr) (m c:Nat) (w:World) (hN:LN w n v) (hO:okN n) (hT:TAB w) (hh:okS h) (hm:Q.length=m) (hQ:LI w qp Q) (hc:m≤c) (hM:m≤140737488351232) :
  Calls Tryz.prog 18 #[.agg (nnA n v),.agg (asC (p,h)).toArray,.slice qp m c] w (FLQ (flwM n (p,h) Q) w):=by
 have hck:=fun (U:World) (hU:Below w.heap.size w U)=>check_any n v p h U (hN.below hU) hO (hT.at hU) hh
 have hso:=fun (U:World)=>stateOf_any p h U hh
 have hrd:=fun (hV:NetP n) (U:World) (hU:Below w.heap.size w U)=>read_any n v n.ports.length n.tabs.length n.grds.length U (hN.below hU) hO hV rfl rfl rfl
 have hnx:=fun (hV:NetP n) (hS:StP n (p,h)) (x:NV) (U:World) (hU:Below w.heap.size w U) (hW:NW U n x)=>follow_any n x n.ports.length n.tabs.length n.grds.length p h Q qp m c U hW hV hS rfl rfl rfl hm (hQ.below hU) hc hM
 rw [show (asC (p,h)).toArray=#[.int .i64 p,.string ⟨h.toArray⟩] from rfl]
 obtain ⟨pp,cp,pt,ct,pg,cg⟩:=v
 unfold nnA at hck ⊢
 simp only at hck hrd ⊢
 obtain ⟨np,hnp⟩:∃ k,n.ports.length=k:=⟨_,rfl⟩
 obtain ⟨nt,hnt⟩:∃ k,n.tabs.length=k:=⟨_,rfl⟩
 obtain ⟨ng,hng⟩:∃ k,n.grds.length=k:=⟨_,rfl⟩
 obtain ⟨bits,hbits⟩:∃ b,n.bits=b:=⟨_,rfl⟩
 rw [hnp,hnt,hng] at hck hrd hnx ⊢
 rw [hbits] at hck hrd ⊢
 obtain ⟨R,hR⟩:∃ R,chkM n (p,h)=R:=⟨_,rfl⟩
 rw [hR] at hck
 obtain ⟨B,hB⟩:∃ B,w.heap.size=B:=⟨_,rfl⟩
 obtain ⟨b2,hb2⟩:∃ b2,w.heap.size+1=b2:=⟨_,rfl⟩
 obtain ⟨W1,hW1⟩:∃ W1,(w.alloc (.cells #[.int .i64 bits,.slice pp np cp,.slice pt nt ct,.slice pg ng cg] 26)).alloc (.cells #[.int .i64 p,.string ⟨h.toArray⟩] 28)=W1:=⟨_,rfl⟩
 have hz2:(w.alloc (.cells #[.int .i64 bits,.slice pp np cp,.slice pt nt ct,.slice pg ng cg] 26)).heap.size=w.heap.size+1:=Array.size_push _
 have b1:Below w.heap.size w W1:=by rw [←hW1];exact belAZ (belAZ (Below.refl _ _) _) _
 have k1:W1.heap[B]?=some (.cells #[.int .i64 bits,.slice pp np cp,.slice pt nt ct,.slice pg ng cg] 26 (0,0)):=by rw [←hW1,←hB];exact keepZ (belAZ (Below.refl _ _) _) (alloc_getZ _ _)
 have k2:W1.heap[b2]?=some (.cells #[.int .i64 p,.string ⟨h.toArray⟩] 28 (0,0)):=by rw [←hW1,←hb2,←hz2];exact alloc_getZ _ _
 have HC:Hid (∀ U,Below W1.heap.size W1 U→(U.cell? ⟨B,0,none⟩=some (.int .i64 bits)∧U.cell? ⟨B,1,none⟩=some (.slice pp np cp)∧U.cell? ⟨B,2,none⟩=some (.slice pt nt ct)∧U.cell? ⟨B,3,none⟩=some (.slice pg ng cg))∧(U.cell? ⟨b2,0,none⟩=some (.int .i64 p)∧U.cell? ⟨b2,1,none⟩=some (.string ⟨h.toArray⟩))):=fun U hU=>by
  have e1:=(cellsZ (keepZ hU k1)).1
  have e2:=(cellsZ (keepZ hU k2)).1
  exact ⟨⟨by rw [e1];rfl,by rw [e1];rfl,by rw [e1];rfl,by rw [e1];rfl⟩,⟨by rw [e2];rfl,by rw [e2];rfl⟩⟩
 have HCK:Hid (Calls Tryz.prog 25 #[.agg #[.int .i64 bits,.slice pp np cp,.slice pt nt ct,.slice pg ng cg],.agg #[.int .i64 p,.string ⟨h.toArray⟩]] W1 fun e w'=>e=.returned (.int .i64 R)∧Below W1.heap.size W1 w'):=hck W1 b1
 have HV:Hid (chkM n (p,h)=R∧Q.length=m):=⟨hR,hm⟩
 have HSO:Hid (∀ U:World,Calls Tryz.prog 28 #[.agg #[.int .i64 p,.string ⟨h.toArray⟩]] U fun e w'=>e=.returned (.agg (stC (p,Tn.cubeT h)).toArray)∧Below U.heap.size U w'):=hso
 have HRD:Hid (NetP n→∀ U,Below W1.heap.size W1 U→Calls Tryz.prog 26 #[.agg #[.int .i64 bits,.slice pp np cp,.slice pt nt ct,.slice pg ng cg]] U (RDQ n np nt ng U)):=fun hV U hU=>hrd hV U (bel0Z b1 hU)
 have HNX:Hid (NetP n→StP n (p,h)→∀ (x:NV) (U:World),Below W1.heap.size W1 U→NW U n x→Calls Tryz.prog 32 #[.agg #[.slice x.pp np x.cp,.slice x.pt nt x.ct,.slice x.pg ng x.cg],.agg (stC (p,h)).toArray,.slice qp m c] U (FLQ (folM n (p,h) Q) U)):=fun h1 h2 x U hU=>hnx h1 h2 x U (bel0Z b1 hU)
 have HB:=hideL hB
 have HB2:=hideL hb2
 have HW1:=hideL hW1
 have HBW:Hid (∀ U,Below W1.heap.size W1 U→Below w.heap.size w U):=fun U hU=>bel0Z b1 hU
 obtain ⟨⟨q0,q1,q2,q3⟩,⟨r0,r1⟩⟩:=HC.out W1 (Below.refl _ _)
 clear hN hO hT hh hck hso hrd hnx hnp hnt hng hbits hR hB hb2 hW1 hz2 b1 k1 k2 hm hQ hc
 go_enter Tryz.func18,Tryz.ntmps18
 go_upto_region 1 with fail
 rw [HW1.out,HB2.out,HB.out]
 by_cases hlong:130 < m
 ·have hl9:(m:Int) > 130:=by omega
  have HFIN:Hid (FLQ (flwM n (p,h) Q) w (.returned (.tuple #[.string ⟨#[]⟩,.int .i64 0,.int .i64 2])) W1):=by
   unfold flwM
   rw [if_pos (by rw [HV.out.2];exact hlong)]
   exact ⟨rfl,HBW.out W1 (Below.refl _ _)⟩
  clear hlong
  go_wp2_with fail
  refine bodyPost_ret (results_tmp3 rfl _ _ _) rfl ?_
  exact HFIN.out
 have hl9:¬(m:Int) > 130:=by omega
 have HLG:=hideL hlong
 clear hlong
 go_wp2_with fail
 refine (HCK.out).mono ?_
 rintro e W2 ⟨rfl,c2⟩
 clear q0 q1 q2 q3 r0 r1
 by_cases hP:NetP n∧StP n (p,h)
 ·have hR0:R=0:=by rw [←HV.out.1];exact chk_yes hP.1 hP.2
  subst hR0
  obtain ⟨a0,a1,a2,a3,a4,a5,a6,a7,a8,h9⟩:=c9_ex h
  have HST:Hid (∀ U:World,Calls Tryz.prog 28 #[.agg #[.int .i64 p,.string ⟨h.toArray⟩]] U fun e w'=>e=.returned (.agg #[.int .i64 p,.int .i64 a0,.int .u64 a1,.int .u64 a2,.int .u64 a3,.int .u64 a4,.int .u64 a5,.int .u64 a6,.int .u64 a7,.int .u64 a8])∧Below U.heap.size U w'):=fun U=>by
   have hh:=HSO.out U
   rw [cubeP_T (hdP_cube hP.2.2.2) hP.1.bits.1 hP.1.bits.2,stC_arr h9] at hh
   exact hh
  have HRD:=hideL (HRD.out hP.1)
  obtain ⟨rh,ri,re,hre⟩:∃ rh ri re,folM n (p,h) Q=(rh,ri,re):=⟨_,_,_,rfl⟩
  have HNX:Hid (∀ (x:NV) (U:World),Below W1.heap.size W1 U→NW U n x→Calls Tryz.prog 32 #[.agg #[.slice x.pp np x.cp,.slice x.pt nt x.ct,.slice x.pg ng x.cg],.agg #[.int .i64 p,.int .i64 a0,.int .u64 a1,.int .u64 a2,.int .u64 a3,.int .u64 a4,.int .u64 a5,.int .u64 a6,.int .u64 a7,.int .u64 a8],.slice qp m c] U fun e w'=>e=.returned (.tuple #[.string ⟨rh.toArray⟩,.int .i64 ri,.int .i64 re])∧Below U.heap.size U w'):=by
   have hh:=HNX.out hP.1 hP.2
   rw [stC_arr h9,hre] at hh
   exact hh
  have HFN:Hid (flwM n (p,h) Q=(rh,ri,re)):=by
   show _=_
   unfold flwM
   rw [if_neg (by rw [HV.out.2];exact HLG.out),if_pos HV.out.1,hre]
  have hs0:=HC.out W2.drew (bel0Z c2 (Below.refl _ _).drew)
  have HC2:=hideL (bel0Z c2 (Below.refl _ _).drew)
  clear HSO hP h9 hre c2
  go_upto_region 6 with fail
  refine wp_region_held_drew (S:=fun U=>(U.cell? ⟨B,0,none⟩=some (.int .i64 bits)∧U.cell? ⟨B,1,none⟩=some (.slice pp np cp)∧U.cell? ⟨B,2,none⟩=some (.slice pt nt ct)∧U.cell? ⟨B,3,none⟩=some (.slice pg ng cg))∧(U.cell? ⟨b2,0,none⟩=some (.int .i64 p)∧U.cell? ⟨b2,1,none⟩=some (.string ⟨h.toArray⟩))) (by kernel_rfl) hs0 (fun _=>?_)
  refine tk 0 (.agg #[.int .i64 bits,.slice pp np cp,.slice pt nt ct,.slice pg ng cg]) rfl hs0 ?_ ?_
  ·rintro w ⟨⟨q0,q1,q2,q3⟩,⟨r0,r1⟩⟩;go_simp
  refine tk 2 (.agg #[.int .i64 p,.string ⟨h.toArray⟩]) rfl hs0 ?_ ?_
  ·rintro w ⟨⟨q0,q1,q2,q3⟩,⟨r0,r1⟩⟩;go_simp
  refine tk 4 (.slice qp m c) rfl hs0 ?_ ?_
  ·rintro w ⟨⟨q0,q1,q2,q3⟩,⟨r0,r1⟩⟩;go_simp
  refine rd 1 rfl fun KK hKK=>?_
  go_simp
  refine (HRD.out _ HC2.out).mono ?_
  rintro en W3 ⟨p1,c1,p2,c2,p3,c3,rfl,hw3,b3⟩
  have d3:Below W1.heap.size W1 W3:=bel0Z HC2.out b3
  have hs3:=HC.out W3 d3
  go_simp
  refine hKK.out _ _ hs3 (fun _=>?_)
  clear hKK KK
  refine rd 3 rfl fun KK hKK=>?_
  go_simp
  refine (HST.out _).mono ?_
  rintro en W4 ⟨rfl,b4⟩
  have hw4:=hw3.below b4
  have d4:Below W1.heap.size W1 W4:=bel0Z d3 b4
  have hs4:=HC.out W4 d4
  clear hw3 b3 b4 d3
  go_simp
  refine hKK.out _ _ hs4 (fun _=>?_)
  clear hKK KK
  refine rd 5 rfl fun KK hKK=>?_
  go_simp
  refine (HNX.out _ _ d4 hw4).mono ?_
  rintro en W5 ⟨rfl,b5⟩
  have d5:Below W1.heap.size W1 W5:=bel0Z d4 b5
  have hs5:=HC.out W5 d5
  have HFIN:Hid (FLQ (flwM n (p,h) Q) w (.returned (.tuple #[.string ⟨rh.toArray⟩,.int .i64 ri,.int .i64 re])) W5):=by
   rw [HFN.out]
   exact ⟨rfl,HBW.out W5 d5⟩
  clear b5 d5
  go_simp
  refine hKK.out _ _ hs5 (fun _=>?_)
  clear hKK KK
  refine tk 6 (.string ⟨rh.toArray⟩) rfl hs5 ?_ ?_
  ·rintro w ⟨⟨q0,q1,q2,q3⟩,⟨r0,r1⟩⟩;go_simp
  refine tk 7 (.int .i64 ri) rfl hs5 ?_ ?_
  ·rintro w ⟨⟨q0,q1,q2,q3⟩,⟨r0,r1⟩⟩;go_simp
  refine tk 8 (.int .i64 re) rfl hs5 ?_ ?_
  ·rintro w ⟨⟨q0,q1,q2,q3⟩,⟨r0,r1⟩⟩;go_simp
  refine tk 9 (.string ⟨rh.toArray⟩) rfl hs5 ?_ ?_
  ·rintro w ⟨⟨q0,q1,q2,q3⟩,⟨r0,r1⟩⟩;go_simp
  refine tk 10 (.int .i64 ri) rfl hs5 ?_ ?_
  ·rintro w ⟨⟨q0,q1,q2,q3⟩,⟨r0,r1⟩⟩;go_simp
  refine tk 11 (.int .i64 re) rfl hs5 ?_ ?_
  ·rintro w ⟨⟨q0,q1,q2,q3⟩,⟨r0,r1⟩⟩;go_simp
  refine wpAnyH_done (by kernel_rfl) ?_ _
  try simp only [List.getElem_toArray,List.getElem_cons_succ,List.getElem_cons_zero,Act.put,List.setIfInBounds_toArray,List.set_cons_zero,List.set_cons_succ]
  go_wp2_with fail
  refine bodyPost_ret (results_tmp3 rfl _ _ _) rfl ?_
  exact HFIN.out
 ·have hR0:R≠0:=by rw [←HV.out.1];exact chk_no hP
  have HFIN:Hid (FLQ (flwM n (p,h) Q) w (.returned (.tuple #[.string ⟨#[]⟩,.int .i64 0,.int .i64 R])) W2):=by
   unfold flwM
   rw [if_neg (by rw [HV.out.2];exact HLG.out),if_neg (by rw [HV.out.1];exact hR0),HV.out.1]
   exact ⟨rfl,HBW.out W2 c2⟩
  clear hP c2
  go_wp2_with fail
  refine bodyPost_ret (results_tmp3 rfl _ _ _) rfl ?_
  exact HFIN.out
end Go.Proofs.YtbplhianpelmfaaGreatDoor.Nt
namespace Go.Proofs
open Go.Shelf
def Tryz.lgr_ren:Go.Shelf.Ren:=⟨fun | 4=>92 | n=>n,fun | 22=>38 | 25=>3 | 3=>3 | 4=>4 | 9=>9 | 20=>20 | 0=>0 | n=>n,fun | n=>n⟩
theorem Tryz.lgr:Go.Proofs.Lays8.n4 Tryz.prog Tryz.lgr_ren:={
 mixed:=by kernel_rfl
 f4:=⟨Tryz.f92.name,by decide,Tryz.func92.trans (congrArg some (by kernel_rfl))⟩
 t0:=Tryz.underlying0
 a0:=Tryz.isAgg0
 z0:=Tryz.sizeOf0
 v0:=Tryz.zeroValue0
 t3:=Tryz.underlying3
 a3:=Tryz.isAgg3
 z3:=Tryz.sizeOf3
 v3:=Tryz.zeroValue3
 t4:=Tryz.underlying4
 a4:=Tryz.isAgg4
 z4:=Tryz.sizeOf4
 v4:=Tryz.zeroValue4
 t9:=Tryz.underlying9
 a9:=Tryz.isAgg9
 z9:=Tryz.sizeOf9
 v9:=Tryz.zeroValue9
 t20:=Tryz.underlying20
 a20:=Tryz.isAgg20
 z20:=Tryz.sizeOf20
 v20:=Tryz.zeroValue20
 t22:=Tryz.underlying38
 a22:=Tryz.isAgg38
 z22:=Tryz.sizeOf38
 v22:=Tryz.zeroValue38 }
end Go.Proofs
namespace Go.Proofs.YtbplhianpelmfaaGreatDoor.Nt
open Go.RowKit Go.Shelf
def IL (W:World) (p:Option Addr) (n c:Nat) (L:List Int):Prop:=L.length=n∧LI W p L∧(p=none→c=0)∧∀ a,p=some a→∃ cs fr,W.heap[a.block]?=some (.cells cs 3 fr)
theorem IL.below {W U:World} {p:Option Addr} {n c:Nat} {L:List Int} (h:IL W p n c L) (hb:Below W.heap.size W U):IL U p n c L:=⟨h.1,h.2.1.below hb,h.2.2.1,fun a e=>by obtain ⟨cs,fr,h9⟩:=h.2.2.2 a e;exact ⟨cs,fr,keepZ hb h9⟩⟩
theorem own_il {W:World} {B n c:Nat} {p:Option Addr} {L:List Int} (h:W.ownsRow B 3 1 (.slice p n c) n (inZ L)) (hn:L.length=n):IL W p n c L:=by
 refine ⟨hn,own_li9 h hn,?_,?_⟩
 ·rcases h.2 with ⟨e,-⟩ | ⟨g,cap,cur,e,-⟩
  ·intro _
   injection e
  ·intro e9
   injection e with e1
   rw [e9] at e1
   cases e1
 ·intro a ea
  rcases h.2 with ⟨e,-⟩ | ⟨g,cap,cur,e,-,hg,-⟩
  ·injection e with e1
   rw [ea] at e1
   cases e1
  ·injection e with e1
   rw [ea] at e1
   obtain rfl:=Option.some.inj e1
   exact ⟨cur,(0,0),hg⟩
theorem IL.nil (W:World):IL W none 0 0 []:=⟨rfl,fun k x hx=>by simp at hx,fun _=>rfl,fun a e=>by cases e⟩
theorem own_neT {W:World} {B b T T2 s n k c:Nat} {p:Option Addr} {xs:List Value} {cs:Array Value} {fr:Nat×Nat} (h:W.ownsRow B T s (.slice p n c) k xs) (hb:W.heap[b]?=some (.cells cs T2 fr)) (hne:T≠T2):(Value.slice p n c).ownBlock≠some b:=by
 rcases h.2 with ⟨e,-⟩ | ⟨g,cap,cur,e,-,hg,-⟩
 ·rw [e];simp [Value.ownBlock]
 ·rw [e]
  intro e9
  obtain rfl:g=b:=by simpa [Value.ownBlock] using e9
  rw [hg] at hb
  simp only [Option.some.injEq,Obj.cells.injEq] at hb
  exact hne hb.2.1
theorem IL.kp {W U:World} {p:Option Addr} {n c:Nat} {L:List Int} (h:IL W p n c L) (hk:∀ (b:Nat) (cs:Array Value) (fr:Nat×Nat),W.heap[b]?=some (.cells cs 3 fr)→U.heap[b]?=some (.cells cs 3 fr)):IL U p n c L:=by
 refine ⟨h.1,fun k x hx=>?_,h.2.2.1,fun a e=>?_⟩
 ·obtain ⟨g,o,e,hc⟩:=h.2.1 k x hx
  obtain ⟨cs,fr,h9⟩:=h.2.2.2 _ e
  refine ⟨g,o,e,?_⟩
  have h8:=hk _ _ _ h9
  unfold World.cell? at hc ⊢
  rw [show U.heap[(⟨g,o+k,none⟩:Addr).block]?=_ from h8]
  rw [show W.heap[(⟨g,o+k,none⟩:Addr).block]?=_ from h9] at hc
  exact hc
 ·obtain ⟨cs,fr,h9⟩:=h.2.2.2 a e
  exact ⟨cs,fr,hk _ _ _ h9⟩
theorem inZ_app (A B:List Int):inZ (A++B)=inZ A++inZ B:=by unfold inZ;rw [List.map_append]
theorem inZ_len (A:List Int):(inZ A).length=A.length:=by unfold inZ;rw [List.length_map]
theorem inZ_one (A:List Int):∀ u∈inZ A,u.oneCell'=true:=fun u hu=>by
 unfold inZ at hu
 obtain ⟨x,-,rfl⟩:=List.mem_map.1 hu
 rfl
theorem grow_i (n:Nat) (w:World) (hn:n≤1000000):Calls Tryz.prog 92 #[.slice none 0 0,.int .i64 (n:Int)] w fun e w'=>∃ q c,e=.returned (.slice q 0 c)∧w'.ownsRow w.heap.size 3 1 (.slice q 0 c) 0 []∧Below w.heap.size w w':=by
 have key:Calls Tryz.prog 92 #[.slice none 0 0,.int .i64 (n:Int)] w fun e w'=>∃ v,e=.returned v∧w'.ownsRow w.heap.size 3 1 v 0 []∧Below w.heap.size w w':=by
  by_cases h0:n=0
  ·subst h0
   refine Calls.mono (Any8.slices_Grow_room Tryz.lgr none 0 0 0 w (Nat.le_refl _) (by omega) (by omega) (by omega)) ?_
   rintro e w' ⟨rfl,rfl⟩
   exact ⟨_,rfl,World.ownsRow_nil _ _ _ _,Below.refl _ _⟩
  ·obtain ⟨i1,hi1,hy0,hy1,hy2⟩:=info_parts info_rints
   have hb:=hy2
   refine Calls.mono (Any8.slices_Grow_grow Tryz.lgr i1 _ hi1 hy0 (by rw [hy1];decide) none 0 0 n [] w (Nat.le_refl _) (by omega) (by rw [hy2];omega) (by omega) (by simp) (fun _=>rfl) (fun a h=>by cases h)) ?_
   rintro e w' ⟨rfl,rfl⟩
   have hG:=grownCap_ge w (0+n) 0 3
   refine ⟨_,rfl,?_,(belAZ (Below.refl _ _).drew _)⟩
   have hm:grownCap w (0+n) 0 3≤maxLen:=grownCap_le_maxLen w (0+n) 0 3 (by unfold maxLen;omega)
   refine World.ownsRow_made (e:=3) (base:=w.heap.size) (size:=1) w.drew _ _ (Nat.le_refl _) hm ?_
   obtain ⟨G,hGG⟩:∃ G,grownCap w (0+n) 0 3=G:=⟨_,rfl⟩
   rw [hGG] at hG hm
   have hzc:(Value.cells (.int .i64 0)).size=1:=rfl
   show ((#[]:Array Value)++Builtin.zeroCells (Value.cells (.int .i64 0)) (0+n - 0)++Builtin.zeroCells (Value.cells (.int .i64 0)) (grownCap w (0+n) 0 3 - (0+n))).size=grownCap w (0+n) 0 3*1
   rw [hGG,Array.size_append,Array.size_append,size_zeroCells,size_zeroCells,hzc]
   show 0+(0+n - 0)*1+(G - (0+n))*1=G*1
   omega
 refine key.mono ?_
 rintro e w' ⟨v,rfl,ho,hb⟩
 obtain ⟨q,c,rfl⟩:∃ q c,v=.slice q 0 c:=shapeZ ho
 exact ⟨q,c,rfl,ho,hb⟩
set_option maxRecDepth 100000 in
set_option maxHeartbeats 16000000 in
theorem concat_i (L1 L2:List Int) (p1 p2:Option Addr) (n1 c1 n2 c2 n9 g:Nat) (w:World) (h1:IL w p1 n1 c1 L1) (h2:IL w p2 n2 c2 L2) (hN1:n1≤1000) (hN2:n2≤1000) (h9:n1+n2=n9) (hg:w.heap[g]?=some (.cells #[.slice p1 n1 c1,.slice p2 n2 c2] 38 (0,0))) :
  Calls Tryz.prog 84 #[.slice (some ⟨g,0,none⟩) 2 2] w fun e w'=>∃ q c,e=.returned (.slice q n9 c)∧w'.ownsRow w.heap.size 3 1 (.slice q n9 c) n9 (inZ (L1++L2))∧Below w.heap.size w w':=by
 obtain ⟨i0,hi,hz0,hz1,hz2⟩:=info_parts info_rints
 have HI:Hid (∀ U,Below w.heap.size w U→IL U p1 n1 c1 L1∧IL U p2 n2 c2 L2∧U.cell? ⟨g,0,none⟩=some (.slice p1 n1 c1)∧U.cell? ⟨g,1,none⟩=some (.slice p2 n2 c2)):=fun U hU=>by
  have e1:=(cellsZ (keepZ hU hg)).1
  exact ⟨h1.below hU,h2.below hU,by rw [e1];rfl,by rw [e1];rfl⟩
 have HG:Hid (∀ U,Calls Tryz.prog 92 #[.slice none 0 0,.int .i64 ((n1:Int)+(n2:Int))] U fun e w'=>∃ q c,e=.returned (.slice q 0 c)∧w'.ownsRow U.heap.size 3 1 (.slice q 0 c) 0 []∧Below U.heap.size U w'):=fun U=>by
  have h:=grow_i (n1+n2) U (by omega)
  rw [show ((n1+n2:Nat):Int)=(n1:Int)+(n2:Int) by omega] at h
  exact h
 have H9:Hid (n1+n2=n9):=h9
 have app:∀ (U:World) (q:Option Addr) (m c m9:Nat) (X L:List Int) (p:Option Addr) (k d:Nat),U.ownsRow w.heap.size 3 1 (.slice q m c) m (inZ X)→Below w.heap.size w U→IL U p k d L→m+k=m9→m9≤2000→
   ∃ q9 c9 W9,(Builtin.append_ #[38,38] 38 #[.slice q m c,.slice p k d]).run Tryz.prog U=.ok (.slice q9 m9 c9) W9∧W9.ownsRow w.heap.size 3 1 (.slice q9 m9 c9) m9 (inZ (X++L))∧Below w.heap.size w W9:=fun U q m c m9 X L p k d ho hb hl e hm=>by
  obtain ⟨q9,c9,W9,hr,o9,b9,-⟩:=appS (W:=U) (T:=3) (TS:=38) (news:=inZ L) (p2:=p) (m:=k) (c2:=d) Tryz.underlying38 hi hz0 hz1 hz2 rfl (by decide) ho hb.size (fun ad e9 j u hu=>by
   subst e9
   rw [←inZ_flat] at hu
   exact RowL.news inC_len (by decide) (li_rowL hl.2.1) j u hu) (fun e9=>by
   subst e9
   have hz:L=[]:=by
    cases hc:L with
    | nil=>rfl
    | cons t l=>
     obtain ⟨g,o0,e,-⟩:=hl.2.1 0 t (by rw [hc];rfl)
     cases e
   have hk:=hl.1
   rw [hz] at hk
   exact ⟨hk.symm,hl.2.2.1 rfl,by rw [hz];rfl⟩) (by rw [inZ_len,hl.1,Nat.mul_one]) (inZ_one L) e (by omega) (by omega)
  refine ⟨q9,c9,W9,hr,?_,hb.trans b9⟩
  rw [inZ_app]
  exact o9
 have HA:=hideL app
 clear h1 h2 hg app h9
 have f1:¬((n1:Int) < 0):=by omega
 have f2:¬((n1:Int)+(n2:Int) < 0):=by omega
 go_enter Tryz.func84,Tryz.ntmps84
 go_wp2_with fail
 go_loopw [3,11] (fun v3 v11 wr=>∃ k:Nat,v3=.int .i64 (match k with | 0=>0 | 1=>(n1:Int) | _=>(n1:Int)+(n2:Int))∧v11=.int .i64 k∧k≤2∧w=wr) (fun _ v11 _=>2 - (intOf v11).toNat)
 case atStart=>exact ⟨0,rfl,rfl,by omega,rfl⟩
 case round=>
  obtain ⟨k,rfl,rfl,hk,rfl⟩:=hrel
  obtain ⟨-,-,q1,q2⟩:=HI.out w (Below.refl _ _)
  rcases (show k=0∨k=1∨k=2 by omega) with rfl | rfl | rfl
  ·go_wp2_with fail
   go_roundw
   case rel=>exact ⟨1,by go_num,by go_num,by omega,trivial⟩
   case measure=>simp [intOf]
  ·go_wp2_with fail
   go_roundw
   case rel=>exact ⟨2,by go_num,by go_num,by omega,trivial⟩
   case measure=>simp [intOf]
  ·go_wp2_with fail
   refine (HG.out _).mono ?_
   rintro e w4 ⟨q4,c4,rfl,o4,hb4⟩
   have HO4:Hid (w4.ownsRow w.heap.size 3 1 (.slice q4 0 c4) 0 (inZ [])∧Below w.heap.size w w4):=⟨o4,hb4⟩
   clear o4 hb4 q1 q2
   go_wp2_with fail
   go_loopw [6,27] (fun v6 v27 wr=>∃ (k m c:Nat) (q:Option Addr),v6=.slice q m c∧v27=.int .i64 k∧k≤2∧Hid (m=(match k with | 0=>0 | 1=>n1 | _=>n1+n2)∧wr.ownsRow w.heap.size 3 1 (.slice q m c) m (inZ (match k with | 0=>[] | 1=>L1 | _=>L1++L2))∧Below w.heap.size w wr)) (fun _ v27 _=>2 - (intOf v27).toNat)
   case atStart=>exact ⟨0,0,c4,q4,rfl,rfl,by omega,rfl,HO4.out⟩
   case round=>
    clear HO4
    obtain ⟨k,m,c,q,rfl,rfl,hk,hO⟩:=hrel
    obtain ⟨i1,i2,k1,k2⟩:=HI.out wr hO.out.2.2
    rcases (show k=0∨k=1∨k=2 by omega) with rfl | rfl | rfl
    ·obtain ⟨q9,c9,W9,hr9,o9,b9⟩:=HA.out wr q m c n1 [] L1 p1 n1 c1 hO.out.2.1 hO.out.2.2 i1 (by have h1:=hO.out.1;simp only at h1;omega) (by omega)
     have HO2:Hid (n1=n1∧W9.ownsRow w.heap.size 3 1 (.slice q9 n1 c9) n1 (inZ L1)∧Below w.heap.size w W9):=⟨rfl,o9,b9⟩
     clear i1 i2 hO o9 b9 k2
     go_wp2_with (at_builtin;refine wpList_runZ rfl _ _ _ rfl rfl rfl hr9 ?_)
     go_roundw
     case rel=>exact ⟨1,n1,c9,q9,rfl,by go_num,by omega,HO2⟩
     case measure=>simp [intOf]
    ·obtain ⟨q9,c9,W9,hr9,o9,b9⟩:=HA.out wr q m c n9 L1 L2 p2 n2 c2 hO.out.2.1 hO.out.2.2 i2 (by have h1:=hO.out.1;have h2:=H9.out;simp only at h1;omega) (by have:=H9.out;omega)
     have HO2:Hid (n9=n1+n2∧W9.ownsRow w.heap.size 3 1 (.slice q9 n9 c9) n9 (inZ (L1++L2))∧Below w.heap.size w W9):=⟨H9.out.symm,o9,b9⟩
     clear i1 i2 hO o9 b9 k1
     go_wp2_with (at_builtin;refine wpList_runZ rfl _ _ _ rfl rfl rfl hr9 ?_)
     go_roundw
     case rel=>exact ⟨2,n9,c9,q9,rfl,by go_num,by omega,HO2⟩
     case measure=>simp [intOf]
    ·have HO2:Hid (m=n9∧wr.ownsRow w.heap.size 3 1 (.slice q m c) m (inZ (L1++L2))∧Below w.heap.size w wr):=⟨hO.out.1.trans H9.out,hO.out.2⟩
     clear i1 i2 hO k1 k2
     go_wp2_with fail
     go_ret
     obtain ⟨rfl,h9⟩:=HO2.out
     exact ⟨q,c,rfl,h9⟩
theorem last_get {L:List Int} {k:Nat} (h:L.length=k+1):L[k]?=some (L.getLastD 0):=by
 rw [List.getLastD_eq_getLast?,List.getLast?_eq_getElem?,h,Nat.add_sub_cancel]
 cases hc:L[k]? with
 | none=>rw [List.getElem?_eq_none_iff] at hc;omega
 | some x=>rfl
structure WV where
 pp:Option Addr
 cp:Nat
 pe:Option Addr
 ce:Nat
def wyC (x:WY×WV):List Value:=.slice x.2.pp x.1.ps.length x.2.cp :: .slice x.2.pe x.1.es.length x.2.ce :: cubC x.1.hd
theorem wyC_len (x:WY×WV):(wyC x).length=11:=rfl
theorem wyC_one (x:WY×WV):∀ u∈wyC x,u.oneCell'=true:=fun u hu=>by
 unfold wyC at hu
 rcases List.mem_cons.1 hu with rfl | hu
 ·rfl
 rcases List.mem_cons.1 hu with rfl | hu
 ·rfl
 exact cubC_one _ u hu
def WL (W:World) (x:WY×WV):Prop:=IL W x.2.pp x.1.ps.length x.2.cp x.1.ps∧IL W x.2.pe x.1.es.length x.2.ce x.1.es∧x.1.ps.length≤x.2.cp
theorem WL.below {W U:World} {x:WY×WV} (h:WL W x) (hb:Below W.heap.size W U):WL U x:=⟨h.1.below hb,h.2.1.below hb,h.2.2⟩
theorem own_cap {W:World} {B T s n c:Nat} {p:Option Addr} {xs:List Value} (h:W.ownsRow B T s (.slice p n c) n xs):n≤c:=by
 rcases h.2 with ⟨e,-⟩ | ⟨g,cap,cur,e,-,-,hn,-⟩
 ·injection e with e1 e2 e3
  omega
 ·injection e with e1 e2 e3
  omega
theorem wyC_arr {ps es:List Int} {hd:List UInt8} {pp pe:Option Addr} {cp ce np ne:Nat} {a0 a1 a2 a3 a4 a5 a6 a7 a8:Int} (h9:C9 hd a0 a1 a2 a3 a4 a5 a6 a7 a8) (hp:ps.length=np) (he:es.length=ne):(wyC (⟨ps,es,hd⟩,⟨pp,cp,pe,ce⟩)).toArray=#[.slice pp np cp,.slice pe ne ce,.int .i64 a0,.int .u64 a1,.int .u64 a2,.int .u64 a3,.int .u64 a4,.int .u64 a5,.int .u64 a6,.int .u64 a7,.int .u64 a8]:=by
 show (Value.slice pp ps.length cp :: Value.slice pe es.length ce :: cubC hd).toArray=_
 rw [show cubC hd=_ from h9,hp,he]
theorem put11 {W:World} {b T:Nat} {u0 u1 u2 u3 u4 u5 u6 u7 u8 u9 u10:Value} {m:Nat×Nat} (v0 v1 v2 v3 v4 v5 v6 v7 v8 v9 v10:Value) (h:W.heap[b]?=some (.cells #[u0,u1,u2,u3,u4,u5,u6,u7,u8,u9,u10] T m)):(((((((((((W.setCell ⟨b,0,none⟩ (v0)).setCell ⟨b,1,none⟩ (v1)).setCell ⟨b,2,none⟩ (v2)).setCell ⟨b,3,none⟩ (v3)).setCell ⟨b,4,none⟩ (v4)).setCell ⟨b,5,none⟩ (v5)).setCell ⟨b,6,none⟩ (v6)).setCell ⟨b,7,none⟩ (v7)).setCell ⟨b,8,none⟩ (v8)).setCell ⟨b,9,none⟩ (v9)).setCell ⟨b,10,none⟩ (v10)).heap[b]?=some (.cells #[v0,v1,v2,v3,v4,v5,v6,v7,v8,v9,v10] T m):=
 ((set_getZ _ (set_getZ _ (set_getZ _ (set_getZ _ (set_getZ _ (set_getZ _ (set_getZ _ (set_getZ _ (set_getZ _ (set_getZ _ (set_getZ _ h)))))))))))).trans (by simp)
theorem put11b {w W:World} {b:Nat} (v0 v1 v2 v3 v4 v5 v6 v7 v8 v9 v10:Value) (h0:Below w.heap.size w W) (hle:w.heap.size≤b):Below w.heap.size w (((((((((((W.setCell ⟨b,0,none⟩ (v0)).setCell ⟨b,1,none⟩ (v1)).setCell ⟨b,2,none⟩ (v2)).setCell ⟨b,3,none⟩ (v3)).setCell ⟨b,4,none⟩ (v4)).setCell ⟨b,5,none⟩ (v5)).setCell ⟨b,6,none⟩ (v6)).setCell ⟨b,7,none⟩ (v7)).setCell ⟨b,8,none⟩ (v8)).setCell ⟨b,9,none⟩ (v9)).setCell ⟨b,10,none⟩ (v10)):=
 (((((((((((h0.setCell hle _).setCell hle _).setCell hle _).setCell hle _).setCell hle _).setCell hle _).setCell hle _).setCell hle _).setCell hle _).setCell hle _).setCell hle _)
theorem put11f {W:World} {b b':Nat} (v0 v1 v2 v3 v4 v5 v6 v7 v8 v9 v10:Value) (h:b'≠b):(((((((((((W.setCell ⟨b,0,none⟩ (v0)).setCell ⟨b,1,none⟩ (v1)).setCell ⟨b,2,none⟩ (v2)).setCell ⟨b,3,none⟩ (v3)).setCell ⟨b,4,none⟩ (v4)).setCell ⟨b,5,none⟩ (v5)).setCell ⟨b,6,none⟩ (v6)).setCell ⟨b,7,none⟩ (v7)).setCell ⟨b,8,none⟩ (v8)).setCell ⟨b,9,none⟩ (v9)).setCell ⟨b,10,none⟩ (v10)).heap[b']?=W.heap[b']?:=by
 rw [far1 _ _ _ _ _ h,far1 _ _ _ _ _ h,far1 _ _ _ _ _ h,far1 _ _ _ _ _ h,far1 _ _ _ _ _ h,far1 _ _ _ _ _ h,far1 _ _ _ _ _ h,far1 _ _ _ _ _ h,far1 _ _ _ _ _ h,far1 _ _ _ _ _ h,far1 _ _ _ _ _ h]
theorem put3 {W:World} {b T:Nat} {u0 u1 u2:Value} {m:Nat×Nat} (v0 v1 v2:Value) (h:W.heap[b]?=some (.cells #[u0,u1,u2] T m)):(((W.setCell ⟨b,0,none⟩ (v0)).setCell ⟨b,1,none⟩ (v1)).setCell ⟨b,2,none⟩ (v2)).heap[b]?=some (.cells #[v0,v1,v2] T m):=
 ((set_getZ _ (set_getZ _ (set_getZ _ h)))).trans (by simp)
theorem put3b {w W:World} {b:Nat} (v0 v1 v2:Value) (h0:Below w.heap.size w W) (hle:w.heap.size≤b):Below w.heap.size w (((W.setCell ⟨b,0,none⟩ (v0)).setCell ⟨b,1,none⟩ (v1)).setCell ⟨b,2,none⟩ (v2)):=
 (((h0.setCell hle _).setCell hle _).setCell hle _)
theorem put3f {W:World} {b b':Nat} (v0 v1 v2:Value) (h:b'≠b):(((W.setCell ⟨b,0,none⟩ (v0)).setCell ⟨b,1,none⟩ (v1)).setCell ⟨b,2,none⟩ (v2)).heap[b']?=W.heap[b']?:=by
 rw [far1 _ _ _ _ _ h,far1 _ _ _ _ _ h,far1 _ _ _ _ _ h]
theorem res_last (tmps:Array Value) (W:World) (b:Nat) (p a0 a1 a2 a3 a4 a5 a6 a7 a8:Int) (h:tmps[2]?.getD undef=.pointer (some ⟨b,0,none⟩)) (hb:W.heap[b]?=some (.cells #[.int .i64 p,.int .i64 a0,.int .u64 a1,.int .u64 a2,.int .u64 a3,.int .u64 a4,.int .u64 a5,.int .u64 a6,.int .u64 a7,.int .u64 a8] 81 (0,0))) :
  (results Tryz.f54 tmps).run Tryz.prog W=.ok (.agg #[.int .i64 p,.int .i64 a0,.int .u64 a1,.int .u64 a2,.int .u64 a3,.int .u64 a4,.int .u64 a5,.int .u64 a6,.int .u64 a7,.int .u64 a8]) W:=by
 have h1:=(cellsZ hb).1
 have c0:=h1 0
 have c1:=h1 1
 have c2:=h1 2
 have c3:=h1 3
 have c4:=h1 4
 have c5:=h1 5
 have c6:=h1 6
 have c7:=h1 7
 have c8:=h1 8
 have c9:=h1 9
 simp at c0 c1 c2 c3 c4 c5 c6 c7 c8 c9
 simp [results,h,c0,c1,c2,c3,c4,c5,c6,c7,c8,c9,go_sem]
theorem res_alone (tmps:Array Value) (W:World) (b:Nat) (pp pe:Option Addr) (np cp ne ce:Nat) (a0 a1 a2 a3 a4 a5 a6 a7 a8:Int) (h:tmps[2]?.getD undef=.pointer (some ⟨b,0,none⟩)) (hb:W.heap[b]?=some (.cells #[.slice pp np cp,.slice pe ne ce,.int .i64 a0,.int .u64 a1,.int .u64 a2,.int .u64 a3,.int .u64 a4,.int .u64 a5,.int .u64 a6,.int .u64 a7,.int .u64 a8] 114 (0,0))) :
  (results Tryz.f48 tmps).run Tryz.prog W=.ok (.agg #[.slice pp np cp,.slice pe ne ce,.int .i64 a0,.int .u64 a1,.int .u64 a2,.int .u64 a3,.int .u64 a4,.int .u64 a5,.int .u64 a6,.int .u64 a7,.int .u64 a8]) W:=by
 have h1:=(cellsZ hb).1
 have c0:=h1 0
 have c1:=h1 1
 have c2:=h1 2
 have c3:=h1 3
 have c4:=h1 4
 have c5:=h1 5
 have c6:=h1 6
 have c7:=h1 7
 have c8:=h1 8
 have c9:=h1 9
 have c10:=h1 10
 simp at c0 c1 c2 c3 c4 c5 c6 c7 c8 c9 c10
 simp [results,h,c0,c1,c2,c3,c4,c5,c6,c7,c8,c9,c10,go_sem]
theorem res_to (tmps:Array Value) (W:World) (b:Nat) (pp pe:Option Addr) (np cp ne ce:Nat) (a0 a1 a2 a3 a4 a5 a6 a7 a8:Int) (h:tmps[6]?.getD undef=.pointer (some ⟨b,0,none⟩)) (hb:W.heap[b]?=some (.cells #[.slice pp np cp,.slice pe ne ce,.int .i64 a0,.int .u64 a1,.int .u64 a2,.int .u64 a3,.int .u64 a4,.int .u64 a5,.int .u64 a6,.int .u64 a7,.int .u64 a8] 114 (0,0))) :
  (results Tryz.f77 tmps).run Tryz.prog W=.ok (.agg #[.slice pp np cp,.slice pe ne ce,.int .i64 a0,.int .u64 a1,.int .u64 a2,.int .u64 a3,.int .u64 a4,.int .u64 a5,.int .u64 a6,.int .u64 a7,.int .u64 a8]) W:=by
 have h1:=(cellsZ hb).1
 have c0:=h1 0
 have c1:=h1 1
 have c2:=h1 2
 have c3:=h1 3
 have c4:=h1 4
 have c5:=h1 5
 have c6:=h1 6
 have c7:=h1 7
 have c8:=h1 8
 have c9:=h1 9
 have c10:=h1 10
 simp at c0 c1 c2 c3 c4 c5 c6 c7 c8 c9 c10
 simp [results,h,c0,c1,c2,c3,c4,c5,c6,c7,c8,c9,c10,go_sem]
theorem res_path (tmps:Array Value) (W:World) (b:Nat) (p q:Option Addr) (np cp ne ce:Nat) (t:List UInt8) (h:tmps[2]?.getD undef=.pointer (some ⟨b,0,none⟩)) (hb:W.heap[b]?=some (.cells #[.slice p np cp,.slice q ne ce,.string ⟨t.toArray⟩] 52 (0,0))) :
  (results Tryz.f68 tmps).run Tryz.prog W=.ok (.agg #[.slice p np cp,.slice q ne ce,.string ⟨t.toArray⟩]) W:=by
 have h1:=(cellsZ hb).1
 have c0:=h1 0
 have c1:=h1 1
 have c2:=h1 2
 simp at c0 c1 c2
 simp [results,h,c0,c1,c2,go_sem]
set_option maxRecDepth 100000 in
set_option maxHeartbeats 16000000 in
theorem last_any (x:WY×WV) (w:World) (hL:WL w x) (hne:x.1.ps≠[]) (hN:x.1.ps.length≤1000) :
  Calls Tryz.prog 54 #[.agg (wyC x).toArray] w fun e w'=>e=.returned (.agg (stC x.1.last).toArray)∧Below w.heap.size w w':=by
 obtain ⟨⟨ps,es,hd⟩,⟨pp,cp,pe,ce⟩⟩:=x
 obtain ⟨a0,a1,a2,a3,a4,a5,a6,a7,a8,h9⟩:=c9_ex hd
 obtain ⟨np,hnp⟩:∃ k,ps.length=k:=⟨_,rfl⟩
 obtain ⟨ne,hne9⟩:∃ k,es.length=k:=⟨_,rfl⟩
 rw [wyC_arr h9 hnp hne9]
 simp only at hne hN
 obtain ⟨p,hp⟩:∃ p,ps.getLastD 0=p:=⟨_,rfl⟩
 have hst:(stC (WY.last ⟨ps,es,hd⟩)).toArray=#[.int .i64 p,.int .i64 a0,.int .u64 a1,.int .u64 a2,.int .u64 a3,.int .u64 a4,.int .u64 a5,.int .u64 a6,.int .u64 a7,.int .u64 a8]:=by
  show (stC (ps.getLastD 0,hd)).toArray=_
  rw [stC_arr h9,hp]
 show Calls _ _ _ _ fun e w'=>e=.returned (.agg (stC (WY.last ⟨ps,es,hd⟩)).toArray)∧_
 rw [hst]
 obtain ⟨k,hk⟩:∃ k,np=k+1:=by
  cases hc:ps with
  | nil=>exact absurd hc hne
  | cons a l=>exact ⟨l.length,by rw [←hnp,hc];rfl⟩
 have hpk:ps[k]?=some p:=by
  rw [←hp]
  exact last_get (by rw [hnp,hk])
 obtain ⟨g,o,e0,cl⟩:=hL.1.2.1 k p hpk
 simp only at e0
 subst e0
 have hgw:g < w.heap.size:=World.block_lt_of_cell? w _ cl
 obtain ⟨b,hb⟩:∃ b,w.heap.size=b:=⟨_,rfl⟩
 obtain ⟨b2,hb2⟩:∃ b2,w.heap.size+1=b2:=⟨_,rfl⟩
 obtain ⟨W1,hW1⟩:∃ W1,(w.alloc (.cells #[.slice (some ⟨g,o,none⟩) np cp,.slice pe ne ce,.int .i64 a0,.int .u64 a1,.int .u64 a2,.int .u64 a3,.int .u64 a4,.int .u64 a5,.int .u64 a6,.int .u64 a7,.int .u64 a8] 114)).alloc (.cells #[.int .i64 0,.int .i64 0,.int .u64 0,.int .u64 0,.int .u64 0,.int .u64 0,.int .u64 0,.int .u64 0,.int .u64 0,.int .u64 0] 81)=W1:=⟨_,rfl⟩
 have hz1:(w.alloc (.cells #[.slice (some ⟨g,o,none⟩) np cp,.slice pe ne ce,.int .i64 a0,.int .u64 a1,.int .u64 a2,.int .u64 a3,.int .u64 a4,.int .u64 a5,.int .u64 a6,.int .u64 a7,.int .u64 a8] 114)).heap.size=w.heap.size+1:=Array.size_push _
 have b1:Below w.heap.size w W1:=by rw [←hW1];exact belAZ (belAZ (Below.refl _ _) _) _
 have kb:W1.heap[b]?=some (.cells #[.slice (some ⟨g,o,none⟩) np cp,.slice pe ne ce,.int .i64 a0,.int .u64 a1,.int .u64 a2,.int .u64 a3,.int .u64 a4,.int .u64 a5,.int .u64 a6,.int .u64 a7,.int .u64 a8] 114 (0,0)):=by rw [←hW1,←hb];exact keepZ (belAZ (Below.refl _ _) _) (alloc_getZ _ _)
 have kb2:W1.heap[b2]?=some (.cells #[.int .i64 0,.int .i64 0,.int .u64 0,.int .u64 0,.int .u64 0,.int .u64 0,.int .u64 0,.int .u64 0,.int .u64 0,.int .u64 0] 81 (0,0)):=by rw [←hW1,←hb2,←hz1];exact alloc_getZ _ _
 have HS:Hid (∀ U,Below W1.heap.size W1 U→(U.cell? ⟨b,0,none⟩=some (.slice (some ⟨g,o,none⟩) np cp)∧U.cell? ⟨b,1,none⟩=some (.slice pe ne ce)∧U.cell? ⟨b,2,none⟩=some (.int .i64 a0)∧U.cell? ⟨b,3,none⟩=some (.int .u64 a1)∧U.cell? ⟨b,4,none⟩=some (.int .u64 a2)∧U.cell? ⟨b,5,none⟩=some (.int .u64 a3)∧U.cell? ⟨b,6,none⟩=some (.int .u64 a4)∧U.cell? ⟨b,7,none⟩=some (.int .u64 a5)∧U.cell? ⟨b,8,none⟩=some (.int .u64 a6)∧U.cell? ⟨b,9,none⟩=some (.int .u64 a7)∧U.cell? ⟨b,10,none⟩=some (.int .u64 a8))∧U.cell? ⟨g,o+k,none⟩=some (.int .i64 p)):=fun U hU=>by
  have e1:=(cellsZ (keepZ hU kb)).1
  exact ⟨⟨by rw [e1];rfl,by rw [e1];rfl,by rw [e1];rfl,by rw [e1];rfl,by rw [e1];rfl,by rw [e1];rfl,by rw [e1];rfl,by rw [e1];rfl,by rw [e1];rfl,by rw [e1];rfl,by rw [e1];rfl⟩,keepC (bel0Z b1 hU) cl⟩
 have HK:Hid (W1.drew.heap[b2]?=some (.cells #[.int .i64 0,.int .i64 0,.int .u64 0,.int .u64 0,.int .u64 0,.int .u64 0,.int .u64 0,.int .u64 0,.int .u64 0,.int .u64 0] 81 (0,0))∧Below w.heap.size w W1.drew∧w.heap.size≤b2∧b≠b2∧g≠b2):=⟨keepZ (Below.refl _ _).drew kb2,b1.drew,by omega,by omega,by omega⟩
 have HB:=hideL hb
 have HB2:=hideL hb2
 have HW:=hideL hW1
 have HB1:=hideL b1
 have ek:IntKind.i64.wrap ((np:Int) - 1)=(k:Int):=by rw [IntKind.wrap_i64];omega
 have j0:(0:Int)≤(k:Int):=by omega
 have j1:(k:Int) < (np:Int):=by omega
 have hs0:=HS.out W1.drew (Below.refl _ _).drew
 clear hW1 b1 hb kb hb2 kb2 hz1 hL hne hN h9 hnp hne9 hp hst hpk cl hk hgw
 go_enter Tryz.func54,Tryz.ntmps54
 go_upto_region 1 with fail
 rw [HW.out,HB2.out,HB.out]
 refine wp_region_held_drew (S:=fun U=>(U.cell? ⟨b,0,none⟩=some (.slice (some ⟨g,o,none⟩) np cp)∧U.cell? ⟨b,1,none⟩=some (.slice pe ne ce)∧U.cell? ⟨b,2,none⟩=some (.int .i64 a0)∧U.cell? ⟨b,3,none⟩=some (.int .u64 a1)∧U.cell? ⟨b,4,none⟩=some (.int .u64 a2)∧U.cell? ⟨b,5,none⟩=some (.int .u64 a3)∧U.cell? ⟨b,6,none⟩=some (.int .u64 a4)∧U.cell? ⟨b,7,none⟩=some (.int .u64 a5)∧U.cell? ⟨b,8,none⟩=some (.int .u64 a6)∧U.cell? ⟨b,9,none⟩=some (.int .u64 a7)∧U.cell? ⟨b,10,none⟩=some (.int .u64 a8))∧U.cell? ⟨g,o+k,none⟩=some (.int .i64 p)) (by kernel_rfl) hs0 (fun _=>?_)
 obtain ⟨D,hD⟩:∃ D,W1.drew=D:=⟨_,rfl⟩
 rw [hD] at hs0 ⊢
 have HKD:=HK.out
 rw [hD] at HKD
 clear hD
 refine tk 0 (.pointer (some ⟨b,0,none⟩)) rfl hs0 ?_ ?_
 ·rintro U ⟨⟨r0,r1,r2,r3,r4,r5,r6,r7,r8,r9,r10⟩,rl⟩;go_simp
 refine tk 1 (.slice (some ⟨g,o,none⟩) np cp) rfl hs0 ?_ ?_
 ·rintro U ⟨⟨r0,r1,r2,r3,r4,r5,r6,r7,r8,r9,r10⟩,rl⟩;go_simp
 refine tk 2 (.pointer (some ⟨b,0,none⟩)) rfl hs0 ?_ ?_
 ·rintro U ⟨⟨r0,r1,r2,r3,r4,r5,r6,r7,r8,r9,r10⟩,rl⟩;go_simp
 refine tk 3 (.slice (some ⟨g,o,none⟩) np cp) rfl hs0 ?_ ?_
 ·rintro U ⟨⟨r0,r1,r2,r3,r4,r5,r6,r7,r8,r9,r10⟩,rl⟩;go_simp
 refine tk 4 (.int .i64 (np:Int)) rfl hs0 ?_ ?_
 ·rintro U ⟨⟨r0,r1,r2,r3,r4,r5,r6,r7,r8,r9,r10⟩,rl⟩;go_simp
 refine tk 5 (.int .i64 (k:Int)) rfl hs0 ?_ ?_
 ·rintro U ⟨⟨r0,r1,r2,r3,r4,r5,r6,r7,r8,r9,r10⟩,rl⟩;go_simp
 refine tk 6 (.pointer (some ⟨g,o+k,none⟩)) rfl hs0 ?_ ?_
 ·rintro U ⟨⟨r0,r1,r2,r3,r4,r5,r6,r7,r8,r9,r10⟩,rl⟩;go_simp
 refine tk 7 (.int .i64 p) rfl hs0 ?_ ?_
 ·rintro U ⟨⟨r0,r1,r2,r3,r4,r5,r6,r7,r8,r9,r10⟩,rl⟩;go_simp
 refine tk 8 (.pointer (some ⟨b,2,none⟩)) rfl hs0 ?_ ?_
 ·rintro U ⟨⟨r0,r1,r2,r3,r4,r5,r6,r7,r8,r9,r10⟩,rl⟩;go_simp
 refine tk 9 (.agg #[.int .i64 a0,.int .u64 a1,.int .u64 a2,.int .u64 a3,.int .u64 a4,.int .u64 a5,.int .u64 a6,.int .u64 a7,.int .u64 a8]) rfl hs0 ?_ ?_
 ·rintro U ⟨⟨r0,r1,r2,r3,r4,r5,r6,r7,r8,r9,r10⟩,rl⟩;go_simp
 refine tk 10 (.agg #[.int .i64 p,.int .i64 a0,.int .u64 a1,.int .u64 a2,.int .u64 a3,.int .u64 a4,.int .u64 a5,.int .u64 a6,.int .u64 a7,.int .u64 a8]) rfl hs0 ?_ ?_
 ·rintro U ⟨⟨r0,r1,r2,r3,r4,r5,r6,r7,r8,r9,r10⟩,rl⟩;go_simp
 have hz:=cellsZ HKD.1
 have z0:D.cell? ⟨b2,0,none⟩=some (.int .i64 0):=by rw [hz.1];rfl
 have f0:=hz.2 0
 have z1:D.cell? ⟨b2,1,none⟩=some (.int .i64 0):=by rw [hz.1];rfl
 have f1:=hz.2 1
 have z2:D.cell? ⟨b2,2,none⟩=some (.int .u64 0):=by rw [hz.1];rfl
 have f2:=hz.2 2
 have z3:D.cell? ⟨b2,3,none⟩=some (.int .u64 0):=by rw [hz.1];rfl
 have f3:=hz.2 3
 have z4:D.cell? ⟨b2,4,none⟩=some (.int .u64 0):=by rw [hz.1];rfl
 have f4:=hz.2 4
 have z5:D.cell? ⟨b2,5,none⟩=some (.int .u64 0):=by rw [hz.1];rfl
 have f5:=hz.2 5
 have z6:D.cell? ⟨b2,6,none⟩=some (.int .u64 0):=by rw [hz.1];rfl
 have f6:=hz.2 6
 have z7:D.cell? ⟨b2,7,none⟩=some (.int .u64 0):=by rw [hz.1];rfl
 have f7:=hz.2 7
 have z8:D.cell? ⟨b2,8,none⟩=some (.int .u64 0):=by rw [hz.1];rfl
 have f8:=hz.2 8
 have z9:D.cell? ⟨b2,9,none⟩=some (.int .u64 0):=by rw [hz.1];rfl
 have f9:=hz.2 9
 obtain ⟨W9,hW9⟩:∃ W,(((((((((D.setCell ⟨b2,0,none⟩ (.int .i64 p)).setCell ⟨b2,1,none⟩ (.int .i64 a0)).setCell ⟨b2,2,none⟩ (.int .u64 a1)).setCell ⟨b2,3,none⟩ (.int .u64 a2)).setCell ⟨b2,4,none⟩ (.int .u64 a3)).setCell ⟨b2,5,none⟩ (.int .u64 a4)).setCell ⟨b2,6,none⟩ (.int .u64 a5)).setCell ⟨b2,7,none⟩ (.int .u64 a6)).setCell ⟨b2,8,none⟩ (.int .u64 a7)).setCell ⟨b2,9,none⟩ (.int .u64 a8)=W:=⟨_,rfl⟩
 have HRES:Hid (W9.heap[b2]?=some (.cells #[.int .i64 p,.int .i64 a0,.int .u64 a1,.int .u64 a2,.int .u64 a3,.int .u64 a4,.int .u64 a5,.int .u64 a6,.int .u64 a7,.int .u64 a8] 81 (0,0))):=by
  rw [←hW9]
  exact put10 (.int .i64 p) (.int .i64 a0) (.int .u64 a1) (.int .u64 a2) (.int .u64 a3) (.int .u64 a4) (.int .u64 a5) (.int .u64 a6) (.int .u64 a7) (.int .u64 a8) HKD.1
 have HFIN:Hid (Below w.heap.size w W9):=by
  rw [←hW9]
  exact put10b (.int .i64 p) (.int .i64 a0) (.int .u64 a1) (.int .u64 a2) (.int .u64 a3) (.int .u64 a4) (.int .u64 a5) (.int .u64 a6) (.int .u64 a7) (.int .u64 a8) HKD.2.1 HKD.2.2.1
 have kp:∀ c j,c≠b2→W9.cell? ⟨c,j,none⟩=D.cell? ⟨c,j,none⟩:=fun c j hc=>by
  unfold World.cell?
  rw [←hW9]
  simp only [put10f (.int .i64 p) (.int .i64 a0) (.int .u64 a1) (.int .u64 a2) (.int .u64 a3) (.int .u64 a4) (.int .u64 a5) (.int .u64 a6) (.int .u64 a7) (.int .u64 a8) hc]
 have hs9:(W9.cell? ⟨b,0,none⟩=some (.slice (some ⟨g,o,none⟩) np cp)∧W9.cell? ⟨b,1,none⟩=some (.slice pe ne ce)∧W9.cell? ⟨b,2,none⟩=some (.int .i64 a0)∧W9.cell? ⟨b,3,none⟩=some (.int .u64 a1)∧W9.cell? ⟨b,4,none⟩=some (.int .u64 a2)∧W9.cell? ⟨b,5,none⟩=some (.int .u64 a3)∧W9.cell? ⟨b,6,none⟩=some (.int .u64 a4)∧W9.cell? ⟨b,7,none⟩=some (.int .u64 a5)∧W9.cell? ⟨b,8,none⟩=some (.int .u64 a6)∧W9.cell? ⟨b,9,none⟩=some (.int .u64 a7)∧W9.cell? ⟨b,10,none⟩=some (.int .u64 a8))∧W9.cell? ⟨g,o+k,none⟩=some (.int .i64 p):=by
  obtain ⟨⟨r0,r1,r2,r3,r4,r5,r6,r7,r8,r9,r10⟩,rl⟩:=hs0
  exact ⟨⟨(kp _ _ HK.out.2.2.2.1).trans r0,(kp _ _ HK.out.2.2.2.1).trans r1,(kp _ _ HK.out.2.2.2.1).trans r2,(kp _ _ HK.out.2.2.2.1).trans r3,(kp _ _ HK.out.2.2.2.1).trans r4,(kp _ _ HK.out.2.2.2.1).trans r5,(kp _ _ HK.out.2.2.2.1).trans r6,(kp _ _ HK.out.2.2.2.1).trans r7,(kp _ _ HK.out.2.2.2.1).trans r8,(kp _ _ HK.out.2.2.2.1).trans r9,(kp _ _ HK.out.2.2.2.1).trans r10⟩,(kp _ _ HK.out.2.2.2.2).trans rl⟩
 have HW9:=hideL hW9
 clear hW9 hz kp HKD
 refine rd 11 rfl fun KK hKK=>?_
 go_simp
 rw [HW9.out]
 refine hKK.out _ _ hs9 (fun _=>?_)
 clear hKK KK
 refine wpAnyH_done (by kernel_rfl) ?_ _
 try simp only [List.getElem_toArray,List.getElem_cons_succ,List.getElem_cons_zero,Act.put,List.setIfInBounds_toArray,List.set_cons_zero,List.set_cons_succ]
 clear hs0 hs9
 go_wp2_with fail
 refine bodyPost_ret (res_last _ _ b2 _ _ _ _ _ _ _ _ _ _ rfl HRES.out) rfl ?_
 exact ⟨rfl,HFIN.out⟩
end Go.Proofs.YtbplhianpelmfaaGreatDoor.Nt
