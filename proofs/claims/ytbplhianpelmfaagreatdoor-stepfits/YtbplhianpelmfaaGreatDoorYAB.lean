import Derived.Test.YtbplhianpelmfaaGreatDoorXAA
import Derived.Test.YtbplhianpelmfaaGreatDoorXAB
import Derived.Test.YtbplhianpelmfaaGreatDoorXAC
import Derived.Test.YtbplhianpelmfaaGreatDoorXAD
import Derived.Test.YtbplhianpelmfaaGreatDoorXAE
import Derived.Test.YtbplhianpelmfaaGreatDoorXAF
import Derived.Test.YtbplhianpelmfaaGreatDoorXAG
import Derived.Test.YtbplhianpelmfaaGreatDoorXAH
import Derived.Test.YtbplhianpelmfaaGreatDoorXAI
import Derived.Test.YtbplhianpelmfaaGreatDoorXAJ
import Derived.Test.YtbplhianpelmfaaGreatDoorXAK
import Derived.Test.YtbplhianpelmfaaGreatDoorXAL
import Derived.Test.YtbplhianpelmfaaGreatDoorXAM
import Derived.Test.YtbplhianpelmfaaGreatDoorXAN
import Derived.Test.YtbplhianpelmfaaGreatDoorXAO
import Derived.Test.YtbplhianpelmfaaGreatDoorXAP
import Derived.Test.YtbplhianpelmfaaGreatDoorXAQ
import Derived.Test.YtbplhianpelmfaaGreatDoorXAR
import Derived.Test.YtbplhianpelmfaaGreatDoorXAS
import Derived.Test.YtbplhianpelmfaaGreatDoorXAT
import Derived.Test.YtbplhianpelmfaaGreatDoorXAU
import Derived.Test.YtbplhianpelmfaaGreatDoorXAV
import Derived.Test.YtbplhianpelmfaaGreatDoorXAW
import Derived.Test.YtbplhianpelmfaaGreatDoorXAX
import Derived.Test.YtbplhianpelmfaaGreatDoorXAY
import Derived.Test.YtbplhianpelmfaaGreatDoorXAZ
import Derived.Test.YtbplhianpelmfaaGreatDoorXBA
import Derived.Test.YtbplhianpelmfaaGreatDoorXBB
import Derived.Test.YtbplhianpelmfaaGreatDoorXBC
import Derived.Test.YtbplhianpelmfaaGreatDoorXBD
import Derived.Test.YtbplhianpelmfaaGreatDoorXBE
import Derived.Test.YtbplhianpelmfaaGreatDoorXBF
import Derived.Test.YtbplhianpelmfaaGreatDoorXBS
import Derived.Test.YtbplhianpelmfaaGreatDoorYAA
namespace Go.Proofs.YtbplhianpelmfaaGreatDoor.Nt
open Go.RowKit Go.Shelf
/-- a row of one type is not a block of another -/
theorem own_ne {W:World} {B b T T2 s n k c:Nat} {p:Option Addr} {xs:List Value} {cs:Array Value} {fr:Nat×Nat} (h:W.ownsRow B T s (.slice p n c) k xs) (hb:W.heap[b]?=some (.cells cs T2 fr)) (hne:T≠T2):(Value.slice p n c).ownBlock≠some b:=by
 rcases h.2 with ⟨e,-⟩ | ⟨g,cap,cur,e,-,hg,-⟩
 ·rw [e];simp [Value.ownBlock]
 ·rw [e]
  intro e9
  obtain rfl:g=b:=by simpa [Value.ownBlock] using e9
  rw [hg] at hb
  simp only [Option.some.injEq,Obj.cells.injEq] at hb
  exact hne hb.2.1
set_option maxRecDepth 100000 in
set_option maxHeartbeats 40000000 in
theorem stepFits_walk (n:NN) (v:NV) (s9:Int×List UInt8) (w:World) (hN:LN w n v) (hO:okN n) (hh:okS s9.2) (hT:TAB w) :
  Calls Tryz.prog 3 #[.agg (nnA n v),.agg #[.int .i64 s9.1,.string ⟨s9.2.toArray⟩]] w fun e w'=>e=.returned (.bool true)∧Below w.heap.size w w':=by
 obtain ⟨p,h⟩:=s9
 simp only at hh ⊢
 have hnx:=snext_any n v p h
 rw [show (asC (p,h)).toArray=#[.int .i64 p,.string ⟨h.toArray⟩] from rfl] at hnx
 obtain ⟨pp,cp,pt,ct,pg,cg⟩:=v
 unfold nnA at hnx ⊢
 simp only at hnx ⊢
 obtain ⟨np,hnp⟩:∃ np,n.ports.length=np:=⟨_,rfl⟩
 obtain ⟨nt,hnt⟩:∃ nt,n.tabs.length=nt:=⟨_,rfl⟩
 obtain ⟨ng,hng⟩:∃ ng,n.grds.length=ng:=⟨_,rfl⟩
 obtain ⟨bits,hbits⟩:∃ bits,n.bits=bits:=⟨_,rfl⟩
 obtain ⟨R,hR⟩:∃ R,chkM n (p,h)=R:=⟨_,rfl⟩
 obtain ⟨E,hEe⟩:∃ E,nxE n (p,h)=E:=⟨_,rfl⟩
 obtain ⟨L,hL⟩:∃ L,nxL n (p,h)=L:=⟨_,rfl⟩
 obtain ⟨m,hm⟩:∃ m,L.length=m:=⟨_,rfl⟩
 rw [hnp,hnt,hng,hbits] at hnx ⊢
 have hsnq:∀ (U:World) (e:Ending) (w':World),SNQ n (p,h) U e w'→∃ q c,e=.returned (.tuple #[.int .i64 E,.slice q m c,.int .i64 R])∧RowL 2 asC w' q L∧Below U.heap.size U w':=fun U e w'=>by
  rintro ⟨q,c,he,ho,hb⟩
  rw [hEe,hL,hR,hm] at he
  rw [hL,hm] at ho
  exact ⟨q,c,he,own_rowL asC_len ho hm,hb⟩
 obtain ⟨B,hB⟩:∃ B,w.heap.size=B:=⟨_,rfl⟩
 obtain ⟨b2,hb2⟩:∃ b2,w.heap.size+1=b2:=⟨_,rfl⟩
 obtain ⟨W1,hW1⟩:∃ W1,(w.alloc (.cells #[.int .i64 bits,.slice pp np cp,.slice pt nt ct,.slice pg ng cg] 26)).alloc (.cells #[.int .i64 p,.string ⟨h.toArray⟩] 28)=W1:=⟨_,rfl⟩
 have hz2:(w.alloc (.cells #[.int .i64 bits,.slice pp np cp,.slice pt nt ct,.slice pg ng cg] 26)).heap.size=w.heap.size+1:=Array.size_push _
 have b1:Below w.heap.size w W1:=by rw [←hW1];exact belAZ (belAZ (Below.refl _ _) _) _
 have k1:W1.heap[B]?=some (.cells #[.int .i64 bits,.slice pp np cp,.slice pt nt ct,.slice pg ng cg] 26 (0,0)):=by rw [←hW1,←hB];exact keepZ (belAZ (Below.refl _ _) _) (alloc_getZ _ _)
 have k2:W1.heap[b2]?=some (.cells #[.int .i64 p,.string ⟨h.toArray⟩] 28 (0,0)):=by rw [←hW1,←hb2,←hz2];exact alloc_getZ _ _
 have HC0:Hid (∀ U,Below W1.heap.size W1 U→(U.cell? ⟨B,0,none⟩=some (.int .i64 bits)∧U.cell? ⟨B,1,none⟩=some (.slice pp np cp)∧U.cell? ⟨B,2,none⟩=some (.slice pt nt ct)∧U.cell? ⟨B,3,none⟩=some (.slice pg ng cg))∧(U.cell? ⟨b2,0,none⟩=some (.int .i64 p)∧U.cell? ⟨b2,1,none⟩=some (.string ⟨h.toArray⟩))):=fun U hU=>by
  have e1:=(cellsZ (keepZ hU k1)).1
  have e2:=(cellsZ (keepZ hU k2)).1
  exact ⟨⟨by rw [e1];rfl,by rw [e1];rfl,by rw [e1];rfl,by rw [e1];rfl⟩,⟨by rw [e2];rfl,by rw [e2];rfl⟩⟩
 have HNX:Hid (Calls Tryz.prog 8 #[.agg #[.int .i64 bits,.slice pp np cp,.slice pt nt ct,.slice pg ng cg],.agg #[.int .i64 p,.string ⟨h.toArray⟩]] W1 fun e w'=>∃ q c,e=.returned (.tuple #[.int .i64 E,.slice q m c,.int .i64 R])∧RowL 2 asC w' q L∧Below W1.heap.size W1 w'):=(hnx W1 (hN.below b1) hO (hT.at b1) hh).mono (hsnq W1)
 have HKN:Hid (∀ U,Below W1.heap.size W1 U→Calls Tryz.prog 10 #[] U fun e w'=>e=.returned (.bool true)∧Below U.heap.size U w'):=fun U hU=>known_any U (hT.at (bel0Z b1 hU))
 have HLN:Hid (∀ U,Below W1.heap.size W1 U→LN U n ⟨pp,cp,pt,ct,pg,cg⟩):=fun U hU=>hN.below (bel0Z b1 hU)
 have HV:Hid (chkM n (p,h)=R∧nxE n (p,h)=E∧nxL n (p,h)=L∧L.length=m∧n.ports.length=np∧n.tabs.length=nt∧n.grds.length=ng∧n.bits=bits):=⟨hR,hEe,hL,hm,hnp,hnt,hng,hbits⟩
 have HF:Hid (∀ U,Below W1.heap.size W1 U→Below w.heap.size w U):=fun U hU=>bel0Z b1 hU
 have HB1:=hideL hB
 have HB2:=hideL hb2
 have HW:=hideL hW1
 obtain ⟨⟨q0,q1,q2,q3⟩,⟨t0,t1⟩⟩:=HC0.out W1 (Below.refl _ _)
 clear hnx hsnq hR hEe hL hm hnp hnt hng hbits hB hb2 hW1 hz2 b1 k1 k2 hN hO hT hh
 go_enter Tryz.func3,Tryz.ntmps3
 go_upto_region 1 with fail
 rw [HW.out,HB2.out,HB1.out]
 go_wp2_with fail
 refine (HNX.out).mono ?_
 rintro e W2 ⟨ql,cl,rfl,hrl,c2⟩
 have HRL:Hid (∀ U,Below W2.heap.size W2 U→RowL 2 asC U ql L∧Below W1.heap.size W1 U):=fun U hU=>⟨hrl.below hU,bel0Z c2 hU⟩
 clear q0 q1 q2 q3 t0 t1 hrl c2
 obtain ⟨⟨q0,q1,q2,q3⟩,⟨t0,t1⟩⟩:=HC0.out W2 (HRL.out W2 (Below.refl _ _)).2
 go_wp2_with fail
 refine (num_any R W2).mono ?_
 rintro e W3 ⟨rfl,hw⟩
 obtain rfl:W2=W3:=hw.symm
 clear hw
 by_cases hP:NetP n∧StP n (p,h)
 ·have hR0:R=0:=by rw [←HV.out.1];exact chk_yes hP.1 hP.2
  subst hR0
  have HE9:Hid ((nxtM n (p,h)).1=E∧(nxtM n (p,h)).2=L):=by
   have h1:=HV.out.2.1
   have h2:=HV.out.2.2.1
   unfold nxE at h1
   unfold nxL at h2
   rw [if_pos HV.out.1] at h1 h2
   exact ⟨h1,h2⟩
  obtain ⟨hV,hS⟩:=hP
  have hbt:=hV.bits
  have hngp:ng=np:=by have:=hV.1.2.2.2.2;have:=HV.out;omega
  have hnp48:np≤48:=by have:=hV.1.2.2.2.1;have:=HV.out;omega
  have hnt16:nt≤16:=by have:=hV.1.2.2.1;have:=HV.out;omega
  obtain ⟨hx1,hx2⟩:=hV.port hS.1 hS.2.1
  obtain ⟨hg1,hg2⟩:=hV.grd hS.1 hS.2.1
  obtain ⟨ht1,ht2⟩:=hV.tab hx2.2.1 hx2.2.2.1
  have hLW:=HLN.out W2 (HRL.out W2 (Below.refl _ _)).2
  obtain ⟨pk,hpk⟩:∃ pk:Nat,p=(pk:Int):=⟨p.toNat,by have:=hS.1;simp only at this;omega⟩
  subst hpk
  simp only [Int.toNat_natCast] at hx1 hx2 hg1 hg2 ht1 ht2
  obtain ⟨bk,hbk⟩:∃ bk:Nat,(portAt n (pk:Int)).bx=(bk:Int):=⟨(portAt n (pk:Int)).bx.toNat,by have:=hx2.2.1;omega⟩
  obtain ⟨gp,op,e1,a0,a1,a2,a3⟩:=hLW.1 pk _ hx1
  simp only at e1
  subst e1
  obtain ⟨gt,ot,qt,dt,e2,-,-,-⟩:=hLW.2.2.1 _ _ ht1
  simp only at e2
  subst e2
  obtain ⟨gg,og,qg,dg,e3,g0,lg0,-⟩:=hLW.2.2.2.2.1 pk _ hg1
  simp only at e3
  subst e3
  obtain ⟨pnm,hpnm⟩:∃ x,(portAt n (pk:Int)).nm=x:=⟨_,rfl⟩
  obtain ⟨inn,hinn⟩:∃ x,(portAt n (pk:Int)).inn=x:=⟨_,rfl⟩
  obtain ⟨lk,hlk⟩:∃ x,(portAt n (pk:Int)).lk=x:=⟨_,rfl⟩
  obtain ⟨G,hGe⟩:∃ G,grdAt n (pk:Int)=G:=⟨_,rfl⟩
  obtain ⟨mg,hmg⟩:∃ mg,G.length=mg:=⟨_,rfl⟩
  rw [hpnm] at a0
  rw [hbk] at a1
  rw [hinn] at a2
  rw [hlk] at a3
  rw [hGe] at hg1 hg2 g0 lg0
  rw [hmg] at g0
  have htog:mg≤64:=by
   have h1:=hV.2.1
   have h2:G.length≤totG n:=le_sum_mem (List.mem_map.2 ⟨G,List.mem_of_getElem? hg1,rfl⟩)
   omega
  have hpn:pk < np:=by have:=(List.getElem?_eq_some_iff.1 hx1).1;have:=HV.out;omega
  have hbn:bk < nt:=by have:=hx2.2.2.1;have:=HV.out;omega
  have hpt:∀ qk:Nat,qk < np→∀ U,Below W2.heap.size W2 U→U.cell? ⟨gp,op+qk*4+3,none⟩=some (.int .i64 (portAt n (qk:Int)).lk):=fun qk hq U hU=>by
   obtain ⟨x,hx⟩:∃ x,n.ports[qk]?=some x:=⟨_,List.getElem?_eq_getElem (by have:=HV.out;omega)⟩
   obtain ⟨g9,o9,e9,-,-,-,c9⟩:=hLW.1 qk x hx
   simp only [Option.some.injEq,Addr.mk.injEq] at e9
   obtain ⟨rfl,rfl,-⟩:=e9
   rw [portAt_of hx]
   exact keepC hU c9
  have hgd:∀ qk:Nat,qk < np→∃ q m c,(∀ U,Below W2.heap.size W2 U→U.cell? ⟨gg,og+qk,none⟩=some (.slice q m c))∧∀ U,Below W2.heap.size W2 U→∀ t,HdP n.bits t→Calls Tryz.prog 11 #[.slice q m c,.string ⟨t.toArray⟩] U fun e w'=>e=.returned (.bool (lets (grdAt n (qk:Int)) t))∧Below U.heap.size U w':=fun qk hq=>by
   obtain ⟨y1,y2⟩:=hV.grd (p:=(qk:Int)) (by omega) (by have:=HV.out;omega)
   rw [Int.toNat_natCast] at y1
   obtain ⟨g9,o9,q,c,e9,c9,l9,-⟩:=hLW.2.2.2.2.1 qk _ y1
   simp only [Option.some.injEq,Addr.mk.injEq] at e9
   obtain ⟨rfl,rfl,-⟩:=e9
   have h2:(grdAt n (qk:Int)).length≤totG n:=le_sum_mem (List.mem_map.2 ⟨_,List.mem_of_getElem? y1,rfl⟩)
   have h1:=hV.2.1
   exact ⟨q,_,c,fun U hU=>keepC hU c9,fun U hU t ht=>klets_any n.bits _ q _ c t U rfl (l9.below hU) y2.1 hbt.1 hbt.2 ht (by omega)⟩
  have hkl:∀ U,Below W2.heap.size W2 U→Calls Tryz.prog 11 #[.slice qg mg dg,.string ⟨h.toArray⟩] U fun e w'=>e=.returned (.bool (lets G h))∧Below U.heap.size U w':=fun U hU=>klets_any n.bits G qg mg dg h U hmg (lg0.below hU) hg2.1 hbt.1 hbt.2 hS.2.2 (by omega)
  obtain ⟨b4,hb4⟩:∃ b4,W2.heap.size=b4:=⟨_,rfl⟩
  obtain ⟨W3,hW3⟩:∃ W3,W2.alloc (.cells #[.string ⟨pnm.toArray⟩,.int .i64 (bk:Int),.bool inn,.int .i64 lk] 36)=W3:=⟨_,rfl⟩
  have b23:Below W2.heap.size W2 W3:=by rw [←hW3];exact belAZ (Below.refl _ _) _
  have k4:W3.heap[b4]?=some (.cells #[.string ⟨pnm.toArray⟩,.int .i64 (bk:Int),.bool inn,.int .i64 lk] 36 (0,0)):=by rw [←hW3,←hb4];exact alloc_getZ _ _
  have HC:Hid (∀ U,Below W3.heap.size W3 U→((U.cell? ⟨B,0,none⟩=some (.int .i64 bits)∧U.cell? ⟨B,1,none⟩=some (.slice (some ⟨gp,op,none⟩) np cp)∧U.cell? ⟨B,2,none⟩=some (.slice (some ⟨gt,ot,none⟩) nt ct)∧U.cell? ⟨B,3,none⟩=some (.slice (some ⟨gg,og,none⟩) ng cg))∧(U.cell? ⟨b2,0,none⟩=some (.int .i64 (pk:Int))∧U.cell? ⟨b2,1,none⟩=some (.string ⟨h.toArray⟩)))∧(U.cell? ⟨b4,0,none⟩=some (.string ⟨pnm.toArray⟩)∧U.cell? ⟨b4,1,none⟩=some (.int .i64 (bk:Int))∧U.cell? ⟨b4,2,none⟩=some (.bool inn)∧U.cell? ⟨b4,3,none⟩=some (.int .i64 lk))∧Below W2.heap.size W2 U∧U.cell? ⟨gg,og+pk,none⟩=some (.slice qg mg dg)):=fun U hU=>by
   have e3:=(cellsZ (keepZ hU k4)).1
   exact ⟨HC0.out U (HRL.out U (bel0Z b23 hU)).2,⟨by rw [e3];rfl,by rw [e3];rfl,by rw [e3];rfl,by rw [e3];rfl⟩,bel0Z b23 hU,keepC (bel0Z b23 hU) g0⟩
  have HPT:Hid (∀ qk:Nat,qk < np→∀ U,Below W2.heap.size W2 U→U.cell? ⟨gp,op+qk*4+3,none⟩=some (.int .i64 (portAt n (qk:Int)).lk)):=hpt
  have HGD:Hid (∀ qk:Nat,qk < np→∃ q m c,(∀ U,Below W2.heap.size W2 U→U.cell? ⟨gg,og+qk,none⟩=some (.slice q m c))∧∀ U,Below W2.heap.size W2 U→∀ t,HdP n.bits t→Calls Tryz.prog 11 #[.slice q m c,.string ⟨t.toArray⟩] U fun e w'=>e=.returned (.bool (lets (grdAt n (qk:Int)) t))∧Below U.heap.size U w'):=hgd
  have HKL:Hid (∀ U,Below W2.heap.size W2 U→Calls Tryz.prog 11 #[.slice qg mg dg,.string ⟨h.toArray⟩] U fun e w'=>e=.returned (.bool (lets G h))∧Below U.heap.size U w'):=hkl
  have HLT:Hid (∀ U,Below W2.heap.size W2 U→LT U (some ⟨gt,ot,none⟩) n.tabs):=fun U hU=>hLW.2.2.1.below hU
  have HZ:Hid (NetP n∧StP n ((pk:Int),h)∧(portAt n (pk:Int)).bx=(bk:Int)∧(portAt n (pk:Int)).inn=inn∧(portAt n (pk:Int)).lk=lk∧grdAt n (pk:Int)=G∧bk < nt∧ng=np):=⟨hV,hS,hbk,hinn,hlk,hGe,hbn,hngp⟩
  have j0:(0:Int)≤(pk:Int):=by omega
  have j1:(pk:Int) < (np:Int):=by omega
  have j2:(pk:Int) < (ng:Int):=by omega
  have j3:¬(pk:Int) < 0:=by omega
  have j4:¬(pk:Int) ≥ (np:Int):=by omega
  have hnn:((ng:Int) != (np:Int))=false:=by rw [hngp];simp
  have HW3:=hideL hW3
  have HB4:=hideL hb4
  have HC3:=hideL b23
  clear hV hS hbt hngp hnp48 hx1 hx2 hg1 hg2 ht1 ht2 hLW hbk g0 lg0 hpnm hinn hlk hGe hmg htog hpn hbn hpt hgd hkl hb4 hW3 b23 k4
  go_upto_region 7 with fail
  rw [HW3.out,HB4.out]
  clear q0 q1 q2 q3 t0 t1 a0 a1 a2 a3 hnn j3 j4
  obtain ⟨⟨⟨q0,q1,q2,q3⟩,⟨t0,t1⟩⟩,⟨p0,p1,p2,p3⟩,-,-⟩:=HC.out W3 (Below.refl _ _)
  clear q0 q1 q2 q3 t0
  have hokh:okS h:=by have:=HZ.out.2.1.2.2.1;have:=HZ.out.1.bits;unfold okS;simp only at *;omega
  obtain ⟨b76,hb76⟩:∃ b,(!inn&&decide (lk ≥ 0))=b:=⟨_,rfl⟩
  have HB76:=hideL hb76
  clear hb76
  go_upto_region 8 with fail
  go_cut [76] from 18 to 75 (fun v76 wx=>v76=.bool b76∧wx=W3)
  case first=>
   cases inn with
   | true=>
    go_wp2_with fail
    go_meet
    exact ⟨by rw [←HB76.out];rfl,rfl⟩
   | false=>
    go_wp2_with fail
    go_meet
    exact ⟨by rw [←HB76.out];rfl,rfl⟩
  case rest=>
   obtain ⟨rfl,hw⟩:=hcut
   replace hw:=hw.symm
   subst hw
   have HWN:Hid ((b76=true→wnL n ((pk:Int),h) none=[]++[(lk,h)])∧(b76=false→wnL n ((pk:Int),h) none=[])):=by
    have h1:(portAt n ((pk:Int),h).1).inn=inn:=HZ.out.2.2.2.1
    have h2:(portAt n ((pk:Int),h).1).lk=lk:=HZ.out.2.2.2.2.1
    refine ⟨fun hb=>?_,fun hb=>?_⟩
    ·have h9:=HB76.out
     rw [hb,Bool.and_eq_true,decide_eq_true_eq] at h9
     have hi:inn=false:=by simpa using h9.1
     unfold wnL
     rw [if_neg (by rw [h1,hi];exact Bool.false_ne_true)]
     unfold ovS
     rw [h2,if_pos h9.2]
     rfl
    ·unfold wnL
     by_cases hi:inn=true
     ·rw [if_pos (by rw [h1,hi])]
     ·rw [if_neg (by rw [h1];exact hi)]
      unfold ovS
      rw [h2,if_neg]
      intro h3
      have h9:=HB76.out
      rw [hb] at h9
      have:inn=false:=by simpa using hi
      rw [this] at h9
      have h10:decide (lk ≥ 0)=true:=decide_eq_true h3
      rw [h10] at h9
      cases h9
   go_upto_if 76 with fail
   go_cut [9] from 18 to 84 (fun v9 wx=>∃ (q:Option Addr) (mw c:Nat),v9=.slice q mw c∧mw≤8∧Hid ((wnL n ((pk:Int),h) none).length=mw∧wx.ownsRow W3.heap.size 28 2 (.slice q mw c) mw ((wnL n ((pk:Int),h) none).flatMap asC)∧Below W3.heap.size W3 wx))
   case first=>
    cases b76 with
    | true=>
     have h0:W3.ownsRow W3.heap.size 28 2 (.slice none 0 0) 0 (([]:List (Int×List UInt8)).flatMap asC):=World.ownsRow_nil _ _ _ _
     obtain ⟨q7,c7,W7,hr7,o7,b7,-,-⟩:=pushA (x:=lk) (t:=h) (n9:=1) h0 (Nat.le_refl _) rfl (by decide)
     have HQ:Hid ((wnL n ((pk:Int),h) none).length=1∧W7.ownsRow W3.heap.size 28 2 (.slice q7 1 c7) 1 ((wnL n ((pk:Int),h) none).flatMap asC)∧Below W3.heap.size W3 W7):=by
      rw [HWN.out.1 rfl]
      exact ⟨rfl,o7,b7⟩
     clear o7 b7
     go_wp2_with (at_builtin;refine wpList_runZ rfl _ _ _ rfl rfl rfl hr7 ?_)
     go_meet
     exact ⟨q7,1,c7,rfl,by omega,HQ⟩
    | false=>
     have HQ:Hid ((wnL n ((pk:Int),h) none).length=0∧W3.ownsRow W3.heap.size 28 2 (.slice none 0 0) 0 ((wnL n ((pk:Int),h) none).flatMap asC)∧Below W3.heap.size W3 W3):=by
      rw [HWN.out.2 rfl]
      exact ⟨rfl,World.ownsRow_nil _ _ _ _,Below.refl _ _⟩
     go_wp2_with fail
     go_meet
     exact ⟨none,0,0,rfl,Nat.zero_le _,HQ⟩
   case rest=>
    obtain ⟨q9,m9,c9,rfl,hm9,HQ9⟩:=hcut
    clear p0 p1 p2 p3 t1
    have hnt7:nt≤140737488351232:=by omega
    go_wp2_with fail
    go_loopw [9,10,11,12] (fun v9 v10 v11 v12 wr=>∃ (st:Option (Nat×NE)) (b s mw c:Nat) (q:Option Addr) (fd:Int),v9=.slice q mw c∧v10=.int .i64 (s:Int)∧v11=.int .i64 fd∧v12=.int .i64 (b:Int)∧b≤nt∧s≤256∧mw≤8∧Hid (s=offs n b∧fdN st=fd∧stI n ((pk:Int),h) b 0 st)∧Hid ((wnL n ((pk:Int),h) st).length=mw∧wr.ownsRow W3.heap.size 28 2 (.slice q mw c) mw ((wnL n ((pk:Int),h) st).flatMap asC)∧Below W3.heap.size W3 wr)) (fun _ _ _ v12 _=>nt - (intOf v12).toNat)
    case atStart=>exact ⟨none,0,0,m9,c9,q9,-1,rfl,rfl,rfl,rfl,Nat.zero_le _,Nat.zero_le _,hm9,⟨rfl,rfl,stI_start (by rw [show (portAt n ((pk:Int),h).1).bx=(bk:Int) from HZ.out.2.2.1];omega)⟩,HQ9.out⟩
    case round=>
     obtain ⟨wo,rfl⟩:∃ wo,wo=wr:=⟨wr,rfl⟩
     obtain ⟨st,b,s,mw,c,q,fd,rfl,rfl,rfl,rfl,hb,hs,hmw,HST,HRW⟩:=hrel
     obtain ⟨⟨⟨q0,q1,q2,q3⟩,⟨t0,t1⟩⟩,⟨p0,p1,p2,p3⟩,hb2o,-⟩:=HC.out wo HRW.out.2.2
     by_cases hlt:b < nt
     ·obtain ⟨tb,htb⟩:∃ tb,n.tabs[b]?=some tb:=⟨_,List.getElem?_eq_getElem (by have:=HV.out;omega)⟩
      obtain ⟨g9,o9,qb,cb,e9,u0',hle,-⟩:=HLT.out W2 (Below.refl _ _) b tb htb
      simp only [Option.some.injEq,Addr.mk.injEq] at e9
      obtain ⟨rfl,rfl,-⟩:=e9
      obtain ⟨mt,hmt⟩:∃ mt,tb.length=mt:=⟨_,rfl⟩
      rw [hmt] at u0'
      have htot:offs n b+mt≤256:=by
       rw [←hmt,←offs_succ htb]
       exact Nat.le_trans (offs_le n _) HZ.out.1.2.2.1
      have htP:TabP n (b:Int) tb:=HZ.out.1.2.2.2.2.2 b tb htb
      have htA:(portAt n (pk:Int)).bx=(b:Int)→tabAt n (portAt n (pk:Int)).bx=tb:=fun e=>by
       rw [e]
       unfold tabAt
       rw [Int.toNat_natCast,List.getD_eq_getElem?_getD,htb]
       rfl
      have HTB:Hid (n.tabs[b]?=some tb∧tb.length=mt∧TabP n (b:Int) tb∧offs n b+mt≤256∧(∀ U,Below W2.heap.size W2 U→U.cell? ⟨gt,ot+b,none⟩=some (.slice qb mt cb))∧LE W2 qb tb∧((portAt n (pk:Int)).bx=(b:Int)→tabAt n (portAt n (pk:Int)).bx=tb)):=⟨htb,hmt,htP,htot,fun U hU=>keepC hU u0',hle,htA⟩
      have u0:=keepC hb2o u0'
      have j5:(0:Int)≤(b:Int):=by omega
      have j6:(b:Int) < (nt:Int):=by omega
      have hmt7:mt≤256:=by omega
      clear htb hmt hle htot htP htA hb2o u0' q0 q1 q3 t0 t1 p0 p1 p2 p3
      go_wp2_with fail
      clear q2 u0
      go_loopw [9,10,11,13] (fun v9 v10 v11 v13 wr=>∃ (st:Option (Nat×NE)) (i s mw c:Nat) (q:Option Addr) (fd:Int),v9=.slice q mw c∧v10=.int .i64 (s:Int)∧v11=.int .i64 fd∧v13=.int .i64 (i:Int)∧i≤mt∧s≤256∧mw≤8∧Hid (s=offs n b+i∧fdN st=fd∧stI n ((pk:Int),h) b i st)∧Hid ((wnL n ((pk:Int),h) st).length=mw∧wr.ownsRow W3.heap.size 28 2 (.slice q mw c) mw ((wnL n ((pk:Int),h) st).flatMap asC)∧Below W3.heap.size W3 wr)) (fun _ _ _ v13 _=>mt - (intOf v13).toNat)
      case atStart=>exact ⟨st,0,s,mw,c,q,fd,rfl,rfl,rfl,rfl,Nat.zero_le _,hs,hmw,⟨by have:=HST.out.1;omega,HST.out.2.1,HST.out.2.2⟩,HRW.out⟩
      case round=>
       clear HST HRW hs hmw
       obtain ⟨st,i,s,mw,c,q,fd,rfl,rfl,rfl,rfl,hi,hs,hmw,HST,HRW⟩:=hrel
       obtain ⟨wi,rfl⟩:∃ wi,wi=wr:=⟨wr,rfl⟩
       obtain ⟨⟨⟨q0,q1,q2,q3⟩,⟨t0,t1⟩⟩,⟨p0,p1,p2,p3⟩,hb2,-⟩:=HC.out wi HRW.out.2.2
       have u0:=HTB.out.2.2.2.2.1 wi hb2
       by_cases hlt2:i < mt
       ·obtain ⟨x,hx⟩:∃ x,tb[i]?=some x:=⟨_,List.getElem?_eq_getElem (by have:=HTB.out.2.1;omega)⟩
        obtain ⟨gq,oq,pi,ci,pc,cc,po,co,e9,d0',d1',d2',d3',d4',hl⟩:=HTB.out.2.2.2.2.2.1 i x hx
        subst e9
        obtain ⟨nm,hnm⟩:∃ nm,x.nm=nm:=⟨_,rfl⟩
        obtain ⟨wr9,hwr9⟩:∃ wr9,x.wr=wr9:=⟨_,rfl⟩
        obtain ⟨ni,hni⟩:∃ ni,x.ins.length=ni:=⟨_,rfl⟩
        obtain ⟨nc,hnc⟩:∃ nc,x.cubes.length=nc:=⟨_,rfl⟩
        obtain ⟨no,hno⟩:∃ no,x.outs.length=no:=⟨_,rfl⟩
        rw [hnm] at d0'
        rw [hni] at d1'
        rw [hnc] at d2'
        rw [hwr9] at d3'
        rw [hno] at d4'
        have d0:=keepC hb2 d0'
        have d1:=keepC hb2 d1'
        have d2:=keepC hb2 d2'
        have d3:=keepC hb2 d3'
        have d4:=keepC hb2 d4'
        have hEP:=HTB.out.2.2.1.1 x (List.mem_of_getElem? hx)
        have hni7:ni≤140737488351232:=by
         have h1:=pw_len x.ins 0 (n.ports.length:Int) hEP.2.1.2 (fun y hy=>⟨(hEP.2.1.1 y hy).1,(hEP.2.1.1 y hy).2.1⟩) (by omega)
         have h2:=HZ.out.1.1.2.2.2.1
         omega
        obtain ⟨bi,hbi⟩:∃ bi,decide ((pk:Int)∈x.ins)=bi:=⟨_,rfl⟩
        obtain ⟨bq,hbq⟩:∃ bq,hasAny x.cubes h=bq:=⟨_,rfl⟩
        obtain ⟨lb,hlb⟩:∃ lb,lets G h=lb:=⟨_,rfl⟩
        obtain ⟨bb1,hbb1⟩:∃ bb,((b:Int)==(bk:Int))=bb:=⟨_,rfl⟩
        obtain ⟨bb2,hbb2⟩:∃ bb,decide (fd < 0)=bb:=⟨_,rfl⟩
        have hbt:=HZ.out.1.bits
        have hHd:=HZ.out.2.1.2.2
        obtain ⟨b5,hb5⟩:∃ b5,wi.heap.size=b5:=⟨_,rfl⟩
        obtain ⟨W5,hW5⟩:∃ W5,wi.alloc (.cells #[.string ⟨nm.toArray⟩,.slice pi ni ci,.slice pc nc cc,.string ⟨wr9.toArray⟩,.slice po no co] 41)=W5:=⟨_,rfl⟩
        have b15:Below wi.heap.size wi W5:=by rw [←hW5];exact belAZ (Below.refl _ _) _
        have k5:W5.heap[b5]?=some (.cells #[.string ⟨nm.toArray⟩,.slice pi ni ci,.slice pc nc cc,.string ⟨wr9.toArray⟩,.slice po no co] 41 (0,0)):=by rw [←hW5,←hb5];exact alloc_getZ _ _
        have HD:Hid (∀ U,Below W5.heap.size W5 U→(U.cell? ⟨b5,0,none⟩=some (.string ⟨nm.toArray⟩)∧U.cell? ⟨b5,1,none⟩=some (.slice pi ni ci)∧U.cell? ⟨b5,2,none⟩=some (.slice pc nc cc)∧U.cell? ⟨b5,3,none⟩=some (.string ⟨wr9.toArray⟩)∧U.cell? ⟨b5,4,none⟩=some (.slice po no co))∧Below W3.heap.size W3 U∧Below wi.heap.size wi U):=fun U hU=>by
         have e1:=(cellsZ (keepZ hU k5)).1
         exact ⟨⟨by rw [e1];rfl,by rw [e1];rfl,by rw [e1];rfl,by rw [e1];rfl,by rw [e1];rfl⟩,bel0Z HRW.out.2.2 (bel0Z b15 hU),bel0Z b15 hU⟩
        have HS19:Hid (∀ U,Below W5.heap.size W5 U→U.cell? ⟨B,3,none⟩=some (.slice (some ⟨gg,og,none⟩) ng cg)∧U.cell? ⟨b2,0,none⟩=some (.int .i64 (pk:Int))∧U.cell? ⟨b2,1,none⟩=some (.string ⟨h.toArray⟩)∧U.cell? ⟨b4,1,none⟩=some (.int .i64 (bk:Int))∧U.cell? ⟨b4,2,none⟩=some (.bool inn)∧U.cell? ⟨b5,1,none⟩=some (.slice pi ni ci)∧U.cell? ⟨b5,2,none⟩=some (.slice pc nc cc)∧U.cell? ⟨gg,og+pk,none⟩=some (.slice qg mg dg)):=fun U hU=>by
         obtain ⟨⟨⟨q0,q1,q2,q3⟩,⟨t0,t1⟩⟩,⟨p0,p1,p2,p3⟩,-,gc⟩:=HC.out U (bel0Z HRW.out.2.2 (bel0Z b15 hU))
         obtain ⟨⟨d0,d1,d2,d3,d4⟩,-,-⟩:=HD.out U hU
         exact ⟨q3,t0,t1,p1,p2,d1,d2,gc⟩
        have HIN:Hid (∀ U,Below W5.heap.size W5 U→Calls Tryz.prog 12 #[.slice pi ni ci,.int .i64 (pk:Int)] U fun e w'=>e=.returned (.bool bi)∧Below U.heap.size U w'):=fun U hU=>by
         have h9:=kin_any x.ins pi ni ci (pk:Int) U hni (hl.1.below (HC.out U (HD.out U hU).2.1).2.2.1) hni7
         rw [hbi] at h9
         exact h9
        have HHA:Hid (∀ U,Below W5.heap.size W5 U→Calls Tryz.prog 13 #[.slice pc nc cc,.string ⟨h.toArray⟩] U fun e w'=>e=.returned (.bool bq)∧Below U.heap.size U w'):=fun U hU=>by
         have h9:=khas_any n.bits x.cubes pc nc cc h U hnc (hl.2.2.1.below (HC.out U (HD.out U hU).2.1).2.2.1) hEP.2.2.1.2 hbt.1 hbt.2 hHd (by have:=hEP.2.2.1.1;omega)
         rw [hbq] at h9
         exact h9
        have HLE:Hid (∀ U,Below W5.heap.size W5 U→Calls Tryz.prog 11 #[.slice qg mg dg,.string ⟨h.toArray⟩] U fun e w'=>e=.returned (.bool lb)∧Below U.heap.size U w'):=fun U hU=>by
         have h9:=HKL.out U (HC.out U (HD.out U hU).2.1).2.2.1
         rw [hlb] at h9
         exact h9
        have HX:Hid (tb[i]?=some x∧x.nm=nm∧x.wr=wr9∧x.outs.length=no∧fitE (pk:Int) h x=(bi&&bq)∧lets G h=lb∧((b:Int)==(bk:Int))=bb1∧decide (fd < 0)=bb2∧EntryP n (b:Int) x∧LI W2 po x.outs):=⟨hx,hnm,hwr9,hno,by unfold fitE;rw [hbi,hbq],hlb,hbb1,hbb2,hEP,hl.2.2.2.2.1⟩
        have HB5:=hideL hb5
        have HW5:=hideL hW5
        have HBI:=hideL hi
        have j7:(0:Int)≤(i:Int):=by omega
        have j8:(i:Int) < (mt:Int):=by omega
        clear hx hnm hwr9 hni hnc hno hEP hbi hbq hlb hbb1 hbb2 hbt hHd d0' d1' d2' d3' d4' hl hb5 hW5 b15 k5 hb2 q0 q1 q3 t0 t1 p0 p1 p2 p3
        go_upto_region 19 with fail
        rw [HW5.out,HB5.out]
        clear q2 u0 d0 d1 d2 d3 d4
        have hs0:=HS19.out W5.drew (Below.refl _ _).drew
        go_cut [146] from 110 to 145 (fun v146 wx=>v146=.bool (inn&&(bb1&&(bb2&&(lb&&(bi&&bq)))))∧Hid (Below W5.heap.size W5 wx))
        case first=>
         refine wp_region_held_drew (S:=fun U=>U.cell? ⟨B,3,none⟩=some (.slice (some ⟨gg,og,none⟩) ng cg)∧U.cell? ⟨b2,0,none⟩=some (.int .i64 (pk:Int))∧U.cell? ⟨b2,1,none⟩=some (.string ⟨h.toArray⟩)∧U.cell? ⟨b4,1,none⟩=some (.int .i64 (bk:Int))∧U.cell? ⟨b4,2,none⟩=some (.bool inn)∧U.cell? ⟨b5,1,none⟩=some (.slice pi ni ci)∧U.cell? ⟨b5,2,none⟩=some (.slice pc nc cc)∧U.cell? ⟨gg,og+pk,none⟩=some (.slice qg mg dg)) (by kernel_rfl) hs0 (fun _=>?_)
         refine wpAnyH_take (i:=0) (v:=.pointer (some ⟨b4,2,none⟩)) rfl (by kernel_rfl) (by kernel_rfl) (by kernel_rfl) (fun _ _ _ h=>h) (Or.inl ⟨by rfl,?_⟩) hs0 ?_
         ·rintro w ⟨q3,t0,t1,p1,p2,d1,d2,gc⟩;go_simp
         refine wpAnyH_take (i:=1) (v:=.bool inn) rfl (by kernel_rfl) (by kernel_rfl) (by kernel_rfl) (fun _ _ _ h=>h) (Or.inl ⟨by rfl,?_⟩) hs0 ?_
         ·rintro w ⟨q3,t0,t1,p1,p2,d1,d2,gc⟩;go_simp
         refine wpAnyH_take (i:=2) (v:=.bool inn) rfl (by kernel_rfl) (by kernel_rfl) (by kernel_rfl) (fun _ _ _ h=>h) (Or.inl ⟨by rfl,?_⟩) hs0 ?_
         ·rintro w ⟨q3,t0,t1,p1,p2,d1,d2,gc⟩;go_simp
         cases inn with
         | false=>
          refine wpAnyH_take (i:=3) (v:=undef) rfl (by kernel_rfl) (by kernel_rfl) (by kernel_rfl) (fun _ _ _ h=>h) (Or.inr ⟨by kernel_rfl,rfl⟩) hs0 ?_
          refine wpAnyH_take (i:=4) (v:=undef) rfl (by kernel_rfl) (by kernel_rfl) (by kernel_rfl) (fun _ _ _ h=>h) (Or.inr ⟨by kernel_rfl,rfl⟩) hs0 ?_
          refine wpAnyH_take (i:=5) (v:=undef) rfl (by kernel_rfl) (by kernel_rfl) (by kernel_rfl) (fun _ _ _ h=>h) (Or.inr ⟨by kernel_rfl,rfl⟩) hs0 ?_
          refine wpAnyH_take (i:=6) (v:=undef) rfl (by kernel_rfl) (by kernel_rfl) (by kernel_rfl) (fun _ _ _ h=>h) (Or.inr ⟨by kernel_rfl,rfl⟩) hs0 ?_
          refine wpAnyH_take (i:=7) (v:=.bool false) rfl (by kernel_rfl) (by kernel_rfl) (by kernel_rfl) (fun _ _ _ h=>h) (Or.inl ⟨by kernel_rfl,?_⟩) hs0 ?_
          ·rintro w ⟨q3,t0,t1,p1,p2,d1,d2,gc⟩;go_simp
          refine wpAnyH_take (i:=8) (v:=.bool false) rfl (by kernel_rfl) (by kernel_rfl) (by kernel_rfl) (fun _ _ _ h=>h) (Or.inl ⟨by kernel_rfl,?_⟩) hs0 ?_
          ·rintro w ⟨q3,t0,t1,p1,p2,d1,d2,gc⟩;go_simp
          refine wpAnyH_take (i:=9) (v:=undef) rfl (by kernel_rfl) (by kernel_rfl) (by kernel_rfl) (fun _ _ _ h=>h) (Or.inr ⟨by kernel_rfl,rfl⟩) hs0 ?_
          refine wpAnyH_take (i:=10) (v:=undef) rfl (by kernel_rfl) (by kernel_rfl) (by kernel_rfl) (fun _ _ _ h=>h) (Or.inr ⟨by kernel_rfl,rfl⟩) hs0 ?_
          refine wpAnyH_take (i:=11) (v:=.bool false) rfl (by kernel_rfl) (by kernel_rfl) (by kernel_rfl) (fun _ _ _ h=>h) (Or.inl ⟨by kernel_rfl,?_⟩) hs0 ?_
          ·rintro w ⟨q3,t0,t1,p1,p2,d1,d2,gc⟩;go_simp
          refine wpAnyH_take (i:=12) (v:=.bool false) rfl (by kernel_rfl) (by kernel_rfl) (by kernel_rfl) (fun _ _ _ h=>h) (Or.inl ⟨by kernel_rfl,?_⟩) hs0 ?_
          ·rintro w ⟨q3,t0,t1,p1,p2,d1,d2,gc⟩;go_simp
          refine wpAnyH_take (i:=13) (v:=undef) rfl (by kernel_rfl) (by kernel_rfl) (by kernel_rfl) (fun _ _ _ h=>h) (Or.inr ⟨by kernel_rfl,rfl⟩) hs0 ?_
          refine wpAnyH_take (i:=14) (v:=undef) rfl (by kernel_rfl) (by kernel_rfl) (by kernel_rfl) (fun _ _ _ h=>h) (Or.inr ⟨by kernel_rfl,rfl⟩) hs0 ?_
          refine wpAnyH_take (i:=15) (v:=undef) rfl (by kernel_rfl) (by kernel_rfl) (by kernel_rfl) (fun _ _ _ h=>h) (Or.inr ⟨by kernel_rfl,rfl⟩) hs0 ?_
          refine wpAnyH_take (i:=16) (v:=undef) rfl (by kernel_rfl) (by kernel_rfl) (by kernel_rfl) (fun _ _ _ h=>h) (Or.inr ⟨by kernel_rfl,rfl⟩) hs0 ?_
          refine wpAnyH_take (i:=17) (v:=undef) rfl (by kernel_rfl) (by kernel_rfl) (by kernel_rfl) (fun _ _ _ h=>h) (Or.inr ⟨by kernel_rfl,rfl⟩) hs0 ?_
          refine wpAnyH_take (i:=18) (v:=undef) rfl (by kernel_rfl) (by kernel_rfl) (by kernel_rfl) (fun _ _ _ h=>h) (Or.inr ⟨by kernel_rfl,rfl⟩) hs0 ?_
          refine wpAnyH_take (i:=19) (v:=undef) rfl (by kernel_rfl) (by kernel_rfl) (by kernel_rfl) (fun _ _ _ h=>h) (Or.inr ⟨by kernel_rfl,rfl⟩) hs0 ?_
          refine wpAnyH_take (i:=20) (v:=undef) rfl (by kernel_rfl) (by kernel_rfl) (by kernel_rfl) (fun _ _ _ h=>h) (Or.inr ⟨by kernel_rfl,rfl⟩) hs0 ?_
          refine wpAnyH_take (i:=21) (v:=undef) rfl (by kernel_rfl) (by kernel_rfl) (by kernel_rfl) (fun _ _ _ h=>h) (Or.inr ⟨by kernel_rfl,rfl⟩) hs0 ?_
          refine wpAnyH_take (i:=22) (v:=.bool false) rfl (by kernel_rfl) (by kernel_rfl) (by kernel_rfl) (fun _ _ _ h=>h) (Or.inl ⟨by kernel_rfl,?_⟩) hs0 ?_
          ·rintro w ⟨q3,t0,t1,p1,p2,d1,d2,gc⟩;go_simp
          refine wpAnyH_take (i:=23) (v:=.bool false) rfl (by kernel_rfl) (by kernel_rfl) (by kernel_rfl) (fun _ _ _ h=>h) (Or.inl ⟨by kernel_rfl,?_⟩) hs0 ?_
          ·rintro w ⟨q3,t0,t1,p1,p2,d1,d2,gc⟩;go_simp
          refine wpAnyH_take (i:=24) (v:=undef) rfl (by kernel_rfl) (by kernel_rfl) (by kernel_rfl) (fun _ _ _ h=>h) (Or.inr ⟨by kernel_rfl,rfl⟩) hs0 ?_
          refine wpAnyH_take (i:=25) (v:=undef) rfl (by kernel_rfl) (by kernel_rfl) (by kernel_rfl) (fun _ _ _ h=>h) (Or.inr ⟨by kernel_rfl,rfl⟩) hs0 ?_
          refine wpAnyH_take (i:=26) (v:=undef) rfl (by kernel_rfl) (by kernel_rfl) (by kernel_rfl) (fun _ _ _ h=>h) (Or.inr ⟨by kernel_rfl,rfl⟩) hs0 ?_
          refine wpAnyH_take (i:=27) (v:=undef) rfl (by kernel_rfl) (by kernel_rfl) (by kernel_rfl) (fun _ _ _ h=>h) (Or.inr ⟨by kernel_rfl,rfl⟩) hs0 ?_
          refine wpAnyH_take (i:=28) (v:=undef) rfl (by kernel_rfl) (by kernel_rfl) (by kernel_rfl) (fun _ _ _ h=>h) (Or.inr ⟨by kernel_rfl,rfl⟩) hs0 ?_
          refine wpAnyH_take (i:=29) (v:=.bool false) rfl (by kernel_rfl) (by kernel_rfl) (by kernel_rfl) (fun _ _ _ h=>h) (Or.inl ⟨by kernel_rfl,?_⟩) hs0 ?_
          ·rintro w ⟨q3,t0,t1,p1,p2,d1,d2,gc⟩;go_simp
          refine wpAnyH_take (i:=30) (v:=.bool false) rfl (by kernel_rfl) (by kernel_rfl) (by kernel_rfl) (fun _ _ _ h=>h) (Or.inl ⟨by kernel_rfl,?_⟩) hs0 ?_
          ·rintro w ⟨q3,t0,t1,p1,p2,d1,d2,gc⟩;go_simp
          refine wpAnyH_take (i:=31) (v:=undef) rfl (by kernel_rfl) (by kernel_rfl) (by kernel_rfl) (fun _ _ _ h=>h) (Or.inr ⟨by kernel_rfl,rfl⟩) hs0 ?_
          refine wpAnyH_take (i:=32) (v:=undef) rfl (by kernel_rfl) (by kernel_rfl) (by kernel_rfl) (fun _ _ _ h=>h) (Or.inr ⟨by kernel_rfl,rfl⟩) hs0 ?_
          refine wpAnyH_take (i:=33) (v:=undef) rfl (by kernel_rfl) (by kernel_rfl) (by kernel_rfl) (fun _ _ _ h=>h) (Or.inr ⟨by kernel_rfl,rfl⟩) hs0 ?_
          refine wpAnyH_take (i:=34) (v:=undef) rfl (by kernel_rfl) (by kernel_rfl) (by kernel_rfl) (fun _ _ _ h=>h) (Or.inr ⟨by kernel_rfl,rfl⟩) hs0 ?_
          refine wpAnyH_take (i:=35) (v:=undef) rfl (by kernel_rfl) (by kernel_rfl) (by kernel_rfl) (fun _ _ _ h=>h) (Or.inr ⟨by kernel_rfl,rfl⟩) hs0 ?_
          refine wpAnyH_take (i:=36) (v:=.bool false) rfl (by kernel_rfl) (by kernel_rfl) (by kernel_rfl) (fun _ _ _ h=>h) (Or.inl ⟨by kernel_rfl,?_⟩) hs0 ?_
          ·rintro w ⟨q3,t0,t1,p1,p2,d1,d2,gc⟩;go_simp
          refine wpAnyH_done (by kernel_rfl) ?_ _
          try simp only [List.getElem_toArray,List.getElem_cons_succ,List.getElem_cons_zero,Act.put,List.setIfInBounds_toArray,List.set_cons_zero,List.set_cons_succ]
          go_wp2_with fail
          go_meet
          exact ⟨rfl,(Below.refl _ _).drew⟩
         | true=>
          refine wpAnyH_take (i:=3) (v:=.int .i64 (b:Int)) rfl (by kernel_rfl) (by kernel_rfl) (by kernel_rfl) (fun _ _ _ h=>h) (Or.inl ⟨by kernel_rfl,?_⟩) hs0 ?_
          ·rintro w ⟨q3,t0,t1,p1,p2,d1,d2,gc⟩;go_simp
          refine wpAnyH_take (i:=4) (v:=.pointer (some ⟨b4,1,none⟩)) rfl (by kernel_rfl) (by kernel_rfl) (by kernel_rfl) (fun _ _ _ h=>h) (Or.inl ⟨by kernel_rfl,?_⟩) hs0 ?_
          ·rintro w ⟨q3,t0,t1,p1,p2,d1,d2,gc⟩;go_simp
          refine wpAnyH_take (i:=5) (v:=.int .i64 (bk:Int)) rfl (by kernel_rfl) (by kernel_rfl) (by kernel_rfl) (fun _ _ _ h=>h) (Or.inl ⟨by kernel_rfl,?_⟩) hs0 ?_
          ·rintro w ⟨q3,t0,t1,p1,p2,d1,d2,gc⟩;go_simp
          refine wpAnyH_take (i:=6) (v:=.bool ((b:Int)==(bk:Int))) rfl (by kernel_rfl) (by kernel_rfl) (by kernel_rfl) (fun _ _ _ h=>h) (Or.inl ⟨by kernel_rfl,?_⟩) hs0 ?_
          ·rintro w ⟨q3,t0,t1,p1,p2,d1,d2,gc⟩;go_simp
          rw [HX.out.2.2.2.2.2.2.1]
          cases bb1 with
          | false=>
           refine wpAnyH_take (i:=7) (v:=.bool false) rfl (by kernel_rfl) (by kernel_rfl) (by kernel_rfl) (fun _ _ _ h=>h) (Or.inl ⟨by kernel_rfl,?_⟩) hs0 ?_
           ·rintro w ⟨q3,t0,t1,p1,p2,d1,d2,gc⟩;go_simp
           refine wpAnyH_take (i:=8) (v:=.bool false) rfl (by kernel_rfl) (by kernel_rfl) (by kernel_rfl) (fun _ _ _ h=>h) (Or.inl ⟨by kernel_rfl,?_⟩) hs0 ?_
           ·rintro w ⟨q3,t0,t1,p1,p2,d1,d2,gc⟩;go_simp
           refine wpAnyH_take (i:=9) (v:=undef) rfl (by kernel_rfl) (by kernel_rfl) (by kernel_rfl) (fun _ _ _ h=>h) (Or.inr ⟨by kernel_rfl,rfl⟩) hs0 ?_
           refine wpAnyH_take (i:=10) (v:=undef) rfl (by kernel_rfl) (by kernel_rfl) (by kernel_rfl) (fun _ _ _ h=>h) (Or.inr ⟨by kernel_rfl,rfl⟩) hs0 ?_
           refine wpAnyH_take (i:=11) (v:=.bool false) rfl (by kernel_rfl) (by kernel_rfl) (by kernel_rfl) (fun _ _ _ h=>h) (Or.inl ⟨by kernel_rfl,?_⟩) hs0 ?_
           ·rintro w ⟨q3,t0,t1,p1,p2,d1,d2,gc⟩;go_simp
           refine wpAnyH_take (i:=12) (v:=.bool false) rfl (by kernel_rfl) (by kernel_rfl) (by kernel_rfl) (fun _ _ _ h=>h) (Or.inl ⟨by kernel_rfl,?_⟩) hs0 ?_
           ·rintro w ⟨q3,t0,t1,p1,p2,d1,d2,gc⟩;go_simp
           refine wpAnyH_take (i:=13) (v:=undef) rfl (by kernel_rfl) (by kernel_rfl) (by kernel_rfl) (fun _ _ _ h=>h) (Or.inr ⟨by kernel_rfl,rfl⟩) hs0 ?_
           refine wpAnyH_take (i:=14) (v:=undef) rfl (by kernel_rfl) (by kernel_rfl) (by kernel_rfl) (fun _ _ _ h=>h) (Or.inr ⟨by kernel_rfl,rfl⟩) hs0 ?_
           refine wpAnyH_take (i:=15) (v:=undef) rfl (by kernel_rfl) (by kernel_rfl) (by kernel_rfl) (fun _ _ _ h=>h) (Or.inr ⟨by kernel_rfl,rfl⟩) hs0 ?_
           refine wpAnyH_take (i:=16) (v:=undef) rfl (by kernel_rfl) (by kernel_rfl) (by kernel_rfl) (fun _ _ _ h=>h) (Or.inr ⟨by kernel_rfl,rfl⟩) hs0 ?_
           refine wpAnyH_take (i:=17) (v:=undef) rfl (by kernel_rfl) (by kernel_rfl) (by kernel_rfl) (fun _ _ _ h=>h) (Or.inr ⟨by kernel_rfl,rfl⟩) hs0 ?_
           refine wpAnyH_take (i:=18) (v:=undef) rfl (by kernel_rfl) (by kernel_rfl) (by kernel_rfl) (fun _ _ _ h=>h) (Or.inr ⟨by kernel_rfl,rfl⟩) hs0 ?_
           refine wpAnyH_take (i:=19) (v:=undef) rfl (by kernel_rfl) (by kernel_rfl) (by kernel_rfl) (fun _ _ _ h=>h) (Or.inr ⟨by kernel_rfl,rfl⟩) hs0 ?_
           refine wpAnyH_take (i:=20) (v:=undef) rfl (by kernel_rfl) (by kernel_rfl) (by kernel_rfl) (fun _ _ _ h=>h) (Or.inr ⟨by kernel_rfl,rfl⟩) hs0 ?_
           refine wpAnyH_take (i:=21) (v:=undef) rfl (by kernel_rfl) (by kernel_rfl) (by kernel_rfl) (fun _ _ _ h=>h) (Or.inr ⟨by kernel_rfl,rfl⟩) hs0 ?_
           refine wpAnyH_take (i:=22) (v:=.bool false) rfl (by kernel_rfl) (by kernel_rfl) (by kernel_rfl) (fun _ _ _ h=>h) (Or.inl ⟨by kernel_rfl,?_⟩) hs0 ?_
           ·rintro w ⟨q3,t0,t1,p1,p2,d1,d2,gc⟩;go_simp
           refine wpAnyH_take (i:=23) (v:=.bool false) rfl (by kernel_rfl) (by kernel_rfl) (by kernel_rfl) (fun _ _ _ h=>h) (Or.inl ⟨by kernel_rfl,?_⟩) hs0 ?_
           ·rintro w ⟨q3,t0,t1,p1,p2,d1,d2,gc⟩;go_simp
           refine wpAnyH_take (i:=24) (v:=undef) rfl (by kernel_rfl) (by kernel_rfl) (by kernel_rfl) (fun _ _ _ h=>h) (Or.inr ⟨by kernel_rfl,rfl⟩) hs0 ?_
           refine wpAnyH_take (i:=25) (v:=undef) rfl (by kernel_rfl) (by kernel_rfl) (by kernel_rfl) (fun _ _ _ h=>h) (Or.inr ⟨by kernel_rfl,rfl⟩) hs0 ?_
           refine wpAnyH_take (i:=26) (v:=undef) rfl (by kernel_rfl) (by kernel_rfl) (by kernel_rfl) (fun _ _ _ h=>h) (Or.inr ⟨by kernel_rfl,rfl⟩) hs0 ?_
           refine wpAnyH_take (i:=27) (v:=undef) rfl (by kernel_rfl) (by kernel_rfl) (by kernel_rfl) (fun _ _ _ h=>h) (Or.inr ⟨by kernel_rfl,rfl⟩) hs0 ?_
           refine wpAnyH_take (i:=28) (v:=undef) rfl (by kernel_rfl) (by kernel_rfl) (by kernel_rfl) (fun _ _ _ h=>h) (Or.inr ⟨by kernel_rfl,rfl⟩) hs0 ?_
           refine wpAnyH_take (i:=29) (v:=.bool false) rfl (by kernel_rfl) (by kernel_rfl) (by kernel_rfl) (fun _ _ _ h=>h) (Or.inl ⟨by kernel_rfl,?_⟩) hs0 ?_
           ·rintro w ⟨q3,t0,t1,p1,p2,d1,d2,gc⟩;go_simp
           refine wpAnyH_take (i:=30) (v:=.bool false) rfl (by kernel_rfl) (by kernel_rfl) (by kernel_rfl) (fun _ _ _ h=>h) (Or.inl ⟨by kernel_rfl,?_⟩) hs0 ?_
           ·rintro w ⟨q3,t0,t1,p1,p2,d1,d2,gc⟩;go_simp
           refine wpAnyH_take (i:=31) (v:=undef) rfl (by kernel_rfl) (by kernel_rfl) (by kernel_rfl) (fun _ _ _ h=>h) (Or.inr ⟨by kernel_rfl,rfl⟩) hs0 ?_
           refine wpAnyH_take (i:=32) (v:=undef) rfl (by kernel_rfl) (by kernel_rfl) (by kernel_rfl) (fun _ _ _ h=>h) (Or.inr ⟨by kernel_rfl,rfl⟩) hs0 ?_
           refine wpAnyH_take (i:=33) (v:=undef) rfl (by kernel_rfl) (by kernel_rfl) (by kernel_rfl) (fun _ _ _ h=>h) (Or.inr ⟨by kernel_rfl,rfl⟩) hs0 ?_
           refine wpAnyH_take (i:=34) (v:=undef) rfl (by kernel_rfl) (by kernel_rfl) (by kernel_rfl) (fun _ _ _ h=>h) (Or.inr ⟨by kernel_rfl,rfl⟩) hs0 ?_
           refine wpAnyH_take (i:=35) (v:=undef) rfl (by kernel_rfl) (by kernel_rfl) (by kernel_rfl) (fun _ _ _ h=>h) (Or.inr ⟨by kernel_rfl,rfl⟩) hs0 ?_
           refine wpAnyH_take (i:=36) (v:=.bool false) rfl (by kernel_rfl) (by kernel_rfl) (by kernel_rfl) (fun _ _ _ h=>h) (Or.inl ⟨by kernel_rfl,?_⟩) hs0 ?_
           ·rintro w ⟨q3,t0,t1,p1,p2,d1,d2,gc⟩;go_simp
           refine wpAnyH_done (by kernel_rfl) ?_ _
           try simp only [List.getElem_toArray,List.getElem_cons_succ,List.getElem_cons_zero,Act.put,List.setIfInBounds_toArray,List.set_cons_zero,List.set_cons_succ]
           go_wp2_with fail
           go_meet
           exact ⟨rfl,(Below.refl _ _).drew⟩
          | true=>
           refine wpAnyH_take (i:=7) (v:=.bool true) rfl (by kernel_rfl) (by kernel_rfl) (by kernel_rfl) (fun _ _ _ h=>h) (Or.inl ⟨by kernel_rfl,?_⟩) hs0 ?_
           ·rintro w ⟨q3,t0,t1,p1,p2,d1,d2,gc⟩;go_simp
           refine wpAnyH_take (i:=8) (v:=.bool true) rfl (by kernel_rfl) (by kernel_rfl) (by kernel_rfl) (fun _ _ _ h=>h) (Or.inl ⟨by kernel_rfl,?_⟩) hs0 ?_
           ·rintro w ⟨q3,t0,t1,p1,p2,d1,d2,gc⟩;go_simp
           refine wpAnyH_take (i:=9) (v:=.int .i64 fd) rfl (by kernel_rfl) (by kernel_rfl) (by kernel_rfl) (fun _ _ _ h=>h) (Or.inl ⟨by kernel_rfl,?_⟩) hs0 ?_
           ·rintro w ⟨q3,t0,t1,p1,p2,d1,d2,gc⟩;go_simp
           refine wpAnyH_take (i:=10) (v:=.bool (decide (fd < 0))) rfl (by kernel_rfl) (by kernel_rfl) (by kernel_rfl) (fun _ _ _ h=>h) (Or.inl ⟨by kernel_rfl,?_⟩) hs0 ?_
           ·rintro w ⟨q3,t0,t1,p1,p2,d1,d2,gc⟩;go_simp
           rw [HX.out.2.2.2.2.2.2.2.1]
           cases bb2 with
           | false=>
            refine wpAnyH_take (i:=11) (v:=.bool false) rfl (by kernel_rfl) (by kernel_rfl) (by kernel_rfl) (fun _ _ _ h=>h) (Or.inl ⟨by kernel_rfl,?_⟩) hs0 ?_
            ·rintro w ⟨q3,t0,t1,p1,p2,d1,d2,gc⟩;go_simp
            refine wpAnyH_take (i:=12) (v:=.bool false) rfl (by kernel_rfl) (by kernel_rfl) (by kernel_rfl) (fun _ _ _ h=>h) (Or.inl ⟨by kernel_rfl,?_⟩) hs0 ?_
            ·rintro w ⟨q3,t0,t1,p1,p2,d1,d2,gc⟩;go_simp
            refine wpAnyH_take (i:=13) (v:=undef) rfl (by kernel_rfl) (by kernel_rfl) (by kernel_rfl) (fun _ _ _ h=>h) (Or.inr ⟨by kernel_rfl,rfl⟩) hs0 ?_
            refine wpAnyH_take (i:=14) (v:=undef) rfl (by kernel_rfl) (by kernel_rfl) (by kernel_rfl) (fun _ _ _ h=>h) (Or.inr ⟨by kernel_rfl,rfl⟩) hs0 ?_
            refine wpAnyH_take (i:=15) (v:=undef) rfl (by kernel_rfl) (by kernel_rfl) (by kernel_rfl) (fun _ _ _ h=>h) (Or.inr ⟨by kernel_rfl,rfl⟩) hs0 ?_
            refine wpAnyH_take (i:=16) (v:=undef) rfl (by kernel_rfl) (by kernel_rfl) (by kernel_rfl) (fun _ _ _ h=>h) (Or.inr ⟨by kernel_rfl,rfl⟩) hs0 ?_
            refine wpAnyH_take (i:=17) (v:=undef) rfl (by kernel_rfl) (by kernel_rfl) (by kernel_rfl) (fun _ _ _ h=>h) (Or.inr ⟨by kernel_rfl,rfl⟩) hs0 ?_
            refine wpAnyH_take (i:=18) (v:=undef) rfl (by kernel_rfl) (by kernel_rfl) (by kernel_rfl) (fun _ _ _ h=>h) (Or.inr ⟨by kernel_rfl,rfl⟩) hs0 ?_
            refine wpAnyH_take (i:=19) (v:=undef) rfl (by kernel_rfl) (by kernel_rfl) (by kernel_rfl) (fun _ _ _ h=>h) (Or.inr ⟨by kernel_rfl,rfl⟩) hs0 ?_
            refine wpAnyH_take (i:=20) (v:=undef) rfl (by kernel_rfl) (by kernel_rfl) (by kernel_rfl) (fun _ _ _ h=>h) (Or.inr ⟨by kernel_rfl,rfl⟩) hs0 ?_
            refine wpAnyH_take (i:=21) (v:=undef) rfl (by kernel_rfl) (by kernel_rfl) (by kernel_rfl) (fun _ _ _ h=>h) (Or.inr ⟨by kernel_rfl,rfl⟩) hs0 ?_
            refine wpAnyH_take (i:=22) (v:=.bool false) rfl (by kernel_rfl) (by kernel_rfl) (by kernel_rfl) (fun _ _ _ h=>h) (Or.inl ⟨by kernel_rfl,?_⟩) hs0 ?_
            ·rintro w ⟨q3,t0,t1,p1,p2,d1,d2,gc⟩;go_simp
            refine wpAnyH_take (i:=23) (v:=.bool false) rfl (by kernel_rfl) (by kernel_rfl) (by kernel_rfl) (fun _ _ _ h=>h) (Or.inl ⟨by kernel_rfl,?_⟩) hs0 ?_
            ·rintro w ⟨q3,t0,t1,p1,p2,d1,d2,gc⟩;go_simp
            refine wpAnyH_take (i:=24) (v:=undef) rfl (by kernel_rfl) (by kernel_rfl) (by kernel_rfl) (fun _ _ _ h=>h) (Or.inr ⟨by kernel_rfl,rfl⟩) hs0 ?_
            refine wpAnyH_take (i:=25) (v:=undef) rfl (by kernel_rfl) (by kernel_rfl) (by kernel_rfl) (fun _ _ _ h=>h) (Or.inr ⟨by kernel_rfl,rfl⟩) hs0 ?_
            refine wpAnyH_take (i:=26) (v:=undef) rfl (by kernel_rfl) (by kernel_rfl) (by kernel_rfl) (fun _ _ _ h=>h) (Or.inr ⟨by kernel_rfl,rfl⟩) hs0 ?_
            refine wpAnyH_take (i:=27) (v:=undef) rfl (by kernel_rfl) (by kernel_rfl) (by kernel_rfl) (fun _ _ _ h=>h) (Or.inr ⟨by kernel_rfl,rfl⟩) hs0 ?_
            refine wpAnyH_take (i:=28) (v:=undef) rfl (by kernel_rfl) (by kernel_rfl) (by kernel_rfl) (fun _ _ _ h=>h) (Or.inr ⟨by kernel_rfl,rfl⟩) hs0 ?_
            refine wpAnyH_take (i:=29) (v:=.bool false) rfl (by kernel_rfl) (by kernel_rfl) (by kernel_rfl) (fun _ _ _ h=>h) (Or.inl ⟨by kernel_rfl,?_⟩) hs0 ?_
            ·rintro w ⟨q3,t0,t1,p1,p2,d1,d2,gc⟩;go_simp
            refine wpAnyH_take (i:=30) (v:=.bool false) rfl (by kernel_rfl) (by kernel_rfl) (by kernel_rfl) (fun _ _ _ h=>h) (Or.inl ⟨by kernel_rfl,?_⟩) hs0 ?_
            ·rintro w ⟨q3,t0,t1,p1,p2,d1,d2,gc⟩;go_simp
            refine wpAnyH_take (i:=31) (v:=undef) rfl (by kernel_rfl) (by kernel_rfl) (by kernel_rfl) (fun _ _ _ h=>h) (Or.inr ⟨by kernel_rfl,rfl⟩) hs0 ?_
            refine wpAnyH_take (i:=32) (v:=undef) rfl (by kernel_rfl) (by kernel_rfl) (by kernel_rfl) (fun _ _ _ h=>h) (Or.inr ⟨by kernel_rfl,rfl⟩) hs0 ?_
            refine wpAnyH_take (i:=33) (v:=undef) rfl (by kernel_rfl) (by kernel_rfl) (by kernel_rfl) (fun _ _ _ h=>h) (Or.inr ⟨by kernel_rfl,rfl⟩) hs0 ?_
            refine wpAnyH_take (i:=34) (v:=undef) rfl (by kernel_rfl) (by kernel_rfl) (by kernel_rfl) (fun _ _ _ h=>h) (Or.inr ⟨by kernel_rfl,rfl⟩) hs0 ?_
            refine wpAnyH_take (i:=35) (v:=undef) rfl (by kernel_rfl) (by kernel_rfl) (by kernel_rfl) (fun _ _ _ h=>h) (Or.inr ⟨by kernel_rfl,rfl⟩) hs0 ?_
            refine wpAnyH_take (i:=36) (v:=.bool false) rfl (by kernel_rfl) (by kernel_rfl) (by kernel_rfl) (fun _ _ _ h=>h) (Or.inl ⟨by kernel_rfl,?_⟩) hs0 ?_
            ·rintro w ⟨q3,t0,t1,p1,p2,d1,d2,gc⟩;go_simp
            refine wpAnyH_done (by kernel_rfl) ?_ _
            try simp only [List.getElem_toArray,List.getElem_cons_succ,List.getElem_cons_zero,Act.put,List.setIfInBounds_toArray,List.set_cons_zero,List.set_cons_succ]
            go_wp2_with fail
            go_meet
            exact ⟨rfl,(Below.refl _ _).drew⟩
           | true=>
            refine wpAnyH_take (i:=11) (v:=.bool true) rfl (by kernel_rfl) (by kernel_rfl) (by kernel_rfl) (fun _ _ _ h=>h) (Or.inl ⟨by kernel_rfl,?_⟩) hs0 ?_
            ·rintro w ⟨q3,t0,t1,p1,p2,d1,d2,gc⟩;go_simp
            refine wpAnyH_take (i:=12) (v:=.bool true) rfl (by kernel_rfl) (by kernel_rfl) (by kernel_rfl) (fun _ _ _ h=>h) (Or.inl ⟨by kernel_rfl,?_⟩) hs0 ?_
            ·rintro w ⟨q3,t0,t1,p1,p2,d1,d2,gc⟩;go_simp
            refine wpAnyH_take (i:=13) (v:=.pointer (some ⟨B,3,none⟩)) rfl (by kernel_rfl) (by kernel_rfl) (by kernel_rfl) (fun _ _ _ h=>h) (Or.inl ⟨by kernel_rfl,?_⟩) hs0 ?_
            ·rintro w ⟨q3,t0,t1,p1,p2,d1,d2,gc⟩;go_simp
            refine wpAnyH_take (i:=14) (v:=.slice (some ⟨gg,og,none⟩) ng cg) rfl (by kernel_rfl) (by kernel_rfl) (by kernel_rfl) (fun _ _ _ h=>h) (Or.inl ⟨by kernel_rfl,?_⟩) hs0 ?_
            ·rintro w ⟨q3,t0,t1,p1,p2,d1,d2,gc⟩;go_simp
            refine wpAnyH_take (i:=15) (v:=.pointer (some ⟨b2,0,none⟩)) rfl (by kernel_rfl) (by kernel_rfl) (by kernel_rfl) (fun _ _ _ h=>h) (Or.inl ⟨by kernel_rfl,?_⟩) hs0 ?_
            ·rintro w ⟨q3,t0,t1,p1,p2,d1,d2,gc⟩;go_simp
            refine wpAnyH_take (i:=16) (v:=.int .i64 (pk:Int)) rfl (by kernel_rfl) (by kernel_rfl) (by kernel_rfl) (fun _ _ _ h=>h) (Or.inl ⟨by kernel_rfl,?_⟩) hs0 ?_
            ·rintro w ⟨q3,t0,t1,p1,p2,d1,d2,gc⟩;go_simp
            refine wpAnyH_take (i:=17) (v:=.pointer (some ⟨gg,og+pk,none⟩)) rfl (by kernel_rfl) (by kernel_rfl) (by kernel_rfl) (fun _ _ _ h=>h) (Or.inl ⟨by kernel_rfl,?_⟩) hs0 ?_
            ·rintro w ⟨q3,t0,t1,p1,p2,d1,d2,gc⟩;go_simp
            refine wpAnyH_take (i:=18) (v:=.slice qg mg dg) rfl (by kernel_rfl) (by kernel_rfl) (by kernel_rfl) (fun _ _ _ h=>h) (Or.inl ⟨by kernel_rfl,?_⟩) hs0 ?_
            ·rintro w ⟨q3,t0,t1,p1,p2,d1,d2,gc⟩;go_simp
            refine wpAnyH_take (i:=19) (v:=.pointer (some ⟨b2,1,none⟩)) rfl (by kernel_rfl) (by kernel_rfl) (by kernel_rfl) (fun _ _ _ h=>h) (Or.inl ⟨by kernel_rfl,?_⟩) hs0 ?_
            ·rintro w ⟨q3,t0,t1,p1,p2,d1,d2,gc⟩;go_simp
            refine wpAnyH_take (i:=20) (v:=.string ⟨h.toArray⟩) rfl (by kernel_rfl) (by kernel_rfl) (by kernel_rfl) (fun _ _ _ h=>h) (Or.inl ⟨by kernel_rfl,?_⟩) hs0 ?_
            ·rintro w ⟨q3,t0,t1,p1,p2,d1,d2,gc⟩;go_simp
            refine wpAnyH_ready (rs:=[21]) (by kernel_rfl) (by simp) ?_
            refine AllReadyH.cons rfl (fun KK hKK=>?_) AllReadyH.nil
            go_simp
            refine (HLE.out _ (Below.refl _ _).drew).mono ?_
            rintro en W6 ⟨rfl,b6⟩
            have c6:Below W5.heap.size W5 W6:=bel0Z (Below.refl _ _).drew b6
            have hs6:=HS19.out W6 c6
            clear b6
            go_simp
            refine hKK.out _ _ hs6 (fun _=>?_)
            clear hKK KK
            cases lb with
            | false=>
             refine wpAnyH_take (i:=22) (v:=.bool false) rfl (by kernel_rfl) (by kernel_rfl) (by kernel_rfl) (fun _ _ _ h=>h) (Or.inl ⟨by kernel_rfl,?_⟩) hs6 ?_
             ·rintro w ⟨q3,t0,t1,p1,p2,d1,d2,gc⟩;go_simp
             refine wpAnyH_take (i:=23) (v:=.bool false) rfl (by kernel_rfl) (by kernel_rfl) (by kernel_rfl) (fun _ _ _ h=>h) (Or.inl ⟨by kernel_rfl,?_⟩) hs6 ?_
             ·rintro w ⟨q3,t0,t1,p1,p2,d1,d2,gc⟩;go_simp
             refine wpAnyH_take (i:=24) (v:=undef) rfl (by kernel_rfl) (by kernel_rfl) (by kernel_rfl) (fun _ _ _ h=>h) (Or.inr ⟨by kernel_rfl,rfl⟩) hs6 ?_
             refine wpAnyH_take (i:=25) (v:=undef) rfl (by kernel_rfl) (by kernel_rfl) (by kernel_rfl) (fun _ _ _ h=>h) (Or.inr ⟨by kernel_rfl,rfl⟩) hs6 ?_
             refine wpAnyH_take (i:=26) (v:=undef) rfl (by kernel_rfl) (by kernel_rfl) (by kernel_rfl) (fun _ _ _ h=>h) (Or.inr ⟨by kernel_rfl,rfl⟩) hs6 ?_
             refine wpAnyH_take (i:=27) (v:=undef) rfl (by kernel_rfl) (by kernel_rfl) (by kernel_rfl) (fun _ _ _ h=>h) (Or.inr ⟨by kernel_rfl,rfl⟩) hs6 ?_
             refine wpAnyH_take (i:=28) (v:=undef) rfl (by kernel_rfl) (by kernel_rfl) (by kernel_rfl) (fun _ _ _ h=>h) (Or.inr ⟨by kernel_rfl,rfl⟩) hs6 ?_
             refine wpAnyH_take (i:=29) (v:=.bool false) rfl (by kernel_rfl) (by kernel_rfl) (by kernel_rfl) (fun _ _ _ h=>h) (Or.inl ⟨by kernel_rfl,?_⟩) hs6 ?_
             ·rintro w ⟨q3,t0,t1,p1,p2,d1,d2,gc⟩;go_simp
             refine wpAnyH_take (i:=30) (v:=.bool false) rfl (by kernel_rfl) (by kernel_rfl) (by kernel_rfl) (fun _ _ _ h=>h) (Or.inl ⟨by kernel_rfl,?_⟩) hs6 ?_
             ·rintro w ⟨q3,t0,t1,p1,p2,d1,d2,gc⟩;go_simp
             refine wpAnyH_take (i:=31) (v:=undef) rfl (by kernel_rfl) (by kernel_rfl) (by kernel_rfl) (fun _ _ _ h=>h) (Or.inr ⟨by kernel_rfl,rfl⟩) hs6 ?_
             refine wpAnyH_take (i:=32) (v:=undef) rfl (by kernel_rfl) (by kernel_rfl) (by kernel_rfl) (fun _ _ _ h=>h) (Or.inr ⟨by kernel_rfl,rfl⟩) hs6 ?_
             refine wpAnyH_take (i:=33) (v:=undef) rfl (by kernel_rfl) (by kernel_rfl) (by kernel_rfl) (fun _ _ _ h=>h) (Or.inr ⟨by kernel_rfl,rfl⟩) hs6 ?_
             refine wpAnyH_take (i:=34) (v:=undef) rfl (by kernel_rfl) (by kernel_rfl) (by kernel_rfl) (fun _ _ _ h=>h) (Or.inr ⟨by kernel_rfl,rfl⟩) hs6 ?_
             refine wpAnyH_take (i:=35) (v:=undef) rfl (by kernel_rfl) (by kernel_rfl) (by kernel_rfl) (fun _ _ _ h=>h) (Or.inr ⟨by kernel_rfl,rfl⟩) hs6 ?_
             refine wpAnyH_take (i:=36) (v:=.bool false) rfl (by kernel_rfl) (by kernel_rfl) (by kernel_rfl) (fun _ _ _ h=>h) (Or.inl ⟨by kernel_rfl,?_⟩) hs6 ?_
             ·rintro w ⟨q3,t0,t1,p1,p2,d1,d2,gc⟩;go_simp
             refine wpAnyH_done (by kernel_rfl) ?_ _
             try simp only [List.getElem_toArray,List.getElem_cons_succ,List.getElem_cons_zero,Act.put,List.setIfInBounds_toArray,List.set_cons_zero,List.set_cons_succ]
             go_wp2_with fail
             go_meet
             exact ⟨rfl,c6⟩
            | true=>
             refine wpAnyH_take (i:=22) (v:=.bool true) rfl (by kernel_rfl) (by kernel_rfl) (by kernel_rfl) (fun _ _ _ h=>h) (Or.inl ⟨by kernel_rfl,?_⟩) hs6 ?_
             ·rintro w ⟨q3,t0,t1,p1,p2,d1,d2,gc⟩;go_simp
             refine wpAnyH_take (i:=23) (v:=.bool true) rfl (by kernel_rfl) (by kernel_rfl) (by kernel_rfl) (fun _ _ _ h=>h) (Or.inl ⟨by kernel_rfl,?_⟩) hs6 ?_
             ·rintro w ⟨q3,t0,t1,p1,p2,d1,d2,gc⟩;go_simp
             refine wpAnyH_take (i:=24) (v:=.pointer (some ⟨b5,1,none⟩)) rfl (by kernel_rfl) (by kernel_rfl) (by kernel_rfl) (fun _ _ _ h=>h) (Or.inl ⟨by kernel_rfl,?_⟩) hs6 ?_
             ·rintro w ⟨q3,t0,t1,p1,p2,d1,d2,gc⟩;go_simp
             refine wpAnyH_take (i:=25) (v:=.slice pi ni ci) rfl (by kernel_rfl) (by kernel_rfl) (by kernel_rfl) (fun _ _ _ h=>h) (Or.inl ⟨by kernel_rfl,?_⟩) hs6 ?_
             ·rintro w ⟨q3,t0,t1,p1,p2,d1,d2,gc⟩;go_simp
             refine wpAnyH_take (i:=26) (v:=.pointer (some ⟨b2,0,none⟩)) rfl (by kernel_rfl) (by kernel_rfl) (by kernel_rfl) (fun _ _ _ h=>h) (Or.inl ⟨by kernel_rfl,?_⟩) hs6 ?_
             ·rintro w ⟨q3,t0,t1,p1,p2,d1,d2,gc⟩;go_simp
             refine wpAnyH_take (i:=27) (v:=.int .i64 (pk:Int)) rfl (by kernel_rfl) (by kernel_rfl) (by kernel_rfl) (fun _ _ _ h=>h) (Or.inl ⟨by kernel_rfl,?_⟩) hs6 ?_
             ·rintro w ⟨q3,t0,t1,p1,p2,d1,d2,gc⟩;go_simp
             refine wpAnyH_ready (rs:=[28]) (by kernel_rfl) (by simp) ?_
             refine AllReadyH.cons rfl (fun KK hKK=>?_) AllReadyH.nil
             go_simp
             refine (HIN.out _ c6).mono ?_
             rintro en W7 ⟨rfl,b7⟩
             have c7:Below W5.heap.size W5 W7:=bel0Z c6 b7
             have hs7:=HS19.out W7 c7
             clear b7
             go_simp
             refine hKK.out _ _ hs7 (fun _=>?_)
             clear hKK KK
             cases bi with
             | false=>
              refine wpAnyH_take (i:=29) (v:=.bool false) rfl (by kernel_rfl) (by kernel_rfl) (by kernel_rfl) (fun _ _ _ h=>h) (Or.inl ⟨by kernel_rfl,?_⟩) hs7 ?_
              ·rintro w ⟨q3,t0,t1,p1,p2,d1,d2,gc⟩;go_simp
              refine wpAnyH_take (i:=30) (v:=.bool false) rfl (by kernel_rfl) (by kernel_rfl) (by kernel_rfl) (fun _ _ _ h=>h) (Or.inl ⟨by kernel_rfl,?_⟩) hs7 ?_
              ·rintro w ⟨q3,t0,t1,p1,p2,d1,d2,gc⟩;go_simp
              refine wpAnyH_take (i:=31) (v:=undef) rfl (by kernel_rfl) (by kernel_rfl) (by kernel_rfl) (fun _ _ _ h=>h) (Or.inr ⟨by kernel_rfl,rfl⟩) hs7 ?_
              refine wpAnyH_take (i:=32) (v:=undef) rfl (by kernel_rfl) (by kernel_rfl) (by kernel_rfl) (fun _ _ _ h=>h) (Or.inr ⟨by kernel_rfl,rfl⟩) hs7 ?_
              refine wpAnyH_take (i:=33) (v:=undef) rfl (by kernel_rfl) (by kernel_rfl) (by kernel_rfl) (fun _ _ _ h=>h) (Or.inr ⟨by kernel_rfl,rfl⟩) hs7 ?_
              refine wpAnyH_take (i:=34) (v:=undef) rfl (by kernel_rfl) (by kernel_rfl) (by kernel_rfl) (fun _ _ _ h=>h) (Or.inr ⟨by kernel_rfl,rfl⟩) hs7 ?_
              refine wpAnyH_take (i:=35) (v:=undef) rfl (by kernel_rfl) (by kernel_rfl) (by kernel_rfl) (fun _ _ _ h=>h) (Or.inr ⟨by kernel_rfl,rfl⟩) hs7 ?_
              refine wpAnyH_take (i:=36) (v:=.bool false) rfl (by kernel_rfl) (by kernel_rfl) (by kernel_rfl) (fun _ _ _ h=>h) (Or.inl ⟨by kernel_rfl,?_⟩) hs7 ?_
              ·rintro w ⟨q3,t0,t1,p1,p2,d1,d2,gc⟩;go_simp
              refine wpAnyH_done (by kernel_rfl) ?_ _
              try simp only [List.getElem_toArray,List.getElem_cons_succ,List.getElem_cons_zero,Act.put,List.setIfInBounds_toArray,List.set_cons_zero,List.set_cons_succ]
              go_wp2_with fail
              go_meet
              exact ⟨rfl,c7⟩
             | true=>
              refine wpAnyH_take (i:=29) (v:=.bool true) rfl (by kernel_rfl) (by kernel_rfl) (by kernel_rfl) (fun _ _ _ h=>h) (Or.inl ⟨by kernel_rfl,?_⟩) hs7 ?_
              ·rintro w ⟨q3,t0,t1,p1,p2,d1,d2,gc⟩;go_simp
              refine wpAnyH_take (i:=30) (v:=.bool true) rfl (by kernel_rfl) (by kernel_rfl) (by kernel_rfl) (fun _ _ _ h=>h) (Or.inl ⟨by kernel_rfl,?_⟩) hs7 ?_
              ·rintro w ⟨q3,t0,t1,p1,p2,d1,d2,gc⟩;go_simp
              refine wpAnyH_take (i:=31) (v:=.pointer (some ⟨b5,2,none⟩)) rfl (by kernel_rfl) (by kernel_rfl) (by kernel_rfl) (fun _ _ _ h=>h) (Or.inl ⟨by kernel_rfl,?_⟩) hs7 ?_
              ·rintro w ⟨q3,t0,t1,p1,p2,d1,d2,gc⟩;go_simp
              refine wpAnyH_take (i:=32) (v:=.slice pc nc cc) rfl (by kernel_rfl) (by kernel_rfl) (by kernel_rfl) (fun _ _ _ h=>h) (Or.inl ⟨by kernel_rfl,?_⟩) hs7 ?_
              ·rintro w ⟨q3,t0,t1,p1,p2,d1,d2,gc⟩;go_simp
              refine wpAnyH_take (i:=33) (v:=.pointer (some ⟨b2,1,none⟩)) rfl (by kernel_rfl) (by kernel_rfl) (by kernel_rfl) (fun _ _ _ h=>h) (Or.inl ⟨by kernel_rfl,?_⟩) hs7 ?_
              ·rintro w ⟨q3,t0,t1,p1,p2,d1,d2,gc⟩;go_simp
              refine wpAnyH_take (i:=34) (v:=.string ⟨h.toArray⟩) rfl (by kernel_rfl) (by kernel_rfl) (by kernel_rfl) (fun _ _ _ h=>h) (Or.inl ⟨by kernel_rfl,?_⟩) hs7 ?_
              ·rintro w ⟨q3,t0,t1,p1,p2,d1,d2,gc⟩;go_simp
              refine wpAnyH_ready (rs:=[35]) (by kernel_rfl) (by simp) ?_
              refine AllReadyH.cons rfl (fun KK hKK=>?_) AllReadyH.nil
              go_simp
              refine (HHA.out _ c7).mono ?_
              rintro en W8 ⟨rfl,b8⟩
              have c8:Below W5.heap.size W5 W8:=bel0Z c7 b8
              have hs8:=HS19.out W8 c8
              clear b8
              go_simp
              refine hKK.out _ _ hs8 (fun _=>?_)
              clear hKK KK
              refine wpAnyH_take (i:=36) (v:=.bool bq) rfl (by kernel_rfl) (by kernel_rfl) (by kernel_rfl) (fun _ _ _ h=>h) (Or.inl ⟨by kernel_rfl,?_⟩) hs8 ?_
              ·rintro w ⟨q3,t0,t1,p1,p2,d1,d2,gc⟩;go_simp
              refine wpAnyH_done (by kernel_rfl) ?_ _
              try simp only [List.getElem_toArray,List.getElem_cons_succ,List.getElem_cons_zero,Act.put,List.setIfInBounds_toArray,List.set_cons_zero,List.set_cons_succ]
              go_wp2_with fail
              go_meet
              exact ⟨rfl,c8⟩
        case rest=>
         obtain ⟨rfl,HCW⟩:=hcut
         clear hs0
         obtain ⟨bb,hbb⟩:∃ bb,(inn&&(bb1&&(bb2&&(lb&&(bi&&bq)))))=bb:=⟨_,rfl⟩
         rw [hbb]
         have HBB:=hideL hbb
         clear hbb
         cases bb with
         | false=>
          as_aux_lemma=>
           have HST9:Hid (s+1=offs n b+(i+1)∧fdN st=fd∧stI n ((pk:Int),h) b (i+1) st):=⟨by have:=HST.out.1;omega,HST.out.2.1,stI_skip HST.out.2.2 (fun e1 e2 e3 e4 e he=>by
            have h1:inn=true:=by rw [←HZ.out.2.2.2.1];exact e2
            have h2:bb1=true:=by
             rw [←HX.out.2.2.2.2.2.2.1]
             have h9:(portAt n (pk:Int)).bx=(b:Int):=e4
             rw [HZ.out.2.2.1] at h9
             rw [h9];simp
            have h3:bb2=true:=by
             rw [←HX.out.2.2.2.2.2.2.2.1,←HST.out.2.1,e1];rfl
            have h4:lb=true:=by
             rw [←HX.out.2.2.2.2.2.1,←HZ.out.2.2.2.2.2.1];exact e3
            have h5:=HBB.out
            rw [h1,h2,h3,h4] at h5
            have h6:(bi&&bq)=false:=by simpa using h5
            have h7:tabAt n (portAt n (pk:Int)).bx=tb:=HTB.out.2.2.2.2.2.2 e4
            have h8:tb[i]?=some e:=by rw [←h7];exact he
            rw [HX.out.1] at h8
            obtain rfl:=Option.some.inj h8
            show fitE (pk:Int) h x=false
            rw [HX.out.2.2.2.2.1]
            exact h6)⟩
           have HRW9:Hid ((wnL n ((pk:Int),h) st).length=mw∧wc.ownsRow W3.heap.size 28 2 (.slice q mw c) mw ((wnL n ((pk:Int),h) st).flatMap asC)∧Below W3.heap.size W3 wc):=⟨HRW.out.1,own_belZ HRW.out.2.1 (HD.out wc HCW.out).2.2,(HD.out wc HCW.out).2.1⟩
           have hs9:s+1≤256:=by have:=HST9.out.1;have:=HTB.out.2.2.2.1;omega
           go_wp2_with fail
           go_roundw
           case rel=>exact ⟨st,i+1,s+1,mw,c,q,fd,rfl,by go_num,rfl,by go_num,by omega,hs9,hmw,HST9,HRW9⟩
           case measure=>simp [intOf];omega
         | true=>
          as_aux_lemma=>
           have hall:=HBB.out
           simp only [Bool.and_eq_true] at hall
           obtain ⟨rfl,rfl,rfl,rfl,rfl,rfl⟩:=hall
           have hst0:st=none:=by
            have h9:=HX.out.2.2.2.2.2.2.2.1
            rw [←HST.out.2.1,decide_eq_true_eq] at h9
            cases st with
            | none=>rfl
            | some kx=>
             obtain ⟨k0,x0⟩:=kx
             have h10:((k0:Nat):Int) < 0:=h9
             omega
           subst hst0
           have hbb9:(b:Int)=(bk:Int):=by have:=HX.out.2.2.2.2.2.2.1;simpa using this
           have hbx:(portAt n (pk:Int)).bx=(b:Int):=by rw [HZ.out.2.2.1];exact hbb9.symm
           have HST9:Hid (s+1=offs n b+(i+1)∧fdN (some (offs n b+i,x))=(s:Int)∧stI n ((pk:Int),h) b (i+1) (some (offs n b+i,x))):=⟨by have:=HST.out.1;omega,by show ((offs n b+i:Nat):Int)=_;rw [HST.out.1],stI_hit HST.out.2.2 HZ.out.2.2.2.1 (by show lets (grdAt n (pk:Int)) h=true;rw [HZ.out.2.2.2.2.2.1];exact HX.out.2.2.2.2.2.1) hbx (by show (tabAt n (portAt n (pk:Int)).bx)[i]?=_;rw [HTB.out.2.2.2.2.2.2 hbx];exact HX.out.1) (by show fitE (pk:Int) h x=true;rw [HX.out.2.2.2.2.1];rfl)⟩
           have hw0:wnL n ((pk:Int),h) none=[]:=by unfold wnL;rw [if_pos HZ.out.2.2.2.1]
           have hmw0:mw=0:=by have:=HRW.out.1;rw [hw0] at this;exact this.symm
           subst hmw0
           have hEP:=HX.out.2.2.2.2.2.2.2.2.1
           have hbt:=HZ.out.1.bits
           have hHd:=HZ.out.2.1.2.2
           obtain ⟨t9,ht9⟩:∃ t9,Tn.wtT h x.wr=t9:=⟨_,rfl⟩
           have hh9:HdP n.bits t9:=by rw [←ht9];exact wr_hd hHd hEP.2.2.2.1 hbt.1
           have hwl:h.length=x.wr.length:=by have h1:=hHd.1;have h2:=hEP.2.2.2.1.1;simp only at h1;omega
           have hwt:Tn.wrT h x.wr=t9:=by
            rw [←ht9]
            unfold Tn.wtT
            rw [if_pos]
            unfold Tn.fitB
            have e1:h.isEmpty=false:=by
             cases h with
             | nil=>have h1:=hHd.1;simp at h1;omega
             | cons a l=>rfl
            rw [e1,hwl];simp
           have HWR:Hid (∀ U:World,Calls Tryz.prog 14 #[.string ⟨h.toArray⟩,.string ⟨wr9.toArray⟩] U fun e w'=>e=.returned (.string ⟨t9.toArray⟩)∧Below U.heap.size U w'):=fun U=>by
            have h9:=Tn.kwritten_any ⟨h.toArray⟩ ⟨x.wr.toArray⟩ U (by show h.toArray.size≤256;have h1:=hHd.1;simp only at h1;simp;omega) (by show h.toArray.size=x.wr.toArray.size;simpa using hwl)
            rw [←HX.out.2.2.1]
            rw [show (⟨h.toArray⟩:ByteArray).data.toList=h from rfl,show (⟨x.wr.toArray⟩:ByteArray).data.toList=x.wr from rfl,hwt] at h9
            exact h9
           have HWN:Hid (wnL n ((pk:Int),h) (some (offs n b+i,x))=nxO n x.outs t9):=by
            show nxO n x.outs (Tn.wtT h x.wr)=_
            rw [ht9]
           have HOU:Hid (x.outs.length=no∧no≤4∧(∀ y∈x.outs,IsOfP n (b:Int) y false)∧HdP n.bits t9):=⟨HX.out.2.2.2.1,by have:=HX.out.2.2.2.1;have:=hEP.2.2.2.2.1;omega,hEP.2.2.2.2.2.1,hh9⟩
           have hno4:no≤4:=HOU.out.2.1
           have HRW9:Hid (wc.ownsRow W3.heap.size 28 2 (.slice q 0 c) 0 ((nxO n (x.outs.take 0) t9).flatMap asC)∧Below W3.heap.size W3 wc):=by
            have h9:=own_belZ HRW.out.2.1 (HD.out wc HCW.out).2.2
            rw [hw0] at h9
            exact ⟨h9,(HD.out wc HCW.out).2.1⟩
           have hs9:s+1≤256:=by have:=HST9.out.1;have:=HTB.out.2.2.2.1;omega
           have HK5:Hid (wc.heap[b5]?=some (.cells #[.string ⟨nm.toArray⟩,.slice pi ni ci,.slice pc nc cc,.string ⟨wr9.toArray⟩,.slice po no co] 41 (0,0))):=by
            have h9:W5.heap[b5]?=some (.cells #[.string ⟨nm.toArray⟩,.slice pi ni ci,.slice pc nc cc,.string ⟨wr9.toArray⟩,.slice po no co] 41 (0,0)):=by
             rw [←HW5.out,←HB5.out];exact alloc_getZ _ _
            exact keepZ HCW.out h9
           clear hbb9 hbx hw0 hEP hbt hHd ht9 hh9 hwl hwt HBB
           obtain ⟨⟨⟨q0,q1,q2,q3⟩,⟨t0,t1⟩⟩,-,-,-⟩:=HC.out wc HRW9.out.2
           obtain ⟨⟨d0,d1,d2,d3,d4⟩,-,-⟩:=HD.out wc HCW.out
           clear q0 q1 q2 q3 t0 d0 d1 d2 d4
           go_wp2_with fail
           refine (HWR.out wc).mono ?_
           rintro e W6 ⟨rfl,b6⟩
           have HR6:Hid (W6.ownsRow W3.heap.size 28 2 (.slice q 0 c) 0 ((nxO n (x.outs.take 0) t9).flatMap asC)∧Below W3.heap.size W3 W6∧W6.heap[b5]?=some (.cells #[.string ⟨nm.toArray⟩,.slice pi ni ci,.slice pc nc cc,.string ⟨wr9.toArray⟩,.slice po no co] 41 (0,0))):=⟨own_belZ HRW9.out.1 b6,bel0Z HRW9.out.2 b6,keepZ b6 HK5.out⟩
           clear b6 t1 d3 HRW9 HK5
           go_wp2_with fail
           go_loopw [9,16] (fun v9 v16 wr=>∃ (k m c:Nat) (q:Option Addr),v9=.slice q m c∧v16=.int .i64 (k:Int)∧k≤no∧m≤2*k∧Hid ((nxO n (x.outs.take k) t9).length=m∧wr.ownsRow W3.heap.size 28 2 (.slice q m c) m ((nxO n (x.outs.take k) t9).flatMap asC)∧Below W3.heap.size W3 wr∧wr.heap[b5]?=some (.cells #[.string ⟨nm.toArray⟩,.slice pi ni ci,.slice pc nc cc,.string ⟨wr9.toArray⟩,.slice po no co] 41 (0,0)))) (fun _ v16 _=>no - (intOf v16).toNat)
           case atStart=>exact ⟨0,0,c,q,rfl,rfl,Nat.zero_le _,Nat.zero_le _,rfl,HR6.out⟩
           case round=>
            clear HR6
            obtain ⟨k,m2,c2,q2',rfl,rfl,hk,hm2,HS⟩:=hrel
            obtain ⟨⟨⟨q0,q1,q2,q3⟩,⟨t0,t1⟩⟩,-,h40,-⟩:=HC.out wr HS.out.2.2.1
            have e5:=(cellsZ HS.out.2.2.2).1
            have d4:wr.cell? ⟨b5,4,none⟩=some (.slice po no co):=by rw [e5];rfl
            have hli:=HX.out.2.2.2.2.2.2.2.2.2.below h40
            clear q0 q2 t0 t1 e5
            by_cases hlt3:k < no
            ·as_aux_lemma=>
              obtain ⟨o,hxo⟩:∃ o,x.outs[k]?=some o:=⟨_,List.getElem?_eq_getElem (by have:=HOU.out.1;omega)⟩
              have hiso:=HOU.out.2.2.1 o (List.mem_of_getElem? hxo)
              obtain ⟨qk,hqk⟩:∃ qk:Nat,o=(qk:Int):=⟨o.toNat,by have:=hiso.1;omega⟩
              subst hqk
              have hqn:qk < np:=by have:=hiso.2.1;have:=HV.out;omega
              obtain ⟨go,oo,e9,w0⟩:=hli k _ hxo
              subst e9
              obtain ⟨qg2,mg2,dg2,hgc,hgl⟩:=HGD.out qk hqn
              have v0:=hgc wr h40
              have HL:=hideL (hgl wr h40 t9 HOU.out.2.2.2)
              obtain ⟨lb2,hlb2⟩:∃ lb2,lets (grdAt n (qk:Int)) t9=lb2:=⟨_,rfl⟩
              rw [hlb2] at HL
              have HLB:=hideL hlb2
              have HX7:=hideL hxo
              have y2:(0:Int)≤(k:Int):=by omega
              have y3:(k:Int) < (no:Int):=by omega
              have y4:(0:Int)≤(qk:Int):=by omega
              have y5:(qk:Int) < (ng:Int):=by have:=HZ.out.2.2.2.2.2.2.2;omega
              have y6:(qk:Int) < (np:Int):=by omega
              have y7:¬(qk:Int) < 0:=by omega
              have y8:¬(qk:Int) ≥ (np:Int):=by omega
              have H40:=hideL h40
              clear hxo hiso hgc hgl hlb2 hli h40
              go_wp2_with fail
              refine (HL.out).mono ?_
              rintro e W7 ⟨rfl,b7⟩
              have c7:Below W3.heap.size W3 W7:=bel0Z HS.out.2.2.1 b7
              have hk7:=keepZ b7 HS.out.2.2.2
              have c27:Below W2.heap.size W2 W7:=bel0Z H40.out b7
              clear q1 q3 w0 v0 d4
              cases lb2 with
              | false=>
               have HS9:Hid ((nxO n (x.outs.take (k+1)) t9).length=m2∧W7.ownsRow W3.heap.size 28 2 (.slice q2' m2 c2) m2 ((nxO n (x.outs.take (k+1)) t9).flatMap asC)∧Below W3.heap.size W3 W7∧W7.heap[b5]?=some (.cells #[.string ⟨nm.toArray⟩,.slice pi ni ci,.slice pc nc cc,.string ⟨wr9.toArray⟩,.slice (some ⟨go,oo,none⟩) no co] 41 (0,0))):=by
                rw [nxO_no HX7.out HLB.out]
                exact ⟨HS.out.1,own_belZ HS.out.2.1 b7,c7,hk7⟩
               clear b7 c7 c27 hk7
               go_wp2_with fail
               go_roundw
               case rel=>exact ⟨k+1,m2,c2,q2',rfl,by go_num,by omega,by omega,HS9⟩
               case measure=>simp [intOf];omega
              | true=>
               have hyes:=nxO_yes HX7.out HLB.out
               obtain ⟨m1,hm1⟩:∃ m1,m2+1=m1:=⟨_,rfl⟩
               have ho7:=own_belZ HS.out.2.1 b7
               obtain ⟨q7,c7n,W8,hr8,o8,b8,kp8,-⟩:=pushA (x:=(qk:Int)) (t:=t9) ho7 c7.size hm1 (by have:=HOU.out.2.1;omega)
               have hk8:=kp8 b5 _ hk7 (own_ne ho7 hk7 (by decide))
               have c8':Below W3.heap.size W3 W8:=c7.trans b8
               have c28:Below W2.heap.size W2 W8:=c27.trans (b8.mono HC3.out.size)
               obtain ⟨⟨⟨q0,q1,q2,q3⟩,⟨t0,t1⟩⟩,-,-,-⟩:=HC.out W8 c8'
               have v3:=HPT.out qk hqn W8 c28
               obtain ⟨lk9,hlk9⟩:∃ lk9,(portAt n (qk:Int)).lk=lk9:=⟨_,rfl⟩
               rw [hlk9] at v3
               have hlen:(nxO n (x.outs.take k) t9++[((qk:Int),t9)]).length=m1:=by rw [List.length_append,HS.out.1,List.length_singleton,hm1]
               by_cases hl:0≤lk9
               ·have hov:ovS n ((qk:Int),t9)=[(lk9,t9)]:=by
                 unfold ovS
                 simp only [hlk9]
                 rw [if_pos hl]
                obtain ⟨m3,hm3⟩:∃ m3,m1+1=m3:=⟨_,rfl⟩
                obtain ⟨q8,c8n,W9,hr9,o9,b9,kp9,-⟩:=pushA (x:=lk9) (t:=t9) o8 c8'.size hm3 (by have:=HOU.out.2.1;omega)
                have hk9:=kp9 b5 _ hk8 (own_ne o8 hk8 (by decide))
                have HS9:Hid ((nxO n (x.outs.take (k+1)) t9).length=m3∧W9.ownsRow W3.heap.size 28 2 (.slice q8 m3 c8n) m3 ((nxO n (x.outs.take (k+1)) t9).flatMap asC)∧Below W3.heap.size W3 W9∧W9.heap[b5]?=some (.cells #[.string ⟨nm.toArray⟩,.slice pi ni ci,.slice pc nc cc,.string ⟨wr9.toArray⟩,.slice (some ⟨go,oo,none⟩) no co] 41 (0,0))):=by
                 rw [hyes,hov]
                 exact ⟨by rw [List.length_append,hlen,List.length_singleton,hm3],o9,c8'.trans b9,hk9⟩
                have hm9:m3≤2*(k+1):=by omega
                have hl9:lk9 ≥ 0:=hl
                clear hyes o8 b8 b7 c7 c27 c8' c28 hov o9 b9 hlk9 hl hlen hm1 hm3 q0 q2 q3 t0 t1 hk7 hk8 hk9 kp8 kp9 ho7
                go_upto_region 30 with (at_builtin;refine wpList_runZ rfl _ _ _ rfl rfl rfl hr8 ?_)
                clear hr8
                go_wp2_with (at_builtin;refine wpList_runZ rfl _ _ _ rfl rfl rfl hr9 ?_)
                go_roundw
                case rel=>exact ⟨k+1,m3,c8n,q8,rfl,by go_num,by omega,hm9,HS9⟩
                case measure=>simp [intOf];omega
               ·have hov:ovS n ((qk:Int),t9)=[]:=by
                 unfold ovS
                 simp only [hlk9]
                 rw [if_neg hl]
                have HS9:Hid ((nxO n (x.outs.take (k+1)) t9).length=m1∧W8.ownsRow W3.heap.size 28 2 (.slice q7 m1 c7n) m1 ((nxO n (x.outs.take (k+1)) t9).flatMap asC)∧Below W3.heap.size W3 W8∧W8.heap[b5]?=some (.cells #[.string ⟨nm.toArray⟩,.slice pi ni ci,.slice pc nc cc,.string ⟨wr9.toArray⟩,.slice (some ⟨go,oo,none⟩) no co] 41 (0,0))):=by
                 rw [hyes,hov,List.append_nil]
                 exact ⟨hlen,o8,c8',hk8⟩
                have hm9:m1≤2*(k+1):=by omega
                have hl9:¬lk9 ≥ 0:=hl
                clear hyes o8 b8 b7 c7 c27 c8' c28 hov hlk9 hl hlen hm1 q0 q2 q3 t0 t1 hk7 hk8 kp8 ho7
                go_upto_region 30 with (at_builtin;refine wpList_runZ rfl _ _ _ rfl rfl rfl hr8 ?_)
                clear hr8
                go_wp2_with fail
                go_roundw
                case rel=>exact ⟨k+1,m1,c7n,q7,rfl,by go_num,by omega,hm9,HS9⟩
                case measure=>simp [intOf];omega
            ·as_aux_lemma=>
              obtain rfl:k=no:=by omega
              have y3:¬(k:Int) < (k:Int):=by omega
              have hm8:m2≤8:=by omega
              have HRW8:Hid ((wnL n ((pk:Int),h) (some (offs n b+i,x))).length=m2∧wr.ownsRow W3.heap.size 28 2 (.slice q2' m2 c2) m2 ((wnL n ((pk:Int),h) (some (offs n b+i,x))).flatMap asC)∧Below W3.heap.size W3 wr):=by
               have h9:=HS.out
               rw [List.take_of_length_le (by have:=HOU.out.1;omega)] at h9
               rw [HWN.out]
               exact ⟨h9.1,h9.2.1,h9.2.2.1⟩
              clear hli h40 HS q1 q3
              go_wp2_with fail
              go_roundw
              case rel=>exact ⟨some (offs n b+i,x),i+1,s+1,m2,c2,q2',(s:Int),rfl,by go_num,rfl,by go_num,by omega,hs9,hm8,HST9,HRW8⟩
              case measure=>simp [intOf];omega
       ·as_aux_lemma=>
         obtain rfl:i=mt:=by omega
         have j8:¬(i:Int) < (i:Int):=by omega
         have HST9:Hid (s=offs n (b+1)∧fdN st=fd∧stI n ((pk:Int),h) (b+1) 0 st):=⟨by rw [offs_succ HTB.out.1,HTB.out.2.1];exact HST.out.1,HST.out.2.1,stI_row HST.out.2.2 (fun e=>by have h9:=HTB.out.2.2.2.2.2.2 e;show (tabAt n (portAt n (pk:Int)).bx).length≤_;rw [h9,HTB.out.2.1];exact Nat.le_refl _)⟩
         clear hb2 q0 q1 q3 t0 t1 p0 p1 p2 p3
         go_wp2_with fail
         go_roundw
         case rel=>exact ⟨st,b+1,s,mw,c,q,fd,rfl,rfl,rfl,by go_num,by omega,hs,hmw,HST9,HRW⟩
         case measure=>simp [intOf];omega
     ·as_aux_lemma=>
       obtain rfl:b=nt:=by omega
       have j6:¬(b:Int) < (b:Int):=by omega
       have hEN:=stI_end (s:=((pk:Int),h)) HST.out.2.2 (by show (portAt n (pk:Int)).bx < _;rw [HZ.out.2.2.1];have:=HZ.out.2.2.2.2.2.2.1;omega)
       have hE1:E=fd:=by rw [←HE9.out.1,hEN,←HST.out.2.1]
       have hL1:wnL n ((pk:Int),h) st=L:=by rw [←HE9.out.2,hEN]
       have hmm:mw=m:=by rw [←HRW.out.1,hL1];exact HV.out.2.2.2.1
       subst hE1
       subst hmm
       have hro:RowL 2 asC wo q L:=own_rowL asC_len (by have h9:=HRW.out.2.1;rw [hL1] at h9;exact h9) HV.out.2.2.2.1
       have hse:=hideL (states_any L ql q mw cl c wo HV.out.2.2.2.1 (HRL.out wo hb2o).1 hro (by omega))
       have HBO:=hideL (HRL.out wo hb2o).2
       clear hEN hL1 hro hb2o q0 q1 q3 t0 t1 p0 p1 p2 p3
       go_wp2_with fail
       refine (hse.out).mono ?_
       rintro e W8 ⟨rfl,b8⟩
       have hKN:=hideL (HKN.out W8 (bel0Z HBO.out b8))
       have HB8:=hideL (bel0Z HBO.out b8)
       clear b8
       go_wp2_with fail
       refine (hKN.out).mono ?_
       rintro e W9 ⟨rfl,b9⟩
       have HFF:=hideL (HF.out W9 (bel0Z HB8.out b9))
       clear b9
       go_wp2_with fail
       go_ret
       exact ⟨rfl,HFF.out⟩
 ·as_aux_lemma=>
   have hR0:R≠0:=by rw [←HV.out.1];exact chk_no hP
   have hE0:E=0:=by rw [←HV.out.2.1];unfold nxE;rw [if_neg (by rw [HV.out.1];exact hR0)]
   have hL0:L=[]:=by rw [←HV.out.2.2.1];unfold nxL;rw [if_neg (by rw [HV.out.1];exact hR0)]
   have hm0:m=0:=by rw [←HV.out.2.2.2.1,hL0];rfl
   subst hE0
   subst hm0
   have hRb:(R != 0)=true:=by simpa using hR0
   have hKN:=hideL (HKN.out W2 (HRL.out W2 (Below.refl _ _)).2)
   clear hP hL0
   go_wp2_with fail
   refine (num_any R W2).mono ?_
   rintro e W3 ⟨rfl,hw⟩
   obtain rfl:W2=W3:=hw.symm
   clear hw
   go_wp2_with fail
   refine (hKN.out).mono ?_
   rintro e W4 ⟨rfl,b4⟩
   have HFF:=hideL (HF.out W4 (bel0Z (HRL.out W2 (Below.refl _ _)).2 b4))
   clear b4 q0 q1 q2 q3 t0 t1
   go_wp2_with fail
   go_ret
   exact ⟨rfl,HFF.out⟩
end Go.Proofs.YtbplhianpelmfaaGreatDoor.Nt
