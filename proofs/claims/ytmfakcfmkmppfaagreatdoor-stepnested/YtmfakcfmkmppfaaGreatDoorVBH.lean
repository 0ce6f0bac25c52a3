import Derived.Test.YtmfakcfmkmppfaaGreatDoorVBG
namespace Go.Proofs.YtmfakcfmkmppfaaGreatDoor.Nt
open Go.RowKit Go.Shelf
theorem rhas_q {bits:Int} {h c:List UInt8} (hh:okS h) (hc:za4 bits c) (h2:bits<=256) (w:World):Calls Tryz.prog 116 #[.string ⟨c.toArray⟩,.string ⟨h.toArray⟩] w fun e w'=>e=.returned (.bool (Tn.hasB c h))/\Below w.heap.size w w':=by
 have hl:=hc.1;have h9:=Tn.rHas_any ⟨c.toArray⟩ ⟨h.toArray⟩ w (by show c.toArray.size<=_;simp;omega) (by show h.toArray.size<=_;unfold okS at hh;unfold maxLen;simp;omega);refine h9.mono ?_;rintro e w' ⟨he,k,rfl⟩;exact ⟨he,za1 k (Below.refl _ _)⟩
set_option maxRecDepth 100000 in
set_option maxHeartbeats 16000000 in
theorem zmz (bits:Int) (L:List (List UInt8)) (p:Option Addr) (n c:Nat) (h:List UInt8) (w:World) (hn:L.length=n) (hL:LS w p L) (hc:∀ x∈L,za4 bits x) (h2:bits<=256) (hh:okS h) (hN:n<=140737488351232) :
  Calls Tryz.prog 104 #[.slice p n c,.string ⟨h.toArray⟩] w fun e w'=>e=.returned (.bool (zb0 L h))/\Below w.heap.size w w':=by
 have HL:Hid (L.length=n/\∀ U,Below w.heap.size w U->LS U p L):=⟨hn,fun U hU=>hL.below hU⟩;have HH:Hid (∀ x∈L,∀ U:World,Calls Tryz.prog 116 #[.string ⟨x.toArray⟩,.string ⟨h.toArray⟩] U fun e w'=>e=.returned (.bool (Tn.hasB x h))/\Below U.heap.size U w'):=fun x hx U=>rhas_q hh (hc x hx) h2 U;clear hn hL hc h2 hh
 go_enter Tryz.func104,Tryz.ntmps104
 go_wp2_with fail
 go_loopw [5] (fun vk wr=>∃ k:Nat,vk=.int .i64 (k:Int)/\k<=n/\Hid (Below w.heap.size w wr/\∀ (i:Nat) c,i < k->L[i]?=some c->Tn.hasB c h=false)) (fun vk _=>n - (intOf vk).toNat)
 case atStart=>exact ⟨0,rfl,Nat.zero_le _,Below.refl _ _,fun i l hi=>by omega⟩
 case round=>
  obtain ⟨k,rfl,hk,HS⟩:=hrel
  by_cases hlt:k < n
  ·obtain ⟨x,hx⟩:∃ x,L[k]?=some x:=⟨_,List.getElem?_eq_getElem (by have:=HL.out.1;omega)⟩
   obtain ⟨g,o,e9,u0⟩:=HL.out.2 wr HS.out.1 k x hx;subst e9;have HX:=zab hx;have HC:Hid (∀ U:World,Calls Tryz.prog 116 #[.string ⟨x.toArray⟩,.string ⟨h.toArray⟩] U fun e w'=>e=.returned (.bool (Tn.hasB x h))/\Below U.heap.size U w'):=HH.out x (List.mem_of_getElem? hx);obtain ⟨b,hb⟩:=ex (Tn.hasB x h);rw [hb] at HC;have HB:=zab hb;have j0:(0:Int)<=(k:Int):=by omega
   have j1:(k:Int) < (n:Int):=by omega
   clear hx hb
   go_wp2_with fail
   refine (HC.out wr).mono ?_;rintro e W3 ⟨rfl,b3⟩;have c3:=zac HS.out.1 b3;cases b with
   | true=>
    have HFIN:Hid (zb0 L h=true/\Below w.heap.size w W3):=⟨zls HX.out HB.out,c3⟩;clear u0 b3 c3
    go_wp2_with fail
    go_ret
    exact ⟨by rw [HFIN.out.1];rfl,HFIN.out.2⟩
   | false=>
    have HS9:Hid (Below w.heap.size w W3/\∀ (i:Nat) c,i < k+1->L[i]?=some c->Tn.hasB c h=false):=⟨c3,fun i c hi hc=>by
     by_cases e:i=k
     ·subst e;rw [HX.out] at hc;obtain rfl:=Option.some.inj hc;exact HB.out
     ·exact HS.out.2 i c (by omega) hc⟩
    clear u0 b3 c3
    go_wp2_with fail
    go_roundw
    case rel=>exact ⟨k+1,by go_num,by omega,HS9⟩
    case measure=>simp [intOf];omega
  ·obtain rfl:k=n:=by omega
   have j1:¬(k:Int) < (k:Int):=by omega
   have HFIN:Hid (zb0 L h=false/\Below w.heap.size w wr):=⟨zr4 (fun i x hx=>HS.out.2 i x (by have:=(List.getElem?_eq_some_iff.1 hx).1;have:=HL.out.1;omega) hx),HS.out.1⟩
   go_wp2_with fail
   go_ret
   exact ⟨by rw [HFIN.out.1];rfl,HFIN.out.2⟩
set_option maxRecDepth 100000 in
set_option maxHeartbeats 16000000 in
theorem din_any (L:List Int) (p:Option Addr) (n c:Nat) (q:Int) (w:World) (hn:L.length=n) (hL:LI w p L) (hN:n<=140737488351232) :
  Calls Tryz.prog 103 #[.slice p n c,.int .i64 q] w fun e w'=>e=.returned (.bool (decide (q∈L)))/\Below w.heap.size w w':=by
 have HL:Hid (L.length=n/\LI w p L):=⟨hn,hL⟩;clear hn hL
 go_enter Tryz.func103,Tryz.ntmps103
 go_wp2_with fail
 go_loopw [5] (fun vk wr=>∃ k:Nat,vk=.int .i64 (k:Int)/\k<=n/\Hid (w=wr)/\Hid (∀ (i:Nat) x,i < k->L[i]?=some x->x≠q)) (fun vk _=>n - (intOf vk).toNat)
 case atStart=>exact ⟨0,rfl,Nat.zero_le _,by first | rfl | trivial,fun i l hi=>by omega⟩
 case round=>
  obtain ⟨k,rfl,hk,HWR,HS⟩:=hrel;obtain rfl:wr=w:=HWR.out.symm
  by_cases hlt:k < n
  ·obtain ⟨x,hx⟩:∃ x,L[k]?=some x:=⟨_,List.getElem?_eq_getElem (by have:=HL.out.1;omega)⟩
   obtain ⟨g,o,e9,u0⟩:=HL.out.2 k x hx;subst e9;have HX:=zab hx;have j0:(0:Int)<=(k:Int):=by omega
   have j1:(k:Int) < (n:Int):=by omega
   clear hx
   by_cases hq:x=q
   ·subst hq
    have HFIN:Hid (decide (x∈L)=true):=decide_eq_true (List.mem_of_getElem? HX.out)
    go_wp2_with fail
    go_ret
    exact ⟨by rw [HFIN.out];rfl,Below.refl _ _⟩
   ·have hq9:(x==q)=false:=by simpa using hq
    have HS9:Hid (∀ (i:Nat) x,i < k+1->L[i]?=some x->x≠q):=(fun i y hi hy=>by
     by_cases e:i=k
     ·subst e;rw [HX.out] at hy;obtain rfl:=Option.some.inj hy;exact hq
     ·exact HS.out i y (by omega) hy)
    clear hq
    go_wp2_with fail
    go_roundw
    case rel=>exact ⟨k+1,by go_num,by omega,by first | rfl | trivial,HS9⟩
    case measure=>simp [intOf];omega
  ·obtain rfl:k=n:=by omega
   have j1:¬(k:Int) < (k:Int):=by omega
   have HFIN:Hid (decide (q∈L)=false):=decide_eq_false (fun hm=>by
    obtain ⟨i,hi⟩:=List.getElem?_of_mem hm;exact HS.out i q (by have:=(List.getElem?_eq_some_iff.1 hi).1;have:=HL.out.1;omega) hi rfl)
   go_wp2_with fail
   go_ret
   exact ⟨by rw [HFIN.out];rfl,Below.refl _ _⟩
set_option maxRecDepth 100000 in
set_option maxHeartbeats 16000000 in
theorem zkc (bits:Int) (G:List NG) (p:Option Addr) (m c:Nat) (h:List UInt8) (w:World) (hm:G.length=m) (hG:LG w p G) (hc:∀ l∈G,zb1 bits l.cubes) (h2:bits<=256) (hh:okS h) (hM:m<=140737488351232) :
  Calls Tryz.prog 88 #[.slice p m c,.string ⟨h.toArray⟩] w fun e w'=>e=.returned (.bool (zfm G h))/\Below w.heap.size w w':=by
 have HL:Hid (G.length=m/\∀ U,Below w.heap.size w U->LG U p G):=⟨hm,fun U hU=>hG.below hU⟩;have HH:Hid (∀ l∈G,∀ (pc:Option Addr) (nc cc:Nat) (U:World),l.cubes.length=nc->LS U pc l.cubes->Calls Tryz.prog 104 #[.slice pc nc cc,.string ⟨h.toArray⟩] U fun e w'=>e=.returned (.bool (zb0 l.cubes h))/\Below U.heap.size U w'):=fun l hl pc nc cc U hn hL=>zmz bits l.cubes pc nc cc h U hn hL (hc l hl).2 h2 hh (by have:=(hc l hl).1;omega);obtain ⟨bz,hbz⟩:=ex (((m:Int)==0));have HBZ:Hid (G.isEmpty=bz):=by
  rw [<-hbz,<-hm];cases G with
  | nil=>rfl
  | cons x G=>
   show false=(((x :: G).length:Int)==0);rw [List.length_cons]
   symm
   rw [beq_eq_false_iff_ne];omega
 clear hm hG hc h2 hh
 go_enter Tryz.func88,Tryz.ntmps88
 go_wp2_with fail
 go_loopw [5] (fun vk wr=>∃ k:Nat,vk=.int .i64 (k:Int)/\k<=m/\Hid (Below w.heap.size w wr/\∀ (i:Nat) l,i < k->G[i]?=some l->zb0 l.cubes h=false)) (fun vk _=>m - (intOf vk).toNat)
 case atStart=>exact ⟨0,rfl,Nat.zero_le _,Below.refl _ _,fun i l hi=>by omega⟩
 case round=>
  obtain ⟨k,rfl,hk,HS⟩:=hrel
  by_cases hlt:k < m
  ·obtain ⟨x,hx⟩:∃ x,G[k]?=some x:=⟨_,List.getElem?_eq_getElem (by have:=HL.out.1;omega)⟩
   obtain ⟨g,o,pc,cc,e9,u0,u1,hls,-⟩:=HL.out.2 wr HS.out.1 k x hx;subst e9;obtain ⟨nc,hnc⟩:=ex x.cubes.length;rw [hnc] at u1;have HX:=zab hx;have HC:Hid (Calls Tryz.prog 104 #[.slice pc nc cc,.string ⟨h.toArray⟩] wr fun e w'=>e=.returned (.bool (zb0 x.cubes h))/\Below wr.heap.size wr w'):=HH.out x (List.mem_of_getElem? hx) pc nc cc wr hnc hls;obtain ⟨b,hb⟩:=ex (zb0 x.cubes h);rw [hb] at HC;have HB:=zab hb;have HK:Hid (∀ U,Below wr.heap.size wr U->U.cell? ⟨g,o+k*2,none⟩=some (.bool x.pm)):=fun U hU=>zao hU u0;have j0:(0:Int)<=(k:Int):=by omega
   have j1:(k:Int) < (m:Int):=by omega
   clear hx hb hls hnc
   go_wp2_with fail
   refine (HC.out).mono ?_;rintro e W3 ⟨rfl,b3⟩;have c3:=zac HS.out.1 b3;clear u0 u1;cases b with
   | true=>
    have u0:=HK.out W3 b3;have HFIN:Hid (zfm G h=x.pm/\Below w.heap.size w W3):=⟨by
     unfold zfm;rw [zmx (f:=fun l=>zb0 l.cubes h) HX.out HS.out.2 HB.out],c3⟩
    clear b3 c3
    go_wp2_with fail
    go_ret
    exact ⟨by rw [HFIN.out.1];rfl,HFIN.out.2⟩
   | false=>
    have HS9:Hid (Below w.heap.size w W3/\∀ (i:Nat) l,i < k+1->G[i]?=some l->zb0 l.cubes h=false):=⟨c3,fun i l hi hc=>by
     by_cases e:i=k
     ·subst e;rw [HX.out] at hc;obtain rfl:=Option.some.inj hc;exact HB.out
     ·exact HS.out.2 i l (by omega) hc⟩
    clear b3 c3
    go_wp2_with fail
    go_roundw
    case rel=>exact ⟨k+1,by go_num,by omega,HS9⟩
    case measure=>simp [intOf];omega
  ·obtain rfl:k=m:=by omega
   have j1:¬(k:Int) < (k:Int):=by omega
   have HFIN:Hid (zfm G h=bz/\Below w.heap.size w wr):=⟨by
    unfold zfm;rw [zim (f:=fun l=>zb0 l.cubes h) (fun i x hx=>HS.out.2 i x (by have:=(List.getElem?_eq_some_iff.1 hx).1;have:=HL.out.1;omega) hx)];exact HBZ.out,HS.out.1⟩
   go_wp2_with fail
   go_ret
   exact ⟨by rw [HFIN.out.1];rfl,HFIN.out.2⟩
def ADQ (r:Option (Nat×NE)) (w:World) (e:Ending) (w':World):Prop:=Below w.heap.size w w'/\match r with
 | some (k,x)=>∃ pi ci pc cc po co,e=.returned (.tuple #[.int .i64 (k:Int),.agg #[.string ⟨x.nm.toArray⟩,.slice pi x.ins.length ci,.slice pc x.cubes.length cc,.string ⟨x.wr.toArray⟩,.slice po x.outs.length co]])/\LI w' po x.outs
 | none=>e=.returned (.tuple #[.int .i64 (-1),.agg #[.string ⟨#[]⟩,.slice none 0 0,.slice none 0 0,.string ⟨#[]⟩,.slice none 0 0]])
theorem zkx (tmps:Array Value) (W:World) (b:Nat) (v0 v1 v2 v3 v4:Value) (u:Value) (h5:tmps[4]?.getD undef=u) (h:tmps[5]?.getD undef=.pointer (some ⟨b,0,none⟩)) (hb:W.heap[b]?=some (.cells #[v0,v1,v2,v3,v4] 89 (0,0))) :
  (results Tryz.f86 tmps).run Tryz.prog W=.ok (.tuple #[u,.agg #[v0,v1,v2,v3,v4]]) W:=by
 have h1:=(zaf hb).1;have c0:=h1 0;have c1:=h1 1;have c2:=h1 2;have c3:=h1 3;have c4:=h1 4;simp at c0 c1 c2 c3 c4;simp [results,h,h5,c0,c1,c2,c3,c4,go_sem]
set_option maxRecDepth 100000 in
set_option maxHeartbeats 16000000 in
theorem dapp_any (n:NN) (v:NV) (p:Int) (h:List UInt8) (w:World) (hN:LN w n v) (hV:NetP n) (hp0:0<=p) (hp1:p < (n.ports.length:Int)) (hh:okS h) :
  Calls Tryz.prog 86 #[.agg (nnA n v),.agg (asC (p,h)).toArray] w (ADQ (zfu n p h) w):=by
 have hE:(asC (p,h)).toArray=#[.int .i64 p,.string ⟨h.toArray⟩]:=rfl;rw [hE];clear hE;have hlt:=fun (G:List NG) (q:Option Addr) (m c:Nat) (U:World) (hm:G.length=m) (hG:LG U q G) (hc:∀ l∈G,zb1 n.bits l.cubes) (hM:m<=140737488351232)=>zkc n.bits G q m c h U hm hG hc hV.bits.2 hh hM;have hhs:=fun (L:List (List UInt8)) (q:Option Addr) (m c:Nat) (U:World) (hm:L.length=m) (hL:LS U q L) (hc:∀ x∈L,za4 n.bits x) (hM:m<=140737488351232)=>zmz n.bits L q m c h U hm hL hc hV.bits.2 hh hM;obtain ⟨pp,cp,pt,ct,pg,cg⟩:=v;unfold nnA;simp only;obtain ⟨hx1,hx2⟩:=hV.port hp0 hp1;obtain ⟨ht1,ht2⟩:=hV.tab hx2.2.1 hx2.2.2.1;obtain ⟨hg1,hg2⟩:=hV.grd hp0 hp1;have hb1:=hx2.2.2.1;obtain ⟨pk,hpk⟩:∃ pk:Nat,p=(pk:Int):=⟨p.toNat,by omega⟩;subst hpk;obtain ⟨bk,hbk⟩:∃ bk:Nat,(zal n (pk:Int)).bx=(bk:Int):=⟨(zal n (pk:Int)).bx.toNat,by have:=hx2.2.1;omega⟩;have hAE:zfu n (pk:Int) h=if zfm (zcv n (pk:Int)) h=true then zkk (zj8 (pk:Int) h) (ze8 n (bk:Int)) (zd8 n bk) else none:=by
  unfold zfu;rw [hbk,Int.toNat_natCast]
 rw [hbk] at ht1 ht2 hb1;rw [Int.toNat_natCast] at hx1 ht1 hg1;obtain ⟨R,hR⟩:=ex (zfu n (pk:Int) h);obtain ⟨T,hTe⟩:=ex (ze8 n (bk:Int));obtain ⟨G,hGe⟩:=ex (zcv n (pk:Int));rw [hTe] at ht1 ht2 hAE;rw [hGe] at hg1 hg2 hAE;obtain ⟨gp,op,e1,-,a1',-,-⟩:=hN.1 pk _ hx1;simp only at e1;subst e1;obtain ⟨gt,ot,qt,dt,e2,t0',lt0,-⟩:=hN.2.2.1 bk _ ht1;simp only at e2;subst e2;obtain ⟨gg,og,qg,dg,e3,g0',lg0,-⟩:=hN.2.2.2.2.1 pk _ hg1;simp only at e3;subst e3;rw [hbk] at a1';obtain ⟨np,hnp⟩:=ex n.ports.length;obtain ⟨nt,hnt⟩:=ex n.tabs.length;obtain ⟨ng,hng⟩:=ex n.grds.length;obtain ⟨bits,hbits⟩:=ex n.bits;obtain ⟨m,hm⟩:=ex T.length;obtain ⟨mg,hmg⟩:=ex G.length;rw [hm] at t0';rw [hmg] at g0';have htot:m<=256:=by
  have h1:=hV.2.2.1;have h2:T.length<=zhj n:=zbn (List.mem_map.2 ⟨T,List.mem_of_getElem? ht1,rfl⟩);omega
 have htog:mg<=64:=by
  have h1:=hV.2.1;have h2:G.length<=zhk n:=zbn (List.mem_map.2 ⟨G,List.mem_of_getElem? hg1,rfl⟩);omega
 have hpn:pk < np:=by rw [<-hnp];exact (List.getElem?_eq_some_iff.1 hx1).1
 have hpg:pk < ng:=by rw [<-hng];exact (List.getElem?_eq_some_iff.1 hg1).1
 have hbt:bk < nt:=by rw [<-hnt];exact (List.getElem?_eq_some_iff.1 ht1).1
 have hts:∀ (i:Nat),i < bk->∃ q c k,(zd8 n (i+1)=zd8 n i+k/\k<=256)/\∀ U,Below w.heap.size w U->U.cell? ⟨gt,ot+i,none⟩=some (.slice q k c):=fun i hi=>by
  obtain ⟨t,ht⟩:∃ t,n.tabs[i]?=some t:=⟨_,List.getElem?_eq_getElem (by omega)⟩;obtain ⟨g9,o9,q,c,e9,c9,-,-⟩:=hN.2.2.1 i t ht;simp only [Option.some.injEq,Addr.mk.injEq] at e9;obtain ⟨rfl,rfl,-⟩:=e9;have h2:t.length<=zhj n:=zbn (List.mem_map.2 ⟨t,List.mem_of_getElem? ht,rfl⟩);have h1:=hV.2.2.1;exact ⟨q,c,t.length,⟨zgo ht,by omega⟩,fun U hU=>zao hU c9⟩
 have hof:∀ i,zd8 n i<=256:=fun i=>Nat.le_trans (zlb n i) hV.2.2.1;rw [hnp,hnt,hng,hbits,hR];obtain ⟨B,hB⟩:=ex w.heap.size;obtain ⟨b2,hb2⟩:=ex (w.heap.size+1);obtain ⟨b3,hb3⟩:=ex (w.heap.size+1+1);obtain ⟨W1,hW1⟩:=ex (((w.alloc (.cells #[.int .i64 bits,.slice (some ⟨gp,op,none⟩) np cp,.slice (some ⟨gt,ot,none⟩) nt ct,.slice (some ⟨gg,og,none⟩) ng cg] 26)).alloc (.cells #[.int .i64 (pk:Int),.string ⟨h.toArray⟩] 28)).alloc (.cells #[.string ⟨#[]⟩,.slice none 0 0,.slice none 0 0,.string ⟨#[]⟩,.slice none 0 0] 89));have hz2:(w.alloc (.cells #[.int .i64 bits,.slice (some ⟨gp,op,none⟩) np cp,.slice (some ⟨gt,ot,none⟩) nt ct,.slice (some ⟨gg,og,none⟩) ng cg] 26)).heap.size=w.heap.size+1:=Array.size_push _;have hz3:((w.alloc (.cells #[.int .i64 bits,.slice (some ⟨gp,op,none⟩) np cp,.slice (some ⟨gt,ot,none⟩) nt ct,.slice (some ⟨gg,og,none⟩) ng cg] 26)).alloc (.cells #[.int .i64 (pk:Int),.string ⟨h.toArray⟩] 28)).heap.size=w.heap.size+1+1:=by
  show ((w.heap.push _).push _).size=_;rw [Array.size_push,Array.size_push]
 have b1:Below w.heap.size w W1:=by rw [<-hW1];exact zah (zah (zah (Below.refl _ _) _) _) _
 have k1:W1.heap[B]?=some (.cells #[.int .i64 bits,.slice (some ⟨gp,op,none⟩) np cp,.slice (some ⟨gt,ot,none⟩) nt ct,.slice (some ⟨gg,og,none⟩) ng cg] 26 (0,0)):=by rw [<-hW1,<-hB];exact zae (zah (zah (Below.refl _ _) _) _) (zaa _ _)
 have k2:W1.heap[b2]?=some (.cells #[.int .i64 (pk:Int),.string ⟨h.toArray⟩] 28 (0,0)):=by rw [<-hW1,<-hb2,<-hz2];exact zae (zah (Below.refl _ _) _) (zaa _ _)
 have k3:W1.heap[b3]?=some (.cells #[.string ⟨#[]⟩,.slice none 0 0,.slice none 0 0,.string ⟨#[]⟩,.slice none 0 0] 89 (0,0)):=by rw [<-hW1,<-hb3,<-hz3];exact zaa _ _
 have HC:Hid (∀ U,Below W1.heap.size W1 U->(U.cell? ⟨B,0,none⟩=some (.int .i64 bits)/\U.cell? ⟨B,1,none⟩=some (.slice (some ⟨gp,op,none⟩) np cp)/\U.cell? ⟨B,2,none⟩=some (.slice (some ⟨gt,ot,none⟩) nt ct)/\U.cell? ⟨B,3,none⟩=some (.slice (some ⟨gg,og,none⟩) ng cg))/\(U.cell? ⟨b2,0,none⟩=some (.int .i64 (pk:Int))/\U.cell? ⟨b2,1,none⟩=some (.string ⟨h.toArray⟩))/\U.cell? ⟨gp,op+pk*4+1,none⟩=some (.int .i64 (bk:Int))/\U.cell? ⟨gg,og+pk,none⟩=some (.slice qg mg dg)/\U.cell? ⟨gt,ot+bk,none⟩=some (.slice qt m dt)):=fun U hU=>by
  have e1:=(zaf (zae hU k1)).1;have e2:=(zaf (zae hU k2)).1;exact ⟨⟨by rw [e1];rfl,by rw [e1];rfl,by rw [e1];rfl,by rw [e1];rfl⟩,⟨by rw [e2];rfl,by rw [e2];rfl⟩,zao (zac b1 hU) a1',zao (zac b1 hU) g0',zao (zac b1 hU) t0'⟩
 have HZ:Hid (∀ U,Below W1.heap.size W1 U->U.heap[b3]?=some (.cells #[.string ⟨#[]⟩,.slice none 0 0,.slice none 0 0,.string ⟨#[]⟩,.slice none 0 0] 89 (0,0))):=fun U hU=>zae hU k3;have HZ2:Hid (∀ U,Below W1.heap.size W1 U->U.heap[b2]?=some (.cells #[.int .i64 (pk:Int),.string ⟨h.toArray⟩] 28 (0,0))):=fun U hU=>zae hU k2;have HNE:Hid (b2≠b3):=by show _≠_;omega
 have HTS:Hid (∀ (i:Nat),i < bk->∃ q c k,(zd8 n (i+1)=zd8 n i+k/\k<=256)/\∀ U,Below W1.heap.size W1 U->U.cell? ⟨gt,ot+i,none⟩=some (.slice q k c)):=fun i hi=>by
  obtain ⟨q,c,k,h1,h2⟩:=hts i hi;exact ⟨q,c,k,h1,fun U hU=>h2 U (zac b1 hU)⟩
 have HLB:Hid (∀ U,Below W1.heap.size W1 U->Calls Tryz.prog 88 #[.slice qg mg dg,.string ⟨h.toArray⟩] U fun e w'=>e=.returned (.bool (zfm G h))/\Below U.heap.size U w'):=fun U hU=>hlt G qg mg dg U hmg (lg0.below (zac b1 hU)) hg2.1 (by omega);have HLE:Hid (LE w qt T):=lt0;have HHS:Hid (∀ (L:List (List UInt8)) (q:Option Addr) (m c:Nat) (U:World),L.length=m->LS U q L->(∀ x∈L,za4 n.bits x)->m<=140737488351232->Calls Tryz.prog 104 #[.slice q m c,.string ⟨h.toArray⟩] U fun e w'=>e=.returned (.bool (zb0 L h))/\Below U.heap.size U w'):=hhs;have HV:Hid (NetP n/\zg9 n (bk:Int) T/\T.length=m/\(R=if zfm G h=true then zkk (zj8 (pk:Int) h) T (zd8 n bk) else none)/\∀ i,zd8 n i<=256):=⟨hV,ht2,hm,by rw [<-hR];exact hAE,hof⟩
 have HB:=zab hB;have HB2:=zab hb2;have HB3:=zab hb3;have HW1:=zab hW1;have HBB:Hid (w.heap.size<=b3):=by show _<=_;omega
 have HBW:Hid (∀ U,Below W1.heap.size W1 U->Below w.heap.size w U):=fun U hU=>zac b1 hU;have j0:(0:Int)<=(pk:Int):=by omega
 have j1:(pk:Int) < (np:Int):=by omega
 have j2:(pk:Int) < (ng:Int):=by omega
 have j3:(0:Int)<=(bk:Int):=by omega
 have j4:(bk:Int) < (nt:Int):=by omega
 have hm7:m<=140737488351232:=by omega
 have hbk7:bk<=140737488351232:=by have:=hV.1.2.2.1;omega
 clear hN hV hp0 hp1 hh hlt hhs hx1 hx2 ht1 ht2 hg1 hg2 hb1 hbk hAE hR hTe hGe a1' t0' lt0 g0' lg0 hnp hnt hng hbits hm hmg htot htog hpn hpg hts hof;clear hB hb2 hb3 hW1 hz2 hz3 b1 k1 k2 k3;obtain ⟨⟨q0,q1,q2,q3⟩,⟨r0,r1⟩,a1,g0,t0⟩:=HC.out W1 (Below.refl _ _)
 go_enter Tryz.func86,Tryz.ntmps86
 go_upto_region 1 with fail
 rw [HW1.out,HB3.out,HB2.out,HB.out]
 go_wp2_with fail
 clear q0 q1 q2 q3 r0 r1 a1 g0 t0
 go_loopw [7,8] (fun v7 v8 wr=>∃ i s:Nat,v7=.int .i64 (s:Int)/\v8=.int .i64 (i:Int)/\i<=bk/\s<=256/\Hid (s=zd8 n i)/\Hid (W1=wr)) (fun _ v8 _=>bk - (intOf v8).toNat)
 case atStart=>exact ⟨0,0,rfl,rfl,Nat.zero_le _,Nat.zero_le _,rfl,rfl⟩
 case round=>
  obtain ⟨i,s,rfl,rfl,hi,hs,HS,HWR⟩:=hrel;obtain ⟨wo,rfl⟩:∃ wo,wo=wr:=⟨wr,rfl⟩;obtain rfl:wo=W1:=HWR.out.symm;obtain ⟨⟨q0,q1,q2,q3⟩,⟨r0,r1⟩,a1,g0,t0⟩:=HC.out wo (Below.refl _ _)
  by_cases hlt:i < bk
  ·obtain ⟨q,c,k,⟨ho,hk⟩,hcell⟩:=HTS.out i hlt
   have u0:=hcell wo (Below.refl _ _);have HO:=zab ho;have hs9:s+k<=256:=by have:=HV.out.2.2.2.2 (i+1);have:=HS.out;omega
   have j5:(0:Int)<=(i:Int):=by omega
   have j6:(i:Int) < (nt:Int):=by omega
   have j7:(i:Int) < (bk:Int):=by omega
   have hk7:k<=140737488351232:=by omega
   clear ho hcell
   go_wp2_with fail
   go_roundw
   case rel=>exact ⟨i+1,s+k,by go_num,by go_num,by omega,hs9,by have h1:=HO.out;have h2:=HS.out;show _=_;omega,by first | rfl | trivial⟩
   case measure=>simp [intOf];omega
  ·obtain rfl:i=bk:=by omega
   have j7:¬(i:Int) < (i:Int):=by omega
   have HS7:Hid (∀ U,Below wo.heap.size wo U->U.cell? ⟨B,3,none⟩=some (.slice (some ⟨gg,og,none⟩) ng cg)/\(U.cell? ⟨b2,0,none⟩=some (.int .i64 (pk:Int))/\U.cell? ⟨b2,1,none⟩=some (.string ⟨h.toArray⟩))/\U.cell? ⟨gg,og+pk,none⟩=some (.slice qg mg dg)):=fun U hU=>by
    obtain ⟨⟨q0,q1,q2,q3⟩,⟨r0,r1⟩,a1,g0,t0⟩:=HC.out U hU;exact ⟨q3,⟨r0,r1⟩,g0⟩
   have hs0:=HS7.out wo.drew (Below.refl _ _).drew;obtain ⟨lb,hlb⟩:=ex (zfm G h);have HLB1:=HLB.out wo.drew (Below.refl _ _).drew;rw [hlb] at HLB1;have HLB1:=zab HLB1;have HLV:=zab hlb;clear q0 q1 q2 q3 r0 r1 a1 g0 t0 hlb
   go_upto_region 7 with fail
   refine wp_region_held_drew (S:=fun U=>U.cell? ⟨B,3,none⟩=some (.slice (some ⟨gg,og,none⟩) ng cg)/\(U.cell? ⟨b2,0,none⟩=some (.int .i64 (pk:Int))/\U.cell? ⟨b2,1,none⟩=some (.string ⟨h.toArray⟩))/\U.cell? ⟨gg,og+pk,none⟩=some (.slice qg mg dg)) (by kernel_rfl) hs0 (fun _=>?_);refine tk 0 (.pointer (some ⟨B,3,none⟩)) rfl hs0 ?_ ?_
   ·rintro w ⟨q3,⟨r0,r1⟩,g0⟩;go_simp
   refine tk 1 (.slice (some ⟨gg,og,none⟩) ng cg) rfl hs0 ?_ ?_
   ·rintro w ⟨q3,⟨r0,r1⟩,g0⟩;go_simp
   refine tk 2 (.pointer (some ⟨b2,0,none⟩)) rfl hs0 ?_ ?_
   ·rintro w ⟨q3,⟨r0,r1⟩,g0⟩;go_simp
   refine tk 3 (.int .i64 (pk:Int)) rfl hs0 ?_ ?_
   ·rintro w ⟨q3,⟨r0,r1⟩,g0⟩;go_simp
   refine tk 4 (.pointer (some ⟨gg,og+pk,none⟩)) rfl hs0 ?_ ?_
   ·rintro w ⟨q3,⟨r0,r1⟩,g0⟩;go_simp
   refine tk 5 (.slice qg mg dg) rfl hs0 ?_ ?_
   ·rintro w ⟨q3,⟨r0,r1⟩,g0⟩;go_simp
   refine tk 6 (.pointer (some ⟨b2,1,none⟩)) rfl hs0 ?_ ?_
   ·rintro w ⟨q3,⟨r0,r1⟩,g0⟩;go_simp
   refine tk 7 (.string ⟨h.toArray⟩) rfl hs0 ?_ ?_
   ·rintro w ⟨q3,⟨r0,r1⟩,g0⟩;go_simp
   refine rd 8 rfl fun KK hKK=>?_
   go_simp
   refine (HLB1.out).mono ?_;rintro en W3 ⟨rfl,b3'⟩;have c3:Below wo.heap.size wo W3:=zac ((Below.refl _ _).drew) b3';have hs3:=HS7.out W3 c3;clear b3'
   go_simp
   refine hKK.out _ _ hs3 (fun _=>?_);clear hKK KK;refine tk 9 (.bool lb) rfl hs3 ?_ ?_
   ·rintro w ⟨q3,⟨r0,r1⟩,g0⟩;go_simp
   refine wpAnyH_done (by kernel_rfl) ?_ _
   try simp only [List.getElem_toArray,List.getElem_cons_succ,List.getElem_cons_zero,Act.put,List.setIfInBounds_toArray,List.set_cons_zero,List.set_cons_succ]
   clear hs3;clear hs0;cases lb with
   | false=>
    have kz:=HZ.out W3 c3;have hzz:=zaf kz;have z0:W3.cell? ⟨b3,0,none⟩=some (.string ⟨#[]⟩):=by rw [hzz.1];rfl
    have f0:=hzz.2 0;have z1:W3.cell? ⟨b3,1,none⟩=some (.slice none 0 0):=by rw [hzz.1];rfl
    have f1:=hzz.2 1;have z2:W3.cell? ⟨b3,2,none⟩=some (.slice none 0 0):=by rw [hzz.1];rfl
    have f2:=hzz.2 2;have z3:W3.cell? ⟨b3,3,none⟩=some (.string ⟨#[]⟩):=by rw [hzz.1];rfl
    have f3:=hzz.2 3;have z4:W3.cell? ⟨b3,4,none⟩=some (.slice none 0 0):=by rw [hzz.1];rfl
    have f4:=hzz.2 4;obtain ⟨W9,hW9⟩:=ex ((((((W3.setCell ⟨b3,0,none⟩ (.string ⟨#[]⟩)).setCell ⟨b3,1,none⟩ (.slice none 0 0)).setCell ⟨b3,2,none⟩ (.slice none 0 0)).setCell ⟨b3,3,none⟩ (.string ⟨#[]⟩)).setCell ⟨b3,4,none⟩ (.slice none 0 0)));have HRES:Hid (W9.heap[b3]?=some (.cells #[.string ⟨#[]⟩,.slice none 0 0,.slice none 0 0,.string ⟨#[]⟩,.slice none 0 0] 89 (0,0))):=by
     rw [<-hW9];exact ((zag _ (zag _ (zag _ (zag _ (zag _ kz)))))).trans (by simp)
    have HFIN:Hid (ADQ R w (.returned (.tuple #[.int .i64 (-1),.agg #[.string ⟨#[]⟩,.slice none 0 0,.slice none 0 0,.string ⟨#[]⟩,.slice none 0 0]])) W9):=by
     have hbw:Below w.heap.size w W9:=by
      rw [<-hW9];have h0:=HBW.out W3 c3;have hle:=HBB.out;exact (((((h0.setCell hle _).setCell hle _).setCell hle _).setCell hle _).setCell hle _)
     refine ⟨hbw,?_⟩;rw [show R=none by rw [HV.out.2.2.2.1,HLV.out];rfl]
    have HW9:=zab hW9;clear hW9 kz hzz
    go_wp2_with fail
    rw [HW9.out];refine bodyPost_ret (zkx _ _ b3 _ _ _ _ _ _ rfl rfl HRES.out) rfl ?_;exact HFIN.out
   | true=>
    have HR:Hid (R=zkk (zj8 (pk:Int) h) T (zd8 n i)):=by
     show _=_;rw [HV.out.2.2.2.1,HLV.out];rfl
    have HC3:=zab c3;obtain ⟨⟨q0,q1,q2,q3⟩,⟨r0,r1⟩,a1,g0,t0⟩:=HC.out W3 c3;clear c3
    go_wp2_with fail
    clear q0 q1 q2 q3 r0 r1 a1 g0 t0
    go_loopw [11] (fun vk wx=>∃ k:Nat,vk=.int .i64 (k:Int)/\k<=m/\Hid (Below wo.heap.size wo wx/\∀ (j:Nat) e,j < k->T[j]?=some e->zj8 (pk:Int) h e=false)) (fun vk _=>m - (intOf vk).toNat)
    case atStart=>exact ⟨0,rfl,Nat.zero_le _,HC3.out,fun j e hj=>by omega⟩
    case round=>
     obtain ⟨k,rfl,hk,HK⟩:=hrel
     by_cases hlt:k < m
     ·obtain ⟨x,hx⟩:∃ x,T[k]?=some x:=⟨_,List.getElem?_eq_getElem (by have:=HV.out.2.2.1;omega)⟩
      obtain ⟨gq,oq,pi,ci,pc,cc,po,co,e9,d0,d1,d2,d3,d4,hl⟩:=HLE.out k x hx;subst e9;obtain ⟨nm,hnm⟩:∃ nm,x.nm=nm:=⟨_,rfl⟩;obtain ⟨wr9,hwr9⟩:=ex x.wr;obtain ⟨ni,hni⟩:=ex x.ins.length;obtain ⟨nc,hnc⟩:=ex x.cubes.length;obtain ⟨no,hno⟩:=ex x.outs.length;rw [hnm] at d0;rw [hni] at d1;rw [hnc] at d2;rw [hwr9] at d3;rw [hno] at d4;have hEP:=HV.out.2.1.1 x (List.mem_of_getElem? hx);have hni7:ni<=140737488351232:=by
       have h1:=zmb x.ins 0 (n.ports.length:Int) hEP.2.1.2 (fun y hy=>⟨(hEP.2.1.1 y hy).1,(hEP.2.1.1 y hy).2.1⟩) (by omega);have h2:=HV.out.1.1.2.2.2.1;omega
      have HE5:Hid (∀ U,Below w.heap.size w U->U.cell? ⟨gq,oq+k*5,none⟩=some (.string ⟨nm.toArray⟩)/\U.cell? ⟨gq,oq+k*5+1,none⟩=some (.slice pi ni ci)/\U.cell? ⟨gq,oq+k*5+2,none⟩=some (.slice pc nc cc)/\U.cell? ⟨gq,oq+k*5+3,none⟩=some (.string ⟨wr9.toArray⟩)/\U.cell? ⟨gq,oq+k*5+4,none⟩=some (.slice po no co)):=fun U hU=>⟨zao hU d0,zao hU d1,zao hU d2,zao hU d3,zao hU d4⟩;have HD:Hid (∀ U,Below wr.heap.size wr U->(U.cell? ⟨b2,0,none⟩=some (.int .i64 (pk:Int))/\U.cell? ⟨b2,1,none⟩=some (.string ⟨h.toArray⟩))/\(U.cell? ⟨gq,oq+k*5,none⟩=some (.string ⟨nm.toArray⟩)/\U.cell? ⟨gq,oq+k*5+1,none⟩=some (.slice pi ni ci)/\U.cell? ⟨gq,oq+k*5+2,none⟩=some (.slice pc nc cc)/\U.cell? ⟨gq,oq+k*5+3,none⟩=some (.string ⟨wr9.toArray⟩)/\U.cell? ⟨gq,oq+k*5+4,none⟩=some (.slice po no co))/\Below wo.heap.size wo U):=fun U hU=>⟨(HC.out U (zac HK.out.1 hU)).2.1,HE5.out U (HBW.out U (zac HK.out.1 hU)),zac HK.out.1 hU⟩;have hww:∀ U,Below wr.heap.size wr U->Below w.heap.size w U:=fun U hU=>HBW.out U (zac HK.out.1 hU);obtain ⟨bi,hbi⟩:=ex (decide ((pk:Int)∈x.ins));obtain ⟨bq,hbq⟩:=ex (zb0 x.cubes h);have HIN:Hid (∀ U,Below wr.heap.size wr U->Calls Tryz.prog 103 #[.slice pi ni ci,.int .i64 (pk:Int)] U fun e w'=>e=.returned (.bool bi)/\Below U.heap.size U w'):=fun U hU=>by
       have h9:=din_any x.ins pi ni ci (pk:Int) U hni (hl.1.below (hww U hU)) hni7;rw [hbi] at h9;exact h9
      have HHA:Hid (∀ U,Below wr.heap.size wr U->Calls Tryz.prog 104 #[.slice pc nc cc,.string ⟨h.toArray⟩] U fun e w'=>e=.returned (.bool bq)/\Below U.heap.size U w'):=fun U hU=>by
       have h9:=HHS.out x.cubes pc nc cc U hnc (hl.2.2.1.below (hww U hU)) hEP.2.2.1.2 (by have:=hEP.2.2.1.1;omega);rw [hbq] at h9;exact h9
      have HX:Hid (T[k]?=some x/\x.nm=nm/\x.wr=wr9/\x.ins.length=ni/\x.cubes.length=nc/\x.outs.length=no/\zj8 (pk:Int) h x=(bi&&bq)):=⟨hx,hnm,hwr9,hni,hnc,hno,by unfold zj8;rw [hbi,hbq]⟩;have HLO:Hid (∀ U,Below w.heap.size w U->LI U po x.outs):=fun U hU=>hl.2.2.2.2.1.below hU;have HNX:Hid ((bi&&bq)=false->∀ U,Below wo.heap.size wo U->(Below wo.heap.size wo U/\∀ (j:Nat) e,j < k+1->T[j]?=some e->zj8 (pk:Int) h e=false)):=fun hf U hU=>⟨hU,fun j e hj he=>by
       by_cases e9:j=k
       ·subst e9;rw [HX.out.1] at he;obtain rfl:=Option.some.inj he;rw [HX.out.2.2.2.2.2.2];exact hf
       ·exact HK.out.2 j e (by omega) he⟩
      have j8:(0:Int)<=(k:Int):=by omega
      have j9:(k:Int) < (m:Int):=by omega
      have hs0:(wr.drew.cell? ⟨b2,0,none⟩=some (.int .i64 (pk:Int))/\wr.drew.cell? ⟨b2,1,none⟩=some (.string ⟨h.toArray⟩))/\(wr.drew.cell? ⟨gq,oq+k*5,none⟩=some (.string ⟨nm.toArray⟩)/\wr.drew.cell? ⟨gq,oq+k*5+1,none⟩=some (.slice pi ni ci)/\wr.drew.cell? ⟨gq,oq+k*5+2,none⟩=some (.slice pc nc cc)/\wr.drew.cell? ⟨gq,oq+k*5+3,none⟩=some (.string ⟨wr9.toArray⟩)/\wr.drew.cell? ⟨gq,oq+k*5+4,none⟩=some (.slice po no co)):=by
       have h9:=HD.out wr.drew (Below.refl _ _).drew;exact ⟨h9.1,h9.2.1⟩
      clear d0 d1 d2 d3 d4 hl hww hx hnm hwr9 hni hnc hno hEP hbi hbq
      go_upto_region 14 with fail
      refine wp_region_held_drew (S:=fun U=>(U.cell? ⟨b2,0,none⟩=some (.int .i64 (pk:Int))/\U.cell? ⟨b2,1,none⟩=some (.string ⟨h.toArray⟩))/\(U.cell? ⟨gq,oq+k*5,none⟩=some (.string ⟨nm.toArray⟩)/\U.cell? ⟨gq,oq+k*5+1,none⟩=some (.slice pi ni ci)/\U.cell? ⟨gq,oq+k*5+2,none⟩=some (.slice pc nc cc)/\U.cell? ⟨gq,oq+k*5+3,none⟩=some (.string ⟨wr9.toArray⟩)/\U.cell? ⟨gq,oq+k*5+4,none⟩=some (.slice po no co))) (by kernel_rfl) hs0 (fun _=>?_);refine tk 0 (.slice (some ⟨gq,oq,none⟩) m dt) rfl hs0 ?_ ?_
      ·rintro w ⟨⟨r0,r1⟩,⟨d0,d1,d2,d3,d4⟩⟩;go_simp
      refine tk 1 (.int .i64 (k:Int)) rfl hs0 ?_ ?_
      ·rintro w ⟨⟨r0,r1⟩,⟨d0,d1,d2,d3,d4⟩⟩;go_simp
      refine tk 2 (.pointer (some ⟨gq,oq+k*5,none⟩)) rfl hs0 ?_ ?_
      ·rintro w ⟨⟨r0,r1⟩,⟨d0,d1,d2,d3,d4⟩⟩;go_simp
      refine tk 3 (.pointer (some ⟨gq,oq+k*5+1,none⟩)) rfl hs0 ?_ ?_
      ·rintro w ⟨⟨r0,r1⟩,⟨d0,d1,d2,d3,d4⟩⟩;go_simp
      refine tk 4 (.slice pi ni ci) rfl hs0 ?_ ?_
      ·rintro w ⟨⟨r0,r1⟩,⟨d0,d1,d2,d3,d4⟩⟩;go_simp
      refine tk 5 (.pointer (some ⟨b2,0,none⟩)) rfl hs0 ?_ ?_
      ·rintro w ⟨⟨r0,r1⟩,⟨d0,d1,d2,d3,d4⟩⟩;go_simp
      refine tk 6 (.int .i64 (pk:Int)) rfl hs0 ?_ ?_
      ·rintro w ⟨⟨r0,r1⟩,⟨d0,d1,d2,d3,d4⟩⟩;go_simp
      refine rd 7 rfl fun KK hKK=>?_
      go_simp
      refine (HIN.out _ (Below.refl _ _).drew).mono ?_;rintro en W4 ⟨rfl,b4⟩;have c4:Below wr.heap.size wr W4:=zac (Below.refl _ _).drew b4;have hs4:=And.intro (HD.out W4 c4).1 (HD.out W4 c4).2.1;clear b4
      go_simp
      refine hKK.out _ _ hs4 (fun _=>?_);clear hKK KK;refine tk 8 (.bool bi) rfl hs4 ?_ ?_
      ·rintro w ⟨⟨r0,r1⟩,⟨d0,d1,d2,d3,d4⟩⟩;go_simp
      cases bi with
      | false=>
       refine tq 9 rfl hs4 ?_;refine tq 10 rfl hs4 ?_;refine tq 11 rfl hs4 ?_;refine tq 12 rfl hs4 ?_;refine tq 13 rfl hs4 ?_;refine tq 14 rfl hs4 ?_;refine tq 15 rfl hs4 ?_;refine tq 16 rfl hs4 ?_;refine tk 17 (.bool false) rfl hs4 ?_ ?_
       ·rintro w ⟨⟨r0,r1⟩,⟨d0,d1,d2,d3,d4⟩⟩;go_simp
       refine tk 18 (.bool false) rfl hs4 ?_ ?_
       ·rintro w ⟨⟨r0,r1⟩,⟨d0,d1,d2,d3,d4⟩⟩;go_simp
       refine wpAnyH_done (by kernel_rfl) ?_ _
       try simp only [List.getElem_toArray,List.getElem_cons_succ,List.getElem_cons_zero,Act.put,List.setIfInBounds_toArray,List.set_cons_zero,List.set_cons_succ]
       have HK9:=zab (HNX.out rfl W4 (HD.out W4 c4).2.2);clear hs0 hs4 c4
       go_wp2_with fail
       go_roundw
       case rel=>exact ⟨k+1,by go_num,by omega,HK9⟩
       case measure=>simp [intOf];omega
      | true=>
       refine tk 9 (.slice (some ⟨gq,oq,none⟩) m dt) rfl hs4 ?_ ?_
       ·rintro w ⟨⟨r0,r1⟩,⟨d0,d1,d2,d3,d4⟩⟩;go_simp
       refine tk 10 (.int .i64 (k:Int)) rfl hs4 ?_ ?_
       ·rintro w ⟨⟨r0,r1⟩,⟨d0,d1,d2,d3,d4⟩⟩;go_simp
       refine tk 11 (.pointer (some ⟨gq,oq+k*5,none⟩)) rfl hs4 ?_ ?_
       ·rintro w ⟨⟨r0,r1⟩,⟨d0,d1,d2,d3,d4⟩⟩;go_simp
       refine tk 12 (.pointer (some ⟨gq,oq+k*5+2,none⟩)) rfl hs4 ?_ ?_
       ·rintro w ⟨⟨r0,r1⟩,⟨d0,d1,d2,d3,d4⟩⟩;go_simp
       refine tk 13 (.slice pc nc cc) rfl hs4 ?_ ?_
       ·rintro w ⟨⟨r0,r1⟩,⟨d0,d1,d2,d3,d4⟩⟩;go_simp
       refine tk 14 (.pointer (some ⟨b2,1,none⟩)) rfl hs4 ?_ ?_
       ·rintro w ⟨⟨r0,r1⟩,⟨d0,d1,d2,d3,d4⟩⟩;go_simp
       refine tk 15 (.string ⟨h.toArray⟩) rfl hs4 ?_ ?_
       ·rintro w ⟨⟨r0,r1⟩,⟨d0,d1,d2,d3,d4⟩⟩;go_simp
       refine rd 16 rfl fun KK hKK=>?_
       go_simp
       refine (HHA.out _ c4).mono ?_;rintro en W5 ⟨rfl,b5⟩;have c5:Below wr.heap.size wr W5:=zac c4 b5;have hs5:=And.intro (HD.out W5 c5).1 (HD.out W5 c5).2.1;clear b5
       go_simp
       refine hKK.out _ _ hs5 (fun _=>?_);clear hKK KK;refine tk 17 (.bool bq) rfl hs5 ?_ ?_
       ·rintro w ⟨⟨r0,r1⟩,⟨d0,d1,d2,d3,d4⟩⟩;go_simp
       refine tk 18 (.bool bq) rfl hs5 ?_ ?_
       ·rintro w ⟨⟨r0,r1⟩,⟨d0,d1,d2,d3,d4⟩⟩;go_simp
       refine wpAnyH_done (by kernel_rfl) ?_ _
       try simp only [List.getElem_toArray,List.getElem_cons_succ,List.getElem_cons_zero,Act.put,List.setIfInBounds_toArray,List.set_cons_zero,List.set_cons_succ]
       cases bq with
       | false=>
        have HK9:=zab (HNX.out rfl W5 (HD.out W5 c5).2.2);clear hs0 hs4 hs5 c4 c5
        go_wp2_with fail
        go_roundw
        case rel=>exact ⟨k+1,by go_num,by omega,HK9⟩
        case measure=>simp [intOf];omega
       | true=>
        have kz:=HZ.out W5 (HD.out W5 c5).2.2;have hzz:=zaf kz;have z0:W5.cell? ⟨b3,0,none⟩=some (.string ⟨#[]⟩):=by rw [hzz.1];rfl
        have f0:=hzz.2 0;have z1:W5.cell? ⟨b3,1,none⟩=some (.slice none 0 0):=by rw [hzz.1];rfl
        have f1:=hzz.2 1;have z2:W5.cell? ⟨b3,2,none⟩=some (.slice none 0 0):=by rw [hzz.1];rfl
        have f2:=hzz.2 2;have z3:W5.cell? ⟨b3,3,none⟩=some (.string ⟨#[]⟩):=by rw [hzz.1];rfl
        have f3:=hzz.2 3;have z4:W5.cell? ⟨b3,4,none⟩=some (.slice none 0 0):=by rw [hzz.1];rfl
        have f4:=hzz.2 4;obtain ⟨W9,hW9⟩:=ex (((((((W5.setCell ⟨b3,0,none⟩ (.string ⟨nm.toArray⟩)).setCell ⟨b3,1,none⟩ (.slice pi ni ci)).setCell ⟨b3,2,none⟩ (.slice pc nc cc)).setCell ⟨b3,3,none⟩ (.string ⟨wr9.toArray⟩)).setCell ⟨b3,4,none⟩ (.slice po no co))).drew);have HRES:Hid (W9.heap[b3]?=some (.cells #[.string ⟨nm.toArray⟩,.slice pi ni ci,.slice pc nc cc,.string ⟨wr9.toArray⟩,.slice po no co] 89 (0,0))):=by
         rw [<-hW9];exact ((zag _ (zag _ (zag _ (zag _ (zag _ kz)))))).trans (by simp)
        have hbw:Below w.heap.size w W9:=by
         rw [<-hW9];have h0:=HBW.out W5 (HD.out W5 c5).2.2;have hle:=HBB.out;exact Below.drew (((((h0.setCell hle _).setCell hle _).setCell hle _).setCell hle _).setCell hle _)
        have c6:Below wr.heap.size wr W5.drew:=zac c5 (Below.refl _ _).drew;have hs6:=And.intro (HD.out W5.drew c6).1 (HD.out W5.drew c6).2.1;have hs9:(W9.cell? ⟨b2,0,none⟩=some (.int .i64 (pk:Int))/\W9.cell? ⟨b2,1,none⟩=some (.string ⟨h.toArray⟩))/\(W9.cell? ⟨gq,oq+k*5,none⟩=some (.string ⟨nm.toArray⟩)/\W9.cell? ⟨gq,oq+k*5+1,none⟩=some (.slice pi ni ci)/\W9.cell? ⟨gq,oq+k*5+2,none⟩=some (.slice pc nc cc)/\W9.cell? ⟨gq,oq+k*5+3,none⟩=some (.string ⟨wr9.toArray⟩)/\W9.cell? ⟨gq,oq+k*5+4,none⟩=some (.slice po no co)):=by
         have h2:=HZ2.out W5 (HD.out W5 c5).2.2;have h9:W9.heap[b2]?=some (.cells #[.int .i64 (pk:Int),.string ⟨h.toArray⟩] 28 (0,0)):=by
          rw [<-hW9];show ((((((W5.setCell ⟨b3,0,none⟩ (.string ⟨nm.toArray⟩)).setCell ⟨b3,1,none⟩ (.slice pi ni ci)).setCell ⟨b3,2,none⟩ (.slice pc nc cc)).setCell ⟨b3,3,none⟩ (.string ⟨wr9.toArray⟩)).setCell ⟨b3,4,none⟩ (.slice po no co))).heap[b2]?=_;have hne:=HNE.out;rw [zby _ _ _ _ _ hne,zby _ _ _ _ _ hne,zby _ _ _ _ _ hne,zby _ _ _ _ _ hne,zby _ _ _ _ _ hne];exact h2
         have e2:=(zaf h9).1;exact ⟨⟨by rw [e2];rfl,by rw [e2];rfl⟩,HE5.out W9 hbw⟩
        have HFIN:Hid (ADQ R w (.returned (.tuple #[.int .i64 ((s:Int)+(k:Int)),.agg #[.string ⟨nm.toArray⟩,.slice pi ni ci,.slice pc nc cc,.string ⟨wr9.toArray⟩,.slice po no co]])) W9):=by
         refine ⟨hbw,?_⟩;have hhit:R=some (zd8 n i+k,x):=by
          rw [HR.out];exact zmy HX.out.1 HK.out.2 HX.out.2.2.2.2.2.2
         rw [hhit];obtain ⟨-,n1,n2,n3,n4,n5,-⟩:=HX.out;refine ⟨pi,ci,pc,cc,po,co,?_,?_⟩
         ·rw [n1,n2,n3,n4,n5,<-HS.out,Int.natCast_add]
         ·exact HLO.out W9 hbw
        have HW9:=zab hW9;have hwrp:IntKind.i64.wrap ((s:Int)+(k:Int))=(s:Int)+(k:Int):=by rw [IntKind.wrap_i64];omega
        clear hW9 kz hzz hbw c6 c4 c5 hs0 hs4 hs5
        go_upto_region 16 with fail
        refine wp_region_held_drew (S:=fun U=>(U.cell? ⟨b2,0,none⟩=some (.int .i64 (pk:Int))/\U.cell? ⟨b2,1,none⟩=some (.string ⟨h.toArray⟩))/\(U.cell? ⟨gq,oq+k*5,none⟩=some (.string ⟨nm.toArray⟩)/\U.cell? ⟨gq,oq+k*5+1,none⟩=some (.slice pi ni ci)/\U.cell? ⟨gq,oq+k*5+2,none⟩=some (.slice pc nc cc)/\U.cell? ⟨gq,oq+k*5+3,none⟩=some (.string ⟨wr9.toArray⟩)/\U.cell? ⟨gq,oq+k*5+4,none⟩=some (.slice po no co))) (by kernel_rfl) hs6 (fun _=>?_);refine tk 0 (.int .i64 (s:Int)) rfl hs6 ?_ ?_
        ·rintro w ⟨⟨r0,r1⟩,⟨d0,d1,d2,d3,d4⟩⟩;go_simp
        refine tk 1 (.int .i64 (k:Int)) rfl hs6 ?_ ?_
        ·rintro w ⟨⟨r0,r1⟩,⟨d0,d1,d2,d3,d4⟩⟩;go_simp
        refine tk 2 (.int .i64 ((s:Int)+(k:Int))) rfl hs6 ?_ ?_
        ·rintro w ⟨⟨r0,r1⟩,⟨d0,d1,d2,d3,d4⟩⟩;go_simp
        refine tk 3 (.slice (some ⟨gq,oq,none⟩) m dt) rfl hs6 ?_ ?_
        ·rintro w ⟨⟨r0,r1⟩,⟨d0,d1,d2,d3,d4⟩⟩;go_simp
        refine tk 4 (.int .i64 (k:Int)) rfl hs6 ?_ ?_
        ·rintro w ⟨⟨r0,r1⟩,⟨d0,d1,d2,d3,d4⟩⟩;go_simp
        refine tk 5 (.pointer (some ⟨gq,oq+k*5,none⟩)) rfl hs6 ?_ ?_
        ·rintro w ⟨⟨r0,r1⟩,⟨d0,d1,d2,d3,d4⟩⟩;go_simp
        refine tk 6 (.agg #[.string ⟨nm.toArray⟩,.slice pi ni ci,.slice pc nc cc,.string ⟨wr9.toArray⟩,.slice po no co]) rfl hs6 ?_ ?_
        ·rintro w ⟨⟨r0,r1⟩,⟨d0,d1,d2,d3,d4⟩⟩;go_simp
        refine tk 7 (.int .i64 ((s:Int)+(k:Int))) rfl hs6 ?_ ?_
        ·rintro w ⟨⟨r0,r1⟩,⟨d0,d1,d2,d3,d4⟩⟩;go_simp
        refine rd 8 rfl fun KK hKK=>?_
        go_simp
        rw [HW9.out];refine hKK.out _ _ hs9 (fun _=>?_);clear hKK KK;refine wpAnyH_done (by kernel_rfl) ?_ _
        try simp only [List.getElem_toArray,List.getElem_cons_succ,List.getElem_cons_zero,Act.put,List.setIfInBounds_toArray,List.set_cons_zero,List.set_cons_succ]
        clear hs6 hs9
        go_wp2_with fail
        refine bodyPost_ret (zkx _ _ b3 _ _ _ _ _ _ rfl rfl HRES.out) rfl ?_;exact HFIN.out
     ·obtain rfl:k=m:=by omega
      have j9:¬(k:Int) < (k:Int):=by omega
      have kz:=HZ.out wr HK.out.1;have hzz:=zaf kz;have z0:wr.cell? ⟨b3,0,none⟩=some (.string ⟨#[]⟩):=by rw [hzz.1];rfl
      have f0:=hzz.2 0;have z1:wr.cell? ⟨b3,1,none⟩=some (.slice none 0 0):=by rw [hzz.1];rfl
      have f1:=hzz.2 1;have z2:wr.cell? ⟨b3,2,none⟩=some (.slice none 0 0):=by rw [hzz.1];rfl
      have f2:=hzz.2 2;have z3:wr.cell? ⟨b3,3,none⟩=some (.string ⟨#[]⟩):=by rw [hzz.1];rfl
      have f3:=hzz.2 3;have z4:wr.cell? ⟨b3,4,none⟩=some (.slice none 0 0):=by rw [hzz.1];rfl
      have f4:=hzz.2 4;obtain ⟨W9,hW9⟩:=ex ((((((wr.setCell ⟨b3,0,none⟩ (.string ⟨#[]⟩)).setCell ⟨b3,1,none⟩ (.slice none 0 0)).setCell ⟨b3,2,none⟩ (.slice none 0 0)).setCell ⟨b3,3,none⟩ (.string ⟨#[]⟩)).setCell ⟨b3,4,none⟩ (.slice none 0 0)));have HRES:Hid (W9.heap[b3]?=some (.cells #[.string ⟨#[]⟩,.slice none 0 0,.slice none 0 0,.string ⟨#[]⟩,.slice none 0 0] 89 (0,0))):=by
       rw [<-hW9];exact ((zag _ (zag _ (zag _ (zag _ (zag _ kz)))))).trans (by simp)
      have HFIN:Hid (ADQ R w (.returned (.tuple #[.int .i64 (-1),.agg #[.string ⟨#[]⟩,.slice none 0 0,.slice none 0 0,.string ⟨#[]⟩,.slice none 0 0]])) W9):=by
       have hbw:Below w.heap.size w W9:=by
        rw [<-hW9];have h0:=HBW.out wr HK.out.1;have hle:=HBB.out;exact (((((h0.setCell hle _).setCell hle _).setCell hle _).setCell hle _).setCell hle _)
       refine ⟨hbw,?_⟩;rw [show R=none by rw [HR.out];exact zj9 (fun j e he=>HK.out.2 j e (by have:=(List.getElem?_eq_some_iff.1 he).1;have:=HV.out.2.2.1;omega) he)]
      have HW9:=zab hW9;clear hW9 kz hzz
      go_wp2_with fail
      rw [HW9.out];refine bodyPost_ret (zkx _ _ b3 _ _ _ _ _ _ rfl rfl HRES.out) rfl ?_;exact HFIN.out
end Go.Proofs.YtmfakcfmkmppfaaGreatDoor.Nt
