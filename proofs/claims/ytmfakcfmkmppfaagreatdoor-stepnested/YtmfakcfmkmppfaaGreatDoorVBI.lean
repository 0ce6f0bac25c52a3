import Derived.Test.YtmfakcfmkmppfaaGreatDoorVBH
namespace Go.Proofs.YtmfakcfmkmppfaaGreatDoor.Nt
open Go.RowKit Go.Shelf
def nxO (n:NN) (outs:List Int) (t:List UInt8):List (Int×List UInt8):=(zg7 n outs t).flatMap (nxF n)
theorem nxO_no {n:NN} {L:List Int} {k:Nat} {x:Int} {h:List UInt8} (hx:L[k]?=some x) (hl:zfm (zcv n x) h=false):nxO n (L.take (k+1)) h=nxO n (L.take k) h:=by
 unfold nxO;rw [zqj hx hl]
theorem nxO_yes {n:NN} {L:List Int} {k:Nat} {x:Int} {h:List UInt8} (hx:L[k]?=some x) (hl:zfm (zcv n x) h=true):nxO n (L.take (k+1)) h=(nxO n (L.take k) h++[(x,h)])++ovS n (x,h):=by
 unfold nxO;rw [zmh hx hl,List.flatMap_append,List.append_assoc];simp [nxF]
def NDQ (n:NN) (s:Int×List UInt8) (w:World) (e:Ending) (w':World):Prop:=∃ q c,e=.returned (.tuple #[.int .i64 (zdt n s).1,.slice q (zdt n s).2.length c])/\w'.ownsRow w.heap.size 28 2 (.slice q (zdt n s).2.length c) (zdt n s).2.length ((zdt n s).2.flatMap asC)/\Below w.heap.size w w'
theorem zmj {n:NN} {s:Int×List UInt8} {w w':World} {k:Int} {L:List (Int×List UInt8)} {q:Option Addr} {m c:Nat} (h:zdt n s=(k,L)) (hm:L.length=m) (ho:w'.ownsRow w.heap.size 28 2 (.slice q m c) m (L.flatMap asC)) (hb:Below w.heap.size w w'):NDQ n s w (.returned (.tuple #[.int .i64 k,.slice q m c])) w':=by
 subst hm;refine ⟨q,c,by rw [h],?_,hb⟩;rw [h];exact ho
set_option maxRecDepth 100000 in
set_option maxHeartbeats 16000000 in
theorem zrm (n:NN) (v:NV) (p:Int) (h:List UInt8) (w:World) (hN:LN w n v) (hV:NetP n) (hp0:0<=p) (hp1:p < (n.ports.length:Int)) (hh:HdP n.bits h) :
  Calls Tryz.prog 68 #[.agg (nnA n v),.agg (asC (p,h)).toArray] w (NDQ n (p,h) w):=by
 have hbt:=hV.bits;have hokh:okS h:=by have:=hh.1;unfold okS;omega
 have hE:(asC (p,h)).toArray=#[.int .i64 p,.string ⟨h.toArray⟩]:=rfl;have hap:=fun (U:World) (hU:Below w.heap.size w U)=>dapp_any n v p h U (hN.below hU) hV hp0 hp1 hokh;rw [hE] at hap ⊢;clear hE;have hlt:=fun (G:List NG) (q:Option Addr) (m c:Nat) (t:List UInt8) (ht:okS t) (U:World) (hm:G.length=m) (hG:LG U q G) (hc:∀ l∈G,zb1 n.bits l.cubes) (hM:m<=140737488351232)=>zkc n.bits G q m c t U hm hG hc hbt.2 ht hM;obtain ⟨pp,cp,pt,ct,pg,cg⟩:=v;unfold nnA at hap ⊢;simp only at hap ⊢;obtain ⟨hx1,hx2⟩:=hV.port hp0 hp1;obtain ⟨hg1,hg2⟩:=hV.grd hp0 hp1;obtain ⟨ht1,ht2⟩:=hV.tab hx2.2.1 hx2.2.2.1;obtain ⟨pk,hpk⟩:∃ pk:Nat,p=(pk:Int):=⟨p.toNat,by omega⟩;subst hpk;rw [Int.toNat_natCast] at hx1 hg1;obtain ⟨fr,hfr⟩:=ex (zfu n (pk:Int) h);rw [hfr] at hap;have hfx:∀ k x,fr=some (k,x)->za2 n (zal n (pk:Int)).bx x:=fun k x e=>by
  rw [<-hfr] at e;unfold zfu at e
  split at e
  ·obtain ⟨i,-,hi,-⟩:=zc7 e
   exact ht2.1 x (List.mem_of_getElem? hi)
  ·cases e
 obtain ⟨gp,op,e1,a0',a1',a2',a3'⟩:=hN.1 pk _ hx1;simp only at e1;subst e1;obtain ⟨gg,og,qg,dg,e3,g0',lg0,-⟩:=hN.2.2.2.2.1 pk _ hg1;simp only at e3;subst e3;obtain ⟨np,hnp⟩:=ex n.ports.length;obtain ⟨nt,hnt⟩:=ex n.tabs.length;obtain ⟨ng,hng⟩:=ex n.grds.length;obtain ⟨bits,hbits⟩:=ex n.bits;have hngp:ng=np:=by have:=hV.1.2.2.2.2;omega
 have hnp48:np<=48:=by have:=hV.1.2.2.2.1;omega
 have hpt:∀ qk:Nat,qk < np->∀ U,Below w.heap.size w U->U.cell? ⟨gp,op+qk*4+3,none⟩=some (.int .i64 (zal n (qk:Int)).lk):=fun qk hq U hU=>by
  obtain ⟨x,hx⟩:∃ x,n.ports[qk]?=some x:=⟨_,List.getElem?_eq_getElem (by omega)⟩;obtain ⟨g9,o9,e9,-,-,-,c9⟩:=hN.1 qk x hx;simp only [Option.some.injEq,Addr.mk.injEq] at e9;obtain ⟨rfl,rfl,-⟩:=e9;rw [zdr hx];exact zao hU c9
 have hgd:∀ qk:Nat,qk < np->∃ q m c,(∀ U,Below w.heap.size w U->U.cell? ⟨gg,og+qk,none⟩=some (.slice q m c))/\∀ U,Below w.heap.size w U->∀ t,okS t->Calls Tryz.prog 88 #[.slice q m c,.string ⟨t.toArray⟩] U fun e w'=>e=.returned (.bool (zfm (zcv n (qk:Int)) t))/\Below U.heap.size U w':=fun qk hq=>by
  obtain ⟨y1,y2⟩:=hV.grd (p:=(qk:Int)) (by omega) (by omega);rw [Int.toNat_natCast] at y1;obtain ⟨g9,o9,q,c,e9,c9,l9,-⟩:=hN.2.2.2.2.1 qk _ y1;simp only [Option.some.injEq,Addr.mk.injEq] at e9;obtain ⟨rfl,rfl,-⟩:=e9;have h2:(zcv n (qk:Int)).length<=zhk n:=zbn (List.mem_map.2 ⟨_,List.mem_of_getElem? y1,rfl⟩);have h1:=hV.2.1;exact ⟨q,_,c,fun U hU=>zao hU c9,fun U hU t ht=>hlt _ q _ c t ht U rfl (l9.below hU) y2.1 (by omega)⟩
 rw [hnp,hnt,hng,hbits] at hap ⊢;obtain ⟨pnm,hpnm⟩:=ex ((zal n (pk:Int)).nm);obtain ⟨pbx,hpbx⟩:=ex ((zal n (pk:Int)).bx);obtain ⟨inn,hinn⟩:=ex ((zal n (pk:Int)).inn);obtain ⟨lk,hlk⟩:=ex ((zal n (pk:Int)).lk);rw [hpnm] at a0';rw [hpbx] at a1' hfx;rw [hinn] at a2';rw [hlk] at a3';have hpn:pk < np:=by rw [<-hnp];exact (List.getElem?_eq_some_iff.1 hx1).1
 obtain ⟨B,hB⟩:=ex w.heap.size;obtain ⟨b2,hb2⟩:=ex (w.heap.size+1);obtain ⟨W1,hW1⟩:=ex ((w.alloc (.cells #[.int .i64 bits,.slice (some ⟨gp,op,none⟩) np cp,.slice pt nt ct,.slice (some ⟨gg,og,none⟩) ng cg] 26)).alloc (.cells #[.int .i64 (pk:Int),.string ⟨h.toArray⟩] 28));have hz2:(w.alloc (.cells #[.int .i64 bits,.slice (some ⟨gp,op,none⟩) np cp,.slice pt nt ct,.slice (some ⟨gg,og,none⟩) ng cg] 26)).heap.size=w.heap.size+1:=Array.size_push _;have b1:Below w.heap.size w W1:=by rw [<-hW1];exact zah (zah (Below.refl _ _) _) _
 have k1:W1.heap[B]?=some (.cells #[.int .i64 bits,.slice (some ⟨gp,op,none⟩) np cp,.slice pt nt ct,.slice (some ⟨gg,og,none⟩) ng cg] 26 (0,0)):=by rw [<-hW1,<-hB];exact zae (zah (Below.refl _ _) _) (zaa _ _)
 have k2:W1.heap[b2]?=some (.cells #[.int .i64 (pk:Int),.string ⟨h.toArray⟩] 28 (0,0)):=by rw [<-hW1,<-hb2,<-hz2];exact zaa _ _
 obtain ⟨b4,hb4⟩:=ex W1.heap.size;obtain ⟨W2,hW2⟩:=ex (W1.alloc (.cells #[.string ⟨pnm.toArray⟩,.int .i64 pbx,.bool inn,.int .i64 lk] 84));have b12:Below W1.heap.size W1 W2:=by rw [<-hW2];exact zah (Below.refl _ _) _
 have k4:W2.heap[b4]?=some (.cells #[.string ⟨pnm.toArray⟩,.int .i64 pbx,.bool inn,.int .i64 lk] 84 (0,0)):=by rw [<-hW2,<-hb4];exact zaa _ _
 have hb02:Below w.heap.size w W2:=zac b1 b12;have HC:Hid (∀ U,Below W2.heap.size W2 U->(U.cell? ⟨B,0,none⟩=some (.int .i64 bits)/\U.cell? ⟨B,1,none⟩=some (.slice (some ⟨gp,op,none⟩) np cp)/\U.cell? ⟨B,2,none⟩=some (.slice pt nt ct)/\U.cell? ⟨B,3,none⟩=some (.slice (some ⟨gg,og,none⟩) ng cg))/\(U.cell? ⟨b2,0,none⟩=some (.int .i64 (pk:Int))/\U.cell? ⟨b2,1,none⟩=some (.string ⟨h.toArray⟩))/\(U.cell? ⟨b4,0,none⟩=some (.string ⟨pnm.toArray⟩)/\U.cell? ⟨b4,1,none⟩=some (.int .i64 pbx)/\U.cell? ⟨b4,2,none⟩=some (.bool inn)/\U.cell? ⟨b4,3,none⟩=some (.int .i64 lk))):=fun U hU=>by
  have e1:=(zaf (zae (zac b12 hU) k1)).1;have e2:=(zaf (zae (zac b12 hU) k2)).1;have e3:=(zaf (zae hU k4)).1;exact ⟨⟨by rw [e1];rfl,by rw [e1];rfl,by rw [e1];rfl,by rw [e1];rfl⟩,⟨by rw [e2];rfl,by rw [e2];rfl⟩,⟨by rw [e3];rfl,by rw [e3];rfl,by rw [e3];rfl,by rw [e3];rfl⟩⟩
 have hn1:((W1.cell? ⟨B,0,none⟩=some (.int .i64 bits)/\W1.cell? ⟨B,1,none⟩=some (.slice (some ⟨gp,op,none⟩) np cp))/\W1.cell? ⟨b2,0,none⟩=some (.int .i64 (pk:Int))):=by
  have e1:=(zaf k1).1;have e2:=(zaf k2).1;exact ⟨⟨by rw [e1];rfl,by rw [e1];rfl⟩,by rw [e2];rfl⟩
 have HPT:Hid (∀ qk:Nat,qk < np->∀ U,Below W2.heap.size W2 U->U.cell? ⟨gp,op+qk*4+3,none⟩=some (.int .i64 (zal n (qk:Int)).lk)):=fun qk hq U hU=>hpt qk hq U (zac hb02 hU);have HGD:Hid (∀ qk:Nat,qk < np->∃ q m c,(∀ U,Below W2.heap.size W2 U->U.cell? ⟨gg,og+qk,none⟩=some (.slice q m c))/\∀ U,Below W2.heap.size W2 U->∀ t,okS t->Calls Tryz.prog 88 #[.slice q m c,.string ⟨t.toArray⟩] U fun e w'=>e=.returned (.bool (zfm (zcv n (qk:Int)) t))/\Below U.heap.size U w'):=fun qk hq=>by
  obtain ⟨q,m,c,h1,h2⟩:=hgd qk hq;exact ⟨q,m,c,fun U hU=>h1 U (zac hb02 hU),fun U hU=>h2 U (zac hb02 hU)⟩
 have HAP:Hid (∀ U,Below W2.heap.size W2 U->Calls Tryz.prog 86 #[.agg #[.int .i64 bits,.slice (some ⟨gp,op,none⟩) np cp,.slice pt nt ct,.slice (some ⟨gg,og,none⟩) ng cg],.agg #[.int .i64 (pk:Int),.string ⟨h.toArray⟩]] U (ADQ fr U)):=fun U hU=>hap U (zac hb02 hU);have HV:Hid (NetP n/\HdP n.bits h/\okS h/\zfu n (pk:Int) h=fr/\(∀ k x,fr=some (k,x)->za2 n pbx x)/\n.ports.length=np/\(zal n (pk:Int)).inn=inn/\(zal n (pk:Int)).lk=lk/\ng=np):=⟨hV,hh,hokh,hfr,hfx,hnp,hinn,hlk,hngp⟩;have HB:=zab hB;have HB2:=zab hb2;have HB4:=zab hb4;have HW1:=zab hW1;have HW2:=zab hW2;have HBW:Hid (∀ U,Below W2.heap.size W2 U->Below w.heap.size w U):=fun U hU=>zac hb02 hU;have HSZ:Hid (w.heap.size<=W2.heap.size):=hb02.size;have k0:=zao b1 a0';have k5:=zao b1 a1';have k6:=zao b1 a2';have k7:=zao b1 a3';obtain ⟨⟨q0,q1⟩,r0⟩:=hn1;have j0:(0:Int)<=(pk:Int):=by omega
 have j1:(pk:Int) < (np:Int):=by omega
 clear hN hV hp0 hp1 hh hbt hokh hap hlt hx1 hx2 hg1 hg2 ht1 ht2 hfr hfx a0' a1' a2' a3' g0' lg0 hnp hnt hng hbits hngp hnp48 hpt hgd hpnm hpbx hinn hlk hpn;clear hB hb2 hb4 hW1 hW2 hz2 b1 b12 k1 k2 k4 hb02
 go_enter Tryz.func68,Tryz.ntmps68
 go_upto_region 1 with fail
 rw [HW1.out,HB2.out,HB.out]
 go_upto_region 2 with fail
 rw [HW2.out,HB4.out];clear q0 q1 r0 k0 k5 k6 k7;obtain ⟨⟨q0,q1,q2,q3⟩,⟨r0,r1⟩,⟨x0,x1,x2,x3⟩⟩:=HC.out W2 (Below.refl _ _);cases inn with
 | false=>
  have hno:=zjt (n:=n) (s:=((pk:Int),h)) HV.out.2.2.2.2.2.2.1
  by_cases hl:lk < 0
  ·have hov:ovS n ((pk:Int),h)=[]:=by
    unfold ovS;rw [if_neg (by rw [HV.out.2.2.2.2.2.2.2.1];omega)]
   rw [hov] at hno;have HFIN:Hid (NDQ n ((pk:Int),h) w (.returned (.tuple #[.int .i64 (-1),.slice none 0 0])) W2):=zmj hno rfl (World.ownsRow_nil _ _ _ _) (HBW.out W2 (Below.refl _ _));clear hno hov
   go_wp2_with fail
   refine bodyPost_ret (results_tmp2 rfl _ _ _) rfl ?_;exact HFIN.out
  ·have hov:ovS n ((pk:Int),h)=[(lk,h)]:=by
    unfold ovS;rw [if_pos (by rw [HV.out.2.2.2.2.2.2.2.1];omega),HV.out.2.2.2.2.2.2.2.1]
   rw [hov] at hno;obtain ⟨r,hr⟩:=ex W2.heap.size;obtain ⟨W3,hW3⟩:=ex ((W2.alloc (.cells #[.int .i64 lk,.string ⟨h.toArray⟩] 28 (0,0))).drew);have ho:=zk4 (W:=W2.drew) (T:=28) (s:=2) (cs:=#[.int .i64 lk,.string ⟨h.toArray⟩]) rfl;rw [show W2.drew.alloc (.cells #[.int .i64 lk,.string ⟨h.toArray⟩] 28 (0,0))=W3 from hW3,show W2.drew.heap.size=r from hr] at ho;have hb3:Below W2.heap.size W2 W3:=by rw [<-hW3];exact (zah (Below.refl _ _) _).drew
   have HFIN:Hid (NDQ n ((pk:Int),h) w (.returned (.tuple #[.int .i64 (-1),.slice (some ⟨r,0,none⟩) 1 1])) W3):=zmj hno rfl (zav ho (by rw [<-hr];exact HSZ.out)) (HBW.out W3 hb3);have hs0:=(HC.out W2.drew (Below.refl _ _).drew).2;have hs3:=(HC.out W3 hb3).2;have HW3:=zab hW3;have HR:=zab hr;clear hno hov hW3 hr ho hb3;clear q0 q1 q2 q3 r0 r1;have hl9:(decide (lk < 0))=false:=decide_eq_false hl
   go_upto_region 5 with fail
   refine wp_region_held_drew (S:=fun U=>(U.cell? ⟨b2,0,none⟩=some (.int .i64 (pk:Int))/\U.cell? ⟨b2,1,none⟩=some (.string ⟨h.toArray⟩))/\(U.cell? ⟨b4,0,none⟩=some (.string ⟨pnm.toArray⟩)/\U.cell? ⟨b4,1,none⟩=some (.int .i64 pbx)/\U.cell? ⟨b4,2,none⟩=some (.bool false)/\U.cell? ⟨b4,3,none⟩=some (.int .i64 lk))) (by kernel_rfl) hs0 (fun _=>?_);refine tk 0 (.pointer (some ⟨b4,3,none⟩)) rfl hs0 ?_ ?_
   ·rintro w ⟨⟨r0,r1⟩,⟨x0,x1,x2,x3⟩⟩;go_simp
   refine tk 1 (.int .i64 lk) rfl hs0 ?_ ?_
   ·rintro w ⟨⟨r0,r1⟩,⟨x0,x1,x2,x3⟩⟩;go_simp
   refine tk 2 (.pointer (some ⟨b2,1,none⟩)) rfl hs0 ?_ ?_
   ·rintro w ⟨⟨r0,r1⟩,⟨x0,x1,x2,x3⟩⟩;go_simp
   refine tk 3 (.string ⟨h.toArray⟩) rfl hs0 ?_ ?_
   ·rintro w ⟨⟨r0,r1⟩,⟨x0,x1,x2,x3⟩⟩;go_simp
   refine tk 4 (.agg #[.int .i64 lk,.string ⟨h.toArray⟩]) rfl hs0 ?_ ?_
   ·rintro w ⟨⟨r0,r1⟩,⟨x0,x1,x2,x3⟩⟩;go_simp
   refine tk 6 (.int .i64 (-1)) rfl hs0 ?_ ?_
   ·rintro w ⟨⟨r0,r1⟩,⟨x0,x1,x2,x3⟩⟩;go_simp
   refine rd 5 rfl fun KK hKK=>?_
   go_simp
   rw [HW3.out,HR.out];refine hKK.out _ _ hs3 (fun _=>?_);clear hKK KK;refine tk 7 (.slice (some ⟨r,0,none⟩) 1 1) rfl hs3 ?_ ?_
   ·rintro w ⟨⟨r0,r1⟩,⟨x0,x1,x2,x3⟩⟩;go_simp
   refine wpAnyH_done (by kernel_rfl) ?_ _
   try simp only [List.getElem_toArray,List.getElem_cons_succ,List.getElem_cons_zero,Act.put,List.setIfInBounds_toArray,List.set_cons_zero,List.set_cons_succ]
   clear hs0 hs3
   go_wp2_with fail
   refine bodyPost_ret (results_tmp2 rfl _ _ _) rfl ?_;exact HFIN.out
 | true=>
  go_wp2_with fail
  refine (HAP.out W2 (Below.refl _ _)).mono ?_;rintro e W3 ⟨c3,hres⟩;clear q0 q1 q2 q3 r0 r1 x0 x1 x2 x3;cases fr with
  | none=>
   simp only at hres;subst hres;have e9:zdt n ((pk:Int),h)=(-1,[]):=by
    have e8:zce n ((pk:Int),h)=(-1,[]):=by
     unfold zce;rw [show zfu n ((pk:Int),h).1 ((pk:Int),h).2=_ from HV.out.2.2.2.1]
    rw [nx_in HV.out.2.2.2.2.2.2.1 e8];rfl
   have HFIN:Hid (NDQ n ((pk:Int),h) w (.returned (.tuple #[.int .i64 (-1),.slice none 0 0])) (W3.alloc (.cells #[.string ⟨#[]⟩,.slice none 0 0,.slice none 0 0,.string ⟨#[]⟩,.slice none 0 0] 89))):=zmj e9 rfl (World.ownsRow_nil _ _ _ _) (HBW.out _ (zah c3 _));clear c3 e9
   go_wp2_with fail
   refine bodyPost_ret (results_tmp2 rfl _ _ _) rfl ?_;exact HFIN.out
  | some kx=>
   obtain ⟨num,x⟩:=kx;simp only at hres;obtain ⟨pi,ci,pc,cc,po,co,hres,hli⟩:=hres;have hEP:=HV.out.2.2.2.2.1 num x rfl;obtain ⟨nm,hnm⟩:∃ nm,x.nm=nm:=⟨_,rfl⟩;obtain ⟨wr9,hwr9⟩:=ex x.wr;obtain ⟨ni,hni⟩:=ex x.ins.length;obtain ⟨nc,hnc⟩:=ex x.cubes.length;obtain ⟨no,hno⟩:=ex x.outs.length;rw [hnm,hni,hnc,hno,hwr9] at hres;subst hres;obtain ⟨t9,ht9⟩:=ex (Tn.wtT h wr9);have hbt:=HV.out.1.bits;have hh9:HdP n.bits t9:=by rw [<-ht9,<-hwr9];exact wr_hd HV.out.2.1 hEP.2.2.2.1 hbt.1
   have hok9:okS t9:=by have:=hh9.1;unfold okS;omega
   have HWR:Hid (∀ U:World,Calls Tryz.prog 87 #[.string ⟨h.toArray⟩,.string ⟨wr9.toArray⟩] U fun e w'=>e=.returned (.string ⟨t9.toArray⟩)/\Below U.heap.size U w'):=fun U=>Tn.rWrite_D h wr9 t9 U (zci (zd0 HV.out.2.1) hbt.2) (by rw [<-hwr9];exact zci hEP.2.2.2.1 hbt.2) ht9;have HNX:Hid (zdt n ((pk:Int),h)=((num:Int),nxO n x.outs t9)):=by
    show _=_;have e8:zce n ((pk:Int),h)=((num:Int),zg7 n x.outs t9):=by
     unfold zce;rw [show zfu n ((pk:Int),h).1 ((pk:Int),h).2=_ from HV.out.2.2.2.1];simp only;rw [hwr9,ht9]
    rw [nx_in HV.out.2.2.2.2.2.2.1 e8];rfl
   have HX:Hid (x.outs.length=no/\no<=4/\(∀ q∈x.outs,zbt n pbx q false)/\okS t9):=⟨hno,by rw [<-hno];exact hEP.2.2.2.2.1,hEP.2.2.2.2.2.1,hok9⟩;have hno7:no<=4:=HX.out.2.1;obtain ⟨b5,hb5⟩:=ex W3.heap.size;obtain ⟨W4,hW4⟩:=ex (W3.alloc (.cells #[.string ⟨nm.toArray⟩,.slice pi ni ci,.slice pc nc cc,.string ⟨wr9.toArray⟩,.slice po no co] 89));have b4':Below W3.heap.size W3 W4:=by rw [<-hW4];exact zah (Below.refl _ _) _
   have k5:W4.heap[b5]?=some (.cells #[.string ⟨nm.toArray⟩,.slice pi ni ci,.slice pc nc cc,.string ⟨wr9.toArray⟩,.slice po no co] 89 (0,0)):=by rw [<-hW4,<-hb5];exact zaa _ _
   have c4:=zac c3 b4';have HD:Hid (∀ U,Below W4.heap.size W4 U->(U.cell? ⟨b5,0,none⟩=some (.string ⟨nm.toArray⟩)/\U.cell? ⟨b5,1,none⟩=some (.slice pi ni ci)/\U.cell? ⟨b5,2,none⟩=some (.slice pc nc cc)/\U.cell? ⟨b5,3,none⟩=some (.string ⟨wr9.toArray⟩)/\U.cell? ⟨b5,4,none⟩=some (.slice po no co))/\LI U po x.outs/\Below W2.heap.size W2 U):=fun U hU=>by
    have e1:=(zaf (zae hU k5)).1;exact ⟨⟨by rw [e1];rfl,by rw [e1];rfl,by rw [e1];rfl,by rw [e1];rfl,by rw [e1];rfl⟩,hli.below (zac b4' hU),zac c4 hU⟩
   have HSZ4:Hid (W2.heap.size<=W4.heap.size):=c4.size;have HW4:=zab hW4;have HB5:=zab hb5;have hnum:¬(num:Int) < 0:=by omega
   clear hli hEP hnm hwr9 hni hnc hno ht9 hbt hh9 hok9 hW4 hb5 b4' k5 c4 c3
   go_upto_region 7 with fail
   rw [HW4.out,HB5.out];obtain ⟨⟨d0,d1,d2,d3,d4⟩,-,h40⟩:=HD.out W4 (Below.refl _ _);obtain ⟨⟨q0,q1,q2,q3⟩,⟨r0,r1⟩,⟨x0,x1,x2,x3⟩⟩:=HC.out W4 h40;clear h40
   go_wp2_with fail
   refine (HWR.out W4).mono ?_;rintro e W5 ⟨rfl,c5⟩;clear q0 q1 q2 q3 r0 r1 x0 x1 x2 x3 d0 d1 d2 d3 d4;have HC5:=zab c5;clear c5
   go_wp2_with fail
   go_loopw [10,11] (fun v10 vk wr=>∃ (k m:Nat) (q:Option Addr) (c:Nat),v10=.slice q m c/\vk=.int .i64 (k:Int)/\k<=no/\m<=2*k/\Hid ((nxO n (x.outs.take k) t9).length=m/\wr.ownsRow W4.heap.size 28 2 (.slice q m c) m ((nxO n (x.outs.take k) t9).flatMap asC)/\Below W4.heap.size W4 wr)) (fun _ vk _=>no - (intOf vk).toNat)
   case atStart=>exact ⟨0,0,none,0,rfl,rfl,Nat.zero_le _,Nat.zero_le _,rfl,World.ownsRow_nil _ _ _ _,HC5.out⟩
   case round=>
    obtain ⟨k,m,q,c,rfl,rfl,hk,hm,HS⟩:=hrel;obtain ⟨⟨d0,d1,d2,d3,d4⟩,hli,h40⟩:=HD.out wr HS.out.2.2;obtain ⟨⟨q0,q1,q2,q3⟩,⟨r0,r1⟩,⟨x0,x1,x2,x3⟩⟩:=HC.out wr h40;clear q0 q2 r0 r1 x0 x1 x2 x3 d0 d1 d2 d3
    by_cases hlt:k < no
    ·obtain ⟨o,hx⟩:∃ o,x.outs[k]?=some o:=⟨_,List.getElem?_eq_getElem (by have:=HX.out.1;omega)⟩
     have hiso:=HX.out.2.2.1 o (List.mem_of_getElem? hx);obtain ⟨qk,hqk⟩:∃ qk:Nat,o=(qk:Int):=⟨o.toNat,by have:=hiso.1;omega⟩;subst hqk;have hqn:qk < np:=by have:=hiso.2.1;have:=HV.out.2.2.2.2.2.1;omega
     obtain ⟨go,oo,e9,u0⟩:=hli k _ hx;subst e9;obtain ⟨qg,mg,dg,hgc,hgl⟩:=HGD.out qk hqn;have v0:=hgc wr h40;have HL:=zab (hgl wr h40 t9 HX.out.2.2.2);obtain ⟨lb,hlb⟩:=ex (zfm (zcv n (qk:Int)) t9);rw [hlb] at HL;have HLB:=zab hlb;have HX7:=zab hx;have j2:(0:Int)<=(k:Int):=by omega
     have j3:(k:Int) < (no:Int):=by omega
     have j4:(0:Int)<=(qk:Int):=by omega
     have j5:(qk:Int) < (ng:Int):=by have:=HV.out.2.2.2.2.2.2.2.2;omega
     have j6:(qk:Int) < (np:Int):=by omega
     have H40:=zab h40;clear hx hiso hgc hgl hlb hli h40
     go_wp2_with fail
     refine (HL.out).mono ?_;rintro e W6 ⟨rfl,b6⟩;have c6:Below W4.heap.size W4 W6:=zac HS.out.2.2 b6;have c26:Below W2.heap.size W2 W6:=zac H40.out b6;clear q1 q3 u0 v0 d4;cases lb with
     | false=>
      have HS9:Hid ((nxO n (x.outs.take (k+1)) t9).length=m/\W6.ownsRow W4.heap.size 28 2 (.slice q m c) m ((nxO n (x.outs.take (k+1)) t9).flatMap asC)/\Below W4.heap.size W4 W6):=by
       rw [nxO_no HX7.out HLB.out];exact ⟨HS.out.1,zaq HS.out.2.1 b6,c6⟩
      clear b6 c6 c26
      go_wp2_with fail
      go_roundw
      case rel=>exact ⟨k+1,m,q,c,rfl,by go_num,by omega,by omega,HS9⟩
      case measure=>simp [intOf];omega
     | true=>
      have hyes:=nxO_yes HX7.out HLB.out;obtain ⟨m1,hm1⟩:=ex (m+1);obtain ⟨q7,c7,W7,hr7,o7,b7,-,-⟩:=pushA (x:=(qk:Int)) (t:=t9) (zaq HS.out.2.1 b6) c6.size hm1 (by have:=HX.out.2.1;omega);have c7':Below W4.heap.size W4 W7:=c6.trans b7;have c27:Below W2.heap.size W2 W7:=c26.trans (b7.mono HSZ4.out);obtain ⟨⟨q0,q1,q2,q3⟩,-,-⟩:=HC.out W7 c27;have v3:=HPT.out qk hqn W7 c27;obtain ⟨lk9,hlk9⟩:=ex ((zal n (qk:Int)).lk);rw [hlk9] at v3;have hlen:(nxO n (x.outs.take k) t9++[((qk:Int),t9)]).length=m1:=by rw [List.length_append,HS.out.1,List.length_singleton,hm1]
      by_cases hl:0<=lk9
      ·have hov:ovS n ((qk:Int),t9)=[(lk9,t9)]:=by
        unfold ovS;simp only [hlk9];rw [if_pos hl]
       obtain ⟨m2,hm2⟩:=ex (m1+1);obtain ⟨q8,c8,W8,hr8,o8,b8,-,-⟩:=pushA (x:=lk9) (t:=t9) o7 c7'.size hm2 (by have:=HX.out.2.1;omega);have HS9:Hid ((nxO n (x.outs.take (k+1)) t9).length=m2/\W8.ownsRow W4.heap.size 28 2 (.slice q8 m2 c8) m2 ((nxO n (x.outs.take (k+1)) t9).flatMap asC)/\Below W4.heap.size W4 W8):=by
        rw [hyes,hov];exact ⟨by rw [List.length_append,hlen,List.length_singleton,hm2],o8,c7'.trans b8⟩
       have hm9:m2<=2*(k+1):=by omega
       have hl9:lk9 ≥ 0:=hl;clear hyes o7 b7 b6 c6 c26 c7' c27 hov o8 b8 hlk9 hl hlen hm1 hm2 q0 q2 q3
       go_upto_region 18 with (at_builtin;refine za3 rfl _ _ _ rfl rfl rfl hr7 ?_)
       clear hr7
       go_wp2_with (at_builtin;refine za3 rfl _ _ _ rfl rfl rfl hr8 ?_)
       go_roundw
       case rel=>exact ⟨k+1,m2,q8,c8,rfl,by go_num,by omega,hm9,HS9⟩
       case measure=>simp [intOf];omega
      ·have hov:ovS n ((qk:Int),t9)=[]:=by
        unfold ovS;simp only [hlk9];rw [if_neg hl]
       have HS9:Hid ((nxO n (x.outs.take (k+1)) t9).length=m1/\W7.ownsRow W4.heap.size 28 2 (.slice q7 m1 c7) m1 ((nxO n (x.outs.take (k+1)) t9).flatMap asC)/\Below W4.heap.size W4 W7):=by
        rw [hyes,hov,List.append_nil];exact ⟨hlen,o7,c7'⟩
       have hm9:m1<=2*(k+1):=by omega
       have hl9:¬lk9 ≥ 0:=hl;clear hyes o7 b7 b6 c6 c26 c7' c27 hov hlk9 hl hlen hm1 q0 q2 q3
       go_upto_region 18 with (at_builtin;refine za3 rfl _ _ _ rfl rfl rfl hr7 ?_)
       clear hr7
       go_wp2_with fail
       go_roundw
       case rel=>exact ⟨k+1,m1,q7,c7,rfl,by go_num,by omega,hm9,HS9⟩
       case measure=>simp [intOf];omega
    ·obtain rfl:k=no:=by omega
     have j3:¬(k:Int) < (k:Int):=by omega
     have HFIN:Hid (NDQ n ((pk:Int),h) w (.returned (.tuple #[.int .i64 (num:Int),.slice q m c])) wr):=by
      have h9:=HS.out;rw [List.take_of_length_le (by have:=HX.out.1;omega)] at h9;exact zmj HNX.out h9.1 (zav h9.2.1 (Nat.le_trans HSZ.out HSZ4.out)) (HBW.out wr h40)
     clear hli h40 HS
     go_wp2_with fail
     refine bodyPost_ret (results_tmp2 rfl _ _ _) rfl ?_;exact HFIN.out
def cls (w:WY):Bool:=decide (w.last.1∈w.ps.dropLast)
theorem ov_mem {n:NN} {t o:Int×List UInt8} (h:o∈ovS n t):0<=(zal n t.1).lk/\o=((zal n t.1).lk,t.2):=by
 unfold ovS at h
 split at h
 ·rename_i hl
  exact ⟨hl,List.mem_singleton.1 h⟩
 ·cases h
theorem link_out {n:NN} {t o:Int×List UInt8} (hV:NetP n) (ht:StP n t) (h:o∈ovS n t):(zal n t.1).inn=false/\(zal n o.1).inn=true/\0<=o.1/\o.1 < (n.ports.length:Int):=by
 obtain ⟨hl,rfl⟩:=ov_mem h;obtain ⟨-,hx⟩:=hV.port ht.1 ht.2.1;rcases hx.2.2.2 with h9 | h9
 ·omega
 ·exact ⟨h9.1,h9.2.2.2,h9.2.1,h9.2.2.1⟩
end Go.Proofs.YtmfakcfmkmppfaaGreatDoor.Nt
