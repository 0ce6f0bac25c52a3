import Derived.Test.YtmfakcfmkmppfaaGreatDoorVBI
namespace Go.Proofs.YtmfakcfmkmppfaaGreatDoor.Nt
open Go.RowKit Go.Shelf
theorem apl_out {n:NN} {s:Int×List UInt8} (hV:NetP n) (hs:StP n s):∀ o∈(zce n s).2,(zal n o.1).inn=false:=by
 obtain ⟨hx1,hx2⟩:=hV.port hs.1 hs.2.1;obtain ⟨ht1,ht2⟩:=hV.tab hx2.2.1 hx2.2.2.1;intro o ho;unfold zce at ho;cases he:zfu n s.1 s.2 with
 | none=>rw [he] at ho;cases ho
 | some kx=>
  obtain ⟨k,x⟩:=kx;rw [he] at ho;have hmem:x∈ze8 n (zal n s.1).bx:=by
   unfold zfu at he
   split at he
   ·obtain ⟨i,-,hi,-⟩:=zc7 he
    exact List.mem_of_getElem? hi
   ·cases he
  simp only [zg7,List.mem_map,List.mem_filter] at ho;obtain ⟨q,⟨hq,-⟩,rfl⟩:=ho;exact ((ht2.1 x hmem).2.2.2.2.2.1 q hq).2.2.2
theorem apl_pos {n:NN} {s o:Int×List UInt8} (h:o∈(zce n s).2):0<=(zce n s).1:=by
 unfold zce at h ⊢;cases he:zfu n s.1 s.2 with
 | none=>rw [he] at h;cases h
 | some kx=>simp only;omega
theorem flt_out {n:NN} (A:List (Int×List UInt8)) (h:∀ o∈A,(zal n o.1).inn=false/\∀ u∈ovS n o,(zal n u.1).inn=true):(A.flatMap (fun o=>o :: ovS n o)).filter (fun o=>!(zal n o.1).inn)=A:=by
 induction A with
 | nil=>rfl
 | cons a r ih=>
  rw [List.flatMap_cons,List.filter_append,ih (fun o ho=>h o (List.mem_cons_of_mem _ ho)),List.filter_cons];obtain ⟨h1,h2⟩:=h a (List.mem_cons_self);rw [h1,if_pos (show (!false)=true from rfl),List.filter_eq_nil_iff.2 (fun u hu=>by rw [h2 u hu];decide)];rfl
def zp7 (n:NN) (q:Int):List Int:=if 0<=(zal n q).lk then [q,(zal n q).lk] else [q]
theorem end_to (n:NN) (x:WY) (o:Int×List UInt8) (k:Int):zcx n (x.to o [k])=⟨x.ps++zp7 n o.1,x.es++[k],o.2⟩:=by
 unfold zcx zp7;rw [to_last]
 split
 ·show WY.mk ((x.ps++[o.1])++[_]) ((x.es++[k])++[]) o.2=_
  rw [List.append_assoc,List.append_nil];rfl
 ·rfl
theorem stp_eq {n:NN} {hops:Int} {x:WY} (hV:NetP n) (hx:WYP n hops 1 x) (hi:(zal n x.last.1).inn=true) (hh:(x.es.length:Int) < hops):zh8 n hops x=((zdt n x.last).2.filter (fun o=>!(zal n o.1).inn)).map (fun o=>⟨x.ps++zp7 n o.1,x.es++[(zdt n x.last).1],o.2⟩):=by
 have e1:zdt n x.last=((zce n x.last).1,(zce n x.last).2.flatMap (fun o=>o :: ovS n o)):=by unfold zdt;rw [if_pos hi]
 have hap:=zg5 hV hx.st.1 hx.st.2.1 hx.st.2.2;rw [e1];simp only;rw [flt_out _ (fun o ho=>⟨apl_out hV hx.st o ho,fun u hu=>(link_out hV (hap.2 o ho) hu).2.1⟩)];unfold zh8 zes;rw [if_pos ⟨hi,by omega⟩,List.map_map]
 congr 1
 funext o
 exact end_to n x o _
theorem stp_none {n:NN} {hops:Int} {x:WY} (hx:WYP n hops 1 x) (h:(zal n x.last.1).inn=false∨hops<=(x.es.length:Int)):zh8 n hops x=[]:=by
 rcases h with h | h
 ·unfold zh8 zes
  rw [if_neg (by rw [h];simp)];rfl
 ·exact zl6 hx h
theorem num_pos {n:NN} {s o:Int×List UInt8} (h:o∈(zdt n s).2) (hi:(zal n s.1).inn=true):0<=(zdt n s).1:=by
 unfold zdt at h ⊢;rw [if_pos hi] at h ⊢;obtain ⟨a,ha,-⟩:=List.mem_flatMap.1 h;exact apl_pos ha
theorem own_less {W:World} {B B' T s n:Nat} {v:Value} {xs:List Value} (h:W.ownsRow B T s v n xs) (hb:B'<=B):W.ownsRow B' T s v n xs:=⟨h.1,h.2.imp id fun ⟨g,cap,cur,e,hg,r⟩=>⟨g,cap,cur,e,Nat.le_trans hb hg,r⟩⟩
theorem zqg {W:World} {B n:Nat} {v:Value} {xs:List Value} (h:W.ownsRow B 37 3 v n xs) {b:Nat} {cs:Array Value} {fr:Nat×Nat} (hh:W.heap[b]?=some (.cells cs 3 fr)):v.ownBlock≠some b:=by
 intro e;rcases h.2 with ⟨rfl,-⟩ | ⟨g,cap,cur,rfl,-,hg,-⟩
 ·cases e
 ·have e':g=b:=Option.some.inj e
  rw [e',hh] at hg;injection hg with hg;injection hg with _ hg _;exact absurd hg (by decide)
def sdD (n:NN) (ps es:List Int) (k:Int) (L:List (Int×List UInt8)):List WY:=(L.filter (fun o=>!(zal n o.1).inn)).map (fun o=>⟨ps++zp7 n o.1,es++[k],o.2⟩)
theorem sd_yes {n:NN} {ps es:List Int} {k:Int} {L:List (Int×List UInt8)} {i:Nat} {o:Int×List UInt8} (h:L[i]?=some o) (hi:(zal n o.1).inn=false):sdD n ps es k (L.take (i+1))=sdD n ps es k (L.take i)++[⟨ps++zp7 n o.1,es++[k],o.2⟩]:=by
 unfold sdD;rw [List.take_add_one,h,List.filter_append,List.map_append]
 congr 1
 simp [hi]
theorem sd_no {n:NN} {ps es:List Int} {k:Int} {L:List (Int×List UInt8)} {i:Nat} {o:Int×List UInt8} (h:L[i]?=some o) (hi:(zal n o.1).inn=true):sdD n ps es k (L.take (i+1))=sdD n ps es k (L.take i):=by
 unfold sdD;rw [List.take_add_one,h,List.filter_append,List.map_append];simp [hi]
def STQ (L:List WY) (w:World) (e:Ending) (w':World):Prop:=∃ (q:Option Addr) (m c:Nat) (V:List (WY×PV)),V.length=m/\V.map Prod.fst=L/\e=.returned (.slice q m c)/\w'.ownsRow w.heap.size 37 3 (.slice q m c) m (V.flatMap paC)/\(∀ y∈V,PL w' y)/\Below w.heap.size w w'
set_option maxRecDepth 100000 in
set_option maxHeartbeats 16000000 in
theorem zoe (n:NN) (v:NV) (x:WY) (pv:PV) (hops:Int) (w:World) (hN:LN w n v) (hV:NetP n) (hx:WYP n hops 1 x) (hL:PL w (x,pv)) (hh:hops<=64) :
  Calls Tryz.prog 43 #[.agg (nnA n v),.agg (paC (x,pv)).toArray,.int .i64 hops] w (STQ (zh8 n hops x) w):=by
 have hnb:=hx.2.2.2.1;have hpb:=hx.2.2.2.2.1;have hst:=hx.st;have hsq:=fun (hi:(zal n x.last.1).inn=true) (hh:(x.es.length:Int) < hops)=>stp_eq hV hx hi hh;have hs0:=fun (h:(zal n x.last.1).inn=false∨hops<=(x.es.length:Int))=>stp_none hx h;have hnx:=fun (U:World) (hU:Below w.heap.size w U)=>zrm n v x.last.1 x.last.2 U (hN.below hU) hV hst.1 hst.2.1 hst.2.2;have hns:=zqm hV hst;have hkp:=fun (o:Int×List UInt8) (ho:o∈(zdt n x.last).2) (hi:(zal n x.last.1).inn=true)=>num_pos ho hi;have hps:x.ps≠[]:=hx.1;obtain ⟨SS,hSS⟩:=ex (zh8 n hops x);rw [hSS] at hsq hs0 ⊢;clear hx hSS;obtain ⟨ps,es,hd⟩:=x;obtain ⟨xp,xc,xe,xd⟩:=pv;obtain ⟨t,ht⟩:∃ t:Nat,ps.getLastD 0=(t:Int):=⟨(ps.getLastD 0).toNat,by have h9:=hst.1;have:WY.last ⟨ps,es,hd⟩=(ps.getLastD 0,hd):=rfl;rw [this] at h9;simp only at h9;omega⟩;have hlast:WY.last ⟨ps,es,hd⟩=((t:Int),hd):=by show (ps.getLastD 0,hd)=_;rw [ht]
 rw [hlast] at hst hsq hs0 hnx hns hkp;simp only at hnb hpb hsq hs0 hnx hps hL hkp;obtain ⟨nx,hxn⟩:=ex ps.length;obtain ⟨mx,hxm⟩:=ex es.length;obtain ⟨L,hLL⟩:=ex ((zdt n ((t:Int),hd)).2);obtain ⟨k9,hk9⟩:=ex ((zdt n ((t:Int),hd)).1);obtain ⟨Ln,hLn⟩:=ex L.length;rw [hxm] at hnb hpb hsq hs0;rw [hxn] at hpb;rw [hLL,hk9] at hsq hkp;rw [hLL] at hns;have hpa:(paC ((⟨ps,es,hd⟩:WY),(⟨xp,xc,xe,xd⟩:PV))).toArray=#[.slice xp nx xc,.slice xe mx xd,.string ⟨hd.toArray⟩]:=by
  show #[Value.slice xp ps.length xc,Value.slice xe es.length xd,Value.string ⟨hd.toArray⟩]=_;rw [hxn,hxm]
 rw [hpa];have hlip:LI w xp ps:=hL.1.2.1;have hlie:LI w xe es:=hL.2.1.2.1;have hlp0:=hN.1;obtain ⟨pp,cp,pt,ct,pg,cg⟩:=v;simp only at hlp0;obtain ⟨np,hnp⟩:=ex n.ports.length;obtain ⟨nt,hnt⟩:=ex n.tabs.length;obtain ⟨ng,hng⟩:=ex n.grds.length;obtain ⟨bits,hbits⟩:∃ bits,n.bits=bits:=⟨_,rfl⟩;have hE:nnA n ⟨pp,cp,pt,ct,pg,cg⟩=#[.int .i64 bits,.slice pp np cp,.slice pt nt ct,.slice pg ng cg]:=by unfold nnA;rw [hnp,hnt,hng,hbits]
 rw [hE] at hnx ⊢;have htn:t < np:=by have h9:=hst.2.1;simp only at h9;omega
 have hpt:∀ k:Nat,k < np->n.ports[k]?=some (zal n (k:Int)):=fun k hk=>by
  unfold zal;rw [Int.toNat_natCast,List.getD_eq_getElem?_getD,List.getElem?_eq_getElem (by omega)];rfl
 obtain ⟨gq,oq,e0,-⟩:=hlp0 t _ (hpt t htn);subst e0;have HPT:Hid (∀ U,Below w.heap.size w U->∀ k:Nat,k < np->U.cell? ⟨gq,oq+k*4+2,none⟩=some (.bool (zal n (k:Int)).inn)/\U.cell? ⟨gq,oq+k*4+3,none⟩=some (.int .i64 (zal n (k:Int)).lk)):=fun U hU k hk=>by
  obtain ⟨g2,o2,e9,-,-,a2,a3⟩:=(hlp0.below hU) k _ (hpt k hk);simp only [Option.some.injEq,Addr.mk.injEq] at e9;obtain ⟨rfl,rfl,-⟩:=e9;exact ⟨a2,a3⟩
 have HQ:Hid ((∀ o∈L,0<=o.1/\o.1 < (np:Int))/\L.length=Ln/\Ln<=8/\(∀ o∈L,(zal n (t:Int)).inn=true->0<=k9)/\((zal n (t:Int)).inn=true->(mx:Int) < hops->SS=sdD n ps es k9 L)/\((zal n (t:Int)).inn=false∨hops<=(mx:Int)->SS=[])):=by
  refine ⟨fun o ho=>?_,hLn,by rw [<-hLn];exact hns.1,fun o ho hi=>hkp o ho hi,fun h1 h2=>hsq h1 h2,hs0⟩;have h9:=hns.2 o ho;exact ⟨h9.1,by rw [<-hnp];exact h9.2.1⟩
 have HX:Hid (ps.length=nx/\es.length=mx/\ps≠[]/\nx<=200/\mx<=64/\LI w xp ps/\LI w xe es/\ps.getLastD 0=(t:Int)):=⟨hxn,hxm,hps,by omega,by omega,hlip,hlie,ht⟩;have HNX0:=zab hnx;obtain ⟨B,hB⟩:=ex w.heap.size;obtain ⟨b4,hb4⟩:=ex (w.heap.size+1);obtain ⟨W1,hW1⟩:=ex ((w.alloc (.cells #[.int .i64 bits,.slice (some ⟨gq,oq,none⟩) np cp,.slice pt nt ct,.slice pg ng cg] 26)).alloc (.cells #[.slice xp nx xc,.slice xe mx xd,.string ⟨hd.toArray⟩] 37));have hz1:(w.alloc (.cells #[.int .i64 bits,.slice (some ⟨gq,oq,none⟩) np cp,.slice pt nt ct,.slice pg ng cg] 26)).heap.size=w.heap.size+1:=Array.size_push _;have b1:Below w.heap.size w W1:=by rw [<-hW1];exact zah (zah (Below.refl _ _) _) _
 have k1:W1.heap[B]?=some (.cells #[.int .i64 bits,.slice (some ⟨gq,oq,none⟩) np cp,.slice pt nt ct,.slice pg ng cg] 26 (0,0)):=by rw [<-hW1,<-hB];exact zae (zah (Below.refl _ _) _) (zaa _ _)
 have k2:W1.heap[b4]?=some (.cells #[.slice xp nx xc,.slice xe mx xd,.string ⟨hd.toArray⟩] 37 (0,0)):=by rw [<-hW1,<-hb4,<-hz1];exact zaa _ _
 have HC:Hid (∀ U,Below W1.heap.size W1 U->((U.cell? ⟨B,0,none⟩=some (.int .i64 bits)/\U.cell? ⟨B,1,none⟩=some (.slice (some ⟨gq,oq,none⟩) np cp)/\U.cell? ⟨B,2,none⟩=some (.slice pt nt ct)/\U.cell? ⟨B,3,none⟩=some (.slice pg ng cg))/\(U.cell? ⟨b4,0,none⟩=some (.slice xp nx xc)/\U.cell? ⟨b4,1,none⟩=some (.slice xe mx xd)/\U.cell? ⟨b4,2,none⟩=some (.string ⟨hd.toArray⟩)))/\Below w.heap.size w U):=fun U hU=>by
  have e1:=(zaf (zae hU k1)).1;have e2:=(zaf (zae hU k2)).1;exact ⟨⟨⟨by rw [e1];rfl,by rw [e1];rfl,by rw [e1];rfl,by rw [e1];rfl⟩,⟨by rw [e2];rfl,by rw [e2];rfl,by rw [e2];rfl⟩⟩,zac b1 hU⟩
 have HB:=zab hB;have HB4:=zab hb4;have HW1:=zab hW1;have j0:(0:Int)<=(t:Int):=by omega
 have j1:(t:Int) < (np:Int):=by omega
 clear hN hV hL hh hnb hpb hst hsq hs0 hnx hns hkp hps ht hlast hxn hxm hLn hpa hlip hlie hlp0 hnp hnt hng hbits hE htn hpt hB hb4 hW1 hz1 b1 k1 k2
 go_enter Tryz.func43,Tryz.ntmps43
 go_upto_region 2 with fail
 rw [HW1.out,HB4.out,HB.out];obtain ⟨⟨⟨q0,q1,q2,q3⟩,⟨x0,x1,x2⟩⟩,-⟩:=HC.out W1 (Below.refl _ _);have HEN:Hid (Calls Tryz.prog 46 #[.agg #[.slice xp nx xc,.slice xe mx xd,.string ⟨hd.toArray⟩]] W1 fun e w'=>e=.returned (.agg #[.int .i64 (t:Int),.string ⟨hd.toArray⟩])/\Below W1.heap.size W1 w'):=by
  have h9:=dend_any ps xp xe nx xc mx xd hd W1 HX.out.1 (HX.out.2.2.2.2.2.1.below (HC.out W1 (Below.refl _ _)).2) HX.out.2.2.1 (by have:=HX.out.2.2.2.1;omega);rw [HX.out.2.2.2.2.2.2.2] at h9;exact h9
 go_wp2_with fail
 refine (HEN.out).mono ?_;rintro e W2 ⟨rfl,b2⟩;have HB2:=zab b2;clear b2 q0 q1 q2 q3 x0 x1 x2;obtain ⟨b8,hb8⟩:=ex W2.heap.size;obtain ⟨W3,hW3⟩:=ex (W2.alloc (.cells #[.int .i64 (t:Int),.string ⟨hd.toArray⟩] 28));have b3:Below W1.heap.size W1 W3:=by rw [<-hW3];exact zah HB2.out _
 have k3:W3.heap[b8]?=some (.cells #[.int .i64 (t:Int),.string ⟨hd.toArray⟩] 28 (0,0)):=by rw [<-hW3,<-hb8];exact zaa _ _
 have HS:Hid (∀ U,Below W3.heap.size W3 U->(((U.cell? ⟨B,0,none⟩=some (.int .i64 bits)/\U.cell? ⟨B,1,none⟩=some (.slice (some ⟨gq,oq,none⟩) np cp)/\U.cell? ⟨B,2,none⟩=some (.slice pt nt ct)/\U.cell? ⟨B,3,none⟩=some (.slice pg ng cg))/\(U.cell? ⟨b4,0,none⟩=some (.slice xp nx xc)/\U.cell? ⟨b4,1,none⟩=some (.slice xe mx xd)/\U.cell? ⟨b4,2,none⟩=some (.string ⟨hd.toArray⟩)))/\(U.cell? ⟨b8,0,none⟩=some (.int .i64 (t:Int))/\U.cell? ⟨b8,1,none⟩=some (.string ⟨hd.toArray⟩)))/\Below w.heap.size w U):=fun U hU=>by
  have e1:=(zaf (zae hU k3)).1;have h9:=HC.out U (zac b3 hU);exact ⟨⟨h9.1,⟨by rw [e1];rfl,by rw [e1];rfl⟩⟩,h9.2⟩
 have HB8:=zab hb8;have HW3:=zab hW3;clear hb8 hW3 b3 k3
 go_upto_region 3 with fail
 simp only [HB8.out,HW3.out];obtain ⟨⟨⟨⟨q0,q1,q2,q3⟩,⟨x0,x1,x2⟩⟩,⟨s0,s1⟩⟩,hbw⟩:=HS.out W3 (Below.refl _ _);obtain ⟨a2,-⟩:=HPT.out W3 hbw t (by omega);obtain ⟨inn,hinn⟩:=ex ((zal n (t:Int)).inn);rw [hinn] at a2;have HI:=zab hinn;clear hinn;cases inn
 ·have HSS:=zab (HQ.out.2.2.2.2.2 (.inl HI.out))
  have HFF:=zab hbw;clear hbw
  go_wp2_with fail
  go_ret
  exact ⟨none,0,0,[],rfl,HSS.out.symm,rfl,World.ownsRow_nil _ _ _ _,(fun y hy=>by cases hy),HFF.out⟩
 ·by_cases hmh:hops<=(mx:Int)
  ·have HSS:=zab (HQ.out.2.2.2.2.2 (.inr hmh))
   have HFF:=zab hbw;have i0:(mx:Int) ≥ hops:=hmh;clear hbw
   go_wp2_with fail
   go_ret
   exact ⟨none,0,0,[],rfl,HSS.out.symm,rfl,World.ownsRow_nil _ _ _ _,(fun y hy=>by cases hy),HFF.out⟩
  ·have HSS:=zab (HQ.out.2.2.2.2.1 HI.out (by omega))
   have HNX:Hid (Calls Tryz.prog 68 #[.agg #[.int .i64 bits,.slice (some ⟨gq,oq,none⟩) np cp,.slice pt nt ct,.slice pg ng cg],.agg #[.int .i64 (t:Int),.string ⟨hd.toArray⟩]] W3 fun e w'=>∃ q c,e=.returned (.tuple #[.int .i64 k9,.slice q Ln c])/\RowL 2 asC w' q L/\Below W3.heap.size W3 w'):=by
    refine (HNX0.out W3 hbw).mono ?_;rintro e w' ⟨q,c,he,ho,hb⟩;rw [hLL,hk9] at he;rw [hLL] at ho;refine ⟨q,c,?_,zbm zr2 ho rfl,hb⟩;rw [he,HQ.out.2.1]
   clear hbw
   go_wp2_with fail
   refine (HNX.out).mono ?_;rintro e W5 ⟨ql,cl,rfl,hro,b5⟩;clear q0 q1 q2 q3 x0 x1 x2 s0 s1 a2;have HD:Hid (∀ U,Below W5.heap.size W5 U->((U.cell? ⟨B,1,none⟩=some (.slice (some ⟨gq,oq,none⟩) np cp)/\U.cell? ⟨b4,0,none⟩=some (.slice xp nx xc)/\U.cell? ⟨b4,1,none⟩=some (.slice xe mx xd)/\U.cell? ⟨b4,2,none⟩=some (.string ⟨hd.toArray⟩)))/\RowL 2 asC U ql L/\Below w.heap.size w U):=fun U hU=>by
    have h9:=HS.out U (zac b5 hU);exact ⟨⟨h9.1.1.1.2.1,h9.1.1.2.1,h9.1.1.2.2.1,h9.1.1.2.2.2⟩,hro.below hU,h9.2⟩
   clear hro b5
   go_wp2_with fail
   go_loopw [7,11] (fun v7 v11 wr=>∃ (i m:Nat) (q:Option Addr) (c:Nat) (V:List (WY×PV)),v11=.int .i64 (i:Int)/\v7=.slice q m c/\i<=Ln/\Hid (V.length=m/\m<=i/\V.map Prod.fst=sdD n ps es k9 (L.take i)/\wr.ownsRow W5.heap.size 37 3 (.slice q m c) m (V.flatMap paC)/\(∀ y∈V,PL wr y)/\Below W5.heap.size W5 wr)) (fun _ v11 _=>Ln - (intOf v11).toNat)
   case atStart=>exact ⟨0,0,none,0,[],rfl,rfl,Nat.zero_le _,rfl,Nat.le_refl _,by simp [sdD],World.ownsRow_nil _ _ _ _,(fun y hy=>by cases hy),Below.refl _ _⟩
   case round=>
    obtain ⟨i,m,q,c,V,rfl,rfl,hi,HR⟩:=hrel;have hl8:Ln<=8:=HQ.out.2.2.1
    by_cases hlt:i < Ln
    ·obtain ⟨⟨oq9,oh⟩,ho⟩:∃ o,L[i]?=some o:=⟨_,List.getElem?_eq_getElem (by have:=HQ.out.2.1;omega)⟩
     obtain ⟨tq,rfl⟩:∃ tq:Nat,oq9=(tq:Int):=⟨oq9.toNat,by have:=(HQ.out.1 _ (List.mem_of_getElem? ho)).1;simp only at this;omega⟩;have htq:tq < np:=by have:=(HQ.out.1 _ (List.mem_of_getElem? ho)).2;simp only at this;omega
     obtain ⟨⟨q1,x0,x1,x2⟩,hrow,hbw⟩:=HD.out wr HR.out.2.2.2.2.2;obtain ⟨gs,os,e9,hcx⟩:=hrow i _ ho;subst e9;have s0:wr.cell? ⟨gs,os+i*2,none⟩=some (.int .i64 (tq:Int)):=by
      have:=hcx 0 _ rfl
      rwa [Nat.add_zero] at this
     have s1:wr.cell? ⟨gs,os+i*2+1,none⟩=some (.string ⟨oh.toArray⟩):=hcx 1 _ rfl;obtain ⟨a2,a3⟩:=HPT.out wr hbw tq htq;obtain ⟨iq,hiq⟩:=ex ((zal n (tq:Int)).inn);obtain ⟨lk,hlk⟩:=ex ((zal n (tq:Int)).lk);rw [hiq] at a2;rw [hlk] at a3;have g0:(0:Int)<=(i:Int):=by omega
     have g1:(i:Int) < (Ln:Int):=by omega
     have g2:(0:Int)<=(tq:Int):=by omega
     have g3:(tq:Int) < (np:Int):=by omega
     cases iq
     ·have HO:=zab ho
      have HIQ:=zab hiq;have HLK:=zab hlk;have hk0:0<=k9:=HQ.out.2.2.2.1 _ (List.mem_of_getElem? ho) HI.out;have HK0:=zab hk0;have HCC:Hid (∀ U,Below wr.heap.size wr U->(U.cell? ⟨gs,os+i*2,none⟩=some (.int .i64 (tq:Int))/\U.cell? ⟨gs,os+i*2+1,none⟩=some (.string ⟨oh.toArray⟩)/\U.cell? ⟨gq,oq+tq*4+3,none⟩=some (.int .i64 lk))/\(U.cell? ⟨B,1,none⟩=some (.slice (some ⟨gq,oq,none⟩) np cp)/\U.cell? ⟨b4,0,none⟩=some (.slice xp nx xc)/\U.cell? ⟨b4,1,none⟩=some (.slice xe mx xd)/\U.cell? ⟨b4,2,none⟩=some (.string ⟨hd.toArray⟩))):=fun U hU=>⟨⟨zao hU s0,zao hU s1,zao hU a3⟩,(HD.out U (zac HR.out.2.2.2.2.2 hU)).1⟩;clear ho hiq hlk hrow hbw hcx s1 a3 x0 x1 x2 hk0 htq
      go_wp2_with fail
      go_quiet (fail)
      obtain ⟨w6,hw6⟩:=ex (wr.drewN nq);rw [hw6];have c6:Below wr.heap.size wr w6:=by rw [<-hw6];exact za1 nq (Below.refl _ _)
      have HW6:=zab c6;clear hw6 q1 s0 a2;obtain ⟨⟨s0,s1,a3⟩,⟨q1,x0,x1,x2⟩⟩:=HCC.out w6 c6;obtain ⟨r,hr⟩:=ex w6.heap.size;obtain ⟨w7,hw7⟩:=ex (w6.alloc (.cells #[.int .i64 (tq:Int)] 3 (0,0)));have c7:Below w6.heap.size w6 w7:=by rw [<-hw7];exact zah (Below.refl _ _) _
      have kr:w7.heap[r]?=some (.cells #[.int .i64 (tq:Int)] 3 (0,0)):=by rw [<-hw7,<-hr];exact zaa _ _
      have HRR:=zab hr;have HW7:=zab hw7;have HC7:Hid (Below wr.heap.size wr w7/\w7.heap[r]?=some (.cells #[.int .i64 (tq:Int)] 3 (0,0))/\r<=w7.heap.size/\wr.heap.size<=r):=⟨zac c6 c7,kr,Nat.le_of_lt (zap kr),by rw [<-hr];exact c6.size⟩;clear hr hw7 kr c6
      go_upto_region 11 with fail
      simp only [HRR.out,HW7.out];clear s0 s1 a3 q1 x0 x1 x2 c7;obtain ⟨⟨s0,s1,a3⟩,⟨q1,x0,x1,x2⟩⟩:=HCC.out w7 HC7.out.1
      go_quiet (fail)
      obtain ⟨w8,hw8⟩:=ex (w7.drewN nq);rw [hw8];have HC8:Hid (Below wr.heap.size wr w8/\w8.heap[r]?=some (.cells #[.int .i64 (tq:Int)] 3 (0,0))/\r<=w8.heap.size/\wr.heap.size<=r):=by
       rw [<-hw8];exact ⟨za1 nq HC7.out.1,HC7.out.2.1,HC7.out.2.2.1,HC7.out.2.2.2⟩
      clear hw8 s0 s1 a3 q1 x0 x1 x2
      by_cases hlk:0<=lk
      ·have hQ9:zp7 n (tq:Int)=[(tq:Int),lk]:=by unfold zp7;rw [HLK.out,if_pos hlk]
       obtain ⟨Q9,hQ8⟩:=ex ([(tq:Int),lk]);obtain ⟨q12,c12,W9,hr9,o9,d9,kp,-⟩:=zp4 (W:=w8.drew) lk (zmf (B:=r) HC8.out.2.1 (Nat.le_refl _)) HC8.out.2.2.1 rfl (by omega);obtain ⟨WA,hWA⟩:=ex (w8.drew.alloc (.cells #[.int .i64 lk] 3 (0,0)));have cA:Below w8.drew.heap.size w8.drew WA:=by rw [<-hWA];exact zah (Below.refl _ _) _
       rw [hWA] at hr9;have HWA:Hid ((w8.alloc (.cells #[.int .i64 lk] 3 (0,0))).drew=WA):=hWA;have c8:Below wr.heap.size wr w8.drew:=HC8.out.1.drew;have HBZ:Hid (Below wr.heap.size wr W9):=c8.trans (d9.mono HC8.out.2.2.2);have HIL:Hid (Q9.length=2/\LI W9 q12 Q9):=by
        rw [<-hQ8];have h9:IL W9 q12 2 c12 [(tq:Int),lk]:=zcb o9 rfl;exact ⟨rfl,h9.2.1⟩
       have i5:lk ≥ 0:=hlk;have hs0:(w8.drew.cell? ⟨gs,os+i*2,none⟩=some (.int .i64 (tq:Int))/\w8.drew.cell? ⟨gq,oq+tq*4+3,none⟩=some (.int .i64 lk))/\w8.drew.cell? ⟨B,1,none⟩=some (.slice (some ⟨gq,oq,none⟩) np cp):=⟨⟨(HCC.out _ c8).1.1,(HCC.out _ c8).1.2.2⟩,(HCC.out _ c8).2.1⟩;have hsA:(WA.cell? ⟨gs,os+i*2,none⟩=some (.int .i64 (tq:Int))/\WA.cell? ⟨gq,oq+tq*4+3,none⟩=some (.int .i64 lk))/\WA.cell? ⟨B,1,none⟩=some (.slice (some ⟨gq,oq,none⟩) np cp):=⟨⟨(HCC.out _ (zac c8 cA)).1.1,(HCC.out _ (zac c8 cA)).1.2.2⟩,(HCC.out _ (zac c8 cA)).2.1⟩;have hs9:(W9.cell? ⟨gs,os+i*2,none⟩=some (.int .i64 (tq:Int))/\W9.cell? ⟨gq,oq+tq*4+3,none⟩=some (.int .i64 lk))/\W9.cell? ⟨B,1,none⟩=some (.slice (some ⟨gq,oq,none⟩) np cp):=⟨⟨(HCC.out _ HBZ.out).1.1,(HCC.out _ HBZ.out).1.2.2⟩,(HCC.out _ HBZ.out).2.1⟩;rw [hQ8] at hQ9;clear hWA cA c8 o9 d9 kp hlk
       go_upto_region 12 with fail
       refine wp_region_held_drew (S:=fun U=>(U.cell? ⟨gs,os+i*2,none⟩=some (.int .i64 (tq:Int))/\U.cell? ⟨gq,oq+tq*4+3,none⟩=some (.int .i64 lk))/\U.cell? ⟨B,1,none⟩=some (.slice (some ⟨gq,oq,none⟩) np cp)) (by kernel_rfl) hs0 (fun _=>?_);refine tk 0 (.slice (some ⟨r,0,none⟩) 1 1) rfl hs0 ?_ ?_
       ·rintro w ⟨⟨s0,a3⟩,q1⟩;go_simp
       refine tk 1 (.pointer (some ⟨B,1,none⟩)) rfl hs0 ?_ ?_
       ·rintro w ⟨⟨s0,a3⟩,q1⟩;go_simp
       refine tk 2 (.slice (some ⟨gq,oq,none⟩) np cp) rfl hs0 ?_ ?_
       ·rintro w ⟨⟨s0,a3⟩,q1⟩;go_simp
       refine tk 3 (.slice (some ⟨gs,os,none⟩) Ln cl) rfl hs0 ?_ ?_
       ·rintro w ⟨⟨s0,a3⟩,q1⟩;go_simp
       refine tk 4 (.int .i64 (i:Int)) rfl hs0 ?_ ?_
       ·rintro w ⟨⟨s0,a3⟩,q1⟩;go_simp
       refine tk 5 (.pointer (some ⟨gs,os+i*2,none⟩)) rfl hs0 ?_ ?_
       ·rintro w ⟨⟨s0,a3⟩,q1⟩;go_simp
       refine tk 6 (.pointer (some ⟨gs,os+i*2,none⟩)) rfl hs0 ?_ ?_
       ·rintro w ⟨⟨s0,a3⟩,q1⟩;go_simp
       refine tk 7 (.int .i64 (tq:Int)) rfl hs0 ?_ ?_
       ·rintro w ⟨⟨s0,a3⟩,q1⟩;go_simp
       refine tk 8 (.pointer (some ⟨gq,oq+tq*4,none⟩)) rfl hs0 ?_ ?_
       ·rintro w ⟨⟨s0,a3⟩,q1⟩;go_simp
       refine tk 9 (.pointer (some ⟨gq,oq+tq*4+3,none⟩)) rfl hs0 ?_ ?_
       ·rintro w ⟨⟨s0,a3⟩,q1⟩;go_simp
       refine tk 10 (.int .i64 lk) rfl hs0 ?_ ?_
       ·rintro w ⟨⟨s0,a3⟩,q1⟩;go_simp
       refine rd 11 rfl fun KK hKK=>?_
       go_simp
       rw [HWA.out];refine hKK.out _ _ hsA (fun _=>?_);clear hKK KK;refine rd 12 rfl fun KK hKK=>?_;refine zd6 (by rfl) _ _ _ (by rfl) (by rfl) (by rfl) hr9 ?_;refine hKK.out _ _ hs9 (fun _=>?_);clear hKK KK;refine tk 13 (.slice q12 2 c12) rfl hs9 ?_ ?_
       ·rintro w ⟨⟨s0,a3⟩,q1⟩;go_simp
       refine wpAnyH_done (by kernel_rfl) ?_ _
       try simp only [List.getElem_toArray,List.getElem_cons_succ,List.getElem_cons_zero,Act.put,List.setIfInBounds_toArray,List.set_cons_zero,List.set_cons_succ]
       clear hs0 hsA hs9 hr9 i5;obtain ⟨wz,hwz⟩:∃ wz,wz=W9:=⟨_,rfl⟩;rw [<-hwz] at HBZ HIL ⊢;clear hwz;have HY:Hid (zp7 n (tq:Int)=Q9):=hQ9;have HMO:Hid (∀ U,Below wz.heap.size wz U->Calls Tryz.prog 69 #[.agg #[.slice xp nx xc,.slice xe mx xd,.string ⟨hd.toArray⟩],.slice q12 2 c12,.int .i64 k9,.string ⟨oh.toArray⟩] U fun e w'=>∃ (vy:PV) (u1:Option Addr) (yn z1:Nat) (u2:Option Addr) (ym z2:Nat),e=.returned (.agg #[.slice u1 yn z1,.slice u2 ym z2,.string ⟨oh.toArray⟩])/\(paC ((⟨ps++Q9,es++[k9],oh⟩:WY),vy)).toArray=#[.slice u1 yn z1,.slice u2 ym z2,.string ⟨oh.toArray⟩]/\PL w' (⟨ps++Q9,es++[k9],oh⟩,vy)/\Below U.heap.size U w'):=fun U hU=>by
        have hbw:=(HD.out U (zac HR.out.2.2.2.2.2 (zac HBZ.out hU))).2.2;have h9:=zmk ps es hd xp xe q12 nx xc mx xd 2 c12 Q9 k9 oh U HX.out.1 HX.out.2.1 HIL.out.1 (HX.out.2.2.2.2.2.1.below hbw) (HX.out.2.2.2.2.2.2.1.below hbw) (HIL.out.2.below hU) ⟨by have:=HX.out.2.2.2.1;omega,by have:=HX.out.2.2.2.2.1;omega,by omega⟩;rw [if_pos HK0.out] at h9;refine h9.mono ?_;rintro e w' ⟨vy,he,hp,hb⟩;exact ⟨vy,vy.pp,_,vy.cp,vy.pe,_,vy.ce,he,rfl,hp,hb⟩
       clear hQ9
       go_upto_region 13 with fail
       have hs0:wz.drew.cell? ⟨gs,os+i*2+1,none⟩=some (.string ⟨oh.toArray⟩)/\wz.drew.cell? ⟨b4,0,none⟩=some (.slice xp nx xc)/\wz.drew.cell? ⟨b4,1,none⟩=some (.slice xe mx xd)/\wz.drew.cell? ⟨b4,2,none⟩=some (.string ⟨hd.toArray⟩):=⟨(HCC.out _ (zac HBZ.out (Below.refl _ _).drew)).1.2.1,(HCC.out _ (zac HBZ.out (Below.refl _ _).drew)).2.2⟩;refine wp_region_held_drew (S:=fun U=>U.cell? ⟨gs,os+i*2+1,none⟩=some (.string ⟨oh.toArray⟩)/\U.cell? ⟨b4,0,none⟩=some (.slice xp nx xc)/\U.cell? ⟨b4,1,none⟩=some (.slice xe mx xd)/\U.cell? ⟨b4,2,none⟩=some (.string ⟨hd.toArray⟩)) (by kernel_rfl) hs0 (fun _=>?_);refine tk 0 (.slice q m c) rfl hs0 ?_ ?_
       ·rintro w ⟨s1,x0,x1,x2⟩;go_simp
       refine tk 1 (.agg #[.slice xp nx xc,.slice xe mx xd,.string ⟨hd.toArray⟩]) rfl hs0 ?_ ?_
       ·rintro w ⟨s1,x0,x1,x2⟩;go_simp
       refine tk 2 (.slice q12 2 c12) rfl hs0 ?_ ?_
       ·rintro w ⟨s1,x0,x1,x2⟩;go_simp
       refine tk 3 (.int .i64 k9) rfl hs0 ?_ ?_
       ·rintro w ⟨s1,x0,x1,x2⟩;go_simp
       refine tk 4 (.slice (some ⟨gs,os,none⟩) Ln cl) rfl hs0 ?_ ?_
       ·rintro w ⟨s1,x0,x1,x2⟩;go_simp
       refine tk 5 (.int .i64 (i:Int)) rfl hs0 ?_ ?_
       ·rintro w ⟨s1,x0,x1,x2⟩;go_simp
       refine tk 6 (.pointer (some ⟨gs,os+i*2,none⟩)) rfl hs0 ?_ ?_
       ·rintro w ⟨s1,x0,x1,x2⟩;go_simp
       refine tk 7 (.pointer (some ⟨gs,os+i*2+1,none⟩)) rfl hs0 ?_ ?_
       ·rintro w ⟨s1,x0,x1,x2⟩;go_simp
       refine tk 8 (.string ⟨oh.toArray⟩) rfl hs0 ?_ ?_
       ·rintro w ⟨s1,x0,x1,x2⟩;go_simp
       refine rd 9 rfl fun KK hKK=>?_
       go_simp
       refine (HMO.out _ (Below.refl _ _).drew).mono ?_;rintro en WM ⟨vy,u1,yn,z1,u2,ym,z2,rfl,hpa,hply,bM⟩;have cM:Below wr.heap.size wr WM:=zac (zac HBZ.out (Below.refl _ _).drew) bM;obtain ⟨m9,hm9⟩:=ex (m+1);obtain ⟨q9,c9,W9,hr9,o9,d9,kp⟩:=pushP (W:=WM) (x:=((⟨ps++Q9,es++[k9],oh⟩:WY),vy)) hpa (zaq HR.out.2.2.2.1 cM) (Nat.le_trans HR.out.2.2.2.2.2.size cM.size) hm9 (by have:=HR.out.2.1;omega);have cW9:Below W5.heap.size W5 W9:=(zac HR.out.2.2.2.2.2 cM).trans d9;obtain ⟨WA,hWB⟩:=ex (WM.alloc (.cells #[.slice u1 yn z1,.slice u2 ym z2,.string ⟨oh.toArray⟩] 37 (0,0)));have cA:Below WM.heap.size WM WA:=by rw [<-hWB];exact zah (Below.refl _ _) _
       rw [hWB] at hr9;have HWB:=zab hWB;have hs1:WM.cell? ⟨gs,os+i*2+1,none⟩=some (.string ⟨oh.toArray⟩)/\WM.cell? ⟨b4,0,none⟩=some (.slice xp nx xc)/\WM.cell? ⟨b4,1,none⟩=some (.slice xe mx xd)/\WM.cell? ⟨b4,2,none⟩=some (.string ⟨hd.toArray⟩):=⟨(HCC.out _ cM).1.2.1,(HCC.out _ cM).2.2⟩;have hsA:WA.cell? ⟨gs,os+i*2+1,none⟩=some (.string ⟨oh.toArray⟩)/\WA.cell? ⟨b4,0,none⟩=some (.slice xp nx xc)/\WA.cell? ⟨b4,1,none⟩=some (.slice xe mx xd)/\WA.cell? ⟨b4,2,none⟩=some (.string ⟨hd.toArray⟩):=⟨(HCC.out _ (zac cM cA)).1.2.1,(HCC.out _ (zac cM cA)).2.2⟩;have hs9:W9.cell? ⟨gs,os+i*2+1,none⟩=some (.string ⟨oh.toArray⟩)/\W9.cell? ⟨b4,0,none⟩=some (.slice xp nx xc)/\W9.cell? ⟨b4,1,none⟩=some (.slice xe mx xd)/\W9.cell? ⟨b4,2,none⟩=some (.string ⟨hd.toArray⟩):=by
        have hro:=(HD.out W9 cW9).2.1;obtain ⟨g8,o8,e8,hc8⟩:=hro i _ HO.out;simp only [Option.some.injEq,Addr.mk.injEq] at e8;obtain ⟨rfl,rfl,-⟩:=e8;exact ⟨hc8 1 _ rfl,(HD.out W9 cW9).1.2⟩
       have HNEW:Hid ((V++[((⟨ps++Q9,es++[k9],oh⟩:WY),vy)]).length=m9/\m9<=i+1/\(V++[((⟨ps++Q9,es++[k9],oh⟩:WY),vy)]).map Prod.fst=sdD n ps es k9 (L.take (i+1))/\W9.ownsRow W5.heap.size 37 3 (.slice q9 m9 c9) m9 ((V++[((⟨ps++Q9,es++[k9],oh⟩:WY),vy)]).flatMap paC)/\(∀ y∈V++[((⟨ps++Q9,es++[k9],oh⟩:WY),vy)],PL W9 y)/\Below W5.heap.size W5 W9):=by
        have hw:∀ (b:Nat) (cs:Array Value) (fr:Nat×Nat),WM.heap[b]?=some (.cells cs 3 fr)->W9.heap[b]?=some (.cells cs 3 fr):=fun b cs fr hh=>kp b _ hh (zqg (zaq HR.out.2.2.2.1 cM) hh);refine ⟨by rw [List.length_append,HR.out.1];exact hm9,by have:=HR.out.2.1;omega,?_,o9,?_,cW9⟩
        ·rw [List.map_append,HR.out.2.2.1,sd_yes HO.out HIQ.out,<-HY.out]
         rfl
        ·intro y hy
         rcases List.mem_append.1 hy with hy | hy
         ·exact ((HR.out.2.2.2.2.1 y hy).below cM).kp hw
         ·obtain rfl:=List.mem_singleton.1 hy
          exact hply.kp hw
       clear hpa hply bM cM cW9 o9 d9 kp hWB cA
       go_simp
       refine hKK.out _ _ hs1 (fun _=>?_);clear hKK KK;clear hs0;refine rd 10 rfl fun KK hKK=>?_
       go_simp
       rw [HWB.out];refine hKK.out _ _ hsA (fun _=>?_);clear hKK KK;refine rd 11 rfl fun KK hKK=>?_;refine zd6 (by rfl) _ _ _ (by rfl) (by rfl) (by rfl) hr9 ?_;refine hKK.out _ _ hs9 (fun _=>?_);clear hKK KK;refine tk 12 (.slice q9 m9 c9) rfl hs9 ?_ ?_
       ·rintro w ⟨s1,x0,x1,x2⟩;go_simp
       refine wpAnyH_done (by kernel_rfl) ?_ _
       try simp only [List.getElem_toArray,List.getElem_cons_succ,List.getElem_cons_zero,Act.put,List.setIfInBounds_toArray,List.set_cons_zero,List.set_cons_succ]
       clear hs1 hsA hs9 hr9;have hm8:m9=m+1:=hm9.symm
       go_wp2_with fail
       go_roundw
       case rel=>exact ⟨i+1,m9,q9,c9,V++[((⟨ps++Q9,es++[k9],oh⟩:WY),vy)],by go_num,rfl,by omega,HNEW.out⟩
       case measure=>simp [intOf];omega
      ·have hQ9:zp7 n (tq:Int)=[(tq:Int)]:=by unfold zp7;rw [HLK.out,if_neg hlk]
       obtain ⟨Q9,hQ8⟩:=ex ([(tq:Int)]);have HBZ:Hid (Below wr.heap.size wr w8):=HC8.out.1;have HIL:Hid (Q9.length=1/\LI w8 (some ⟨r,0,none⟩) Q9):=by
        rw [<-hQ8];exact ⟨rfl,(zjz HC8.out.2.1).2.1⟩
       have i5:¬lk ≥ 0:=hlk;rw [hQ8] at hQ9;clear hlk;have HY:Hid (zp7 n (tq:Int)=Q9):=hQ9;have HMO:Hid (∀ U,Below w8.heap.size w8 U->Calls Tryz.prog 69 #[.agg #[.slice xp nx xc,.slice xe mx xd,.string ⟨hd.toArray⟩],.slice (some ⟨r,0,none⟩) 1 1,.int .i64 k9,.string ⟨oh.toArray⟩] U fun e w'=>∃ (vy:PV) (u1:Option Addr) (yn z1:Nat) (u2:Option Addr) (ym z2:Nat),e=.returned (.agg #[.slice u1 yn z1,.slice u2 ym z2,.string ⟨oh.toArray⟩])/\(paC ((⟨ps++Q9,es++[k9],oh⟩:WY),vy)).toArray=#[.slice u1 yn z1,.slice u2 ym z2,.string ⟨oh.toArray⟩]/\PL w' (⟨ps++Q9,es++[k9],oh⟩,vy)/\Below U.heap.size U w'):=fun U hU=>by
        have hbw:=(HD.out U (zac HR.out.2.2.2.2.2 (zac HBZ.out hU))).2.2;have h9:=zmk ps es hd xp xe (some ⟨r,0,none⟩) nx xc mx xd 1 1 Q9 k9 oh U HX.out.1 HX.out.2.1 HIL.out.1 (HX.out.2.2.2.2.2.1.below hbw) (HX.out.2.2.2.2.2.2.1.below hbw) (HIL.out.2.below hU) ⟨by have:=HX.out.2.2.2.1;omega,by have:=HX.out.2.2.2.2.1;omega,by omega⟩;rw [if_pos HK0.out] at h9;refine h9.mono ?_;rintro e w' ⟨vy,he,hp,hb⟩;exact ⟨vy,vy.pp,_,vy.cp,vy.pe,_,vy.ce,he,rfl,hp,hb⟩
       clear hQ9
       go_upto_region 13 with fail
       have hs0:w8.drew.cell? ⟨gs,os+i*2+1,none⟩=some (.string ⟨oh.toArray⟩)/\w8.drew.cell? ⟨b4,0,none⟩=some (.slice xp nx xc)/\w8.drew.cell? ⟨b4,1,none⟩=some (.slice xe mx xd)/\w8.drew.cell? ⟨b4,2,none⟩=some (.string ⟨hd.toArray⟩):=⟨(HCC.out _ (zac HBZ.out (Below.refl _ _).drew)).1.2.1,(HCC.out _ (zac HBZ.out (Below.refl _ _).drew)).2.2⟩;refine wp_region_held_drew (S:=fun U=>U.cell? ⟨gs,os+i*2+1,none⟩=some (.string ⟨oh.toArray⟩)/\U.cell? ⟨b4,0,none⟩=some (.slice xp nx xc)/\U.cell? ⟨b4,1,none⟩=some (.slice xe mx xd)/\U.cell? ⟨b4,2,none⟩=some (.string ⟨hd.toArray⟩)) (by kernel_rfl) hs0 (fun _=>?_);refine tk 0 (.slice q m c) rfl hs0 ?_ ?_
       ·rintro w ⟨s1,x0,x1,x2⟩;go_simp
       refine tk 1 (.agg #[.slice xp nx xc,.slice xe mx xd,.string ⟨hd.toArray⟩]) rfl hs0 ?_ ?_
       ·rintro w ⟨s1,x0,x1,x2⟩;go_simp
       refine tk 2 (.slice (some ⟨r,0,none⟩) 1 1) rfl hs0 ?_ ?_
       ·rintro w ⟨s1,x0,x1,x2⟩;go_simp
       refine tk 3 (.int .i64 k9) rfl hs0 ?_ ?_
       ·rintro w ⟨s1,x0,x1,x2⟩;go_simp
       refine tk 4 (.slice (some ⟨gs,os,none⟩) Ln cl) rfl hs0 ?_ ?_
       ·rintro w ⟨s1,x0,x1,x2⟩;go_simp
       refine tk 5 (.int .i64 (i:Int)) rfl hs0 ?_ ?_
       ·rintro w ⟨s1,x0,x1,x2⟩;go_simp
       refine tk 6 (.pointer (some ⟨gs,os+i*2,none⟩)) rfl hs0 ?_ ?_
       ·rintro w ⟨s1,x0,x1,x2⟩;go_simp
       refine tk 7 (.pointer (some ⟨gs,os+i*2+1,none⟩)) rfl hs0 ?_ ?_
       ·rintro w ⟨s1,x0,x1,x2⟩;go_simp
       refine tk 8 (.string ⟨oh.toArray⟩) rfl hs0 ?_ ?_
       ·rintro w ⟨s1,x0,x1,x2⟩;go_simp
       refine rd 9 rfl fun KK hKK=>?_
       go_simp
       refine (HMO.out _ (Below.refl _ _).drew).mono ?_;rintro en WM ⟨vy,u1,yn,z1,u2,ym,z2,rfl,hpa,hply,bM⟩;have cM:Below wr.heap.size wr WM:=zac (zac HBZ.out (Below.refl _ _).drew) bM;obtain ⟨m9,hm9⟩:=ex (m+1);obtain ⟨q9,c9,W9,hr9,o9,d9,kp⟩:=pushP (W:=WM) (x:=((⟨ps++Q9,es++[k9],oh⟩:WY),vy)) hpa (zaq HR.out.2.2.2.1 cM) (Nat.le_trans HR.out.2.2.2.2.2.size cM.size) hm9 (by have:=HR.out.2.1;omega);have cW9:Below W5.heap.size W5 W9:=(zac HR.out.2.2.2.2.2 cM).trans d9;obtain ⟨WA,hWA⟩:=ex (WM.alloc (.cells #[.slice u1 yn z1,.slice u2 ym z2,.string ⟨oh.toArray⟩] 37 (0,0)));have cA:Below WM.heap.size WM WA:=by rw [<-hWA];exact zah (Below.refl _ _) _
       rw [hWA] at hr9;have HWA:=zab hWA;have hs1:WM.cell? ⟨gs,os+i*2+1,none⟩=some (.string ⟨oh.toArray⟩)/\WM.cell? ⟨b4,0,none⟩=some (.slice xp nx xc)/\WM.cell? ⟨b4,1,none⟩=some (.slice xe mx xd)/\WM.cell? ⟨b4,2,none⟩=some (.string ⟨hd.toArray⟩):=⟨(HCC.out _ cM).1.2.1,(HCC.out _ cM).2.2⟩;have hsA:WA.cell? ⟨gs,os+i*2+1,none⟩=some (.string ⟨oh.toArray⟩)/\WA.cell? ⟨b4,0,none⟩=some (.slice xp nx xc)/\WA.cell? ⟨b4,1,none⟩=some (.slice xe mx xd)/\WA.cell? ⟨b4,2,none⟩=some (.string ⟨hd.toArray⟩):=⟨(HCC.out _ (zac cM cA)).1.2.1,(HCC.out _ (zac cM cA)).2.2⟩;have hs9:W9.cell? ⟨gs,os+i*2+1,none⟩=some (.string ⟨oh.toArray⟩)/\W9.cell? ⟨b4,0,none⟩=some (.slice xp nx xc)/\W9.cell? ⟨b4,1,none⟩=some (.slice xe mx xd)/\W9.cell? ⟨b4,2,none⟩=some (.string ⟨hd.toArray⟩):=by
        have hro:=(HD.out W9 cW9).2.1;obtain ⟨g8,o8,e8,hc8⟩:=hro i _ HO.out;simp only [Option.some.injEq,Addr.mk.injEq] at e8;obtain ⟨rfl,rfl,-⟩:=e8;exact ⟨hc8 1 _ rfl,(HD.out W9 cW9).1.2⟩
       have HNEW:Hid ((V++[((⟨ps++Q9,es++[k9],oh⟩:WY),vy)]).length=m9/\m9<=i+1/\(V++[((⟨ps++Q9,es++[k9],oh⟩:WY),vy)]).map Prod.fst=sdD n ps es k9 (L.take (i+1))/\W9.ownsRow W5.heap.size 37 3 (.slice q9 m9 c9) m9 ((V++[((⟨ps++Q9,es++[k9],oh⟩:WY),vy)]).flatMap paC)/\(∀ y∈V++[((⟨ps++Q9,es++[k9],oh⟩:WY),vy)],PL W9 y)/\Below W5.heap.size W5 W9):=by
        have hw:∀ (b:Nat) (cs:Array Value) (fr:Nat×Nat),WM.heap[b]?=some (.cells cs 3 fr)->W9.heap[b]?=some (.cells cs 3 fr):=fun b cs fr hh=>kp b _ hh (zqg (zaq HR.out.2.2.2.1 cM) hh);refine ⟨by rw [List.length_append,HR.out.1];exact hm9,by have:=HR.out.2.1;omega,?_,o9,?_,cW9⟩
        ·rw [List.map_append,HR.out.2.2.1,sd_yes HO.out HIQ.out,<-HY.out]
         rfl
        ·intro y hy
         rcases List.mem_append.1 hy with hy | hy
         ·exact ((HR.out.2.2.2.2.1 y hy).below cM).kp hw
         ·obtain rfl:=List.mem_singleton.1 hy
          exact hply.kp hw
       clear hpa hply bM cM cW9 o9 d9 kp hWA cA
       go_simp
       refine hKK.out _ _ hs1 (fun _=>?_);clear hKK KK;clear hs0;refine rd 10 rfl fun KK hKK=>?_
       go_simp
       rw [HWA.out];refine hKK.out _ _ hsA (fun _=>?_);clear hKK KK;refine rd 11 rfl fun KK hKK=>?_;refine zd6 (by rfl) _ _ _ (by rfl) (by rfl) (by rfl) hr9 ?_;refine hKK.out _ _ hs9 (fun _=>?_);clear hKK KK;refine tk 12 (.slice q9 m9 c9) rfl hs9 ?_ ?_
       ·rintro w ⟨s1,x0,x1,x2⟩;go_simp
       refine wpAnyH_done (by kernel_rfl) ?_ _
       try simp only [List.getElem_toArray,List.getElem_cons_succ,List.getElem_cons_zero,Act.put,List.setIfInBounds_toArray,List.set_cons_zero,List.set_cons_succ]
       clear hs1 hsA hs9 hr9;have hm8:m9=m+1:=hm9.symm
       go_wp2_with fail
       go_roundw
       case rel=>exact ⟨i+1,m9,q9,c9,V++[((⟨ps++Q9,es++[k9],oh⟩:WY),vy)],by go_num,rfl,by omega,HNEW.out⟩
       case measure=>simp [intOf];omega
     ·have HSD:=zab (sd_no (ps:=ps) (es:=es) (k:=k9) ho hiq)
      clear ho hiq hlk hrow hbw hcx s1 a3 x0 x1 x2
      go_wp2_with fail
      go_quiet (fail)
      go_wp2_with fail
      go_roundw
      case rel=>exact ⟨i+1,m,q,c,V,by go_num,rfl,by omega,HR.out.1,by have:=HR.out.2.1;omega,by rw [HSD.out];exact HR.out.2.2.1,HR.out.2.2.2.1,HR.out.2.2.2.2.1,za1 nq HR.out.2.2.2.2.2⟩
      case measure=>simp [intOf];omega
    ·obtain rfl:i=Ln:=by omega
     have e9:L.take i=L:=List.take_of_length_le (by rw [HQ.out.2.1];exact Nat.le_refl _);have HFN:Hid (V.length=m/\V.map Prod.fst=SS/\wr.ownsRow w.heap.size 37 3 (.slice q m c) m (V.flatMap paC)/\(∀ y∈V,PL wr y)/\Below w.heap.size w wr):=by
      have h9:=HR.out;rw [e9] at h9;exact ⟨h9.1,by rw [HSS.out];exact h9.2.2.1,own_less h9.2.2.2.1 (HD.out W5 (Below.refl _ _)).2.2.size,h9.2.2.2.2.1,(HD.out wr h9.2.2.2.2.2).2.2⟩
     have j3:¬(i:Int) < (i:Int):=by omega
     clear e9
     go_wp2_with fail
     go_ret
     exact ⟨q,m,c,V,HFN.out.1,HFN.out.2.1,rfl,HFN.out.2.2.1,HFN.out.2.2.2.1,HFN.out.2.2.2.2⟩
end Go.Proofs.YtmfakcfmkmppfaaGreatDoor.Nt
