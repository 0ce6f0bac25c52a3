import Derived.Test.YtmfakcfmkmppfaaGreatDoorVBJ
namespace Go.Proofs.YtmfakcfmkmppfaaGreatDoor.Nt
open Go.RowKit Go.Shelf
def KW (q:Value) (w U:World):Prop:=(∀ (b:Nat) (o:Obj),w.heap[b]?=some o->q.ownBlock≠some b->U.heap[b]?=some o)/\w.heap.size<=U.heap.size
def KO (q q':Value) (w:World):Prop:=∀ b:Nat,q'.ownBlock=some b->q.ownBlock=some b∨w.heap.size<=b
theorem KW.refl (q:Value) (w:World):KW q w w:=⟨fun _ _ h _=>h,Nat.le_refl _⟩
theorem KW.bel {q:Value} {w U:World} (h:Below w.heap.size w U):KW q w U:=⟨fun _ _ hb _=>zae h hb,h.size⟩
theorem KW.trans {q q':Value} {w U V:World} (h:KW q w U) (ho:KO q q' w) (g:KW q' U V):KW q w V:=
 ⟨fun b o hb hn=>g.1 b o (h.1 b o hb hn) (fun e=>(ho b e).elim hn (fun h9=>absurd (zap hb) (Nat.not_lt.2 h9))),Nat.le_trans h.2 g.2⟩
theorem KO.refl (q:Value) (w:World):KO q q w:=fun _ h=>.inl h
theorem KO.trans {q q' q2:Value} {w U:World} (h:KO q q' w) (hs:w.heap.size<=U.heap.size) (g:KO q' q2 U):KO q q2 w:=fun b e=>(g b e).elim (h b) (fun h9=>.inr (Nat.le_trans hs h9))
theorem KO.back {q q':Value} {w U:World} (h:KO q q' U) (hs:w.heap.size<=U.heap.size):KO q q' w:=fun b e=>(h b e).imp id (Nat.le_trans hs)
theorem own_kw {W U:World} {B T s n:Nat} {v:Value} {xs:List Value} (h:W.ownsRow B T s v n xs) (hk:∀ (b:Nat) (o:Obj),v.ownBlock=some b->W.heap[b]?=some o->U.heap[b]?=some o):U.ownsRow B T s v n xs:=
 ⟨h.1,h.2.imp id fun ⟨g,cap,cur,e,hg,hb,r⟩=>⟨g,cap,cur,e,hg,hk g _ (by rw [e];rfl) hb,r⟩⟩
theorem KW.pl {q:Value} {w U:World} (h:KW q w U) {B n:Nat} {xs:List Value} (ho:w.ownsRow B 37 3 q n xs) {y:WY×PV} (hy:PL w y):PL U y:=hy.kp fun b _ _ hh=>h.1 b _ hh (zqg ho hh)
theorem pushP2 {W:World} {B:Nat} {p:Option Addr} {n n9 c:Nat} {V:List (WY×PV)} {x:WY×PV} {cs:Array Value} (h9:(paC x).toArray=cs) (h:W.ownsRow B 37 3 (.slice p n c) n (V.flatMap paC)) (hB:B<=W.heap.size) (hn:n+1=n9) (hO:n9*64<=140737488355328) :
  ∃ q c9 W9,(Builtin.append_ #[30,30] 30 #[.slice p n c,.slice (some ⟨W.heap.size,0,none⟩) 1 1]).run Tryz.prog (W.alloc (.cells cs 37 (0,0)))=.ok (.slice q n9 c9) W9/\W9.ownsRow B 37 3 (.slice q n9 c9) n9 ((V++[x]).flatMap paC)/\Below B W W9/\KW (.slice p n c) W W9/\KO (.slice p n c) (.slice q n9 c9) W:=by
 subst hn;subst h9;obtain ⟨i0,hi,hz0,hz1,hz2⟩:=info_parts zq2;obtain ⟨q,c9,W9,hr,o9,b9,kp,kq⟩:=zhn (W:=W) (TS:=30) (cs:=(paC x).toArray) Tryz.underlying30 hi hz0 hz1 hz2 rfl (by decide) h hB rfl (zqe x) hO (by omega);refine ⟨q,c9,W9,hr,?_,b9,⟨kp,b9.size⟩,kq⟩;rw [List.flatMap_append]
 simpa using o9
theorem stp_len {n:NN} {hops:Int} {x:WY} (hV:NetP n) (hx:WYP n hops 1 x):(zh8 n hops x).length<=4:=by
 unfold zh8 zes;rw [List.length_map]
 split
 ·rw [List.length_map]
  exact (zg5 hV hx.st.1 hx.st.2.1 hx.st.2.2).1
 ·exact Nat.zero_le _
def WHQ (w0:World) (q:Value) (R:List WY) (w:World) (e:Ending) (w':World):Prop:=∃ (q':Option Addr) (m' c':Nat) (V':List (WY×PV)),V'.length=m'/\V'.map Prod.fst=R/\e=.returned (.slice q' m' c')/\w'.ownsRow w0.heap.size 37 3 (.slice q' m' c') m' (V'.flatMap paC)/\(∀ y∈V',PL w' y)/\Below w0.heap.size w0 w'/\KW q w w'/\KO q (.slice q' m' c') w
def WHC (n:NN) (v:NV) (hops:Int) (M:Nat) (w0:World) (f:Nat):Prop:=∀ (x:WY) (pv:PV) (V:List (WY×PV)) (q:Option Addr) (m c:Nat) (w:World),WYP n hops 1 x->hops<=(x.es.length:Int)+(f:Int)->PL w (x,pv)->Below w0.heap.size w0 w->V.length=m->w.ownsRow w0.heap.size 37 3 (.slice q m c) m (V.flatMap paC)->(∀ y∈V,PL w y)->Calls Tryz.prog 22 #[.agg (nnA n v),.agg (paC (x,pv)).toArray,.int .i64 hops,.int .i64 (M:Int),.slice q m c] w (WHQ w0 (.slice q m c) (zja M (V.map Prod.fst) (zi9 n hops f x)) w)
set_option maxRecDepth 100000 in
set_option maxHeartbeats 16000000 in
theorem zhi (n:NN) (v:NV) (hops:Int) (M:Nat) (w0:World) (hN:LN w0 n v) (hV:NetP n) (h64:hops<=64) (hM:M<=100000) (f:Nat) (hih:∀ g,f=g+1->WHC n v hops M w0 g):WHC n v hops M w0 f:=by
 intro x pv V q m c w hx hf hL hb0 hVm hown hVL;have hsp:=fun (U:World) (hU:Below w.heap.size w U)=>zoe n v x pv hops U (hN.below (zac hb0 hU)) hV hx (hL.below hU) h64;obtain ⟨R,hR⟩:=ex (zja M (V.map Prod.fst) (zi9 n hops f x));obtain ⟨SL,hSL⟩:=ex (zh8 n hops x);rw [hR];rw [hSL] at hsp;have HSL:Hid (∀ y∈SL,WYP n hops 1 y/\y.es.length=x.es.length+1):=by
  rw [<-hSL];exact fun y hy=>stp_mem hV hx hy
 have HSN:Hid (SL.length<=4):=by
  rw [<-hSL];exact stp_len hV hx
 have HR0:Hid (M<=m->R=V.map Prod.fst):=fun h=>by rw [<-hR];exact put_full (by rw [List.length_map,hVm];exact h) _
 have HR1:Hid (SL=[]->¬M<=m->R=V.map Prod.fst++[x]):=fun h h2=>by
  rw [<-hR,wll_nil (by rw [hSL,h]) f,put_one (by rw [List.length_map,hVm];exact h2)]
 have HR2:Hid (SL≠[]->∃ g,f=g+1/\R=zja M (V.map Prod.fst) (SL.flatMap (zi9 n hops g))):=fun h=>by
  cases f with
  | zero=>exact absurd (by rw [<-hSL];exact zl6 hx (by simpa using hf)) h
  | succ g=>exact ⟨g,rfl,by rw [<-hR,wll_more (by rw [hSL];exact h) g,hSL]⟩
 have HFX:Hid (hops<=(x.es.length:Int)+(f:Int)):=hf;obtain ⟨mx,hxes⟩:=ex x.es.length;rw [hxes] at HSL HFX;have HPX:Hid (∃ v:PV,v=pv/\∀ U,Below w.heap.size w U->PL U (x,pv)):=⟨pv,rfl,fun U hU=>hL.below hU⟩;have HCS:Hid ((paC (x,pv)).toArray=#[.slice pv.pp x.ps.length pv.cp,.slice pv.pe x.es.length pv.ce,.string ⟨x.hd.toArray⟩]):=rfl;have HIH:Hid (∀ g,f=g+1->WHC n v hops M w0 g):=hih;have HV:Hid (V.length=m/\w.ownsRow w0.heap.size 37 3 (.slice q m c) m (V.flatMap paC)/\(∀ y∈V,PL w y)/\Below w0.heap.size w0 w):=⟨hVm,hown,hVL,hb0⟩;obtain ⟨ps,es,hd⟩:=x;obtain ⟨xp,xc,xe,xd⟩:=pv;simp only at hxes;obtain ⟨nx,hxn⟩:=ex ps.length;have hpa:(paC ((⟨ps,es,hd⟩:WY),(⟨xp,xc,xe,xd⟩:PV))).toArray=#[.slice xp nx xc,.slice xe mx xd,.string ⟨hd.toArray⟩]:=by
  show #[Value.slice xp ps.length xc,Value.slice xe es.length xd,Value.string ⟨hd.toArray⟩]=_;rw [hxn,hxes]
 rw [hpa] at hsp ⊢;obtain ⟨X,hX⟩:∃ X:WY×PV,((⟨ps,es,hd⟩:WY),(⟨xp,xc,xe,xd⟩:PV))=X:=⟨_,rfl⟩;have HX:Hid ((paC X).toArray=#[.slice xp nx xc,.slice xe mx xd,.string ⟨hd.toArray⟩]/\X.1=⟨ps,es,hd⟩/\∀ U,Below w.heap.size w U->PL U X):=by
  rw [<-hX];exact ⟨hpa,rfl,fun U hU=>hL.below hU⟩
 obtain ⟨pp,cp,pt,ct,pg,cg⟩:=v;obtain ⟨np,hnp⟩:=ex n.ports.length;obtain ⟨nt,hnt⟩:=ex n.tabs.length;obtain ⟨ng,hng⟩:=ex n.grds.length;obtain ⟨bits,hbits⟩:∃ bits,n.bits=bits:=⟨_,rfl⟩;have hE:nnA n ⟨pp,cp,pt,ct,pg,cg⟩=#[.int .i64 bits,.slice pp np cp,.slice pt nt ct,.slice pg ng cg]:=by unfold nnA;rw [hnp,hnt,hng,hbits]
 rw [hE] at hsp ⊢;have HE:=zab hE;obtain ⟨B,hB⟩:=ex w.heap.size;obtain ⟨b6,hb6⟩:=ex (w.heap.size+1);obtain ⟨W1,hW1⟩:=ex ((w.alloc (.cells #[.int .i64 bits,.slice pp np cp,.slice pt nt ct,.slice pg ng cg] 26)).alloc (.cells #[.slice xp nx xc,.slice xe mx xd,.string ⟨hd.toArray⟩] 37));have hz1:(w.alloc (.cells #[.int .i64 bits,.slice pp np cp,.slice pt nt ct,.slice pg ng cg] 26)).heap.size=w.heap.size+1:=Array.size_push _;have b1:Below w.heap.size w W1:=by rw [<-hW1];exact zah (zah (Below.refl _ _) _) _
 have k1:W1.heap[B]?=some (.cells #[.int .i64 bits,.slice pp np cp,.slice pt nt ct,.slice pg ng cg] 26 (0,0)):=by rw [<-hW1,<-hB];exact zae (zah (Below.refl _ _) _) (zaa _ _)
 have k2:W1.heap[b6]?=some (.cells #[.slice xp nx xc,.slice xe mx xd,.string ⟨hd.toArray⟩] 37 (0,0)):=by rw [<-hW1,<-hb6,<-hz1];exact zaa _ _
 have HC:Hid (W1.heap[B]?=some (.cells #[.int .i64 bits,.slice pp np cp,.slice pt nt ct,.slice pg ng cg] 26 (0,0))/\W1.heap[b6]?=some (.cells #[.slice xp nx xc,.slice xe mx xd,.string ⟨hd.toArray⟩] 37 (0,0))/\Below w.heap.size w W1/\w.heap.size<=B/\w.heap.size<=b6):=⟨k1,k2,b1,by omega,by omega⟩;have e1:=(zaf k1).1;have e2:=(zaf k2).1;obtain ⟨⟨q0,q1,q2,q3⟩,⟨x0,x1,x2⟩⟩:(W1.cell? ⟨B,0,none⟩=some (.int .i64 bits)/\W1.cell? ⟨B,1,none⟩=some (.slice pp np cp)/\W1.cell? ⟨B,2,none⟩=some (.slice pt nt ct)/\W1.cell? ⟨B,3,none⟩=some (.slice pg ng cg))/\(W1.cell? ⟨b6,0,none⟩=some (.slice xp nx xc)/\W1.cell? ⟨b6,1,none⟩=some (.slice xe mx xd)/\W1.cell? ⟨b6,2,none⟩=some (.string ⟨hd.toArray⟩)):=⟨⟨by rw [e1];rfl,by rw [e1];rfl,by rw [e1];rfl,by rw [e1];rfl⟩,⟨by rw [e2];rfl,by rw [e2];rfl,by rw [e2];rfl⟩⟩;have HSP:=zab (hsp W1 b1);have HF0:Hid (Below w0.heap.size w0 W1):=zac hb0 b1;have HB:=zab hB;have HB6:=zab hb6;have HW1:=zab hW1;clear hx hf hL hb0 hVm hown hVL hsp hR hSL hih hxes hxn hpa hX hnp hnt hng hbits hE hB hb6 hW1 hz1 b1 k1 k2 e1 e2;clear HPX HCS
 go_enter Tryz.func22,Tryz.ntmps22
 go_upto_region 1 with fail
 rw [HW1.out,HB6.out,HB.out]
 by_cases hmm:(M:Int)<=(m:Int)
 ·have HRR:=zab (HR0.out (by omega))
  have i0:(m:Int) ≥ (M:Int):=hmm;have HFN:Hid ((∀ y∈V,PL W1 y)/\W1.ownsRow w0.heap.size 37 3 (.slice q m c) m (V.flatMap paC)):=⟨fun y hy=>(HV.out.2.2.1 y hy).below HC.out.2.2.1,zaq HV.out.2.1 HC.out.2.2.1⟩;clear q0 q1 q2 q3 x0 x1 x2
  go_wp2_with fail
  go_ret
  exact ⟨q,m,c,V,HV.out.1,HRR.out.symm,rfl,HFN.out.2,HFN.out.1,HF0.out,KW.bel HC.out.2.2.1,KO.refl _ _⟩
 ·have i0:¬(m:Int) ≥ (M:Int):=hmm
  go_wp2_with fail
  refine (HSP.out).mono ?_;rintro e W2 ⟨qs,ms,cs9,S,hSm,hSf,rfl,hSo,hSP,b2⟩;have HB2:Hid (Below W1.heap.size W1 W2/\Below w.heap.size w W2/\Below w0.heap.size w0 W2):=⟨b2,zac HC.out.2.2.1 b2,zac HF0.out b2⟩;have HS:Hid (S.length=ms/\S.map Prod.fst=SL/\W2.ownsRow W1.heap.size 37 3 (.slice qs ms cs9) ms (S.flatMap paC)/\∀ y∈S,PL W2 y):=⟨hSm,hSf,hSo,hSP⟩;have HO2:Hid (W2.ownsRow w0.heap.size 37 3 (.slice q m c) m (V.flatMap paC)/\(∀ y∈V,PL W2 y)):=⟨zaq HV.out.2.1 HB2.out.2.1,fun y hy=>(HV.out.2.2.1 y hy).below HB2.out.2.1⟩;clear q0 q1 q2 q3 x0 x1 x2 hSm hSf hSo hSP b2
  by_cases hms:ms=0
  ·subst hms
   have hnil:SL=[]:=by
    rw [<-HS.out.2.1,List.length_eq_zero_iff.1 HS.out.1];rfl
   have HRR:=zab (HR1.out hnil (by omega));clear hnil;obtain ⟨m9,hm9⟩:=ex (m+1);obtain ⟨q9,c9,W9,hr9,o9,d9,kw,ko⟩:=pushP2 (W:=W2) (x:=X) HX.out.1 HO2.out.1 HB2.out.2.2.size hm9 (by omega);have e2:=(zaf (zae HB2.out.1 HC.out.2.1)).1;obtain ⟨x0,x1,x2⟩:(W2.cell? ⟨b6,0,none⟩=some (.slice xp nx xc)/\W2.cell? ⟨b6,1,none⟩=some (.slice xe mx xd)/\W2.cell? ⟨b6,2,none⟩=some (.string ⟨hd.toArray⟩)):=⟨by rw [e2];rfl,by rw [e2];rfl,by rw [e2];rfl⟩;have HFN:Hid (WHQ w0 (.slice q m c) R w (.returned (.slice q9 m9 c9)) W9):=by
    refine ⟨q9,m9,c9,V++[X],by rw [List.length_append,HV.out.1];exact hm9,?_,rfl,o9,?_,HB2.out.2.2.trans d9,KW.trans (KW.bel HB2.out.2.1) (KO.refl _ _) kw,ko.back HB2.out.2.1.size⟩
    ·rw [List.map_append,HRR.out]
     show _++[X.1]=_;rw [HX.out.2.1]
    ·intro y hy
     rcases List.mem_append.1 hy with hy | hy
     ·exact kw.pl HO2.out.1 (HO2.out.2 y hy)
     ·obtain rfl:=List.mem_singleton.1 hy
      exact kw.pl HO2.out.1 (HX.out.2.2 W2 HB2.out.2.1)
   clear o9 d9 kw ko e2 hm9
   go_wp2_with (at_builtin;refine zc0 rfl _ _ _ rfl rfl rfl hr9 ?_)
   go_ret
   exact HFN.out
  ·have i1:((ms:Int)==0)=false:=by simp;omega
   have hne:SL≠[]:=by
    intro h9;have h8:=HS.out.2.1;rw [h9] at h8;have:=HS.out.1;rw [List.map_eq_nil_iff.1 h8] at this;exact hms this.symm
   obtain ⟨g,hfg,hRg⟩:=HR2.out hne;have HRG:=zab hRg;have HIG:Hid (WHC n ⟨pp,cp,pt,ct,pg,cg⟩ hops M w0 g):=HIH.out g hfg;have HFG:Hid (f=g+1):=hfg;clear hne hRg hfg hms;have HKC:Hid (∀ U,KW (.slice q m c) W2 U->(U.cell? ⟨B,0,none⟩=some (.int .i64 bits)/\U.cell? ⟨B,1,none⟩=some (.slice pp np cp)/\U.cell? ⟨B,2,none⟩=some (.slice pt nt ct)/\U.cell? ⟨B,3,none⟩=some (.slice pg ng cg))/\RowL 3 paC U qs S/\(∀ y∈S,PL U y)):=fun U hU=>by
    have hlow:∀ b,w.heap.size<=b->(Value.slice q m c).ownBlock≠some b:=fun b hb e=>by
     have h9:b < w.heap.size:=by
      rcases HV.out.2.1.2 with ⟨e1,-⟩ | ⟨g1,cap,cur,e1,-,hg,-⟩
      ·rw [e1] at e;cases e
      ·rw [e1] at e
       have e':g1=b:=Option.some.inj e;rw [<-e'];exact zap hg
     omega
    have e1:=(zaf (hU.1 B _ (zae HB2.out.1 HC.out.1) (hlow B HC.out.2.2.2.1))).1;refine ⟨⟨by rw [e1];rfl,by rw [e1];rfl,by rw [e1];rfl,by rw [e1];rfl⟩,?_,fun y hy=>hU.pl HO2.out.1 (HS.out.2.2.2 y hy)⟩;exact zbm zqf (own_kw HS.out.2.2.1 (fun b o9 he hb=>hU.1 b o9 hb (hlow b (Nat.le_trans HC.out.2.2.1.size (own_ge HS.out.2.2.1 b he))))) HS.out.1
   go_wp2_with fail
   go_loopw [4,12] (fun v4 v12 wr=>∃ (i m2:Nat) (q2:Option Addr) (c2:Nat) (V2:List (WY×PV)),v12=.int .i64 (i:Int)/\v4=.slice q2 m2 c2/\i<=ms/\Hid (V2.length=m2/\V2.map Prod.fst=zja M (V.map Prod.fst) ((SL.take i).flatMap (zi9 n hops g))/\wr.ownsRow w0.heap.size 37 3 (.slice q2 m2 c2) m2 (V2.flatMap paC)/\(∀ y∈V2,PL wr y)/\Below w0.heap.size w0 wr/\KW (.slice q m c) W2 wr/\KO (.slice q m c) (.slice q2 m2 c2) W2)) (fun _ v12 _=>ms - (intOf v12).toNat)
   case atStart=>exact ⟨0,m,q,c,V,rfl,rfl,Nat.zero_le _,HV.out.1,by rw [List.take_zero,List.flatMap_nil,put_none],HO2.out.1,HO2.out.2,HB2.out.2.2,KW.refl _ _,KO.refl _ _⟩
   case round=>
    obtain ⟨i,m2,q2,c2,V2,rfl,rfl,hi,HR⟩:=hrel;have hms8:ms<=4:=by
     have h9:=HSN.out;rw [<-HS.out.2.1,List.length_map,HS.out.1] at h9;exact h9
    by_cases hlt:i < ms
    ·obtain ⟨⟨⟨yp,ye,yh⟩,⟨v1,e1,v2,e2⟩⟩,hy⟩:∃ y,S[i]?=some y:=⟨_,List.getElem?_eq_getElem (by have:=HS.out.1;omega)⟩
     have hysl:SL[i]?=some ⟨yp,ye,yh⟩:=by
      rw [<-HS.out.2.1,List.getElem?_map,hy];rfl
     obtain ⟨hnb,hrow,hpls⟩:=HKC.out wr HR.out.2.2.2.2.2.1;have hply:=hpls _ (List.mem_of_getElem? hy);obtain ⟨gs,os,e9,hcx⟩:=hrow i _ hy;subst e9;obtain ⟨yn,hyn⟩:=ex yp.length;obtain ⟨ym,hym⟩:=ex ye.length;have hs0:(wr.drew.cell? ⟨B,0,none⟩=some (.int .i64 bits)/\wr.drew.cell? ⟨B,1,none⟩=some (.slice pp np cp)/\wr.drew.cell? ⟨B,2,none⟩=some (.slice pt nt ct)/\wr.drew.cell? ⟨B,3,none⟩=some (.slice pg ng cg))/\(wr.drew.cell? ⟨gs,os+i*3,none⟩=some (.slice v1 yn e1)/\wr.drew.cell? ⟨gs,os+i*3+1,none⟩=some (.slice v2 ym e2)/\wr.drew.cell? ⟨gs,os+i*3+2,none⟩=some (.string ⟨yh.toArray⟩)):=⟨hnb,by have:=hcx 0 _ rfl;rw [Nat.add_zero,hyn] at this;exact this,by have:=hcx 1 _ rfl;rw [hym] at this;exact this,hcx 2 _ rfl⟩;have hpy:(paC ((⟨yp,ye,yh⟩:WY),(⟨v1,e1,v2,e2⟩:PV))).toArray=#[.slice v1 yn e1,.slice v2 ym e2,.string ⟨yh.toArray⟩]:=by
      show #[Value.slice v1 yp.length e1,Value.slice v2 ye.length e2,Value.string ⟨yh.toArray⟩]=_;rw [hyn,hym]
     have HCL:Hid (Calls Tryz.prog 22 #[.agg #[.int .i64 bits,.slice pp np cp,.slice pt nt ct,.slice pg ng cg],.agg #[.slice v1 yn e1,.slice v2 ym e2,.string ⟨yh.toArray⟩],.int .i64 hops,.int .i64 (M:Int),.slice q2 m2 c2] wr.drew (WHQ w0 (.slice q2 m2 c2) (zja M (V.map Prod.fst) ((SL.take (i+1)).flatMap (zi9 n hops g))) wr.drew)):=by
      have hw:=HSL.out _ (List.mem_of_getElem? hysl);have h9:=HIG.out ⟨yp,ye,yh⟩ ⟨v1,e1,v2,e2⟩ V2 q2 m2 c2 wr.drew hw.1 (by have h1:=HFX.out;have h2:=HFG.out;have h3:=hw.2;omega) (hply.below (Below.refl _ _).drew) HR.out.2.2.2.2.1.drew HR.out.1 HR.out.2.2.1 (fun y hy=>(HR.out.2.2.2.1 y hy).below (Below.refl _ _).drew);rw [HE.out,hpy,HR.out.2.1,put_put] at h9;have e8:(SL.take i).flatMap (zi9 n hops g)++zi9 n hops g ⟨yp,ye,yh⟩=(SL.take (i+1)).flatMap (zi9 n hops g):=by
       rw [List.take_add_one,hysl,List.flatMap_append];simp
      rw [e8] at h9;exact h9
     have HSI:Hid (S[i]?=some ((⟨yp,ye,yh⟩:WY),(⟨v1,e1,v2,e2⟩:PV))/\yp.length=yn/\ye.length=ym):=⟨hy,hyn,hym⟩;have g0:(0:Int)<=(i:Int):=by omega
     have g1:(i:Int) < (ms:Int):=by omega
     clear hy hysl hnb hrow hpls hply hcx hyn hym hpy
     go_upto_region 10 with fail
     refine wp_region_held_drew (S:=fun U=>(U.cell? ⟨B,0,none⟩=some (.int .i64 bits)/\U.cell? ⟨B,1,none⟩=some (.slice pp np cp)/\U.cell? ⟨B,2,none⟩=some (.slice pt nt ct)/\U.cell? ⟨B,3,none⟩=some (.slice pg ng cg))/\(U.cell? ⟨gs,os+i*3,none⟩=some (.slice v1 yn e1)/\U.cell? ⟨gs,os+i*3+1,none⟩=some (.slice v2 ym e2)/\U.cell? ⟨gs,os+i*3+2,none⟩=some (.string ⟨yh.toArray⟩))) (by kernel_rfl) hs0 (fun _=>?_);refine tk 0 (.agg #[.int .i64 bits,.slice pp np cp,.slice pt nt ct,.slice pg ng cg]) rfl hs0 ?_ ?_
     ·rintro w ⟨⟨z0,z1,z2,z3⟩,⟨y0,y1,y2⟩⟩;go_simp
     refine tk 1 (.slice (some ⟨gs,os,none⟩) ms cs9) rfl hs0 ?_ ?_
     ·rintro w ⟨⟨z0,z1,z2,z3⟩,⟨y0,y1,y2⟩⟩;go_simp
     refine tk 2 (.int .i64 (i:Int)) rfl hs0 ?_ ?_
     ·rintro w ⟨⟨z0,z1,z2,z3⟩,⟨y0,y1,y2⟩⟩;go_simp
     refine tk 3 (.pointer (some ⟨gs,os+i*3,none⟩)) rfl hs0 ?_ ?_
     ·rintro w ⟨⟨z0,z1,z2,z3⟩,⟨y0,y1,y2⟩⟩;go_simp
     refine tk 4 (.agg #[.slice v1 yn e1,.slice v2 ym e2,.string ⟨yh.toArray⟩]) rfl hs0 ?_ ?_
     ·rintro w ⟨⟨z0,z1,z2,z3⟩,⟨y0,y1,y2⟩⟩;go_simp
     refine tk 5 (.int .i64 hops) rfl hs0 ?_ ?_
     ·rintro w ⟨⟨z0,z1,z2,z3⟩,⟨y0,y1,y2⟩⟩;go_simp
     refine tk 6 (.int .i64 (M:Int)) rfl hs0 ?_ ?_
     ·rintro w ⟨⟨z0,z1,z2,z3⟩,⟨y0,y1,y2⟩⟩;go_simp
     refine tk 7 (.slice q2 m2 c2) rfl hs0 ?_ ?_
     ·rintro w ⟨⟨z0,z1,z2,z3⟩,⟨y0,y1,y2⟩⟩;go_simp
     refine rd 8 rfl fun KK hKK=>?_
     go_simp
     refine (HCL.out).mono ?_;rintro en W9 ⟨q9,m9,c9,V9,hv1,hv2,rfl,hv3,hv4,hv5,hv6,hv7⟩;have hkk:KW (.slice q m c) W2 W9:=KW.trans (KW.trans HR.out.2.2.2.2.2.1 HR.out.2.2.2.2.2.2 (KW.bel (Below.refl _ _).drew)) HR.out.2.2.2.2.2.2 hv6;have HNEW:Hid (V9.length=m9/\V9.map Prod.fst=zja M (V.map Prod.fst) ((SL.take (i+1)).flatMap (zi9 n hops g))/\W9.ownsRow w0.heap.size 37 3 (.slice q9 m9 c9) m9 (V9.flatMap paC)/\(∀ y∈V9,PL W9 y)/\Below w0.heap.size w0 W9/\KW (.slice q m c) W2 W9/\KO (.slice q m c) (.slice q9 m9 c9) W2):=⟨hv1,hv2,hv3,hv4,hv5,hkk,KO.trans HR.out.2.2.2.2.2.2 HR.out.2.2.2.2.2.1.2 hv7⟩;have hs1:(W9.cell? ⟨B,0,none⟩=some (.int .i64 bits)/\W9.cell? ⟨B,1,none⟩=some (.slice pp np cp)/\W9.cell? ⟨B,2,none⟩=some (.slice pt nt ct)/\W9.cell? ⟨B,3,none⟩=some (.slice pg ng cg))/\(W9.cell? ⟨gs,os+i*3,none⟩=some (.slice v1 yn e1)/\W9.cell? ⟨gs,os+i*3+1,none⟩=some (.slice v2 ym e2)/\W9.cell? ⟨gs,os+i*3+2,none⟩=some (.string ⟨yh.toArray⟩)):=by
      obtain ⟨hnb,hrow,-⟩:=HKC.out W9 hkk;obtain ⟨g8,o8,e8,hc8⟩:=hrow i _ HSI.out.1;simp only [Option.some.injEq,Addr.mk.injEq] at e8;obtain ⟨rfl,rfl,-⟩:=e8;exact ⟨hnb,by have:=hc8 0 _ rfl;rw [Nat.add_zero,HSI.out.2.1] at this;exact this,by have:=hc8 1 _ rfl;rw [HSI.out.2.2] at this;exact this,hc8 2 _ rfl⟩
     clear hkk hv1 hv2 hv3 hv4 hv5 hv6 hv7
     go_simp
     refine hKK.out _ _ hs1 (fun _=>?_);clear hKK KK;refine tk 9 (.slice q9 m9 c9) rfl hs1 ?_ ?_
     ·rintro w ⟨⟨z0,z1,z2,z3⟩,⟨y0,y1,y2⟩⟩;go_simp
     refine wpAnyH_done (by kernel_rfl) ?_ _
     try simp only [List.getElem_toArray,List.getElem_cons_succ,List.getElem_cons_zero,Act.put,List.setIfInBounds_toArray,List.set_cons_zero,List.set_cons_succ]
     clear hs0 hs1
     go_wp2_with fail
     go_roundw
     case rel=>exact ⟨i+1,m9,q9,c9,V9,by go_num,rfl,by omega,HNEW.out⟩
     case measure=>simp [intOf];omega
    ·obtain rfl:i=ms:=by omega
     have e9:SL.take i=SL:=List.take_of_length_le (by rw [<-HS.out.2.1,List.length_map,HS.out.1];exact Nat.le_refl _);have HFN:Hid (WHQ w0 (.slice q m c) R w (.returned (.slice q2 m2 c2)) wr):=by
      obtain ⟨h1,h2,h3,h4,h5,h6,h7⟩:=HR.out;rw [e9,<-HRG.out] at h2;exact ⟨q2,m2,c2,V2,h1,h2,rfl,h3,h4,h5,KW.trans (KW.bel HB2.out.2.1) (KO.refl _ _) h6,h7.back HB2.out.2.1.size⟩
     have j3:¬(i:Int) < (i:Int):=by omega
     clear e9
     go_wp2_with fail
     go_ret
     exact HFN.out
theorem zb6 (n:NN) (v:NV) (hops:Int) (M:Nat) (w0:World) (hN:LN w0 n v) (hV:NetP n) (h64:hops<=64) (hM:M<=100000):∀ f:Nat,WHC n v hops M w0 f:=by
 intro f
 induction f with
 | zero=>exact zhi n v hops M w0 hN hV h64 hM 0 (fun g hg=>by omega)
 | succ f ih=>exact zhi n v hops M w0 hN hV h64 hM (f+1) (fun g hg=>(show f=g by omega) ▸ ih)
end Go.Proofs.YtmfakcfmkmppfaaGreatDoor.Nt
