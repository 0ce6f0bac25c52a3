import Derived.Test.YtciffggmobblpaaGreatDoorXBY
import Derived.Test.YtciffggmobblpaaGreatDoorXBV
namespace Go.Proofs.YtciffggmobblpaaGreatDoor.Nt
open Go.RowKit Go.Shelf
def isM (n:NN) (s:Int×List UInt8) (y:Int) (o:Int×List UInt8):Bool:=o.1==y&&((portAt n o.1).inn != (portAt n s.1).inn)
theorem stp_link {n:NN} {s:Int×List UInt8} (hV:NetP n) (hs:StP n s):(∀ (y:Int) (o:Int×List UInt8),o∈(nxtM n s).2→isM n s y o=true→o∈stpS n s∧o.1=y)∧(∀ (y:Int) (o:Int×List UInt8),o∈stpS n s→o.1=y→o∈(nxtM n s).2∧isM n s y o=true)∧(∀ o o':Int×List UInt8,o∈stpS n s→o'∈stpS n s→o.1=o'.1→o=o'):=by
 obtain ⟨hx1,hx2⟩:=hV.port hs.1 hs.2.1
 obtain ⟨ht1,ht2⟩:=hV.tab hx2.2.1 hx2.2.2.1
 by_cases hi:(portAt n s.1).inn=true
 ·have hS:stpS n s=(aplM n s).2:=by unfold stpS;rw [if_pos hi]
  have hL:(nxtM n s).2=((aplM n s).2).flatMap (nxF n):=by
   obtain ⟨k0,L0,hkl⟩:∃ k L,aplM n s=(k,L):=⟨_,_,rfl⟩
   rw [nx_in hi hkl,hkl]
  rw [hS,hL]
  have hout:∃ outs tt,(aplM n s).2=outS n outs tt∧∀ q∈outs,0≤q∧q < (n.ports.length:Int)∧(portAt n q).inn=false:=by
   cases he:appE n s.1 s.2 with
   | none=>
    refine ⟨[],[],?_,fun q hq=>by simp at hq⟩
    unfold aplM
    rw [he]
    rfl
   | some kx=>
    obtain ⟨k,x⟩:=kx
    have hmem:x∈tabAt n (portAt n s.1).bx:=by
     unfold appE at he
     split at he
     ·obtain ⟨i,-,hi,-⟩:=ffst_some he
      exact List.mem_of_getElem? hi
     ·cases he
    refine ⟨x.outs,Tn.wtT s.2 x.wr,?_,fun q hq=>?_⟩
    ·unfold aplM
     rw [he]
    ·have hz:=(ht2.1 x hmem).2.2.2.2.2.1 q hq
     exact ⟨hz.1,hz.2.1,hz.2.2.2⟩
  obtain ⟨outs,tt,hA,hin⟩:=hout
  rw [hA]
  have hmo:∀ o∈outS n outs tt,o.2=tt∧(portAt n o.1).inn=false∧0≤o.1∧o.1 < (n.ports.length:Int):=fun o ho=>by
   simp only [outS,List.mem_map,List.mem_filter] at ho
   obtain ⟨q,⟨hq,-⟩,rfl⟩:=ho
   have:=hin q hq
   exact ⟨rfl,this.2.2,this.1,this.2.1⟩
  refine ⟨fun y o ho hm=>?_,fun y o ho hy=>?_,fun o o' h1 h2 he=>?_⟩
  ·unfold isM at hm
   rw [Bool.and_eq_true,hi] at hm
   obtain ⟨o2,h3,h4⟩:=List.mem_flatMap.1 ho
   rcases List.mem_cons.1 h4 with e | h5
   ·rw [e] at hm ⊢
    exact ⟨h3,by simpa using hm.1⟩
   ·exfalso
    have h6:=hmo o2 h3
    unfold ovS at h5
    split at h5
    ·rename_i h7
     obtain rfl:o=_:=by simpa using h5
     obtain ⟨-,hy2⟩:=hV.port h6.2.2.1 h6.2.2.2
     rcases hy2.2.2.2 with e | ⟨-,-,-,e4⟩
     ·rw [e] at h7;omega
     ·have h8:=hm.2
      simp only at h8
      rw [e4] at h8
      cases h8
    ·simp at h5
  ·refine ⟨List.mem_flatMap.2 ⟨o,ho,List.mem_cons_self⟩,?_⟩
   unfold isM
   rw [(hmo o ho).2.1,hi,hy]
   simp
  ·obtain ⟨x,t⟩:=o
   obtain ⟨x',t'⟩:=o'
   have e1:=(hmo _ h1).1
   have e2:=(hmo _ h2).1
   simp only at he e1 e2
   rw [he,e1,e2]
 ·have hi0:(portAt n s.1).inn=false:=by simpa using hi
  have hS:stpS n s=ovS n s:=by unfold stpS;rw [if_neg hi]
  have hL:(nxtM n s).2=ovS n s:=by rw [nx_out hi0]
  rw [hS,hL]
  have hov:∀ o∈ovS n s,o=((portAt n s.1).lk,s.2)∧(portAt n o.1).inn=true:=fun o ho=>by
   unfold ovS at ho
   split at ho
   ·rename_i h7
    obtain rfl:o=_:=by simpa using ho
    rcases hx2.2.2.2 with e | ⟨-,-,-,e4⟩
    ·rw [e] at h7;omega
    ·exact ⟨rfl,e4⟩
   ·simp at ho
  refine ⟨fun y o ho hm=>?_,fun y o ho hy=>?_,fun o o' h1 h2 he=>?_⟩
  ·unfold isM at hm
   rw [Bool.and_eq_true] at hm
   exact ⟨ho,by simpa using hm.1⟩
  ·refine ⟨ho,?_⟩
   unfold isM
   rw [(hov o ho).2,hi0,hy]
   simp
  ·rw [(hov o h1).1,(hov o' h2).1]
theorem fnd_none {n:NN} {s:Int×List UInt8} {y:Int} (hV:NetP n) (hs:StP n s) (h:∀ (i:Nat) o,(nxtM n s).2[i]?=some o→isM n s y o=false):(stpS n s).find? (fun o=>o.1==y)=none:=by
 rw [List.find?_eq_none]
 intro o ho he
 obtain ⟨h1,h2⟩:=(stp_link hV hs).2.1 y o ho (by simpa using he)
 obtain ⟨i,hi⟩:=List.getElem?_of_mem h1
 rw [h i o hi] at h2
 cases h2
theorem fnd_some {n:NN} {s:Int×List UInt8} {y:Int} {k:Nat} {o:Int×List UInt8} (hV:NetP n) (hs:StP n s) (hk:(nxtM n s).2[k]?=some o) (hm:isM n s y o=true):(stpS n s).find? (fun o=>o.1==y)=some o:=by
 obtain ⟨h1,h2⟩:=(stp_link hV hs).1 y o (List.mem_of_getElem? hk) hm
 cases hf:(stpS n s).find? (fun o=>o.1==y) with
 | none=>
  rw [List.find?_eq_none] at hf
  exact absurd (by simpa using h2) (hf o h1)
 | some o'=>
  have h3:=List.mem_of_find?_eq_some hf
  have h4:=List.find?_some hf
  rw [(stp_link hV hs).2.2 o' o h3 h1 (by rw [h2];simpa using h4)]
set_option maxRecDepth 100000 in
set_option maxHeartbeats 24000000 in
theorem dfollow_any (n:NN) (v:NV) (p:Int) (h:List UInt8) (Q:List Int) (qp:Option Addr) (m c:Nat) (w:World) (hN:LN w n v) (hO:okN n) (hh:okS h) (hm:Q.length=m) (hQ:LI w qp Q) (hM:m≤140737488351232) :
  Calls Tryz.prog 18 #[.agg (nnA n v),.agg (asC (p,h)).toArray,.slice qp m c] w (FLQ (flwM n (p,h) Q) w):=by
 have hck:=fun (U:World) (hU:Below w.heap.size w U)=>dcheck_any n v p h U (hN.below hU) hO hh
 have hnx:=fun (hV:NetP n) (x:Int) (t:List UInt8) (hS:StP n (x,t)) (U:World) (hU:Below w.heap.size w U)=>dnext_any n v x t U (hN.below hU) hV hS.1 hS.2.1 hS.2.2
 rw [show (asC (p,h)).toArray=#[.int .i64 p,.string ⟨h.toArray⟩] from rfl] at hck ⊢
 obtain ⟨pp,cp,pt,ct,pg,cg⟩:=v
 unfold nnA at hck hnx ⊢
 simp only at hck hnx ⊢
 obtain ⟨np,hnp⟩:∃ k,n.ports.length=k:=⟨_,rfl⟩
 obtain ⟨nt,hnt⟩:∃ k,n.tabs.length=k:=⟨_,rfl⟩
 obtain ⟨ng,hng⟩:∃ k,n.grds.length=k:=⟨_,rfl⟩
 obtain ⟨bits,hbits⟩:∃ b,n.bits=b:=⟨_,rfl⟩
 rw [hnp,hnt,hng,hbits] at hck hnx ⊢
 obtain ⟨R,hR⟩:∃ R,chkM n (p,h)=R:=⟨_,rfl⟩
 rw [hR] at hck
 obtain ⟨RR,hRR⟩:∃ RR,flwM n (p,h) Q=RR:=⟨_,rfl⟩
 rw [hRR]
 obtain ⟨B,hB⟩:∃ B,w.heap.size=B:=⟨_,rfl⟩
 obtain ⟨b2,hb2⟩:∃ b2,w.heap.size+1=b2:=⟨_,rfl⟩
 obtain ⟨W1,hW1⟩:∃ W1,(w.alloc (.cells #[.int .i64 bits,.slice pp np cp,.slice pt nt ct,.slice pg ng cg] 26)).alloc (.cells #[.int .i64 p,.string ⟨h.toArray⟩] 28)=W1:=⟨_,rfl⟩
 have hz2:(w.alloc (.cells #[.int .i64 bits,.slice pp np cp,.slice pt nt ct,.slice pg ng cg] 26)).heap.size=w.heap.size+1:=Array.size_push _
 have b1:Below w.heap.size w W1:=by rw [←hW1];exact belAZ (belAZ (Below.refl _ _) _) _
 have k1:W1.heap[B]?=some (.cells #[.int .i64 bits,.slice pp np cp,.slice pt nt ct,.slice pg ng cg] 26 (0,0)):=by rw [←hW1,←hB];exact keepZ (belAZ (Below.refl _ _) _) (alloc_getZ _ _)
 have k2:W1.heap[b2]?=some (.cells #[.int .i64 p,.string ⟨h.toArray⟩] 28 (0,0)):=by rw [←hW1,←hb2,←hz2];exact alloc_getZ _ _
 have HC:Hid (∀ U,Below W1.heap.size W1 U→(U.cell? ⟨B,0,none⟩=some (.int .i64 bits)∧U.cell? ⟨B,1,none⟩=some (.slice pp np cp)∧U.cell? ⟨B,2,none⟩=some (.slice pt nt ct)∧U.cell? ⟨B,3,none⟩=some (.slice pg ng cg))∧(U.cell? ⟨b2,0,none⟩=some (.int .i64 p)∧U.cell? ⟨b2,1,none⟩=some (.string ⟨h.toArray⟩))):=fun U hU=>by
  have e1:=(cellsZ (keepZ hU k1)).1
  have e2:=(cellsZ (keepZ hU k2)).1
  exact ⟨⟨by rw [e1];rfl,by rw [e1];rfl,by rw [e1];rfl,by rw [e1];rfl⟩,⟨by rw [e2];rfl,by rw [e2];rfl⟩⟩
 have HNB:Hid (B≠b2∧w.heap.size≤b2):=⟨by omega,by omega⟩
 have HK:Hid (∀ U,Below W1.heap.size W1 U→U.heap[B]?=some (.cells #[.int .i64 bits,.slice pp np cp,.slice pt nt ct,.slice pg ng cg] 26 (0,0))∧U.heap[b2]?=some (.cells #[.int .i64 p,.string ⟨h.toArray⟩] 28 (0,0))):=fun U hU=>⟨keepZ hU k1,keepZ hU k2⟩
 have HCK:Hid (Calls Tryz.prog 30 #[.agg #[.int .i64 bits,.slice pp np cp,.slice pt nt ct,.slice pg ng cg],.agg #[.int .i64 p,.string ⟨h.toArray⟩]] W1 fun e w'=>e=.returned (.int .i64 R)∧Below W1.heap.size W1 w'):=hck W1 b1
 have HV:Hid (chkM n (p,h)=R∧Q.length=m∧flwM n (p,h) Q=RR∧n.ports.length=np):=⟨hR,hm,hRR,hnp⟩
 have HNX:Hid (NetP n→∀ (x:Int) (t:List UInt8),StP n (x,t)→∀ U,Below w.heap.size w U→Calls Tryz.prog 31 #[.agg #[.int .i64 bits,.slice pp np cp,.slice pt nt ct,.slice pg ng cg],.agg (asC (x,t)).toArray] U (NDQ n (x,t) U)):=hnx
 have HPL:Hid (LP w pp n.ports):=hN.1
 have HQ:Hid (LI w qp Q):=hQ
 have HB:=hideL hB
 have HB2:=hideL hb2
 have HW1:=hideL hW1
 have HBW:Hid (∀ U,Below W1.heap.size W1 U→Below w.heap.size w U):=fun U hU=>bel0Z b1 hU
 obtain ⟨⟨q0,q1,q2,q3⟩,⟨r0,r1⟩⟩:=HC.out W1 (Below.refl _ _)
 clear hN hO hh hck hnx hnp hnt hng hbits hR hRR hB hb2 hW1 hz2 b1 k1 k2 hm hQ
 go_enter Tryz.func18,Tryz.ntmps18
 go_upto_region 1 with fail
 rw [HW1.out,HB2.out,HB.out]
 by_cases hlong:130 < m
 ·have hl9:(m:Int) > 130:=by omega
  have HFIN:Hid (FLQ RR w (.returned (.tuple #[.string ⟨#[]⟩,.int .i64 0,.int .i64 2])) W1):=by
   rw [←HV.out.2.2.1]
   unfold flwM
   rw [if_pos (by rw [HV.out.2.1];exact hlong)]
   exact ⟨rfl,HBW.out W1 (Below.refl _ _)⟩
  clear hlong
  go_wp2_with fail
  refine bodyPost_ret (results_tmp3 rfl _ _ _) rfl ?_
  exact HFIN.out
 have hl9:¬(m:Int) > 130:=by omega
 have HLG:=hideL hlong
 clear hlong
 go_wp2_with fail
 refine (HCK.out).mono ?_
 rintro e W2 ⟨rfl,c2⟩
 clear q0 q1 q2 q3 r0 r1
 by_cases hP:NetP n∧StP n (p,h)
 ·have hR0:R=0:=by rw [←HV.out.1];exact chk_yes hP.1 hP.2
  subst hR0
  have HFN:Hid (folM n (p,h) Q=RR):=by
   show _=_
   rw [←HV.out.2.2.1]
   unfold flwM
   rw [if_neg (by rw [HV.out.2.1];exact HLG.out),if_pos HV.out.1]
  have HNX:=hideL (HNX.out hP.1)
  have HP:=hideL hP
  obtain ⟨⟨q0,q1,q2,q3⟩,⟨r0,r1⟩⟩:=HC.out W2 c2
  have HC2:=hideL c2
  clear hP c2
  go_upto_region 6 with fail
  by_cases hm0:m=0
  ·have HFIN:Hid (∀ k,FLQ RR w (.returned (.tuple #[.string ⟨#[]⟩,.int .i64 0,.int .i64 101])) (W2.drewN k)):=fun k=>by
    rw [←HFN.out]
    have e:Q=[]:=List.eq_nil_of_length_eq_zero (by rw [HV.out.2.1];exact hm0)
    rw [e]
    exact ⟨rfl,bel_drewZ k (HBW.out W2 HC2.out)⟩
   subst hm0
   go_quiet (fail)
   go_wp2_with fail
   refine bodyPost_ret (results_tmp3 rfl _ _ _) rfl ?_
   exact HFIN.out nq
  ·obtain ⟨y0,hy0⟩:∃ q,Q[0]?=some q:=⟨_,List.getElem?_eq_getElem (by have:=HV.out.2.1;omega)⟩
   obtain ⟨Qr,hQr⟩:∃ r,Q=y0 :: r:=by
    cases hQ9:Q with
    | nil=>rw [hQ9] at hy0;cases hy0
    | cons x r=>rw [hQ9] at hy0;exact ⟨r,by rw [Option.some.inj hy0]⟩
   obtain ⟨gq,oq,e9,u0'⟩:=HQ.out 0 y0 hy0
   subst e9
   rw [Nat.add_zero] at u0'
   have u0:=keepC (HBW.out W2 HC2.out) u0'
   have hm1:((m:Int)==0)=false:=beq_eq_false_iff_ne.2 (by omega)
   have hm2:(0:Int) < (m:Int):=by omega
   have HQR:Hid (Q=y0 :: Qr):=hQr
   obtain ⟨bne,hbne⟩:∃ b,(y0 != p)=b:=⟨_,rfl⟩
   have HBN:=hideL hbne
   clear hy0 hQr u0'
   go_cut [35] from 16 to 34 (fun v35 wx=>v35=.bool bne∧Hid (∃ k,W2.drewN k=wx))
   case first=>
    have hb9:(!(y0==p))=bne:=hbne
    go_quiet (fail)
    go_wp2_with fail
    go_meet
    exact ⟨by first | rfl | (rw [←HBN.out];rfl) | rw [hb9],_,rfl⟩
   case rest=>
    obtain ⟨rfl,HWX⟩:=hcut
    obtain ⟨kd,hkd⟩:=HWX.out
    subst hkd
    clear hbne u0 q0 q1 q2 q3 r0 r1 HWX
    cases bne with
    | true=>
     have HFIN:Hid (FLQ RR w (.returned (.tuple #[.string ⟨#[]⟩,.int .i64 0,.int .i64 101])) (W2.drewN kd)):=by
      have hR0:RR=([],0,101):=by
       rw [←HFN.out,HQR.out]
       show (if y0=p then _ else _)=_
       rw [if_neg (by have:=HBN.out;simpa using this)]
      rw [hR0]
      exact ⟨rfl,bel_drewZ kd (HBW.out W2 HC2.out)⟩
     go_wp2_with fail
     refine bodyPost_ret (results_tmp3 rfl _ _ _) rfl ?_
     exact HFIN.out
    | false=>
     have HR1:Hid (folR n (Q.drop 1) 1 (p,h) 0=RR):=by
      show _=_
      rw [←HFN.out,HQR.out]
      show _=(if y0=p then _ else _)
      rw [if_pos (by have:=HBN.out;simpa using this)]
      rfl
     have HST:Hid ((W2.drewN kd).heap[B]?=some (.cells #[.int .i64 bits,.slice pp np cp,.slice pt nt ct,.slice pg ng cg] 26 (0,0))∧(W2.drewN kd).heap[b2]?=some (.cells #[.int .i64 p,.string ⟨h.toArray⟩] 28 (0,0))∧Below w.heap.size w (W2.drewN kd)):=⟨(HK.out _ (bel_drewZ kd HC2.out)).1,(HK.out _ (bel_drewZ kd HC2.out)).2,bel_drewZ kd (HBW.out W2 HC2.out)⟩
     obtain ⟨W3,hW3⟩:∃ W3,W2.drewN kd=W3:=⟨_,rfl⟩
     rw [hW3] at HST ⊢
     clear hW3 hm1 hm2
     have hm9:1≤m:=by omega
     clear hm0
     obtain ⟨gp,op,hpp⟩:∃ gp op,pp=some ⟨gp,op,none⟩:=by
      obtain ⟨g,o,e,-⟩:=HPL.out _ _ (HP.out.1.port HP.out.2.1 HP.out.2.2.1).1
      exact ⟨g,o,e⟩
     subst hpp
     have HPT:Hid (∀ qk:Nat,qk < np→∀ U,Below w.heap.size w U→U.cell? ⟨gp,op+qk*4+2,none⟩=some (.bool (portAt n (qk:Int)).inn)):=fun qk hq U hU=>by
      obtain ⟨x,hx⟩:∃ x,n.ports[qk]?=some x:=⟨_,List.getElem?_eq_getElem (by have:=HV.out.2.2.2;omega)⟩
      obtain ⟨g9,o9,e9,-,-,c9,-⟩:=HPL.out qk x hx
      simp only [Option.some.injEq,Addr.mk.injEq] at e9
      obtain ⟨rfl,rfl,-⟩:=e9
      rw [portAt_of hx]
      exact keepC hU c9
     go_wp2_with fail
     go_loopw [10,11] (fun v10 vi wr=>∃ (cnt i:Nat),v10=.int .i64 (cnt:Int)∧vi=.int .i64 (i:Int)∧1≤i∧i≤m∧cnt≤i∧Hid (∃ (x:Int) (t:List UInt8),folR n (Q.drop i) i (x,t) cnt=RR∧StP n (x,t)∧wr.heap[B]?=some (.cells #[.int .i64 bits,.slice (some ⟨gp,op,none⟩) np cp,.slice pt nt ct,.slice pg ng cg] 26 (0,0))∧wr.heap[b2]?=some (.cells #[.int .i64 x,.string ⟨t.toArray⟩] 28 (0,0))∧Below w.heap.size w wr)) (fun _ vi _=>m - (intOf vi).toNat)
     case atStart=>exact ⟨0,1,rfl,rfl,Nat.le_refl _,hm9,Nat.zero_le _,p,h,HR1.out,HP.out.2,HST.out.1,HST.out.2.1,HST.out.2.2⟩
     case round=>
      obtain ⟨wo,rfl⟩:∃ wo,wo=wr:=⟨wr,rfl⟩
      obtain ⟨cnt,i,rfl,rfl,hi1,hi,hcn,HS⟩:=hrel
      obtain ⟨x,t,hfo,hst,kB,kb,hbw⟩:=HS.out
      obtain ⟨xk,hxk⟩:∃ xk:Nat,x=(xk:Int):=⟨x.toNat,by have:=hst.1;omega⟩
      subst hxk
      have hxn:xk < np:=by have:=hst.2.1;have:=HV.out.2.2.2;simp only at *;omega
      have e1:=(cellsZ kB).1
      have e2:=(cellsZ kb).1
      have q0:wo.cell? ⟨B,0,none⟩=some (.int .i64 bits):=by rw [e1];rfl
      have q1:wo.cell? ⟨B,1,none⟩=some (.slice (some ⟨gp,op,none⟩) np cp):=by rw [e1];rfl
      have q2:wo.cell? ⟨B,2,none⟩=some (.slice pt nt ct):=by rw [e1];rfl
      have q3:wo.cell? ⟨B,3,none⟩=some (.slice pg ng cg):=by rw [e1];rfl
      have r0:wo.cell? ⟨b2,0,none⟩=some (.int .i64 (xk:Int)):=by rw [e2];rfl
      have r1:wo.cell? ⟨b2,1,none⟩=some (.string ⟨t.toArray⟩):=by rw [e2];rfl
      by_cases hlt:i < m
      ·obtain ⟨y,hy⟩:∃ y,Q[i]?=some y:=⟨_,List.getElem?_eq_getElem (by have:=HV.out.2.1;omega)⟩
       obtain ⟨g9,o9,e9,u0'⟩:=HQ.out i y hy
       simp only [Option.some.injEq,Addr.mk.injEq] at e9
       obtain ⟨rfl,rfl,-⟩:=e9
       have hdr:Q.drop i=y :: Q.drop (i+1):=by
        have hl9:i < Q.length:=by have:=HV.out.2.1;omega
        rw [List.drop_eq_getElem_cons hl9]
        congr 1
        exact (List.getElem?_eq_some_iff.1 hy).2
       rw [hdr] at hfo
       obtain ⟨inn,hinn⟩:∃ inn,(portAt n (xk:Int)).inn=inn:=⟨_,rfl⟩
       obtain ⟨LL,hLL⟩:∃ LL,(nxtM n ((xk:Int),t)).2=LL:=⟨_,rfl⟩
       obtain ⟨num,hnum⟩:∃ num,(nxtM n ((xk:Int),t)).1=num:=⟨_,rfl⟩
       obtain ⟨ms,hms⟩:∃ ms,LL.length=ms:=⟨_,rfl⟩
       obtain ⟨s8,sP⟩:=nxt_st HP.out.1 hst
       rw [hLL] at s8 sP
       have HNN:Hid (Calls Tryz.prog 31 #[.agg #[.int .i64 bits,.slice (some ⟨gp,op,none⟩) np cp,.slice pt nt ct,.slice pg ng cg],.agg #[.int .i64 (xk:Int),.string ⟨t.toArray⟩]] wo fun e w'=>∃ q c,e=.returned (.tuple #[.int .i64 num,.slice q ms c])∧RowL 2 asC w' q LL∧Below wo.heap.size wo w'):=by
        refine Calls.mono (HNX.out (xk:Int) t hst wo hbw) ?_
        rintro e w' ⟨q,c,he,ho,hb⟩
        rw [hLL,hnum,hms] at he
        rw [hLL,hms] at ho
        exact ⟨q,c,he,own_rowL asC_len ho hms,hb⟩
       have HX:Hid (LL.length=ms∧ms≤8∧(∀ o∈LL,StP n o)∧(portAt n (xk:Int)).inn=inn):=⟨hms,by omega,sP,hinn⟩
       have HF0:Hid ((∀ (j:Nat) o,LL[j]?=some o→isM n ((xk:Int),t) y o=false)→RR=([],(i:Int),101)):=fun hf=>by
        rw [←hfo]
        show folR n (y :: Q.drop (i+1)) i ((xk:Int),t) cnt=_
        unfold folR
        rw [fnd_none HP.out.1 hst (by rw [hLL];exact hf)]
       have HF1:Hid (∀ (j:Nat) o,LL[j]?=some o→isM n ((xk:Int),t) y o=true→folR n (Q.drop (i+1)) (i+1) o (if inn=true then cnt+1 else cnt)=RR):=fun j o hj hm=>by
        rw [←hfo]
        show _=folR n (y :: Q.drop (i+1)) i ((xk:Int),t) cnt
        conv=>rhs;unfold folR
        rw [fnd_some HP.out.1 hst (by rw [hLL];exact hj) hm]
        simp only [hinn]
       have HC9:Hid (∀ U,Below wo.heap.size wo U→(U.cell? ⟨B,0,none⟩=some (.int .i64 bits)∧U.cell? ⟨B,1,none⟩=some (.slice (some ⟨gp,op,none⟩) np cp)∧U.cell? ⟨B,2,none⟩=some (.slice pt nt ct)∧U.cell? ⟨B,3,none⟩=some (.slice pg ng cg))∧(U.cell? ⟨b2,0,none⟩=some (.int .i64 (xk:Int))∧U.cell? ⟨b2,1,none⟩=some (.string ⟨t.toArray⟩))∧U.cell? ⟨gq,oq+i,none⟩=some (.int .i64 y)∧U.cell? ⟨gp,op+xk*4+2,none⟩=some (.bool inn)∧U.heap[B]?=some (.cells #[.int .i64 bits,.slice (some ⟨gp,op,none⟩) np cp,.slice pt nt ct,.slice pg ng cg] 26 (0,0))∧U.heap[b2]?=some (.cells #[.int .i64 (xk:Int),.string ⟨t.toArray⟩] 28 (0,0))∧Below w.heap.size w U):=fun U hU=>by
        have e1:=(cellsZ (keepZ hU kB)).1
        have e2:=(cellsZ (keepZ hU kb)).1
        exact ⟨⟨by rw [e1];rfl,by rw [e1];rfl,by rw [e1];rfl,by rw [e1];rfl⟩,⟨by rw [e2];rfl,by rw [e2];rfl⟩,keepC (bel0Z hbw hU) u0',by rw [←hinn];exact HPT.out xk hxn U (bel0Z hbw hU),keepZ hU kB,keepZ hU kb,bel0Z hbw hU⟩
       have hms7:ms≤140737488351232:=by have:=HX.out.2.1;omega
       have j2:(0:Int)≤(i:Int):=by omega
       have j3:(i:Int) < (m:Int):=by omega
       have j4:(0:Int)≤(xk:Int):=by omega
       have j5:(xk:Int) < (np:Int):=by omega
       clear hfo hst kB kb hbw e1 e2 hxn hy u0' hdr hinn hLL hnum hms s8 sP HS
       go_wp2_with fail
       refine (HNN.out).mono ?_
       rintro e W5 ⟨q,cq,rfl,hro,c5⟩
       have HRO:Hid (∀ U,Below W5.heap.size W5 U→RowL 2 asC U q LL∧Below wo.heap.size wo U):=fun U hU=>⟨hro.below hU,bel0Z c5 hU⟩
       clear q0 q1 q2 q3 r0 r1 hro c5
       go_wp2_with fail
       go_loopw [14,15] (fun v14 vj wr=>∃ (tt:Int) (j:Nat),v14=.int .i64 tt∧vj=.int .i64 (j:Int)∧j≤ms∧Hid (Below W5.heap.size W5 wr∧((tt=-1∧∀ (a:Nat) o,a < j→LL[a]?=some o→isM n ((xk:Int),t) y o=false)∨∃ (kk:Nat) (o:Int×List UInt8),tt=(kk:Int)∧kk < j∧LL[kk]?=some o∧isM n ((xk:Int),t) y o=true))) (fun _ vj _=>ms - (intOf vj).toNat)
       case atStart=>exact ⟨-1,0,rfl,rfl,Nat.zero_le _,Below.refl _ _,.inl ⟨rfl,fun a o ha=>by omega⟩⟩
       case round=>
        obtain ⟨tt,j,rfl,rfl,hj,HJ⟩:=hrel
        obtain ⟨hrow,hbo⟩:=HRO.out wr HJ.out.1
        obtain ⟨⟨q0,q1,q2,q3⟩,⟨r0,r1⟩,u0,v2,kB,kb,hbw⟩:=HC9.out wr hbo
        by_cases hlt2:j < ms
        ·obtain ⟨o,hx⟩:∃ o,LL[j]?=some o:=⟨_,List.getElem?_eq_getElem (by have:=HX.out.1;omega)⟩
         obtain ⟨xo,tz⟩:=o
         obtain ⟨gs,os,e9,hcx⟩:=hrow j _ hx
         subst e9
         have d0:=hcx 0 _ rfl
         have d1:=hcx 1 _ rfl
         rw [Nat.add_zero] at d0
         have hso:=HX.out.2.2.1 _ (List.mem_of_getElem? hx)
         obtain ⟨ok,hok⟩:∃ ok:Nat,xo=(ok:Int):=⟨xo.toNat,by have:=hso.1;simp only at this;omega⟩
         subst hok
         have hon:ok < np:=by have:=hso.2.1;have:=HV.out.2.2.2;simp only at *;omega
         obtain ⟨ino,hino⟩:∃ ino,(portAt n (ok:Int)).inn=ino:=⟨_,rfl⟩
         have v3:=HPT.out ok hon wr hbw
         rw [hino] at v3
         obtain ⟨b1,hb1⟩:∃ b,((ok:Int)==y)=b:=⟨_,rfl⟩
         obtain ⟨b3,hb3⟩:∃ b,(ino != inn)=b:=⟨_,rfl⟩
         have him:isM n ((xk:Int),t) y ((ok:Int),tz)=(b1&&b3):=by
          unfold isM
          simp only
          rw [hino,HX.out.2.2.2,hb1,hb3]
         have hs9:wr.cell? ⟨gs,os+j*2,none⟩=some (.int .i64 (ok:Int))∧wr.cell? ⟨gq,oq+i,none⟩=some (.int .i64 y)∧wr.cell? ⟨B,1,none⟩=some (.slice (some ⟨gp,op,none⟩) np cp)∧wr.cell? ⟨b2,0,none⟩=some (.int .i64 (xk:Int))∧wr.cell? ⟨gp,op+ok*4+2,none⟩=some (.bool ino)∧wr.cell? ⟨gp,op+xk*4+2,none⟩=some (.bool inn):=⟨d0,u0,q1,r0,v3,v2⟩
         have j6:(0:Int)≤(j:Int):=by omega
         have j7:(j:Int) < (ms:Int):=by omega
         have j8:(0:Int)≤(ok:Int):=by omega
         have j9:(ok:Int) < (np:Int):=by omega
         have HX7:=hideL hx
         have HIM:=hideL him
         have HB1:=hideL hb1
         have HB3:=hideL hb3
         have HBD:Hid (Below W5.heap.size W5 wr):=HJ.out.1
         have HJ0:Hid ((b1&&b3)=false→((tt=-1∧∀ (a:Nat) o,a < j+1→LL[a]?=some o→isM n ((xk:Int),t) y o=false)∨∃ (kk:Nat) (o:Int×List UInt8),tt=(kk:Int)∧kk < j+1∧LL[kk]?=some o∧isM n ((xk:Int),t) y o=true)):=fun hf=>by
          rcases HJ.out.2 with ⟨h1,h2⟩ | ⟨kk,o,h1,h2,h3,h4⟩
          ·exact .inl ⟨h1,fun a o ha ho=>by
            by_cases e:a=j
            ·subst e;rw [HX7.out] at ho;obtain rfl:=Option.some.inj ho;rw [HIM.out];exact hf
            ·exact h2 a o (by omega) ho⟩
          ·exact .inr ⟨kk,o,h1,by omega,h3,h4⟩
         clear hrow hbo hx hcx d0 d1 hso hon hino v3 hb1 hb3 him q0 q1 q2 q3 r0 r1 u0 v2 kB kb hbw HJ
         obtain ⟨d0,u0,q1,r0,v3,v2⟩:=hs9
         go_upto_region 17 with fail
         cases b1 with
         | false=>
          have hb9:=HB1.out
          go_quiet (fail)
          have HJ9:=hideL (HJ0.out rfl)
          clear d0 u0 q1 r0 v3 v2
          go_wp2_with fail
          go_roundw
          case rel=>exact ⟨tt,j+1,rfl,by go_num,by omega,bel_drewZ nq HBD.out,HJ9.out⟩
          case measure=>simp [intOf];omega
         | true=>
          have hb9:=HB1.out
          have hb8:(!(ino==inn))=b3:=HB3.out
          cases b3 with
          | false=>
           go_quiet (fail)
           have HJ9:=hideL (HJ0.out rfl)
           clear d0 u0 q1 r0 v3 v2
           go_wp2_with fail
           go_roundw
           case rel=>exact ⟨tt,j+1,rfl,by go_num,by omega,bel_drewZ nq HBD.out,HJ9.out⟩
           case measure=>simp [intOf];omega
          | true=>
           go_quiet (fail)
           have HJ9:Hid (((j:Int)=-1∧∀ (a:Nat) o,a < j+1→LL[a]?=some o→isM n ((xk:Int),t) y o=false)∨∃ (kk:Nat) (o:Int×List UInt8),(j:Int)=(kk:Int)∧kk < j+1∧LL[kk]?=some o∧isM n ((xk:Int),t) y o=true):=.inr ⟨j,_,rfl,by omega,HX7.out,by rw [HIM.out];rfl⟩
           clear d0 u0 q1 r0 v3 v2
           go_wp2_with fail
           go_roundw
           case rel=>exact ⟨(j:Int),j+1,rfl,by go_num,by omega,bel_drewZ nq HBD.out,HJ9.out⟩
           case measure=>simp [intOf];omega
        ·obtain rfl:j=ms:=by omega
         have j7:¬(j:Int) < (j:Int):=by omega
         rcases HJ.out.2 with ⟨h1,h2⟩ | ⟨kk,o,h1,h2,h3,h4⟩
         ·have HFIN:Hid (FLQ RR w (.returned (.tuple #[.string ⟨#[]⟩,.int .i64 (i:Int),.int .i64 101])) wr):=by
           rw [HF0.out (fun a o ho=>h2 a o (by have:=(List.getElem?_eq_some_iff.1 ho).1;have:=HX.out.1;omega) ho)]
           exact ⟨rfl,hbw⟩
          subst h1
          clear h2 hrow hbo kB kb hbw HJ
          go_wp2_with fail
          refine bodyPost_ret (results_tmp3 rfl _ _ _) rfl ?_
          exact HFIN.out
         ·obtain ⟨xo,tz⟩:=o
          subst h1
          obtain ⟨gs,os,e9,hcx⟩:=hrow kk _ h3
          subst e9
          have d0:=hcx 0 _ rfl
          have d1:=hcx 1 _ rfl
          rw [Nat.add_zero] at d0
          have hst9:=HX.out.2.2.1 _ (List.mem_of_getElem? h3)
          have hfo9:=HF1.out kk _ h3 h4
          have hzz:=cellsZ kb
          have f0:=hzz.2 0
          have f1:=hzz.2 1
          have j8:(0:Int)≤(kk:Int):=by omega
          have j9:(kk:Int) < (j:Int):=by omega
          have j10:¬(kk:Int) < 0:=by omega
          obtain ⟨W7,hW7⟩:∃ W7,((wr.setCell ⟨b2,0,none⟩ (.int .i64 xo)).setCell ⟨b2,1,none⟩ (.string ⟨tz.toArray⟩))=W7:=⟨_,rfl⟩
          have HS9:Hid (∀ cn,cn=(if inn=true then cnt+1 else cnt)→∃ (x:Int) (t:List UInt8),folR n (Q.drop (i+1)) (i+1) (x,t) cn=RR∧StP n (x,t)∧W7.heap[B]?=some (.cells #[.int .i64 bits,.slice (some ⟨gp,op,none⟩) np cp,.slice pt nt ct,.slice pg ng cg] 26 (0,0))∧W7.heap[b2]?=some (.cells #[.int .i64 x,.string ⟨t.toArray⟩] 28 (0,0))∧Below w.heap.size w W7):=fun cn hcn=>by
           refine ⟨xo,tz,by rw [hcn];exact hfo9,hst9,?_,?_,?_⟩
           ·rw [←hW7,far1 _ _ _ _ _ HNB.out.1,far1 _ _ _ _ _ HNB.out.1]
            exact kB
           ·rw [←hW7]
            exact ((set_getZ _ (set_getZ _ kb))).trans (by simp)
           ·rw [←hW7]
            have hle:=HNB.out.2
            exact ((hbw.setCell hle _).setCell hle _)
          have HW7:=hideL hW7
          clear h2 h3 h4 hcx hst9 hfo9 hzz hW7 kB kb hbw hrow hbo HJ u0
          cases inn with
          | false=>
           have HS8:=hideL (HS9.out cnt rfl)
           go_wp2_with fail
           rw [HW7.out]
           go_roundw
           case rel=>exact ⟨cnt,i+1,rfl,by go_num,by omega,by omega,by omega,HS8⟩
           case measure=>simp [intOf];omega
          | true=>
           have HS8:=hideL (HS9.out (cnt+1) rfl)
           go_wp2_with fail
           rw [HW7.out]
           go_roundw
           case rel=>exact ⟨cnt+1,i+1,by go_num,by go_num,by omega,by omega,by omega,HS8⟩
           case measure=>simp [intOf];omega
      ·obtain rfl:i=m:=by omega
       have j3:¬(i:Int) < (i:Int):=by omega
       have HFIN:Hid (FLQ RR w (.returned (.tuple #[.string ⟨t.toArray⟩,.int .i64 (cnt:Int),.int .i64 0])) wo):=by
        rw [←hfo,List.drop_eq_nil_of_le (by have:=HV.out.2.1;omega)]
        exact ⟨rfl,hbw⟩
       clear hfo hst kB kb hbw hxn e1 e2 HS
       go_wp2_with fail
       refine bodyPost_ret (results_tmp3 rfl _ _ _) rfl ?_
       exact HFIN.out
 ·have hR0:R≠0:=by rw [←HV.out.1];exact chk_no hP
  have HFIN:Hid (FLQ RR w (.returned (.tuple #[.string ⟨#[]⟩,.int .i64 0,.int .i64 R])) W2):=by
   rw [←HV.out.2.2.1]
   unfold flwM
   rw [if_neg (by rw [HV.out.2.1];exact HLG.out),if_neg (by rw [HV.out.1];exact hR0),HV.out.1]
   exact ⟨rfl,HBW.out W2 c2⟩
  clear hP c2
  go_wp2_with fail
  refine bodyPost_ret (results_tmp3 rfl _ _ _) rfl ?_
  exact HFIN.out
end Go.Proofs.YtciffggmobblpaaGreatDoor.Nt
