import Derived.Test.YtbplhianpelmfaaGreatDoorYBK
namespace Go.Proofs.YtbplhianpelmfaaGreatDoor.Nt
open Go.RowKit Go.Shelf
def FLQ (r:List UInt8×Int×Int) (w:World) (e:Ending) (w':World):Prop:=e=.returned (.tuple #[.string ⟨r.1.toArray⟩,.int .i64 r.2.1,.int .i64 r.2.2])∧Below w.heap.size w w'
theorem put10 {W:World} {b T:Nat} {u0 u1 u2 u3 u4 u5 u6 u7 u8 u9:Value} {m:Nat×Nat} (v0 v1 v2 v3 v4 v5 v6 v7 v8 v9:Value) (h:W.heap[b]?=some (.cells #[u0,u1,u2,u3,u4,u5,u6,u7,u8,u9] T m)):(((((((((((W.setCell ⟨b,0,none⟩ (v0)).setCell ⟨b,1,none⟩ (v1)).setCell ⟨b,2,none⟩ (v2)).setCell ⟨b,3,none⟩ (v3)).setCell ⟨b,4,none⟩ (v4)).setCell ⟨b,5,none⟩ (v5)).setCell ⟨b,6,none⟩ (v6)).setCell ⟨b,7,none⟩ (v7)).setCell ⟨b,8,none⟩ (v8)).setCell ⟨b,9,none⟩ (v9))).heap[b]?=some (.cells #[v0,v1,v2,v3,v4,v5,v6,v7,v8,v9] T m):=
 ((set_getZ _ (set_getZ _ (set_getZ _ (set_getZ _ (set_getZ _ (set_getZ _ (set_getZ _ (set_getZ _ (set_getZ _ (set_getZ _ h)))))))))).trans (by simp))
theorem put10f {W:World} {b b':Nat} (v0 v1 v2 v3 v4 v5 v6 v7 v8 v9:Value) (h:b'≠b):(((((((((((W.setCell ⟨b,0,none⟩ (v0)).setCell ⟨b,1,none⟩ (v1)).setCell ⟨b,2,none⟩ (v2)).setCell ⟨b,3,none⟩ (v3)).setCell ⟨b,4,none⟩ (v4)).setCell ⟨b,5,none⟩ (v5)).setCell ⟨b,6,none⟩ (v6)).setCell ⟨b,7,none⟩ (v7)).setCell ⟨b,8,none⟩ (v8)).setCell ⟨b,9,none⟩ (v9))).heap[b']?=W.heap[b']?:=by
 rw [far1 _ _ _ _ _ h,far1 _ _ _ _ _ h,far1 _ _ _ _ _ h,far1 _ _ _ _ _ h,far1 _ _ _ _ _ h,far1 _ _ _ _ _ h,far1 _ _ _ _ _ h,far1 _ _ _ _ _ h,far1 _ _ _ _ _ h,far1 _ _ _ _ _ h]
theorem put10b {w W:World} {b:Nat} (v0 v1 v2 v3 v4 v5 v6 v7 v8 v9:Value) (h0:Below w.heap.size w W) (hle:w.heap.size≤b):Below w.heap.size w (((((((((((W.setCell ⟨b,0,none⟩ (v0)).setCell ⟨b,1,none⟩ (v1)).setCell ⟨b,2,none⟩ (v2)).setCell ⟨b,3,none⟩ (v3)).setCell ⟨b,4,none⟩ (v4)).setCell ⟨b,5,none⟩ (v5)).setCell ⟨b,6,none⟩ (v6)).setCell ⟨b,7,none⟩ (v7)).setCell ⟨b,8,none⟩ (v8)).setCell ⟨b,9,none⟩ (v9))):=
 ((((((((((h0.setCell hle _).setCell hle _).setCell hle _).setCell hle _).setCell hle _).setCell hle _).setCell hle _).setCell hle _).setCell hle _).setCell hle _)
set_option maxRecDepth 100000 in
set_option maxHeartbeats 24000000 in
theorem follow_any (n:NN) (v:NV) (np nt ng:Nat) (p:Int) (h:List UInt8) (Q:List Int) (qp:Option Addr) (m c:Nat) (w:World) (hW:NW w n v) (hV:NetP n) (hS:StP n (p,h)) (hnp:n.ports.length=np) (hnt:n.tabs.length=nt) (hng:n.grds.length=ng) (hm:Q.length=m) (hQ:LI w qp Q) (hc:m≤c) (hM:m≤140737488351232) :
  Calls Tryz.prog 32 #[.agg #[.slice v.pp np v.cp,.slice v.pt nt v.ct,.slice v.pg ng v.cg],.agg (stC (p,h)).toArray,.slice qp m c] w (FLQ (folM n (p,h) Q) w):=by
 have hov:=fun (q:Int) (x:List UInt8) (U:World) (hU:Below w.heap.size w U) (h0:0≤q) (h1:q < (n.ports.length:Int))=>over_any n v np nt ng q x U (hW.below hU) hV h0 h1 hnp
 have hap:=fun (q:Int) (x:List UInt8) (U:World) (hU:Below w.heap.size w U) (hs:StP n (q,x))=>apply_any n v np nt ng q x U (hW.below hU) hV hs.1 hs.2.1 hs.2.2 hnp hnt hng
 obtain ⟨pp,cp,pt,ct,pg,cg⟩:=v
 simp only at hW hov hap ⊢
 obtain ⟨a0,a1,a2,a3,a4,a5,a6,a7,a8,h9⟩:=c9_ex h
 rw [stC_arr h9]
 obtain ⟨hx1,hx2⟩:=hV.port hS.1 hS.2.1
 obtain ⟨gp,op,e1,-,-,-,-⟩:=hW.1 _ _ hx1
 simp only at e1
 subst e1
 have hpt:∀ qk:Nat,qk < np→∀ U,Below w.heap.size w U→U.cell? ⟨gp,op+qk*4+2,none⟩=some (.bool (portAt n (qk:Int)).inn):=fun qk hq U hU=>by
  obtain ⟨x,hx⟩:∃ x,n.ports[qk]?=some x:=⟨_,List.getElem?_eq_getElem (by omega)⟩
  obtain ⟨g9,o9,e9,-,-,c9,-⟩:=hW.1 qk x hx
  simp only [Option.some.injEq,Addr.mk.injEq] at e9
  obtain ⟨rfl,rfl,-⟩:=e9
  rw [portAt_of hx]
  exact keepC hU c9
 obtain ⟨R,hR⟩:∃ R,folM n (p,h) Q=R:=⟨_,rfl⟩
 rw [hR]
 obtain ⟨B,hB⟩:∃ B,w.heap.size=B:=⟨_,rfl⟩
 obtain ⟨b2,hb2⟩:∃ b2,w.heap.size+1=b2:=⟨_,rfl⟩
 obtain ⟨W1,hW1⟩:∃ W1,(w.alloc (.cells #[.slice (some ⟨gp,op,none⟩) np cp,.slice pt nt ct,.slice pg ng cg] 72)).alloc (.cells #[.int .i64 p,.int .i64 a0,.int .u64 a1,.int .u64 a2,.int .u64 a3,.int .u64 a4,.int .u64 a5,.int .u64 a6,.int .u64 a7,.int .u64 a8] 81)=W1:=⟨_,rfl⟩
 have hz2:(w.alloc (.cells #[.slice (some ⟨gp,op,none⟩) np cp,.slice pt nt ct,.slice pg ng cg] 72)).heap.size=w.heap.size+1:=Array.size_push _
 have b1:Below w.heap.size w W1:=by rw [←hW1];exact belAZ (belAZ (Below.refl _ _) _) _
 have k1:W1.heap[B]?=some (.cells #[.slice (some ⟨gp,op,none⟩) np cp,.slice pt nt ct,.slice pg ng cg] 72 (0,0)):=by rw [←hW1,←hB];exact keepZ (belAZ (Below.refl _ _) _) (alloc_getZ _ _)
 have k2:W1.heap[b2]?=some (.cells #[.int .i64 p,.int .i64 a0,.int .u64 a1,.int .u64 a2,.int .u64 a3,.int .u64 a4,.int .u64 a5,.int .u64 a6,.int .u64 a7,.int .u64 a8] 81 (0,0)):=by rw [←hW1,←hb2,←hz2];exact alloc_getZ _ _
 have HNB:Hid (B≠b2∧w.heap.size≤b2):=⟨by omega,by omega⟩
 have HCB:Hid (∀ U:World,U.heap[B]?=some (.cells #[.slice (some ⟨gp,op,none⟩) np cp,.slice pt nt ct,.slice pg ng cg] 72 (0,0))→U.cell? ⟨B,0,none⟩=some (.slice (some ⟨gp,op,none⟩) np cp)∧U.cell? ⟨B,1,none⟩=some (.slice pt nt ct)∧U.cell? ⟨B,2,none⟩=some (.slice pg ng cg)):=fun U hU=>by
  have e1:=(cellsZ hU).1
  exact ⟨by rw [e1];rfl,by rw [e1];rfl,by rw [e1];rfl⟩
 have HK:Hid (W1.heap[B]?=some (.cells #[.slice (some ⟨gp,op,none⟩) np cp,.slice pt nt ct,.slice pg ng cg] 72 (0,0))∧W1.heap[b2]?=some (.cells #[.int .i64 p,.int .i64 a0,.int .u64 a1,.int .u64 a2,.int .u64 a3,.int .u64 a4,.int .u64 a5,.int .u64 a6,.int .u64 a7,.int .u64 a8] 81 (0,0))∧Below w.heap.size w W1∧C9 h a0 a1 a2 a3 a4 a5 a6 a7 a8):=⟨k1,k2,b1,h9⟩
 have r0:W1.cell? ⟨b2,0,none⟩=some (.int .i64 p):=by rw [(cellsZ k2).1];rfl
 have HV:Hid (NetP n∧StP n (p,h)∧folM n (p,h) Q=R∧n.ports.length=np):=⟨hV,hS,hR,hnp⟩
 have HQ:Hid (Q.length=m∧∀ U,Below w.heap.size w U→LI U qp Q):=⟨hm,fun U hU=>hQ.below hU⟩
 have HPT:Hid (∀ qk:Nat,qk < np→∀ U,Below w.heap.size w U→U.cell? ⟨gp,op+qk*4+2,none⟩=some (.bool (portAt n (qk:Int)).inn)):=hpt
 have HOV:Hid (∀ (q:Int) (x:List UInt8) (U:World),Below w.heap.size w U→0≤q→q < (n.ports.length:Int)→Calls Tryz.prog 44 #[.agg #[.slice (some ⟨gp,op,none⟩) np cp,.slice pt nt ct,.slice pg ng cg],.agg (stC (q,x)).toArray] U (OVQ n (q,x) U)):=hov
 have HAP:Hid (∀ (q:Int) (x:List UInt8) (U:World),Below w.heap.size w U→StP n (q,x)→Calls Tryz.prog 45 #[.agg #[.slice (some ⟨gp,op,none⟩) np cp,.slice pt nt ct,.slice pg ng cg],.agg (stC (q,x)).toArray] U (APQ n (q,x) U)):=hap
 have HB:=hideL hB
 have HB2:=hideL hb2
 have HW1:=hideL hW1
 have hb9:=b1
 have HBW:=hideL hb9
 clear hW hV hS hnp hnt hng hm hQ hov hap h9 hx1 hx2 hpt hR hB hb2 hW1 hz2 b1 k1 k2 hb9
 go_enter Tryz.func32,Tryz.ntmps32
 go_upto_region 1 with fail
 rw [HW1.out,HB2.out,HB.out]
 by_cases hm0:m=0
 ·have hR0:R=([],0,101):=by
   rw [←HV.out.2.2.1]
   have e:Q=[]:=List.eq_nil_of_length_eq_zero (by rw [HQ.out.1];exact hm0)
   rw [e]
   rfl
  have HFIN:Hid (∀ k,FLQ R w (.returned (.tuple #[.string ⟨#[]⟩,.int .i64 0,.int .i64 101])) (W1.drewN k)):=fun k=>by rw [hR0];exact ⟨rfl,bel_drewZ k HBW.out⟩
  subst hm0
  clear hR0
  go_quiet (fail)
  go_wp2_with fail
  refine bodyPost_ret (results_tmp3 rfl _ _ _) rfl ?_
  exact HFIN.out nq
 ·obtain ⟨q0,hq0⟩:∃ q,Q[0]?=some q:=⟨_,List.getElem?_eq_getElem (by have:=HQ.out.1;omega)⟩
  obtain ⟨Qr,hQr⟩:∃ r,Q=q0 :: r:=by
   cases hQ9:Q with
   | nil=>rw [hQ9] at hq0;cases hq0
   | cons x r=>rw [hQ9] at hq0;exact ⟨r,by rw [Option.some.inj hq0]⟩
  obtain ⟨gq,oq,e9,u0⟩:=HQ.out.2 W1 HBW.out 0 q0 hq0
  subst e9
  rw [Nat.add_zero] at u0
  have hm1:((m:Int)==0)=false:=beq_eq_false_iff_ne.2 (by omega)
  have hm2:(0:Int) < (m:Int):=by omega
  have HQR:Hid (Q=q0 :: Qr):=hQr
  obtain ⟨bne,hbne⟩:∃ b,(q0 != p)=b:=⟨_,rfl⟩
  have HBN:=hideL hbne
  clear hq0 hQr
  go_cut [24] from 14 to 23 (fun v24 wx=>v24=.bool bne∧Hid (∃ k,W1.drewN k=wx))
  case first=>
   have hb9:(!(q0==p))=bne:=hbne
   go_quiet (fail)
   go_wp2_with fail
   go_meet
   exact ⟨by first | rfl | (rw [←HBN.out];rfl) | rw [hb9],_,rfl⟩
  case rest=>
   obtain ⟨rfl,HWX⟩:=hcut
   obtain ⟨kd,hkd⟩:=HWX.out
   subst hkd
   clear hbne u0 HWX
   cases bne with
   | true=>
    have hR0:R=([],0,101):=by
     rw [←HV.out.2.2.1,HQR.out]
     show (if q0=p then _ else _)=_
     rw [if_neg (by have:=HBN.out;simpa using this)]
    have HFIN:Hid (FLQ R w (.returned (.tuple #[.string ⟨#[]⟩,.int .i64 0,.int .i64 101])) (W1.drewN kd)):=by rw [hR0];exact ⟨rfl,bel_drewZ kd HBW.out⟩
    clear hR0
    go_wp2_with fail
    refine bodyPost_ret (results_tmp3 rfl _ _ _) rfl ?_
    exact HFIN.out
   | false=>
    have HR:Hid (folR n Qr 1 (p,h) 0=R):=by
     show _=_
     rw [←HV.out.2.2.1,HQR.out]
     show _=(if q0=p then _ else _)
     rw [if_pos (by have:=HBN.out;simpa using this)]
    obtain ⟨mr,hmr⟩:∃ mr,m=mr+1:=⟨m - 1,by omega⟩
    subst hmr
    have HQL:Hid (Qr.length=mr):=by
     have h9:=HQ.out.1
     rw [HQR.out,List.length_cons] at h9
     show _=_
     omega
    have HST:Hid ((W1.drewN kd).heap[B]?=some (.cells #[.slice (some ⟨gp,op,none⟩) np cp,.slice pt nt ct,.slice pg ng cg] 72 (0,0))∧(W1.drewN kd).heap[b2]?=some (.cells #[.int .i64 p,.int .i64 a0,.int .u64 a1,.int .u64 a2,.int .u64 a3,.int .u64 a4,.int .u64 a5,.int .u64 a6,.int .u64 a7,.int .u64 a8] 81 (0,0))∧Below w.heap.size w (W1.drewN kd)):=⟨HK.out.1,HK.out.2.1,bel_drewZ kd HBW.out⟩
    obtain ⟨W2,hW2⟩:∃ W2,W1.drewN kd=W2:=⟨_,rfl⟩
    rw [hW2] at HST ⊢
    clear hW2 hm1 hm2 hm0 r0
    have HLI:Hid (LI w (some ⟨gq,oq,none⟩) (q0 :: Qr)):=by
     have h9:=HQ.out.2 w (Below.refl _ _)
     rw [HQR.out] at h9
     exact h9
    go_upto_region 4 with fail
    go_cut [26,27,28] from 14 to 25 (fun v26 v27 v28 wx=>∃ (qr:Option Addr) (cr:Nat),v26=.slice qr mr cr∧v27=.int .i64 (mr:Int)∧v28=.int .i64 0∧wx=W2∧Hid (LI w qr Qr))
    case first=>
     by_cases hc1:c=1
     ·obtain rfl:mr=0:=by omega
      have hL0:Hid (LI w (some ⟨gq,oq,none⟩) Qr):=fun k x hx=>by
       have h9:=(List.getElem?_eq_some_iff.1 hx).1
       have:=HQL.out
       omega
      subst hc1
      go_wp2_with fail
      go_meet
      exact ⟨_,_,rfl,rfl,rfl,rfl,hL0⟩
     ·have hL1:Hid (LI w (some ⟨gq,oq+1,none⟩) Qr):=fun k x hx=>by
       obtain ⟨g,o,e,h9⟩:=HLI.out (k+1) x (by simpa using hx)
       simp only [Option.some.injEq,Addr.mk.injEq] at e
       obtain ⟨rfl,rfl,-⟩:=e
       exact ⟨gq,oq+1,rfl,by rw [show oq+1+k=oq+(k+1) by omega];exact h9⟩
      have hc2:¬(c:Int)=1:=by omega
      have hc3:(1:Int)≤(mr:Int)+1:=by omega
      have hc4:(mr:Int)+1≤(c:Int):=by omega
      go_wp2_with fail
      go_meet
      exact ⟨_,_,rfl,rfl,rfl,rfl,hL1⟩
    case rest=>
     obtain ⟨qr,cr,rfl,rfl,rfl,rfl,HLQ⟩:=hcut
     go_wp2_with fail
     go_loopw [9,28] (fun v9 vk wr=>∃ (cnt k:Nat),v9=.int .i64 (cnt:Int)∧vk=.int .i64 (k:Int)∧k≤mr∧cnt≤k∧Hid (∃ (x:Int) (t:List UInt8),folR n (Qr.drop k) (k+1) (x,t) cnt=R∧StP n (x,t)∧wr.heap[B]?=some (.cells #[.slice (some ⟨gp,op,none⟩) np cp,.slice pt nt ct,.slice pg ng cg] 72 (0,0))∧wr.heap[b2]?=some (.cells (stC (x,t)).toArray 81 (0,0))∧Below w.heap.size w wr)) (fun _ vk _=>mr - (intOf vk).toNat)
     case atStart=>exact ⟨0,0,rfl,rfl,Nat.zero_le _,Nat.zero_le _,p,h,HR.out,HV.out.2.1,HST.out.1,by rw [stC_arr HK.out.2.2.2];exact HST.out.2.1,HST.out.2.2⟩
     case round=>
      obtain ⟨cnt,k,rfl,rfl,hk,hcn,HS⟩:=hrel
      obtain ⟨x,t,hfo,hst,kB,kb,hbw⟩:=HS.out
      obtain ⟨xk,hxk⟩:∃ xk:Nat,x=(xk:Int):=⟨x.toNat,by have:=hst.1;omega⟩
      subst hxk
      obtain ⟨d0,d1,d2,d3,d4,d5,d6,d7,d8,h8⟩:=c9_ex t
      rw [stC_arr h8] at kb
      have hxn:xk < np:=by have:=hst.2.1;have:=HV.out.2.2.2;simp only at *;omega
      by_cases hlt:k < mr
      ·obtain ⟨y,hy⟩:∃ y,Qr[k]?=some y:=⟨_,List.getElem?_eq_getElem (by have:=HQL.out;omega)⟩
       obtain ⟨g,o,e9,u0'⟩:=HLQ.out k y hy
       subst e9
       have u0:=keepC hbw u0'
       have hdr:Qr.drop k=y :: Qr.drop (k+1):=by
        have hl9:k < Qr.length:=by have:=HQL.out;omega
        rw [List.drop_eq_getElem_cons hl9]
        congr 1
        exact (List.getElem?_eq_some_iff.1 hy).2
       rw [hdr] at hfo
       obtain ⟨inn,hinn⟩:∃ inn,(portAt n (xk:Int)).inn=inn:=⟨_,rfl⟩
       obtain ⟨SS,hSS⟩:∃ SS,stpS n ((xk:Int),t)=SS:=⟨_,rfl⟩
       obtain ⟨ms,hms⟩:∃ ms,SS.length=ms:=⟨_,rfl⟩
       obtain ⟨s4,sP⟩:=stp_st HV.out.1 hst
       rw [hSS] at s4 sP
       have hso:ovS n ((xk:Int),t)=SS∨inn=true:=by
        cases inn with
        | true=>exact .inr rfl
        | false=>exact .inl ((stp_out (s:=((xk:Int),t)) hinn).symm.trans hSS)
       have hsa:(aplM n ((xk:Int),t)).2=SS∨inn=false:=by
        cases inn with
        | false=>exact .inr rfl
        | true=>exact .inl ((stp_in (s:=((xk:Int),t)) hinn).symm.trans hSS)
       obtain ⟨b3,hb3⟩:∃ b3,wr.heap.size=b3:=⟨_,rfl⟩
       obtain ⟨W3,hW3⟩:∃ W3,wr.alloc (.cells #[.int .i64 y] 3)=W3:=⟨_,rfl⟩
       have bd3:Below wr.heap.size wr W3:=by rw [←hW3];exact belAZ (Below.refl _ _) _
       have k3:W3.heap[b3]?=some (.cells #[.int .i64 y] 3 (0,0)):=by rw [←hW3,←hb3];exact alloc_getZ _ _
       have HC:Hid (∀ U,Below W3.heap.size W3 U→(U.cell? ⟨B,0,none⟩=some (.slice (some ⟨gp,op,none⟩) np cp)∧U.cell? ⟨B,1,none⟩=some (.slice pt nt ct)∧U.cell? ⟨B,2,none⟩=some (.slice pg ng cg))∧(U.cell? ⟨b2,0,none⟩=some (.int .i64 (xk:Int))∧U.cell? ⟨b2,1,none⟩=some (.int .i64 d0)∧U.cell? ⟨b2,2,none⟩=some (.int .u64 d1)∧U.cell? ⟨b2,3,none⟩=some (.int .u64 d2)∧U.cell? ⟨b2,4,none⟩=some (.int .u64 d3)∧U.cell? ⟨b2,5,none⟩=some (.int .u64 d4)∧U.cell? ⟨b2,6,none⟩=some (.int .u64 d5)∧U.cell? ⟨b2,7,none⟩=some (.int .u64 d6)∧U.cell? ⟨b2,8,none⟩=some (.int .u64 d7)∧U.cell? ⟨b2,9,none⟩=some (.int .u64 d8))∧U.cell? ⟨b3,0,none⟩=some (.int .i64 y)∧U.heap[B]?=some (.cells #[.slice (some ⟨gp,op,none⟩) np cp,.slice pt nt ct,.slice pg ng cg] 72 (0,0))∧U.heap[b2]?=some (.cells #[.int .i64 (xk:Int),.int .i64 d0,.int .u64 d1,.int .u64 d2,.int .u64 d3,.int .u64 d4,.int .u64 d5,.int .u64 d6,.int .u64 d7,.int .u64 d8] 81 (0,0))∧Below w.heap.size w U):=fun U hU=>by
        have kb':=keepZ (bel0Z bd3 hU) kb
        have e2:=(cellsZ kb').1
        have e3:=(cellsZ (keepZ hU k3)).1
        exact ⟨HCB.out U (keepZ (bel0Z bd3 hU) kB),⟨by rw [e2];rfl,by rw [e2];rfl,by rw [e2];rfl,by rw [e2];rfl,by rw [e2];rfl,by rw [e2];rfl,by rw [e2];rfl,by rw [e2];rfl,by rw [e2];rfl,by rw [e2];rfl⟩,by rw [e3];rfl,keepZ (bel0Z bd3 hU) kB,kb',bel0Z hbw (bel0Z bd3 hU)⟩
       have HPC:Hid (∀ U,Below W3.heap.size W3 U→U.cell? ⟨gp,op+xk*4+2,none⟩=some (.bool inn)):=fun U hU=>by
        rw [←hinn]
        exact HPT.out xk hxn U (bel0Z hbw (bel0Z bd3 hU))
       have HO3:Hid (Calls Tryz.prog 44 #[.agg #[.slice (some ⟨gp,op,none⟩) np cp,.slice pt nt ct,.slice pg ng cg],.agg #[.int .i64 (xk:Int),.int .i64 d0,.int .u64 d1,.int .u64 d2,.int .u64 d3,.int .u64 d4,.int .u64 d5,.int .u64 d6,.int .u64 d7,.int .u64 d8]] W3 (OVQ n ((xk:Int),t) W3)):=by
        have h9:=HOV.out (xk:Int) t W3 (bel0Z hbw bd3) hst.1 hst.2.1
        rw [stC_arr h8] at h9
        exact h9
       have HA3:Hid (∀ U,Below W3.heap.size W3 U→Calls Tryz.prog 45 #[.agg #[.slice (some ⟨gp,op,none⟩) np cp,.slice pt nt ct,.slice pg ng cg],.agg #[.int .i64 (xk:Int),.int .i64 d0,.int .u64 d1,.int .u64 d2,.int .u64 d3,.int .u64 d4,.int .u64 d5,.int .u64 d6,.int .u64 d7,.int .u64 d8]] U (APQ n ((xk:Int),t) U)):=fun U hU=>by
        have h9:=HAP.out (xk:Int) t U (bel0Z hbw (bel0Z bd3 hU)) hst
        rw [stC_arr h8] at h9
        exact h9
       have HX:Hid (SS.length=ms∧ms≤4∧(∀ o∈SS,StP n o)∧(ovS n ((xk:Int),t)=SS∨inn=true)∧((aplM n ((xk:Int),t)).2=SS∨inn=false)):=⟨hms,by omega,sP,hso,hsa⟩
       have HFO:Hid ((match SS.find? (fun o=>o.1==y) with | none=>([],((k+1:Nat):Int),101) | some o=>folR n (Qr.drop (k+1)) (k+1+1) o (if inn=true then cnt+1 else cnt))=R):=by
        show _=_
        rw [←hfo,fol_step hSS hinn]
        rfl
       have hms7:ms≤140737488351232:=by have:=HX.out.2.1;omega
       have j2:(0:Int)≤(k:Int):=by omega
       have j3:(k:Int) < (mr:Int):=by omega
       have j4:(0:Int)≤(xk:Int):=by omega
       have j5:(xk:Int) < (np:Int):=by omega
       have HW3:=hideL hW3
       have HB3:=hideL hb3
       clear hfo hst kB kb hbw h8 hxn hy u0' hdr hinn hSS hms s4 sP hso hsa hb3 hW3 bd3 k3 HS
       go_upto_region 7 with fail
       rw [HW3.out,HB3.out]
       clear u0
       obtain ⟨⟨q0',q1,q2⟩,⟨r0,r1,r2,r3,r4,r5,r6,r7,r8,r9⟩,v0,-,-,-⟩:=HC.out W3 (Below.refl _ _)
       go_wp2_with fail
       refine (HO3.out).mono ?_
       rintro e W4 ⟨qo,co,rfl,ho,-,c4⟩
       have hro:RowL 10 stC W4 qo (ovS n ((xk:Int),t)):=own_rowL stC_len ho rfl
       have HRO:=hideL hro
       have HC4:=hideL c4
       clear q0' q1 q2 v0 ho hro
       clear r0 r1 r2 r3 r4 r5 r6 r7 r8 r9
       obtain ⟨⟨q0',q1,q2⟩,⟨r0,r1,r2,r3,r4,r5,r6,r7,r8,r9⟩,v0,-,-,-⟩:=HC.out W4 c4
       have v2:=HPC.out W4 c4
       clear c4
       go_upto_if 42 with fail
       go_cut [9,12] from 30 to 50 (fun v9 v12 wx=>∃ (cn:Nat) (qs:Option Addr) (cs:Nat),v9=.int .i64 (cn:Int)∧v12=.slice qs ms cs∧cn≤k+1∧Hid (cn=(if inn=true then cnt+1 else cnt)∧RowL 10 stC wx qs SS∧Below W3.heap.size W3 wx))
       case first=>
        cases inn with
        | false=>
         have e9:ovS n ((xk:Int),t)=SS:=by rcases HX.out.2.2.2.1 with h9 | h9;exact h9;cases h9
         have hl9:(ovS n ((xk:Int),t)).length=ms:=by rw [e9];exact HX.out.1
         rw [hl9]
         have HQ9:Hid (cnt=(if false=true then cnt+1 else cnt)∧RowL 10 stC W4 qo SS∧Below W3.heap.size W3 W4):=⟨rfl,by rw [←e9];exact HRO.out,HC4.out⟩
         clear e9 hl9
         go_wp2_with fail
         go_meet
         exact ⟨cnt,qo,co,rfl,rfl,by omega,HQ9⟩
        | true=>
         have hA:=hideL (HA3.out W4 HC4.out)
         go_wp2_with fail
         refine Calls.mono hA.out ?_
         rintro e W5 ⟨qs,cs,rfl,ho,c5⟩
         have e9:(aplM n ((xk:Int),t)).2=SS:=by rcases HX.out.2.2.2.2 with h9 | h9;exact h9;cases h9
         rw [e9,HX.out.1] at ho ⊢
         have HQ9:Hid (cnt+1=(if true=true then cnt+1 else cnt)∧RowL 10 stC W5 qs SS∧Below W3.heap.size W3 W5):=⟨rfl,own_rowL stC_len ho HX.out.1,bel0Z HC4.out c5⟩
         clear ho c5 e9 q0' q1 q2 v0 v2
         clear r0 r1 r2 r3 r4 r5 r6 r7 r8 r9
         go_wp2_with fail
         go_meet
         exact ⟨cnt+1,qs,cs,by go_num,rfl,by omega,HQ9⟩
       case rest=>
        obtain ⟨cn,qs,cs,rfl,rfl,hcn9,HQ9⟩:=hcut
        clear q0' q1 q2 v0 v2
        clear r0 r1 r2 r3 r4 r5 r6 r7 r8 r9
        have hix:=hideL (ixs_any SS qs ms cs y b3 wc HX.out.1 HQ9.out.2.1 (HC.out wc HQ9.out.2.2).2.2.1 (by have:=HX.out.2.1;omega))
        go_wp2_with fail
        refine Calls.mono hix.out ?_
        rintro e W6 ⟨c6,hres⟩
        have c6':=bel0Z HQ9.out.2.2 c6
        rcases hres with ⟨rfl,hno⟩ | ⟨kk,o9,rfl,hk9,hfi⟩
        ·have HFIN:Hid (FLQ R w (.returned (.tuple #[.string ⟨#[]⟩,.int .i64 ((k:Int)+1),.int .i64 101])) W6):=by
          have h9:=HFO.out
          rw [hno] at h9
          rw [←h9]
          exact ⟨rfl,(HC.out W6 c6').2.2.2.2.2⟩
         clear c6 c6' hno
         go_wp2_with fail
         refine bodyPost_ret (results_tmp3 rfl _ _ _) rfl ?_
         exact HFIN.out
        ·obtain ⟨xo,tz⟩:=o9
         obtain ⟨gs,os,e9,hcx⟩:=(HQ9.out.2.1.below c6) kk _ hk9
         subst e9
         obtain ⟨g0,g1,g2,g3,g4,g5,g6,g7,g8,h7⟩:=c9_ex tz
         have hcx9:∀ (i:Nat) (v:Value),([.int .i64 xo,.int .i64 g0,.int .u64 g1,.int .u64 g2,.int .u64 g3,.int .u64 g4,.int .u64 g5,.int .u64 g6,.int .u64 g7,.int .u64 g8]:List Value)[i]?=some v→W6.cell? ⟨gs,os+kk*10+i,none⟩=some v:=fun i v hv=>hcx i v (by unfold stC;rw [show cubC (xo,tz).2=_ from h7];exact hv)
         have u0:=hcx9 0 _ rfl
         have u1:=hcx9 1 _ rfl
         have u2:=hcx9 2 _ rfl
         have u3:=hcx9 3 _ rfl
         have u4:=hcx9 4 _ rfl
         have u5:=hcx9 5 _ rfl
         have u6:=hcx9 6 _ rfl
         have u7:=hcx9 7 _ rfl
         have u8:=hcx9 8 _ rfl
         have u9:=hcx9 9 _ rfl
         rw [Nat.add_zero] at u0
         have hkm:kk < ms:=by rw [←HX.out.1];exact (List.getElem?_eq_some_iff.1 hk9).1
         have j6:(0:Int)≤(kk:Int):=by omega
         have j7:(kk:Int) < (ms:Int):=by omega
         have j8:¬(kk:Int) < 0:=by omega
         obtain ⟨-,⟨r0,r1,r2,r3,r4,r5,r6,r7,r8,r9⟩,-,kB6,kb6,hbw6⟩:=HC.out W6 c6'
         have hzz:=cellsZ kb6
         have f0:=hzz.2 0
         have f1:=hzz.2 1
         have f2:=hzz.2 2
         have f3:=hzz.2 3
         have f4:=hzz.2 4
         have f5:=hzz.2 5
         have f6:=hzz.2 6
         have f7:=hzz.2 7
         have f8:=hzz.2 8
         have f9:=hzz.2 9
         obtain ⟨W7,hW7⟩:∃ W7,((((((((((W6.setCell ⟨b2,0,none⟩ (.int .i64 xo)).setCell ⟨b2,1,none⟩ (.int .i64 g0)).setCell ⟨b2,2,none⟩ (.int .u64 g1)).setCell ⟨b2,3,none⟩ (.int .u64 g2)).setCell ⟨b2,4,none⟩ (.int .u64 g3)).setCell ⟨b2,5,none⟩ (.int .u64 g4)).setCell ⟨b2,6,none⟩ (.int .u64 g5)).setCell ⟨b2,7,none⟩ (.int .u64 g6)).setCell ⟨b2,8,none⟩ (.int .u64 g7)).setCell ⟨b2,9,none⟩ (.int .u64 g8))=W7:=⟨_,rfl⟩
         have hst9:StP n (xo,tz):=HX.out.2.2.1 _ (List.mem_of_getElem? hk9)
         have HS9:Hid (∃ (x:Int) (t:List UInt8),folR n (Qr.drop (k+1)) (k+1+1) (x,t) cn=R∧StP n (x,t)∧W7.heap[B]?=some (.cells #[.slice (some ⟨gp,op,none⟩) np cp,.slice pt nt ct,.slice pg ng cg] 72 (0,0))∧W7.heap[b2]?=some (.cells (stC (x,t)).toArray 81 (0,0))∧Below w.heap.size w W7):=by
          refine ⟨xo,tz,?_,hst9,?_,?_,?_⟩
          ·have h9:=HFO.out
           rw [hfi] at h9
           rw [HQ9.out.1]
           exact h9
          ·rw [←hW7,put10f _ _ _ _ _ _ _ _ _ _ HNB.out.1]
           exact kB6
          ·rw [←hW7,stC_arr h7]
           exact put10 _ _ _ _ _ _ _ _ _ _ kb6
          ·rw [←hW7]
           exact put10b _ _ _ _ _ _ _ _ _ _ hbw6 HNB.out.2
         have HW7:=hideL hW7
         clear c6 c6' hk9 hfi hcx hcx9 h7 hkm kB6 kb6 hbw6 hzz hW7 hst9
         go_wp2_with fail
         rw [HW7.out]
         go_roundw
         case rel=>exact ⟨cn,k+1,rfl,by go_num,by omega,hcn9,HS9⟩
         case measure=>simp [intOf];omega
      ·obtain rfl:k=mr:=by omega
       have j3:¬(k:Int) < (k:Int):=by omega
       have e2:=(cellsZ kb).1
       have r0:wr.cell? ⟨b2,0,none⟩=some (.int .i64 (xk:Int)):=by rw [e2];rfl
       have r1:wr.cell? ⟨b2,1,none⟩=some (.int .i64 d0):=by rw [e2];rfl
       have r2:wr.cell? ⟨b2,2,none⟩=some (.int .u64 d1):=by rw [e2];rfl
       have r3:wr.cell? ⟨b2,3,none⟩=some (.int .u64 d2):=by rw [e2];rfl
       have r4:wr.cell? ⟨b2,4,none⟩=some (.int .u64 d3):=by rw [e2];rfl
       have r5:wr.cell? ⟨b2,5,none⟩=some (.int .u64 d4):=by rw [e2];rfl
       have r6:wr.cell? ⟨b2,6,none⟩=some (.int .u64 d5):=by rw [e2];rfl
       have r7:wr.cell? ⟨b2,7,none⟩=some (.int .u64 d6):=by rw [e2];rfl
       have r8:wr.cell? ⟨b2,8,none⟩=some (.int .u64 d7):=by rw [e2];rfl
       have r9:wr.cell? ⟨b2,9,none⟩=some (.int .u64 d8):=by rw [e2];rfl
       have hRR:R=(t,(cnt:Int),0):=by
        rw [←hfo,List.drop_eq_nil_of_le (by have:=HQL.out;omega)]
        rfl
       have HT9:Hid (∀ U:World,Calls Tryz.prog 29 #[.agg #[.int .i64 d0,.int .u64 d1,.int .u64 d2,.int .u64 d3,.int .u64 d4,.int .u64 d5,.int .u64 d6,.int .u64 d7,.int .u64 d8]] U fun e w'=>e=.returned (.string ⟨t.toArray⟩)∧Below U.heap.size U w'):=fun U=>by
        have h9:=Tn.text_any t U (cubeP_good (hdP_cube hst.2.2) HV.out.1.bits.2)
        rw [h8.agg] at h9
        exact h9
       have HRR:=hideL hRR
       have HBW9:=hideL hbw
       clear hfo hst kB kb hbw h8 hxn e2 hRR HS
       go_wp2_with fail
       refine (HT9.out wr).mono ?_
       rintro e W4 ⟨rfl,c4⟩
       have HFIN:Hid (FLQ R w (.returned (.tuple #[.string ⟨t.toArray⟩,.int .i64 (cnt:Int),.int .i64 0])) W4):=by
        rw [HRR.out]
        exact ⟨rfl,bel0Z HBW9.out c4⟩
       clear c4
       clear r0 r1 r2 r3 r4 r5 r6 r7 r8 r9
       go_wp2_with fail
       refine bodyPost_ret (results_tmp3 rfl _ _ _) rfl ?_
       exact HFIN.out
end Go.Proofs.YtbplhianpelmfaaGreatDoor.Nt
