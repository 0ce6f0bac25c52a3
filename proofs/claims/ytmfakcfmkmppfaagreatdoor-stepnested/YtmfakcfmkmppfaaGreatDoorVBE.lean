import Derived.Test.YtmfakcfmkmppfaaGreatDoorVBC
namespace Go.Proofs.YtmfakcfmkmppfaaGreatDoor.Nt
open Go.RowKit Go.Shelf
def HOK (hops:Int):Prop:=0<=hops/\hops<=64
theorem hops_yes (hops:Int) (w:World) (h:HOK hops):Calls Tryz.prog 25 #[.int .i64 hops] w fun e w'=>e=.returned (.int .i64 0)/\w'=w:=by
 obtain ⟨h1,h2⟩:=h;have j1:¬hops < 0:=by omega
 have j2:¬hops > 64:=by omega
 go_enter Tryz.func25,Tryz.ntmps25
 go_wp2_with fail
 go_ret
 exact ⟨rfl,rfl⟩
theorem hops_no (hops:Int) (w:World) (h:¬HOK hops):Calls Tryz.prog 25 #[.int .i64 hops] w fun e w'=>e=.returned (.int .i64 1)/\w'=w:=by
 by_cases j1:hops < 0
 ·go_enter Tryz.func25,Tryz.ntmps25
  go_wp2_with fail
  go_ret
  exact ⟨rfl,rfl⟩
 ·have j2:hops > 64:=by unfold HOK at h;omega
  go_enter Tryz.func25,Tryz.ntmps25
  go_wp2_with fail
  go_ret
  exact ⟨rfl,rfl⟩
def PTQ (n:NN) (np nt ng:Nat) (s:Int×List UInt8) (hops:Int) (w:World) (e:Ending) (w':World):Prop:=
 ((NetP n/\StP n s)/\HOK hops->∃ b7 b8 b5 p1 c1 p2 c2 p3 c3 wv,e=.returned (.func (.func 30) #[] #[.pointer (some ⟨b7,0,none⟩),.pointer (some ⟨b8,0,none⟩),.pointer (some ⟨b5,0,none⟩)])/\w'.heap[b7]?=some (.cells #[.slice p1 np c1,.slice p2 nt c2,.slice p3 ng c3] 64 (0,0))/\w'.heap[b8]?=some (.cells (wyC (zd4 s,wv)).toArray 72 (0,0))/\w'.heap[b5]?=some (.cells #[.int .i64 hops] 3 (0,0))/\NK w' n ⟨p1,c1,p2,c2,p3,c3⟩/\WL w' (zd4 s,wv))/\(¬((NetP n/\StP n s)/\HOK hops)->e=.returned (.func (.func 26) #[] #[]))/\Below w.heap.size w w'
set_option maxRecDepth 100000 in
set_option maxHeartbeats 16000000 in
theorem zqa (n:NN) (v:NV) (s9:Int×List UInt8) (hops:Int) (w:World) (hN:LN w n v) (hO:okN n) (hT:TAB w) (hh:okS s9.2) :
  Calls Tryz.prog 9 #[.agg (nnA n v),.agg #[.int .i64 s9.1,.string ⟨s9.2.toArray⟩],.int .i64 hops] w (PTQ n n.ports.length n.tabs.length n.grds.length s9 hops w):=by
 obtain ⟨p,h⟩:=s9;simp only at hh ⊢;have hck:=fun (U:World) (hU:Below w.heap.size w U)=>zkf n v p h U (hN.below hU) hO (hT.at hU) hh;have hso:=fun (U:World)=>zge p h U hh;have hrd:=fun (hV:NetP n) (U:World) (hU:Below w.heap.size w U)=>zpx n v n.ports.length n.tabs.length n.grds.length U (hN.below hU) hO hV rfl rfl rfl;obtain ⟨pp,cp,pt,ct,pg,cg⟩:=v;unfold nnA at hck ⊢;simp only at hck hrd ⊢;obtain ⟨np,hnp⟩:=ex n.ports.length;obtain ⟨nt,hnt⟩:=ex n.tabs.length;obtain ⟨ng,hng⟩:=ex n.grds.length;obtain ⟨bits,hbits⟩:=ex n.bits;rw [hnp,hnt,hng] at hck hrd ⊢;rw [hbits] at hck hrd ⊢;obtain ⟨R,hR⟩:=ex (zf6 n (p,h));rw [hR] at hck;obtain ⟨B,hB⟩:=ex w.heap.size;obtain ⟨b2,hb2⟩:=ex (w.heap.size+1);obtain ⟨b5,hb5⟩:=ex (b2+1);obtain ⟨W1,hW1⟩:=ex (((w.alloc (.cells #[.int .i64 bits,.slice pp np cp,.slice pt nt ct,.slice pg ng cg] 26)).alloc (.cells #[.int .i64 p,.string ⟨h.toArray⟩] 28)).alloc (.cells #[.int .i64 hops] 3));have hz2:(w.alloc (.cells #[.int .i64 bits,.slice pp np cp,.slice pt nt ct,.slice pg ng cg] 26)).heap.size=w.heap.size+1:=Array.size_push _;have hz3:((w.alloc (.cells #[.int .i64 bits,.slice pp np cp,.slice pt nt ct,.slice pg ng cg] 26)).alloc (.cells #[.int .i64 p,.string ⟨h.toArray⟩] 28)).heap.size=w.heap.size+1+1:=by rw [<-hz2];exact Array.size_push _
 have b1:Below w.heap.size w W1:=by rw [<-hW1];exact zah (zah (zah (Below.refl _ _) _) _) _
 have k1:W1.heap[B]?=some (.cells #[.int .i64 bits,.slice pp np cp,.slice pt nt ct,.slice pg ng cg] 26 (0,0)):=by rw [<-hW1,<-hB];exact zae (zah (Below.refl _ _) _) (zae (zah (Below.refl _ _) _) (zaa _ _))
 have k2:W1.heap[b2]?=some (.cells #[.int .i64 p,.string ⟨h.toArray⟩] 28 (0,0)):=by rw [<-hW1,<-hb2,<-hz2];exact zae (zah (Below.refl _ _) _) (zaa _ _)
 have k3:W1.heap[b5]?=some (.cells #[.int .i64 hops] 3 (0,0)):=by rw [<-hW1,<-hb5,<-hb2,<-hz3];exact zaa _ _
 have HC:Hid (∀ U:World,U.heap[B]?=W1.heap[B]?->U.heap[b2]?=W1.heap[b2]?->U.heap[b5]?=W1.heap[b5]?->((U.cell? ⟨B,0,none⟩=some (.int .i64 bits)/\U.cell? ⟨B,1,none⟩=some (.slice pp np cp)/\U.cell? ⟨B,2,none⟩=some (.slice pt nt ct)/\U.cell? ⟨B,3,none⟩=some (.slice pg ng cg))/\(U.cell? ⟨b2,0,none⟩=some (.int .i64 p)/\U.cell? ⟨b2,1,none⟩=some (.string ⟨h.toArray⟩)))/\U.cell? ⟨b5,0,none⟩=some (.int .i64 hops)):=fun U h1 h2 h3=>by
  have e1:=(zaf (h1.trans k1)).1;have e2:=(zaf (h2.trans k2)).1;have e3:=(zaf (h3.trans k3)).1;exact ⟨⟨⟨by rw [e1];rfl,by rw [e1];rfl,by rw [e1];rfl,by rw [e1];rfl⟩,⟨by rw [e2];rfl,by rw [e2];rfl⟩⟩,by rw [e3];rfl⟩
 have HCB:Hid (∀ U:World,Below W1.heap.size W1 U->((U.cell? ⟨B,0,none⟩=some (.int .i64 bits)/\U.cell? ⟨B,1,none⟩=some (.slice pp np cp)/\U.cell? ⟨B,2,none⟩=some (.slice pt nt ct)/\U.cell? ⟨B,3,none⟩=some (.slice pg ng cg))/\(U.cell? ⟨b2,0,none⟩=some (.int .i64 p)/\U.cell? ⟨b2,1,none⟩=some (.string ⟨h.toArray⟩)))/\U.cell? ⟨b5,0,none⟩=some (.int .i64 hops)):=fun U hU=>HC.out U (hU.block _ (zap k1)) (hU.block _ (zap k2)) (hU.block _ (zap k3));have HCK:Hid (Calls Tryz.prog 24 #[.agg #[.int .i64 bits,.slice pp np cp,.slice pt nt ct,.slice pg ng cg],.agg #[.int .i64 p,.string ⟨h.toArray⟩]] W1 fun e w'=>e=.returned (.int .i64 R)/\Below W1.heap.size W1 w'):=hck W1 b1;have HV:Hid (zf6 n (p,h)=R):=hR;have HSO:Hid (∀ U:World,Calls Tryz.prog 29 #[.agg #[.int .i64 p,.string ⟨h.toArray⟩]] U fun e w'=>e=.returned (.agg (stC (p,Tn.cubeT h)).toArray)/\Below U.heap.size U w'):=hso;have HRD:Hid (NetP n->∀ U,Below W1.heap.size W1 U->Calls Tryz.prog 27 #[.agg #[.int .i64 bits,.slice pp np cp,.slice pt nt ct,.slice pg ng cg]] U (RDK n np nt ng U)):=fun hV U hU=>hrd hV U (zac b1 hU);have HBX:Hid (B < W1.heap.size/\b2 < W1.heap.size/\b5 < W1.heap.size/\w.heap.size<=W1.heap.size/\(∀ U,Below W1.heap.size W1 U->U.heap[b5]?=some (.cells #[.int .i64 hops] 3 (0,0)))/\∀ U,Below W1.heap.size W1 U->Below w.heap.size w U):=⟨zap k1,zap k2,zap k3,b1.size,fun U hU=>zae hU k3,fun U hU=>zac b1 hU⟩;have HB:=zab hB;have HB2:=zab hb2;have HB5:=zab hb5;have HW1:=zab hW1;obtain ⟨⟨⟨q0,q1,q2,q3⟩,⟨r0,r1⟩⟩,t0⟩:=HCB.out W1 (Below.refl _ _);clear hN hO hT hh hck hso hrd hnp hnt hng hbits hR hB hb2 hb5 hW1 hz2 hz3 b1 k1 k2 k3
 go_enter Tryz.func9,Tryz.ntmps9
 go_upto_region 1 with fail
 rw [HW1.out,HB2.out,HB.out];rw [HB5.out]
 by_cases hP:NetP n/\StP n (p,h)
 ·have hR0:R=0:=by rw [<-HV.out];exact ziy hP.1 hP.2
  subst hR0
  by_cases hH:HOK hops
  ·have HHY:=zab (fun U=>hops_yes hops U hH)
   obtain ⟨a0,a1,a2,a3,a4,a5,a6,a7,a8,h9⟩:=zbz h;have HST:Hid (∀ U:World,Calls Tryz.prog 29 #[.agg #[.int .i64 p,.string ⟨h.toArray⟩]] U fun e w'=>e=.returned (.agg #[.int .i64 p,.int .i64 a0,.int .u64 a1,.int .u64 a2,.int .u64 a3,.int .u64 a4,.int .u64 a5,.int .u64 a6,.int .u64 a7,.int .u64 a8])/\Below U.heap.size U w'):=fun U=>by
    have hh:=HSO.out U;rw [zg0 (zd0 hP.2.2.2) hP.1.bits.1 hP.1.bits.2,zbf h9] at hh;exact hh
   have HAL:Hid (∀ U:World,Calls Tryz.prog 28 #[.agg #[.int .i64 p,.int .i64 a0,.int .u64 a1,.int .u64 a2,.int .u64 a3,.int .u64 a4,.int .u64 a5,.int .u64 a6,.int .u64 a7,.int .u64 a8]] U fun e w'=>∃ q1 e1 q2 e2,e=.returned (.agg #[.slice q1 1 e1,.slice q2 0 e2,.int .i64 a0,.int .u64 a1,.int .u64 a2,.int .u64 a3,.int .u64 a4,.int .u64 a5,.int .u64 a6,.int .u64 a7,.int .u64 a8])/\WL w' (zd4 (p,h),⟨q1,e1,q2,e2⟩)/\Below U.heap.size U w'):=fun U=>by
    have hh:=zr5 (p,h) U;rw [zbf h9] at hh;refine hh.mono ?_;rintro e w' ⟨⟨q1,e1,q2,e2⟩,he,hl,hb⟩;have e9:(wyC (zd4 (p,h),(⟨q1,e1,q2,e2⟩:WV))).toArray=#[.slice q1 1 e1,.slice q2 0 e2,.int .i64 a0,.int .u64 a1,.int .u64 a2,.int .u64 a3,.int .u64 a4,.int .u64 a5,.int .u64 a6,.int .u64 a7,.int .u64 a8]:=za9 (ps:=[p]) (es:=[]) (hd:=h) h9 rfl rfl;rw [e9] at he;exact ⟨q1,e1,q2,e2,he,hl,hb⟩
   have HRD:=zab (HRD.out hP.1);have HWY:Hid (∀ q1 e1 q2 e2,(wyC (zd4 (p,h),(⟨q1,e1,q2,e2⟩:WV))).toArray=#[.slice q1 1 e1,.slice q2 0 e2,.int .i64 a0,.int .u64 a1,.int .u64 a2,.int .u64 a3,.int .u64 a4,.int .u64 a5,.int .u64 a6,.int .u64 a7,.int .u64 a8]):=fun q1 e1 q2 e2=>za9 (ps:=[p]) (es:=[]) (hd:=h) h9 rfl rfl;have HPH:Hid ((NetP n/\StP n (p,h))/\HOK hops):=⟨hP,hH⟩;clear HSO hP hH h9
   go_wp2_with fail
   refine (HCK.out).mono ?_;rintro e W2 ⟨rfl,c2⟩;have t2:=(HCB.out W2 c2).2;clear q0 q1 q2 q3 r0 r1 t0
   go_wp2_with fail
   refine (HHY.out W2).mono ?_;rintro e W2b ⟨rfl,hw2⟩;subst hw2;clear t2
   go_upto_region 3 with fail
   go_cut [7,8] from 9 to 23 (fun v7 v8 wx=>∃ b7 b8 p1 c1 p2 c2 p3 c3 q1 e1 q2 e2,v7=.pointer (some ⟨b7,0,none⟩)/\v8=.pointer (some ⟨b8,0,none⟩)/\Hid (wx.heap[b7]?=some (.cells #[.slice p1 np c1,.slice p2 nt c2,.slice p3 ng c3] 64 (0,0))/\wx.heap[b8]?=some (.cells #[.slice q1 1 e1,.slice q2 0 e2,.int .i64 a0,.int .u64 a1,.int .u64 a2,.int .u64 a3,.int .u64 a4,.int .u64 a5,.int .u64 a6,.int .u64 a7,.int .u64 a8] 72 (0,0))/\wx.heap[b5]?=some (.cells #[.int .i64 hops] 3 (0,0))/\NK wx n ⟨p1,c1,p2,c2,p3,c3⟩/\WL wx (zd4 (p,h),⟨q1,e1,q2,e2⟩)/\Below w.heap.size w wx))
   case first=>
    have HLF:Hid (∀ (D:World) (b7 b8:Nat) p1 c1 p2 c2 p3 c3 q1 e1 q2 e2,Below W1.heap.size W1 D->W1.heap.size<=b7->W1.heap.size<=b8->D.heap[b7]?=some (.cells #[.slice none 0 0,.slice none 0 0,.slice none 0 0] 64 (0,0))->D.heap[b8]?=some (.cells #[.slice none 0 0,.slice none 0 0,.int .i64 0,.int .u64 0,.int .u64 0,.int .u64 0,.int .u64 0,.int .u64 0,.int .u64 0,.int .u64 0,.int .u64 0] 72 (0,0))->NK D n ⟨p1,c1,p2,c2,p3,c3⟩->WL D (zd4 (p,h),⟨q1,e1,q2,e2⟩)->∃ V1 V2,(((D.setCell ⟨b7,0,none⟩ (.slice p1 np c1)).setCell ⟨b7,1,none⟩ (.slice p2 nt c2)).setCell ⟨b7,2,none⟩ (.slice p3 ng c3))=V1/\(((((((((((V1.setCell ⟨b8,0,none⟩ (.slice q1 1 e1)).setCell ⟨b8,1,none⟩ (.slice q2 0 e2)).setCell ⟨b8,2,none⟩ (.int .i64 a0)).setCell ⟨b8,3,none⟩ (.int .u64 a1)).setCell ⟨b8,4,none⟩ (.int .u64 a2)).setCell ⟨b8,5,none⟩ (.int .u64 a3)).setCell ⟨b8,6,none⟩ (.int .u64 a4)).setCell ⟨b8,7,none⟩ (.int .u64 a5)).setCell ⟨b8,8,none⟩ (.int .u64 a6)).setCell ⟨b8,9,none⟩ (.int .u64 a7)).setCell ⟨b8,10,none⟩ (.int .u64 a8))=V2/\((V1.cell? ⟨B,0,none⟩=some (.int .i64 bits)/\V1.cell? ⟨B,1,none⟩=some (.slice pp np cp)/\V1.cell? ⟨B,2,none⟩=some (.slice pt nt ct)/\V1.cell? ⟨B,3,none⟩=some (.slice pg ng cg))/\(V1.cell? ⟨b2,0,none⟩=some (.int .i64 p)/\V1.cell? ⟨b2,1,none⟩=some (.string ⟨h.toArray⟩)))/\((V2.cell? ⟨B,0,none⟩=some (.int .i64 bits)/\V2.cell? ⟨B,1,none⟩=some (.slice pp np cp)/\V2.cell? ⟨B,2,none⟩=some (.slice pt nt ct)/\V2.cell? ⟨B,3,none⟩=some (.slice pg ng cg))/\(V2.cell? ⟨b2,0,none⟩=some (.int .i64 p)/\V2.cell? ⟨b2,1,none⟩=some (.string ⟨h.toArray⟩)))/\V1.heap[b8]?=some (.cells #[.slice none 0 0,.slice none 0 0,.int .i64 0,.int .u64 0,.int .u64 0,.int .u64 0,.int .u64 0,.int .u64 0,.int .u64 0,.int .u64 0,.int .u64 0] 72 (0,0))/\V2.heap[b7]?=some (.cells #[.slice p1 np c1,.slice p2 nt c2,.slice p3 ng c3] 64 (0,0))/\V2.heap[b8]?=some (.cells #[.slice q1 1 e1,.slice q2 0 e2,.int .i64 a0,.int .u64 a1,.int .u64 a2,.int .u64 a3,.int .u64 a4,.int .u64 a5,.int .u64 a6,.int .u64 a7,.int .u64 a8] 72 (0,0))/\V2.heap[b5]?=some (.cells #[.int .i64 hops] 3 (0,0))/\NK V2 n ⟨p1,c1,p2,c2,p3,c3⟩/\WL V2 (zd4 (p,h),⟨q1,e1,q2,e2⟩)/\Below w.heap.size w V2):=by
     intro D b7 b8 p1 c1 p2 c2 p3 c3 q1 e1 q2 e2 hD h7 h8 k7 k8 nk wl;have hne:b8≠b7:=ne_ty k8 k7 (by decide);obtain ⟨V1,hV1⟩:=ex ((((D.setCell ⟨b7,0,none⟩ (.slice p1 np c1)).setCell ⟨b7,1,none⟩ (.slice p2 nt c2)).setCell ⟨b7,2,none⟩ (.slice p3 ng c3)));have f1:∀ c,c≠b7->V1.heap[c]?=D.heap[c]?:=fun c hc=>by rw [<-hV1];exact put3f (.slice p1 np c1) (.slice p2 nt c2) (.slice p3 ng c3) hc
     have m7:V1.heap[b7]?=some (.cells #[.slice p1 np c1,.slice p2 nt c2,.slice p3 ng c3] 64 (0,0)):=by rw [<-hV1];exact put3 (.slice p1 np c1) (.slice p2 nt c2) (.slice p3 ng c3) k7
     have m8:=(f1 b8 hne).trans k8;obtain ⟨V2,hV2⟩:=ex ((((((((((((V1.setCell ⟨b8,0,none⟩ (.slice q1 1 e1)).setCell ⟨b8,1,none⟩ (.slice q2 0 e2)).setCell ⟨b8,2,none⟩ (.int .i64 a0)).setCell ⟨b8,3,none⟩ (.int .u64 a1)).setCell ⟨b8,4,none⟩ (.int .u64 a2)).setCell ⟨b8,5,none⟩ (.int .u64 a3)).setCell ⟨b8,6,none⟩ (.int .u64 a4)).setCell ⟨b8,7,none⟩ (.int .u64 a5)).setCell ⟨b8,8,none⟩ (.int .u64 a6)).setCell ⟨b8,9,none⟩ (.int .u64 a7)).setCell ⟨b8,10,none⟩ (.int .u64 a8)));have f2:∀ c,c≠b8->V2.heap[c]?=V1.heap[c]?:=fun c hc=>by rw [<-hV2];exact zmc (.slice q1 1 e1) (.slice q2 0 e2) (.int .i64 a0) (.int .u64 a1) (.int .u64 a2) (.int .u64 a3) (.int .u64 a4) (.int .u64 a5) (.int .u64 a6) (.int .u64 a7) (.int .u64 a8) hc
     have l8:V2.heap[b8]?=some (.cells #[.slice q1 1 e1,.slice q2 0 e2,.int .i64 a0,.int .u64 a1,.int .u64 a2,.int .u64 a3,.int .u64 a4,.int .u64 a5,.int .u64 a6,.int .u64 a7,.int .u64 a8] 72 (0,0)):=by rw [<-hV2];exact put11 (.slice q1 1 e1) (.slice q2 0 e2) (.int .i64 a0) (.int .u64 a1) (.int .u64 a2) (.int .u64 a3) (.int .u64 a4) (.int .u64 a5) (.int .u64 a6) (.int .u64 a7) (.int .u64 a8) m8
     have hb1:Below w.heap.size w V1:=by rw [<-hV1];exact zk0 (.slice p1 np c1) (.slice p2 nt c2) (.slice p3 ng c3) (HBX.out.2.2.2.2.2 D hD) (Nat.le_trans HBX.out.2.2.2.1 h7)
     have hb2:Below w.heap.size w V2:=by rw [<-hV2];exact zmd (.slice q1 1 e1) (.slice q2 0 e2) (.int .i64 a0) (.int .u64 a1) (.int .u64 a2) (.int .u64 a3) (.int .u64 a4) (.int .u64 a5) (.int .u64 a6) (.int .u64 a7) (.int .u64 a8) hb1 (Nat.le_trans HBX.out.2.2.2.1 h8)
     have g1:∀ c,c < W1.heap.size->V1.heap[c]?=W1.heap[c]?:=fun c hc=>(f1 c (by omega)).trans (hD.block c hc);have g2:∀ c,c < W1.heap.size->V2.heap[c]?=W1.heap[c]?:=fun c hc=>(f2 c (by omega)).trans (g1 c hc);obtain ⟨x1,x2,x3,-,x5,-⟩:=HBX.out;have kn:KQ NTY D V2:=fun c T cur fr hT hc=>by
      have e7:c≠b7:=by
       rintro rfl;rw [k7] at hc;simp only [Option.some.injEq,Obj.cells.injEq] at hc;rw [<-hc.2.1] at hT;exact absurd hT (by decide)
      have e8:c≠b8:=by
       rintro rfl;rw [k8] at hc;simp only [Option.some.injEq,Obj.cells.injEq] at hc;rw [<-hc.2.1] at hT;exact absurd hT (by decide)
      exact ((f2 c e8).trans (f1 c e7)).trans hc
     exact ⟨V1,V2,hV1,hV2,(HC.out V1 (g1 _ x1) (g1 _ x2) (g1 _ x3)).1,(HC.out V2 (g2 _ x1) (g2 _ x2) (g2 _ x3)).1,m8,(f2 b7 (Ne.symm hne)).trans m7,l8,(g2 _ x3).trans (x5 W1 (Below.refl _ _)),nk.kq kn,wl.kp (fun c cs fr hc=>kn c _ cs fr (by decide) hc),hb2⟩
    clear HHY HB HB2 HB5 HW1;obtain ⟨D0,hD0⟩:=ex W2b.drew;have hb0:Below W1.heap.size W1 D0:=by rw [<-hD0];exact zac c2 (Below.refl _ _).drew
    have hs0:=(HCB.out D0 hb0).1;rw [<-hD0] at hs0;refine wp_region_held_drew (S:=fun (U:World)=>(U.cell? ⟨B,0,none⟩=some (.int .i64 bits)/\U.cell? ⟨B,1,none⟩=some (.slice pp np cp)/\U.cell? ⟨B,2,none⟩=some (.slice pt nt ct)/\U.cell? ⟨B,3,none⟩=some (.slice pg ng cg))/\(U.cell? ⟨b2,0,none⟩=some (.int .i64 p)/\U.cell? ⟨b2,1,none⟩=some (.string ⟨h.toArray⟩))) (by kernel_rfl) hs0 (fun _=>?_);rw [hD0] at hs0 ⊢;clear hD0 c2;refine tk 0 (.agg #[.int .i64 bits,.slice pp np cp,.slice pt nt ct,.slice pg ng cg]) rfl hs0 ?_ ?_
    ·rintro w ⟨⟨q0,q1,q2,q3⟩,⟨r0,r1⟩⟩;go_simp
    refine tk 2 (.agg #[.int .i64 p,.string ⟨h.toArray⟩]) rfl hs0 ?_ ?_
    ·rintro w ⟨⟨q0,q1,q2,q3⟩,⟨r0,r1⟩⟩;go_simp
    refine wpAnyH_ready (rs:=[1,5,6]) (by kernel_rfl) (by simp) ?_;refine AllReadyH.cons rfl (fun KK hKK=>?o1) (AllReadyH.cons rfl (fun KK hKK=>?o2) (AllReadyH.cons rfl (fun KK hKK=>?o3) AllReadyH.nil))
    case' o1=>
     go_simp
     refine (HRD.out D0 hb0).mono ?_;rintro en D1 ⟨p1,c1,p2,c2,p3,c3,rfl,nk,bD⟩;have hb1:=zac hb0 bD;have hs1:=(HCB.out D1 hb1).1;clear bD
     go_simp
     refine hKK.out _ _ hs1 (fun _=>?_);clear hKK KK hs0;refine wpAnyH_ready (rs:=[3,5,6]) (by kernel_rfl) (by simp) ?_;refine AllReadyH.cons rfl (fun KK hKK=>?o4) (AllReadyH.cons rfl (fun KK hKK=>?o5) (AllReadyH.cons rfl (fun KK hKK=>?o6) AllReadyH.nil))
     case' o4=>
      go_simp
      refine (HST.out D1).mono ?_;rintro en D2 ⟨rfl,bD⟩;have hb2:=zac hb1 bD;have hs2:=(HCB.out D2 hb2).1
      replace nk:=nk.below bD
      clear bD
      go_simp
      refine hKK.out _ _ hs2 (fun _=>?_);clear hKK KK hs1;refine wpAnyH_ready (rs:=[4,5,6]) (by kernel_rfl) (by simp) ?_;refine AllReadyH.cons rfl (fun KK hKK=>?o7) (AllReadyH.cons rfl (fun KK hKK=>?o8) (AllReadyH.cons rfl (fun KK hKK=>?o9) AllReadyH.nil))
      case' o7=>
       go_simp
       refine (HAL.out D2).mono ?_;rintro en D3 ⟨q1,e1,q2,e2,rfl,wl,bD⟩;have hb3:=zac hb2 bD;have hs3:=(HCB.out D3 hb3).1
       replace nk:=nk.below bD
       clear bD
       go_simp
       refine hKK.out _ _ hs3 (fun _=>?_);clear hKK KK hs2;refine wpAnyH_ready (rs:=[5,6]) (by kernel_rfl) (by simp) ?_;refine AllReadyH.cons rfl (fun KK hKK=>?o10) (AllReadyH.cons rfl (fun KK hKK=>?o11) AllReadyH.nil)
       case' o10=>
        go_simp
        obtain ⟨b7,hbk⟩:=ex D3.heap.size;obtain ⟨D4,hD⟩:=ex (D3.alloc (.cells #[.slice none 0 0,.slice none 0 0,.slice none 0 0] 64));have bD:Below D3.heap.size D3 D4:=by rw [<-hD];exact zah (Below.refl _ _) _
        have x7:W1.heap.size<=b7:=by rw [<-hbk];exact hb3.size
        have hb4:=zac hb3 bD;have hs4:=(HCB.out D4 hb4).1
        replace nk:=nk.below bD
        replace wl:=wl.below bD
        have k7:D4.heap[b7]?=some (.cells #[.slice none 0 0,.slice none 0 0,.slice none 0 0] 64 (0,0)):=by rw [<-hD,<-hbk];exact zaa _ _
        rw [hD,hbk];clear hD hbk bD;refine hKK.out _ _ hs4 (fun _=>?_);clear hKK KK hs3;refine rd 6 rfl fun KK hKK=>?_
        go_simp
        obtain ⟨b8,hbk⟩:=ex D4.heap.size;obtain ⟨D5,hD⟩:=ex (D4.alloc (.cells #[.slice none 0 0,.slice none 0 0,.int .i64 0,.int .u64 0,.int .u64 0,.int .u64 0,.int .u64 0,.int .u64 0,.int .u64 0,.int .u64 0,.int .u64 0] 72));have bD:Below D4.heap.size D4 D5:=by rw [<-hD];exact zah (Below.refl _ _) _
        have x8:W1.heap.size<=b8:=by rw [<-hbk];exact hb4.size
        have hb5:=zac hb4 bD;have hs5:=(HCB.out D5 hb5).1
        replace k7:=zae bD k7
        replace nk:=nk.below bD
        replace wl:=wl.below bD
        have k8:D5.heap[b8]?=some (.cells #[.slice none 0 0,.slice none 0 0,.int .i64 0,.int .u64 0,.int .u64 0,.int .u64 0,.int .u64 0,.int .u64 0,.int .u64 0,.int .u64 0,.int .u64 0] 72 (0,0)):=by rw [<-hD,<-hbk];exact zaa _ _
        rw [hD,hbk];clear hD hbk bD;refine hKK.out _ _ hs5 (fun _=>?_);clear hKK KK hs4
       case' o11=>
        go_simp
        obtain ⟨b8,hbk⟩:=ex D3.heap.size;obtain ⟨D4,hD⟩:=ex (D3.alloc (.cells #[.slice none 0 0,.slice none 0 0,.int .i64 0,.int .u64 0,.int .u64 0,.int .u64 0,.int .u64 0,.int .u64 0,.int .u64 0,.int .u64 0,.int .u64 0] 72));have bD:Below D3.heap.size D3 D4:=by rw [<-hD];exact zah (Below.refl _ _) _
        have x8:W1.heap.size<=b8:=by rw [<-hbk];exact hb3.size
        have hb4:=zac hb3 bD;have hs4:=(HCB.out D4 hb4).1
        replace nk:=nk.below bD
        replace wl:=wl.below bD
        have k8:D4.heap[b8]?=some (.cells #[.slice none 0 0,.slice none 0 0,.int .i64 0,.int .u64 0,.int .u64 0,.int .u64 0,.int .u64 0,.int .u64 0,.int .u64 0,.int .u64 0,.int .u64 0] 72 (0,0)):=by rw [<-hD,<-hbk];exact zaa _ _
        rw [hD,hbk];clear hD hbk bD;refine hKK.out _ _ hs4 (fun _=>?_);clear hKK KK hs3;refine rd 5 rfl fun KK hKK=>?_
        go_simp
        obtain ⟨b7,hbk⟩:=ex D4.heap.size;obtain ⟨D5,hD⟩:=ex (D4.alloc (.cells #[.slice none 0 0,.slice none 0 0,.slice none 0 0] 64));have bD:Below D4.heap.size D4 D5:=by rw [<-hD];exact zah (Below.refl _ _) _
        have x7:W1.heap.size<=b7:=by rw [<-hbk];exact hb4.size
        have hb5:=zac hb4 bD;have hs5:=(HCB.out D5 hb5).1
        replace k8:=zae bD k8
        replace nk:=nk.below bD
        replace wl:=wl.below bD
        have k7:D5.heap[b7]?=some (.cells #[.slice none 0 0,.slice none 0 0,.slice none 0 0] 64 (0,0)):=by rw [<-hD,<-hbk];exact zaa _ _
        rw [hD,hbk];clear hD hbk bD;refine hKK.out _ _ hs5 (fun _=>?_);clear hKK KK hs4
      case' o8=>
       go_simp
       obtain ⟨b7,hbk⟩:=ex D2.heap.size;obtain ⟨D3,hD⟩:=ex (D2.alloc (.cells #[.slice none 0 0,.slice none 0 0,.slice none 0 0] 64));have bD:Below D2.heap.size D2 D3:=by rw [<-hD];exact zah (Below.refl _ _) _
       have x7:W1.heap.size<=b7:=by rw [<-hbk];exact hb2.size
       have hb3:=zac hb2 bD;have hs3:=(HCB.out D3 hb3).1
       replace nk:=nk.below bD
       have k7:D3.heap[b7]?=some (.cells #[.slice none 0 0,.slice none 0 0,.slice none 0 0] 64 (0,0)):=by rw [<-hD,<-hbk];exact zaa _ _
       rw [hD,hbk];clear hD hbk bD;refine hKK.out _ _ hs3 (fun _=>?_);clear hKK KK hs2;refine wpAnyH_ready (rs:=[4,6]) (by kernel_rfl) (by simp) ?_;refine AllReadyH.cons rfl (fun KK hKK=>?o12) (AllReadyH.cons rfl (fun KK hKK=>?o13) AllReadyH.nil)
       case' o12=>
        go_simp
        refine (HAL.out D3).mono ?_;rintro en D4 ⟨q1,e1,q2,e2,rfl,wl,bD⟩;have hb4:=zac hb3 bD;have hs4:=(HCB.out D4 hb4).1
        replace k7:=zae bD k7
        replace nk:=nk.below bD
        clear bD
        go_simp
        refine hKK.out _ _ hs4 (fun _=>?_);clear hKK KK hs3;refine rd 6 rfl fun KK hKK=>?_
        go_simp
        obtain ⟨b8,hbk⟩:=ex D4.heap.size;obtain ⟨D5,hD⟩:=ex (D4.alloc (.cells #[.slice none 0 0,.slice none 0 0,.int .i64 0,.int .u64 0,.int .u64 0,.int .u64 0,.int .u64 0,.int .u64 0,.int .u64 0,.int .u64 0,.int .u64 0] 72));have bD:Below D4.heap.size D4 D5:=by rw [<-hD];exact zah (Below.refl _ _) _
        have x8:W1.heap.size<=b8:=by rw [<-hbk];exact hb4.size
        have hb5:=zac hb4 bD;have hs5:=(HCB.out D5 hb5).1
        replace k7:=zae bD k7
        replace nk:=nk.below bD
        replace wl:=wl.below bD
        have k8:D5.heap[b8]?=some (.cells #[.slice none 0 0,.slice none 0 0,.int .i64 0,.int .u64 0,.int .u64 0,.int .u64 0,.int .u64 0,.int .u64 0,.int .u64 0,.int .u64 0,.int .u64 0] 72 (0,0)):=by rw [<-hD,<-hbk];exact zaa _ _
        rw [hD,hbk];clear hD hbk bD;refine hKK.out _ _ hs5 (fun _=>?_);clear hKK KK hs4
       case' o13=>
        go_simp
        obtain ⟨b8,hbk⟩:=ex D3.heap.size;obtain ⟨D4,hD⟩:=ex (D3.alloc (.cells #[.slice none 0 0,.slice none 0 0,.int .i64 0,.int .u64 0,.int .u64 0,.int .u64 0,.int .u64 0,.int .u64 0,.int .u64 0,.int .u64 0,.int .u64 0] 72));have bD:Below D3.heap.size D3 D4:=by rw [<-hD];exact zah (Below.refl _ _) _
        have x8:W1.heap.size<=b8:=by rw [<-hbk];exact hb3.size
        have hb4:=zac hb3 bD;have hs4:=(HCB.out D4 hb4).1
        replace k7:=zae bD k7
        replace nk:=nk.below bD
        have k8:D4.heap[b8]?=some (.cells #[.slice none 0 0,.slice none 0 0,.int .i64 0,.int .u64 0,.int .u64 0,.int .u64 0,.int .u64 0,.int .u64 0,.int .u64 0,.int .u64 0,.int .u64 0] 72 (0,0)):=by rw [<-hD,<-hbk];exact zaa _ _
        rw [hD,hbk];clear hD hbk bD;refine hKK.out _ _ hs4 (fun _=>?_);clear hKK KK hs3;refine rd 4 rfl fun KK hKK=>?_
        go_simp
        refine (HAL.out D4).mono ?_;rintro en D5 ⟨q1,e1,q2,e2,rfl,wl,bD⟩;have hb5:=zac hb4 bD;have hs5:=(HCB.out D5 hb5).1
        replace k7:=zae bD k7
        replace k8:=zae bD k8
        replace nk:=nk.below bD
        clear bD
        go_simp
        refine hKK.out _ _ hs5 (fun _=>?_);clear hKK KK hs4
      case' o9=>
       go_simp
       obtain ⟨b8,hbk⟩:=ex D2.heap.size;obtain ⟨D3,hD⟩:=ex (D2.alloc (.cells #[.slice none 0 0,.slice none 0 0,.int .i64 0,.int .u64 0,.int .u64 0,.int .u64 0,.int .u64 0,.int .u64 0,.int .u64 0,.int .u64 0,.int .u64 0] 72));have bD:Below D2.heap.size D2 D3:=by rw [<-hD];exact zah (Below.refl _ _) _
       have x8:W1.heap.size<=b8:=by rw [<-hbk];exact hb2.size
       have hb3:=zac hb2 bD;have hs3:=(HCB.out D3 hb3).1
       replace nk:=nk.below bD
       have k8:D3.heap[b8]?=some (.cells #[.slice none 0 0,.slice none 0 0,.int .i64 0,.int .u64 0,.int .u64 0,.int .u64 0,.int .u64 0,.int .u64 0,.int .u64 0,.int .u64 0,.int .u64 0] 72 (0,0)):=by rw [<-hD,<-hbk];exact zaa _ _
       rw [hD,hbk];clear hD hbk bD;refine hKK.out _ _ hs3 (fun _=>?_);clear hKK KK hs2;refine wpAnyH_ready (rs:=[4,5]) (by kernel_rfl) (by simp) ?_;refine AllReadyH.cons rfl (fun KK hKK=>?o14) (AllReadyH.cons rfl (fun KK hKK=>?o15) AllReadyH.nil)
       case' o14=>
        go_simp
        refine (HAL.out D3).mono ?_;rintro en D4 ⟨q1,e1,q2,e2,rfl,wl,bD⟩;have hb4:=zac hb3 bD;have hs4:=(HCB.out D4 hb4).1
        replace k8:=zae bD k8
        replace nk:=nk.below bD
        clear bD
        go_simp
        refine hKK.out _ _ hs4 (fun _=>?_);clear hKK KK hs3;refine rd 5 rfl fun KK hKK=>?_
        go_simp
        obtain ⟨b7,hbk⟩:=ex D4.heap.size;obtain ⟨D5,hD⟩:=ex (D4.alloc (.cells #[.slice none 0 0,.slice none 0 0,.slice none 0 0] 64));have bD:Below D4.heap.size D4 D5:=by rw [<-hD];exact zah (Below.refl _ _) _
        have x7:W1.heap.size<=b7:=by rw [<-hbk];exact hb4.size
        have hb5:=zac hb4 bD;have hs5:=(HCB.out D5 hb5).1
        replace k8:=zae bD k8
        replace nk:=nk.below bD
        replace wl:=wl.below bD
        have k7:D5.heap[b7]?=some (.cells #[.slice none 0 0,.slice none 0 0,.slice none 0 0] 64 (0,0)):=by rw [<-hD,<-hbk];exact zaa _ _
        rw [hD,hbk];clear hD hbk bD;refine hKK.out _ _ hs5 (fun _=>?_);clear hKK KK hs4
       case' o15=>
        go_simp
        obtain ⟨b7,hbk⟩:=ex D3.heap.size;obtain ⟨D4,hD⟩:=ex (D3.alloc (.cells #[.slice none 0 0,.slice none 0 0,.slice none 0 0] 64));have bD:Below D3.heap.size D3 D4:=by rw [<-hD];exact zah (Below.refl _ _) _
        have x7:W1.heap.size<=b7:=by rw [<-hbk];exact hb3.size
        have hb4:=zac hb3 bD;have hs4:=(HCB.out D4 hb4).1
        replace k8:=zae bD k8
        replace nk:=nk.below bD
        have k7:D4.heap[b7]?=some (.cells #[.slice none 0 0,.slice none 0 0,.slice none 0 0] 64 (0,0)):=by rw [<-hD,<-hbk];exact zaa _ _
        rw [hD,hbk];clear hD hbk bD;refine hKK.out _ _ hs4 (fun _=>?_);clear hKK KK hs3;refine rd 4 rfl fun KK hKK=>?_
        go_simp
        refine (HAL.out D4).mono ?_;rintro en D5 ⟨q1,e1,q2,e2,rfl,wl,bD⟩;have hb5:=zac hb4 bD;have hs5:=(HCB.out D5 hb5).1
        replace k7:=zae bD k7
        replace k8:=zae bD k8
        replace nk:=nk.below bD
        clear bD
        go_simp
        refine hKK.out _ _ hs5 (fun _=>?_);clear hKK KK hs4
     case' o5=>
      go_simp
      obtain ⟨b7,hbk⟩:=ex D1.heap.size;obtain ⟨D2,hD⟩:=ex (D1.alloc (.cells #[.slice none 0 0,.slice none 0 0,.slice none 0 0] 64));have bD:Below D1.heap.size D1 D2:=by rw [<-hD];exact zah (Below.refl _ _) _
      have x7:W1.heap.size<=b7:=by rw [<-hbk];exact hb1.size
      have hb2:=zac hb1 bD;have hs2:=(HCB.out D2 hb2).1
      replace nk:=nk.below bD
      have k7:D2.heap[b7]?=some (.cells #[.slice none 0 0,.slice none 0 0,.slice none 0 0] 64 (0,0)):=by rw [<-hD,<-hbk];exact zaa _ _
      rw [hD,hbk];clear hD hbk bD;refine hKK.out _ _ hs2 (fun _=>?_);clear hKK KK hs1;refine wpAnyH_ready (rs:=[3,6]) (by kernel_rfl) (by simp) ?_;refine AllReadyH.cons rfl (fun KK hKK=>?o16) (AllReadyH.cons rfl (fun KK hKK=>?o17) AllReadyH.nil)
      case' o16=>
       go_simp
       refine (HST.out D2).mono ?_;rintro en D3 ⟨rfl,bD⟩;have hb3:=zac hb2 bD;have hs3:=(HCB.out D3 hb3).1
       replace k7:=zae bD k7
       replace nk:=nk.below bD
       clear bD
       go_simp
       refine hKK.out _ _ hs3 (fun _=>?_);clear hKK KK hs2;refine wpAnyH_ready (rs:=[4,6]) (by kernel_rfl) (by simp) ?_;refine AllReadyH.cons rfl (fun KK hKK=>?o18) (AllReadyH.cons rfl (fun KK hKK=>?o19) AllReadyH.nil)
       case' o18=>
        go_simp
        refine (HAL.out D3).mono ?_;rintro en D4 ⟨q1,e1,q2,e2,rfl,wl,bD⟩;have hb4:=zac hb3 bD;have hs4:=(HCB.out D4 hb4).1
        replace k7:=zae bD k7
        replace nk:=nk.below bD
        clear bD
        go_simp
        refine hKK.out _ _ hs4 (fun _=>?_);clear hKK KK hs3;refine rd 6 rfl fun KK hKK=>?_
        go_simp
        obtain ⟨b8,hbk⟩:=ex D4.heap.size;obtain ⟨D5,hD⟩:=ex (D4.alloc (.cells #[.slice none 0 0,.slice none 0 0,.int .i64 0,.int .u64 0,.int .u64 0,.int .u64 0,.int .u64 0,.int .u64 0,.int .u64 0,.int .u64 0,.int .u64 0] 72));have bD:Below D4.heap.size D4 D5:=by rw [<-hD];exact zah (Below.refl _ _) _
        have x8:W1.heap.size<=b8:=by rw [<-hbk];exact hb4.size
        have hb5:=zac hb4 bD;have hs5:=(HCB.out D5 hb5).1
        replace k7:=zae bD k7
        replace nk:=nk.below bD
        replace wl:=wl.below bD
        have k8:D5.heap[b8]?=some (.cells #[.slice none 0 0,.slice none 0 0,.int .i64 0,.int .u64 0,.int .u64 0,.int .u64 0,.int .u64 0,.int .u64 0,.int .u64 0,.int .u64 0,.int .u64 0] 72 (0,0)):=by rw [<-hD,<-hbk];exact zaa _ _
        rw [hD,hbk];clear hD hbk bD;refine hKK.out _ _ hs5 (fun _=>?_);clear hKK KK hs4
       case' o19=>
        go_simp
        obtain ⟨b8,hbk⟩:=ex D3.heap.size;obtain ⟨D4,hD⟩:=ex (D3.alloc (.cells #[.slice none 0 0,.slice none 0 0,.int .i64 0,.int .u64 0,.int .u64 0,.int .u64 0,.int .u64 0,.int .u64 0,.int .u64 0,.int .u64 0,.int .u64 0] 72));have bD:Below D3.heap.size D3 D4:=by rw [<-hD];exact zah (Below.refl _ _) _
        have x8:W1.heap.size<=b8:=by rw [<-hbk];exact hb3.size
        have hb4:=zac hb3 bD;have hs4:=(HCB.out D4 hb4).1
        replace k7:=zae bD k7
        replace nk:=nk.below bD
        have k8:D4.heap[b8]?=some (.cells #[.slice none 0 0,.slice none 0 0,.int .i64 0,.int .u64 0,.int .u64 0,.int .u64 0,.int .u64 0,.int .u64 0,.int .u64 0,.int .u64 0,.int .u64 0] 72 (0,0)):=by rw [<-hD,<-hbk];exact zaa _ _
        rw [hD,hbk];clear hD hbk bD;refine hKK.out _ _ hs4 (fun _=>?_);clear hKK KK hs3;refine rd 4 rfl fun KK hKK=>?_
        go_simp
        refine (HAL.out D4).mono ?_;rintro en D5 ⟨q1,e1,q2,e2,rfl,wl,bD⟩;have hb5:=zac hb4 bD;have hs5:=(HCB.out D5 hb5).1
        replace k7:=zae bD k7
        replace k8:=zae bD k8
        replace nk:=nk.below bD
        clear bD
        go_simp
        refine hKK.out _ _ hs5 (fun _=>?_);clear hKK KK hs4
      case' o17=>
       go_simp
       obtain ⟨b8,hbk⟩:=ex D2.heap.size;obtain ⟨D3,hD⟩:=ex (D2.alloc (.cells #[.slice none 0 0,.slice none 0 0,.int .i64 0,.int .u64 0,.int .u64 0,.int .u64 0,.int .u64 0,.int .u64 0,.int .u64 0,.int .u64 0,.int .u64 0] 72));have bD:Below D2.heap.size D2 D3:=by rw [<-hD];exact zah (Below.refl _ _) _
       have x8:W1.heap.size<=b8:=by rw [<-hbk];exact hb2.size
       have hb3:=zac hb2 bD;have hs3:=(HCB.out D3 hb3).1
       replace k7:=zae bD k7
       replace nk:=nk.below bD
       have k8:D3.heap[b8]?=some (.cells #[.slice none 0 0,.slice none 0 0,.int .i64 0,.int .u64 0,.int .u64 0,.int .u64 0,.int .u64 0,.int .u64 0,.int .u64 0,.int .u64 0,.int .u64 0] 72 (0,0)):=by rw [<-hD,<-hbk];exact zaa _ _
       rw [hD,hbk];clear hD hbk bD;refine hKK.out _ _ hs3 (fun _=>?_);clear hKK KK hs2;refine rd 3 rfl fun KK hKK=>?_
       go_simp
       refine (HST.out D3).mono ?_;rintro en D4 ⟨rfl,bD⟩;have hb4:=zac hb3 bD;have hs4:=(HCB.out D4 hb4).1
       replace k7:=zae bD k7
       replace k8:=zae bD k8
       replace nk:=nk.below bD
       clear bD
       go_simp
       refine hKK.out _ _ hs4 (fun _=>?_);clear hKK KK hs3;refine rd 4 rfl fun KK hKK=>?_
       go_simp
       refine (HAL.out D4).mono ?_;rintro en D5 ⟨q1,e1,q2,e2,rfl,wl,bD⟩;have hb5:=zac hb4 bD;have hs5:=(HCB.out D5 hb5).1
       replace k7:=zae bD k7
       replace k8:=zae bD k8
       replace nk:=nk.below bD
       clear bD
       go_simp
       refine hKK.out _ _ hs5 (fun _=>?_);clear hKK KK hs4
     case' o6=>
      go_simp
      obtain ⟨b8,hbk⟩:=ex D1.heap.size;obtain ⟨D2,hD⟩:=ex (D1.alloc (.cells #[.slice none 0 0,.slice none 0 0,.int .i64 0,.int .u64 0,.int .u64 0,.int .u64 0,.int .u64 0,.int .u64 0,.int .u64 0,.int .u64 0,.int .u64 0] 72));have bD:Below D1.heap.size D1 D2:=by rw [<-hD];exact zah (Below.refl _ _) _
      have x8:W1.heap.size<=b8:=by rw [<-hbk];exact hb1.size
      have hb2:=zac hb1 bD;have hs2:=(HCB.out D2 hb2).1
      replace nk:=nk.below bD
      have k8:D2.heap[b8]?=some (.cells #[.slice none 0 0,.slice none 0 0,.int .i64 0,.int .u64 0,.int .u64 0,.int .u64 0,.int .u64 0,.int .u64 0,.int .u64 0,.int .u64 0,.int .u64 0] 72 (0,0)):=by rw [<-hD,<-hbk];exact zaa _ _
      rw [hD,hbk];clear hD hbk bD;refine hKK.out _ _ hs2 (fun _=>?_);clear hKK KK hs1;refine wpAnyH_ready (rs:=[3,5]) (by kernel_rfl) (by simp) ?_;refine AllReadyH.cons rfl (fun KK hKK=>?o20) (AllReadyH.cons rfl (fun KK hKK=>?o21) AllReadyH.nil)
      case' o20=>
       go_simp
       refine (HST.out D2).mono ?_;rintro en D3 ⟨rfl,bD⟩;have hb3:=zac hb2 bD;have hs3:=(HCB.out D3 hb3).1
       replace k8:=zae bD k8
       replace nk:=nk.below bD
       clear bD
       go_simp
       refine hKK.out _ _ hs3 (fun _=>?_);clear hKK KK hs2;refine wpAnyH_ready (rs:=[4,5]) (by kernel_rfl) (by simp) ?_;refine AllReadyH.cons rfl (fun KK hKK=>?o22) (AllReadyH.cons rfl (fun KK hKK=>?o23) AllReadyH.nil)
       case' o22=>
        go_simp
        refine (HAL.out D3).mono ?_;rintro en D4 ⟨q1,e1,q2,e2,rfl,wl,bD⟩;have hb4:=zac hb3 bD;have hs4:=(HCB.out D4 hb4).1
        replace k8:=zae bD k8
        replace nk:=nk.below bD
        clear bD
        go_simp
        refine hKK.out _ _ hs4 (fun _=>?_);clear hKK KK hs3;refine rd 5 rfl fun KK hKK=>?_
        go_simp
        obtain ⟨b7,hbk⟩:=ex D4.heap.size;obtain ⟨D5,hD⟩:=ex (D4.alloc (.cells #[.slice none 0 0,.slice none 0 0,.slice none 0 0] 64));have bD:Below D4.heap.size D4 D5:=by rw [<-hD];exact zah (Below.refl _ _) _
        have x7:W1.heap.size<=b7:=by rw [<-hbk];exact hb4.size
        have hb5:=zac hb4 bD;have hs5:=(HCB.out D5 hb5).1
        replace k8:=zae bD k8
        replace nk:=nk.below bD
        replace wl:=wl.below bD
        have k7:D5.heap[b7]?=some (.cells #[.slice none 0 0,.slice none 0 0,.slice none 0 0] 64 (0,0)):=by rw [<-hD,<-hbk];exact zaa _ _
        rw [hD,hbk];clear hD hbk bD;refine hKK.out _ _ hs5 (fun _=>?_);clear hKK KK hs4
       case' o23=>
        go_simp
        obtain ⟨b7,hbk⟩:=ex D3.heap.size;obtain ⟨D4,hD⟩:=ex (D3.alloc (.cells #[.slice none 0 0,.slice none 0 0,.slice none 0 0] 64));have bD:Below D3.heap.size D3 D4:=by rw [<-hD];exact zah (Below.refl _ _) _
        have x7:W1.heap.size<=b7:=by rw [<-hbk];exact hb3.size
        have hb4:=zac hb3 bD;have hs4:=(HCB.out D4 hb4).1
        replace k8:=zae bD k8
        replace nk:=nk.below bD
        have k7:D4.heap[b7]?=some (.cells #[.slice none 0 0,.slice none 0 0,.slice none 0 0] 64 (0,0)):=by rw [<-hD,<-hbk];exact zaa _ _
        rw [hD,hbk];clear hD hbk bD;refine hKK.out _ _ hs4 (fun _=>?_);clear hKK KK hs3;refine rd 4 rfl fun KK hKK=>?_
        go_simp
        refine (HAL.out D4).mono ?_;rintro en D5 ⟨q1,e1,q2,e2,rfl,wl,bD⟩;have hb5:=zac hb4 bD;have hs5:=(HCB.out D5 hb5).1
        replace k7:=zae bD k7
        replace k8:=zae bD k8
        replace nk:=nk.below bD
        clear bD
        go_simp
        refine hKK.out _ _ hs5 (fun _=>?_);clear hKK KK hs4
      case' o21=>
       go_simp
       obtain ⟨b7,hbk⟩:=ex D2.heap.size;obtain ⟨D3,hD⟩:=ex (D2.alloc (.cells #[.slice none 0 0,.slice none 0 0,.slice none 0 0] 64));have bD:Below D2.heap.size D2 D3:=by rw [<-hD];exact zah (Below.refl _ _) _
       have x7:W1.heap.size<=b7:=by rw [<-hbk];exact hb2.size
       have hb3:=zac hb2 bD;have hs3:=(HCB.out D3 hb3).1
       replace k8:=zae bD k8
       replace nk:=nk.below bD
       have k7:D3.heap[b7]?=some (.cells #[.slice none 0 0,.slice none 0 0,.slice none 0 0] 64 (0,0)):=by rw [<-hD,<-hbk];exact zaa _ _
       rw [hD,hbk];clear hD hbk bD;refine hKK.out _ _ hs3 (fun _=>?_);clear hKK KK hs2;refine rd 3 rfl fun KK hKK=>?_
       go_simp
       refine (HST.out D3).mono ?_;rintro en D4 ⟨rfl,bD⟩;have hb4:=zac hb3 bD;have hs4:=(HCB.out D4 hb4).1
       replace k7:=zae bD k7
       replace k8:=zae bD k8
       replace nk:=nk.below bD
       clear bD
       go_simp
       refine hKK.out _ _ hs4 (fun _=>?_);clear hKK KK hs3;refine rd 4 rfl fun KK hKK=>?_
       go_simp
       refine (HAL.out D4).mono ?_;rintro en D5 ⟨q1,e1,q2,e2,rfl,wl,bD⟩;have hb5:=zac hb4 bD;have hs5:=(HCB.out D5 hb5).1
       replace k7:=zae bD k7
       replace k8:=zae bD k8
       replace nk:=nk.below bD
       clear bD
       go_simp
       refine hKK.out _ _ hs5 (fun _=>?_);clear hKK KK hs4
    case' o2=>
     go_simp
     obtain ⟨b7,hbk⟩:=ex D0.heap.size;obtain ⟨D1,hD⟩:=ex (D0.alloc (.cells #[.slice none 0 0,.slice none 0 0,.slice none 0 0] 64));have bD:Below D0.heap.size D0 D1:=by rw [<-hD];exact zah (Below.refl _ _) _
     have x7:W1.heap.size<=b7:=by rw [<-hbk];exact hb0.size
     have hb1:=zac hb0 bD;have hs1:=(HCB.out D1 hb1).1;have k7:D1.heap[b7]?=some (.cells #[.slice none 0 0,.slice none 0 0,.slice none 0 0] 64 (0,0)):=by rw [<-hD,<-hbk];exact zaa _ _
     rw [hD,hbk];clear hD hbk bD;refine hKK.out _ _ hs1 (fun _=>?_);clear hKK KK hs0;refine wpAnyH_ready (rs:=[1,6]) (by kernel_rfl) (by simp) ?_;refine AllReadyH.cons rfl (fun KK hKK=>?o24) (AllReadyH.cons rfl (fun KK hKK=>?o25) AllReadyH.nil)
     case' o24=>
      go_simp
      refine (HRD.out D1 hb1).mono ?_;rintro en D2 ⟨p1,c1,p2,c2,p3,c3,rfl,nk,bD⟩;have hb2:=zac hb1 bD;have hs2:=(HCB.out D2 hb2).1
      replace k7:=zae bD k7
      clear bD
      go_simp
      refine hKK.out _ _ hs2 (fun _=>?_);clear hKK KK hs1;refine wpAnyH_ready (rs:=[3,6]) (by kernel_rfl) (by simp) ?_;refine AllReadyH.cons rfl (fun KK hKK=>?o26) (AllReadyH.cons rfl (fun KK hKK=>?o27) AllReadyH.nil)
      case' o26=>
       go_simp
       refine (HST.out D2).mono ?_;rintro en D3 ⟨rfl,bD⟩;have hb3:=zac hb2 bD;have hs3:=(HCB.out D3 hb3).1
       replace k7:=zae bD k7
       replace nk:=nk.below bD
       clear bD
       go_simp
       refine hKK.out _ _ hs3 (fun _=>?_);clear hKK KK hs2;refine wpAnyH_ready (rs:=[4,6]) (by kernel_rfl) (by simp) ?_;refine AllReadyH.cons rfl (fun KK hKK=>?o28) (AllReadyH.cons rfl (fun KK hKK=>?o29) AllReadyH.nil)
       case' o28=>
        go_simp
        refine (HAL.out D3).mono ?_;rintro en D4 ⟨q1,e1,q2,e2,rfl,wl,bD⟩;have hb4:=zac hb3 bD;have hs4:=(HCB.out D4 hb4).1
        replace k7:=zae bD k7
        replace nk:=nk.below bD
        clear bD
        go_simp
        refine hKK.out _ _ hs4 (fun _=>?_);clear hKK KK hs3;refine rd 6 rfl fun KK hKK=>?_
        go_simp
        obtain ⟨b8,hbk⟩:=ex D4.heap.size;obtain ⟨D5,hD⟩:=ex (D4.alloc (.cells #[.slice none 0 0,.slice none 0 0,.int .i64 0,.int .u64 0,.int .u64 0,.int .u64 0,.int .u64 0,.int .u64 0,.int .u64 0,.int .u64 0,.int .u64 0] 72));have bD:Below D4.heap.size D4 D5:=by rw [<-hD];exact zah (Below.refl _ _) _
        have x8:W1.heap.size<=b8:=by rw [<-hbk];exact hb4.size
        have hb5:=zac hb4 bD;have hs5:=(HCB.out D5 hb5).1
        replace k7:=zae bD k7
        replace nk:=nk.below bD
        replace wl:=wl.below bD
        have k8:D5.heap[b8]?=some (.cells #[.slice none 0 0,.slice none 0 0,.int .i64 0,.int .u64 0,.int .u64 0,.int .u64 0,.int .u64 0,.int .u64 0,.int .u64 0,.int .u64 0,.int .u64 0] 72 (0,0)):=by rw [<-hD,<-hbk];exact zaa _ _
        rw [hD,hbk];clear hD hbk bD;refine hKK.out _ _ hs5 (fun _=>?_);clear hKK KK hs4
       case' o29=>
        go_simp
        obtain ⟨b8,hbk⟩:=ex D3.heap.size;obtain ⟨D4,hD⟩:=ex (D3.alloc (.cells #[.slice none 0 0,.slice none 0 0,.int .i64 0,.int .u64 0,.int .u64 0,.int .u64 0,.int .u64 0,.int .u64 0,.int .u64 0,.int .u64 0,.int .u64 0] 72));have bD:Below D3.heap.size D3 D4:=by rw [<-hD];exact zah (Below.refl _ _) _
        have x8:W1.heap.size<=b8:=by rw [<-hbk];exact hb3.size
        have hb4:=zac hb3 bD;have hs4:=(HCB.out D4 hb4).1
        replace k7:=zae bD k7
        replace nk:=nk.below bD
        have k8:D4.heap[b8]?=some (.cells #[.slice none 0 0,.slice none 0 0,.int .i64 0,.int .u64 0,.int .u64 0,.int .u64 0,.int .u64 0,.int .u64 0,.int .u64 0,.int .u64 0,.int .u64 0] 72 (0,0)):=by rw [<-hD,<-hbk];exact zaa _ _
        rw [hD,hbk];clear hD hbk bD;refine hKK.out _ _ hs4 (fun _=>?_);clear hKK KK hs3;refine rd 4 rfl fun KK hKK=>?_
        go_simp
        refine (HAL.out D4).mono ?_;rintro en D5 ⟨q1,e1,q2,e2,rfl,wl,bD⟩;have hb5:=zac hb4 bD;have hs5:=(HCB.out D5 hb5).1
        replace k7:=zae bD k7
        replace k8:=zae bD k8
        replace nk:=nk.below bD
        clear bD
        go_simp
        refine hKK.out _ _ hs5 (fun _=>?_);clear hKK KK hs4
      case' o27=>
       go_simp
       obtain ⟨b8,hbk⟩:=ex D2.heap.size;obtain ⟨D3,hD⟩:=ex (D2.alloc (.cells #[.slice none 0 0,.slice none 0 0,.int .i64 0,.int .u64 0,.int .u64 0,.int .u64 0,.int .u64 0,.int .u64 0,.int .u64 0,.int .u64 0,.int .u64 0] 72));have bD:Below D2.heap.size D2 D3:=by rw [<-hD];exact zah (Below.refl _ _) _
       have x8:W1.heap.size<=b8:=by rw [<-hbk];exact hb2.size
       have hb3:=zac hb2 bD;have hs3:=(HCB.out D3 hb3).1
       replace k7:=zae bD k7
       replace nk:=nk.below bD
       have k8:D3.heap[b8]?=some (.cells #[.slice none 0 0,.slice none 0 0,.int .i64 0,.int .u64 0,.int .u64 0,.int .u64 0,.int .u64 0,.int .u64 0,.int .u64 0,.int .u64 0,.int .u64 0] 72 (0,0)):=by rw [<-hD,<-hbk];exact zaa _ _
       rw [hD,hbk];clear hD hbk bD;refine hKK.out _ _ hs3 (fun _=>?_);clear hKK KK hs2;refine rd 3 rfl fun KK hKK=>?_
       go_simp
       refine (HST.out D3).mono ?_;rintro en D4 ⟨rfl,bD⟩;have hb4:=zac hb3 bD;have hs4:=(HCB.out D4 hb4).1
       replace k7:=zae bD k7
       replace k8:=zae bD k8
       replace nk:=nk.below bD
       clear bD
       go_simp
       refine hKK.out _ _ hs4 (fun _=>?_);clear hKK KK hs3;refine rd 4 rfl fun KK hKK=>?_
       go_simp
       refine (HAL.out D4).mono ?_;rintro en D5 ⟨q1,e1,q2,e2,rfl,wl,bD⟩;have hb5:=zac hb4 bD;have hs5:=(HCB.out D5 hb5).1
       replace k7:=zae bD k7
       replace k8:=zae bD k8
       replace nk:=nk.below bD
       clear bD
       go_simp
       refine hKK.out _ _ hs5 (fun _=>?_);clear hKK KK hs4
     case' o25=>
      go_simp
      obtain ⟨b8,hbk⟩:=ex D1.heap.size;obtain ⟨D2,hD⟩:=ex (D1.alloc (.cells #[.slice none 0 0,.slice none 0 0,.int .i64 0,.int .u64 0,.int .u64 0,.int .u64 0,.int .u64 0,.int .u64 0,.int .u64 0,.int .u64 0,.int .u64 0] 72));have bD:Below D1.heap.size D1 D2:=by rw [<-hD];exact zah (Below.refl _ _) _
      have x8:W1.heap.size<=b8:=by rw [<-hbk];exact hb1.size
      have hb2:=zac hb1 bD;have hs2:=(HCB.out D2 hb2).1
      replace k7:=zae bD k7
      have k8:D2.heap[b8]?=some (.cells #[.slice none 0 0,.slice none 0 0,.int .i64 0,.int .u64 0,.int .u64 0,.int .u64 0,.int .u64 0,.int .u64 0,.int .u64 0,.int .u64 0,.int .u64 0] 72 (0,0)):=by rw [<-hD,<-hbk];exact zaa _ _
      rw [hD,hbk];clear hD hbk bD;refine hKK.out _ _ hs2 (fun _=>?_);clear hKK KK hs1;refine rd 1 rfl fun KK hKK=>?_
      go_simp
      refine (HRD.out D2 hb2).mono ?_;rintro en D3 ⟨p1,c1,p2,c2,p3,c3,rfl,nk,bD⟩;have hb3:=zac hb2 bD;have hs3:=(HCB.out D3 hb3).1
      replace k7:=zae bD k7
      replace k8:=zae bD k8
      clear bD
      go_simp
      refine hKK.out _ _ hs3 (fun _=>?_);clear hKK KK hs2;refine rd 3 rfl fun KK hKK=>?_
      go_simp
      refine (HST.out D3).mono ?_;rintro en D4 ⟨rfl,bD⟩;have hb4:=zac hb3 bD;have hs4:=(HCB.out D4 hb4).1
      replace k7:=zae bD k7
      replace k8:=zae bD k8
      replace nk:=nk.below bD
      clear bD
      go_simp
      refine hKK.out _ _ hs4 (fun _=>?_);clear hKK KK hs3;refine rd 4 rfl fun KK hKK=>?_
      go_simp
      refine (HAL.out D4).mono ?_;rintro en D5 ⟨q1,e1,q2,e2,rfl,wl,bD⟩;have hb5:=zac hb4 bD;have hs5:=(HCB.out D5 hb5).1
      replace k7:=zae bD k7
      replace k8:=zae bD k8
      replace nk:=nk.below bD
      clear bD
      go_simp
      refine hKK.out _ _ hs5 (fun _=>?_);clear hKK KK hs4
    case' o3=>
     go_simp
     obtain ⟨b8,hbk⟩:=ex D0.heap.size;obtain ⟨D1,hD⟩:=ex (D0.alloc (.cells #[.slice none 0 0,.slice none 0 0,.int .i64 0,.int .u64 0,.int .u64 0,.int .u64 0,.int .u64 0,.int .u64 0,.int .u64 0,.int .u64 0,.int .u64 0] 72));have bD:Below D0.heap.size D0 D1:=by rw [<-hD];exact zah (Below.refl _ _) _
     have x8:W1.heap.size<=b8:=by rw [<-hbk];exact hb0.size
     have hb1:=zac hb0 bD;have hs1:=(HCB.out D1 hb1).1;have k8:D1.heap[b8]?=some (.cells #[.slice none 0 0,.slice none 0 0,.int .i64 0,.int .u64 0,.int .u64 0,.int .u64 0,.int .u64 0,.int .u64 0,.int .u64 0,.int .u64 0,.int .u64 0] 72 (0,0)):=by rw [<-hD,<-hbk];exact zaa _ _
     rw [hD,hbk];clear hD hbk bD;refine hKK.out _ _ hs1 (fun _=>?_);clear hKK KK hs0;refine wpAnyH_ready (rs:=[1,5]) (by kernel_rfl) (by simp) ?_;refine AllReadyH.cons rfl (fun KK hKK=>?o30) (AllReadyH.cons rfl (fun KK hKK=>?o31) AllReadyH.nil)
     case' o30=>
      go_simp
      refine (HRD.out D1 hb1).mono ?_;rintro en D2 ⟨p1,c1,p2,c2,p3,c3,rfl,nk,bD⟩;have hb2:=zac hb1 bD;have hs2:=(HCB.out D2 hb2).1
      replace k8:=zae bD k8
      clear bD
      go_simp
      refine hKK.out _ _ hs2 (fun _=>?_);clear hKK KK hs1;refine wpAnyH_ready (rs:=[3,5]) (by kernel_rfl) (by simp) ?_;refine AllReadyH.cons rfl (fun KK hKK=>?o32) (AllReadyH.cons rfl (fun KK hKK=>?o33) AllReadyH.nil)
      case' o32=>
       go_simp
       refine (HST.out D2).mono ?_;rintro en D3 ⟨rfl,bD⟩;have hb3:=zac hb2 bD;have hs3:=(HCB.out D3 hb3).1
       replace k8:=zae bD k8
       replace nk:=nk.below bD
       clear bD
       go_simp
       refine hKK.out _ _ hs3 (fun _=>?_);clear hKK KK hs2;refine wpAnyH_ready (rs:=[4,5]) (by kernel_rfl) (by simp) ?_;refine AllReadyH.cons rfl (fun KK hKK=>?o34) (AllReadyH.cons rfl (fun KK hKK=>?o35) AllReadyH.nil)
       case' o34=>
        go_simp
        refine (HAL.out D3).mono ?_;rintro en D4 ⟨q1,e1,q2,e2,rfl,wl,bD⟩;have hb4:=zac hb3 bD;have hs4:=(HCB.out D4 hb4).1
        replace k8:=zae bD k8
        replace nk:=nk.below bD
        clear bD
        go_simp
        refine hKK.out _ _ hs4 (fun _=>?_);clear hKK KK hs3;refine rd 5 rfl fun KK hKK=>?_
        go_simp
        obtain ⟨b7,hbk⟩:=ex D4.heap.size;obtain ⟨D5,hD⟩:=ex (D4.alloc (.cells #[.slice none 0 0,.slice none 0 0,.slice none 0 0] 64));have bD:Below D4.heap.size D4 D5:=by rw [<-hD];exact zah (Below.refl _ _) _
        have x7:W1.heap.size<=b7:=by rw [<-hbk];exact hb4.size
        have hb5:=zac hb4 bD;have hs5:=(HCB.out D5 hb5).1
        replace k8:=zae bD k8
        replace nk:=nk.below bD
        replace wl:=wl.below bD
        have k7:D5.heap[b7]?=some (.cells #[.slice none 0 0,.slice none 0 0,.slice none 0 0] 64 (0,0)):=by rw [<-hD,<-hbk];exact zaa _ _
        rw [hD,hbk];clear hD hbk bD;refine hKK.out _ _ hs5 (fun _=>?_);clear hKK KK hs4
       case' o35=>
        go_simp
        obtain ⟨b7,hbk⟩:=ex D3.heap.size;obtain ⟨D4,hD⟩:=ex (D3.alloc (.cells #[.slice none 0 0,.slice none 0 0,.slice none 0 0] 64));have bD:Below D3.heap.size D3 D4:=by rw [<-hD];exact zah (Below.refl _ _) _
        have x7:W1.heap.size<=b7:=by rw [<-hbk];exact hb3.size
        have hb4:=zac hb3 bD;have hs4:=(HCB.out D4 hb4).1
        replace k8:=zae bD k8
        replace nk:=nk.below bD
        have k7:D4.heap[b7]?=some (.cells #[.slice none 0 0,.slice none 0 0,.slice none 0 0] 64 (0,0)):=by rw [<-hD,<-hbk];exact zaa _ _
        rw [hD,hbk];clear hD hbk bD;refine hKK.out _ _ hs4 (fun _=>?_);clear hKK KK hs3;refine rd 4 rfl fun KK hKK=>?_
        go_simp
        refine (HAL.out D4).mono ?_;rintro en D5 ⟨q1,e1,q2,e2,rfl,wl,bD⟩;have hb5:=zac hb4 bD;have hs5:=(HCB.out D5 hb5).1
        replace k7:=zae bD k7
        replace k8:=zae bD k8
        replace nk:=nk.below bD
        clear bD
        go_simp
        refine hKK.out _ _ hs5 (fun _=>?_);clear hKK KK hs4
      case' o33=>
       go_simp
       obtain ⟨b7,hbk⟩:=ex D2.heap.size;obtain ⟨D3,hD⟩:=ex (D2.alloc (.cells #[.slice none 0 0,.slice none 0 0,.slice none 0 0] 64));have bD:Below D2.heap.size D2 D3:=by rw [<-hD];exact zah (Below.refl _ _) _
       have x7:W1.heap.size<=b7:=by rw [<-hbk];exact hb2.size
       have hb3:=zac hb2 bD;have hs3:=(HCB.out D3 hb3).1
       replace k8:=zae bD k8
       replace nk:=nk.below bD
       have k7:D3.heap[b7]?=some (.cells #[.slice none 0 0,.slice none 0 0,.slice none 0 0] 64 (0,0)):=by rw [<-hD,<-hbk];exact zaa _ _
       rw [hD,hbk];clear hD hbk bD;refine hKK.out _ _ hs3 (fun _=>?_);clear hKK KK hs2;refine rd 3 rfl fun KK hKK=>?_
       go_simp
       refine (HST.out D3).mono ?_;rintro en D4 ⟨rfl,bD⟩;have hb4:=zac hb3 bD;have hs4:=(HCB.out D4 hb4).1
       replace k7:=zae bD k7
       replace k8:=zae bD k8
       replace nk:=nk.below bD
       clear bD
       go_simp
       refine hKK.out _ _ hs4 (fun _=>?_);clear hKK KK hs3;refine rd 4 rfl fun KK hKK=>?_
       go_simp
       refine (HAL.out D4).mono ?_;rintro en D5 ⟨q1,e1,q2,e2,rfl,wl,bD⟩;have hb5:=zac hb4 bD;have hs5:=(HCB.out D5 hb5).1
       replace k7:=zae bD k7
       replace k8:=zae bD k8
       replace nk:=nk.below bD
       clear bD
       go_simp
       refine hKK.out _ _ hs5 (fun _=>?_);clear hKK KK hs4
     case' o31=>
      go_simp
      obtain ⟨b7,hbk⟩:=ex D1.heap.size;obtain ⟨D2,hD⟩:=ex (D1.alloc (.cells #[.slice none 0 0,.slice none 0 0,.slice none 0 0] 64));have bD:Below D1.heap.size D1 D2:=by rw [<-hD];exact zah (Below.refl _ _) _
      have x7:W1.heap.size<=b7:=by rw [<-hbk];exact hb1.size
      have hb2:=zac hb1 bD;have hs2:=(HCB.out D2 hb2).1
      replace k8:=zae bD k8
      have k7:D2.heap[b7]?=some (.cells #[.slice none 0 0,.slice none 0 0,.slice none 0 0] 64 (0,0)):=by rw [<-hD,<-hbk];exact zaa _ _
      rw [hD,hbk];clear hD hbk bD;refine hKK.out _ _ hs2 (fun _=>?_);clear hKK KK hs1;refine rd 1 rfl fun KK hKK=>?_
      go_simp
      refine (HRD.out D2 hb2).mono ?_;rintro en D3 ⟨p1,c1,p2,c2,p3,c3,rfl,nk,bD⟩;have hb3:=zac hb2 bD;have hs3:=(HCB.out D3 hb3).1
      replace k7:=zae bD k7
      replace k8:=zae bD k8
      clear bD
      go_simp
      refine hKK.out _ _ hs3 (fun _=>?_);clear hKK KK hs2;refine rd 3 rfl fun KK hKK=>?_
      go_simp
      refine (HST.out D3).mono ?_;rintro en D4 ⟨rfl,bD⟩;have hb4:=zac hb3 bD;have hs4:=(HCB.out D4 hb4).1
      replace k7:=zae bD k7
      replace k8:=zae bD k8
      replace nk:=nk.below bD
      clear bD
      go_simp
      refine hKK.out _ _ hs4 (fun _=>?_);clear hKK KK hs3;refine rd 4 rfl fun KK hKK=>?_
      go_simp
      refine (HAL.out D4).mono ?_;rintro en D5 ⟨q1,e1,q2,e2,rfl,wl,bD⟩;have hb5:=zac hb4 bD;have hs5:=(HCB.out D5 hb5).1
      replace k7:=zae bD k7
      replace k8:=zae bD k8
      replace nk:=nk.below bD
      clear bD
      go_simp
      refine hKK.out _ _ hs5 (fun _=>?_);clear hKK KK hs4
    all_goals
     obtain ⟨V1,V2,hV1,hV2,hsA,hsB,m8,HF⟩:=HLF.out D5 b7 b8 p1 c1 p2 c2 p3 c3 q1 e1 q2 e2 hb5 x7 x8 k7 k8 nk wl;have hz:=zaf k7;have z0:D5.cell? ⟨b7,0,none⟩=some (.slice none 0 0):=by rw [hz.1];rfl
     have f0:=hz.2 0;have z1:D5.cell? ⟨b7,1,none⟩=some (.slice none 0 0):=by rw [hz.1];rfl
     have f1:=hz.2 1;have z2:D5.cell? ⟨b7,2,none⟩=some (.slice none 0 0):=by rw [hz.1];rfl
     have f2:=hz.2 2;have HF':=zab HF;clear HF hz;refine rd 7 rfl fun KK hKK=>?_
     go_simp
     try rw [hV1]
     refine hKK.out _ _ hsA (fun _=>?_);clear hKK KK z0 z1 z2 f0 f1 f2;have hz:=zaf m8;have z0:V1.cell? ⟨b8,0,none⟩=some (.slice none 0 0):=by rw [hz.1];rfl
     have f0:=hz.2 0;have z1:V1.cell? ⟨b8,1,none⟩=some (.slice none 0 0):=by rw [hz.1];rfl
     have f1:=hz.2 1;have z2:V1.cell? ⟨b8,2,none⟩=some (.int .i64 0):=by rw [hz.1];rfl
     have f2:=hz.2 2;have z3:V1.cell? ⟨b8,3,none⟩=some (.int .u64 0):=by rw [hz.1];rfl
     have f3:=hz.2 3;have z4:V1.cell? ⟨b8,4,none⟩=some (.int .u64 0):=by rw [hz.1];rfl
     have f4:=hz.2 4;have z5:V1.cell? ⟨b8,5,none⟩=some (.int .u64 0):=by rw [hz.1];rfl
     have f5:=hz.2 5;have z6:V1.cell? ⟨b8,6,none⟩=some (.int .u64 0):=by rw [hz.1];rfl
     have f6:=hz.2 6;have z7:V1.cell? ⟨b8,7,none⟩=some (.int .u64 0):=by rw [hz.1];rfl
     have f7:=hz.2 7;have z8:V1.cell? ⟨b8,8,none⟩=some (.int .u64 0):=by rw [hz.1];rfl
     have f8:=hz.2 8;have z9:V1.cell? ⟨b8,9,none⟩=some (.int .u64 0):=by rw [hz.1];rfl
     have f9:=hz.2 9;have z10:V1.cell? ⟨b8,10,none⟩=some (.int .u64 0):=by rw [hz.1];rfl
     have f10:=hz.2 10;clear hz;refine rd 8 rfl fun KK hKK=>?_
     go_simp
     try rw [hV2]
     refine hKK.out _ _ hsB (fun _=>?_);clear hKK KK z0 f0 z1 f1 z2 f2 z3 f3 z4 f4 z5 f5 z6 f6 z7 f7 z8 f8 z9 f9 z10 f10;refine wpAnyH_done (by kernel_rfl) ?_ _
     go_wp2_with fail
     go_meet
     exact ⟨b7,b8,p1,c1,p2,c2,p3,c3,q1,e1,q2,e2,rfl,rfl,HF'.out⟩
   case rest=>
    obtain ⟨b7,b8,p1,c1,p2,c2,p3,c3,q1,e1,q2,e2,rfl,rfl,HF⟩:=hcut
    go_wp2_with fail
    go_ret
    obtain ⟨z1,z2,z3,z4,z5,z6⟩:=HF.out;refine ⟨fun _=>⟨b7,b8,b5,p1,c1,p2,c2,p3,c3,⟨q1,e1,q2,e2⟩,rfl,z1,?_,z3,z4,z5⟩,fun hn=>absurd HPH.out hn,z6⟩;rw [HWY.out];exact z2
  ·have HHN:=zab (fun U=>hops_no hops U hH)
   have HPH:Hid (¬((NetP n/\StP n (p,h))/\HOK hops)):=fun hn=>hH hn.2;clear HSO hP hH
   go_wp2_with fail
   refine (HCK.out).mono ?_;rintro e W2 ⟨rfl,c2⟩;have t2:=(HCB.out W2 c2).2;clear q0 q1 q2 q3 r0 r1 t0
   go_wp2_with fail
   refine (HHN.out W2).mono ?_;rintro e W2b ⟨rfl,hw2⟩;subst hw2;have HFIN:=zab (HBX.out.2.2.2.2.2 W2b c2);clear t2 c2
   go_wp2_with fail
   go_ret
   exact ⟨fun hp=>absurd hp HPH.out,fun _=>rfl,HFIN.out⟩
 ·have hR0:R≠0:=by rw [<-HV.out];exact zrq hP
  have hRb:(R != 0)=true:=by simpa using hR0
  have HPH:Hid (¬((NetP n/\StP n (p,h))/\HOK hops)):=fun hn=>hP hn.1;clear hP
  go_wp2_with fail
  refine (HCK.out).mono ?_;rintro e W2 ⟨rfl,c2⟩;have HFIN:=zab (HBX.out.2.2.2.2.2 W2 c2);clear q0 q1 q2 q3 r0 r1 t0 c2
  go_wp2_with fail
  go_ret
  exact ⟨fun hp=>absurd hp HPH.out,fun _=>rfl,HFIN.out⟩
end Go.Proofs.YtmfakcfmkmppfaaGreatDoor.Nt
