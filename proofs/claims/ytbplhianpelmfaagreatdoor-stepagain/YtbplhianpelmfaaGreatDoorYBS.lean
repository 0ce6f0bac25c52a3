import Derived.Test.YtbplhianpelmfaaGreatDoorYBP
namespace Go.Proofs.YtbplhianpelmfaaGreatDoor.Nt
open Go.RowKit Go.Shelf
def HOK (hops:Int):Prop:=0≤hops∧hops≤64
theorem hops_yes (hops:Int) (w:World) (h:HOK hops):Calls Tryz.prog 34 #[.int .i64 hops] w fun e w'=>e=.returned (.int .i64 0)∧w'=w:=by
 obtain ⟨h1,h2⟩:=h
 have j1:¬hops < 0:=by omega
 have j2:¬hops > 64:=by omega
 go_enter Tryz.func34,Tryz.ntmps34
 go_wp2_with fail
 go_ret
 exact ⟨rfl,rfl⟩
theorem hops_no (hops:Int) (w:World) (h:¬HOK hops):Calls Tryz.prog 34 #[.int .i64 hops] w fun e w'=>e=.returned (.int .i64 1)∧w'=w:=by
 by_cases j1:hops < 0
 ·go_enter Tryz.func34,Tryz.ntmps34
  go_wp2_with fail
  go_ret
  exact ⟨rfl,rfl⟩
 ·have j2:hops > 64:=by unfold HOK at h;omega
  go_enter Tryz.func34,Tryz.ntmps34
  go_wp2_with fail
  go_ret
  exact ⟨rfl,rfl⟩
def PTQ (n:NN) (np nt ng:Nat) (s:Int×List UInt8) (hops:Int) (w:World) (e:Ending) (w':World):Prop:=
 ((NetP n∧StP n s)∧HOK hops→∃ b7 b8 b5 p1 c1 p2 c2 p3 c3 wv,e=.returned (.func (.func 49) #[] #[.pointer (some ⟨b7,0,none⟩),.pointer (some ⟨b8,0,none⟩),.pointer (some ⟨b5,0,none⟩)])∧w'.heap[b7]?=some (.cells #[.slice p1 np c1,.slice p2 nt c2,.slice p3 ng c3] 72 (0,0))∧w'.heap[b8]?=some (.cells (wyC (alnM s,wv)).toArray 114 (0,0))∧w'.heap[b5]?=some (.cells #[.int .i64 hops] 3 (0,0))∧NK w' n ⟨p1,c1,p2,c2,p3,c3⟩∧WL w' (alnM s,wv))∧(¬((NetP n∧StP n s)∧HOK hops)→e=.returned (.func (.func 47) #[] #[]))∧Below w.heap.size w w'
set_option maxRecDepth 100000 in
set_option maxHeartbeats 16000000 in
theorem paths_any (n:NN) (v:NV) (s9:Int×List UInt8) (hops:Int) (w:World) (hN:LN w n v) (hO:okN n) (hT:TAB w) (hh:okS s9.2) :
  Calls Tryz.prog 31 #[.agg (nnA n v),.agg #[.int .i64 s9.1,.string ⟨s9.2.toArray⟩],.int .i64 hops] w (PTQ n n.ports.length n.tabs.length n.grds.length s9 hops w):=by
 obtain ⟨p,h⟩:=s9
 simp only at hh ⊢
 have hck:=fun (U:World) (hU:Below w.heap.size w U)=>check_any n v p h U (hN.below hU) hO (hT.at hU) hh
 have hso:=fun (U:World)=>stateOf_any p h U hh
 have hrd:=fun (hV:NetP n) (U:World) (hU:Below w.heap.size w U)=>read_kp n v n.ports.length n.tabs.length n.grds.length U (hN.below hU) hO hV rfl rfl rfl
 obtain ⟨pp,cp,pt,ct,pg,cg⟩:=v
 unfold nnA at hck ⊢
 simp only at hck hrd ⊢
 obtain ⟨np,hnp⟩:∃ k,n.ports.length=k:=⟨_,rfl⟩
 obtain ⟨nt,hnt⟩:∃ k,n.tabs.length=k:=⟨_,rfl⟩
 obtain ⟨ng,hng⟩:∃ k,n.grds.length=k:=⟨_,rfl⟩
 obtain ⟨bits,hbits⟩:∃ b,n.bits=b:=⟨_,rfl⟩
 rw [hnp,hnt,hng] at hck hrd ⊢
 rw [hbits] at hck hrd ⊢
 obtain ⟨R,hR⟩:∃ R,chkM n (p,h)=R:=⟨_,rfl⟩
 rw [hR] at hck
 obtain ⟨B,hB⟩:∃ B,w.heap.size=B:=⟨_,rfl⟩
 obtain ⟨b2,hb2⟩:∃ b2,w.heap.size+1=b2:=⟨_,rfl⟩
 obtain ⟨b5,hb5⟩:∃ b5,b2+1=b5:=⟨_,rfl⟩
 obtain ⟨W1,hW1⟩:∃ W1,((w.alloc (.cells #[.int .i64 bits,.slice pp np cp,.slice pt nt ct,.slice pg ng cg] 26)).alloc (.cells #[.int .i64 p,.string ⟨h.toArray⟩] 28)).alloc (.cells #[.int .i64 hops] 3)=W1:=⟨_,rfl⟩
 have hz2:(w.alloc (.cells #[.int .i64 bits,.slice pp np cp,.slice pt nt ct,.slice pg ng cg] 26)).heap.size=w.heap.size+1:=Array.size_push _
 have hz3:((w.alloc (.cells #[.int .i64 bits,.slice pp np cp,.slice pt nt ct,.slice pg ng cg] 26)).alloc (.cells #[.int .i64 p,.string ⟨h.toArray⟩] 28)).heap.size=w.heap.size+1+1:=by rw [←hz2];exact Array.size_push _
 have b1:Below w.heap.size w W1:=by rw [←hW1];exact belAZ (belAZ (belAZ (Below.refl _ _) _) _) _
 have k1:W1.heap[B]?=some (.cells #[.int .i64 bits,.slice pp np cp,.slice pt nt ct,.slice pg ng cg] 26 (0,0)):=by rw [←hW1,←hB];exact keepZ (belAZ (Below.refl _ _) _) (keepZ (belAZ (Below.refl _ _) _) (alloc_getZ _ _))
 have k2:W1.heap[b2]?=some (.cells #[.int .i64 p,.string ⟨h.toArray⟩] 28 (0,0)):=by rw [←hW1,←hb2,←hz2];exact keepZ (belAZ (Below.refl _ _) _) (alloc_getZ _ _)
 have k3:W1.heap[b5]?=some (.cells #[.int .i64 hops] 3 (0,0)):=by rw [←hW1,←hb5,←hb2,←hz3];exact alloc_getZ _ _
 have HC:Hid (∀ U:World,U.heap[B]?=W1.heap[B]?→U.heap[b2]?=W1.heap[b2]?→U.heap[b5]?=W1.heap[b5]?→((U.cell? ⟨B,0,none⟩=some (.int .i64 bits)∧U.cell? ⟨B,1,none⟩=some (.slice pp np cp)∧U.cell? ⟨B,2,none⟩=some (.slice pt nt ct)∧U.cell? ⟨B,3,none⟩=some (.slice pg ng cg))∧(U.cell? ⟨b2,0,none⟩=some (.int .i64 p)∧U.cell? ⟨b2,1,none⟩=some (.string ⟨h.toArray⟩)))∧U.cell? ⟨b5,0,none⟩=some (.int .i64 hops)):=fun U h1 h2 h3=>by
  have e1:=(cellsZ (h1.trans k1)).1
  have e2:=(cellsZ (h2.trans k2)).1
  have e3:=(cellsZ (h3.trans k3)).1
  exact ⟨⟨⟨by rw [e1];rfl,by rw [e1];rfl,by rw [e1];rfl,by rw [e1];rfl⟩,⟨by rw [e2];rfl,by rw [e2];rfl⟩⟩,by rw [e3];rfl⟩
 have HCB:Hid (∀ U:World,Below W1.heap.size W1 U→((U.cell? ⟨B,0,none⟩=some (.int .i64 bits)∧U.cell? ⟨B,1,none⟩=some (.slice pp np cp)∧U.cell? ⟨B,2,none⟩=some (.slice pt nt ct)∧U.cell? ⟨B,3,none⟩=some (.slice pg ng cg))∧(U.cell? ⟨b2,0,none⟩=some (.int .i64 p)∧U.cell? ⟨b2,1,none⟩=some (.string ⟨h.toArray⟩)))∧U.cell? ⟨b5,0,none⟩=some (.int .i64 hops)):=fun U hU=>HC.out U (hU.block _ (lt_getZ k1)) (hU.block _ (lt_getZ k2)) (hU.block _ (lt_getZ k3))
 have HCK:Hid (Calls Tryz.prog 25 #[.agg #[.int .i64 bits,.slice pp np cp,.slice pt nt ct,.slice pg ng cg],.agg #[.int .i64 p,.string ⟨h.toArray⟩]] W1 fun e w'=>e=.returned (.int .i64 R)∧Below W1.heap.size W1 w'):=hck W1 b1
 have HV:Hid (chkM n (p,h)=R):=hR
 have HSO:Hid (∀ U:World,Calls Tryz.prog 28 #[.agg #[.int .i64 p,.string ⟨h.toArray⟩]] U fun e w'=>e=.returned (.agg (stC (p,Tn.cubeT h)).toArray)∧Below U.heap.size U w'):=hso
 have HRD:Hid (NetP n→∀ U,Below W1.heap.size W1 U→Calls Tryz.prog 26 #[.agg #[.int .i64 bits,.slice pp np cp,.slice pt nt ct,.slice pg ng cg]] U (RDK n np nt ng U)):=fun hV U hU=>hrd hV U (bel0Z b1 hU)
 have HBX:Hid (B < W1.heap.size∧b2 < W1.heap.size∧b5 < W1.heap.size∧w.heap.size≤W1.heap.size∧(∀ U,Below W1.heap.size W1 U→U.heap[b5]?=some (.cells #[.int .i64 hops] 3 (0,0)))∧∀ U,Below W1.heap.size W1 U→Below w.heap.size w U):=⟨lt_getZ k1,lt_getZ k2,lt_getZ k3,b1.size,fun U hU=>keepZ hU k3,fun U hU=>bel0Z b1 hU⟩
 have HB:=hideL hB
 have HB2:=hideL hb2
 have HB5:=hideL hb5
 have HW1:=hideL hW1
 obtain ⟨⟨⟨q0,q1,q2,q3⟩,⟨r0,r1⟩⟩,t0⟩:=HCB.out W1 (Below.refl _ _)
 clear hN hO hT hh hck hso hrd hnp hnt hng hbits hR hB hb2 hb5 hW1 hz2 hz3 b1 k1 k2 k3
 go_enter Tryz.func31,Tryz.ntmps31
 go_upto_region 1 with fail
 rw [HW1.out,HB2.out,HB.out]
 rw [HB5.out]
 by_cases hP:NetP n∧StP n (p,h)
 ·have hR0:R=0:=by rw [←HV.out];exact chk_yes hP.1 hP.2
  subst hR0
  by_cases hH:HOK hops
  ·have HHY:=hideL (fun U=>hops_yes hops U hH)
   obtain ⟨a0,a1,a2,a3,a4,a5,a6,a7,a8,h9⟩:=c9_ex h
   have HST:Hid (∀ U:World,Calls Tryz.prog 28 #[.agg #[.int .i64 p,.string ⟨h.toArray⟩]] U fun e w'=>e=.returned (.agg #[.int .i64 p,.int .i64 a0,.int .u64 a1,.int .u64 a2,.int .u64 a3,.int .u64 a4,.int .u64 a5,.int .u64 a6,.int .u64 a7,.int .u64 a8])∧Below U.heap.size U w'):=fun U=>by
    have hh:=HSO.out U
    rw [cubeP_T (hdP_cube hP.2.2.2) hP.1.bits.1 hP.1.bits.2,stC_arr h9] at hh
    exact hh
   have HAL:Hid (∀ U:World,Calls Tryz.prog 48 #[.agg #[.int .i64 p,.int .i64 a0,.int .u64 a1,.int .u64 a2,.int .u64 a3,.int .u64 a4,.int .u64 a5,.int .u64 a6,.int .u64 a7,.int .u64 a8]] U fun e w'=>∃ q1 e1 q2 e2,e=.returned (.agg #[.slice q1 1 e1,.slice q2 0 e2,.int .i64 a0,.int .u64 a1,.int .u64 a2,.int .u64 a3,.int .u64 a4,.int .u64 a5,.int .u64 a6,.int .u64 a7,.int .u64 a8])∧WL w' (alnM (p,h),⟨q1,e1,q2,e2⟩)∧Below U.heap.size U w'):=fun U=>by
    have hh:=alone_any (p,h) U
    rw [stC_arr h9] at hh
    refine hh.mono ?_
    rintro e w' ⟨⟨q1,e1,q2,e2⟩,he,hl,hb⟩
    have e9:(wyC (alnM (p,h),(⟨q1,e1,q2,e2⟩:WV))).toArray=#[.slice q1 1 e1,.slice q2 0 e2,.int .i64 a0,.int .u64 a1,.int .u64 a2,.int .u64 a3,.int .u64 a4,.int .u64 a5,.int .u64 a6,.int .u64 a7,.int .u64 a8]:=wyC_arr (ps:=[p]) (es:=[]) (hd:=h) h9 rfl rfl
    rw [e9] at he
    exact ⟨q1,e1,q2,e2,he,hl,hb⟩
   have HRD:=hideL (HRD.out hP.1)
   have HWY:Hid (∀ q1 e1 q2 e2,(wyC (alnM (p,h),(⟨q1,e1,q2,e2⟩:WV))).toArray=#[.slice q1 1 e1,.slice q2 0 e2,.int .i64 a0,.int .u64 a1,.int .u64 a2,.int .u64 a3,.int .u64 a4,.int .u64 a5,.int .u64 a6,.int .u64 a7,.int .u64 a8]):=fun q1 e1 q2 e2=>wyC_arr (ps:=[p]) (es:=[]) (hd:=h) h9 rfl rfl
   have HPH:Hid ((NetP n∧StP n (p,h))∧HOK hops):=⟨hP,hH⟩
   clear HSO hP hH h9
   go_wp2_with fail
   refine (HCK.out).mono ?_
   rintro e W2 ⟨rfl,c2⟩
   have t2:=(HCB.out W2 c2).2
   clear q0 q1 q2 q3 r0 r1 t0
   go_wp2_with fail
   refine (HHY.out W2).mono ?_
   rintro e W2b ⟨rfl,hw2⟩
   subst hw2
   clear t2
   go_upto_region 3 with fail
   go_cut [7,8] from 9 to 23 (fun v7 v8 wx=>∃ b7 b8 p1 c1 p2 c2 p3 c3 q1 e1 q2 e2,v7=.pointer (some ⟨b7,0,none⟩)∧v8=.pointer (some ⟨b8,0,none⟩)∧Hid (wx.heap[b7]?=some (.cells #[.slice p1 np c1,.slice p2 nt c2,.slice p3 ng c3] 72 (0,0))∧wx.heap[b8]?=some (.cells #[.slice q1 1 e1,.slice q2 0 e2,.int .i64 a0,.int .u64 a1,.int .u64 a2,.int .u64 a3,.int .u64 a4,.int .u64 a5,.int .u64 a6,.int .u64 a7,.int .u64 a8] 114 (0,0))∧wx.heap[b5]?=some (.cells #[.int .i64 hops] 3 (0,0))∧NK wx n ⟨p1,c1,p2,c2,p3,c3⟩∧WL wx (alnM (p,h),⟨q1,e1,q2,e2⟩)∧Below w.heap.size w wx))
   case first=>
    have HLF:Hid (∀ (D:World) (b7 b8:Nat) p1 c1 p2 c2 p3 c3 q1 e1 q2 e2,Below W1.heap.size W1 D→W1.heap.size≤b7→W1.heap.size≤b8→D.heap[b7]?=some (.cells #[.slice none 0 0,.slice none 0 0,.slice none 0 0] 72 (0,0))→D.heap[b8]?=some (.cells #[.slice none 0 0,.slice none 0 0,.int .i64 0,.int .u64 0,.int .u64 0,.int .u64 0,.int .u64 0,.int .u64 0,.int .u64 0,.int .u64 0,.int .u64 0] 114 (0,0))→NK D n ⟨p1,c1,p2,c2,p3,c3⟩→WL D (alnM (p,h),⟨q1,e1,q2,e2⟩)→∃ V1 V2,(((D.setCell ⟨b7,0,none⟩ (.slice p1 np c1)).setCell ⟨b7,1,none⟩ (.slice p2 nt c2)).setCell ⟨b7,2,none⟩ (.slice p3 ng c3))=V1∧(((((((((((V1.setCell ⟨b8,0,none⟩ (.slice q1 1 e1)).setCell ⟨b8,1,none⟩ (.slice q2 0 e2)).setCell ⟨b8,2,none⟩ (.int .i64 a0)).setCell ⟨b8,3,none⟩ (.int .u64 a1)).setCell ⟨b8,4,none⟩ (.int .u64 a2)).setCell ⟨b8,5,none⟩ (.int .u64 a3)).setCell ⟨b8,6,none⟩ (.int .u64 a4)).setCell ⟨b8,7,none⟩ (.int .u64 a5)).setCell ⟨b8,8,none⟩ (.int .u64 a6)).setCell ⟨b8,9,none⟩ (.int .u64 a7)).setCell ⟨b8,10,none⟩ (.int .u64 a8))=V2∧((V1.cell? ⟨B,0,none⟩=some (.int .i64 bits)∧V1.cell? ⟨B,1,none⟩=some (.slice pp np cp)∧V1.cell? ⟨B,2,none⟩=some (.slice pt nt ct)∧V1.cell? ⟨B,3,none⟩=some (.slice pg ng cg))∧(V1.cell? ⟨b2,0,none⟩=some (.int .i64 p)∧V1.cell? ⟨b2,1,none⟩=some (.string ⟨h.toArray⟩)))∧((V2.cell? ⟨B,0,none⟩=some (.int .i64 bits)∧V2.cell? ⟨B,1,none⟩=some (.slice pp np cp)∧V2.cell? ⟨B,2,none⟩=some (.slice pt nt ct)∧V2.cell? ⟨B,3,none⟩=some (.slice pg ng cg))∧(V2.cell? ⟨b2,0,none⟩=some (.int .i64 p)∧V2.cell? ⟨b2,1,none⟩=some (.string ⟨h.toArray⟩)))∧V1.heap[b8]?=some (.cells #[.slice none 0 0,.slice none 0 0,.int .i64 0,.int .u64 0,.int .u64 0,.int .u64 0,.int .u64 0,.int .u64 0,.int .u64 0,.int .u64 0,.int .u64 0] 114 (0,0))∧V2.heap[b7]?=some (.cells #[.slice p1 np c1,.slice p2 nt c2,.slice p3 ng c3] 72 (0,0))∧V2.heap[b8]?=some (.cells #[.slice q1 1 e1,.slice q2 0 e2,.int .i64 a0,.int .u64 a1,.int .u64 a2,.int .u64 a3,.int .u64 a4,.int .u64 a5,.int .u64 a6,.int .u64 a7,.int .u64 a8] 114 (0,0))∧V2.heap[b5]?=some (.cells #[.int .i64 hops] 3 (0,0))∧NK V2 n ⟨p1,c1,p2,c2,p3,c3⟩∧WL V2 (alnM (p,h),⟨q1,e1,q2,e2⟩)∧Below w.heap.size w V2):=by
     intro D b7 b8 p1 c1 p2 c2 p3 c3 q1 e1 q2 e2 hD h7 h8 k7 k8 nk wl
     have hne:b8≠b7:=ne_ty k8 k7 (by decide)
     obtain ⟨V1,hV1⟩:∃ V1,(((D.setCell ⟨b7,0,none⟩ (.slice p1 np c1)).setCell ⟨b7,1,none⟩ (.slice p2 nt c2)).setCell ⟨b7,2,none⟩ (.slice p3 ng c3))=V1:=⟨_,rfl⟩
     have f1:∀ c,c≠b7→V1.heap[c]?=D.heap[c]?:=fun c hc=>by rw [←hV1];exact put3f (.slice p1 np c1) (.slice p2 nt c2) (.slice p3 ng c3) hc
     have m7:V1.heap[b7]?=some (.cells #[.slice p1 np c1,.slice p2 nt c2,.slice p3 ng c3] 72 (0,0)):=by rw [←hV1];exact put3 (.slice p1 np c1) (.slice p2 nt c2) (.slice p3 ng c3) k7
     have m8:=(f1 b8 hne).trans k8
     obtain ⟨V2,hV2⟩:∃ V2,(((((((((((V1.setCell ⟨b8,0,none⟩ (.slice q1 1 e1)).setCell ⟨b8,1,none⟩ (.slice q2 0 e2)).setCell ⟨b8,2,none⟩ (.int .i64 a0)).setCell ⟨b8,3,none⟩ (.int .u64 a1)).setCell ⟨b8,4,none⟩ (.int .u64 a2)).setCell ⟨b8,5,none⟩ (.int .u64 a3)).setCell ⟨b8,6,none⟩ (.int .u64 a4)).setCell ⟨b8,7,none⟩ (.int .u64 a5)).setCell ⟨b8,8,none⟩ (.int .u64 a6)).setCell ⟨b8,9,none⟩ (.int .u64 a7)).setCell ⟨b8,10,none⟩ (.int .u64 a8))=V2:=⟨_,rfl⟩
     have f2:∀ c,c≠b8→V2.heap[c]?=V1.heap[c]?:=fun c hc=>by rw [←hV2];exact put11f (.slice q1 1 e1) (.slice q2 0 e2) (.int .i64 a0) (.int .u64 a1) (.int .u64 a2) (.int .u64 a3) (.int .u64 a4) (.int .u64 a5) (.int .u64 a6) (.int .u64 a7) (.int .u64 a8) hc
     have l8:V2.heap[b8]?=some (.cells #[.slice q1 1 e1,.slice q2 0 e2,.int .i64 a0,.int .u64 a1,.int .u64 a2,.int .u64 a3,.int .u64 a4,.int .u64 a5,.int .u64 a6,.int .u64 a7,.int .u64 a8] 114 (0,0)):=by rw [←hV2];exact put11 (.slice q1 1 e1) (.slice q2 0 e2) (.int .i64 a0) (.int .u64 a1) (.int .u64 a2) (.int .u64 a3) (.int .u64 a4) (.int .u64 a5) (.int .u64 a6) (.int .u64 a7) (.int .u64 a8) m8
     have hb1:Below w.heap.size w V1:=by rw [←hV1];exact put3b (.slice p1 np c1) (.slice p2 nt c2) (.slice p3 ng c3) (HBX.out.2.2.2.2.2 D hD) (Nat.le_trans HBX.out.2.2.2.1 h7)
     have hb2:Below w.heap.size w V2:=by rw [←hV2];exact put11b (.slice q1 1 e1) (.slice q2 0 e2) (.int .i64 a0) (.int .u64 a1) (.int .u64 a2) (.int .u64 a3) (.int .u64 a4) (.int .u64 a5) (.int .u64 a6) (.int .u64 a7) (.int .u64 a8) hb1 (Nat.le_trans HBX.out.2.2.2.1 h8)
     have g1:∀ c,c < W1.heap.size→V1.heap[c]?=W1.heap[c]?:=fun c hc=>(f1 c (by omega)).trans (hD.block c hc)
     have g2:∀ c,c < W1.heap.size→V2.heap[c]?=W1.heap[c]?:=fun c hc=>(f2 c (by omega)).trans (g1 c hc)
     obtain ⟨x1,x2,x3,-,x5,-⟩:=HBX.out
     have kn:KQ NTY D V2:=fun c T cur fr hT hc=>by
      have e7:c≠b7:=by
       rintro rfl
       rw [k7] at hc
       simp only [Option.some.injEq,Obj.cells.injEq] at hc
       rw [←hc.2.1] at hT
       exact absurd hT (by decide)
      have e8:c≠b8:=by
       rintro rfl
       rw [k8] at hc
       simp only [Option.some.injEq,Obj.cells.injEq] at hc
       rw [←hc.2.1] at hT
       exact absurd hT (by decide)
      exact ((f2 c e8).trans (f1 c e7)).trans hc
     exact ⟨V1,V2,hV1,hV2,(HC.out V1 (g1 _ x1) (g1 _ x2) (g1 _ x3)).1,(HC.out V2 (g2 _ x1) (g2 _ x2) (g2 _ x3)).1,m8,(f2 b7 (Ne.symm hne)).trans m7,l8,(g2 _ x3).trans (x5 W1 (Below.refl _ _)),nk.kq kn,wl.kp (fun c cs fr hc=>kn c _ cs fr (by decide) hc),hb2⟩
    clear HHY HB HB2 HB5 HW1
    obtain ⟨D0,hD0⟩:∃ D,W2b.drew=D:=⟨_,rfl⟩
    have hb0:Below W1.heap.size W1 D0:=by rw [←hD0];exact bel0Z c2 (Below.refl _ _).drew
    have hs0:=(HCB.out D0 hb0).1
    rw [←hD0] at hs0
    refine wp_region_held_drew (S:=fun (U:World)=>(U.cell? ⟨B,0,none⟩=some (.int .i64 bits)∧U.cell? ⟨B,1,none⟩=some (.slice pp np cp)∧U.cell? ⟨B,2,none⟩=some (.slice pt nt ct)∧U.cell? ⟨B,3,none⟩=some (.slice pg ng cg))∧(U.cell? ⟨b2,0,none⟩=some (.int .i64 p)∧U.cell? ⟨b2,1,none⟩=some (.string ⟨h.toArray⟩))) (by kernel_rfl) hs0 (fun _=>?_)
    rw [hD0] at hs0 ⊢
    clear hD0 c2
    refine tk 0 (.agg #[.int .i64 bits,.slice pp np cp,.slice pt nt ct,.slice pg ng cg]) rfl hs0 ?_ ?_
    ·rintro w ⟨⟨q0,q1,q2,q3⟩,⟨r0,r1⟩⟩;go_simp
    refine tk 2 (.agg #[.int .i64 p,.string ⟨h.toArray⟩]) rfl hs0 ?_ ?_
    ·rintro w ⟨⟨q0,q1,q2,q3⟩,⟨r0,r1⟩⟩;go_simp
    refine wpAnyH_ready (rs:=[1,5,6]) (by kernel_rfl) (by simp) ?_
    refine AllReadyH.cons rfl (fun KK hKK=>?_) (AllReadyH.cons rfl (fun KK hKK=>?_) (AllReadyH.cons rfl (fun KK hKK=>?_) AllReadyH.nil))
    ·go_simp
     refine (HRD.out D0 hb0).mono ?_
     rintro en D1 ⟨p1,c1,p2,c2,p3,c3,rfl,nk,bD⟩
     have hb1:=bel0Z hb0 bD
     have hs1:=(HCB.out D1 hb1).1
     clear bD
     go_simp
     refine hKK.out _ _ hs1 (fun _=>?_)
     clear hKK KK hs0
     refine wpAnyH_ready (rs:=[3,5,6]) (by kernel_rfl) (by simp) ?_
     refine AllReadyH.cons rfl (fun KK hKK=>?_) (AllReadyH.cons rfl (fun KK hKK=>?_) (AllReadyH.cons rfl (fun KK hKK=>?_) AllReadyH.nil))
     ·go_simp
      refine (HST.out D1).mono ?_
      rintro en D2 ⟨rfl,bD⟩
      have hb2:=bel0Z hb1 bD
      have hs2:=(HCB.out D2 hb2).1
      replace nk:=nk.below bD
      clear bD
      go_simp
      refine hKK.out _ _ hs2 (fun _=>?_)
      clear hKK KK hs1
      refine wpAnyH_ready (rs:=[4,5,6]) (by kernel_rfl) (by simp) ?_
      refine AllReadyH.cons rfl (fun KK hKK=>?_) (AllReadyH.cons rfl (fun KK hKK=>?_) (AllReadyH.cons rfl (fun KK hKK=>?_) AllReadyH.nil))
      ·go_simp
       refine (HAL.out D2).mono ?_
       rintro en D3 ⟨q1,e1,q2,e2,rfl,wl,bD⟩
       have hb3:=bel0Z hb2 bD
       have hs3:=(HCB.out D3 hb3).1
       replace nk:=nk.below bD
       clear bD
       go_simp
       refine hKK.out _ _ hs3 (fun _=>?_)
       clear hKK KK hs2
       refine wpAnyH_ready (rs:=[5,6]) (by kernel_rfl) (by simp) ?_
       refine AllReadyH.cons rfl (fun KK hKK=>?_) (AllReadyH.cons rfl (fun KK hKK=>?_) AllReadyH.nil)
       ·go_simp
        obtain ⟨b7,hbk⟩:∃ b,D3.heap.size=b:=⟨_,rfl⟩
        obtain ⟨D4,hD⟩:∃ D,D3.alloc (.cells #[.slice none 0 0,.slice none 0 0,.slice none 0 0] 72)=D:=⟨_,rfl⟩
        have bD:Below D3.heap.size D3 D4:=by rw [←hD];exact belAZ (Below.refl _ _) _
        have x7:W1.heap.size≤b7:=by rw [←hbk];exact hb3.size
        have hb4:=bel0Z hb3 bD
        have hs4:=(HCB.out D4 hb4).1
        replace nk:=nk.below bD
        replace wl:=wl.below bD
        have k7:D4.heap[b7]?=some (.cells #[.slice none 0 0,.slice none 0 0,.slice none 0 0] 72 (0,0)):=by rw [←hD,←hbk];exact alloc_getZ _ _
        rw [hD,hbk]
        clear hD hbk bD
        refine hKK.out _ _ hs4 (fun _=>?_)
        clear hKK KK hs3
        refine rd 6 rfl fun KK hKK=>?_
        go_simp
        obtain ⟨b8,hbk⟩:∃ b,D4.heap.size=b:=⟨_,rfl⟩
        obtain ⟨D5,hD⟩:∃ D,D4.alloc (.cells #[.slice none 0 0,.slice none 0 0,.int .i64 0,.int .u64 0,.int .u64 0,.int .u64 0,.int .u64 0,.int .u64 0,.int .u64 0,.int .u64 0,.int .u64 0] 114)=D:=⟨_,rfl⟩
        have bD:Below D4.heap.size D4 D5:=by rw [←hD];exact belAZ (Below.refl _ _) _
        have x8:W1.heap.size≤b8:=by rw [←hbk];exact hb4.size
        have hb5:=bel0Z hb4 bD
        have hs5:=(HCB.out D5 hb5).1
        replace k7:=keepZ bD k7
        replace nk:=nk.below bD
        replace wl:=wl.below bD
        have k8:D5.heap[b8]?=some (.cells #[.slice none 0 0,.slice none 0 0,.int .i64 0,.int .u64 0,.int .u64 0,.int .u64 0,.int .u64 0,.int .u64 0,.int .u64 0,.int .u64 0,.int .u64 0] 114 (0,0)):=by rw [←hD,←hbk];exact alloc_getZ _ _
        rw [hD,hbk]
        clear hD hbk bD
        refine hKK.out _ _ hs5 (fun _=>?_)
        clear hKK KK hs4
        obtain ⟨V1,V2,hV1,hV2,hsA,hsB,m8,HF⟩:=HLF.out D5 b7 b8 p1 c1 p2 c2 p3 c3 q1 e1 q2 e2 hb5 x7 x8 k7 k8 nk wl
        have hz:=cellsZ k7
        have z0:D5.cell? ⟨b7,0,none⟩=some (.slice none 0 0):=by rw [hz.1];rfl
        have f0:=hz.2 0
        have z1:D5.cell? ⟨b7,1,none⟩=some (.slice none 0 0):=by rw [hz.1];rfl
        have f1:=hz.2 1
        have z2:D5.cell? ⟨b7,2,none⟩=some (.slice none 0 0):=by rw [hz.1];rfl
        have f2:=hz.2 2
        have HF':=hideL HF
        clear HF hz
        refine rd 7 rfl fun KK hKK=>?_
        go_simp
        try rw [hV1]
        refine hKK.out _ _ hsA (fun _=>?_)
        clear hKK KK z0 z1 z2 f0 f1 f2
        have hz:=cellsZ m8
        have z0:V1.cell? ⟨b8,0,none⟩=some (.slice none 0 0):=by rw [hz.1];rfl
        have f0:=hz.2 0
        have z1:V1.cell? ⟨b8,1,none⟩=some (.slice none 0 0):=by rw [hz.1];rfl
        have f1:=hz.2 1
        have z2:V1.cell? ⟨b8,2,none⟩=some (.int .i64 0):=by rw [hz.1];rfl
        have f2:=hz.2 2
        have z3:V1.cell? ⟨b8,3,none⟩=some (.int .u64 0):=by rw [hz.1];rfl
        have f3:=hz.2 3
        have z4:V1.cell? ⟨b8,4,none⟩=some (.int .u64 0):=by rw [hz.1];rfl
        have f4:=hz.2 4
        have z5:V1.cell? ⟨b8,5,none⟩=some (.int .u64 0):=by rw [hz.1];rfl
        have f5:=hz.2 5
        have z6:V1.cell? ⟨b8,6,none⟩=some (.int .u64 0):=by rw [hz.1];rfl
        have f6:=hz.2 6
        have z7:V1.cell? ⟨b8,7,none⟩=some (.int .u64 0):=by rw [hz.1];rfl
        have f7:=hz.2 7
        have z8:V1.cell? ⟨b8,8,none⟩=some (.int .u64 0):=by rw [hz.1];rfl
        have f8:=hz.2 8
        have z9:V1.cell? ⟨b8,9,none⟩=some (.int .u64 0):=by rw [hz.1];rfl
        have f9:=hz.2 9
        have z10:V1.cell? ⟨b8,10,none⟩=some (.int .u64 0):=by rw [hz.1];rfl
        have f10:=hz.2 10
        clear hz
        refine rd 8 rfl fun KK hKK=>?_
        go_simp
        try rw [hV2]
        refine hKK.out _ _ hsB (fun _=>?_)
        clear hKK KK z0 f0 z1 f1 z2 f2 z3 f3 z4 f4 z5 f5 z6 f6 z7 f7 z8 f8 z9 f9 z10 f10
        refine wpAnyH_done (by kernel_rfl) ?_ _
        go_wp2_with fail
        go_meet
        exact ⟨b7,b8,p1,c1,p2,c2,p3,c3,q1,e1,q2,e2,rfl,rfl,HF'.out⟩
       ·go_simp
        obtain ⟨b8,hbk⟩:∃ b,D3.heap.size=b:=⟨_,rfl⟩
        obtain ⟨D4,hD⟩:∃ D,D3.alloc (.cells #[.slice none 0 0,.slice none 0 0,.int .i64 0,.int .u64 0,.int .u64 0,.int .u64 0,.int .u64 0,.int .u64 0,.int .u64 0,.int .u64 0,.int .u64 0] 114)=D:=⟨_,rfl⟩
        have bD:Below D3.heap.size D3 D4:=by rw [←hD];exact belAZ (Below.refl _ _) _
        have x8:W1.heap.size≤b8:=by rw [←hbk];exact hb3.size
        have hb4:=bel0Z hb3 bD
        have hs4:=(HCB.out D4 hb4).1
        replace nk:=nk.below bD
        replace wl:=wl.below bD
        have k8:D4.heap[b8]?=some (.cells #[.slice none 0 0,.slice none 0 0,.int .i64 0,.int .u64 0,.int .u64 0,.int .u64 0,.int .u64 0,.int .u64 0,.int .u64 0,.int .u64 0,.int .u64 0] 114 (0,0)):=by rw [←hD,←hbk];exact alloc_getZ _ _
        rw [hD,hbk]
        clear hD hbk bD
        refine hKK.out _ _ hs4 (fun _=>?_)
        clear hKK KK hs3
        refine rd 5 rfl fun KK hKK=>?_
        go_simp
        obtain ⟨b7,hbk⟩:∃ b,D4.heap.size=b:=⟨_,rfl⟩
        obtain ⟨D5,hD⟩:∃ D,D4.alloc (.cells #[.slice none 0 0,.slice none 0 0,.slice none 0 0] 72)=D:=⟨_,rfl⟩
        have bD:Below D4.heap.size D4 D5:=by rw [←hD];exact belAZ (Below.refl _ _) _
        have x7:W1.heap.size≤b7:=by rw [←hbk];exact hb4.size
        have hb5:=bel0Z hb4 bD
        have hs5:=(HCB.out D5 hb5).1
        replace k8:=keepZ bD k8
        replace nk:=nk.below bD
        replace wl:=wl.below bD
        have k7:D5.heap[b7]?=some (.cells #[.slice none 0 0,.slice none 0 0,.slice none 0 0] 72 (0,0)):=by rw [←hD,←hbk];exact alloc_getZ _ _
        rw [hD,hbk]
        clear hD hbk bD
        refine hKK.out _ _ hs5 (fun _=>?_)
        clear hKK KK hs4
        obtain ⟨V1,V2,hV1,hV2,hsA,hsB,m8,HF⟩:=HLF.out D5 b7 b8 p1 c1 p2 c2 p3 c3 q1 e1 q2 e2 hb5 x7 x8 k7 k8 nk wl
        have hz:=cellsZ k7
        have z0:D5.cell? ⟨b7,0,none⟩=some (.slice none 0 0):=by rw [hz.1];rfl
        have f0:=hz.2 0
        have z1:D5.cell? ⟨b7,1,none⟩=some (.slice none 0 0):=by rw [hz.1];rfl
        have f1:=hz.2 1
        have z2:D5.cell? ⟨b7,2,none⟩=some (.slice none 0 0):=by rw [hz.1];rfl
        have f2:=hz.2 2
        have HF':=hideL HF
        clear HF hz
        refine rd 7 rfl fun KK hKK=>?_
        go_simp
        try rw [hV1]
        refine hKK.out _ _ hsA (fun _=>?_)
        clear hKK KK z0 z1 z2 f0 f1 f2
        have hz:=cellsZ m8
        have z0:V1.cell? ⟨b8,0,none⟩=some (.slice none 0 0):=by rw [hz.1];rfl
        have f0:=hz.2 0
        have z1:V1.cell? ⟨b8,1,none⟩=some (.slice none 0 0):=by rw [hz.1];rfl
        have f1:=hz.2 1
        have z2:V1.cell? ⟨b8,2,none⟩=some (.int .i64 0):=by rw [hz.1];rfl
        have f2:=hz.2 2
        have z3:V1.cell? ⟨b8,3,none⟩=some (.int .u64 0):=by rw [hz.1];rfl
        have f3:=hz.2 3
        have z4:V1.cell? ⟨b8,4,none⟩=some (.int .u64 0):=by rw [hz.1];rfl
        have f4:=hz.2 4
        have z5:V1.cell? ⟨b8,5,none⟩=some (.int .u64 0):=by rw [hz.1];rfl
        have f5:=hz.2 5
        have z6:V1.cell? ⟨b8,6,none⟩=some (.int .u64 0):=by rw [hz.1];rfl
        have f6:=hz.2 6
        have z7:V1.cell? ⟨b8,7,none⟩=some (.int .u64 0):=by rw [hz.1];rfl
        have f7:=hz.2 7
        have z8:V1.cell? ⟨b8,8,none⟩=some (.int .u64 0):=by rw [hz.1];rfl
        have f8:=hz.2 8
        have z9:V1.cell? ⟨b8,9,none⟩=some (.int .u64 0):=by rw [hz.1];rfl
        have f9:=hz.2 9
        have z10:V1.cell? ⟨b8,10,none⟩=some (.int .u64 0):=by rw [hz.1];rfl
        have f10:=hz.2 10
        clear hz
        refine rd 8 rfl fun KK hKK=>?_
        go_simp
        try rw [hV2]
        refine hKK.out _ _ hsB (fun _=>?_)
        clear hKK KK z0 f0 z1 f1 z2 f2 z3 f3 z4 f4 z5 f5 z6 f6 z7 f7 z8 f8 z9 f9 z10 f10
        refine wpAnyH_done (by kernel_rfl) ?_ _
        go_wp2_with fail
        go_meet
        exact ⟨b7,b8,p1,c1,p2,c2,p3,c3,q1,e1,q2,e2,rfl,rfl,HF'.out⟩
      ·go_simp
       obtain ⟨b7,hbk⟩:∃ b,D2.heap.size=b:=⟨_,rfl⟩
       obtain ⟨D3,hD⟩:∃ D,D2.alloc (.cells #[.slice none 0 0,.slice none 0 0,.slice none 0 0] 72)=D:=⟨_,rfl⟩
       have bD:Below D2.heap.size D2 D3:=by rw [←hD];exact belAZ (Below.refl _ _) _
       have x7:W1.heap.size≤b7:=by rw [←hbk];exact hb2.size
       have hb3:=bel0Z hb2 bD
       have hs3:=(HCB.out D3 hb3).1
       replace nk:=nk.below bD
       have k7:D3.heap[b7]?=some (.cells #[.slice none 0 0,.slice none 0 0,.slice none 0 0] 72 (0,0)):=by rw [←hD,←hbk];exact alloc_getZ _ _
       rw [hD,hbk]
       clear hD hbk bD
       refine hKK.out _ _ hs3 (fun _=>?_)
       clear hKK KK hs2
       refine wpAnyH_ready (rs:=[4,6]) (by kernel_rfl) (by simp) ?_
       refine AllReadyH.cons rfl (fun KK hKK=>?_) (AllReadyH.cons rfl (fun KK hKK=>?_) AllReadyH.nil)
       ·go_simp
        refine (HAL.out D3).mono ?_
        rintro en D4 ⟨q1,e1,q2,e2,rfl,wl,bD⟩
        have hb4:=bel0Z hb3 bD
        have hs4:=(HCB.out D4 hb4).1
        replace k7:=keepZ bD k7
        replace nk:=nk.below bD
        clear bD
        go_simp
        refine hKK.out _ _ hs4 (fun _=>?_)
        clear hKK KK hs3
        refine rd 6 rfl fun KK hKK=>?_
        go_simp
        obtain ⟨b8,hbk⟩:∃ b,D4.heap.size=b:=⟨_,rfl⟩
        obtain ⟨D5,hD⟩:∃ D,D4.alloc (.cells #[.slice none 0 0,.slice none 0 0,.int .i64 0,.int .u64 0,.int .u64 0,.int .u64 0,.int .u64 0,.int .u64 0,.int .u64 0,.int .u64 0,.int .u64 0] 114)=D:=⟨_,rfl⟩
        have bD:Below D4.heap.size D4 D5:=by rw [←hD];exact belAZ (Below.refl _ _) _
        have x8:W1.heap.size≤b8:=by rw [←hbk];exact hb4.size
        have hb5:=bel0Z hb4 bD
        have hs5:=(HCB.out D5 hb5).1
        replace k7:=keepZ bD k7
        replace nk:=nk.below bD
        replace wl:=wl.below bD
        have k8:D5.heap[b8]?=some (.cells #[.slice none 0 0,.slice none 0 0,.int .i64 0,.int .u64 0,.int .u64 0,.int .u64 0,.int .u64 0,.int .u64 0,.int .u64 0,.int .u64 0,.int .u64 0] 114 (0,0)):=by rw [←hD,←hbk];exact alloc_getZ _ _
        rw [hD,hbk]
        clear hD hbk bD
        refine hKK.out _ _ hs5 (fun _=>?_)
        clear hKK KK hs4
        obtain ⟨V1,V2,hV1,hV2,hsA,hsB,m8,HF⟩:=HLF.out D5 b7 b8 p1 c1 p2 c2 p3 c3 q1 e1 q2 e2 hb5 x7 x8 k7 k8 nk wl
        have hz:=cellsZ k7
        have z0:D5.cell? ⟨b7,0,none⟩=some (.slice none 0 0):=by rw [hz.1];rfl
        have f0:=hz.2 0
        have z1:D5.cell? ⟨b7,1,none⟩=some (.slice none 0 0):=by rw [hz.1];rfl
        have f1:=hz.2 1
        have z2:D5.cell? ⟨b7,2,none⟩=some (.slice none 0 0):=by rw [hz.1];rfl
        have f2:=hz.2 2
        have HF':=hideL HF
        clear HF hz
        refine rd 7 rfl fun KK hKK=>?_
        go_simp
        try rw [hV1]
        refine hKK.out _ _ hsA (fun _=>?_)
        clear hKK KK z0 z1 z2 f0 f1 f2
        have hz:=cellsZ m8
        have z0:V1.cell? ⟨b8,0,none⟩=some (.slice none 0 0):=by rw [hz.1];rfl
        have f0:=hz.2 0
        have z1:V1.cell? ⟨b8,1,none⟩=some (.slice none 0 0):=by rw [hz.1];rfl
        have f1:=hz.2 1
        have z2:V1.cell? ⟨b8,2,none⟩=some (.int .i64 0):=by rw [hz.1];rfl
        have f2:=hz.2 2
        have z3:V1.cell? ⟨b8,3,none⟩=some (.int .u64 0):=by rw [hz.1];rfl
        have f3:=hz.2 3
        have z4:V1.cell? ⟨b8,4,none⟩=some (.int .u64 0):=by rw [hz.1];rfl
        have f4:=hz.2 4
        have z5:V1.cell? ⟨b8,5,none⟩=some (.int .u64 0):=by rw [hz.1];rfl
        have f5:=hz.2 5
        have z6:V1.cell? ⟨b8,6,none⟩=some (.int .u64 0):=by rw [hz.1];rfl
        have f6:=hz.2 6
        have z7:V1.cell? ⟨b8,7,none⟩=some (.int .u64 0):=by rw [hz.1];rfl
        have f7:=hz.2 7
        have z8:V1.cell? ⟨b8,8,none⟩=some (.int .u64 0):=by rw [hz.1];rfl
        have f8:=hz.2 8
        have z9:V1.cell? ⟨b8,9,none⟩=some (.int .u64 0):=by rw [hz.1];rfl
        have f9:=hz.2 9
        have z10:V1.cell? ⟨b8,10,none⟩=some (.int .u64 0):=by rw [hz.1];rfl
        have f10:=hz.2 10
        clear hz
        refine rd 8 rfl fun KK hKK=>?_
        go_simp
        try rw [hV2]
        refine hKK.out _ _ hsB (fun _=>?_)
        clear hKK KK z0 f0 z1 f1 z2 f2 z3 f3 z4 f4 z5 f5 z6 f6 z7 f7 z8 f8 z9 f9 z10 f10
        refine wpAnyH_done (by kernel_rfl) ?_ _
        go_wp2_with fail
        go_meet
        exact ⟨b7,b8,p1,c1,p2,c2,p3,c3,q1,e1,q2,e2,rfl,rfl,HF'.out⟩
       ·go_simp
        obtain ⟨b8,hbk⟩:∃ b,D3.heap.size=b:=⟨_,rfl⟩
        obtain ⟨D4,hD⟩:∃ D,D3.alloc (.cells #[.slice none 0 0,.slice none 0 0,.int .i64 0,.int .u64 0,.int .u64 0,.int .u64 0,.int .u64 0,.int .u64 0,.int .u64 0,.int .u64 0,.int .u64 0] 114)=D:=⟨_,rfl⟩
        have bD:Below D3.heap.size D3 D4:=by rw [←hD];exact belAZ (Below.refl _ _) _
        have x8:W1.heap.size≤b8:=by rw [←hbk];exact hb3.size
        have hb4:=bel0Z hb3 bD
        have hs4:=(HCB.out D4 hb4).1
        replace k7:=keepZ bD k7
        replace nk:=nk.below bD
        have k8:D4.heap[b8]?=some (.cells #[.slice none 0 0,.slice none 0 0,.int .i64 0,.int .u64 0,.int .u64 0,.int .u64 0,.int .u64 0,.int .u64 0,.int .u64 0,.int .u64 0,.int .u64 0] 114 (0,0)):=by rw [←hD,←hbk];exact alloc_getZ _ _
        rw [hD,hbk]
        clear hD hbk bD
        refine hKK.out _ _ hs4 (fun _=>?_)
        clear hKK KK hs3
        refine rd 4 rfl fun KK hKK=>?_
        go_simp
        refine (HAL.out D4).mono ?_
        rintro en D5 ⟨q1,e1,q2,e2,rfl,wl,bD⟩
        have hb5:=bel0Z hb4 bD
        have hs5:=(HCB.out D5 hb5).1
        replace k7:=keepZ bD k7
        replace k8:=keepZ bD k8
        replace nk:=nk.below bD
        clear bD
        go_simp
        refine hKK.out _ _ hs5 (fun _=>?_)
        clear hKK KK hs4
        obtain ⟨V1,V2,hV1,hV2,hsA,hsB,m8,HF⟩:=HLF.out D5 b7 b8 p1 c1 p2 c2 p3 c3 q1 e1 q2 e2 hb5 x7 x8 k7 k8 nk wl
        have hz:=cellsZ k7
        have z0:D5.cell? ⟨b7,0,none⟩=some (.slice none 0 0):=by rw [hz.1];rfl
        have f0:=hz.2 0
        have z1:D5.cell? ⟨b7,1,none⟩=some (.slice none 0 0):=by rw [hz.1];rfl
        have f1:=hz.2 1
        have z2:D5.cell? ⟨b7,2,none⟩=some (.slice none 0 0):=by rw [hz.1];rfl
        have f2:=hz.2 2
        have HF':=hideL HF
        clear HF hz
        refine rd 7 rfl fun KK hKK=>?_
        go_simp
        try rw [hV1]
        refine hKK.out _ _ hsA (fun _=>?_)
        clear hKK KK z0 z1 z2 f0 f1 f2
        have hz:=cellsZ m8
        have z0:V1.cell? ⟨b8,0,none⟩=some (.slice none 0 0):=by rw [hz.1];rfl
        have f0:=hz.2 0
        have z1:V1.cell? ⟨b8,1,none⟩=some (.slice none 0 0):=by rw [hz.1];rfl
        have f1:=hz.2 1
        have z2:V1.cell? ⟨b8,2,none⟩=some (.int .i64 0):=by rw [hz.1];rfl
        have f2:=hz.2 2
        have z3:V1.cell? ⟨b8,3,none⟩=some (.int .u64 0):=by rw [hz.1];rfl
        have f3:=hz.2 3
        have z4:V1.cell? ⟨b8,4,none⟩=some (.int .u64 0):=by rw [hz.1];rfl
        have f4:=hz.2 4
        have z5:V1.cell? ⟨b8,5,none⟩=some (.int .u64 0):=by rw [hz.1];rfl
        have f5:=hz.2 5
        have z6:V1.cell? ⟨b8,6,none⟩=some (.int .u64 0):=by rw [hz.1];rfl
        have f6:=hz.2 6
        have z7:V1.cell? ⟨b8,7,none⟩=some (.int .u64 0):=by rw [hz.1];rfl
        have f7:=hz.2 7
        have z8:V1.cell? ⟨b8,8,none⟩=some (.int .u64 0):=by rw [hz.1];rfl
        have f8:=hz.2 8
        have z9:V1.cell? ⟨b8,9,none⟩=some (.int .u64 0):=by rw [hz.1];rfl
        have f9:=hz.2 9
        have z10:V1.cell? ⟨b8,10,none⟩=some (.int .u64 0):=by rw [hz.1];rfl
        have f10:=hz.2 10
        clear hz
        refine rd 8 rfl fun KK hKK=>?_
        go_simp
        try rw [hV2]
        refine hKK.out _ _ hsB (fun _=>?_)
        clear hKK KK z0 f0 z1 f1 z2 f2 z3 f3 z4 f4 z5 f5 z6 f6 z7 f7 z8 f8 z9 f9 z10 f10
        refine wpAnyH_done (by kernel_rfl) ?_ _
        go_wp2_with fail
        go_meet
        exact ⟨b7,b8,p1,c1,p2,c2,p3,c3,q1,e1,q2,e2,rfl,rfl,HF'.out⟩
      ·go_simp
       obtain ⟨b8,hbk⟩:∃ b,D2.heap.size=b:=⟨_,rfl⟩
       obtain ⟨D3,hD⟩:∃ D,D2.alloc (.cells #[.slice none 0 0,.slice none 0 0,.int .i64 0,.int .u64 0,.int .u64 0,.int .u64 0,.int .u64 0,.int .u64 0,.int .u64 0,.int .u64 0,.int .u64 0] 114)=D:=⟨_,rfl⟩
       have bD:Below D2.heap.size D2 D3:=by rw [←hD];exact belAZ (Below.refl _ _) _
       have x8:W1.heap.size≤b8:=by rw [←hbk];exact hb2.size
       have hb3:=bel0Z hb2 bD
       have hs3:=(HCB.out D3 hb3).1
       replace nk:=nk.below bD
       have k8:D3.heap[b8]?=some (.cells #[.slice none 0 0,.slice none 0 0,.int .i64 0,.int .u64 0,.int .u64 0,.int .u64 0,.int .u64 0,.int .u64 0,.int .u64 0,.int .u64 0,.int .u64 0] 114 (0,0)):=by rw [←hD,←hbk];exact alloc_getZ _ _
       rw [hD,hbk]
       clear hD hbk bD
       refine hKK.out _ _ hs3 (fun _=>?_)
       clear hKK KK hs2
       refine wpAnyH_ready (rs:=[4,5]) (by kernel_rfl) (by simp) ?_
       refine AllReadyH.cons rfl (fun KK hKK=>?_) (AllReadyH.cons rfl (fun KK hKK=>?_) AllReadyH.nil)
       ·go_simp
        refine (HAL.out D3).mono ?_
        rintro en D4 ⟨q1,e1,q2,e2,rfl,wl,bD⟩
        have hb4:=bel0Z hb3 bD
        have hs4:=(HCB.out D4 hb4).1
        replace k8:=keepZ bD k8
        replace nk:=nk.below bD
        clear bD
        go_simp
        refine hKK.out _ _ hs4 (fun _=>?_)
        clear hKK KK hs3
        refine rd 5 rfl fun KK hKK=>?_
        go_simp
        obtain ⟨b7,hbk⟩:∃ b,D4.heap.size=b:=⟨_,rfl⟩
        obtain ⟨D5,hD⟩:∃ D,D4.alloc (.cells #[.slice none 0 0,.slice none 0 0,.slice none 0 0] 72)=D:=⟨_,rfl⟩
        have bD:Below D4.heap.size D4 D5:=by rw [←hD];exact belAZ (Below.refl _ _) _
        have x7:W1.heap.size≤b7:=by rw [←hbk];exact hb4.size
        have hb5:=bel0Z hb4 bD
        have hs5:=(HCB.out D5 hb5).1
        replace k8:=keepZ bD k8
        replace nk:=nk.below bD
        replace wl:=wl.below bD
        have k7:D5.heap[b7]?=some (.cells #[.slice none 0 0,.slice none 0 0,.slice none 0 0] 72 (0,0)):=by rw [←hD,←hbk];exact alloc_getZ _ _
        rw [hD,hbk]
        clear hD hbk bD
        refine hKK.out _ _ hs5 (fun _=>?_)
        clear hKK KK hs4
        obtain ⟨V1,V2,hV1,hV2,hsA,hsB,m8,HF⟩:=HLF.out D5 b7 b8 p1 c1 p2 c2 p3 c3 q1 e1 q2 e2 hb5 x7 x8 k7 k8 nk wl
        have hz:=cellsZ k7
        have z0:D5.cell? ⟨b7,0,none⟩=some (.slice none 0 0):=by rw [hz.1];rfl
        have f0:=hz.2 0
        have z1:D5.cell? ⟨b7,1,none⟩=some (.slice none 0 0):=by rw [hz.1];rfl
        have f1:=hz.2 1
        have z2:D5.cell? ⟨b7,2,none⟩=some (.slice none 0 0):=by rw [hz.1];rfl
        have f2:=hz.2 2
        have HF':=hideL HF
        clear HF hz
        refine rd 7 rfl fun KK hKK=>?_
        go_simp
        try rw [hV1]
        refine hKK.out _ _ hsA (fun _=>?_)
        clear hKK KK z0 z1 z2 f0 f1 f2
        have hz:=cellsZ m8
        have z0:V1.cell? ⟨b8,0,none⟩=some (.slice none 0 0):=by rw [hz.1];rfl
        have f0:=hz.2 0
        have z1:V1.cell? ⟨b8,1,none⟩=some (.slice none 0 0):=by rw [hz.1];rfl
        have f1:=hz.2 1
        have z2:V1.cell? ⟨b8,2,none⟩=some (.int .i64 0):=by rw [hz.1];rfl
        have f2:=hz.2 2
        have z3:V1.cell? ⟨b8,3,none⟩=some (.int .u64 0):=by rw [hz.1];rfl
        have f3:=hz.2 3
        have z4:V1.cell? ⟨b8,4,none⟩=some (.int .u64 0):=by rw [hz.1];rfl
        have f4:=hz.2 4
        have z5:V1.cell? ⟨b8,5,none⟩=some (.int .u64 0):=by rw [hz.1];rfl
        have f5:=hz.2 5
        have z6:V1.cell? ⟨b8,6,none⟩=some (.int .u64 0):=by rw [hz.1];rfl
        have f6:=hz.2 6
        have z7:V1.cell? ⟨b8,7,none⟩=some (.int .u64 0):=by rw [hz.1];rfl
        have f7:=hz.2 7
        have z8:V1.cell? ⟨b8,8,none⟩=some (.int .u64 0):=by rw [hz.1];rfl
        have f8:=hz.2 8
        have z9:V1.cell? ⟨b8,9,none⟩=some (.int .u64 0):=by rw [hz.1];rfl
        have f9:=hz.2 9
        have z10:V1.cell? ⟨b8,10,none⟩=some (.int .u64 0):=by rw [hz.1];rfl
        have f10:=hz.2 10
        clear hz
        refine rd 8 rfl fun KK hKK=>?_
        go_simp
        try rw [hV2]
        refine hKK.out _ _ hsB (fun _=>?_)
        clear hKK KK z0 f0 z1 f1 z2 f2 z3 f3 z4 f4 z5 f5 z6 f6 z7 f7 z8 f8 z9 f9 z10 f10
        refine wpAnyH_done (by kernel_rfl) ?_ _
        go_wp2_with fail
        go_meet
        exact ⟨b7,b8,p1,c1,p2,c2,p3,c3,q1,e1,q2,e2,rfl,rfl,HF'.out⟩
       ·go_simp
        obtain ⟨b7,hbk⟩:∃ b,D3.heap.size=b:=⟨_,rfl⟩
        obtain ⟨D4,hD⟩:∃ D,D3.alloc (.cells #[.slice none 0 0,.slice none 0 0,.slice none 0 0] 72)=D:=⟨_,rfl⟩
        have bD:Below D3.heap.size D3 D4:=by rw [←hD];exact belAZ (Below.refl _ _) _
        have x7:W1.heap.size≤b7:=by rw [←hbk];exact hb3.size
        have hb4:=bel0Z hb3 bD
        have hs4:=(HCB.out D4 hb4).1
        replace k8:=keepZ bD k8
        replace nk:=nk.below bD
        have k7:D4.heap[b7]?=some (.cells #[.slice none 0 0,.slice none 0 0,.slice none 0 0] 72 (0,0)):=by rw [←hD,←hbk];exact alloc_getZ _ _
        rw [hD,hbk]
        clear hD hbk bD
        refine hKK.out _ _ hs4 (fun _=>?_)
        clear hKK KK hs3
        refine rd 4 rfl fun KK hKK=>?_
        go_simp
        refine (HAL.out D4).mono ?_
        rintro en D5 ⟨q1,e1,q2,e2,rfl,wl,bD⟩
        have hb5:=bel0Z hb4 bD
        have hs5:=(HCB.out D5 hb5).1
        replace k7:=keepZ bD k7
        replace k8:=keepZ bD k8
        replace nk:=nk.below bD
        clear bD
        go_simp
        refine hKK.out _ _ hs5 (fun _=>?_)
        clear hKK KK hs4
        obtain ⟨V1,V2,hV1,hV2,hsA,hsB,m8,HF⟩:=HLF.out D5 b7 b8 p1 c1 p2 c2 p3 c3 q1 e1 q2 e2 hb5 x7 x8 k7 k8 nk wl
        have hz:=cellsZ k7
        have z0:D5.cell? ⟨b7,0,none⟩=some (.slice none 0 0):=by rw [hz.1];rfl
        have f0:=hz.2 0
        have z1:D5.cell? ⟨b7,1,none⟩=some (.slice none 0 0):=by rw [hz.1];rfl
        have f1:=hz.2 1
        have z2:D5.cell? ⟨b7,2,none⟩=some (.slice none 0 0):=by rw [hz.1];rfl
        have f2:=hz.2 2
        have HF':=hideL HF
        clear HF hz
        refine rd 7 rfl fun KK hKK=>?_
        go_simp
        try rw [hV1]
        refine hKK.out _ _ hsA (fun _=>?_)
        clear hKK KK z0 z1 z2 f0 f1 f2
        have hz:=cellsZ m8
        have z0:V1.cell? ⟨b8,0,none⟩=some (.slice none 0 0):=by rw [hz.1];rfl
        have f0:=hz.2 0
        have z1:V1.cell? ⟨b8,1,none⟩=some (.slice none 0 0):=by rw [hz.1];rfl
        have f1:=hz.2 1
        have z2:V1.cell? ⟨b8,2,none⟩=some (.int .i64 0):=by rw [hz.1];rfl
        have f2:=hz.2 2
        have z3:V1.cell? ⟨b8,3,none⟩=some (.int .u64 0):=by rw [hz.1];rfl
        have f3:=hz.2 3
        have z4:V1.cell? ⟨b8,4,none⟩=some (.int .u64 0):=by rw [hz.1];rfl
        have f4:=hz.2 4
        have z5:V1.cell? ⟨b8,5,none⟩=some (.int .u64 0):=by rw [hz.1];rfl
        have f5:=hz.2 5
        have z6:V1.cell? ⟨b8,6,none⟩=some (.int .u64 0):=by rw [hz.1];rfl
        have f6:=hz.2 6
        have z7:V1.cell? ⟨b8,7,none⟩=some (.int .u64 0):=by rw [hz.1];rfl
        have f7:=hz.2 7
        have z8:V1.cell? ⟨b8,8,none⟩=some (.int .u64 0):=by rw [hz.1];rfl
        have f8:=hz.2 8
        have z9:V1.cell? ⟨b8,9,none⟩=some (.int .u64 0):=by rw [hz.1];rfl
        have f9:=hz.2 9
        have z10:V1.cell? ⟨b8,10,none⟩=some (.int .u64 0):=by rw [hz.1];rfl
        have f10:=hz.2 10
        clear hz
        refine rd 8 rfl fun KK hKK=>?_
        go_simp
        try rw [hV2]
        refine hKK.out _ _ hsB (fun _=>?_)
        clear hKK KK z0 f0 z1 f1 z2 f2 z3 f3 z4 f4 z5 f5 z6 f6 z7 f7 z8 f8 z9 f9 z10 f10
        refine wpAnyH_done (by kernel_rfl) ?_ _
        go_wp2_with fail
        go_meet
        exact ⟨b7,b8,p1,c1,p2,c2,p3,c3,q1,e1,q2,e2,rfl,rfl,HF'.out⟩
     ·go_simp
      obtain ⟨b7,hbk⟩:∃ b,D1.heap.size=b:=⟨_,rfl⟩
      obtain ⟨D2,hD⟩:∃ D,D1.alloc (.cells #[.slice none 0 0,.slice none 0 0,.slice none 0 0] 72)=D:=⟨_,rfl⟩
      have bD:Below D1.heap.size D1 D2:=by rw [←hD];exact belAZ (Below.refl _ _) _
      have x7:W1.heap.size≤b7:=by rw [←hbk];exact hb1.size
      have hb2:=bel0Z hb1 bD
      have hs2:=(HCB.out D2 hb2).1
      replace nk:=nk.below bD
      have k7:D2.heap[b7]?=some (.cells #[.slice none 0 0,.slice none 0 0,.slice none 0 0] 72 (0,0)):=by rw [←hD,←hbk];exact alloc_getZ _ _
      rw [hD,hbk]
      clear hD hbk bD
      refine hKK.out _ _ hs2 (fun _=>?_)
      clear hKK KK hs1
      refine wpAnyH_ready (rs:=[3,6]) (by kernel_rfl) (by simp) ?_
      refine AllReadyH.cons rfl (fun KK hKK=>?_) (AllReadyH.cons rfl (fun KK hKK=>?_) AllReadyH.nil)
      ·go_simp
       refine (HST.out D2).mono ?_
       rintro en D3 ⟨rfl,bD⟩
       have hb3:=bel0Z hb2 bD
       have hs3:=(HCB.out D3 hb3).1
       replace k7:=keepZ bD k7
       replace nk:=nk.below bD
       clear bD
       go_simp
       refine hKK.out _ _ hs3 (fun _=>?_)
       clear hKK KK hs2
       refine wpAnyH_ready (rs:=[4,6]) (by kernel_rfl) (by simp) ?_
       refine AllReadyH.cons rfl (fun KK hKK=>?_) (AllReadyH.cons rfl (fun KK hKK=>?_) AllReadyH.nil)
       ·go_simp
        refine (HAL.out D3).mono ?_
        rintro en D4 ⟨q1,e1,q2,e2,rfl,wl,bD⟩
        have hb4:=bel0Z hb3 bD
        have hs4:=(HCB.out D4 hb4).1
        replace k7:=keepZ bD k7
        replace nk:=nk.below bD
        clear bD
        go_simp
        refine hKK.out _ _ hs4 (fun _=>?_)
        clear hKK KK hs3
        refine rd 6 rfl fun KK hKK=>?_
        go_simp
        obtain ⟨b8,hbk⟩:∃ b,D4.heap.size=b:=⟨_,rfl⟩
        obtain ⟨D5,hD⟩:∃ D,D4.alloc (.cells #[.slice none 0 0,.slice none 0 0,.int .i64 0,.int .u64 0,.int .u64 0,.int .u64 0,.int .u64 0,.int .u64 0,.int .u64 0,.int .u64 0,.int .u64 0] 114)=D:=⟨_,rfl⟩
        have bD:Below D4.heap.size D4 D5:=by rw [←hD];exact belAZ (Below.refl _ _) _
        have x8:W1.heap.size≤b8:=by rw [←hbk];exact hb4.size
        have hb5:=bel0Z hb4 bD
        have hs5:=(HCB.out D5 hb5).1
        replace k7:=keepZ bD k7
        replace nk:=nk.below bD
        replace wl:=wl.below bD
        have k8:D5.heap[b8]?=some (.cells #[.slice none 0 0,.slice none 0 0,.int .i64 0,.int .u64 0,.int .u64 0,.int .u64 0,.int .u64 0,.int .u64 0,.int .u64 0,.int .u64 0,.int .u64 0] 114 (0,0)):=by rw [←hD,←hbk];exact alloc_getZ _ _
        rw [hD,hbk]
        clear hD hbk bD
        refine hKK.out _ _ hs5 (fun _=>?_)
        clear hKK KK hs4
        obtain ⟨V1,V2,hV1,hV2,hsA,hsB,m8,HF⟩:=HLF.out D5 b7 b8 p1 c1 p2 c2 p3 c3 q1 e1 q2 e2 hb5 x7 x8 k7 k8 nk wl
        have hz:=cellsZ k7
        have z0:D5.cell? ⟨b7,0,none⟩=some (.slice none 0 0):=by rw [hz.1];rfl
        have f0:=hz.2 0
        have z1:D5.cell? ⟨b7,1,none⟩=some (.slice none 0 0):=by rw [hz.1];rfl
        have f1:=hz.2 1
        have z2:D5.cell? ⟨b7,2,none⟩=some (.slice none 0 0):=by rw [hz.1];rfl
        have f2:=hz.2 2
        have HF':=hideL HF
        clear HF hz
        refine rd 7 rfl fun KK hKK=>?_
        go_simp
        try rw [hV1]
        refine hKK.out _ _ hsA (fun _=>?_)
        clear hKK KK z0 z1 z2 f0 f1 f2
        have hz:=cellsZ m8
        have z0:V1.cell? ⟨b8,0,none⟩=some (.slice none 0 0):=by rw [hz.1];rfl
        have f0:=hz.2 0
        have z1:V1.cell? ⟨b8,1,none⟩=some (.slice none 0 0):=by rw [hz.1];rfl
        have f1:=hz.2 1
        have z2:V1.cell? ⟨b8,2,none⟩=some (.int .i64 0):=by rw [hz.1];rfl
        have f2:=hz.2 2
        have z3:V1.cell? ⟨b8,3,none⟩=some (.int .u64 0):=by rw [hz.1];rfl
        have f3:=hz.2 3
        have z4:V1.cell? ⟨b8,4,none⟩=some (.int .u64 0):=by rw [hz.1];rfl
        have f4:=hz.2 4
        have z5:V1.cell? ⟨b8,5,none⟩=some (.int .u64 0):=by rw [hz.1];rfl
        have f5:=hz.2 5
        have z6:V1.cell? ⟨b8,6,none⟩=some (.int .u64 0):=by rw [hz.1];rfl
        have f6:=hz.2 6
        have z7:V1.cell? ⟨b8,7,none⟩=some (.int .u64 0):=by rw [hz.1];rfl
        have f7:=hz.2 7
        have z8:V1.cell? ⟨b8,8,none⟩=some (.int .u64 0):=by rw [hz.1];rfl
        have f8:=hz.2 8
        have z9:V1.cell? ⟨b8,9,none⟩=some (.int .u64 0):=by rw [hz.1];rfl
        have f9:=hz.2 9
        have z10:V1.cell? ⟨b8,10,none⟩=some (.int .u64 0):=by rw [hz.1];rfl
        have f10:=hz.2 10
        clear hz
        refine rd 8 rfl fun KK hKK=>?_
        go_simp
        try rw [hV2]
        refine hKK.out _ _ hsB (fun _=>?_)
        clear hKK KK z0 f0 z1 f1 z2 f2 z3 f3 z4 f4 z5 f5 z6 f6 z7 f7 z8 f8 z9 f9 z10 f10
        refine wpAnyH_done (by kernel_rfl) ?_ _
        go_wp2_with fail
        go_meet
        exact ⟨b7,b8,p1,c1,p2,c2,p3,c3,q1,e1,q2,e2,rfl,rfl,HF'.out⟩
       ·go_simp
        obtain ⟨b8,hbk⟩:∃ b,D3.heap.size=b:=⟨_,rfl⟩
        obtain ⟨D4,hD⟩:∃ D,D3.alloc (.cells #[.slice none 0 0,.slice none 0 0,.int .i64 0,.int .u64 0,.int .u64 0,.int .u64 0,.int .u64 0,.int .u64 0,.int .u64 0,.int .u64 0,.int .u64 0] 114)=D:=⟨_,rfl⟩
        have bD:Below D3.heap.size D3 D4:=by rw [←hD];exact belAZ (Below.refl _ _) _
        have x8:W1.heap.size≤b8:=by rw [←hbk];exact hb3.size
        have hb4:=bel0Z hb3 bD
        have hs4:=(HCB.out D4 hb4).1
        replace k7:=keepZ bD k7
        replace nk:=nk.below bD
        have k8:D4.heap[b8]?=some (.cells #[.slice none 0 0,.slice none 0 0,.int .i64 0,.int .u64 0,.int .u64 0,.int .u64 0,.int .u64 0,.int .u64 0,.int .u64 0,.int .u64 0,.int .u64 0] 114 (0,0)):=by rw [←hD,←hbk];exact alloc_getZ _ _
        rw [hD,hbk]
        clear hD hbk bD
        refine hKK.out _ _ hs4 (fun _=>?_)
        clear hKK KK hs3
        refine rd 4 rfl fun KK hKK=>?_
        go_simp
        refine (HAL.out D4).mono ?_
        rintro en D5 ⟨q1,e1,q2,e2,rfl,wl,bD⟩
        have hb5:=bel0Z hb4 bD
        have hs5:=(HCB.out D5 hb5).1
        replace k7:=keepZ bD k7
        replace k8:=keepZ bD k8
        replace nk:=nk.below bD
        clear bD
        go_simp
        refine hKK.out _ _ hs5 (fun _=>?_)
        clear hKK KK hs4
        obtain ⟨V1,V2,hV1,hV2,hsA,hsB,m8,HF⟩:=HLF.out D5 b7 b8 p1 c1 p2 c2 p3 c3 q1 e1 q2 e2 hb5 x7 x8 k7 k8 nk wl
        have hz:=cellsZ k7
        have z0:D5.cell? ⟨b7,0,none⟩=some (.slice none 0 0):=by rw [hz.1];rfl
        have f0:=hz.2 0
        have z1:D5.cell? ⟨b7,1,none⟩=some (.slice none 0 0):=by rw [hz.1];rfl
        have f1:=hz.2 1
        have z2:D5.cell? ⟨b7,2,none⟩=some (.slice none 0 0):=by rw [hz.1];rfl
        have f2:=hz.2 2
        have HF':=hideL HF
        clear HF hz
        refine rd 7 rfl fun KK hKK=>?_
        go_simp
        try rw [hV1]
        refine hKK.out _ _ hsA (fun _=>?_)
        clear hKK KK z0 z1 z2 f0 f1 f2
        have hz:=cellsZ m8
        have z0:V1.cell? ⟨b8,0,none⟩=some (.slice none 0 0):=by rw [hz.1];rfl
        have f0:=hz.2 0
        have z1:V1.cell? ⟨b8,1,none⟩=some (.slice none 0 0):=by rw [hz.1];rfl
        have f1:=hz.2 1
        have z2:V1.cell? ⟨b8,2,none⟩=some (.int .i64 0):=by rw [hz.1];rfl
        have f2:=hz.2 2
        have z3:V1.cell? ⟨b8,3,none⟩=some (.int .u64 0):=by rw [hz.1];rfl
        have f3:=hz.2 3
        have z4:V1.cell? ⟨b8,4,none⟩=some (.int .u64 0):=by rw [hz.1];rfl
        have f4:=hz.2 4
        have z5:V1.cell? ⟨b8,5,none⟩=some (.int .u64 0):=by rw [hz.1];rfl
        have f5:=hz.2 5
        have z6:V1.cell? ⟨b8,6,none⟩=some (.int .u64 0):=by rw [hz.1];rfl
        have f6:=hz.2 6
        have z7:V1.cell? ⟨b8,7,none⟩=some (.int .u64 0):=by rw [hz.1];rfl
        have f7:=hz.2 7
        have z8:V1.cell? ⟨b8,8,none⟩=some (.int .u64 0):=by rw [hz.1];rfl
        have f8:=hz.2 8
        have z9:V1.cell? ⟨b8,9,none⟩=some (.int .u64 0):=by rw [hz.1];rfl
        have f9:=hz.2 9
        have z10:V1.cell? ⟨b8,10,none⟩=some (.int .u64 0):=by rw [hz.1];rfl
        have f10:=hz.2 10
        clear hz
        refine rd 8 rfl fun KK hKK=>?_
        go_simp
        try rw [hV2]
        refine hKK.out _ _ hsB (fun _=>?_)
        clear hKK KK z0 f0 z1 f1 z2 f2 z3 f3 z4 f4 z5 f5 z6 f6 z7 f7 z8 f8 z9 f9 z10 f10
        refine wpAnyH_done (by kernel_rfl) ?_ _
        go_wp2_with fail
        go_meet
        exact ⟨b7,b8,p1,c1,p2,c2,p3,c3,q1,e1,q2,e2,rfl,rfl,HF'.out⟩
      ·go_simp
       obtain ⟨b8,hbk⟩:∃ b,D2.heap.size=b:=⟨_,rfl⟩
       obtain ⟨D3,hD⟩:∃ D,D2.alloc (.cells #[.slice none 0 0,.slice none 0 0,.int .i64 0,.int .u64 0,.int .u64 0,.int .u64 0,.int .u64 0,.int .u64 0,.int .u64 0,.int .u64 0,.int .u64 0] 114)=D:=⟨_,rfl⟩
       have bD:Below D2.heap.size D2 D3:=by rw [←hD];exact belAZ (Below.refl _ _) _
       have x8:W1.heap.size≤b8:=by rw [←hbk];exact hb2.size
       have hb3:=bel0Z hb2 bD
       have hs3:=(HCB.out D3 hb3).1
       replace k7:=keepZ bD k7
       replace nk:=nk.below bD
       have k8:D3.heap[b8]?=some (.cells #[.slice none 0 0,.slice none 0 0,.int .i64 0,.int .u64 0,.int .u64 0,.int .u64 0,.int .u64 0,.int .u64 0,.int .u64 0,.int .u64 0,.int .u64 0] 114 (0,0)):=by rw [←hD,←hbk];exact alloc_getZ _ _
       rw [hD,hbk]
       clear hD hbk bD
       refine hKK.out _ _ hs3 (fun _=>?_)
       clear hKK KK hs2
       refine rd 3 rfl fun KK hKK=>?_
       go_simp
       refine (HST.out D3).mono ?_
       rintro en D4 ⟨rfl,bD⟩
       have hb4:=bel0Z hb3 bD
       have hs4:=(HCB.out D4 hb4).1
       replace k7:=keepZ bD k7
       replace k8:=keepZ bD k8
       replace nk:=nk.below bD
       clear bD
       go_simp
       refine hKK.out _ _ hs4 (fun _=>?_)
       clear hKK KK hs3
       refine rd 4 rfl fun KK hKK=>?_
       go_simp
       refine (HAL.out D4).mono ?_
       rintro en D5 ⟨q1,e1,q2,e2,rfl,wl,bD⟩
       have hb5:=bel0Z hb4 bD
       have hs5:=(HCB.out D5 hb5).1
       replace k7:=keepZ bD k7
       replace k8:=keepZ bD k8
       replace nk:=nk.below bD
       clear bD
       go_simp
       refine hKK.out _ _ hs5 (fun _=>?_)
       clear hKK KK hs4
       obtain ⟨V1,V2,hV1,hV2,hsA,hsB,m8,HF⟩:=HLF.out D5 b7 b8 p1 c1 p2 c2 p3 c3 q1 e1 q2 e2 hb5 x7 x8 k7 k8 nk wl
       have hz:=cellsZ k7
       have z0:D5.cell? ⟨b7,0,none⟩=some (.slice none 0 0):=by rw [hz.1];rfl
       have f0:=hz.2 0
       have z1:D5.cell? ⟨b7,1,none⟩=some (.slice none 0 0):=by rw [hz.1];rfl
       have f1:=hz.2 1
       have z2:D5.cell? ⟨b7,2,none⟩=some (.slice none 0 0):=by rw [hz.1];rfl
       have f2:=hz.2 2
       have HF':=hideL HF
       clear HF hz
       refine rd 7 rfl fun KK hKK=>?_
       go_simp
       try rw [hV1]
       refine hKK.out _ _ hsA (fun _=>?_)
       clear hKK KK z0 z1 z2 f0 f1 f2
       have hz:=cellsZ m8
       have z0:V1.cell? ⟨b8,0,none⟩=some (.slice none 0 0):=by rw [hz.1];rfl
       have f0:=hz.2 0
       have z1:V1.cell? ⟨b8,1,none⟩=some (.slice none 0 0):=by rw [hz.1];rfl
       have f1:=hz.2 1
       have z2:V1.cell? ⟨b8,2,none⟩=some (.int .i64 0):=by rw [hz.1];rfl
       have f2:=hz.2 2
       have z3:V1.cell? ⟨b8,3,none⟩=some (.int .u64 0):=by rw [hz.1];rfl
       have f3:=hz.2 3
       have z4:V1.cell? ⟨b8,4,none⟩=some (.int .u64 0):=by rw [hz.1];rfl
       have f4:=hz.2 4
       have z5:V1.cell? ⟨b8,5,none⟩=some (.int .u64 0):=by rw [hz.1];rfl
       have f5:=hz.2 5
       have z6:V1.cell? ⟨b8,6,none⟩=some (.int .u64 0):=by rw [hz.1];rfl
       have f6:=hz.2 6
       have z7:V1.cell? ⟨b8,7,none⟩=some (.int .u64 0):=by rw [hz.1];rfl
       have f7:=hz.2 7
       have z8:V1.cell? ⟨b8,8,none⟩=some (.int .u64 0):=by rw [hz.1];rfl
       have f8:=hz.2 8
       have z9:V1.cell? ⟨b8,9,none⟩=some (.int .u64 0):=by rw [hz.1];rfl
       have f9:=hz.2 9
       have z10:V1.cell? ⟨b8,10,none⟩=some (.int .u64 0):=by rw [hz.1];rfl
       have f10:=hz.2 10
       clear hz
       refine rd 8 rfl fun KK hKK=>?_
       go_simp
       try rw [hV2]
       refine hKK.out _ _ hsB (fun _=>?_)
       clear hKK KK z0 f0 z1 f1 z2 f2 z3 f3 z4 f4 z5 f5 z6 f6 z7 f7 z8 f8 z9 f9 z10 f10
       refine wpAnyH_done (by kernel_rfl) ?_ _
       go_wp2_with fail
       go_meet
       exact ⟨b7,b8,p1,c1,p2,c2,p3,c3,q1,e1,q2,e2,rfl,rfl,HF'.out⟩
     ·go_simp
      obtain ⟨b8,hbk⟩:∃ b,D1.heap.size=b:=⟨_,rfl⟩
      obtain ⟨D2,hD⟩:∃ D,D1.alloc (.cells #[.slice none 0 0,.slice none 0 0,.int .i64 0,.int .u64 0,.int .u64 0,.int .u64 0,.int .u64 0,.int .u64 0,.int .u64 0,.int .u64 0,.int .u64 0] 114)=D:=⟨_,rfl⟩
      have bD:Below D1.heap.size D1 D2:=by rw [←hD];exact belAZ (Below.refl _ _) _
      have x8:W1.heap.size≤b8:=by rw [←hbk];exact hb1.size
      have hb2:=bel0Z hb1 bD
      have hs2:=(HCB.out D2 hb2).1
      replace nk:=nk.below bD
      have k8:D2.heap[b8]?=some (.cells #[.slice none 0 0,.slice none 0 0,.int .i64 0,.int .u64 0,.int .u64 0,.int .u64 0,.int .u64 0,.int .u64 0,.int .u64 0,.int .u64 0,.int .u64 0] 114 (0,0)):=by rw [←hD,←hbk];exact alloc_getZ _ _
      rw [hD,hbk]
      clear hD hbk bD
      refine hKK.out _ _ hs2 (fun _=>?_)
      clear hKK KK hs1
      refine wpAnyH_ready (rs:=[3,5]) (by kernel_rfl) (by simp) ?_
      refine AllReadyH.cons rfl (fun KK hKK=>?_) (AllReadyH.cons rfl (fun KK hKK=>?_) AllReadyH.nil)
      ·go_simp
       refine (HST.out D2).mono ?_
       rintro en D3 ⟨rfl,bD⟩
       have hb3:=bel0Z hb2 bD
       have hs3:=(HCB.out D3 hb3).1
       replace k8:=keepZ bD k8
       replace nk:=nk.below bD
       clear bD
       go_simp
       refine hKK.out _ _ hs3 (fun _=>?_)
       clear hKK KK hs2
       refine wpAnyH_ready (rs:=[4,5]) (by kernel_rfl) (by simp) ?_
       refine AllReadyH.cons rfl (fun KK hKK=>?_) (AllReadyH.cons rfl (fun KK hKK=>?_) AllReadyH.nil)
       ·go_simp
        refine (HAL.out D3).mono ?_
        rintro en D4 ⟨q1,e1,q2,e2,rfl,wl,bD⟩
        have hb4:=bel0Z hb3 bD
        have hs4:=(HCB.out D4 hb4).1
        replace k8:=keepZ bD k8
        replace nk:=nk.below bD
        clear bD
        go_simp
        refine hKK.out _ _ hs4 (fun _=>?_)
        clear hKK KK hs3
        refine rd 5 rfl fun KK hKK=>?_
        go_simp
        obtain ⟨b7,hbk⟩:∃ b,D4.heap.size=b:=⟨_,rfl⟩
        obtain ⟨D5,hD⟩:∃ D,D4.alloc (.cells #[.slice none 0 0,.slice none 0 0,.slice none 0 0] 72)=D:=⟨_,rfl⟩
        have bD:Below D4.heap.size D4 D5:=by rw [←hD];exact belAZ (Below.refl _ _) _
        have x7:W1.heap.size≤b7:=by rw [←hbk];exact hb4.size
        have hb5:=bel0Z hb4 bD
        have hs5:=(HCB.out D5 hb5).1
        replace k8:=keepZ bD k8
        replace nk:=nk.below bD
        replace wl:=wl.below bD
        have k7:D5.heap[b7]?=some (.cells #[.slice none 0 0,.slice none 0 0,.slice none 0 0] 72 (0,0)):=by rw [←hD,←hbk];exact alloc_getZ _ _
        rw [hD,hbk]
        clear hD hbk bD
        refine hKK.out _ _ hs5 (fun _=>?_)
        clear hKK KK hs4
        obtain ⟨V1,V2,hV1,hV2,hsA,hsB,m8,HF⟩:=HLF.out D5 b7 b8 p1 c1 p2 c2 p3 c3 q1 e1 q2 e2 hb5 x7 x8 k7 k8 nk wl
        have hz:=cellsZ k7
        have z0:D5.cell? ⟨b7,0,none⟩=some (.slice none 0 0):=by rw [hz.1];rfl
        have f0:=hz.2 0
        have z1:D5.cell? ⟨b7,1,none⟩=some (.slice none 0 0):=by rw [hz.1];rfl
        have f1:=hz.2 1
        have z2:D5.cell? ⟨b7,2,none⟩=some (.slice none 0 0):=by rw [hz.1];rfl
        have f2:=hz.2 2
        have HF':=hideL HF
        clear HF hz
        refine rd 7 rfl fun KK hKK=>?_
        go_simp
        try rw [hV1]
        refine hKK.out _ _ hsA (fun _=>?_)
        clear hKK KK z0 z1 z2 f0 f1 f2
        have hz:=cellsZ m8
        have z0:V1.cell? ⟨b8,0,none⟩=some (.slice none 0 0):=by rw [hz.1];rfl
        have f0:=hz.2 0
        have z1:V1.cell? ⟨b8,1,none⟩=some (.slice none 0 0):=by rw [hz.1];rfl
        have f1:=hz.2 1
        have z2:V1.cell? ⟨b8,2,none⟩=some (.int .i64 0):=by rw [hz.1];rfl
        have f2:=hz.2 2
        have z3:V1.cell? ⟨b8,3,none⟩=some (.int .u64 0):=by rw [hz.1];rfl
        have f3:=hz.2 3
        have z4:V1.cell? ⟨b8,4,none⟩=some (.int .u64 0):=by rw [hz.1];rfl
        have f4:=hz.2 4
        have z5:V1.cell? ⟨b8,5,none⟩=some (.int .u64 0):=by rw [hz.1];rfl
        have f5:=hz.2 5
        have z6:V1.cell? ⟨b8,6,none⟩=some (.int .u64 0):=by rw [hz.1];rfl
        have f6:=hz.2 6
        have z7:V1.cell? ⟨b8,7,none⟩=some (.int .u64 0):=by rw [hz.1];rfl
        have f7:=hz.2 7
        have z8:V1.cell? ⟨b8,8,none⟩=some (.int .u64 0):=by rw [hz.1];rfl
        have f8:=hz.2 8
        have z9:V1.cell? ⟨b8,9,none⟩=some (.int .u64 0):=by rw [hz.1];rfl
        have f9:=hz.2 9
        have z10:V1.cell? ⟨b8,10,none⟩=some (.int .u64 0):=by rw [hz.1];rfl
        have f10:=hz.2 10
        clear hz
        refine rd 8 rfl fun KK hKK=>?_
        go_simp
        try rw [hV2]
        refine hKK.out _ _ hsB (fun _=>?_)
        clear hKK KK z0 f0 z1 f1 z2 f2 z3 f3 z4 f4 z5 f5 z6 f6 z7 f7 z8 f8 z9 f9 z10 f10
        refine wpAnyH_done (by kernel_rfl) ?_ _
        go_wp2_with fail
        go_meet
        exact ⟨b7,b8,p1,c1,p2,c2,p3,c3,q1,e1,q2,e2,rfl,rfl,HF'.out⟩
       ·go_simp
        obtain ⟨b7,hbk⟩:∃ b,D3.heap.size=b:=⟨_,rfl⟩
        obtain ⟨D4,hD⟩:∃ D,D3.alloc (.cells #[.slice none 0 0,.slice none 0 0,.slice none 0 0] 72)=D:=⟨_,rfl⟩
        have bD:Below D3.heap.size D3 D4:=by rw [←hD];exact belAZ (Below.refl _ _) _
        have x7:W1.heap.size≤b7:=by rw [←hbk];exact hb3.size
        have hb4:=bel0Z hb3 bD
        have hs4:=(HCB.out D4 hb4).1
        replace k8:=keepZ bD k8
        replace nk:=nk.below bD
        have k7:D4.heap[b7]?=some (.cells #[.slice none 0 0,.slice none 0 0,.slice none 0 0] 72 (0,0)):=by rw [←hD,←hbk];exact alloc_getZ _ _
        rw [hD,hbk]
        clear hD hbk bD
        refine hKK.out _ _ hs4 (fun _=>?_)
        clear hKK KK hs3
        refine rd 4 rfl fun KK hKK=>?_
        go_simp
        refine (HAL.out D4).mono ?_
        rintro en D5 ⟨q1,e1,q2,e2,rfl,wl,bD⟩
        have hb5:=bel0Z hb4 bD
        have hs5:=(HCB.out D5 hb5).1
        replace k7:=keepZ bD k7
        replace k8:=keepZ bD k8
        replace nk:=nk.below bD
        clear bD
        go_simp
        refine hKK.out _ _ hs5 (fun _=>?_)
        clear hKK KK hs4
        obtain ⟨V1,V2,hV1,hV2,hsA,hsB,m8,HF⟩:=HLF.out D5 b7 b8 p1 c1 p2 c2 p3 c3 q1 e1 q2 e2 hb5 x7 x8 k7 k8 nk wl
        have hz:=cellsZ k7
        have z0:D5.cell? ⟨b7,0,none⟩=some (.slice none 0 0):=by rw [hz.1];rfl
        have f0:=hz.2 0
        have z1:D5.cell? ⟨b7,1,none⟩=some (.slice none 0 0):=by rw [hz.1];rfl
        have f1:=hz.2 1
        have z2:D5.cell? ⟨b7,2,none⟩=some (.slice none 0 0):=by rw [hz.1];rfl
        have f2:=hz.2 2
        have HF':=hideL HF
        clear HF hz
        refine rd 7 rfl fun KK hKK=>?_
        go_simp
        try rw [hV1]
        refine hKK.out _ _ hsA (fun _=>?_)
        clear hKK KK z0 z1 z2 f0 f1 f2
        have hz:=cellsZ m8
        have z0:V1.cell? ⟨b8,0,none⟩=some (.slice none 0 0):=by rw [hz.1];rfl
        have f0:=hz.2 0
        have z1:V1.cell? ⟨b8,1,none⟩=some (.slice none 0 0):=by rw [hz.1];rfl
        have f1:=hz.2 1
        have z2:V1.cell? ⟨b8,2,none⟩=some (.int .i64 0):=by rw [hz.1];rfl
        have f2:=hz.2 2
        have z3:V1.cell? ⟨b8,3,none⟩=some (.int .u64 0):=by rw [hz.1];rfl
        have f3:=hz.2 3
        have z4:V1.cell? ⟨b8,4,none⟩=some (.int .u64 0):=by rw [hz.1];rfl
        have f4:=hz.2 4
        have z5:V1.cell? ⟨b8,5,none⟩=some (.int .u64 0):=by rw [hz.1];rfl
        have f5:=hz.2 5
        have z6:V1.cell? ⟨b8,6,none⟩=some (.int .u64 0):=by rw [hz.1];rfl
        have f6:=hz.2 6
        have z7:V1.cell? ⟨b8,7,none⟩=some (.int .u64 0):=by rw [hz.1];rfl
        have f7:=hz.2 7
        have z8:V1.cell? ⟨b8,8,none⟩=some (.int .u64 0):=by rw [hz.1];rfl
        have f8:=hz.2 8
        have z9:V1.cell? ⟨b8,9,none⟩=some (.int .u64 0):=by rw [hz.1];rfl
        have f9:=hz.2 9
        have z10:V1.cell? ⟨b8,10,none⟩=some (.int .u64 0):=by rw [hz.1];rfl
        have f10:=hz.2 10
        clear hz
        refine rd 8 rfl fun KK hKK=>?_
        go_simp
        try rw [hV2]
        refine hKK.out _ _ hsB (fun _=>?_)
        clear hKK KK z0 f0 z1 f1 z2 f2 z3 f3 z4 f4 z5 f5 z6 f6 z7 f7 z8 f8 z9 f9 z10 f10
        refine wpAnyH_done (by kernel_rfl) ?_ _
        go_wp2_with fail
        go_meet
        exact ⟨b7,b8,p1,c1,p2,c2,p3,c3,q1,e1,q2,e2,rfl,rfl,HF'.out⟩
      ·go_simp
       obtain ⟨b7,hbk⟩:∃ b,D2.heap.size=b:=⟨_,rfl⟩
       obtain ⟨D3,hD⟩:∃ D,D2.alloc (.cells #[.slice none 0 0,.slice none 0 0,.slice none 0 0] 72)=D:=⟨_,rfl⟩
       have bD:Below D2.heap.size D2 D3:=by rw [←hD];exact belAZ (Below.refl _ _) _
       have x7:W1.heap.size≤b7:=by rw [←hbk];exact hb2.size
       have hb3:=bel0Z hb2 bD
       have hs3:=(HCB.out D3 hb3).1
       replace k8:=keepZ bD k8
       replace nk:=nk.below bD
       have k7:D3.heap[b7]?=some (.cells #[.slice none 0 0,.slice none 0 0,.slice none 0 0] 72 (0,0)):=by rw [←hD,←hbk];exact alloc_getZ _ _
       rw [hD,hbk]
       clear hD hbk bD
       refine hKK.out _ _ hs3 (fun _=>?_)
       clear hKK KK hs2
       refine rd 3 rfl fun KK hKK=>?_
       go_simp
       refine (HST.out D3).mono ?_
       rintro en D4 ⟨rfl,bD⟩
       have hb4:=bel0Z hb3 bD
       have hs4:=(HCB.out D4 hb4).1
       replace k7:=keepZ bD k7
       replace k8:=keepZ bD k8
       replace nk:=nk.below bD
       clear bD
       go_simp
       refine hKK.out _ _ hs4 (fun _=>?_)
       clear hKK KK hs3
       refine rd 4 rfl fun KK hKK=>?_
       go_simp
       refine (HAL.out D4).mono ?_
       rintro en D5 ⟨q1,e1,q2,e2,rfl,wl,bD⟩
       have hb5:=bel0Z hb4 bD
       have hs5:=(HCB.out D5 hb5).1
       replace k7:=keepZ bD k7
       replace k8:=keepZ bD k8
       replace nk:=nk.below bD
       clear bD
       go_simp
       refine hKK.out _ _ hs5 (fun _=>?_)
       clear hKK KK hs4
       obtain ⟨V1,V2,hV1,hV2,hsA,hsB,m8,HF⟩:=HLF.out D5 b7 b8 p1 c1 p2 c2 p3 c3 q1 e1 q2 e2 hb5 x7 x8 k7 k8 nk wl
       have hz:=cellsZ k7
       have z0:D5.cell? ⟨b7,0,none⟩=some (.slice none 0 0):=by rw [hz.1];rfl
       have f0:=hz.2 0
       have z1:D5.cell? ⟨b7,1,none⟩=some (.slice none 0 0):=by rw [hz.1];rfl
       have f1:=hz.2 1
       have z2:D5.cell? ⟨b7,2,none⟩=some (.slice none 0 0):=by rw [hz.1];rfl
       have f2:=hz.2 2
       have HF':=hideL HF
       clear HF hz
       refine rd 7 rfl fun KK hKK=>?_
       go_simp
       try rw [hV1]
       refine hKK.out _ _ hsA (fun _=>?_)
       clear hKK KK z0 z1 z2 f0 f1 f2
       have hz:=cellsZ m8
       have z0:V1.cell? ⟨b8,0,none⟩=some (.slice none 0 0):=by rw [hz.1];rfl
       have f0:=hz.2 0
       have z1:V1.cell? ⟨b8,1,none⟩=some (.slice none 0 0):=by rw [hz.1];rfl
       have f1:=hz.2 1
       have z2:V1.cell? ⟨b8,2,none⟩=some (.int .i64 0):=by rw [hz.1];rfl
       have f2:=hz.2 2
       have z3:V1.cell? ⟨b8,3,none⟩=some (.int .u64 0):=by rw [hz.1];rfl
       have f3:=hz.2 3
       have z4:V1.cell? ⟨b8,4,none⟩=some (.int .u64 0):=by rw [hz.1];rfl
       have f4:=hz.2 4
       have z5:V1.cell? ⟨b8,5,none⟩=some (.int .u64 0):=by rw [hz.1];rfl
       have f5:=hz.2 5
       have z6:V1.cell? ⟨b8,6,none⟩=some (.int .u64 0):=by rw [hz.1];rfl
       have f6:=hz.2 6
       have z7:V1.cell? ⟨b8,7,none⟩=some (.int .u64 0):=by rw [hz.1];rfl
       have f7:=hz.2 7
       have z8:V1.cell? ⟨b8,8,none⟩=some (.int .u64 0):=by rw [hz.1];rfl
       have f8:=hz.2 8
       have z9:V1.cell? ⟨b8,9,none⟩=some (.int .u64 0):=by rw [hz.1];rfl
       have f9:=hz.2 9
       have z10:V1.cell? ⟨b8,10,none⟩=some (.int .u64 0):=by rw [hz.1];rfl
       have f10:=hz.2 10
       clear hz
       refine rd 8 rfl fun KK hKK=>?_
       go_simp
       try rw [hV2]
       refine hKK.out _ _ hsB (fun _=>?_)
       clear hKK KK z0 f0 z1 f1 z2 f2 z3 f3 z4 f4 z5 f5 z6 f6 z7 f7 z8 f8 z9 f9 z10 f10
       refine wpAnyH_done (by kernel_rfl) ?_ _
       go_wp2_with fail
       go_meet
       exact ⟨b7,b8,p1,c1,p2,c2,p3,c3,q1,e1,q2,e2,rfl,rfl,HF'.out⟩
    ·go_simp
     obtain ⟨b7,hbk⟩:∃ b,D0.heap.size=b:=⟨_,rfl⟩
     obtain ⟨D1,hD⟩:∃ D,D0.alloc (.cells #[.slice none 0 0,.slice none 0 0,.slice none 0 0] 72)=D:=⟨_,rfl⟩
     have bD:Below D0.heap.size D0 D1:=by rw [←hD];exact belAZ (Below.refl _ _) _
     have x7:W1.heap.size≤b7:=by rw [←hbk];exact hb0.size
     have hb1:=bel0Z hb0 bD
     have hs1:=(HCB.out D1 hb1).1
     have k7:D1.heap[b7]?=some (.cells #[.slice none 0 0,.slice none 0 0,.slice none 0 0] 72 (0,0)):=by rw [←hD,←hbk];exact alloc_getZ _ _
     rw [hD,hbk]
     clear hD hbk bD
     refine hKK.out _ _ hs1 (fun _=>?_)
     clear hKK KK hs0
     refine wpAnyH_ready (rs:=[1,6]) (by kernel_rfl) (by simp) ?_
     refine AllReadyH.cons rfl (fun KK hKK=>?_) (AllReadyH.cons rfl (fun KK hKK=>?_) AllReadyH.nil)
     ·go_simp
      refine (HRD.out D1 hb1).mono ?_
      rintro en D2 ⟨p1,c1,p2,c2,p3,c3,rfl,nk,bD⟩
      have hb2:=bel0Z hb1 bD
      have hs2:=(HCB.out D2 hb2).1
      replace k7:=keepZ bD k7
      clear bD
      go_simp
      refine hKK.out _ _ hs2 (fun _=>?_)
      clear hKK KK hs1
      refine wpAnyH_ready (rs:=[3,6]) (by kernel_rfl) (by simp) ?_
      refine AllReadyH.cons rfl (fun KK hKK=>?_) (AllReadyH.cons rfl (fun KK hKK=>?_) AllReadyH.nil)
      ·go_simp
       refine (HST.out D2).mono ?_
       rintro en D3 ⟨rfl,bD⟩
       have hb3:=bel0Z hb2 bD
       have hs3:=(HCB.out D3 hb3).1
       replace k7:=keepZ bD k7
       replace nk:=nk.below bD
       clear bD
       go_simp
       refine hKK.out _ _ hs3 (fun _=>?_)
       clear hKK KK hs2
       refine wpAnyH_ready (rs:=[4,6]) (by kernel_rfl) (by simp) ?_
       refine AllReadyH.cons rfl (fun KK hKK=>?_) (AllReadyH.cons rfl (fun KK hKK=>?_) AllReadyH.nil)
       ·go_simp
        refine (HAL.out D3).mono ?_
        rintro en D4 ⟨q1,e1,q2,e2,rfl,wl,bD⟩
        have hb4:=bel0Z hb3 bD
        have hs4:=(HCB.out D4 hb4).1
        replace k7:=keepZ bD k7
        replace nk:=nk.below bD
        clear bD
        go_simp
        refine hKK.out _ _ hs4 (fun _=>?_)
        clear hKK KK hs3
        refine rd 6 rfl fun KK hKK=>?_
        go_simp
        obtain ⟨b8,hbk⟩:∃ b,D4.heap.size=b:=⟨_,rfl⟩
        obtain ⟨D5,hD⟩:∃ D,D4.alloc (.cells #[.slice none 0 0,.slice none 0 0,.int .i64 0,.int .u64 0,.int .u64 0,.int .u64 0,.int .u64 0,.int .u64 0,.int .u64 0,.int .u64 0,.int .u64 0] 114)=D:=⟨_,rfl⟩
        have bD:Below D4.heap.size D4 D5:=by rw [←hD];exact belAZ (Below.refl _ _) _
        have x8:W1.heap.size≤b8:=by rw [←hbk];exact hb4.size
        have hb5:=bel0Z hb4 bD
        have hs5:=(HCB.out D5 hb5).1
        replace k7:=keepZ bD k7
        replace nk:=nk.below bD
        replace wl:=wl.below bD
        have k8:D5.heap[b8]?=some (.cells #[.slice none 0 0,.slice none 0 0,.int .i64 0,.int .u64 0,.int .u64 0,.int .u64 0,.int .u64 0,.int .u64 0,.int .u64 0,.int .u64 0,.int .u64 0] 114 (0,0)):=by rw [←hD,←hbk];exact alloc_getZ _ _
        rw [hD,hbk]
        clear hD hbk bD
        refine hKK.out _ _ hs5 (fun _=>?_)
        clear hKK KK hs4
        obtain ⟨V1,V2,hV1,hV2,hsA,hsB,m8,HF⟩:=HLF.out D5 b7 b8 p1 c1 p2 c2 p3 c3 q1 e1 q2 e2 hb5 x7 x8 k7 k8 nk wl
        have hz:=cellsZ k7
        have z0:D5.cell? ⟨b7,0,none⟩=some (.slice none 0 0):=by rw [hz.1];rfl
        have f0:=hz.2 0
        have z1:D5.cell? ⟨b7,1,none⟩=some (.slice none 0 0):=by rw [hz.1];rfl
        have f1:=hz.2 1
        have z2:D5.cell? ⟨b7,2,none⟩=some (.slice none 0 0):=by rw [hz.1];rfl
        have f2:=hz.2 2
        have HF':=hideL HF
        clear HF hz
        refine rd 7 rfl fun KK hKK=>?_
        go_simp
        try rw [hV1]
        refine hKK.out _ _ hsA (fun _=>?_)
        clear hKK KK z0 z1 z2 f0 f1 f2
        have hz:=cellsZ m8
        have z0:V1.cell? ⟨b8,0,none⟩=some (.slice none 0 0):=by rw [hz.1];rfl
        have f0:=hz.2 0
        have z1:V1.cell? ⟨b8,1,none⟩=some (.slice none 0 0):=by rw [hz.1];rfl
        have f1:=hz.2 1
        have z2:V1.cell? ⟨b8,2,none⟩=some (.int .i64 0):=by rw [hz.1];rfl
        have f2:=hz.2 2
        have z3:V1.cell? ⟨b8,3,none⟩=some (.int .u64 0):=by rw [hz.1];rfl
        have f3:=hz.2 3
        have z4:V1.cell? ⟨b8,4,none⟩=some (.int .u64 0):=by rw [hz.1];rfl
        have f4:=hz.2 4
        have z5:V1.cell? ⟨b8,5,none⟩=some (.int .u64 0):=by rw [hz.1];rfl
        have f5:=hz.2 5
        have z6:V1.cell? ⟨b8,6,none⟩=some (.int .u64 0):=by rw [hz.1];rfl
        have f6:=hz.2 6
        have z7:V1.cell? ⟨b8,7,none⟩=some (.int .u64 0):=by rw [hz.1];rfl
        have f7:=hz.2 7
        have z8:V1.cell? ⟨b8,8,none⟩=some (.int .u64 0):=by rw [hz.1];rfl
        have f8:=hz.2 8
        have z9:V1.cell? ⟨b8,9,none⟩=some (.int .u64 0):=by rw [hz.1];rfl
        have f9:=hz.2 9
        have z10:V1.cell? ⟨b8,10,none⟩=some (.int .u64 0):=by rw [hz.1];rfl
        have f10:=hz.2 10
        clear hz
        refine rd 8 rfl fun KK hKK=>?_
        go_simp
        try rw [hV2]
        refine hKK.out _ _ hsB (fun _=>?_)
        clear hKK KK z0 f0 z1 f1 z2 f2 z3 f3 z4 f4 z5 f5 z6 f6 z7 f7 z8 f8 z9 f9 z10 f10
        refine wpAnyH_done (by kernel_rfl) ?_ _
        go_wp2_with fail
        go_meet
        exact ⟨b7,b8,p1,c1,p2,c2,p3,c3,q1,e1,q2,e2,rfl,rfl,HF'.out⟩
       ·go_simp
        obtain ⟨b8,hbk⟩:∃ b,D3.heap.size=b:=⟨_,rfl⟩
        obtain ⟨D4,hD⟩:∃ D,D3.alloc (.cells #[.slice none 0 0,.slice none 0 0,.int .i64 0,.int .u64 0,.int .u64 0,.int .u64 0,.int .u64 0,.int .u64 0,.int .u64 0,.int .u64 0,.int .u64 0] 114)=D:=⟨_,rfl⟩
        have bD:Below D3.heap.size D3 D4:=by rw [←hD];exact belAZ (Below.refl _ _) _
        have x8:W1.heap.size≤b8:=by rw [←hbk];exact hb3.size
        have hb4:=bel0Z hb3 bD
        have hs4:=(HCB.out D4 hb4).1
        replace k7:=keepZ bD k7
        replace nk:=nk.below bD
        have k8:D4.heap[b8]?=some (.cells #[.slice none 0 0,.slice none 0 0,.int .i64 0,.int .u64 0,.int .u64 0,.int .u64 0,.int .u64 0,.int .u64 0,.int .u64 0,.int .u64 0,.int .u64 0] 114 (0,0)):=by rw [←hD,←hbk];exact alloc_getZ _ _
        rw [hD,hbk]
        clear hD hbk bD
        refine hKK.out _ _ hs4 (fun _=>?_)
        clear hKK KK hs3
        refine rd 4 rfl fun KK hKK=>?_
        go_simp
        refine (HAL.out D4).mono ?_
        rintro en D5 ⟨q1,e1,q2,e2,rfl,wl,bD⟩
        have hb5:=bel0Z hb4 bD
        have hs5:=(HCB.out D5 hb5).1
        replace k7:=keepZ bD k7
        replace k8:=keepZ bD k8
        replace nk:=nk.below bD
        clear bD
        go_simp
        refine hKK.out _ _ hs5 (fun _=>?_)
        clear hKK KK hs4
        obtain ⟨V1,V2,hV1,hV2,hsA,hsB,m8,HF⟩:=HLF.out D5 b7 b8 p1 c1 p2 c2 p3 c3 q1 e1 q2 e2 hb5 x7 x8 k7 k8 nk wl
        have hz:=cellsZ k7
        have z0:D5.cell? ⟨b7,0,none⟩=some (.slice none 0 0):=by rw [hz.1];rfl
        have f0:=hz.2 0
        have z1:D5.cell? ⟨b7,1,none⟩=some (.slice none 0 0):=by rw [hz.1];rfl
        have f1:=hz.2 1
        have z2:D5.cell? ⟨b7,2,none⟩=some (.slice none 0 0):=by rw [hz.1];rfl
        have f2:=hz.2 2
        have HF':=hideL HF
        clear HF hz
        refine rd 7 rfl fun KK hKK=>?_
        go_simp
        try rw [hV1]
        refine hKK.out _ _ hsA (fun _=>?_)
        clear hKK KK z0 z1 z2 f0 f1 f2
        have hz:=cellsZ m8
        have z0:V1.cell? ⟨b8,0,none⟩=some (.slice none 0 0):=by rw [hz.1];rfl
        have f0:=hz.2 0
        have z1:V1.cell? ⟨b8,1,none⟩=some (.slice none 0 0):=by rw [hz.1];rfl
        have f1:=hz.2 1
        have z2:V1.cell? ⟨b8,2,none⟩=some (.int .i64 0):=by rw [hz.1];rfl
        have f2:=hz.2 2
        have z3:V1.cell? ⟨b8,3,none⟩=some (.int .u64 0):=by rw [hz.1];rfl
        have f3:=hz.2 3
        have z4:V1.cell? ⟨b8,4,none⟩=some (.int .u64 0):=by rw [hz.1];rfl
        have f4:=hz.2 4
        have z5:V1.cell? ⟨b8,5,none⟩=some (.int .u64 0):=by rw [hz.1];rfl
        have f5:=hz.2 5
        have z6:V1.cell? ⟨b8,6,none⟩=some (.int .u64 0):=by rw [hz.1];rfl
        have f6:=hz.2 6
        have z7:V1.cell? ⟨b8,7,none⟩=some (.int .u64 0):=by rw [hz.1];rfl
        have f7:=hz.2 7
        have z8:V1.cell? ⟨b8,8,none⟩=some (.int .u64 0):=by rw [hz.1];rfl
        have f8:=hz.2 8
        have z9:V1.cell? ⟨b8,9,none⟩=some (.int .u64 0):=by rw [hz.1];rfl
        have f9:=hz.2 9
        have z10:V1.cell? ⟨b8,10,none⟩=some (.int .u64 0):=by rw [hz.1];rfl
        have f10:=hz.2 10
        clear hz
        refine rd 8 rfl fun KK hKK=>?_
        go_simp
        try rw [hV2]
        refine hKK.out _ _ hsB (fun _=>?_)
        clear hKK KK z0 f0 z1 f1 z2 f2 z3 f3 z4 f4 z5 f5 z6 f6 z7 f7 z8 f8 z9 f9 z10 f10
        refine wpAnyH_done (by kernel_rfl) ?_ _
        go_wp2_with fail
        go_meet
        exact ⟨b7,b8,p1,c1,p2,c2,p3,c3,q1,e1,q2,e2,rfl,rfl,HF'.out⟩
      ·go_simp
       obtain ⟨b8,hbk⟩:∃ b,D2.heap.size=b:=⟨_,rfl⟩
       obtain ⟨D3,hD⟩:∃ D,D2.alloc (.cells #[.slice none 0 0,.slice none 0 0,.int .i64 0,.int .u64 0,.int .u64 0,.int .u64 0,.int .u64 0,.int .u64 0,.int .u64 0,.int .u64 0,.int .u64 0] 114)=D:=⟨_,rfl⟩
       have bD:Below D2.heap.size D2 D3:=by rw [←hD];exact belAZ (Below.refl _ _) _
       have x8:W1.heap.size≤b8:=by rw [←hbk];exact hb2.size
       have hb3:=bel0Z hb2 bD
       have hs3:=(HCB.out D3 hb3).1
       replace k7:=keepZ bD k7
       replace nk:=nk.below bD
       have k8:D3.heap[b8]?=some (.cells #[.slice none 0 0,.slice none 0 0,.int .i64 0,.int .u64 0,.int .u64 0,.int .u64 0,.int .u64 0,.int .u64 0,.int .u64 0,.int .u64 0,.int .u64 0] 114 (0,0)):=by rw [←hD,←hbk];exact alloc_getZ _ _
       rw [hD,hbk]
       clear hD hbk bD
       refine hKK.out _ _ hs3 (fun _=>?_)
       clear hKK KK hs2
       refine rd 3 rfl fun KK hKK=>?_
       go_simp
       refine (HST.out D3).mono ?_
       rintro en D4 ⟨rfl,bD⟩
       have hb4:=bel0Z hb3 bD
       have hs4:=(HCB.out D4 hb4).1
       replace k7:=keepZ bD k7
       replace k8:=keepZ bD k8
       replace nk:=nk.below bD
       clear bD
       go_simp
       refine hKK.out _ _ hs4 (fun _=>?_)
       clear hKK KK hs3
       refine rd 4 rfl fun KK hKK=>?_
       go_simp
       refine (HAL.out D4).mono ?_
       rintro en D5 ⟨q1,e1,q2,e2,rfl,wl,bD⟩
       have hb5:=bel0Z hb4 bD
       have hs5:=(HCB.out D5 hb5).1
       replace k7:=keepZ bD k7
       replace k8:=keepZ bD k8
       replace nk:=nk.below bD
       clear bD
       go_simp
       refine hKK.out _ _ hs5 (fun _=>?_)
       clear hKK KK hs4
       obtain ⟨V1,V2,hV1,hV2,hsA,hsB,m8,HF⟩:=HLF.out D5 b7 b8 p1 c1 p2 c2 p3 c3 q1 e1 q2 e2 hb5 x7 x8 k7 k8 nk wl
       have hz:=cellsZ k7
       have z0:D5.cell? ⟨b7,0,none⟩=some (.slice none 0 0):=by rw [hz.1];rfl
       have f0:=hz.2 0
       have z1:D5.cell? ⟨b7,1,none⟩=some (.slice none 0 0):=by rw [hz.1];rfl
       have f1:=hz.2 1
       have z2:D5.cell? ⟨b7,2,none⟩=some (.slice none 0 0):=by rw [hz.1];rfl
       have f2:=hz.2 2
       have HF':=hideL HF
       clear HF hz
       refine rd 7 rfl fun KK hKK=>?_
       go_simp
       try rw [hV1]
       refine hKK.out _ _ hsA (fun _=>?_)
       clear hKK KK z0 z1 z2 f0 f1 f2
       have hz:=cellsZ m8
       have z0:V1.cell? ⟨b8,0,none⟩=some (.slice none 0 0):=by rw [hz.1];rfl
       have f0:=hz.2 0
       have z1:V1.cell? ⟨b8,1,none⟩=some (.slice none 0 0):=by rw [hz.1];rfl
       have f1:=hz.2 1
       have z2:V1.cell? ⟨b8,2,none⟩=some (.int .i64 0):=by rw [hz.1];rfl
       have f2:=hz.2 2
       have z3:V1.cell? ⟨b8,3,none⟩=some (.int .u64 0):=by rw [hz.1];rfl
       have f3:=hz.2 3
       have z4:V1.cell? ⟨b8,4,none⟩=some (.int .u64 0):=by rw [hz.1];rfl
       have f4:=hz.2 4
       have z5:V1.cell? ⟨b8,5,none⟩=some (.int .u64 0):=by rw [hz.1];rfl
       have f5:=hz.2 5
       have z6:V1.cell? ⟨b8,6,none⟩=some (.int .u64 0):=by rw [hz.1];rfl
       have f6:=hz.2 6
       have z7:V1.cell? ⟨b8,7,none⟩=some (.int .u64 0):=by rw [hz.1];rfl
       have f7:=hz.2 7
       have z8:V1.cell? ⟨b8,8,none⟩=some (.int .u64 0):=by rw [hz.1];rfl
       have f8:=hz.2 8
       have z9:V1.cell? ⟨b8,9,none⟩=some (.int .u64 0):=by rw [hz.1];rfl
       have f9:=hz.2 9
       have z10:V1.cell? ⟨b8,10,none⟩=some (.int .u64 0):=by rw [hz.1];rfl
       have f10:=hz.2 10
       clear hz
       refine rd 8 rfl fun KK hKK=>?_
       go_simp
       try rw [hV2]
       refine hKK.out _ _ hsB (fun _=>?_)
       clear hKK KK z0 f0 z1 f1 z2 f2 z3 f3 z4 f4 z5 f5 z6 f6 z7 f7 z8 f8 z9 f9 z10 f10
       refine wpAnyH_done (by kernel_rfl) ?_ _
       go_wp2_with fail
       go_meet
       exact ⟨b7,b8,p1,c1,p2,c2,p3,c3,q1,e1,q2,e2,rfl,rfl,HF'.out⟩
     ·go_simp
      obtain ⟨b8,hbk⟩:∃ b,D1.heap.size=b:=⟨_,rfl⟩
      obtain ⟨D2,hD⟩:∃ D,D1.alloc (.cells #[.slice none 0 0,.slice none 0 0,.int .i64 0,.int .u64 0,.int .u64 0,.int .u64 0,.int .u64 0,.int .u64 0,.int .u64 0,.int .u64 0,.int .u64 0] 114)=D:=⟨_,rfl⟩
      have bD:Below D1.heap.size D1 D2:=by rw [←hD];exact belAZ (Below.refl _ _) _
      have x8:W1.heap.size≤b8:=by rw [←hbk];exact hb1.size
      have hb2:=bel0Z hb1 bD
      have hs2:=(HCB.out D2 hb2).1
      replace k7:=keepZ bD k7
      have k8:D2.heap[b8]?=some (.cells #[.slice none 0 0,.slice none 0 0,.int .i64 0,.int .u64 0,.int .u64 0,.int .u64 0,.int .u64 0,.int .u64 0,.int .u64 0,.int .u64 0,.int .u64 0] 114 (0,0)):=by rw [←hD,←hbk];exact alloc_getZ _ _
      rw [hD,hbk]
      clear hD hbk bD
      refine hKK.out _ _ hs2 (fun _=>?_)
      clear hKK KK hs1
      refine rd 1 rfl fun KK hKK=>?_
      go_simp
      refine (HRD.out D2 hb2).mono ?_
      rintro en D3 ⟨p1,c1,p2,c2,p3,c3,rfl,nk,bD⟩
      have hb3:=bel0Z hb2 bD
      have hs3:=(HCB.out D3 hb3).1
      replace k7:=keepZ bD k7
      replace k8:=keepZ bD k8
      clear bD
      go_simp
      refine hKK.out _ _ hs3 (fun _=>?_)
      clear hKK KK hs2
      refine rd 3 rfl fun KK hKK=>?_
      go_simp
      refine (HST.out D3).mono ?_
      rintro en D4 ⟨rfl,bD⟩
      have hb4:=bel0Z hb3 bD
      have hs4:=(HCB.out D4 hb4).1
      replace k7:=keepZ bD k7
      replace k8:=keepZ bD k8
      replace nk:=nk.below bD
      clear bD
      go_simp
      refine hKK.out _ _ hs4 (fun _=>?_)
      clear hKK KK hs3
      refine rd 4 rfl fun KK hKK=>?_
      go_simp
      refine (HAL.out D4).mono ?_
      rintro en D5 ⟨q1,e1,q2,e2,rfl,wl,bD⟩
      have hb5:=bel0Z hb4 bD
      have hs5:=(HCB.out D5 hb5).1
      replace k7:=keepZ bD k7
      replace k8:=keepZ bD k8
      replace nk:=nk.below bD
      clear bD
      go_simp
      refine hKK.out _ _ hs5 (fun _=>?_)
      clear hKK KK hs4
      obtain ⟨V1,V2,hV1,hV2,hsA,hsB,m8,HF⟩:=HLF.out D5 b7 b8 p1 c1 p2 c2 p3 c3 q1 e1 q2 e2 hb5 x7 x8 k7 k8 nk wl
      have hz:=cellsZ k7
      have z0:D5.cell? ⟨b7,0,none⟩=some (.slice none 0 0):=by rw [hz.1];rfl
      have f0:=hz.2 0
      have z1:D5.cell? ⟨b7,1,none⟩=some (.slice none 0 0):=by rw [hz.1];rfl
      have f1:=hz.2 1
      have z2:D5.cell? ⟨b7,2,none⟩=some (.slice none 0 0):=by rw [hz.1];rfl
      have f2:=hz.2 2
      have HF':=hideL HF
      clear HF hz
      refine rd 7 rfl fun KK hKK=>?_
      go_simp
      try rw [hV1]
      refine hKK.out _ _ hsA (fun _=>?_)
      clear hKK KK z0 z1 z2 f0 f1 f2
      have hz:=cellsZ m8
      have z0:V1.cell? ⟨b8,0,none⟩=some (.slice none 0 0):=by rw [hz.1];rfl
      have f0:=hz.2 0
      have z1:V1.cell? ⟨b8,1,none⟩=some (.slice none 0 0):=by rw [hz.1];rfl
      have f1:=hz.2 1
      have z2:V1.cell? ⟨b8,2,none⟩=some (.int .i64 0):=by rw [hz.1];rfl
      have f2:=hz.2 2
      have z3:V1.cell? ⟨b8,3,none⟩=some (.int .u64 0):=by rw [hz.1];rfl
      have f3:=hz.2 3
      have z4:V1.cell? ⟨b8,4,none⟩=some (.int .u64 0):=by rw [hz.1];rfl
      have f4:=hz.2 4
      have z5:V1.cell? ⟨b8,5,none⟩=some (.int .u64 0):=by rw [hz.1];rfl
      have f5:=hz.2 5
      have z6:V1.cell? ⟨b8,6,none⟩=some (.int .u64 0):=by rw [hz.1];rfl
      have f6:=hz.2 6
      have z7:V1.cell? ⟨b8,7,none⟩=some (.int .u64 0):=by rw [hz.1];rfl
      have f7:=hz.2 7
      have z8:V1.cell? ⟨b8,8,none⟩=some (.int .u64 0):=by rw [hz.1];rfl
      have f8:=hz.2 8
      have z9:V1.cell? ⟨b8,9,none⟩=some (.int .u64 0):=by rw [hz.1];rfl
      have f9:=hz.2 9
      have z10:V1.cell? ⟨b8,10,none⟩=some (.int .u64 0):=by rw [hz.1];rfl
      have f10:=hz.2 10
      clear hz
      refine rd 8 rfl fun KK hKK=>?_
      go_simp
      try rw [hV2]
      refine hKK.out _ _ hsB (fun _=>?_)
      clear hKK KK z0 f0 z1 f1 z2 f2 z3 f3 z4 f4 z5 f5 z6 f6 z7 f7 z8 f8 z9 f9 z10 f10
      refine wpAnyH_done (by kernel_rfl) ?_ _
      go_wp2_with fail
      go_meet
      exact ⟨b7,b8,p1,c1,p2,c2,p3,c3,q1,e1,q2,e2,rfl,rfl,HF'.out⟩
    ·go_simp
     obtain ⟨b8,hbk⟩:∃ b,D0.heap.size=b:=⟨_,rfl⟩
     obtain ⟨D1,hD⟩:∃ D,D0.alloc (.cells #[.slice none 0 0,.slice none 0 0,.int .i64 0,.int .u64 0,.int .u64 0,.int .u64 0,.int .u64 0,.int .u64 0,.int .u64 0,.int .u64 0,.int .u64 0] 114)=D:=⟨_,rfl⟩
     have bD:Below D0.heap.size D0 D1:=by rw [←hD];exact belAZ (Below.refl _ _) _
     have x8:W1.heap.size≤b8:=by rw [←hbk];exact hb0.size
     have hb1:=bel0Z hb0 bD
     have hs1:=(HCB.out D1 hb1).1
     have k8:D1.heap[b8]?=some (.cells #[.slice none 0 0,.slice none 0 0,.int .i64 0,.int .u64 0,.int .u64 0,.int .u64 0,.int .u64 0,.int .u64 0,.int .u64 0,.int .u64 0,.int .u64 0] 114 (0,0)):=by rw [←hD,←hbk];exact alloc_getZ _ _
     rw [hD,hbk]
     clear hD hbk bD
     refine hKK.out _ _ hs1 (fun _=>?_)
     clear hKK KK hs0
     refine wpAnyH_ready (rs:=[1,5]) (by kernel_rfl) (by simp) ?_
     refine AllReadyH.cons rfl (fun KK hKK=>?_) (AllReadyH.cons rfl (fun KK hKK=>?_) AllReadyH.nil)
     ·go_simp
      refine (HRD.out D1 hb1).mono ?_
      rintro en D2 ⟨p1,c1,p2,c2,p3,c3,rfl,nk,bD⟩
      have hb2:=bel0Z hb1 bD
      have hs2:=(HCB.out D2 hb2).1
      replace k8:=keepZ bD k8
      clear bD
      go_simp
      refine hKK.out _ _ hs2 (fun _=>?_)
      clear hKK KK hs1
      refine wpAnyH_ready (rs:=[3,5]) (by kernel_rfl) (by simp) ?_
      refine AllReadyH.cons rfl (fun KK hKK=>?_) (AllReadyH.cons rfl (fun KK hKK=>?_) AllReadyH.nil)
      ·go_simp
       refine (HST.out D2).mono ?_
       rintro en D3 ⟨rfl,bD⟩
       have hb3:=bel0Z hb2 bD
       have hs3:=(HCB.out D3 hb3).1
       replace k8:=keepZ bD k8
       replace nk:=nk.below bD
       clear bD
       go_simp
       refine hKK.out _ _ hs3 (fun _=>?_)
       clear hKK KK hs2
       refine wpAnyH_ready (rs:=[4,5]) (by kernel_rfl) (by simp) ?_
       refine AllReadyH.cons rfl (fun KK hKK=>?_) (AllReadyH.cons rfl (fun KK hKK=>?_) AllReadyH.nil)
       ·go_simp
        refine (HAL.out D3).mono ?_
        rintro en D4 ⟨q1,e1,q2,e2,rfl,wl,bD⟩
        have hb4:=bel0Z hb3 bD
        have hs4:=(HCB.out D4 hb4).1
        replace k8:=keepZ bD k8
        replace nk:=nk.below bD
        clear bD
        go_simp
        refine hKK.out _ _ hs4 (fun _=>?_)
        clear hKK KK hs3
        refine rd 5 rfl fun KK hKK=>?_
        go_simp
        obtain ⟨b7,hbk⟩:∃ b,D4.heap.size=b:=⟨_,rfl⟩
        obtain ⟨D5,hD⟩:∃ D,D4.alloc (.cells #[.slice none 0 0,.slice none 0 0,.slice none 0 0] 72)=D:=⟨_,rfl⟩
        have bD:Below D4.heap.size D4 D5:=by rw [←hD];exact belAZ (Below.refl _ _) _
        have x7:W1.heap.size≤b7:=by rw [←hbk];exact hb4.size
        have hb5:=bel0Z hb4 bD
        have hs5:=(HCB.out D5 hb5).1
        replace k8:=keepZ bD k8
        replace nk:=nk.below bD
        replace wl:=wl.below bD
        have k7:D5.heap[b7]?=some (.cells #[.slice none 0 0,.slice none 0 0,.slice none 0 0] 72 (0,0)):=by rw [←hD,←hbk];exact alloc_getZ _ _
        rw [hD,hbk]
        clear hD hbk bD
        refine hKK.out _ _ hs5 (fun _=>?_)
        clear hKK KK hs4
        obtain ⟨V1,V2,hV1,hV2,hsA,hsB,m8,HF⟩:=HLF.out D5 b7 b8 p1 c1 p2 c2 p3 c3 q1 e1 q2 e2 hb5 x7 x8 k7 k8 nk wl
        have hz:=cellsZ k7
        have z0:D5.cell? ⟨b7,0,none⟩=some (.slice none 0 0):=by rw [hz.1];rfl
        have f0:=hz.2 0
        have z1:D5.cell? ⟨b7,1,none⟩=some (.slice none 0 0):=by rw [hz.1];rfl
        have f1:=hz.2 1
        have z2:D5.cell? ⟨b7,2,none⟩=some (.slice none 0 0):=by rw [hz.1];rfl
        have f2:=hz.2 2
        have HF':=hideL HF
        clear HF hz
        refine rd 7 rfl fun KK hKK=>?_
        go_simp
        try rw [hV1]
        refine hKK.out _ _ hsA (fun _=>?_)
        clear hKK KK z0 z1 z2 f0 f1 f2
        have hz:=cellsZ m8
        have z0:V1.cell? ⟨b8,0,none⟩=some (.slice none 0 0):=by rw [hz.1];rfl
        have f0:=hz.2 0
        have z1:V1.cell? ⟨b8,1,none⟩=some (.slice none 0 0):=by rw [hz.1];rfl
        have f1:=hz.2 1
        have z2:V1.cell? ⟨b8,2,none⟩=some (.int .i64 0):=by rw [hz.1];rfl
        have f2:=hz.2 2
        have z3:V1.cell? ⟨b8,3,none⟩=some (.int .u64 0):=by rw [hz.1];rfl
        have f3:=hz.2 3
        have z4:V1.cell? ⟨b8,4,none⟩=some (.int .u64 0):=by rw [hz.1];rfl
        have f4:=hz.2 4
        have z5:V1.cell? ⟨b8,5,none⟩=some (.int .u64 0):=by rw [hz.1];rfl
        have f5:=hz.2 5
        have z6:V1.cell? ⟨b8,6,none⟩=some (.int .u64 0):=by rw [hz.1];rfl
        have f6:=hz.2 6
        have z7:V1.cell? ⟨b8,7,none⟩=some (.int .u64 0):=by rw [hz.1];rfl
        have f7:=hz.2 7
        have z8:V1.cell? ⟨b8,8,none⟩=some (.int .u64 0):=by rw [hz.1];rfl
        have f8:=hz.2 8
        have z9:V1.cell? ⟨b8,9,none⟩=some (.int .u64 0):=by rw [hz.1];rfl
        have f9:=hz.2 9
        have z10:V1.cell? ⟨b8,10,none⟩=some (.int .u64 0):=by rw [hz.1];rfl
        have f10:=hz.2 10
        clear hz
        refine rd 8 rfl fun KK hKK=>?_
        go_simp
        try rw [hV2]
        refine hKK.out _ _ hsB (fun _=>?_)
        clear hKK KK z0 f0 z1 f1 z2 f2 z3 f3 z4 f4 z5 f5 z6 f6 z7 f7 z8 f8 z9 f9 z10 f10
        refine wpAnyH_done (by kernel_rfl) ?_ _
        go_wp2_with fail
        go_meet
        exact ⟨b7,b8,p1,c1,p2,c2,p3,c3,q1,e1,q2,e2,rfl,rfl,HF'.out⟩
       ·go_simp
        obtain ⟨b7,hbk⟩:∃ b,D3.heap.size=b:=⟨_,rfl⟩
        obtain ⟨D4,hD⟩:∃ D,D3.alloc (.cells #[.slice none 0 0,.slice none 0 0,.slice none 0 0] 72)=D:=⟨_,rfl⟩
        have bD:Below D3.heap.size D3 D4:=by rw [←hD];exact belAZ (Below.refl _ _) _
        have x7:W1.heap.size≤b7:=by rw [←hbk];exact hb3.size
        have hb4:=bel0Z hb3 bD
        have hs4:=(HCB.out D4 hb4).1
        replace k8:=keepZ bD k8
        replace nk:=nk.below bD
        have k7:D4.heap[b7]?=some (.cells #[.slice none 0 0,.slice none 0 0,.slice none 0 0] 72 (0,0)):=by rw [←hD,←hbk];exact alloc_getZ _ _
        rw [hD,hbk]
        clear hD hbk bD
        refine hKK.out _ _ hs4 (fun _=>?_)
        clear hKK KK hs3
        refine rd 4 rfl fun KK hKK=>?_
        go_simp
        refine (HAL.out D4).mono ?_
        rintro en D5 ⟨q1,e1,q2,e2,rfl,wl,bD⟩
        have hb5:=bel0Z hb4 bD
        have hs5:=(HCB.out D5 hb5).1
        replace k7:=keepZ bD k7
        replace k8:=keepZ bD k8
        replace nk:=nk.below bD
        clear bD
        go_simp
        refine hKK.out _ _ hs5 (fun _=>?_)
        clear hKK KK hs4
        obtain ⟨V1,V2,hV1,hV2,hsA,hsB,m8,HF⟩:=HLF.out D5 b7 b8 p1 c1 p2 c2 p3 c3 q1 e1 q2 e2 hb5 x7 x8 k7 k8 nk wl
        have hz:=cellsZ k7
        have z0:D5.cell? ⟨b7,0,none⟩=some (.slice none 0 0):=by rw [hz.1];rfl
        have f0:=hz.2 0
        have z1:D5.cell? ⟨b7,1,none⟩=some (.slice none 0 0):=by rw [hz.1];rfl
        have f1:=hz.2 1
        have z2:D5.cell? ⟨b7,2,none⟩=some (.slice none 0 0):=by rw [hz.1];rfl
        have f2:=hz.2 2
        have HF':=hideL HF
        clear HF hz
        refine rd 7 rfl fun KK hKK=>?_
        go_simp
        try rw [hV1]
        refine hKK.out _ _ hsA (fun _=>?_)
        clear hKK KK z0 z1 z2 f0 f1 f2
        have hz:=cellsZ m8
        have z0:V1.cell? ⟨b8,0,none⟩=some (.slice none 0 0):=by rw [hz.1];rfl
        have f0:=hz.2 0
        have z1:V1.cell? ⟨b8,1,none⟩=some (.slice none 0 0):=by rw [hz.1];rfl
        have f1:=hz.2 1
        have z2:V1.cell? ⟨b8,2,none⟩=some (.int .i64 0):=by rw [hz.1];rfl
        have f2:=hz.2 2
        have z3:V1.cell? ⟨b8,3,none⟩=some (.int .u64 0):=by rw [hz.1];rfl
        have f3:=hz.2 3
        have z4:V1.cell? ⟨b8,4,none⟩=some (.int .u64 0):=by rw [hz.1];rfl
        have f4:=hz.2 4
        have z5:V1.cell? ⟨b8,5,none⟩=some (.int .u64 0):=by rw [hz.1];rfl
        have f5:=hz.2 5
        have z6:V1.cell? ⟨b8,6,none⟩=some (.int .u64 0):=by rw [hz.1];rfl
        have f6:=hz.2 6
        have z7:V1.cell? ⟨b8,7,none⟩=some (.int .u64 0):=by rw [hz.1];rfl
        have f7:=hz.2 7
        have z8:V1.cell? ⟨b8,8,none⟩=some (.int .u64 0):=by rw [hz.1];rfl
        have f8:=hz.2 8
        have z9:V1.cell? ⟨b8,9,none⟩=some (.int .u64 0):=by rw [hz.1];rfl
        have f9:=hz.2 9
        have z10:V1.cell? ⟨b8,10,none⟩=some (.int .u64 0):=by rw [hz.1];rfl
        have f10:=hz.2 10
        clear hz
        refine rd 8 rfl fun KK hKK=>?_
        go_simp
        try rw [hV2]
        refine hKK.out _ _ hsB (fun _=>?_)
        clear hKK KK z0 f0 z1 f1 z2 f2 z3 f3 z4 f4 z5 f5 z6 f6 z7 f7 z8 f8 z9 f9 z10 f10
        refine wpAnyH_done (by kernel_rfl) ?_ _
        go_wp2_with fail
        go_meet
        exact ⟨b7,b8,p1,c1,p2,c2,p3,c3,q1,e1,q2,e2,rfl,rfl,HF'.out⟩
      ·go_simp
       obtain ⟨b7,hbk⟩:∃ b,D2.heap.size=b:=⟨_,rfl⟩
       obtain ⟨D3,hD⟩:∃ D,D2.alloc (.cells #[.slice none 0 0,.slice none 0 0,.slice none 0 0] 72)=D:=⟨_,rfl⟩
       have bD:Below D2.heap.size D2 D3:=by rw [←hD];exact belAZ (Below.refl _ _) _
       have x7:W1.heap.size≤b7:=by rw [←hbk];exact hb2.size
       have hb3:=bel0Z hb2 bD
       have hs3:=(HCB.out D3 hb3).1
       replace k8:=keepZ bD k8
       replace nk:=nk.below bD
       have k7:D3.heap[b7]?=some (.cells #[.slice none 0 0,.slice none 0 0,.slice none 0 0] 72 (0,0)):=by rw [←hD,←hbk];exact alloc_getZ _ _
       rw [hD,hbk]
       clear hD hbk bD
       refine hKK.out _ _ hs3 (fun _=>?_)
       clear hKK KK hs2
       refine rd 3 rfl fun KK hKK=>?_
       go_simp
       refine (HST.out D3).mono ?_
       rintro en D4 ⟨rfl,bD⟩
       have hb4:=bel0Z hb3 bD
       have hs4:=(HCB.out D4 hb4).1
       replace k7:=keepZ bD k7
       replace k8:=keepZ bD k8
       replace nk:=nk.below bD
       clear bD
       go_simp
       refine hKK.out _ _ hs4 (fun _=>?_)
       clear hKK KK hs3
       refine rd 4 rfl fun KK hKK=>?_
       go_simp
       refine (HAL.out D4).mono ?_
       rintro en D5 ⟨q1,e1,q2,e2,rfl,wl,bD⟩
       have hb5:=bel0Z hb4 bD
       have hs5:=(HCB.out D5 hb5).1
       replace k7:=keepZ bD k7
       replace k8:=keepZ bD k8
       replace nk:=nk.below bD
       clear bD
       go_simp
       refine hKK.out _ _ hs5 (fun _=>?_)
       clear hKK KK hs4
       obtain ⟨V1,V2,hV1,hV2,hsA,hsB,m8,HF⟩:=HLF.out D5 b7 b8 p1 c1 p2 c2 p3 c3 q1 e1 q2 e2 hb5 x7 x8 k7 k8 nk wl
       have hz:=cellsZ k7
       have z0:D5.cell? ⟨b7,0,none⟩=some (.slice none 0 0):=by rw [hz.1];rfl
       have f0:=hz.2 0
       have z1:D5.cell? ⟨b7,1,none⟩=some (.slice none 0 0):=by rw [hz.1];rfl
       have f1:=hz.2 1
       have z2:D5.cell? ⟨b7,2,none⟩=some (.slice none 0 0):=by rw [hz.1];rfl
       have f2:=hz.2 2
       have HF':=hideL HF
       clear HF hz
       refine rd 7 rfl fun KK hKK=>?_
       go_simp
       try rw [hV1]
       refine hKK.out _ _ hsA (fun _=>?_)
       clear hKK KK z0 z1 z2 f0 f1 f2
       have hz:=cellsZ m8
       have z0:V1.cell? ⟨b8,0,none⟩=some (.slice none 0 0):=by rw [hz.1];rfl
       have f0:=hz.2 0
       have z1:V1.cell? ⟨b8,1,none⟩=some (.slice none 0 0):=by rw [hz.1];rfl
       have f1:=hz.2 1
       have z2:V1.cell? ⟨b8,2,none⟩=some (.int .i64 0):=by rw [hz.1];rfl
       have f2:=hz.2 2
       have z3:V1.cell? ⟨b8,3,none⟩=some (.int .u64 0):=by rw [hz.1];rfl
       have f3:=hz.2 3
       have z4:V1.cell? ⟨b8,4,none⟩=some (.int .u64 0):=by rw [hz.1];rfl
       have f4:=hz.2 4
       have z5:V1.cell? ⟨b8,5,none⟩=some (.int .u64 0):=by rw [hz.1];rfl
       have f5:=hz.2 5
       have z6:V1.cell? ⟨b8,6,none⟩=some (.int .u64 0):=by rw [hz.1];rfl
       have f6:=hz.2 6
       have z7:V1.cell? ⟨b8,7,none⟩=some (.int .u64 0):=by rw [hz.1];rfl
       have f7:=hz.2 7
       have z8:V1.cell? ⟨b8,8,none⟩=some (.int .u64 0):=by rw [hz.1];rfl
       have f8:=hz.2 8
       have z9:V1.cell? ⟨b8,9,none⟩=some (.int .u64 0):=by rw [hz.1];rfl
       have f9:=hz.2 9
       have z10:V1.cell? ⟨b8,10,none⟩=some (.int .u64 0):=by rw [hz.1];rfl
       have f10:=hz.2 10
       clear hz
       refine rd 8 rfl fun KK hKK=>?_
       go_simp
       try rw [hV2]
       refine hKK.out _ _ hsB (fun _=>?_)
       clear hKK KK z0 f0 z1 f1 z2 f2 z3 f3 z4 f4 z5 f5 z6 f6 z7 f7 z8 f8 z9 f9 z10 f10
       refine wpAnyH_done (by kernel_rfl) ?_ _
       go_wp2_with fail
       go_meet
       exact ⟨b7,b8,p1,c1,p2,c2,p3,c3,q1,e1,q2,e2,rfl,rfl,HF'.out⟩
     ·go_simp
      obtain ⟨b7,hbk⟩:∃ b,D1.heap.size=b:=⟨_,rfl⟩
      obtain ⟨D2,hD⟩:∃ D,D1.alloc (.cells #[.slice none 0 0,.slice none 0 0,.slice none 0 0] 72)=D:=⟨_,rfl⟩
      have bD:Below D1.heap.size D1 D2:=by rw [←hD];exact belAZ (Below.refl _ _) _
      have x7:W1.heap.size≤b7:=by rw [←hbk];exact hb1.size
      have hb2:=bel0Z hb1 bD
      have hs2:=(HCB.out D2 hb2).1
      replace k8:=keepZ bD k8
      have k7:D2.heap[b7]?=some (.cells #[.slice none 0 0,.slice none 0 0,.slice none 0 0] 72 (0,0)):=by rw [←hD,←hbk];exact alloc_getZ _ _
      rw [hD,hbk]
      clear hD hbk bD
      refine hKK.out _ _ hs2 (fun _=>?_)
      clear hKK KK hs1
      refine rd 1 rfl fun KK hKK=>?_
      go_simp
      refine (HRD.out D2 hb2).mono ?_
      rintro en D3 ⟨p1,c1,p2,c2,p3,c3,rfl,nk,bD⟩
      have hb3:=bel0Z hb2 bD
      have hs3:=(HCB.out D3 hb3).1
      replace k7:=keepZ bD k7
      replace k8:=keepZ bD k8
      clear bD
      go_simp
      refine hKK.out _ _ hs3 (fun _=>?_)
      clear hKK KK hs2
      refine rd 3 rfl fun KK hKK=>?_
      go_simp
      refine (HST.out D3).mono ?_
      rintro en D4 ⟨rfl,bD⟩
      have hb4:=bel0Z hb3 bD
      have hs4:=(HCB.out D4 hb4).1
      replace k7:=keepZ bD k7
      replace k8:=keepZ bD k8
      replace nk:=nk.below bD
      clear bD
      go_simp
      refine hKK.out _ _ hs4 (fun _=>?_)
      clear hKK KK hs3
      refine rd 4 rfl fun KK hKK=>?_
      go_simp
      refine (HAL.out D4).mono ?_
      rintro en D5 ⟨q1,e1,q2,e2,rfl,wl,bD⟩
      have hb5:=bel0Z hb4 bD
      have hs5:=(HCB.out D5 hb5).1
      replace k7:=keepZ bD k7
      replace k8:=keepZ bD k8
      replace nk:=nk.below bD
      clear bD
      go_simp
      refine hKK.out _ _ hs5 (fun _=>?_)
      clear hKK KK hs4
      obtain ⟨V1,V2,hV1,hV2,hsA,hsB,m8,HF⟩:=HLF.out D5 b7 b8 p1 c1 p2 c2 p3 c3 q1 e1 q2 e2 hb5 x7 x8 k7 k8 nk wl
      have hz:=cellsZ k7
      have z0:D5.cell? ⟨b7,0,none⟩=some (.slice none 0 0):=by rw [hz.1];rfl
      have f0:=hz.2 0
      have z1:D5.cell? ⟨b7,1,none⟩=some (.slice none 0 0):=by rw [hz.1];rfl
      have f1:=hz.2 1
      have z2:D5.cell? ⟨b7,2,none⟩=some (.slice none 0 0):=by rw [hz.1];rfl
      have f2:=hz.2 2
      have HF':=hideL HF
      clear HF hz
      refine rd 7 rfl fun KK hKK=>?_
      go_simp
      try rw [hV1]
      refine hKK.out _ _ hsA (fun _=>?_)
      clear hKK KK z0 z1 z2 f0 f1 f2
      have hz:=cellsZ m8
      have z0:V1.cell? ⟨b8,0,none⟩=some (.slice none 0 0):=by rw [hz.1];rfl
      have f0:=hz.2 0
      have z1:V1.cell? ⟨b8,1,none⟩=some (.slice none 0 0):=by rw [hz.1];rfl
      have f1:=hz.2 1
      have z2:V1.cell? ⟨b8,2,none⟩=some (.int .i64 0):=by rw [hz.1];rfl
      have f2:=hz.2 2
      have z3:V1.cell? ⟨b8,3,none⟩=some (.int .u64 0):=by rw [hz.1];rfl
      have f3:=hz.2 3
      have z4:V1.cell? ⟨b8,4,none⟩=some (.int .u64 0):=by rw [hz.1];rfl
      have f4:=hz.2 4
      have z5:V1.cell? ⟨b8,5,none⟩=some (.int .u64 0):=by rw [hz.1];rfl
      have f5:=hz.2 5
      have z6:V1.cell? ⟨b8,6,none⟩=some (.int .u64 0):=by rw [hz.1];rfl
      have f6:=hz.2 6
      have z7:V1.cell? ⟨b8,7,none⟩=some (.int .u64 0):=by rw [hz.1];rfl
      have f7:=hz.2 7
      have z8:V1.cell? ⟨b8,8,none⟩=some (.int .u64 0):=by rw [hz.1];rfl
      have f8:=hz.2 8
      have z9:V1.cell? ⟨b8,9,none⟩=some (.int .u64 0):=by rw [hz.1];rfl
      have f9:=hz.2 9
      have z10:V1.cell? ⟨b8,10,none⟩=some (.int .u64 0):=by rw [hz.1];rfl
      have f10:=hz.2 10
      clear hz
      refine rd 8 rfl fun KK hKK=>?_
      go_simp
      try rw [hV2]
      refine hKK.out _ _ hsB (fun _=>?_)
      clear hKK KK z0 f0 z1 f1 z2 f2 z3 f3 z4 f4 z5 f5 z6 f6 z7 f7 z8 f8 z9 f9 z10 f10
      refine wpAnyH_done (by kernel_rfl) ?_ _
      go_wp2_with fail
      go_meet
      exact ⟨b7,b8,p1,c1,p2,c2,p3,c3,q1,e1,q2,e2,rfl,rfl,HF'.out⟩
   case rest=>
    obtain ⟨b7,b8,p1,c1,p2,c2,p3,c3,q1,e1,q2,e2,rfl,rfl,HF⟩:=hcut
    go_wp2_with fail
    go_ret
    obtain ⟨z1,z2,z3,z4,z5,z6⟩:=HF.out
    refine ⟨fun _=>⟨b7,b8,b5,p1,c1,p2,c2,p3,c3,⟨q1,e1,q2,e2⟩,rfl,z1,?_,z3,z4,z5⟩,fun hn=>absurd HPH.out hn,z6⟩
    rw [HWY.out]
    exact z2
  ·have HHN:=hideL (fun U=>hops_no hops U hH)
   have HPH:Hid (¬((NetP n∧StP n (p,h))∧HOK hops)):=fun hn=>hH hn.2
   clear HSO hP hH
   go_wp2_with fail
   refine (HCK.out).mono ?_
   rintro e W2 ⟨rfl,c2⟩
   have t2:=(HCB.out W2 c2).2
   clear q0 q1 q2 q3 r0 r1 t0
   go_wp2_with fail
   refine (HHN.out W2).mono ?_
   rintro e W2b ⟨rfl,hw2⟩
   subst hw2
   have HFIN:=hideL (HBX.out.2.2.2.2.2 W2b c2)
   clear t2 c2
   go_wp2_with fail
   go_ret
   exact ⟨fun hp=>absurd hp HPH.out,fun _=>rfl,HFIN.out⟩
 ·have hR0:R≠0:=by rw [←HV.out];exact chk_no hP
  have hRb:(R != 0)=true:=by simpa using hR0
  have HPH:Hid (¬((NetP n∧StP n (p,h))∧HOK hops)):=fun hn=>hP hn.1
  clear hP
  go_wp2_with fail
  refine (HCK.out).mono ?_
  rintro e W2 ⟨rfl,c2⟩
  have HFIN:=hideL (HBX.out.2.2.2.2.2 W2 c2)
  clear q0 q1 q2 q3 r0 r1 t0 c2
  go_wp2_with fail
  go_ret
  exact ⟨fun hp=>absurd hp HPH.out,fun _=>rfl,HFIN.out⟩
end Go.Proofs.YtbplhianpelmfaaGreatDoor.Nt
