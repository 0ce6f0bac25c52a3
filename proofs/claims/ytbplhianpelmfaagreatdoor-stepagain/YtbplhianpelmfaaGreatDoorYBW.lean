import Derived.Test.YtbplhianpelmfaaGreatDoorYBV
namespace Go.Proofs.YtbplhianpelmfaaGreatDoor.Nt
open Go.RowKit Go.Shelf
def nilW:WY:=⟨[],[],[]⟩
def RES (R:SR) (x:WY) (fo:Bool) (k:Int):Prop:=(R=.hit x∧fo=true∧k=0)∨(∃ G,R=.go G∧x=nilW∧fo=false∧k=0)∨(R=.full∧x=nilW∧fo=false∧k=3)
def SRX (R:SR) (w:World) (e:Ending) (w':World):Prop:=∃ (x:WY) (v:PV) (fo:Bool) (k:Int),RES R x fo k∧e=.returned (.tuple #[.agg (paC (x,v)).toArray,.bool fo,.int .i64 k])∧PL w' (x,v)∧Below w.heap.size w w'
theorem pl_nil (W:World):PL W (nilW,⟨none,0,none,0⟩):=⟨IL.nil W,IL.nil W,Nat.le_refl _,Nat.le_refl _⟩
theorem srq_x {R:SR} {w w':World} {e:Ending} (h:SRQ R w e w'):SRX R w e w':=by
 unfold SRQ at h
 cases R with
 | hit x=>
  obtain ⟨⟨v,h1,h2⟩,h3⟩:=h
  exact ⟨x,v,true,0,.inl ⟨rfl,rfl,rfl⟩,h1,h2,h3⟩
 | go G=>
  obtain ⟨h1,h3⟩:=h
  exact ⟨nilW,⟨none,0,none,0⟩,false,0,.inr (.inl ⟨G,rfl,rfl,rfl,rfl⟩),h1,pl_nil w',h3⟩
 | full=>
  obtain ⟨h1,h3⟩:=h
  exact ⟨nilW,⟨none,0,none,0⟩,false,3,.inr (.inr ⟨rfl,rfl,rfl,rfl⟩),h1,pl_nil w',h3⟩
noncomputable def cirM (n:NN) (s:Int×List UInt8) (hops:Int):SR:=src n hops cls 4098 [alnM s] [] 0
theorem res_ci (tmps:Array Value) (W:World) (b:Nat) (p q:Option Addr) (np cp ne ce:Nat) (t:List UInt8) (x:Bool) (k:Int) (h:tmps[6]?.getD undef=.pointer (some ⟨b,0,none⟩)) (h11:tmps[7]?.getD undef=.bool x) (h12:tmps[8]?.getD undef=.int .i64 k) (hb:W.heap[b]?=some (.cells #[.slice p np cp,.slice q ne ce,.string ⟨t.toArray⟩] 52 (0,0))) :
  (results Tryz.f36 tmps).run Tryz.prog W=.ok (.tuple #[.agg #[.slice p np cp,.slice q ne ce,.string ⟨t.toArray⟩],.bool x,.int .i64 k]) W:=by
 have h1:=(cellsZ hb).1
 have c0:=h1 0
 have c1:=h1 1
 have c2:=h1 2
 simp at c0 c1 c2
 simp [results,h,h11,h12,c0,c1,c2,go_sem]
set_option maxRecDepth 100000 in
set_option maxHeartbeats 16000000 in
theorem circle_any (n:NN) (v:NV) (np nt ng:Nat) (s:Int×List UInt8) (hops:Int) (w:World) (hW:NW w n v) (hV:NetP n) (hs:StP n s) (h0:0≤hops) (hh:hops≤64) (hnp:n.ports.length=np) (hnt:n.tabs.length=nt) (hng:n.grds.length=ng) :
  Calls Tryz.prog 36 #[.agg #[.slice v.pp np v.cp,.slice v.pt nt v.ct,.slice v.pg ng v.cg],.agg (stC s).toArray,.int .i64 hops] w (SRX (cirM n s hops) w):=by
 have hse:=fun (fv:WV) (U:World) (hU:Below w.heap.size w U) (hl:WL U (alnM s,fv))=>search_any n v np nt ng s fv hops U (hW.below hU) hV hs h0 hh hl hnp hnt hng
 obtain ⟨R,hR⟩:∃ R,cirM n s hops=R:=⟨_,rfl⟩
 have hR2:src n hops cls 4098 [alnM s] [] 0=R:=hR
 rw [hR]
 rw [hR2] at hse
 obtain ⟨pp,cp,pt,ct,pg,cg⟩:=v
 obtain ⟨sp,sh⟩:=s
 simp only at hse ⊢
 obtain ⟨a0,a1,a2,a3,a4,a5,a6,a7,a8,h9⟩:=c9_ex sh
 have hal:=fun (U:World)=>alone_any (sp,sh) U
 rw [stC_arr h9] at hal ⊢
 obtain ⟨b,hb⟩:∃ b,w.heap.size=b:=⟨_,rfl⟩
 obtain ⟨b2,hb2⟩:∃ b2,b+1=b2:=⟨_,rfl⟩
 obtain ⟨b6,hb6⟩:∃ b6,b2+1=b6:=⟨_,rfl⟩
 obtain ⟨W1,hW1⟩:∃ W1,((w.alloc (.cells #[.slice pp np cp,.slice pt nt ct,.slice pg ng cg] 72)).alloc (.cells #[.int .i64 sp,.int .i64 a0,.int .u64 a1,.int .u64 a2,.int .u64 a3,.int .u64 a4,.int .u64 a5,.int .u64 a6,.int .u64 a7,.int .u64 a8] 81)).alloc (.cells #[.slice none 0 0,.slice none 0 0,.string ⟨#[]⟩] 52)=W1:=⟨_,rfl⟩
 have z1:(w.alloc (.cells #[.slice pp np cp,.slice pt nt ct,.slice pg ng cg] 72)).heap.size=b2:=by rw [←hb2,←hb];exact Array.size_push _
 have z2:((w.alloc (.cells #[.slice pp np cp,.slice pt nt ct,.slice pg ng cg] 72)).alloc (.cells #[.int .i64 sp,.int .i64 a0,.int .u64 a1,.int .u64 a2,.int .u64 a3,.int .u64 a4,.int .u64 a5,.int .u64 a6,.int .u64 a7,.int .u64 a8] 81)).heap.size=b6:=by rw [←hb6,←z1];exact Array.size_push _
 have b1:Below w.heap.size w W1:=by rw [←hW1];exact belAZ (belAZ (belAZ (Below.refl _ _) _) _) _
 have k1:W1.heap[b]?=some (.cells #[.slice pp np cp,.slice pt nt ct,.slice pg ng cg] 72 (0,0)):=by rw [←hW1,←hb];exact keepZ (belAZ (Below.refl _ _) _) (keepZ (belAZ (Below.refl _ _) _) (alloc_getZ _ _))
 have k2:W1.heap[b2]?=some (.cells #[.int .i64 sp,.int .i64 a0,.int .u64 a1,.int .u64 a2,.int .u64 a3,.int .u64 a4,.int .u64 a5,.int .u64 a6,.int .u64 a7,.int .u64 a8] 81 (0,0)):=by rw [←hW1,←z1];exact keepZ (belAZ (Below.refl _ _) _) (alloc_getZ _ _)
 have k3:W1.heap[b6]?=some (.cells #[.slice none 0 0,.slice none 0 0,.string ⟨#[]⟩] 52 (0,0)):=by rw [←hW1,←z2];exact alloc_getZ _ _
 have HC:Hid (∀ U:World,U.heap[b]?=W1.heap[b]?→U.heap[b2]?=W1.heap[b2]?→(U.cell? ⟨b,0,none⟩=some (.slice pp np cp)∧U.cell? ⟨b,1,none⟩=some (.slice pt nt ct)∧U.cell? ⟨b,2,none⟩=some (.slice pg ng cg))∧(U.cell? ⟨b2,0,none⟩=some (.int .i64 sp)∧U.cell? ⟨b2,1,none⟩=some (.int .i64 a0)∧U.cell? ⟨b2,2,none⟩=some (.int .u64 a1)∧U.cell? ⟨b2,3,none⟩=some (.int .u64 a2)∧U.cell? ⟨b2,4,none⟩=some (.int .u64 a3)∧U.cell? ⟨b2,5,none⟩=some (.int .u64 a4)∧U.cell? ⟨b2,6,none⟩=some (.int .u64 a5)∧U.cell? ⟨b2,7,none⟩=some (.int .u64 a6)∧U.cell? ⟨b2,8,none⟩=some (.int .u64 a7)∧U.cell? ⟨b2,9,none⟩=some (.int .u64 a8))):=fun U hu1 hu2=>by
  have e1:=(cellsZ (hu1.trans k1)).1
  have e2:=(cellsZ (hu2.trans k2)).1
  exact ⟨⟨by rw [e1];rfl,by rw [e1];rfl,by rw [e1];rfl⟩,⟨by rw [e2];rfl,by rw [e2];rfl,by rw [e2];rfl,by rw [e2];rfl,by rw [e2];rfl,by rw [e2];rfl,by rw [e2];rfl,by rw [e2];rfl,by rw [e2];rfl,by rw [e2];rfl⟩⟩
 have HCB:Hid (∀ U:World,Below W1.heap.size W1 U→((U.cell? ⟨b,0,none⟩=some (.slice pp np cp)∧U.cell? ⟨b,1,none⟩=some (.slice pt nt ct)∧U.cell? ⟨b,2,none⟩=some (.slice pg ng cg))∧(U.cell? ⟨b2,0,none⟩=some (.int .i64 sp)∧U.cell? ⟨b2,1,none⟩=some (.int .i64 a0)∧U.cell? ⟨b2,2,none⟩=some (.int .u64 a1)∧U.cell? ⟨b2,3,none⟩=some (.int .u64 a2)∧U.cell? ⟨b2,4,none⟩=some (.int .u64 a3)∧U.cell? ⟨b2,5,none⟩=some (.int .u64 a4)∧U.cell? ⟨b2,6,none⟩=some (.int .u64 a5)∧U.cell? ⟨b2,7,none⟩=some (.int .u64 a6)∧U.cell? ⟨b2,8,none⟩=some (.int .u64 a7)∧U.cell? ⟨b2,9,none⟩=some (.int .u64 a8)))∧U.heap[b6]?=some (.cells #[.slice none 0 0,.slice none 0 0,.string ⟨#[]⟩] 52 (0,0))∧U.heap[b]?=W1.heap[b]?∧U.heap[b2]?=W1.heap[b2]?∧Below w.heap.size w U):=fun U hU=>⟨HC.out U (hU.block _ (lt_getZ k1)) (hU.block _ (lt_getZ k2)),keepZ hU k3,hU.block _ (lt_getZ k1),hU.block _ (lt_getZ k2),bel0Z b1 hU⟩
 have HBN:Hid (b≠b6∧b2≠b6∧w.heap.size≤b6):=⟨by omega,by omega,by omega⟩
 have HAL:Hid (∀ U:World,Calls Tryz.prog 48 #[.agg #[.int .i64 sp,.int .i64 a0,.int .u64 a1,.int .u64 a2,.int .u64 a3,.int .u64 a4,.int .u64 a5,.int .u64 a6,.int .u64 a7,.int .u64 a8]] U fun e w'=>∃ fp fc fe fd,e=.returned (.agg #[.slice fp 1 fc,.slice fe 0 fd,.int .i64 a0,.int .u64 a1,.int .u64 a2,.int .u64 a3,.int .u64 a4,.int .u64 a5,.int .u64 a6,.int .u64 a7,.int .u64 a8])∧WL w' (alnM (sp,sh),⟨fp,fc,fe,fd⟩)∧Below U.heap.size U w'):=fun U=>by
  refine (hal U).mono ?_
  rintro e w' ⟨⟨fp,fc,fe,fd⟩,he,hl,hbb⟩
  have e9:(wyC (alnM (sp,sh),(⟨fp,fc,fe,fd⟩:WV))).toArray=#[.slice fp 1 fc,.slice fe 0 fd,.int .i64 a0,.int .u64 a1,.int .u64 a2,.int .u64 a3,.int .u64 a4,.int .u64 a5,.int .u64 a6,.int .u64 a7,.int .u64 a8]:=wyC_arr (ps:=[sp]) (es:=[]) (hd:=sh) h9 rfl rfl
  rw [e9] at he
  exact ⟨fp,fc,fe,fd,he,hl,hbb⟩
 have HSE:Hid (∀ (fp fe:Option Addr) (fc fd:Nat) (U:World),Below W1.heap.size W1 U→WL U (alnM (sp,sh),⟨fp,fc,fe,fd⟩)→Calls Tryz.prog 56 #[.agg #[.slice pp np cp,.slice pt nt ct,.slice pg ng cg],.agg #[.slice fp 1 fc,.slice fe 0 fd,.int .i64 a0,.int .u64 a1,.int .u64 a2,.int .u64 a3,.int .u64 a4,.int .u64 a5,.int .u64 a6,.int .u64 a7,.int .u64 a8],.int .i64 hops,.func (.func 57) #[] #[],.func (.func 59) #[] #[]] U fun e w'=>∃ (x:WY) (u1:Option Addr) (z1:Nat) (u2:Option Addr) (z2 xn xm:Nat) (xh:List UInt8) (fo:Bool) (k:Int),RES R x fo k∧x.ps.length=xn∧x.es.length=xm∧x.hd=xh∧e=.returned (.tuple #[.agg #[.slice u1 xn z1,.slice u2 xm z2,.string ⟨xh.toArray⟩],.bool fo,.int .i64 k])∧PL w' (x,⟨u1,z1,u2,z2⟩)∧Below U.heap.size U w'):=fun fp fe fc fd U hU hl=>by
  have h:=hse ⟨fp,fc,fe,fd⟩ U (bel0Z b1 hU) hl
  rw [show (wyC (alnM (sp,sh),(⟨fp,fc,fe,fd⟩:WV))).toArray=#[.slice fp 1 fc,.slice fe 0 fd,.int .i64 a0,.int .u64 a1,.int .u64 a2,.int .u64 a3,.int .u64 a4,.int .u64 a5,.int .u64 a6,.int .u64 a7,.int .u64 a8] from wyC_arr (ps:=[sp]) (es:=[]) (hd:=sh) h9 rfl rfl] at h
  refine h.mono ?_
  rintro e w' hq
  obtain ⟨x,⟨u1,z1,u2,z2⟩,fo,k,hr,he,hp,hbb⟩:=srq_x hq
  exact ⟨x,u1,z1,u2,z2,_,_,_,fo,k,hr,rfl,rfl,rfl,he,hp,hbb⟩
 have HB:=hideL hb
 have HB2:=hideL hb2
 have HB6:=hideL hb6
 have HW1:=hideL hW1
 clear hse hR hR2 hW hV hs h0 hh hnp hnt hng h9 hal hb hb2 hb6 hW1 z1 z2 b1 k1 k2 k3
 go_enter Tryz.func36,Tryz.ntmps36
 go_upto_region 3 with fail
 simp only [HW1.out,HB.out,HB2.out,HB6.out]
 have hs0:=(HCB.out W1.drew (Below.refl _ _).drew).1
 refine wp_region_held_drew (S:=fun U=>(U.cell? ⟨b,0,none⟩=some (.slice pp np cp)∧U.cell? ⟨b,1,none⟩=some (.slice pt nt ct)∧U.cell? ⟨b,2,none⟩=some (.slice pg ng cg))∧(U.cell? ⟨b2,0,none⟩=some (.int .i64 sp)∧U.cell? ⟨b2,1,none⟩=some (.int .i64 a0)∧U.cell? ⟨b2,2,none⟩=some (.int .u64 a1)∧U.cell? ⟨b2,3,none⟩=some (.int .u64 a2)∧U.cell? ⟨b2,4,none⟩=some (.int .u64 a3)∧U.cell? ⟨b2,5,none⟩=some (.int .u64 a4)∧U.cell? ⟨b2,6,none⟩=some (.int .u64 a5)∧U.cell? ⟨b2,7,none⟩=some (.int .u64 a6)∧U.cell? ⟨b2,8,none⟩=some (.int .u64 a7)∧U.cell? ⟨b2,9,none⟩=some (.int .u64 a8))) (by kernel_rfl) hs0 (fun _=>?_)
 refine tk 0 (.agg #[.slice pp np cp,.slice pt nt ct,.slice pg ng cg]) rfl hs0 ?_ ?_
 ·rintro w ⟨⟨q0,q1,q2⟩,⟨s0,s1,s2,s3,s4,s5,s6,s7,s8,s9⟩⟩;go_simp
 refine tk 1 (.agg #[.int .i64 sp,.int .i64 a0,.int .u64 a1,.int .u64 a2,.int .u64 a3,.int .u64 a4,.int .u64 a5,.int .u64 a6,.int .u64 a7,.int .u64 a8]) rfl hs0 ?_ ?_
 ·rintro w ⟨⟨q0,q1,q2⟩,⟨s0,s1,s2,s3,s4,s5,s6,s7,s8,s9⟩⟩;go_simp
 refine tk 3 (.int .i64 hops) rfl hs0 ?_ ?_
 ·rintro w ⟨⟨q0,q1,q2⟩,⟨s0,s1,s2,s3,s4,s5,s6,s7,s8,s9⟩⟩;go_simp
 refine tk 4 (.func (.func 57) #[] #[]) rfl hs0 ?_ ?_
 ·rintro w ⟨⟨q0,q1,q2⟩,⟨s0,s1,s2,s3,s4,s5,s6,s7,s8,s9⟩⟩;go_simp
 refine tk 5 (.func (.func 59) #[] #[]) rfl hs0 ?_ ?_
 ·rintro w ⟨⟨q0,q1,q2⟩,⟨s0,s1,s2,s3,s4,s5,s6,s7,s8,s9⟩⟩;go_simp
 refine rd 2 rfl fun KK hKK=>?_
 go_simp
 refine (HAL.out _).mono ?_
 rintro en W2 ⟨fp,fc,fe,fd,rfl,hl2,b2'⟩
 have c2:Below W1.heap.size W1 W2:=bel0Z (Below.refl _ _).drew b2'
 have hs2:=(HCB.out W2 c2).1
 clear b2'
 go_simp
 refine hKK.out _ _ hs2 (fun _=>?_)
 clear hKK KK hs0
 refine rd 6 rfl fun KK hKK=>?_
 go_simp
 refine (HSE.out fp fe fc fd W2 c2 hl2).mono ?_
 rintro en W3 ⟨x,u1,z1,u2,z2,xn,xm,xh,fo,k,hres,hxn,hxm,hxh,rfl,hp3,b3⟩
 have c3:Below W1.heap.size W1 W3:=bel0Z c2 b3
 have hs3:=(HCB.out W3 c3).1
 clear b3 hl2 c2
 go_simp
 refine hKK.out _ _ hs3 (fun _=>?_)
 clear hKK KK hs2
 refine tk 7 (.agg #[.slice u1 xn z1,.slice u2 xm z2,.string ⟨xh.toArray⟩]) rfl hs3 ?_ ?_
 ·rintro w ⟨⟨q0,q1,q2⟩,⟨s0,s1,s2,s3,s4,s5,s6,s7,s8,s9⟩⟩;go_simp
 refine tk 8 (.bool fo) rfl hs3 ?_ ?_
 ·rintro w ⟨⟨q0,q1,q2⟩,⟨s0,s1,s2,s3,s4,s5,s6,s7,s8,s9⟩⟩;go_simp
 refine tk 9 (.int .i64 k) rfl hs3 ?_ ?_
 ·rintro w ⟨⟨q0,q1,q2⟩,⟨s0,s1,s2,s3,s4,s5,s6,s7,s8,s9⟩⟩;go_simp
 have k6:=(HCB.out W3 c3).2.1
 have hz:=cellsZ k6
 have v0:W3.cell? ⟨b6,0,none⟩=some (.slice none 0 0):=by rw [hz.1];rfl
 have f0:=hz.2 0
 have v1:W3.cell? ⟨b6,1,none⟩=some (.slice none 0 0):=by rw [hz.1];rfl
 have f1:=hz.2 1
 have v2:W3.cell? ⟨b6,2,none⟩=some (.string ⟨#[]⟩):=by rw [hz.1];rfl
 have f2:=hz.2 2
 obtain ⟨W9,hW9⟩:∃ W,(((W3.setCell ⟨b6,0,none⟩ (.slice u1 xn z1)).setCell ⟨b6,1,none⟩ (.slice u2 xm z2)).setCell ⟨b6,2,none⟩ (.string ⟨xh.toArray⟩))=W:=⟨_,rfl⟩
 have HRES:Hid (W9.heap[b6]?=some (.cells #[.slice u1 xn z1,.slice u2 xm z2,.string ⟨xh.toArray⟩] 52 (0,0))):=by
  rw [←hW9]
  exact put3 (.slice u1 xn z1) (.slice u2 xm z2) (.string ⟨xh.toArray⟩) k6
 have hfar:∀ c,c≠b6→W9.heap[c]?=W3.heap[c]?:=fun c hc=>by
  rw [←hW9]
  exact put3f (.slice u1 xn z1) (.slice u2 xm z2) (.string ⟨xh.toArray⟩) hc
 have hs9:=HC.out W9 ((hfar b HBN.out.1).trans (HCB.out W3 c3).2.2.1) ((hfar b2 HBN.out.2.1).trans (HCB.out W3 c3).2.2.2.1)
 have HFIN:Hid (SRX R w (.returned (.tuple #[.agg #[.slice u1 xn z1,.slice u2 xm z2,.string ⟨xh.toArray⟩],.bool fo,.int .i64 k])) W9):=by
  refine ⟨x,⟨u1,z1,u2,z2⟩,fo,k,hres,?_,hp3.kp (fun c cs fr hc=>(hfar c (by rintro rfl;rw [k6] at hc;simp only [Option.some.injEq,Obj.cells.injEq] at hc;exact absurd hc.2.1 (by decide))).trans hc),?_⟩
  ·show _=Ending.returned (.tuple #[.agg #[.slice u1 x.ps.length z1,.slice u2 x.es.length z2,.string ⟨x.hd.toArray⟩],.bool fo,.int .i64 k])
   rw [hxn,hxm,hxh]
  ·rw [←hW9]
   exact put3b (.slice u1 xn z1) (.slice u2 xm z2) (.string ⟨xh.toArray⟩) (HCB.out W3 c3).2.2.2.2 HBN.out.2.2
 clear hres hxn hxm hxh hp3 c3 k6 hz hfar hs3
 refine rd 10 rfl fun KK hKK=>?_
 go_simp
 try rw [hW9]
 refine hKK.out _ _ hs9 (fun _=>?_)
 clear hKK KK v0 v1 v2 f0 f1 f2 hW9
 refine tk 11 (.bool fo) rfl hs9 ?_ ?_
 ·rintro w ⟨⟨q0,q1,q2⟩,⟨s0,s1,s2,s3,s4,s5,s6,s7,s8,s9⟩⟩;go_simp
 refine tk 12 (.int .i64 k) rfl hs9 ?_ ?_
 ·rintro w ⟨⟨q0,q1,q2⟩,⟨s0,s1,s2,s3,s4,s5,s6,s7,s8,s9⟩⟩;go_simp
 refine wpAnyH_done (by kernel_rfl) ?_ _
 try simp only [List.getElem_toArray,List.getElem_cons_succ,List.getElem_cons_zero,Act.put,List.setIfInBounds_toArray,List.set_cons_zero,List.set_cons_succ]
 clear hs9
 go_wp2_with fail
 refine bodyPost_ret (res_ci _ _ b6 _ _ _ _ _ _ _ _ _ rfl rfl rfl HRES.out) rfl ?_
 exact HFIN.out
def LPR (n:NN) (s:Int×List UInt8) (hops:Int) (x:WY) (fo:Bool) (k:Int):Prop:=(((NetP n∧StP n s)∧HOK hops)∧RES (cirM n s hops) x fo k)∨(¬((NetP n∧StP n s)∧HOK hops)∧x=nilW∧fo=false∧k≠0)
def LPQ (n:NN) (s:Int×List UInt8) (hops:Int) (w:World) (e:Ending) (w':World):Prop:=∃ (x:WY) (v:PV) (fo:Bool) (k:Int),LPR n s hops x fo k∧e=.returned (.tuple #[.agg (paC (x,v)).toArray,.bool fo,.int .i64 k])∧PL w' (x,v)∧Below w.heap.size w w'
theorem res_lo (tmps:Array Value) (W:World) (b:Nat) (p q:Option Addr) (np cp ne ce:Nat) (t:List UInt8) (x:Bool) (k:Int) (h:tmps[6]?.getD undef=.pointer (some ⟨b,0,none⟩)) (h11:tmps[7]?.getD undef=.bool x) (h12:tmps[8]?.getD undef=.int .i64 k) (hb:W.heap[b]?=some (.cells #[.slice p np cp,.slice q ne ce,.string ⟨t.toArray⟩] 52 (0,0))) :
  (results Tryz.f23 tmps).run Tryz.prog W=.ok (.tuple #[.agg #[.slice p np cp,.slice q ne ce,.string ⟨t.toArray⟩],.bool x,.int .i64 k]) W:=by
 have h1:=(cellsZ hb).1
 have c0:=h1 0
 have c1:=h1 1
 have c2:=h1 2
 simp at c0 c1 c2
 simp [results,h,h11,h12,c0,c1,c2,go_sem]
set_option maxRecDepth 100000 in
set_option maxHeartbeats 16000000 in
theorem loop_any (n:NN) (v:NV) (s9:Int×List UInt8) (hops:Int) (w:World) (hN:LN w n v) (hO:okN n) (hT:TAB w) (hh:okS s9.2) :
  Calls Tryz.prog 23 #[.agg (nnA n v),.agg #[.int .i64 s9.1,.string ⟨s9.2.toArray⟩],.int .i64 hops] w (LPQ n s9 hops w):=by
 obtain ⟨p,h⟩:=s9
 simp only at hh ⊢
 have hck:=fun (U:World) (hU:Below w.heap.size w U)=>check_any n v p h U (hN.below hU) hO (hT.at hU) hh
 have hso:=fun (U:World)=>stateOf_any p h U hh
 have hrd:=fun (hV:NetP n) (U:World) (hU:Below w.heap.size w U)=>read_any n v n.ports.length n.tabs.length n.grds.length U (hN.below hU) hO hV rfl rfl rfl
 have hci:=fun (hV:NetP n) (hS:StP n (p,h)) (hH:HOK hops) (x:NV) (U:World) (hW:NW U n x)=>circle_any n x n.ports.length n.tabs.length n.grds.length (p,h) hops U hW hV hS hH.1 hH.2 rfl rfl rfl
 obtain ⟨pp,cp,pt,ct,pg,cg⟩:=v
 unfold nnA at hck ⊢
 simp only at hck hrd ⊢
 obtain ⟨np,hnp⟩:∃ k,n.ports.length=k:=⟨_,rfl⟩
 obtain ⟨nt,hnt⟩:∃ k,n.tabs.length=k:=⟨_,rfl⟩
 obtain ⟨ng,hng⟩:∃ k,n.grds.length=k:=⟨_,rfl⟩
 obtain ⟨bits,hbits⟩:∃ b,n.bits=b:=⟨_,rfl⟩
 rw [hnp,hnt,hng] at hck hrd hci ⊢
 rw [hbits] at hck hrd ⊢
 obtain ⟨R,hR⟩:∃ R,chkM n (p,h)=R:=⟨_,rfl⟩
 rw [hR] at hck
 obtain ⟨B,hB⟩:∃ B,w.heap.size=B:=⟨_,rfl⟩
 obtain ⟨b2,hb2⟩:∃ b2,B+1=b2:=⟨_,rfl⟩
 obtain ⟨b6,hb6⟩:∃ b6,b2+1=b6:=⟨_,rfl⟩
 obtain ⟨W1,hW1⟩:∃ W1,((w.alloc (.cells #[.int .i64 bits,.slice pp np cp,.slice pt nt ct,.slice pg ng cg] 26)).alloc (.cells #[.int .i64 p,.string ⟨h.toArray⟩] 28)).alloc (.cells #[.slice none 0 0,.slice none 0 0,.string ⟨#[]⟩] 52)=W1:=⟨_,rfl⟩
 have z1:(w.alloc (.cells #[.int .i64 bits,.slice pp np cp,.slice pt nt ct,.slice pg ng cg] 26)).heap.size=b2:=by rw [←hb2,←hB];exact Array.size_push _
 have z2:((w.alloc (.cells #[.int .i64 bits,.slice pp np cp,.slice pt nt ct,.slice pg ng cg] 26)).alloc (.cells #[.int .i64 p,.string ⟨h.toArray⟩] 28)).heap.size=b6:=by rw [←hb6,←z1];exact Array.size_push _
 have b1:Below w.heap.size w W1:=by rw [←hW1];exact belAZ (belAZ (belAZ (Below.refl _ _) _) _) _
 have k1:W1.heap[B]?=some (.cells #[.int .i64 bits,.slice pp np cp,.slice pt nt ct,.slice pg ng cg] 26 (0,0)):=by rw [←hW1,←hB];exact keepZ (belAZ (Below.refl _ _) _) (keepZ (belAZ (Below.refl _ _) _) (alloc_getZ _ _))
 have k2:W1.heap[b2]?=some (.cells #[.int .i64 p,.string ⟨h.toArray⟩] 28 (0,0)):=by rw [←hW1,←z1];exact keepZ (belAZ (Below.refl _ _) _) (alloc_getZ _ _)
 have k3:W1.heap[b6]?=some (.cells #[.slice none 0 0,.slice none 0 0,.string ⟨#[]⟩] 52 (0,0)):=by rw [←hW1,←z2];exact alloc_getZ _ _
 have HC:Hid (∀ U:World,U.heap[B]?=W1.heap[B]?→U.heap[b2]?=W1.heap[b2]?→(U.cell? ⟨B,0,none⟩=some (.int .i64 bits)∧U.cell? ⟨B,1,none⟩=some (.slice pp np cp)∧U.cell? ⟨B,2,none⟩=some (.slice pt nt ct)∧U.cell? ⟨B,3,none⟩=some (.slice pg ng cg))∧(U.cell? ⟨b2,0,none⟩=some (.int .i64 p)∧U.cell? ⟨b2,1,none⟩=some (.string ⟨h.toArray⟩))):=fun U hu1 hu2=>by
  have e1:=(cellsZ (hu1.trans k1)).1
  have e2:=(cellsZ (hu2.trans k2)).1
  exact ⟨⟨by rw [e1];rfl,by rw [e1];rfl,by rw [e1];rfl,by rw [e1];rfl⟩,⟨by rw [e2];rfl,by rw [e2];rfl⟩⟩
 have HCB:Hid (∀ U:World,Below W1.heap.size W1 U→((U.cell? ⟨B,0,none⟩=some (.int .i64 bits)∧U.cell? ⟨B,1,none⟩=some (.slice pp np cp)∧U.cell? ⟨B,2,none⟩=some (.slice pt nt ct)∧U.cell? ⟨B,3,none⟩=some (.slice pg ng cg))∧(U.cell? ⟨b2,0,none⟩=some (.int .i64 p)∧U.cell? ⟨b2,1,none⟩=some (.string ⟨h.toArray⟩)))∧U.heap[b6]?=some (.cells #[.slice none 0 0,.slice none 0 0,.string ⟨#[]⟩] 52 (0,0))∧U.heap[B]?=W1.heap[B]?∧U.heap[b2]?=W1.heap[b2]?∧Below w.heap.size w U):=fun U hU=>⟨HC.out U (hU.block _ (lt_getZ k1)) (hU.block _ (lt_getZ k2)),keepZ hU k3,hU.block _ (lt_getZ k1),hU.block _ (lt_getZ k2),bel0Z b1 hU⟩
 have HBN:Hid (B≠b6∧b2≠b6∧w.heap.size≤b6):=⟨by omega,by omega,by omega⟩
 have HCK:Hid (Calls Tryz.prog 25 #[.agg #[.int .i64 bits,.slice pp np cp,.slice pt nt ct,.slice pg ng cg],.agg #[.int .i64 p,.string ⟨h.toArray⟩]] W1 fun e w'=>e=.returned (.int .i64 R)∧Below W1.heap.size W1 w'):=hck W1 b1
 have HV:Hid (chkM n (p,h)=R):=hR
 have HSO:Hid (∀ U:World,Calls Tryz.prog 28 #[.agg #[.int .i64 p,.string ⟨h.toArray⟩]] U fun e w'=>e=.returned (.agg (stC (p,Tn.cubeT h)).toArray)∧Below U.heap.size U w'):=hso
 have HRD:Hid (NetP n→∀ U,Below W1.heap.size W1 U→Calls Tryz.prog 26 #[.agg #[.int .i64 bits,.slice pp np cp,.slice pt nt ct,.slice pg ng cg]] U (RDQ n np nt ng U)):=fun hV U hU=>hrd hV U (bel0Z b1 hU)
 have HCI:Hid (NetP n→StP n (p,h)→HOK hops→∀ (x:NV) (U:World),NW U n x→Calls Tryz.prog 36 #[.agg #[.slice x.pp np x.cp,.slice x.pt nt x.ct,.slice x.pg ng x.cg],.agg (stC (p,h)).toArray,.int .i64 hops] U (SRX (cirM n (p,h) hops) U)):=hci
 have HNO:Hid (∀ (k:Int) (W:World),¬((NetP n∧StP n (p,h))∧HOK hops)→k≠0→Below W1.heap.size W1 W→∃ W9,(((W.setCell ⟨b6,0,none⟩ (.slice none 0 0)).setCell ⟨b6,1,none⟩ (.slice none 0 0)).setCell ⟨b6,2,none⟩ (.string ⟨#[]⟩))=W9∧W9.heap[b6]?=some (.cells #[.slice none 0 0,.slice none 0 0,.string ⟨#[]⟩] 52 (0,0))∧LPQ n (p,h) hops w (.returned (.tuple #[.agg #[.slice none 0 0,.slice none 0 0,.string ⟨#[]⟩],.bool false,.int .i64 k])) W9):=fun k W hn hk hW=>by
  refine ⟨_,rfl,put3 (.slice none 0 0) (.slice none 0 0) (.string ⟨#[]⟩) (HCB.out W hW).2.1,nilW,⟨none,0,none,0⟩,false,k,.inr ⟨hn,rfl,rfl,hk⟩,rfl,pl_nil _,?_⟩
  exact put3b (.slice none 0 0) (.slice none 0 0) (.string ⟨#[]⟩) (HCB.out W hW).2.2.2.2 HBN.out.2.2
 have HB:=hideL hB
 have HB2:=hideL hb2
 have HB6:=hideL hb6
 have HW1:=hideL hW1
 obtain ⟨⟨q0,q1,q2,q3⟩,⟨r0,r1⟩⟩:=(HCB.out W1 (Below.refl _ _)).1
 clear hN hO hT hh hck hso hrd hci hnp hnt hng hbits hR hB hb2 hb6 hW1 z1 z2 b1 k1 k2 k3
 go_enter Tryz.func23,Tryz.ntmps23
 go_upto_region 1 with fail
 simp only [HW1.out,HB.out,HB2.out,HB6.out]
 go_wp2_with fail
 refine (HCK.out).mono ?_
 rintro e W2 ⟨rfl,c2⟩
 clear q0 q1 q2 q3 r0 r1
 by_cases hP:NetP n∧StP n (p,h)
 ·have hR0:R=0:=by rw [←HV.out];exact chk_yes hP.1 hP.2
  subst hR0
  by_cases hH:HOK hops
  ·have HHY:=hideL (fun U=>hops_yes hops U hH)
   obtain ⟨a0,a1,a2,a3,a4,a5,a6,a7,a8,h9⟩:=c9_ex h
   have HST:Hid (∀ U:World,Calls Tryz.prog 28 #[.agg #[.int .i64 p,.string ⟨h.toArray⟩]] U fun e w'=>e=.returned (.agg #[.int .i64 p,.int .i64 a0,.int .u64 a1,.int .u64 a2,.int .u64 a3,.int .u64 a4,.int .u64 a5,.int .u64 a6,.int .u64 a7,.int .u64 a8])∧Below U.heap.size U w'):=fun U=>by
    have hh:=HSO.out U
    rw [cubeP_T (hdP_cube hP.2.2.2) hP.1.bits.1 hP.1.bits.2,stC_arr h9] at hh
    exact hh
   have HRD:=hideL (HRD.out hP.1)
   have HCX:Hid (∀ (p1:Option Addr) (c1:Nat) (p2:Option Addr) (c2:Nat) (p3:Option Addr) (c3:Nat) (U:World),NW U n ⟨p1,c1,p2,c2,p3,c3⟩→Calls Tryz.prog 36 #[.agg #[.slice p1 np c1,.slice p2 nt c2,.slice p3 ng c3],.agg #[.int .i64 p,.int .i64 a0,.int .u64 a1,.int .u64 a2,.int .u64 a3,.int .u64 a4,.int .u64 a5,.int .u64 a6,.int .u64 a7,.int .u64 a8],.int .i64 hops] U fun e w'=>∃ (x:WY) (u1:Option Addr) (z1:Nat) (u2:Option Addr) (z2 xn xm:Nat) (xh:List UInt8) (fo:Bool) (k:Int),LPR n (p,h) hops x fo k∧x.ps.length=xn∧x.es.length=xm∧x.hd=xh∧e=.returned (.tuple #[.agg #[.slice u1 xn z1,.slice u2 xm z2,.string ⟨xh.toArray⟩],.bool fo,.int .i64 k])∧PL w' (x,⟨u1,z1,u2,z2⟩)∧Below U.heap.size U w'):=fun p1 c1 p2 c2 p3 c3 U hW=>by
    have hh:=HCI.out hP.1 hP.2 hH ⟨p1,c1,p2,c2,p3,c3⟩ U hW
    rw [stC_arr h9] at hh
    refine hh.mono ?_
    rintro e w' ⟨x,⟨u1,z1,u2,z2⟩,fo,k,hr,he,hp,hbb⟩
    exact ⟨x,u1,z1,u2,z2,_,_,_,fo,k,.inl ⟨⟨hP,hH⟩,hr⟩,rfl,rfl,rfl,he,hp,hbb⟩
   have HC2:=hideL c2
   clear HSO HCI HNO hP hH h9 c2
   go_wp2_with fail
   refine (HHY.out W2).mono ?_
   rintro e W2b ⟨rfl,hw2⟩
   obtain rfl:W2=W2b:=hw2.symm
   clear hw2
   go_upto_region 7 with fail
   have hs0:=(HCB.out W2.drew (bel0Z HC2.out (Below.refl _ _).drew)).1
   refine wp_region_held_drew (S:=fun U=>(U.cell? ⟨B,0,none⟩=some (.int .i64 bits)∧U.cell? ⟨B,1,none⟩=some (.slice pp np cp)∧U.cell? ⟨B,2,none⟩=some (.slice pt nt ct)∧U.cell? ⟨B,3,none⟩=some (.slice pg ng cg))∧(U.cell? ⟨b2,0,none⟩=some (.int .i64 p)∧U.cell? ⟨b2,1,none⟩=some (.string ⟨h.toArray⟩))) (by kernel_rfl) hs0 (fun _=>?_)
   refine tk 0 (.agg #[.int .i64 bits,.slice pp np cp,.slice pt nt ct,.slice pg ng cg]) rfl hs0 ?_ ?_
   ·rintro w ⟨⟨q0,q1,q2,q3⟩,⟨r0,r1⟩⟩;go_simp
   refine tk 2 (.agg #[.int .i64 p,.string ⟨h.toArray⟩]) rfl hs0 ?_ ?_
   ·rintro w ⟨⟨q0,q1,q2,q3⟩,⟨r0,r1⟩⟩;go_simp
   refine tk 4 (.int .i64 hops) rfl hs0 ?_ ?_
   ·rintro w ⟨⟨q0,q1,q2,q3⟩,⟨r0,r1⟩⟩;go_simp
   refine rd 1 rfl fun KK hKK=>?_
   go_simp
   refine (HRD.out _ (bel0Z HC2.out (Below.refl _ _).drew)).mono ?_
   rintro en W3 ⟨p1,c1,p2,c2,p3,c3,rfl,hn3,b3⟩
   have d3:Below W1.heap.size W1 W3:=bel0Z (bel0Z HC2.out (Below.refl _ _).drew) b3
   have hs3:=(HCB.out W3 d3).1
   clear b3
   go_simp
   refine hKK.out _ _ hs3 (fun _=>?_)
   clear hKK KK hs0
   refine rd 3 rfl fun KK hKK=>?_
   go_simp
   refine (HST.out _).mono ?_
   rintro en W4 ⟨rfl,b4⟩
   have d4:Below W1.heap.size W1 W4:=bel0Z d3 b4
   have hn4:=hn3.below b4
   have hs4:=(HCB.out W4 d4).1
   clear b4 hn3 d3
   go_simp
   refine hKK.out _ _ hs4 (fun _=>?_)
   clear hKK KK hs3
   refine rd 5 rfl fun KK hKK=>?_
   go_simp
   refine (HCX.out p1 c1 p2 c2 p3 c3 W4 hn4).mono ?_
   rintro en W5 ⟨x,u1,z1,u2,z2,xn,xm,xh,fo,k,hres,hxn,hxm,hxh,rfl,hp3,b5⟩
   have d5:Below W1.heap.size W1 W5:=bel0Z d4 b5
   have hs5:=(HCB.out W5 d5).1
   clear b5 hn4 d4
   go_simp
   refine hKK.out _ _ hs5 (fun _=>?_)
   clear hKK KK hs4
   refine tk 6 (.agg #[.slice u1 xn z1,.slice u2 xm z2,.string ⟨xh.toArray⟩]) rfl hs5 ?_ ?_
   ·rintro w ⟨⟨q0,q1,q2,q3⟩,⟨r0,r1⟩⟩;go_simp
   refine tk 7 (.bool fo) rfl hs5 ?_ ?_
   ·rintro w ⟨⟨q0,q1,q2,q3⟩,⟨r0,r1⟩⟩;go_simp
   refine tk 8 (.int .i64 k) rfl hs5 ?_ ?_
   ·rintro w ⟨⟨q0,q1,q2,q3⟩,⟨r0,r1⟩⟩;go_simp
   have k6:=(HCB.out W5 d5).2.1
   have hz:=cellsZ k6
   have v0:W5.cell? ⟨b6,0,none⟩=some (.slice none 0 0):=by rw [hz.1];rfl
   have f0:=hz.2 0
   have v1:W5.cell? ⟨b6,1,none⟩=some (.slice none 0 0):=by rw [hz.1];rfl
   have f1:=hz.2 1
   have v2:W5.cell? ⟨b6,2,none⟩=some (.string ⟨#[]⟩):=by rw [hz.1];rfl
   have f2:=hz.2 2
   obtain ⟨W9,hW9⟩:∃ W,(((W5.setCell ⟨b6,0,none⟩ (.slice u1 xn z1)).setCell ⟨b6,1,none⟩ (.slice u2 xm z2)).setCell ⟨b6,2,none⟩ (.string ⟨xh.toArray⟩))=W:=⟨_,rfl⟩
   have HRES:Hid (W9.heap[b6]?=some (.cells #[.slice u1 xn z1,.slice u2 xm z2,.string ⟨xh.toArray⟩] 52 (0,0))):=by
    rw [←hW9]
    exact put3 (.slice u1 xn z1) (.slice u2 xm z2) (.string ⟨xh.toArray⟩) k6
   have hfar:∀ c,c≠b6→W9.heap[c]?=W5.heap[c]?:=fun c hc=>by
    rw [←hW9]
    exact put3f (.slice u1 xn z1) (.slice u2 xm z2) (.string ⟨xh.toArray⟩) hc
   have hs9:=HC.out W9 ((hfar B HBN.out.1).trans (HCB.out W5 d5).2.2.1) ((hfar b2 HBN.out.2.1).trans (HCB.out W5 d5).2.2.2.1)
   have HFIN:Hid (LPQ n (p,h) hops w (.returned (.tuple #[.agg #[.slice u1 xn z1,.slice u2 xm z2,.string ⟨xh.toArray⟩],.bool fo,.int .i64 k])) W9):=by
    refine ⟨x,⟨u1,z1,u2,z2⟩,fo,k,hres,?_,hp3.kp (fun c cs fr hc=>(hfar c (by rintro rfl;rw [k6] at hc;simp only [Option.some.injEq,Obj.cells.injEq] at hc;exact absurd hc.2.1 (by decide))).trans hc),?_⟩
    ·show _=Ending.returned (.tuple #[.agg #[.slice u1 x.ps.length z1,.slice u2 x.es.length z2,.string ⟨x.hd.toArray⟩],.bool fo,.int .i64 k])
     rw [hxn,hxm,hxh]
    ·rw [←hW9]
     exact put3b (.slice u1 xn z1) (.slice u2 xm z2) (.string ⟨xh.toArray⟩) (HCB.out W5 d5).2.2.2.2 HBN.out.2.2
   clear hres hxn hxm hxh hp3 d5 k6 hz hfar hs5
   refine rd 9 rfl fun KK hKK=>?_
   go_simp
   try rw [hW9]
   refine hKK.out _ _ hs9 (fun _=>?_)
   clear hKK KK v0 v1 v2 f0 f1 f2 hW9
   refine tk 10 (.bool fo) rfl hs9 ?_ ?_
   ·rintro w ⟨⟨q0,q1,q2,q3⟩,⟨r0,r1⟩⟩;go_simp
   refine tk 11 (.int .i64 k) rfl hs9 ?_ ?_
   ·rintro w ⟨⟨q0,q1,q2,q3⟩,⟨r0,r1⟩⟩;go_simp
   refine wpAnyH_done (by kernel_rfl) ?_ _
   try simp only [List.getElem_toArray,List.getElem_cons_succ,List.getElem_cons_zero,Act.put,List.setIfInBounds_toArray,List.set_cons_zero,List.set_cons_succ]
   clear hs9
   go_wp2_with fail
   refine bodyPost_ret (res_lo _ _ b6 _ _ _ _ _ _ _ _ _ rfl rfl rfl HRES.out) rfl ?_
   exact HFIN.out
  ·have HHN:=hideL (fun U=>hops_no hops U hH)
   obtain ⟨W9,hW9,hk9,hq9⟩:=HNO.out 1 W2 (fun hn=>hH hn.2) (by decide) c2
   have HRES:=hideL hk9
   have HFIN:=hideL hq9
   have k6:=(HCB.out W2 c2).2.1
   have hz:=cellsZ k6
   have v0:W2.cell? ⟨b6,0,none⟩=some (.slice none 0 0):=by rw [hz.1];rfl
   have f0:=hz.2 0
   have v1:W2.cell? ⟨b6,1,none⟩=some (.slice none 0 0):=by rw [hz.1];rfl
   have f1:=hz.2 1
   have v2:W2.cell? ⟨b6,2,none⟩=some (.string ⟨#[]⟩):=by rw [hz.1];rfl
   have f2:=hz.2 2
   have HW9:=hideL hW9
   clear HSO HCI HNO hP hH hW9 hk9 hq9 k6 hz c2
   go_wp2_with fail
   refine (HHN.out W2).mono ?_
   rintro e W2b ⟨rfl,hw2⟩
   obtain rfl:W2=W2b:=hw2.symm
   clear hw2
   go_wp2_with fail
   rw [HW9.out]
   refine bodyPost_ret (res_lo _ _ b6 _ _ _ _ _ _ _ _ _ rfl rfl rfl HRES.out) rfl ?_
   exact HFIN.out
 ·have hR0:R≠0:=by rw [←HV.out];exact chk_no hP
  have hRb:(R != 0)=true:=by simpa using hR0
  obtain ⟨W9,hW9,hk9,hq9⟩:=HNO.out R W2 (fun hn=>hP hn.1) hR0 c2
  have HRES:=hideL hk9
  have HFIN:=hideL hq9
  have k6:=(HCB.out W2 c2).2.1
  have hz:=cellsZ k6
  have v0:W2.cell? ⟨b6,0,none⟩=some (.slice none 0 0):=by rw [hz.1];rfl
  have f0:=hz.2 0
  have v1:W2.cell? ⟨b6,1,none⟩=some (.slice none 0 0):=by rw [hz.1];rfl
  have f1:=hz.2 1
  have v2:W2.cell? ⟨b6,2,none⟩=some (.string ⟨#[]⟩):=by rw [hz.1];rfl
  have f2:=hz.2 2
  have HW9:=hideL hW9
  clear HSO HCI HNO hP hW9 hk9 hq9 k6 hz c2 hR0
  go_wp2_with fail
  rw [HW9.out]
  refine bodyPost_ret (res_lo _ _ b6 _ _ _ _ _ _ _ _ _ rfl rfl rfl HRES.out) rfl ?_
  exact HFIN.out
def TWI (L:List Int) (t:Int):Prop:=(t=-1∧L.Nodup)∨∃ i:Nat,t=(i:Int)∧i < L.length∧(∃ x,L[i]?=some x∧x∈L.take i)∧(L.take i).Nodup
def cntI (n:NN) (L:List Int):Nat:=(L.filter (fun p=>(portAt n p).inn)).length
def COM (n:NN) (ps:List Int) (q:Int) (a:Int) (c:Nat):Prop:=(a=-1∧q ∉ ps∧c=cntI n ps.dropLast)∨∃ i:Nat,a=(i:Int)∧ps[i]?=some q∧q ∉ ps.take i∧c=cntI n (ps.take i)
theorem rw_all {n:NN} {s:Int×List UInt8} {hops:Int} {x:WY} (hx:x∈pthM n s hops) {k:Nat} (h1:1≤k) (h2:k≤x.ps.length):∃ y,RW n hops s y∧y.ps=x.ps.take k:=by
 unfold pthM at hx
 split at hx
 ·exact wlk_beg _ _ x .start hx k h1 h2
 ·cases hx
theorem ln_none {n:NN} {s:Int×List UInt8} {hops:Int} {G:List WY} (e:cirM n s hops=.go G) {x:WY} (hx:x∈pthM n s hops):x.ps.Nodup:=by
 obtain ⟨hV,hS,h0,-⟩:=pth_mem hx
 obtain ⟨h1,h2⟩:=src_go hV hS h0 4098 [alnM s] [] 0 G (.inl ⟨rfl,rfl,rfl⟩) e
 obtain ⟨y,hy,hyp⟩:=rw_all hx (pth_len hx).1 (Nat.le_refl _)
 rw [List.take_length] at hyp
 rw [←hyp]
 exact src_none hV hS h0 h1 h2 hy
theorem rw_cnt {n:NN} {s:Int×List UInt8} {hops:Int} {y:WY} (hV:NetP n) (hS:StP n s) (h0:0≤hops) (hy:RW n hops s y):y.es.length=cntI n y.ps.dropLast:=(rw_rwp hV hS h0 hy).2.2.2
theorem take_dl {L:List Int} {i:Nat} (hi:i < L.length):(L.take (i+1)).dropLast=L.take i:=by
 rw [List.dropLast_eq_take,List.length_take,List.take_take]
 congr 1
 omega
theorem take_last {L:List Int} {i:Nat} {z:Int} (hi:L[i]?=some z):(L.take (i+1)).getLastD 0=z:=by
 rw [List.take_add_one,hi]
 simp
theorem ln_hit {n:NN} {s:Int×List UInt8} {hops:Int} {w:WY} (hV:NetP n) (hS:StP n s) (h0:0≤hops) (e:cirM n s hops=.hit w):WYP n hops 1 w∧FLD n s w∧cls w=true∧w.ps.dropLast.Nodup∧∀ x∈pthM n s hops,∀ i:Nat,(∃ z,x.ps[i]?=some z∧z∈x.ps.take i)→w.es.length≤cntI n (x.ps.take i):=by
 obtain ⟨h1,h2,h3,h4⟩:=src_hit hV hS h0 4098 [alnM s] [] 0 w (.inl ⟨rfl,rfl,rfl⟩) e
 obtain ⟨h5,h6,-⟩:=rw_rwp hV hS h0 h1
 refine ⟨h5,h6,h2,h3,?_⟩
 rintro x hx i ⟨z,hz,hzt⟩
 have hi:=(List.getElem?_eq_some_iff.1 hz).1
 obtain ⟨y,hy,hyp⟩:=rw_all hx (k:=i+1) (by omega) (by omega)
 have h7:cls y=true:=by
  unfold cls WY.last
  rw [hyp,take_dl hi,take_last hz]
  simpa using hzt
 have h8:=h4 y hy h7
 rw [rw_cnt hV hS h0 hy,hyp,take_dl hi] at h8
 exact h8
theorem nd_twi {L:List Int} {i:Nat} {z:Int} (h:L.Nodup) (hz:L[i]?=some z) (ht:z∈L.take i):False:=by
 obtain ⟨j,hj,e⟩:=List.mem_take_iff_getElem.1 ht
 obtain ⟨hi,e2⟩:=List.getElem?_eq_some_iff.1 hz
 have h9:=(List.pairwise_iff_getElem.1 h) j i (by omega) hi (by omega)
 exact h9 (by rw [e,e2])
theorem twi_dl {w:List Int} {t:Int} (hl:w.getLastD 0∈w.dropLast) (hd:w.dropLast.Nodup) (h:TWI w t):t=(w.length:Int) - 1∧1 < w.length:=by
 have hne:w.dropLast≠[]:=List.ne_nil_of_mem hl
 have hlen:1 < w.length:=by
  have:=List.length_pos_iff.2 hne
  rw [List.length_dropLast] at this
  omega
 have hlast:w[w.length - 1]?=some (w.getLastD 0):=by
  rw [List.getLastD_eq_getLast?,List.getLast?_eq_getElem?]
  rw [List.getElem?_eq_getElem (by omega)]
  rfl
 have hdl:w.dropLast=w.take (w.length - 1):=List.dropLast_eq_take
 refine ⟨?_,hlen⟩
 rcases h with ⟨rfl,hn⟩ | ⟨i,rfl,hi,⟨z,hz,hzt⟩,-⟩
 ·rw [hdl] at hl
  exact absurd (nd_twi hn hlast hl) id
 ·rcases (show i=w.length - 1∨i < w.length - 1 by omega) with h9 | h9
  ·omega
  ·exfalso
   refine nd_twi (i:=i) (z:=z) hd ?_ ?_
   ·rw [hdl,List.getElem?_take,if_pos h9];exact hz
   ·rw [hdl,List.take_take,Nat.min_eq_left (by omega)];exact hzt
set_option maxRecDepth 100000 in
set_option maxHeartbeats 16000000 in
theorem kinZ_any (L:List Int) (x:Int) (p:Option Addr) (m c:Nat) (w:World) (hm:L.length=m) (hl:LI w p L) (hM:m≤1000) :
  Calls Tryz.prog 12 #[.slice p m c,.int .i64 x] w fun e w'=>e=.returned (.bool (decide (x∈L)))∧Below w.heap.size w w':=by
 obtain ⟨R,hR⟩:∃ R,decide (x∈L)=R:=⟨_,rfl⟩
 rw [hR]
 have HN:Hid (L.length=m∧decide (x∈L)=R∧∀ U,Below w.heap.size w U→LI U p L):=⟨hm,hR,fun U hU=>hl.below hU⟩
 clear hm hl hR
 go_enter Tryz.func12,Tryz.ntmps12
 go_wp2_with fail
 go_loopw [5] (fun vk wr=>∃ k:Nat,vk=.int .i64 (k:Int)∧k≤m∧Hid (x ∉ L.take k∧Below w.heap.size w wr)) (fun vk _=>m - (intOf vk).toNat)
 case atStart=>exact ⟨0,rfl,Nat.zero_le _,by simp,Below.refl _ _⟩
 case round=>
  obtain ⟨k,rfl,hk,HB⟩:=hrel
  by_cases hlt:k < m
  ·obtain ⟨y,hy⟩:∃ y,L[k]?=some y:=⟨_,List.getElem?_eq_getElem (by have:=HN.out.1;omega)⟩
   obtain ⟨g1,o1,rfl,a0⟩:=HN.out.2.2 wr HB.out.2 k y hy
   have j0:(0:Int)≤(k:Int):=by omega
   have j1:(k:Int) < (m:Int):=by omega
   by_cases hxy:y=x
   ·have i0:(y==x)=true:=by simpa using hxy
    have HT:Hid (R=true):=by
     show R=true
     rw [←HN.out.2.1,←hxy]
     simpa using List.mem_of_getElem? hy
    clear hy hxy
    obtain rfl:=HT.out
    go_wp2_with fail
    go_ret
    exact ⟨rfl,HB.out.2⟩
   ·have i0:(y==x)=false:=by simpa using hxy
    have HT:Hid (x ∉ L.take (k+1)):=by
     show x ∉ L.take (k+1)
     rw [List.take_add_one,hy]
     intro h9
     rcases List.mem_append.1 h9 with h9 | h9
     ·exact HB.out.1 h9
     ·exact hxy (Eq.symm (by simpa using h9))
    clear hy hxy
    go_wp2_with fail
    go_roundw
    case rel=>exact ⟨k+1,by go_num,by omega,HT.out,HB.out.2⟩
    case measure=>simp [intOf];omega
  ·obtain rfl:k=m:=by omega
   have HT:Hid (R=false):=by
    show R=false
    have h9:=HB.out.1
    rw [List.take_of_length_le (by rw [HN.out.1];exact Nat.le_refl _)] at h9
    rw [←HN.out.2.1]
    simpa using h9
   obtain rfl:=HT.out
   go_wp2_with fail
   go_ret
   exact ⟨rfl,HB.out.2⟩
set_option maxRecDepth 100000 in
set_option maxHeartbeats 16000000 in
theorem twice_any (L:List Int) (p:Option Addr) (m c:Nat) (w:World) (hm:L.length=m) (hl:LI w p L) (hc:m≤c) (hM:m≤1000) :
  Calls Tryz.prog 24 #[.slice p m c] w fun e w'=>∃ t:Int,TWI L t∧e=.returned (.int .i64 t)∧Below w.heap.size w w':=by
 have hin:=fun (k:Nat) (x:Int) (U:World) (hU:Below w.heap.size w U) (hk:k≤m)=>kinZ_any (L.take k) x p k c U (by rw [List.length_take];omega) ((hl.below hU).take k) (by omega)
 have HN:Hid (L.length=m∧∀ U,Below w.heap.size w U→LI U p L):=⟨hm,fun U hU=>hl.below hU⟩
 have HIN:Hid (∀ (k:Nat) (x:Int) (U:World),Below w.heap.size w U→k≤m→Calls Tryz.prog 12 #[.slice p k c,.int .i64 x] U fun e w'=>e=.returned (.bool (decide (x∈L.take k)))∧Below U.heap.size U w'):=hin
 clear hin hm hl
 go_enter Tryz.func24,Tryz.ntmps24
 go_wp2_with fail
 go_loopw [3] (fun vk wr=>∃ k:Nat,vk=.int .i64 (k:Int)∧k≤m∧Hid ((L.take k).Nodup∧Below w.heap.size w wr)) (fun vk _=>m - (intOf vk).toNat)
 case atStart=>exact ⟨0,rfl,Nat.zero_le _,by simp,Below.refl _ _⟩
 case round=>
  obtain ⟨k,rfl,hk,HB⟩:=hrel
  by_cases hlt:k < m
  ·obtain ⟨y,hy⟩:∃ y,L[k]?=some y:=⟨_,List.getElem?_eq_getElem (by have:=HN.out.1;omega)⟩
   obtain ⟨g1,o1,rfl,a0⟩:=HN.out.2 wr HB.out.2 k y hy
   have j0:(0:Int)≤(k:Int):=by omega
   have j1:(k:Int) < (m:Int):=by omega
   have j2:(k:Int)≤(c:Int):=by omega
   have HCI:Hid (∀ U,Below w.heap.size w U→Calls Tryz.prog 12 #[.slice (some ⟨g1,o1,none⟩) k c,.int .i64 y] U fun e w'=>e=.returned (.bool (decide (y∈L.take k)))∧Below U.heap.size U w'):=fun U hU=>HIN.out k y U hU hk
   have HY:=hideL hy
   clear hy
   go_upto_region 4 with fail
   have hs0:wr.drew.cell? ⟨g1,o1+k,none⟩=some (.int .i64 y):=keepC (Below.refl _ _).drew a0
   clear a0
   refine wp_region_held_drew (S:=fun U=>U.cell? ⟨g1,o1+k,none⟩=some (.int .i64 y)) (by kernel_rfl) hs0 (fun _=>?_)
   refine tk 0 (.slice (some ⟨g1,o1,none⟩) m c) rfl hs0 ?_ ?_
   ·rintro w q0;go_simp
   refine tk 1 (.int .i64 (k:Int)) rfl hs0 ?_ ?_
   ·rintro w q0;go_simp
   refine tk 2 (.slice (some ⟨g1,o1,none⟩) k c) rfl hs0 ?_ ?_
   ·rintro w q0;go_simp
   refine tk 3 (.slice (some ⟨g1,o1,none⟩) m c) rfl hs0 ?_ ?_
   ·rintro w q0;go_simp
   refine tk 4 (.int .i64 (k:Int)) rfl hs0 ?_ ?_
   ·rintro w q0;go_simp
   refine tk 5 (.pointer (some ⟨g1,o1+k,none⟩)) rfl hs0 ?_ ?_
   ·rintro w q0;go_simp
   refine tk 6 (.int .i64 y) rfl hs0 ?_ ?_
   ·rintro w q0;go_simp
   refine rd 7 rfl fun KK hKK=>?_
   go_simp
   refine (HCI.out _ (bel0Z HB.out.2 (Below.refl _ _).drew)).mono ?_
   rintro en W2 ⟨rfl,b2⟩
   have hs1:=keepC b2 hs0
   have HB2:Hid (Below w.heap.size w W2):=bel0Z (bel0Z HB.out.2 (Below.refl _ _).drew) b2
   clear b2
   go_simp
   refine hKK.out _ _ hs1 (fun _=>?_)
   clear hKK KK hs0
   refine wpAnyH_done (by kernel_rfl) ?_ _
   try simp only [List.getElem_toArray,List.getElem_cons_succ,List.getElem_cons_zero,Act.put,List.setIfInBounds_toArray,List.set_cons_zero,List.set_cons_succ]
   clear hs1
   by_cases hyt:y∈L.take k
   ·have e9:decide (y∈L.take k)=true:=by simpa using hyt
    rw [e9]
    have HT:Hid (TWI L (k:Int)):=.inr ⟨k,rfl,by rw [HN.out.1];exact hlt,⟨y,HY.out,hyt⟩,HB.out.1⟩
    clear hyt e9
    go_wp2_with fail
    go_ret
    exact ⟨_,HT.out,rfl,HB2.out⟩
   ·have e9:decide (y∈L.take k)=false:=by simpa using hyt
    rw [e9]
    have HT:Hid ((L.take (k+1)).Nodup):=by
     show (L.take (k+1)).Nodup
     rw [List.take_add_one,HY.out,Option.toList_some,List.nodup_append]
     refine ⟨HB.out.1,by simp,fun a ha b hb e=>hyt ?_⟩
     obtain rfl:=List.mem_singleton.1 hb
     rw [←e]
     exact ha
    clear hyt e9
    go_wp2_with fail
    go_roundw
    case rel=>exact ⟨k+1,by go_num,by omega,HT.out,HB2.out⟩
    case measure=>simp [intOf];omega
  ·obtain rfl:k=m:=by omega
   have HT:Hid (TWI L (-1)):=by
    show TWI L (-1)
    have h9:=HB.out.1
    rw [List.take_of_length_le (by rw [HN.out.1];exact Nat.le_refl _)] at h9
    exact .inl ⟨rfl,h9⟩
   go_wp2_with fail
   go_ret
   exact ⟨_,HT.out,rfl,HB.out.2⟩
end Go.Proofs.YtbplhianpelmfaaGreatDoor.Nt
