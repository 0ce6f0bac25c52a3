import Derived.Test.YtbplhianpelmfaaGreatDoorYBU
namespace Go.Proofs.YtbplhianpelmfaaGreatDoor.Nt
open Go.RowKit Go.Shelf
def SRQ (R:SR) (w:World) (e:Ending) (w':World):Prop:=(match R with
 | .hit x=>∃ v:PV,e=.returned (.tuple #[.agg (paC (x,v)).toArray,.bool true,.int .i64 0])∧PL w' (x,v)
 | .go _=>e=.returned (.tuple #[.agg #[.slice none 0 0,.slice none 0 0,.string ⟨#[]⟩],.bool false,.int .i64 0])
 | .full=>e=.returned (.tuple #[.agg #[.slice none 0 0,.slice none 0 0,.string ⟨#[]⟩],.bool false,.int .i64 3]))∧Below w.heap.size w w'
theorem goal1_any (y:WY×WV) (w:World) (hL:WL w y) (hne:y.1.ps≠[]) (hN:y.1.ps.length≤1000) :
  Calls Tryz.prog 57 #[.agg (wyC y).toArray] w fun e w'=>e=.returned (.bool (cls y.1))∧Below w.heap.size w w':=by
 have hcl:=fun (U:World) (hU:Below w.heap.size w U)=>closed_any y U (hL.below hU) hne hN
 obtain ⟨⟨ps,es,hd⟩,⟨xp,xc,xe,xd⟩⟩:=y
 obtain ⟨d0,d1,d2,d3,d4,d5,d6,d7,d8,h9⟩:=c9_ex hd
 obtain ⟨xn,hxn⟩:∃ k,ps.length=k:=⟨_,rfl⟩
 obtain ⟨xm,hxm⟩:∃ k,es.length=k:=⟨_,rfl⟩
 rw [wyC_arr h9 hxn hxm] at hcl ⊢
 obtain ⟨bb,hbb⟩:∃ x,cls ⟨ps,es,hd⟩=x:=⟨_,rfl⟩
 rw [hbb] at hcl ⊢
 obtain ⟨b,hb⟩:∃ b,w.heap.size=b:=⟨_,rfl⟩
 obtain ⟨W1,hW1⟩:∃ W1,w.alloc (.cells #[.slice xp xn xc,.slice xe xm xd,.int .i64 d0,.int .u64 d1,.int .u64 d2,.int .u64 d3,.int .u64 d4,.int .u64 d5,.int .u64 d6,.int .u64 d7,.int .u64 d8] 114)=W1:=⟨_,rfl⟩
 have b1:Below w.heap.size w W1:=by rw [←hW1];exact belAZ (Below.refl _ _) _
 have kb:W1.heap[b]?=some (.cells #[.slice xp xn xc,.slice xe xm xd,.int .i64 d0,.int .u64 d1,.int .u64 d2,.int .u64 d3,.int .u64 d4,.int .u64 d5,.int .u64 d6,.int .u64 d7,.int .u64 d8] 114 (0,0)):=by rw [←hW1,←hb];exact alloc_getZ _ _
 have e1:=(cellsZ kb).1
 obtain ⟨s0,s1,s2,s3,s4,s5,s6,s7,s8,s9,s10⟩:W1.cell? ⟨b,0,none⟩=some (.slice xp xn xc)∧W1.cell? ⟨b,1,none⟩=some (.slice xe xm xd)∧W1.cell? ⟨b,2,none⟩=some (.int .i64 d0)∧W1.cell? ⟨b,3,none⟩=some (.int .u64 d1)∧W1.cell? ⟨b,4,none⟩=some (.int .u64 d2)∧W1.cell? ⟨b,5,none⟩=some (.int .u64 d3)∧W1.cell? ⟨b,6,none⟩=some (.int .u64 d4)∧W1.cell? ⟨b,7,none⟩=some (.int .u64 d5)∧W1.cell? ⟨b,8,none⟩=some (.int .u64 d6)∧W1.cell? ⟨b,9,none⟩=some (.int .u64 d7)∧W1.cell? ⟨b,10,none⟩=some (.int .u64 d8):=⟨by rw [e1];rfl,by rw [e1];rfl,by rw [e1];rfl,by rw [e1];rfl,by rw [e1];rfl,by rw [e1];rfl,by rw [e1];rfl,by rw [e1];rfl,by rw [e1];rfl,by rw [e1];rfl,by rw [e1];rfl⟩
 have HCL:=hideL (hcl W1 b1)
 have HB:=hideL hb
 have HB1:=hideL b1
 have HW1:=hideL hW1
 clear hcl hL hne hN h9 hxn hxm hbb hb hW1 b1 kb e1
 go_enter Tryz.func57,Tryz.ntmps57
 go_upto_region 1 with fail
 rw [HW1.out,HB.out]
 go_wp2_with fail
 refine (HCL.out).mono ?_
 rintro e W2 ⟨rfl,b2⟩
 have HF:=hideL (bel0Z HB1.out b2)
 clear b2 s0 s1 s2 s3 s4 s5 s6 s7 s8 s9 s10
 go_wp2_with fail
 go_ret
 exact ⟨rfl,HF.out⟩
theorem keep1_any (cs:Array Value) (w:World):Calls Tryz.prog 59 #[.agg cs] w fun e w'=>e=.returned (.bool true)∧Below w.heap.size w w':=by
 have b1:Below w.heap.size w (w.alloc (.cells cs 114)):=belAZ (Below.refl _ _) _
 go_enter Tryz.func59,Tryz.ntmps59
 go_wp2_with fail
 go_ret
 exact ⟨rfl,b1⟩
theorem field_st (x y0 y1 y2 y3 y4 y5 y6 y7 y8:Int) (w:World):(Instr.field 81 (.agg #[.int .i64 x,.int .i64 y0,.int .u64 y1,.int .u64 y2,.int .u64 y3,.int .u64 y4,.int .u64 y5,.int .u64 y6,.int .u64 y7,.int .u64 y8]) 0).run Tryz.prog w=.ok (.int .i64 x) w:=by kernel_rfl
theorem res_sr (tmps:Array Value) (W:World) (b:Nat) (p q:Option Addr) (np cp ne ce:Nat) (t:List UInt8) (x:Bool) (k:Int) (h:tmps[10]?.getD undef=.pointer (some ⟨b,0,none⟩)) (h11:tmps[11]?.getD undef=.bool x) (h12:tmps[12]?.getD undef=.int .i64 k) (hb:W.heap[b]?=some (.cells #[.slice p np cp,.slice q ne ce,.string ⟨t.toArray⟩] 52 (0,0))) :
  (results Tryz.f56 tmps).run Tryz.prog W=.ok (.tuple #[.agg #[.slice p np cp,.slice q ne ce,.string ⟨t.toArray⟩],.bool x,.int .i64 k]) W:=by
 have h1:=(cellsZ hb).1
 have c0:=h1 0
 have c1:=h1 1
 have c2:=h1 2
 simp at c0 c1 c2
 simp [results,h,h11,h12,c0,c1,c2,go_sem]
set_option maxRecDepth 100000 in
set_option maxHeartbeats 16000000 in
theorem search_any (n:NN) (v:NV) (np nt ng:Nat) (s:Int×List UInt8) (fv:WV) (hops:Int) (w:World) (hW:NW w n v) (hV:NetP n) (hs:StP n s) (h0:0≤hops) (hh:hops≤64) (hL:WL w (alnM s,fv)) (hnp:n.ports.length=np) (hnt:n.tabs.length=nt) (hng:n.grds.length=ng) :
  Calls Tryz.prog 56 #[.agg #[.slice v.pp np v.cp,.slice v.pt nt v.ct,.slice v.pg ng v.cg],.agg (wyC (alnM s,fv)).toArray,.int .i64 hops,.func (.func 57) #[] #[],.func (.func 59) #[] #[]] w (SRQ (src n hops cls 4098 [alnM s] [] 0) w):=by
 obtain ⟨R,hR⟩:∃ R,src n hops cls 4098 [alnM s] [] 0=R:=⟨_,rfl⟩
 rw [hR]
 obtain ⟨fp,fc,fe,fd⟩:=fv
 obtain ⟨sp,sh⟩:=s
 obtain ⟨a0,a1,a2,a3,a4,a5,a6,a7,a8,h9⟩:=c9_ex sh
 have e9:(wyC (alnM (sp,sh),(⟨fp,fc,fe,fd⟩:WV))).toArray=#[.slice fp 1 fc,.slice fe 0 fd,.int .i64 a0,.int .u64 a1,.int .u64 a2,.int .u64 a3,.int .u64 a4,.int .u64 a5,.int .u64 a6,.int .u64 a7,.int .u64 a8]:=wyC_arr (ps:=[sp]) (es:=[]) (hd:=sh) h9 rfl rfl
 rw [e9]
 have hst:=fun (x:WY) (xv:WV) (hx:RWP n hops (sp,sh) x) (U:World) (hU:Below w.heap.size w U) (hl:WL U (x,xv))=>stages_any n v np nt ng (x,xv) hops U (hW.below hU) hV hx.1 hl hh hnp
 have hon:=fun (x:WY) (xv:WV) (hx:RWP n hops (sp,sh) x) (U:World) (hU:Below w.heap.size w U) (hl:WL U (x,xv))=>onward_any n v np nt ng (x,xv) hops U (hW.below hU) hV hx.1 hl hh hnp hnt hng
 obtain ⟨hp0,-⟩:=hV.port hs.1 hs.2.1
 obtain ⟨gp,op,eg,-⟩:=hW.1 _ _ hp0
 obtain ⟨pp,cp,pt,ct,pg,cg⟩:=v
 simp only at eg hst hon hW ⊢
 subst eg
 have hlen:∀ x,RWP n hops (sp,sh) x→x.ps≠[]∧x.ps.length≤130∧x.es.length≤64∧Tn.good x.hd=true:=fun x hx=>by
  have h1:=hx.1.2.2.2.1
  have h2:=hx.1.2.2.2.2.1
  exact ⟨hx.1.1,by omega,by omega,cubeP_good (hdP_cube hx.1.2.2.1) hV.bits.2⟩
 obtain ⟨b,hb⟩:∃ b,w.heap.size=b:=⟨_,rfl⟩
 obtain ⟨b2,hb2⟩:∃ b2,b+1=b2:=⟨_,rfl⟩
 obtain ⟨b10,hb10⟩:∃ b10,b2+1=b10:=⟨_,rfl⟩
 obtain ⟨W1,hW1⟩:∃ W1,((w.alloc (.cells #[.slice (some ⟨gp,op,none⟩) np cp,.slice pt nt ct,.slice pg ng cg] 72)).alloc (.cells #[.slice fp 1 fc,.slice fe 0 fd,.int .i64 a0,.int .u64 a1,.int .u64 a2,.int .u64 a3,.int .u64 a4,.int .u64 a5,.int .u64 a6,.int .u64 a7,.int .u64 a8] 114)).alloc (.cells #[.slice none 0 0,.slice none 0 0,.string ⟨#[]⟩] 52)=W1:=⟨_,rfl⟩
 have z1:(w.alloc (.cells #[.slice (some ⟨gp,op,none⟩) np cp,.slice pt nt ct,.slice pg ng cg] 72)).heap.size=b2:=by rw [←hb2,←hb];exact Array.size_push _
 have z2:((w.alloc (.cells #[.slice (some ⟨gp,op,none⟩) np cp,.slice pt nt ct,.slice pg ng cg] 72)).alloc (.cells #[.slice fp 1 fc,.slice fe 0 fd,.int .i64 a0,.int .u64 a1,.int .u64 a2,.int .u64 a3,.int .u64 a4,.int .u64 a5,.int .u64 a6,.int .u64 a7,.int .u64 a8] 114)).heap.size=b10:=by rw [←hb10,←z1];exact Array.size_push _
 have b1:Below w.heap.size w W1:=by rw [←hW1];exact belAZ (belAZ (belAZ (Below.refl _ _) _) _) _
 have k1:W1.heap[b]?=some (.cells #[.slice (some ⟨gp,op,none⟩) np cp,.slice pt nt ct,.slice pg ng cg] 72 (0,0)):=by rw [←hW1,←hb];exact keepZ (belAZ (Below.refl _ _) _) (keepZ (belAZ (Below.refl _ _) _) (alloc_getZ _ _))
 have k2:W1.heap[b2]?=some (.cells #[.slice fp 1 fc,.slice fe 0 fd,.int .i64 a0,.int .u64 a1,.int .u64 a2,.int .u64 a3,.int .u64 a4,.int .u64 a5,.int .u64 a6,.int .u64 a7,.int .u64 a8] 114 (0,0)):=by rw [←hW1,←z1];exact keepZ (belAZ (Below.refl _ _) _) (alloc_getZ _ _)
 have k3:W1.heap[b10]?=some (.cells #[.slice none 0 0,.slice none 0 0,.string ⟨#[]⟩] 52 (0,0)):=by rw [←hW1,←z2];exact alloc_getZ _ _
 have HC:Hid (∀ U:World,Below W1.heap.size W1 U→(U.cell? ⟨b,0,none⟩=some (.slice (some ⟨gp,op,none⟩) np cp)∧U.cell? ⟨b,1,none⟩=some (.slice pt nt ct)∧U.cell? ⟨b,2,none⟩=some (.slice pg ng cg))∧U.heap[b10]?=some (.cells #[.slice none 0 0,.slice none 0 0,.string ⟨#[]⟩] 52 (0,0))∧Below w.heap.size w U):=fun U hU=>by
  have e1:=(cellsZ (keepZ hU k1)).1
  exact ⟨⟨by rw [e1];rfl,by rw [e1];rfl,by rw [e1];rfl⟩,keepZ hU k3,bel0Z b1 hU⟩
 have HB10:Hid (w.heap.size≤b10∧b≠b10):=⟨by omega,by omega⟩
 have HRW:Hid (∀ x,RW n hops (sp,sh) x→RWP n hops (sp,sh) x):=fun x hx=>rw_rwp hV hs h0 hx
 have HST:Hid (∀ (x:WY) (xp:Option Addr) (xc:Nat) (xe:Option Addr) (xd:Nat) (xn xm:Nat) (d0 d1 d2 d3 d4 d5 d6 d7 d8:Int) (U:World),RW n hops (sp,sh) x→C9 x.hd d0 d1 d2 d3 d4 d5 d6 d7 d8→x.ps.length=xn→x.es.length=xm→Below W1.heap.size W1 U→WL U (x,⟨xp,xc,xe,xd⟩)→Calls Tryz.prog 66 #[.agg #[.slice (some ⟨gp,op,none⟩) np cp,.slice pt nt ct,.slice pg ng cg],.agg #[.slice xp xn xc,.slice xe xm xd,.int .i64 d0,.int .u64 d1,.int .u64 d2,.int .u64 d3,.int .u64 d4,.int .u64 d5,.int .u64 d6,.int .u64 d7,.int .u64 d8]] U (ONQ (stgM n x) U)):=fun x xp xc xe xd xn xm d0 d1 d2 d3 d4 d5 d6 d7 d8 U hx h1 h2 h3 hU hl=>by
  have h:=hst x ⟨xp,xc,xe,xd⟩ (HRW.out x hx) U (HC.out U hU).2.2 hl
  rw [show (wyC (x,(⟨xp,xc,xe,xd⟩:WV))).toArray=#[.slice xp xn xc,.slice xe xm xd,.int .i64 d0,.int .u64 d1,.int .u64 d2,.int .u64 d3,.int .u64 d4,.int .u64 d5,.int .u64 d6,.int .u64 d7,.int .u64 d8] from wyC_arr (ps:=x.ps) (es:=x.es) (hd:=x.hd) h1 h2 h3] at h
  exact h
 have HON:Hid (∀ (x:WY) (xp:Option Addr) (xc:Nat) (xe:Option Addr) (xd:Nat) (xn xm:Nat) (d0 d1 d2 d3 d4 d5 d6 d7 d8:Int) (U:World),RW n hops (sp,sh) x→C9 x.hd d0 d1 d2 d3 d4 d5 d6 d7 d8→x.ps.length=xn→x.es.length=xm→Below W1.heap.size W1 U→WL U (x,⟨xp,xc,xe,xd⟩)→Calls Tryz.prog 67 #[.agg #[.slice (some ⟨gp,op,none⟩) np cp,.slice pt nt ct,.slice pg ng cg],.agg #[.slice xp xn xc,.slice xe xm xd,.int .i64 d0,.int .u64 d1,.int .u64 d2,.int .u64 d3,.int .u64 d4,.int .u64 d5,.int .u64 d6,.int .u64 d7,.int .u64 d8],.int .i64 hops] U (ONQ (onwM n hops x) U)):=fun x xp xc xe xd xn xm d0 d1 d2 d3 d4 d5 d6 d7 d8 U hx h1 h2 h3 hU hl=>by
  have h:=hon x ⟨xp,xc,xe,xd⟩ (HRW.out x hx) U (HC.out U hU).2.2 hl
  rw [show (wyC (x,(⟨xp,xc,xe,xd⟩:WV))).toArray=#[.slice xp xn xc,.slice xe xm xd,.int .i64 d0,.int .u64 d1,.int .u64 d2,.int .u64 d3,.int .u64 d4,.int .u64 d5,.int .u64 d6,.int .u64 d7,.int .u64 d8] from wyC_arr (ps:=x.ps) (es:=x.es) (hd:=x.hd) h1 h2 h3] at h
  exact h
 have HGO:Hid (∀ (x:WY) (xp:Option Addr) (xc:Nat) (xe:Option Addr) (xd:Nat) (xn xm:Nat) (d0 d1 d2 d3 d4 d5 d6 d7 d8:Int) (U:World),RW n hops (sp,sh) x→C9 x.hd d0 d1 d2 d3 d4 d5 d6 d7 d8→x.ps.length=xn→x.es.length=xm→WL U (x,⟨xp,xc,xe,xd⟩)→Calls Tryz.prog 57 #[.agg #[.slice xp xn xc,.slice xe xm xd,.int .i64 d0,.int .u64 d1,.int .u64 d2,.int .u64 d3,.int .u64 d4,.int .u64 d5,.int .u64 d6,.int .u64 d7,.int .u64 d8]] U fun e w'=>e=.returned (.bool (cls x))∧Below U.heap.size U w'):=fun x xp xc xe xd xn xm d0 d1 d2 d3 d4 d5 d6 d7 d8 U hx h1 h2 h3 hl=>by
  obtain ⟨l1,l2,-,-⟩:=hlen x (HRW.out x hx)
  have h:=goal1_any (x,⟨xp,xc,xe,xd⟩) U hl l1 (by show x.ps.length≤1000;omega)
  rw [show (wyC (x,(⟨xp,xc,xe,xd⟩:WV))).toArray=#[.slice xp xn xc,.slice xe xm xd,.int .i64 d0,.int .u64 d1,.int .u64 d2,.int .u64 d3,.int .u64 d4,.int .u64 d5,.int .u64 d6,.int .u64 d7,.int .u64 d8] from wyC_arr (ps:=x.ps) (es:=x.es) (hd:=x.hd) h1 h2 h3] at h
  exact h
 have HLA:Hid (∀ (x:WY) (xp:Option Addr) (xc:Nat) (xe:Option Addr) (xd:Nat) (xn xm:Nat) (d0 d1 d2 d3 d4 d5 d6 d7 d8:Int) (lp:Int) (U:World),RW n hops (sp,sh) x→C9 x.hd d0 d1 d2 d3 d4 d5 d6 d7 d8→x.ps.length=xn→x.es.length=xm→x.last=(lp,x.hd)→WL U (x,⟨xp,xc,xe,xd⟩)→Calls Tryz.prog 54 #[.agg #[.slice xp xn xc,.slice xe xm xd,.int .i64 d0,.int .u64 d1,.int .u64 d2,.int .u64 d3,.int .u64 d4,.int .u64 d5,.int .u64 d6,.int .u64 d7,.int .u64 d8]] U fun e w'=>e=.returned (.agg #[.int .i64 lp,.int .i64 d0,.int .u64 d1,.int .u64 d2,.int .u64 d3,.int .u64 d4,.int .u64 d5,.int .u64 d6,.int .u64 d7,.int .u64 d8])∧Below U.heap.size U w'):=fun x xp xc xe xd xn xm d0 d1 d2 d3 d4 d5 d6 d7 d8 lp U hx h1 h2 h3 h4 hl=>by
  obtain ⟨l1,l2,-,-⟩:=hlen x (HRW.out x hx)
  have h:=last_any (x,⟨xp,xc,xe,xd⟩) U hl l1 (by show x.ps.length≤1000;omega)
  rw [show (wyC (x,(⟨xp,xc,xe,xd⟩:WV))).toArray=#[.slice xp xn xc,.slice xe xm xd,.int .i64 d0,.int .u64 d1,.int .u64 d2,.int .u64 d3,.int .u64 d4,.int .u64 d5,.int .u64 d6,.int .u64 d7,.int .u64 d8] from wyC_arr (ps:=x.ps) (es:=x.es) (hd:=x.hd) h1 h2 h3,h4,stC_arr h1] at h
  exact h
 have HPA:Hid (∀ (x:WY) (xp:Option Addr) (xc:Nat) (xe:Option Addr) (xd:Nat) (xn xm:Nat) (d0 d1 d2 d3 d4 d5 d6 d7 d8:Int) (U:World),RW n hops (sp,sh) x→C9 x.hd d0 d1 d2 d3 d4 d5 d6 d7 d8→x.ps.length=xn→x.es.length=xm→WL U (x,⟨xp,xc,xe,xd⟩)→Calls Tryz.prog 68 #[.agg #[.slice xp xn xc,.slice xe xm xd,.int .i64 d0,.int .u64 d1,.int .u64 d2,.int .u64 d3,.int .u64 d4,.int .u64 d5,.int .u64 d6,.int .u64 d7,.int .u64 d8]] U fun e w'=>∃ u1 z1 u2 z2,e=.returned (.agg #[.slice u1 xn z1,.slice u2 xm z2,.string ⟨x.hd.toArray⟩])∧PL w' (x,⟨u1,z1,u2,z2⟩)∧Below U.heap.size U w'):=fun x xp xc xe xd xn xm d0 d1 d2 d3 d4 d5 d6 d7 d8 U hx h1 h2 h3 hl=>by
  obtain ⟨l1,l2,l3,l4⟩:=hlen x (HRW.out x hx)
  have h:=path_any (x,⟨xp,xc,xe,xd⟩) U hl (by show x.ps.length≤500;omega) (by show x.es.length≤500;omega) l4
  rw [show (wyC (x,(⟨xp,xc,xe,xd⟩:WV))).toArray=#[.slice xp xn xc,.slice xe xm xd,.int .i64 d0,.int .u64 d1,.int .u64 d2,.int .u64 d3,.int .u64 d4,.int .u64 d5,.int .u64 d6,.int .u64 d7,.int .u64 d8] from wyC_arr (ps:=x.ps) (es:=x.es) (hd:=x.hd) h1 h2 h3] at h
  refine h.mono ?_
  rintro e w' ⟨⟨u1,z1,u2,z2⟩,he,hl9,hb9⟩
  refine ⟨u1,z1,u2,z2,?_,hl9,hb9⟩
  rw [he]
  show Ending.returned (.agg #[.slice u1 x.ps.length z1,.slice u2 x.es.length z2,.string ⟨x.hd.toArray⟩])=_
  rw [h2,h3]
 have HLP:Hid (∀ (x:WY),RW n hops (sp,sh) x→∃ lp:Nat,x.last=((lp:Int),x.hd)∧lp < np∧∀ U,Below W1.heap.size W1 U→U.cell? ⟨gp,op+lp*4+2,none⟩=some (.bool (portAt n x.last.1).inn)):=fun x hx=>by
  have hst:=(HRW.out x hx).1.st
  have h1:=hst.1
  have h2:=hst.2.1
  obtain ⟨lp,hlp⟩:∃ lp:Nat,x.last.1=(lp:Int):=⟨x.last.1.toNat,by omega⟩
  refine ⟨lp,by rw [←hlp];rfl,by omega,fun U hU=>?_⟩
  obtain ⟨hpt,-⟩:=hV.port h1 h2
  rw [hlp] at hpt ⊢
  simp only [Int.toNat_natCast] at hpt
  obtain ⟨g,o,e,-,-,h3,-⟩:=(hW.below (HC.out U hU).2.2).1 lp _ hpt
  simp only [Option.some.injEq,Addr.mk.injEq] at e
  obtain ⟨rfl,rfl,-⟩:=e
  exact h3
 have HIC:Hid (∀ C G a,INV n hops (sp,sh) C G a→∀ c∈C,RW n hops (sp,sh) c):=fun C G a h c hc=>by
  obtain ⟨e,h1,-⟩:=inv_C hV hs h0 h
  exact (h1 c hc).1
 have HIS:Hid (∀ C G G1 a,INV n hops (sp,sh) C G a→prc n cls (C.flatMap (stgM n)) G=.go G1→KPT n hops (sp,sh) G1∧a≤G1.length∧∀ g1,G1[a]?=some g1→INV n hops (sp,sh) (onwM n hops g1) G1 (a+1)):=fun C G G1 a h hp=>(inv_step hV hs h0 h hp).2
 have HON4:Hid (∀ x,RW n hops (sp,sh) x→(onwM n hops x).length≤4):=fun x hx=>by
  have hst:=(HRW.out x hx).1.st
  have h4:=(apl_st hV hst.1 hst.2.1 hst.2.2).1
  unfold onwM
  split
  ·rw [List.length_map];exact h4
  ·simp
 obtain ⟨S,hS⟩:∃ S,W1.heap.size=S:=⟨_,rfl⟩
 obtain ⟨W2,hW2⟩:∃ W2,W1.alloc (.cells #[.slice fp 1 fc,.slice fe 0 fd,.int .i64 a0,.int .u64 a1,.int .u64 a2,.int .u64 a3,.int .u64 a4,.int .u64 a5,.int .u64 a6,.int .u64 a7,.int .u64 a8] 114 (0,0))=W2:=⟨_,rfl⟩
 have b12:Below W1.heap.size W1 W2:=by rw [←hW2];exact belAZ (Below.refl _ _) _
 have hl2:WL W2 (alnM (sp,sh),⟨fp,fc,fe,fd⟩):=hL.below (bel0Z b1 b12)
 have ho2:OTH W2 (.slice none 0 0) (some ⟨S,0,none⟩) 1 1 [alnM (sp,sh)]:=by
  refine ⟨[(alnM (sp,sh),⟨fp,fc,fe,fd⟩)],W1.heap.size,rfl,rfl,?_,fun x hx=>(by obtain rfl:=List.mem_singleton.1 hx;exact hl2),fun c hc e=>(by cases e)⟩
  have h:=own_one (W:=W1) (T:=114) (s:=11) (cs:=#[.slice fp 1 fc,.slice fe 0 fd,.int .i64 a0,.int .u64 a1,.int .u64 a2,.int .u64 a3,.int .u64 a4,.int .u64 a5,.int .u64 a6,.int .u64 a7,.int .u64 a8]) rfl
  rw [hW2] at h
  rw [←hS]
  have e:[(alnM (sp,sh),(⟨fp,fc,fe,fd⟩:WV))].flatMap wyC=(#[.slice fp 1 fc,.slice fe 0 fd,.int .i64 a0,.int .u64 a1,.int .u64 a2,.int .u64 a3,.int .u64 a4,.int .u64 a5,.int .u64 a6,.int .u64 a7,.int .u64 a8]:Array Value).toList:=by
   rw [←e9]
   simp
  rw [e]
  exact h
 have H2:Hid (GAT W2 S none 0 0 []∧OTH W2 (.slice none 0 0) (some ⟨S,0,none⟩) 1 1 [alnM (sp,sh)]∧Below W1.heap.size W1 W2):=⟨⟨[],rfl,rfl,World.ownsRow_nil _ _ _ _,fun x hx=>by simp at hx⟩,ho2,b12⟩
 have HRR:Hid (src n hops cls 4098 [alnM (sp,sh)] [] 0=R):=hR
 have HS:=hideL hS
 have HW2:=hideL hW2
 have HB:=hideL hb
 have HB2:=hideL hb2
 have HBT:=hideL hb10
 have HW1:=hideL hW1
 have e2:=(cellsZ k2).1
 obtain ⟨f0,f1,f2,f3,f4,f5,f6,f7,f8,f9,f10⟩:W1.cell? ⟨b2,0,none⟩=some (.slice fp 1 fc)∧W1.cell? ⟨b2,1,none⟩=some (.slice fe 0 fd)∧W1.cell? ⟨b2,2,none⟩=some (.int .i64 a0)∧W1.cell? ⟨b2,3,none⟩=some (.int .u64 a1)∧W1.cell? ⟨b2,4,none⟩=some (.int .u64 a2)∧W1.cell? ⟨b2,5,none⟩=some (.int .u64 a3)∧W1.cell? ⟨b2,6,none⟩=some (.int .u64 a4)∧W1.cell? ⟨b2,7,none⟩=some (.int .u64 a5)∧W1.cell? ⟨b2,8,none⟩=some (.int .u64 a6)∧W1.cell? ⟨b2,9,none⟩=some (.int .u64 a7)∧W1.cell? ⟨b2,10,none⟩=some (.int .u64 a8):=⟨by rw [e2];rfl,by rw [e2];rfl,by rw [e2];rfl,by rw [e2];rfl,by rw [e2];rfl,by rw [e2];rfl,by rw [e2];rfl,by rw [e2];rfl,by rw [e2];rfl,by rw [e2];rfl,by rw [e2];rfl⟩
 clear hW hV hs h0 hh hL hnp hnt hng hR h9 e9 hst hon hp0 hlen hb hb2 hb10 hW1 z1 z2 b1 k1 k2 k3 hS hW2 b12 hl2 ho2 e2
 go_enter Tryz.func56,Tryz.ntmps56
 go_upto_region 1 with fail
 simp only [HW1.out,HB.out,HB2.out,HBT.out]
 go_upto_region 3 with fail
 rw [HW2.out,HS.out]
 clear f0 f1 f2 f3 f4 f5 f6 f7 f8 f9 f10
 go_wp2_with fail
 go_loopw [13,14,15] (fun v13 v14 v15 wr=>∃ (C G:List WY) (a m13 n14 c13 c14:Nat) (q13 q14:Option Addr),v13=.slice q13 m13 c13∧v14=.slice q14 n14 c14∧v15=.int .i64 (a:Int)∧a≤4097∧n14≤4∧m13≤4096∧Hid (INV n hops (sp,sh) C G a∧src n hops cls (4098 - a) C G a=R)∧Hid (GAT wr S q13 m13 c13 G∧OTH wr (.slice q13 m13 c13) q14 n14 c14 C∧Below W1.heap.size W1 wr)) (fun _ _ v15 _=>4098 - (intOf v15).toNat)
 case atStart=>exact ⟨[alnM (sp,sh)],[],0,0,1,0,1,none,some ⟨S,0,none⟩,rfl,rfl,rfl,by omega,by omega,by omega,⟨.inl ⟨rfl,rfl,rfl⟩,HRR.out⟩,H2.out⟩
 case round=>
  clear H2 HRR
  obtain ⟨C,G,a,m13,n14,c13,c14,q13,q14,rfl,rfl,rfl,ha,hn14,hm13,HI,HST0⟩:=hrel
  obtain ⟨wo,rfl⟩:∃ x,x=wr:=⟨wr,rfl⟩
  obtain ⟨P,hP⟩:∃ P,prc n cls (C.flatMap (stgM n)) G=P:=⟨_,rfl⟩
  have HP:Hid (INV n hops (sp,sh) C G a∧prc n cls (C.flatMap (stgM n)) G=P∧C.length=n14∧(∀ x,P=.hit x→R=.hit x)∧(P=.full→R=.full)∧∀ G1,P=.go G1→R=(match G1[a]? with
   | some g=>src n hops cls (4097 - a) (onwM n hops g) G1 (a+1)
   | none=>.go G1)):=by
   have h2:=HI.out.2
   rw [show 4098 - a=(4097 - a)+1 by omega,src_unf,hP] at h2
   obtain ⟨V,B,-,hl,-⟩:=HST0.out.2.1
   refine ⟨HI.out.1,hP,hl,fun x hx=>?_,fun hx=>?_,fun G1 hx=>?_⟩
   ·rw [hx] at h2;exact h2.symm
   ·rw [hx] at h2;exact h2.symm
   ·rw [hx] at h2;exact h2.symm
  clear HI hP
  go_wp2_with fail
  go_loopw [13,26] (fun v13 v26 wr=>∃ (G1:List WY) (k m1 c1:Nat) (q1:Option Addr),v13=.slice q1 m1 c1∧v26=.int .i64 (k:Int)∧k≤n14∧m1≤4096∧Hid (prc n cls ((C.drop k).flatMap (stgM n)) G1=P)∧Hid (GAT wr S q1 m1 c1 G1∧OTH wr (.slice q1 m1 c1) q14 n14 c14 C∧Below W1.heap.size W1 wr)) (fun _ v26 _=>n14 - (intOf v26).toNat)
  case atStart=>exact ⟨G,0,m13,c13,q13,rfl,rfl,Nat.zero_le _,hm13,HP.out.2.1,HST0.out⟩
  case round=>
   clear HST0
   obtain ⟨G1,k,m1,c1,q1,rfl,rfl,hk,hm1,HQ,HS1⟩:=hrel
   obtain ⟨wm,rfl⟩:∃ x,x=wr:=⟨wr,rfl⟩
   by_cases hlt:k < n14
   ·obtain ⟨x,hx⟩:∃ x,C[k]?=some x:=⟨_,List.getElem?_eq_getElem (by have:=HP.out.2.2.1;omega)⟩
    have hxr:=HIC.out C G a HP.out.1 x (List.mem_of_getElem? hx)
    obtain ⟨g1,o1,⟨xp,xc,xe,xd⟩,e9,hwl,hcx⟩:=HS1.out.2.1.at hx
    obtain ⟨d0,d1,d2,d3,d4,d5,d6,d7,d8,h8⟩:=c9_ex x.hd
    obtain ⟨xn,hxn⟩:∃ k,x.ps.length=k:=⟨_,rfl⟩
    obtain ⟨xm,hxm⟩:∃ k,x.es.length=k:=⟨_,rfl⟩
    have hXc:wyC (x,(⟨xp,xc,xe,xd⟩:WV))=[.slice xp xn xc,.slice xe xm xd,.int .i64 d0,.int .u64 d1,.int .u64 d2,.int .u64 d3,.int .u64 d4,.int .u64 d5,.int .u64 d6,.int .u64 d7,.int .u64 d8]:=congrArg Array.toList (wyC_arr (ps:=x.ps) (es:=x.es) (hd:=x.hd) h8 hxn hxm)
    have hcx9:∀ (i:Nat) (u:Value),([.slice xp xn xc,.slice xe xm xd,.int .i64 d0,.int .u64 d1,.int .u64 d2,.int .u64 d3,.int .u64 d4,.int .u64 d5,.int .u64 d6,.int .u64 d7,.int .u64 d8]:List Value)[i]?=some u→wm.cell? ⟨g1,o1+k*11+i,none⟩=some u:=fun i u hu=>hcx i u (by rw [hXc];exact hu)
    have u0:=hcx9 0 _ rfl
    have u1:=hcx9 1 _ rfl
    have u2:=hcx9 2 _ rfl
    have u3:=hcx9 3 _ rfl
    have u4:=hcx9 4 _ rfl
    have u5:=hcx9 5 _ rfl
    have u6:=hcx9 6 _ rfl
    have u7:=hcx9 7 _ rfl
    have u8:=hcx9 8 _ rfl
    have u9:=hcx9 9 _ rfl
    have u10:=hcx9 10 _ rfl
    rw [Nat.add_zero] at u0
    subst e9
    obtain ⟨b17,hb17⟩:∃ x,wm.heap.size=x:=⟨_,rfl⟩
    obtain ⟨W5,hW5⟩:∃ W5,wm.alloc (.cells #[.slice xp xn xc,.slice xe xm xd,.int .i64 d0,.int .u64 d1,.int .u64 d2,.int .u64 d3,.int .u64 d4,.int .u64 d5,.int .u64 d6,.int .u64 d7,.int .u64 d8] 114)=W5:=⟨_,rfl⟩
    have b5:Below wm.heap.size wm W5:=by rw [←hW5];exact belAZ (Below.refl _ _) _
    have k5:W5.heap[b17]?=some (.cells #[.slice xp xn xc,.slice xe xm xd,.int .i64 d0,.int .u64 d1,.int .u64 d2,.int .u64 d3,.int .u64 d4,.int .u64 d5,.int .u64 d6,.int .u64 d7,.int .u64 d8] 114 (0,0)):=by rw [←hW5,←hb17];exact alloc_getZ _ _
    have c5:Below W1.heap.size W1 W5:=bel0Z HS1.out.2.2 b5
    have HST5:=hideL (HST.out x xp xc xe xd xn xm d0 d1 d2 d3 d4 d5 d6 d7 d8 W5 hxr h8 hxn hxm c5 (hwl.below b5))
    have H5:Hid (GAT W5 S q1 m1 c1 G1∧OTH W5 (.slice q1 m1 c1) (some ⟨g1,o1,none⟩) n14 c14 C∧Below W1.heap.size W1 W5∧C[k]?=some x∧RW n hops (sp,sh) x∧(∀ b,(Value.slice q1 m1 c1).ownBlock=some b→b < W5.heap.size)):=⟨HS1.out.1.below b5,HS1.out.2.1.below b5,c5,hx,hxr,fun b e=>by
     obtain ⟨V,-,-,ho,-⟩:=HS1.out.1
     have:=(World.ownsRow.lt ho b e).2
     have:=b5.size
     omega⟩
    obtain ⟨q0,q1n,q2⟩:=(HC.out W5 c5).1
    have e5:=(cellsZ k5).1
    have t0:W5.cell? ⟨b17,0,none⟩=some (.slice xp xn xc):=by rw [e5];rfl
    have t1:W5.cell? ⟨b17,1,none⟩=some (.slice xe xm xd):=by rw [e5];rfl
    have t2:W5.cell? ⟨b17,2,none⟩=some (.int .i64 d0):=by rw [e5];rfl
    have t3:W5.cell? ⟨b17,3,none⟩=some (.int .u64 d1):=by rw [e5];rfl
    have t4:W5.cell? ⟨b17,4,none⟩=some (.int .u64 d2):=by rw [e5];rfl
    have t5:W5.cell? ⟨b17,5,none⟩=some (.int .u64 d3):=by rw [e5];rfl
    have t6:W5.cell? ⟨b17,6,none⟩=some (.int .u64 d4):=by rw [e5];rfl
    have t7:W5.cell? ⟨b17,7,none⟩=some (.int .u64 d5):=by rw [e5];rfl
    have t8:W5.cell? ⟨b17,8,none⟩=some (.int .u64 d6):=by rw [e5];rfl
    have t9:W5.cell? ⟨b17,9,none⟩=some (.int .u64 d7):=by rw [e5];rfl
    have t10:W5.cell? ⟨b17,10,none⟩=some (.int .u64 d8):=by rw [e5];rfl
    have HW5:=hideL hW5
    have HB17:=hideL hb17
    have j0:(0:Int)≤(k:Int):=by omega
    have j1:(k:Int) < (n14:Int):=by omega
    clear hx hxr hwl hcx hcx9 h8 hxn hxm hXc hb17 hW5 b5 k5 c5 e5
    go_upto_region 8 with fail
    rw [HW5.out,HB17.out]
    clear u0 u1 u2 u3 u4 u5 u6 u7 u8 u9 u10
    go_wp2_with fail
    refine (HST5.out).mono ?_
    rintro e W6 ⟨qs,cs,V6,hVm,rfl,hVo,hVl,c6⟩
    obtain ⟨nst,hnst⟩:∃ k,(stgM n x).length=k:=⟨_,rfl⟩
    rw [hnst]
    have hns2:nst≤2:=by
     have:=ov_le n x.last
     rw [←hnst]
     unfold stgM
     rw [List.length_cons,List.length_map]
     omega
    have H6:Hid (prc n cls ((stgM n x).drop 0++(C.drop (k+1)).flatMap (stgM n)) G1=P):=by
     have h9:=HQ.out
     have hd:C.drop k=x :: C.drop (k+1):=by
      obtain ⟨y1,y2⟩:=List.getElem?_eq_some_iff.1 H5.out.2.2.2.1
      rw [List.drop_eq_getElem_cons y1,y2]
     rw [hd,List.flatMap_cons] at h9
     exact h9
    have H6S:Hid (GAT W6 S q1 m1 c1 G1∧OTH W6 (.slice q1 m1 c1) (some ⟨g1,o1,none⟩) n14 c14 C∧OTH W6 (.slice q1 m1 c1) qs nst cs (stgM n x)∧Below W1.heap.size W1 W6):=by
     refine ⟨H5.out.1.below c6,H5.out.2.1.below c6,⟨V6,W5.heap.size,hVm,hnst,by rw [←hnst];exact hVo,hVl,fun b hb e=>?_⟩,bel0Z H5.out.2.2.1 c6⟩
     have h1:=H5.out.2.2.2.2.2 b e
     rw [←hnst] at hb
     have h2:=(World.ownsRow.lt hVo b hb).1
     omega
    have HNS:Hid ((stgM n x).length=nst∧RW n hops (sp,sh) x):=⟨hnst,H5.out.2.2.2.2.1⟩
    clear hVm hVo hVl c6 hnst q0 q1n q2 t0 t1 t2 t3 t4 t5 t6 t7 t8 t9 t10 HQ HS1 H5
    go_wp2_with fail
    go_loopw [13,34] (fun v13 v34 wr=>∃ (G2:List WY) (j m2 c2:Nat) (q2:Option Addr),v13=.slice q2 m2 c2∧v34=.int .i64 (j:Int)∧j≤nst∧m2≤4096∧Hid (prc n cls ((stgM n x).drop j++(C.drop (k+1)).flatMap (stgM n)) G2=P)∧Hid (GAT wr S q2 m2 c2 G2∧OTH wr (.slice q2 m2 c2) (some ⟨g1,o1,none⟩) n14 c14 C∧OTH wr (.slice q2 m2 c2) qs nst cs (stgM n x)∧Below W1.heap.size W1 wr)) (fun _ v34 _=>nst - (intOf v34).toNat)
    case atStart=>exact ⟨G1,0,m1,c1,q1,rfl,rfl,Nat.zero_le _,hm1,H6.out,H6S.out⟩
    case round=>
     clear H6 H6S
     obtain ⟨G2,j,m2,c2,qg,rfl,rfl,hj,hm2,HQ,HS2⟩:=hrel
     obtain ⟨wi,rfl⟩:∃ x,x=wr:=⟨wr,rfl⟩
     by_cases hjt:j < nst
     ·obtain ⟨y,hy⟩:∃ y,(stgM n x)[j]?=some y:=⟨_,List.getElem?_eq_getElem (by have:=HNS.out.1;omega)⟩
      have hyr:=(stg_rw HNS.out.2 (List.mem_of_getElem? hy)).1
      obtain ⟨g2,o2,⟨ep,ec,ee,ed⟩,e9,hwl,hcx⟩:=HS2.out.2.2.1.at hy
      obtain ⟨y0,y1,y2,y3,y4,y5,y6,y7,y8,h8⟩:=c9_ex y.hd
      obtain ⟨en,hen⟩:∃ k,y.ps.length=k:=⟨_,rfl⟩
      obtain ⟨em,hem⟩:∃ k,y.es.length=k:=⟨_,rfl⟩
      have hWc:(wyC (y,(⟨ep,ec,ee,ed⟩:WV))).toArray=#[.slice ep en ec,.slice ee em ed,.int .i64 y0,.int .u64 y1,.int .u64 y2,.int .u64 y3,.int .u64 y4,.int .u64 y5,.int .u64 y6,.int .u64 y7,.int .u64 y8]:=wyC_arr (ps:=y.ps) (es:=y.es) (hd:=y.hd) h8 hen hem
      have hWl:wyC (y,(⟨ep,ec,ee,ed⟩:WV))=[.slice ep en ec,.slice ee em ed,.int .i64 y0,.int .u64 y1,.int .u64 y2,.int .u64 y3,.int .u64 y4,.int .u64 y5,.int .u64 y6,.int .u64 y7,.int .u64 y8]:=congrArg Array.toList hWc
      have hcx9:∀ (i:Nat) (u:Value),([.slice ep en ec,.slice ee em ed,.int .i64 y0,.int .u64 y1,.int .u64 y2,.int .u64 y3,.int .u64 y4,.int .u64 y5,.int .u64 y6,.int .u64 y7,.int .u64 y8]:List Value)[i]?=some u→wi.cell? ⟨g2,o2+j*11+i,none⟩=some u:=fun i u hu=>hcx i u (by rw [hWl];exact hu)
      have u0:=hcx9 0 _ rfl
      have u1:=hcx9 1 _ rfl
      have u2:=hcx9 2 _ rfl
      have u3:=hcx9 3 _ rfl
      have u4:=hcx9 4 _ rfl
      have u5:=hcx9 5 _ rfl
      have u6:=hcx9 6 _ rfl
      have u7:=hcx9 7 _ rfl
      have u8:=hcx9 8 _ rfl
      have u9:=hcx9 9 _ rfl
      have u10:=hcx9 10 _ rfl
      rw [Nat.add_zero] at u0
      subst e9
      obtain ⟨b19,hb19⟩:∃ x,wi.heap.size=x:=⟨_,rfl⟩
      obtain ⟨W7,hW7⟩:∃ W7,wi.alloc (.cells #[.slice ep en ec,.slice ee em ed,.int .i64 y0,.int .u64 y1,.int .u64 y2,.int .u64 y3,.int .u64 y4,.int .u64 y5,.int .u64 y6,.int .u64 y7,.int .u64 y8] 114)=W7:=⟨_,rfl⟩
      have b7:Below wi.heap.size wi W7:=by rw [←hW7];exact belAZ (Below.refl _ _) _
      have k7:W7.heap[b19]?=some (.cells #[.slice ep en ec,.slice ee em ed,.int .i64 y0,.int .u64 y1,.int .u64 y2,.int .u64 y3,.int .u64 y4,.int .u64 y5,.int .u64 y6,.int .u64 y7,.int .u64 y8] 114 (0,0)):=by rw [←hW7,←hb19];exact alloc_getZ _ _
      have c7:Below W1.heap.size W1 W7:=bel0Z HS2.out.2.2.2 b7
      obtain ⟨lp,hlp,hlpn,hlpc⟩:=HLP.out y hyr
      obtain ⟨inn,hinn⟩:∃ i,(portAt n y.last.1).inn=i:=⟨_,rfl⟩
      rw [hinn] at hlpc
      obtain ⟨yh,hyh⟩:∃ h,y.hd=h:=⟨_,rfl⟩
      have HD:Hid (∀ U,Below W7.heap.size W7 U→((U.cell? ⟨b,0,none⟩=some (.slice (some ⟨gp,op,none⟩) np cp)∧U.cell? ⟨b,1,none⟩=some (.slice pt nt ct)∧U.cell? ⟨b,2,none⟩=some (.slice pg ng cg))∧(U.cell? ⟨b19,0,none⟩=some (.slice ep en ec)∧U.cell? ⟨b19,1,none⟩=some (.slice ee em ed)∧U.cell? ⟨b19,2,none⟩=some (.int .i64 y0)∧U.cell? ⟨b19,3,none⟩=some (.int .u64 y1)∧U.cell? ⟨b19,4,none⟩=some (.int .u64 y2)∧U.cell? ⟨b19,5,none⟩=some (.int .u64 y3)∧U.cell? ⟨b19,6,none⟩=some (.int .u64 y4)∧U.cell? ⟨b19,7,none⟩=some (.int .u64 y5)∧U.cell? ⟨b19,8,none⟩=some (.int .u64 y6)∧U.cell? ⟨b19,9,none⟩=some (.int .u64 y7)∧U.cell? ⟨b19,10,none⟩=some (.int .u64 y8))∧U.cell? ⟨gp,op+lp*4+2,none⟩=some (.bool inn))∧WL U (y,⟨ep,ec,ee,ed⟩)∧Below W1.heap.size W1 U∧GAT U S qg m2 c2 G2∧OTH U (.slice qg m2 c2) (some ⟨g1,o1,none⟩) n14 c14 C∧OTH U (.slice qg m2 c2) (some ⟨g2,o2,none⟩) nst cs (stgM n x)∧U.heap[b10]?=some (.cells #[.slice none 0 0,.slice none 0 0,.string ⟨#[]⟩] 52 (0,0))):=fun U hU=>by
       have ex:=(cellsZ (keepZ hU k7)).1
       have hb1:=bel0Z c7 hU
       have hb7:=bel0Z b7 hU
       exact ⟨⟨(HC.out U hb1).1,⟨by rw [ex];rfl,by rw [ex];rfl,by rw [ex];rfl,by rw [ex];rfl,by rw [ex];rfl,by rw [ex];rfl,by rw [ex];rfl,by rw [ex];rfl,by rw [ex];rfl,by rw [ex];rfl,by rw [ex];rfl⟩,hlpc U hb1⟩,hwl.below hb7,hb1,HS2.out.1.below hb7,HS2.out.2.1.below hb7,HS2.out.2.2.1.below hb7,(HC.out U hb1).2.1⟩
      have HGO7:Hid (∀ U,Below W7.heap.size W7 U→Calls Tryz.prog 57 #[.agg #[.slice ep en ec,.slice ee em ed,.int .i64 y0,.int .u64 y1,.int .u64 y2,.int .u64 y3,.int .u64 y4,.int .u64 y5,.int .u64 y6,.int .u64 y7,.int .u64 y8]] U fun e w'=>e=.returned (.bool (cls y))∧Below U.heap.size U w'):=fun U hU=>HGO.out y ep ec ee ed en em y0 y1 y2 y3 y4 y5 y6 y7 y8 U hyr h8 hen hem (HD.out U hU).2.1
      have HLA7:Hid (∀ U,Below W7.heap.size W7 U→Calls Tryz.prog 54 #[.agg #[.slice ep en ec,.slice ee em ed,.int .i64 y0,.int .u64 y1,.int .u64 y2,.int .u64 y3,.int .u64 y4,.int .u64 y5,.int .u64 y6,.int .u64 y7,.int .u64 y8]] U fun e w'=>e=.returned (.agg #[.int .i64 (lp:Int),.int .i64 y0,.int .u64 y1,.int .u64 y2,.int .u64 y3,.int .u64 y4,.int .u64 y5,.int .u64 y6,.int .u64 y7,.int .u64 y8])∧Below U.heap.size U w'):=fun U hU=>HLA.out y ep ec ee ed en em y0 y1 y2 y3 y4 y5 y6 y7 y8 (lp:Int) U hyr h8 hen hem hlp (HD.out U hU).2.1
      have HPA7:Hid (∀ U,Below W7.heap.size W7 U→Calls Tryz.prog 68 #[.agg #[.slice ep en ec,.slice ee em ed,.int .i64 y0,.int .u64 y1,.int .u64 y2,.int .u64 y3,.int .u64 y4,.int .u64 y5,.int .u64 y6,.int .u64 y7,.int .u64 y8]] U fun e w'=>∃ u1 z1 u2 z2,e=.returned (.agg #[.slice u1 en z1,.slice u2 em z2,.string ⟨yh.toArray⟩])∧PL w' (y,⟨u1,z1,u2,z2⟩)∧Below U.heap.size U w'):=fun U hU=>by
       have h:=HPA.out y ep ec ee ed en em y0 y1 y2 y3 y4 y5 y6 y7 y8 U hyr h8 hen hem (HD.out U hU).2.1
       rw [hyh] at h
       exact h
      have HKE7:Hid (∀ U,Calls Tryz.prog 59 #[.agg #[.slice ep en ec,.slice ee em ed,.int .i64 y0,.int .u64 y1,.int .u64 y2,.int .u64 y3,.int .u64 y4,.int .u64 y5,.int .u64 y6,.int .u64 y7,.int .u64 y8]] U fun e w'=>e=.returned (.bool true)∧Below U.heap.size U w'):=fun U=>keep1_any _ U
      have hdj:(stgM n x).drop j=y :: (stgM n x).drop (j+1):=by
       obtain ⟨z1,z2⟩:=List.getElem?_eq_some_iff.1 hy
       rw [List.drop_eq_getElem_cons z1,z2]
      have HQ7:Hid ((if cls y=true then SR.hit y else if inn=false then prc n cls ((stgM n x).drop (j+1)++(C.drop (k+1)).flatMap (stgM n)) G2 else if G2.length=4096 then SR.full else prc n cls ((stgM n x).drop (j+1)++(C.drop (k+1)).flatMap (stgM n)) (G2++[y]))=P∧G2.length=m2∧y.ps.length=en∧y.es.length=em∧y.hd=yh∧(wyC (y,(⟨ep,ec,ee,ed⟩:WV))).toArray=#[.slice ep en ec,.slice ee em ed,.int .i64 y0,.int .u64 y1,.int .u64 y2,.int .u64 y3,.int .u64 y4,.int .u64 y5,.int .u64 y6,.int .u64 y7,.int .u64 y8]):=by
       have h9:=HQ.out
       rw [hdj,List.cons_append,prc_cons,hinn] at h9
       obtain ⟨V,-,hl,-⟩:=HS2.out.1
       exact ⟨h9,hl,hen,hem,hyh,hWc⟩
      obtain ⟨cy,hcy⟩:∃ c,cls y=c:=⟨_,rfl⟩
      rw [hcy] at HGO7 HQ7
      have HW7:=hideL hW7
      have HB19:=hideL hb19
      have j3:(0:Int)≤(j:Int):=by omega
      have j4:(j:Int) < (nst:Int):=by omega
      have j5:(0:Int)≤(lp:Int):=by omega
      have j6:(lp:Int) < (np:Int):=by omega
      obtain ⟨⟨⟨q0,q1,q2⟩,⟨s0,s1,s2,s3,s4,s5,s6,s7,s8,s9,s10⟩,t0⟩,-⟩:=HD.out W7 (Below.refl _ _)
      clear hy hyr hwl hcx hcx9 h8 hen hem hWc hWl hb19 hW7 b7 k7 c7 hlp hlpn hlpc hinn hyh hdj hcy HQ HS2
      go_upto_region 12 with fail
      rw [HW7.out,HB19.out]
      clear u0 u1 u2 u3 u4 u5 u6 u7 u8 u9 u10
      go_wp2_with fail
      refine (HGO7.out W7 (Below.refl _ _)).mono ?_
      rintro e W8 ⟨rfl,b8⟩
      have HB8:=hideL b8
      clear b8 q0 q1 q2 t0
      clear s0 s1 s2 s3 s4 s5 s6 s7 s8 s9 s10
      cases cy with
      | true=>
       have HR9:Hid (R=.hit y):=by
        have h9:=HQ7.out.1
        rw [if_pos rfl] at h9
        exact HP.out.2.2.2.1 y h9.symm
       obtain ⟨⟨⟨q0,q1,q2⟩,⟨s0,s1,s2,s3,s4,s5,s6,s7,s8,s9,s10⟩,t0⟩,-⟩:=HD.out W8 HB8.out
       clear q0 q1 q2 t0
       go_wp2_with fail
       refine (HPA7.out W8 HB8.out).mono ?_
       rintro e W9 ⟨u1,z1,u2,z2,rfl,hpl,b9⟩
       clear s0 s1 s2 s3 s4 s5 s6 s7 s8 s9 s10
       have c9:=bel0Z HB8.out b9
       have k9:=(HD.out W9 c9).2.2.2.2.2.2
       have hz:=cellsZ k9
       have v0:W9.cell? ⟨b10,0,none⟩=some (.slice none 0 0):=by rw [hz.1];rfl
       have f0:=hz.2 0
       have v1:W9.cell? ⟨b10,1,none⟩=some (.slice none 0 0):=by rw [hz.1];rfl
       have f1:=hz.2 1
       have v2:W9.cell? ⟨b10,2,none⟩=some (.string ⟨#[]⟩):=by rw [hz.1];rfl
       have f2:=hz.2 2
       obtain ⟨W10,hW10⟩:∃ W,(((W9.setCell ⟨b10,0,none⟩ (.slice u1 en z1)).setCell ⟨b10,1,none⟩ (.slice u2 em z2)).setCell ⟨b10,2,none⟩ (.string ⟨yh.toArray⟩))=W:=⟨_,rfl⟩
       have HRES:Hid (W10.heap[b10]?=some (.cells #[.slice u1 en z1,.slice u2 em z2,.string ⟨yh.toArray⟩] 52 (0,0))):=by
        rw [←hW10]
        exact put3 (.slice u1 en z1) (.slice u2 em z2) (.string ⟨yh.toArray⟩) k9
       have hfar:∀ c,c≠b10→W10.heap[c]?=W9.heap[c]?:=fun c hc=>by
        rw [←hW10]
        exact put3f (.slice u1 en z1) (.slice u2 em z2) (.string ⟨yh.toArray⟩) hc
       have HFIN:Hid (SRQ R w (.returned (.tuple #[.agg #[.slice u1 en z1,.slice u2 em z2,.string ⟨yh.toArray⟩],.bool true,.int .i64 0])) W10):=by
        rw [HR9.out]
        refine ⟨⟨⟨u1,z1,u2,z2⟩,?_,hpl.kp (fun c cs fr hc=>(hfar c (by rintro rfl;rw [k9] at hc;simp only [Option.some.injEq,Obj.cells.injEq] at hc;exact absurd hc.2.1 (by decide))).trans hc)⟩,?_⟩
        ·show _=Ending.returned (.tuple #[.agg #[.slice u1 y.ps.length z1,.slice u2 y.es.length z2,.string ⟨y.hd.toArray⟩],.bool true,.int .i64 0])
         rw [HQ7.out.2.2.1,HQ7.out.2.2.2.1,HQ7.out.2.2.2.2.1]
        ·rw [←hW10]
         exact put3b (.slice u1 en z1) (.slice u2 em z2) (.string ⟨yh.toArray⟩) (HC.out W9 (HD.out W9 c9).2.2.1).2.2 HB10.out.1
       have HW10:=hideL hW10
       clear hpl b9 c9 k9 hz hfar hW10
       go_wp2_with fail
       rw [HW10.out]
       refine bodyPost_ret (res_sr _ _ b10 _ _ _ _ _ _ _ _ _ rfl rfl rfl HRES.out) rfl ?_
       exact HFIN.out
      | false=>
       have hs0:=(HD.out W8.drew (bel0Z HB8.out (Below.refl _ _).drew)).1
       go_upto_region 14 with fail
       refine wp_region_held_drew (S:=fun U=>(U.cell? ⟨b,0,none⟩=some (.slice (some ⟨gp,op,none⟩) np cp)∧U.cell? ⟨b,1,none⟩=some (.slice pt nt ct)∧U.cell? ⟨b,2,none⟩=some (.slice pg ng cg))∧(U.cell? ⟨b19,0,none⟩=some (.slice ep en ec)∧U.cell? ⟨b19,1,none⟩=some (.slice ee em ed)∧U.cell? ⟨b19,2,none⟩=some (.int .i64 y0)∧U.cell? ⟨b19,3,none⟩=some (.int .u64 y1)∧U.cell? ⟨b19,4,none⟩=some (.int .u64 y2)∧U.cell? ⟨b19,5,none⟩=some (.int .u64 y3)∧U.cell? ⟨b19,6,none⟩=some (.int .u64 y4)∧U.cell? ⟨b19,7,none⟩=some (.int .u64 y5)∧U.cell? ⟨b19,8,none⟩=some (.int .u64 y6)∧U.cell? ⟨b19,9,none⟩=some (.int .u64 y7)∧U.cell? ⟨b19,10,none⟩=some (.int .u64 y8))∧U.cell? ⟨gp,op+lp*4+2,none⟩=some (.bool inn)) (by kernel_rfl) hs0 (fun _=>?_)
       refine tk 0 (.pointer (some ⟨b,0,none⟩)) rfl hs0 ?_ ?_
       ·rintro w ⟨⟨q0,q1,q2⟩,⟨s0,s1,s2,s3,s4,s5,s6,s7,s8,s9,s10⟩,t0⟩;go_simp
       refine tk 1 (.slice (some ⟨gp,op,none⟩) np cp) rfl hs0 ?_ ?_
       ·rintro w ⟨⟨q0,q1,q2⟩,⟨s0,s1,s2,s3,s4,s5,s6,s7,s8,s9,s10⟩,t0⟩;go_simp
       refine tk 2 (.agg #[.slice ep en ec,.slice ee em ed,.int .i64 y0,.int .u64 y1,.int .u64 y2,.int .u64 y3,.int .u64 y4,.int .u64 y5,.int .u64 y6,.int .u64 y7,.int .u64 y8]) rfl hs0 ?_ ?_
       ·rintro w ⟨⟨q0,q1,q2⟩,⟨s0,s1,s2,s3,s4,s5,s6,s7,s8,s9,s10⟩,t0⟩;go_simp
       refine rd 3 rfl fun KK hKK=>?_
       go_simp
       refine (HLA7.out _ (bel0Z HB8.out (Below.refl _ _).drew)).mono ?_
       rintro en W9 ⟨rfl,b9⟩
       have c9:Below W7.heap.size W7 W9:=bel0Z (bel0Z HB8.out (Below.refl _ _).drew) b9
       have hs1:=(HD.out W9 c9).1
       clear b9
       go_simp
       refine hKK.out _ _ hs1 (fun _=>?_)
       clear hKK KK hs0
       refine tk 4 (.int .i64 (lp:Int)) rfl hs1 ?_ ?_
       ·rintro w ⟨⟨q0,q1,q2⟩,⟨s0,s1,s2,s3,s4,s5,s6,s7,s8,s9,s10⟩,t0⟩;go_simp;rw [field_st];rfl
       refine tk 5 (.pointer (some ⟨gp,op+lp*4,none⟩)) rfl hs1 ?_ ?_
       ·rintro w ⟨⟨q0,q1,q2⟩,⟨s0,s1,s2,s3,s4,s5,s6,s7,s8,s9,s10⟩,t0⟩;go_simp
       refine tk 6 (.pointer (some ⟨gp,op+lp*4+2,none⟩)) rfl hs1 ?_ ?_
       ·rintro w ⟨⟨q0,q1,q2⟩,⟨s0,s1,s2,s3,s4,s5,s6,s7,s8,s9,s10⟩,t0⟩;go_simp
       refine tk 7 (.bool inn) rfl hs1 ?_ ?_
       ·rintro w ⟨⟨q0,q1,q2⟩,⟨s0,s1,s2,s3,s4,s5,s6,s7,s8,s9,s10⟩,t0⟩;go_simp
       refine tk 8 (.bool (!inn)) rfl hs1 ?_ ?_
       ·rintro w ⟨⟨q0,q1,q2⟩,⟨s0,s1,s2,s3,s4,s5,s6,s7,s8,s9,s10⟩,t0⟩;go_simp
       refine tk 9 (.bool (!inn)) rfl hs1 ?_ ?_
       ·rintro w ⟨⟨q0,q1,q2⟩,⟨s0,s1,s2,s3,s4,s5,s6,s7,s8,s9,s10⟩,t0⟩;go_simp
       cases inn with
       | false=>
        refine tq 10 rfl hs1 ?_
        refine tq 11 rfl hs1 ?_
        refine tq 12 rfl hs1 ?_
        refine tq 13 rfl hs1 ?_
        refine tk 14 (.bool true) rfl hs1 ?_ ?_
        ·rintro w ⟨⟨q0,q1,q2⟩,⟨s0,s1,s2,s3,s4,s5,s6,s7,s8,s9,s10⟩,t0⟩;go_simp
        refine tk 15 (.bool true) rfl hs1 ?_ ?_
        ·rintro w ⟨⟨q0,q1,q2⟩,⟨s0,s1,s2,s3,s4,s5,s6,s7,s8,s9,s10⟩,t0⟩;go_simp
        refine wpAnyH_done (by kernel_rfl) ?_ _
        try simp only [List.getElem_toArray,List.getElem_cons_succ,List.getElem_cons_zero,Act.put,List.setIfInBounds_toArray,List.set_cons_zero,List.set_cons_succ]
        have HQ9:Hid (prc n cls ((stgM n x).drop (j+1)++(C.drop (k+1)).flatMap (stgM n)) G2=P):=by
         have h9:=HQ7.out.1
         rw [if_neg (by decide),if_pos rfl] at h9
         exact h9
        have HS9:Hid (GAT W9 S qg m2 c2 G2∧OTH W9 (.slice qg m2 c2) (some ⟨g1,o1,none⟩) n14 c14 C∧OTH W9 (.slice qg m2 c2) (some ⟨g2,o2,none⟩) nst cs (stgM n x)∧Below W1.heap.size W1 W9):=⟨(HD.out W9 c9).2.2.2.1,(HD.out W9 c9).2.2.2.2.1,(HD.out W9 c9).2.2.2.2.2.1,(HD.out W9 c9).2.2.1⟩
        clear hs1 c9
        go_wp2_with fail
        go_roundw
        case rel=>exact ⟨G2,j+1,m2,c2,qg,rfl,by go_num,by omega,hm2,HQ9,HS9⟩
        case measure=>simp [intOf];omega
       | true=>
        refine tk 10 (.func (.func 59) #[] #[]) rfl hs1 ?_ ?_
        ·rintro w ⟨⟨q0,q1,q2⟩,⟨s0,s1,s2,s3,s4,s5,s6,s7,s8,s9,s10⟩,t0⟩;go_simp
        refine tk 11 (.agg #[.slice ep en ec,.slice ee em ed,.int .i64 y0,.int .u64 y1,.int .u64 y2,.int .u64 y3,.int .u64 y4,.int .u64 y5,.int .u64 y6,.int .u64 y7,.int .u64 y8]) rfl hs1 ?_ ?_
        ·rintro w ⟨⟨q0,q1,q2⟩,⟨s0,s1,s2,s3,s4,s5,s6,s7,s8,s9,s10⟩,t0⟩;go_simp
        refine rd 12 rfl fun KK hKK=>?_
        go_simp
        refine (HKE7.out _).mono ?_
        rintro en WA ⟨rfl,bA⟩
        have cA:Below W7.heap.size W7 WA:=bel0Z c9 bA
        have hs2:=(HD.out WA cA).1
        clear bA
        go_simp
        refine hKK.out _ _ hs2 (fun _=>?_)
        clear hKK KK hs1 c9
        refine tk 13 (.bool false) rfl hs2 ?_ ?_
        ·rintro w ⟨⟨q0,q1,q2⟩,⟨s0,s1,s2,s3,s4,s5,s6,s7,s8,s9,s10⟩,t0⟩;go_simp
        refine tk 14 (.bool false) rfl hs2 ?_ ?_
        ·rintro w ⟨⟨q0,q1,q2⟩,⟨s0,s1,s2,s3,s4,s5,s6,s7,s8,s9,s10⟩,t0⟩;go_simp
        refine tk 15 (.bool false) rfl hs2 ?_ ?_
        ·rintro w ⟨⟨q0,q1,q2⟩,⟨s0,s1,s2,s3,s4,s5,s6,s7,s8,s9,s10⟩,t0⟩;go_simp
        refine wpAnyH_done (by kernel_rfl) ?_ _
        try simp only [List.getElem_toArray,List.getElem_cons_succ,List.getElem_cons_zero,Act.put,List.setIfInBounds_toArray,List.set_cons_zero,List.set_cons_succ]
        obtain ⟨⟨⟨q0,q1,q2⟩,⟨s0,s1,s2,s3,s4,s5,s6,s7,s8,s9,s10⟩,t0⟩,hwl,hb1,hG,hO1,hO2,k10⟩:=HD.out WA cA
        clear hs2 q0 q1 q2 t0
        by_cases hfull:m2=4096
        ·have HR9:Hid (R=.full):=by
          have h9:=HQ7.out.1
          rw [if_neg (by decide),if_neg (by decide),if_pos (by rw [HQ7.out.2.1];exact hfull)] at h9
          exact HP.out.2.2.2.2.1 h9.symm
         have i0:((m2:Int)==4096)=true:=by simp;omega
         have hz:=cellsZ k10
         have v0:WA.cell? ⟨b10,0,none⟩=some (.slice none 0 0):=by rw [hz.1];rfl
         have f0:=hz.2 0
         have v1:WA.cell? ⟨b10,1,none⟩=some (.slice none 0 0):=by rw [hz.1];rfl
         have f1:=hz.2 1
         have v2:WA.cell? ⟨b10,2,none⟩=some (.string ⟨#[]⟩):=by rw [hz.1];rfl
         have f2:=hz.2 2
         obtain ⟨W10,hW10⟩:∃ W,(((WA.setCell ⟨b10,0,none⟩ (.slice none 0 0)).setCell ⟨b10,1,none⟩ (.slice none 0 0)).setCell ⟨b10,2,none⟩ (.string ⟨#[]⟩))=W:=⟨_,rfl⟩
         have HRES:Hid (W10.heap[b10]?=some (.cells #[.slice none 0 0,.slice none 0 0,.string ⟨#[]⟩] 52 (0,0))):=by
          rw [←hW10]
          exact put3 (.slice none 0 0) (.slice none 0 0) (.string ⟨#[]⟩) k10
         have HFIN:Hid (SRQ R w (.returned (.tuple #[.agg #[.slice none 0 0,.slice none 0 0,.string ⟨#[]⟩],.bool false,.int .i64 3])) W10):=by
          rw [HR9.out]
          refine ⟨rfl,?_⟩
          rw [←hW10]
          exact put3b (.slice none 0 0) (.slice none 0 0) (.string ⟨#[]⟩) (HC.out WA hb1).2.2 HB10.out.1
         have HW10:=hideL hW10
         clear hwl hb1 hG hO1 hO2 k10 hz hW10 cA hfull
         clear s0 s1 s2 s3 s4 s5 s6 s7 s8 s9 s10
         go_wp2_with fail
         rw [HW10.out]
         refine bodyPost_ret (res_sr _ _ b10 _ _ _ _ _ _ _ _ _ rfl rfl rfl HRES.out) rfl ?_
         exact HFIN.out
        ·have i0:((m2:Int)==4096)=false:=by simp;omega
         obtain ⟨m3,hm3⟩:∃ m3,m2+1=m3:=⟨_,rfl⟩
         obtain ⟨q9,c9n,W9n,hr9,hG9,hb9,hO9,hty⟩:=hG.push HQ7.out.2.2.2.2.2 (by have:=hb1.size;have:=HS.out;omega) hm3 (by omega) hwl rfl
         have HQ9:Hid (prc n cls ((stgM n x).drop (j+1)++(C.drop (k+1)).flatMap (stgM n)) (G2++[y])=P):=by
          have h9:=HQ7.out.1
          rw [if_neg (by decide),if_neg (by decide),if_neg (by rw [HQ7.out.2.1];exact hfull)] at h9
          exact h9
         have HS9:Hid (GAT W9n S q9 m3 c9n (G2++[y])∧OTH W9n (.slice q9 m3 c9n) (some ⟨g1,o1,none⟩) n14 c14 C∧OTH W9n (.slice q9 m3 c9n) (some ⟨g2,o2,none⟩) nst cs (stgM n x)∧Below W1.heap.size W1 W9n):=⟨hG9,hO9 _ _ _ _ hO1,hO9 _ _ _ _ hO2,hb1.trans (by rw [HS.out];exact hb9)⟩
         have HM3:=hideL hm3
         clear hwl hb1 hG hO1 hO2 k10 cA hG9 hb9 hO9 hty hm3
         go_wp2_with (at_builtin;refine wpList_runZ rfl _ _ _ rfl rfl rfl hr9 ?_)
         go_roundw
         case rel=>exact ⟨G2++[y],j+1,m3,c9n,q9,rfl,by go_num,by omega,by have:=HM3.out;omega,HQ9,HS9⟩
         case measure=>simp [intOf];omega
     ·obtain rfl:j=nst:=by omega
      have j3:¬(j:Int) < (j:Int):=by omega
      have HQ9:Hid (prc n cls ((C.drop (k+1)).flatMap (stgM n)) G2=P):=by
       have h9:=HQ.out
       rw [List.drop_of_length_le (by rw [HNS.out.1];exact Nat.le_refl _),List.nil_append] at h9
       exact h9
      have HS9:Hid (GAT wi S qg m2 c2 G2∧OTH wi (.slice qg m2 c2) (some ⟨g1,o1,none⟩) n14 c14 C∧Below W1.heap.size W1 wi):=⟨HS2.out.1,HS2.out.2.1,HS2.out.2.2.2⟩
      clear HQ HS2
      go_wp2_with fail
      go_roundw
      case rel=>exact ⟨G2,k+1,m2,c2,qg,rfl,by go_num,by omega,hm2,HQ9,HS9⟩
      case measure=>simp [intOf];omega
   ·obtain rfl:k=n14:=by omega
    have j3:¬(k:Int) < (k:Int):=by omega
    have hPg:P=.go G1:=by
     have h9:=HQ.out
     rw [List.drop_of_length_le (by rw [HP.out.2.2.1];exact Nat.le_refl _)] at h9
     rw [←h9,List.flatMap_nil,prc]
    obtain ⟨hK,haG,hIN⟩:=HIS.out C G G1 a HP.out.1 (by rw [HP.out.2.1,hPg])
    obtain ⟨V,hV1,hV2,-⟩:=HS1.out.1
    have hRg:=HP.out.2.2.2.2.2 G1 hPg
    rw [hV2] at haG
    by_cases haq:a=m1
    ·have i0:((a:Int)==(m1:Int))=true:=by simp;omega
     have HR9:Hid (R=.go G1):=by
      rw [List.getElem?_eq_none (by omega)] at hRg
      exact hRg
     have k10:=(HC.out wm HS1.out.2.2).2.1
     have hz:=cellsZ k10
     have v0:wm.cell? ⟨b10,0,none⟩=some (.slice none 0 0):=by rw [hz.1];rfl
     have f0:=hz.2 0
     have v1:wm.cell? ⟨b10,1,none⟩=some (.slice none 0 0):=by rw [hz.1];rfl
     have f1:=hz.2 1
     have v2:wm.cell? ⟨b10,2,none⟩=some (.string ⟨#[]⟩):=by rw [hz.1];rfl
     have f2:=hz.2 2
     obtain ⟨W10,hW10⟩:∃ W,(((wm.setCell ⟨b10,0,none⟩ (.slice none 0 0)).setCell ⟨b10,1,none⟩ (.slice none 0 0)).setCell ⟨b10,2,none⟩ (.string ⟨#[]⟩))=W:=⟨_,rfl⟩
     have HRES:Hid (W10.heap[b10]?=some (.cells #[.slice none 0 0,.slice none 0 0,.string ⟨#[]⟩] 52 (0,0))):=by
      rw [←hW10]
      exact put3 (.slice none 0 0) (.slice none 0 0) (.string ⟨#[]⟩) k10
     have HFIN:Hid (SRQ R w (.returned (.tuple #[.agg #[.slice none 0 0,.slice none 0 0,.string ⟨#[]⟩],.bool false,.int .i64 0])) W10):=by
      rw [HR9.out]
      refine ⟨rfl,?_⟩
      rw [←hW10]
      exact put3b (.slice none 0 0) (.slice none 0 0) (.string ⟨#[]⟩) (HC.out wm HS1.out.2.2).2.2 HB10.out.1
     have HW10:=hideL hW10
     clear hPg hK haG hIN hV1 hV2 hRg haq k10 hz hW10
     go_wp2_with fail
     rw [HW10.out]
     refine bodyPost_ret (res_sr _ _ b10 _ _ _ _ _ _ _ _ _ rfl rfl rfl HRES.out) rfl ?_
     exact HFIN.out
    ·have i0:((a:Int)==(m1:Int))=false:=by simp;omega
     obtain ⟨x,hx⟩:∃ x,G1[a]?=some x:=⟨_,List.getElem?_eq_getElem (by omega)⟩
     have hxr:=(hK x (List.mem_of_getElem? hx)).1
     have hINx:=hIN x hx
     rw [hx] at hRg
     simp only at hRg
     obtain ⟨g1,o1,⟨xp,xc,xe,xd⟩,e9,hwl,hcx⟩:=HS1.out.1.at hx
     obtain ⟨d0,d1,d2,d3,d4,d5,d6,d7,d8,h8⟩:=c9_ex x.hd
     obtain ⟨xn,hxn⟩:∃ k,x.ps.length=k:=⟨_,rfl⟩
     obtain ⟨xm,hxm⟩:∃ k,x.es.length=k:=⟨_,rfl⟩
     have hXc:wyC (x,(⟨xp,xc,xe,xd⟩:WV))=[.slice xp xn xc,.slice xe xm xd,.int .i64 d0,.int .u64 d1,.int .u64 d2,.int .u64 d3,.int .u64 d4,.int .u64 d5,.int .u64 d6,.int .u64 d7,.int .u64 d8]:=congrArg Array.toList (wyC_arr (ps:=x.ps) (es:=x.es) (hd:=x.hd) h8 hxn hxm)
     have hcx9:∀ U,Below wm.heap.size wm U→∀ (i:Nat) (u:Value),([.slice xp xn xc,.slice xe xm xd,.int .i64 d0,.int .u64 d1,.int .u64 d2,.int .u64 d3,.int .u64 d4,.int .u64 d5,.int .u64 d6,.int .u64 d7,.int .u64 d8]:List Value)[i]?=some u→U.cell? ⟨g1,o1+a*11+i,none⟩=some u:=fun U hU i u hu=>keepC hU (hcx i u (by rw [hXc];exact hu))
     subst e9
     have HS21:Hid (∀ U,Below wm.heap.size wm U→(U.cell? ⟨b,0,none⟩=some (.slice (some ⟨gp,op,none⟩) np cp)∧U.cell? ⟨b,1,none⟩=some (.slice pt nt ct)∧U.cell? ⟨b,2,none⟩=some (.slice pg ng cg))∧(U.cell? ⟨g1,o1+a*11,none⟩=some (.slice xp xn xc)∧U.cell? ⟨g1,o1+a*11+1,none⟩=some (.slice xe xm xd)∧U.cell? ⟨g1,o1+a*11+2,none⟩=some (.int .i64 d0)∧U.cell? ⟨g1,o1+a*11+3,none⟩=some (.int .u64 d1)∧U.cell? ⟨g1,o1+a*11+4,none⟩=some (.int .u64 d2)∧U.cell? ⟨g1,o1+a*11+5,none⟩=some (.int .u64 d3)∧U.cell? ⟨g1,o1+a*11+6,none⟩=some (.int .u64 d4)∧U.cell? ⟨g1,o1+a*11+7,none⟩=some (.int .u64 d5)∧U.cell? ⟨g1,o1+a*11+8,none⟩=some (.int .u64 d6)∧U.cell? ⟨g1,o1+a*11+9,none⟩=some (.int .u64 d7)∧U.cell? ⟨g1,o1+a*11+10,none⟩=some (.int .u64 d8))):=fun U hU=>by
      refine ⟨(HC.out U (bel0Z HS1.out.2.2 hU)).1,?_⟩
      have h0:=hcx9 U hU 0 _ rfl
      rw [Nat.add_zero] at h0
      exact ⟨h0,hcx9 U hU 1 _ rfl,hcx9 U hU 2 _ rfl,hcx9 U hU 3 _ rfl,hcx9 U hU 4 _ rfl,hcx9 U hU 5 _ rfl,hcx9 U hU 6 _ rfl,hcx9 U hU 7 _ rfl,hcx9 U hU 8 _ rfl,hcx9 U hU 9 _ rfl,hcx9 U hU 10 _ rfl⟩
     have HON7:Hid (∀ U,Below wm.heap.size wm U→Calls Tryz.prog 67 #[.agg #[.slice (some ⟨gp,op,none⟩) np cp,.slice pt nt ct,.slice pg ng cg],.agg #[.slice xp xn xc,.slice xe xm xd,.int .i64 d0,.int .u64 d1,.int .u64 d2,.int .u64 d3,.int .u64 d4,.int .u64 d5,.int .u64 d6,.int .u64 d7,.int .u64 d8],.int .i64 hops] U (ONQ (onwM n hops x) U)):=fun U hU=>HON.out x xp xc xe xd xn xm d0 d1 d2 d3 d4 d5 d6 d7 d8 U hxr h8 hxn hxm (bel0Z HS1.out.2.2 hU) (hwl.below hU)
     have HL4:=hideL (HON4.out x hxr)
     have HFN:Hid (INV n hops (sp,sh) (onwM n hops x) G1 (a+1)∧src n hops cls (4098 - (a+1)) (onwM n hops x) G1 (a+1)=R):=⟨hINx,by rw [hRg,show 4098 - (a+1)=4097 - a by omega]⟩
     have j0:(0:Int)≤(a:Int):=by omega
     have j1:(a:Int) < (m1:Int):=by omega
     have ham:a < m1:=by omega
     clear hPg hK haG hIN hV1 hV2 hRg haq hx hxr hINx hwl hcx h8 hxn hxm hXc hcx9
     go_upto_region 21 with fail
     have hs0:=HS21.out wm.drew (Below.refl _ _).drew
     refine wp_region_held_drew (S:=fun U=>(U.cell? ⟨b,0,none⟩=some (.slice (some ⟨gp,op,none⟩) np cp)∧U.cell? ⟨b,1,none⟩=some (.slice pt nt ct)∧U.cell? ⟨b,2,none⟩=some (.slice pg ng cg))∧(U.cell? ⟨g1,o1+a*11,none⟩=some (.slice xp xn xc)∧U.cell? ⟨g1,o1+a*11+1,none⟩=some (.slice xe xm xd)∧U.cell? ⟨g1,o1+a*11+2,none⟩=some (.int .i64 d0)∧U.cell? ⟨g1,o1+a*11+3,none⟩=some (.int .u64 d1)∧U.cell? ⟨g1,o1+a*11+4,none⟩=some (.int .u64 d2)∧U.cell? ⟨g1,o1+a*11+5,none⟩=some (.int .u64 d3)∧U.cell? ⟨g1,o1+a*11+6,none⟩=some (.int .u64 d4)∧U.cell? ⟨g1,o1+a*11+7,none⟩=some (.int .u64 d5)∧U.cell? ⟨g1,o1+a*11+8,none⟩=some (.int .u64 d6)∧U.cell? ⟨g1,o1+a*11+9,none⟩=some (.int .u64 d7)∧U.cell? ⟨g1,o1+a*11+10,none⟩=some (.int .u64 d8))) (by kernel_rfl) hs0 (fun _=>?_)
     refine tk 0 (.agg #[.slice (some ⟨gp,op,none⟩) np cp,.slice pt nt ct,.slice pg ng cg]) rfl hs0 ?_ ?_
     ·rintro w ⟨⟨q0,q1,q2⟩,⟨s0,s1,s2,s3,s4,s5,s6,s7,s8,s9,s10⟩⟩;go_simp
     refine tk 1 (.slice (some ⟨g1,o1,none⟩) m1 c1) rfl hs0 ?_ ?_
     ·rintro w ⟨⟨q0,q1,q2⟩,⟨s0,s1,s2,s3,s4,s5,s6,s7,s8,s9,s10⟩⟩;go_simp
     refine tk 2 (.int .i64 (a:Int)) rfl hs0 ?_ ?_
     ·rintro w ⟨⟨q0,q1,q2⟩,⟨s0,s1,s2,s3,s4,s5,s6,s7,s8,s9,s10⟩⟩;go_simp
     refine tk 3 (.pointer (some ⟨g1,o1+a*11,none⟩)) rfl hs0 ?_ ?_
     ·rintro w ⟨⟨q0,q1,q2⟩,⟨s0,s1,s2,s3,s4,s5,s6,s7,s8,s9,s10⟩⟩;go_simp
     refine tk 4 (.agg #[.slice xp xn xc,.slice xe xm xd,.int .i64 d0,.int .u64 d1,.int .u64 d2,.int .u64 d3,.int .u64 d4,.int .u64 d5,.int .u64 d6,.int .u64 d7,.int .u64 d8]) rfl hs0 ?_ ?_
     ·rintro w ⟨⟨q0,q1,q2⟩,⟨s0,s1,s2,s3,s4,s5,s6,s7,s8,s9,s10⟩⟩;go_simp
     refine tk 5 (.int .i64 hops) rfl hs0 ?_ ?_
     ·rintro w ⟨⟨q0,q1,q2⟩,⟨s0,s1,s2,s3,s4,s5,s6,s7,s8,s9,s10⟩⟩;go_simp
     refine rd 6 rfl fun KK hKK=>?_
     go_simp
     refine (HON7.out _ (Below.refl _ _).drew).mono ?_
     rintro en W9 ⟨qw,cw,V9,hVm,rfl,hVo,hVl,c9⟩
     have cD:Below wm.heap.size wm W9:=bel0Z (Below.refl _ _).drew c9
     have hs1:=HS21.out W9 cD
     obtain ⟨nw,hnw⟩:∃ k,(onwM n hops x).length=k:=⟨_,rfl⟩
     rw [hnw] at hVo ⊢
     have HL5:=HL4.out
     rw [hnw] at HL5
     have HS9:Hid (GAT W9 S (some ⟨g1,o1,none⟩) m1 c1 G1∧OTH W9 (.slice (some ⟨g1,o1,none⟩) m1 c1) qw nw cw (onwM n hops x)∧Below W1.heap.size W1 W9):=by
      refine ⟨HS1.out.1.below cD,⟨V9,_,hVm,hnw,hVo,hVl,fun b hb e=>?_⟩,bel0Z HS1.out.2.2 cD⟩
      obtain ⟨V,-,-,ho,-⟩:=HS1.out.1
      have h1:=(World.ownsRow.lt ho b e).2
      have h2:wm.drew.heap.size≤b:=(World.ownsRow.lt hVo b hb).1
      have h3:wm.drew.heap.size=wm.heap.size:=rfl
      omega
     clear hVm hVo hVl c9 cD
     go_simp
     refine hKK.out _ _ hs1 (fun _=>?_)
     clear hKK KK hs0
     refine tk 7 (.slice qw nw cw) rfl hs1 ?_ ?_
     ·rintro w ⟨⟨q0,q1,q2⟩,⟨s0,s1,s2,s3,s4,s5,s6,s7,s8,s9,s10⟩⟩;go_simp
     refine wpAnyH_done (by kernel_rfl) ?_ _
     try simp only [List.getElem_toArray,List.getElem_cons_succ,List.getElem_cons_zero,Act.put,List.setIfInBounds_toArray,List.set_cons_zero,List.set_cons_succ]
     clear hs1
     go_wp2_with fail
     go_roundw
     case rel=>exact ⟨onwM n hops x,G1,a+1,m1,nw,c1,cw,some ⟨g1,o1,none⟩,qw,rfl,rfl,by go_num,by omega,HL5,hm1,HFN,HS9⟩
     case measure=>simp [intOf];omega
end Go.Proofs.YtbplhianpelmfaaGreatDoor.Nt
