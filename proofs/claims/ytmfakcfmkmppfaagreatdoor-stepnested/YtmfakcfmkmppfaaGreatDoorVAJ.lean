import Derived.Test.YtmfakcfmkmppfaaGreatDoorVAI
import Derived.Shelf.Strconv.Clone
namespace Go.Proofs.YtmfakcfmkmppfaaGreatDoor
open Go.RowKit Go.Shelf
set_option maxRecDepth 100000 in
set_option maxHeartbeats 4000000 in
theorem rn0 {X:MX} (hC:MC X) (hF:FOK X.w0) {R:Res} {Q:Exit->Act->World->Prop} (hQ0:∀ tmps W',RunR X R (.returned (tmps.getD 2 undef)) W'->Q .ret { tmps:=tmps,defers:=[] } W')
  (a:Act) (wr:World) (hJ:RJ X R 0 a wr) (R0 c:Code) (hc:Tryz.f132.body=some (.seq R0 (.scope c))):∃ X',findLabel c 0=some (.seq .skip X')/\X'.wp Tryz.prog (zd9 (fun l' a' w'=>RJ X R l' a' w'/\rM X l' w' < rM X 0 wr) Q) a wr:=by
 have hQ:Hid (∀ tmps W',RunR X R (.returned (tmps.getD 2 undef)) W'->Q .ret { tmps:=tmps,defers:=[] } W'):=hQ0;have hlen:=hC.len;clear hQ0;unfold Tryz.f132 at hc;injection hc with hc;injection hc with _ hc;injection hc with hc;subst hc;refine ⟨_,rfl,?_⟩;obtain ⟨now,j,fst,line,head,hb,v,D,u,rfl,hu,h0,HF⟩:=hJ;obtain ⟨u0,u1,u2,u3,u4,u5,u6,u7,u8,u9,u10,u11,u12,u13,u14,u15,u16,u17,u18,u19,u20,u21,u22,u23,u24,u25,u26,u27,u28,u29,u30,u31,u32,u33,u34,u35,u36,u37,u38,u39,u40,u41,u42,u43,u44,u45,u46,u47,u48,u49,u50,u51,u52,u53,u54,u55,u56,u57,u58,u59,u60,u61,u62,u63,u64,u65,u66,rfl⟩:=zr3 u hu;have e0:u0=.pointer (some ⟨X.b,0,none⟩):=h0;subst e0;clear hu h0;obtain ⟨-,m,hat,hah,hhn,hjl,hDl,hln,f0,f1,f2⟩:=HF.out;clear HF;have hc2:=m.c2;have fz2:=m.fz 2;have hle:=hat.le;have hlt:=hat.lt;have hM0:=za5 m;have n0:(0:Int)<=(now:Int):=by omega
 have n1:(now:Int)<=16384:=by omega
 obtain ⟨f,hf,hrun⟩:=f0 rfl;clear f0 f1 f2;obtain ⟨f,rfl⟩:∃ g,f=g+1:=⟨f - 1,by omega⟩;have hcl:=zcm hC m hat
 by_cases k2:kl X.l j=2
 ·obtain ⟨hj1,ha1⟩:=zev (l:=X.l) (j:=j) (by omega) (by omega)
  have hat1:=hat.asc hj1 ha1;have HH:Hid (∀ (v':Value) (W':World),MS X W' (now+1) fst line head v' D->Hid (RF X R 0 (now+1) (j+1) fst line head hb v' D W')/\rM X 0 W' < rM X 0 wr):=fun v' W' m'=>⟨⟨by decide,m',hat1,hah,by omega,by omega,by omega,by omega,(fun _=>⟨f,by omega,by rw [<-hrun,zfa k2]⟩),(fun h=>absurd h (by decide)),(fun h=>absurd h (by decide))⟩,by unfold rM;rw [za5 m',hM0];omega⟩;rw [k2] at hcl;have HS:Hid (∀ W',MS X W' now fst line head v D->MS X (W'.setCell ⟨X.b,2,none⟩ (.int .i64 ((now:Int)+1))) (now+1) fst line head v D):=fun W' m'=>m'.setNow hC (now+1) (by omega);clear hrun hat hat1 hah hM0 k2 ha1 m
  go_wp2_with fail
  refine hcl.mono ?_;rintro e w1 ⟨rfl,m1⟩;have hd2:=m1.c2;have hz2:=m1.fz 2;have m2:=HS.out _ m1
  go_wp2_with fail
  go_step3
  try simp only [Exit.inBlock,Exit.then]
  exact ⟨⟨now+1,j+1,fst,line,head,hb,v,D,_,rfl,rfl,rfl,(HH.out _ _ m2).1⟩,(HH.out _ _ m2).2⟩
 have e2:((kl X.l j:Int)==2)=false:=by rw [beq_eq_false_iff_ne];omega
 by_cases k8:kl X.l j=8
 ·obtain ⟨hj1,ha1⟩:=zev (l:=X.l) (j:=j) (by omega) (by omega)
  have HH:Hid (∀ (v':Value) (W':World),MS X W' now fst line head v' D->Hid (RF X R 1 now j fst line head hb v' D W')/\rM X 1 W' < rM X 0 wr):=fun v' W' m'=>⟨⟨by decide,m',hat,hah,hhn,hjl,hDl,hln,(fun h=>absurd h (by decide)),(fun _=>⟨hj1,by omega,f,by omega,by rw [<-hrun,zgg k8,zfp ha1]⟩),(fun h=>absurd h (by decide))⟩,by unfold rM;rw [za5 m',hM0];simp⟩;rw [k8] at hcl;clear hrun hat hah hM0 k8 ha1 m e2 k2
  go_wp2_with fail
  refine hcl.mono ?_;rintro e w1 ⟨rfl,m2⟩
  go_wp2_with fail
  go_step3
  try simp only [Exit.inBlock,Exit.then]
  exact ⟨⟨now,j,fst,line,head,hb,v,D,_,rfl,rfl,rfl,(HH.out _ _ m2).1⟩,(HH.out _ _ m2).2⟩
 have e8:((kl X.l j:Int)==8)=false:=by rw [beq_eq_false_iff_ne];omega
 by_cases k1:kl X.l j=1
 ·have HH:Hid (∀ (v':Value) (W':World),MS X W' now fst line head v' D->Hid (RF X R 2 now j fst line head hb v' D W')/\rM X 2 W' < rM X 0 wr):=fun v' W' m'=>⟨⟨by decide,m',hat,hah,hhn,hjl,hDl,hln,(fun h=>absurd h (by decide)),(fun h=>absurd h (by decide)),(fun _=>⟨.inl k1,f,by omega,by rw [<-hrun,zeq (.inl k1)]⟩)⟩,by unfold rM;rw [za5 m',hM0];simp⟩
  rw [k1] at hcl;clear hrun hat hah hM0 k1 m e2 k2 e8 k8
  go_wp2_with fail
  refine hcl.mono ?_;rintro e w1 ⟨rfl,m2⟩
  go_wp2_with fail
  go_step3
  try simp only [Exit.inBlock,Exit.then]
  exact ⟨⟨now,j,fst,line,head,hb,v,D,_,rfl,rfl,rfl,(HH.out _ _ m2).1⟩,(HH.out _ _ m2).2⟩
 have e1:((kl X.l j:Int)==1)=false:=by rw [beq_eq_false_iff_ne];omega
 by_cases k0:kl X.l j=0
 ·have HH:Hid (∀ (v':Value) (W':World),MS X W' now fst line head v' D->Hid (RF X R 2 now j fst line head hb v' D W')/\rM X 2 W' < rM X 0 wr):=fun v' W' m'=>⟨⟨by decide,m',hat,hah,hhn,hjl,hDl,hln,(fun h=>absurd h (by decide)),(fun h=>absurd h (by decide)),(fun _=>⟨.inr k0,f,by omega,by rw [<-hrun,zeq (.inr k0)]⟩)⟩,by unfold rM;rw [za5 m',hM0];simp⟩
  rw [k0] at hcl;clear hrun hat hah hM0 k0 m e2 k2 e8 k8 e1 k1
  go_wp2_with fail
  refine hcl.mono ?_;rintro e w1 ⟨rfl,m2⟩
  go_wp2_with fail
  go_step3
  try simp only [Exit.inBlock,Exit.then]
  exact ⟨⟨now,j,fst,line,head,hb,v,D,_,rfl,rfl,rfl,(HH.out _ _ m2).1⟩,(HH.out _ _ m2).2⟩
 have e00:((kl X.l j:Int)==0)=false:=by rw [beq_eq_false_iff_ne];omega
 have hjlt:j < X.l.length:=Classical.byContradiction (fun h=>k0 (kl0.2 h));have HT:Hid (∀ W',MS X W' now fst line head v D->Calls Tryz.prog 144 #[.pointer (some ⟨X.b,0,none⟩)] W' fun e w'=>zjg X now line head j D e w'):=fun W' m'=>zpc hC hF m' hat hjlt hhn (by omega);unfold zjg at HT
 by_cases ht:zcy X.l j=0
 ·obtain ⟨ha1,ha2⟩:=zks hjlt k1 ht
  have HH:Hid (∀ (n':Nat) (v':Value) (W':World),AT X.l n' (zdv X.l j)->MS X W' n' now line head v' (D++[((za7 X.l j).1,zbw X.l j (za7 X.l j).2,line,now - head+1)])->Hid (RF X R 0 n' (zdv X.l j) now line head hb v' (D++[((za7 X.l j).1,zbw X.l j (za7 X.l j).2,line,now - head+1)]) W')/\rM X 0 W' < rM X 0 wr):=fun n' v' W' a' m'=>by
   have hmo:=zr1 hat a' ha1 ha2;have hlt':=a'.lt;refine ⟨⟨by decide,m',a',hah,by omega,ha2,by simp;omega,by omega,(fun _=>⟨f,by omega,?_⟩),(fun h=>absurd h (by decide)),(fun h=>absurd h (by decide))⟩,by unfold rM;rw [za5 m',hM0];simp;omega⟩;rw [<-hrun,zfx k2 k8 k1 k0 ht,<-hat.ci,<-hah.ci]
  rw [ht] at HT;simp only [if_true] at HT;obtain ⟨T,hT⟩:=ex (D++[((za7 X.l j).1,zbw X.l j (za7 X.l j).2,line,now - head+1)]);rw [hT] at HH HT;obtain ⟨k,hk⟩:=ex (kl X.l j);rw [hk] at hcl e2 e8 e1 e00;clear hrun hat hah hM0 m k2 k8 k1 k0 hT hk ht
  go_wp2_with fail
  refine hcl.mono ?_;rintro e w1 ⟨rfl,m1⟩
  go_wp2_with fail
  refine (HT.out _ m1).mono ?_;rintro e w2 ⟨rfl,n',v',a',m2⟩
  go_wp2_with fail
  go_step3
  simp only [Exit.then];exact ⟨⟨n',zdv X.l j,now,line,head,hb,v',T,_,rfl,rfl,rfl,(HH.out n' v' _ a' m2).1⟩,(HH.out n' v' _ a' m2).2⟩
 ·obtain ⟨ha1,ha2⟩:=tok_ge hjlt ht
  have hfl:zcy X.l j < 1000:=by
   unfold zcy
   split
   ·exact zp1 _ _
   ·exact zka _ _
  have HR:Hid (∀ (n':Nat) (v':Value) (W':World),AT X.l n' (zdv X.l j)->MS X W' n' now line head v' D->RunR X R (.returned (.int .i64 (zcy X.l j:Int))) W'):=fun n' v' W' a' m'=>by
   have hR:R=([],zcy X.l j,line,n' - head+1):=by rw [<-hrun,zib k2 k8 k1 k0 ht,<-a'.ci,<-hah.ci]
   have hnn:now<=n':=by
    rcases Nat.lt_or_ge j (zdv X.l j) with h | h
    ·exact Nat.le_of_lt (zr1 hat a' h ha2)
    ·have e:zdv X.l j=j:=by omega
     rw [e] at a';rw [hat.ci,a'.ci];exact Nat.le_refl _
   have hle':=a'.le;refine ⟨by rw [hR],n',now,line,head,v',D,m',by omega,by omega,fun h=>?_,fun _=>by rw [hR]⟩;rw [hR] at h;exact absurd h ht
  simp only [if_neg ht] at HT;obtain ⟨E,hE⟩:=ex (zcy X.l j);rw [hE] at HT HR ht hfl;have t0:((E:Int)==0)=false:=by rw [beq_eq_false_iff_ne];omega
  have t1:((E:Int) != 0)=true:=by rw [bne,t0];rfl
  obtain ⟨k,hk⟩:=ex (kl X.l j);rw [hk] at hcl e2 e8 e1 e00;clear hrun hat hah hM0 m k2 k8 k1 k0 hE hk
  go_wp2_with fail
  refine hcl.mono ?_;rintro e w1 ⟨rfl,m1⟩
  go_wp2_with fail
  refine (HT.out _ m1).mono ?_;rintro e w2 ⟨rfl,n',v',a',m2⟩
  go_wp2_with fail
  refine zbo (hQ.out _ _ ?_);exact HR.out n' v' _ a' m2
set_option maxRecDepth 100000 in
set_option maxHeartbeats 4000000 in
theorem rn2 {X:MX} (hC:MC X) {R:Res} {Q:Exit->Act->World->Prop} (hQ0:∀ tmps W',RunR X R (.returned (tmps.getD 2 undef)) W'->Q .ret { tmps:=tmps,defers:=[] } W')
  (a:Act) (wr:World) (hJ:RJ X R 2 a wr) (R0 c:Code) (hc:Tryz.f132.body=some (.seq R0 (.scope c))):∃ X',findLabel c 2=some (.seq .skip X')/\X'.wp Tryz.prog (zd9 (fun l' a' w'=>RJ X R l' a' w'/\rM X l' w' < rM X 2 wr) Q) a wr:=by
 have hQ:Hid (∀ tmps W',RunR X R (.returned (tmps.getD 2 undef)) W'->Q .ret { tmps:=tmps,defers:=[] } W'):=hQ0;have hlen:=hC.len;clear hQ0;unfold Tryz.f132 at hc;injection hc with hc;injection hc with _ hc;injection hc with hc;subst hc;refine ⟨_,rfl,?_⟩;obtain ⟨now,j,fst,line,head,hb,v,D,u,rfl,hu,h0,HF⟩:=hJ;obtain ⟨u0,u1,u2,u3,u4,u5,u6,u7,u8,u9,u10,u11,u12,u13,u14,u15,u16,u17,u18,u19,u20,u21,u22,u23,u24,u25,u26,u27,u28,u29,u30,u31,u32,u33,u34,u35,u36,u37,u38,u39,u40,u41,u42,u43,u44,u45,u46,u47,u48,u49,u50,u51,u52,u53,u54,u55,u56,u57,u58,u59,u60,u61,u62,u63,u64,u65,u66,rfl⟩:=zr3 u hu;have e0:u0=.pointer (some ⟨X.b,0,none⟩):=h0;subst e0;clear hu h0;obtain ⟨-,m,hat,hah,hhn,hjl,hDl,hln,f0,f1,f2⟩:=HF.out;clear HF;have hc2:=m.c2;have fz2:=m.fz 2;have hle:=hat.le;have hlt:=hat.lt;have hM0:=za5 m;have n0:(0:Int)<=(now:Int):=by omega
 have n1:(now:Int)<=16384:=by omega
 obtain ⟨hk01,f,hf,hrun⟩:=f2 rfl;clear f0 f1 f2;have HE:=zio hC m hhn (by omega) (by omega);have hCl:Hid (∀ (v':Value) (D':List Tok) (W':World),MS X W' now fst line head v' D'->Calls Tryz.prog 143 #[.pointer (some ⟨X.b,0,none⟩)] W' fun e w'=>e=.returned (.int .i64 (kl X.l j:Int))/\MS X w' now fst line head v' D'):=fun v' D' W' m'=>zcm hC m' hat;have hlen2:(zlm D line (now - head+1)).length<=D.length+1:=by
  unfold zlm
  split
  ·split
   ·omega
   ·simp
  ·omega
 obtain ⟨D1,hD1⟩:=ex (zlm D line (now - head+1));rw [hD1] at HE hlen2
 by_cases k0:kl X.l j=0
 ·have HR:Hid (∀ (v':Value) (W':World),MS X W' now fst line head v' D1->RunR X R (.returned (.int .i64 0)) W'):=fun v' W' m'=>by
   have hR:R=(D1,0,0,0):=by
    rw [<-hrun];unfold zdu;rw [if_pos k0,<-hat.ci,<-hah.ci,hD1]
   exact ⟨by rw [hR];rfl,now,fst,line,head,v',D1,m',hhn,by omega,fun _=>hR,fun h=>absurd (by rw [hR]) h⟩
  rw [k0] at hCl;clear hrun hat hah hM0 k0 m hD1 hk01
  go_wp2_with fail
  refine HE.mono ?_;rintro e w1 ⟨rfl,v1,m1⟩
  go_wp2_with fail
  refine (hCl.out _ _ _ m1).mono ?_;rintro e w2 ⟨rfl,m2⟩
  go_wp2_with fail
  refine zbo (hQ.out _ _ ?_);exact HR.out v1 _ m2
 ·have k1:kl X.l j=1:=by omega
  obtain ⟨hj1,ha1⟩:=zev (l:=X.l) (j:=j) (by omega) (by omega);have hat1:=hat.asc hj1 ha1;have HH:Hid (∀ (v':Value) (W':World),MS X W' (now+1) fst (line+1) (now+1) v' D1->Hid (RF X R 0 (now+1) (j+1) fst (line+1) (now+1) (j+1) v' D1 W')/\rM X 0 W' < rM X 2 wr):=fun v' W' m'=>⟨⟨by decide,m',hat1,hat1,by omega,by omega,by omega,by omega,(fun _=>⟨f,by omega,by
    rw [<-hrun];unfold zdu;rw [if_neg k0,<-hat.ci,<-hah.ci,hD1]⟩),(fun h=>absurd h (by decide)),(fun h=>absurd h (by decide))⟩,by unfold rM;rw [za5 m',hM0];simp;omega⟩
  have HS:Hid (∀ (v':Value) (W':World),MS X W' now fst line head v' D1->MS X (((W'.setCell ⟨X.b,2,none⟩ (.int .i64 ((now:Int)+1))).setCell ⟨X.b,4,none⟩ (.int .i64 ((line:Int)+1))).setCell ⟨X.b,5,none⟩ (.int .i64 ((now:Int)+1))) (now+1) fst (line+1) (now+1) v' D1):=fun v' W' m'=>((m'.setNow hC (now+1) (by omega)).setLine hC (line+1) (by omega)).setHead hC (now+1) (by omega);rw [k1] at hCl;have l0:(0:Int)<=(line:Int):=by omega
  have l1:(line:Int)<=16385:=by omega
  clear hrun hat hah hM0 k0 k1 m hD1 hk01 hat1 ha1
  go_wp2_with fail
  refine HE.mono ?_;rintro e w1 ⟨rfl,v1,m1⟩
  go_wp2_with fail
  refine (hCl.out _ _ _ m1).mono ?_;rintro e w2 ⟨rfl,m3⟩;have d2:=m3.c2;have d4:=m3.c4;have d5:=m3.c5;have z2:=m3.fz 2;have z4:=m3.fz 4;have z5:=m3.fz 5;have m2:=HS.out _ _ m3
  go_wp2_with fail
  go_step3
  try simp only [Exit.inBlock,Exit.then]
  exact ⟨⟨now+1,j+1,fst,line+1,now+1,j+1,v1,D1,_,rfl,rfl,rfl,(HH.out _ _ m2).1⟩,(HH.out _ _ m2).2⟩
set_option maxRecDepth 100000 in
set_option maxHeartbeats 4000000 in
theorem rn1 {X:MX} (hC:MC X) {R:Res} {Q:Exit->Act->World->Prop} (hQ0:∀ tmps W',RunR X R (.returned (tmps.getD 2 undef)) W'->Q .ret { tmps:=tmps,defers:=[] } W')
  (a:Act) (wr:World) (hJ:RJ X R 1 a wr) (R0 c:Code) (hc:Tryz.f132.body=some (.seq R0 (.scope c))):∃ X',findLabel c 1=some (.seq .skip X')/\X'.wp Tryz.prog (zd9 (fun l' a' w'=>RJ X R l' a' w'/\rM X l' w' < rM X 1 wr) Q) a wr:=by
 have hQ:Hid (∀ tmps W',RunR X R (.returned (tmps.getD 2 undef)) W'->Q .ret { tmps:=tmps,defers:=[] } W'):=hQ0;have hlen:=hC.len;clear hQ0;unfold Tryz.f132 at hc;injection hc with hc;injection hc with _ hc;injection hc with hc;subst hc;refine ⟨_,rfl,?_⟩;obtain ⟨now,j,fst,line,head,hb,v,D,u,rfl,hu,h0,HF⟩:=hJ;obtain ⟨u0,u1,u2,u3,u4,u5,u6,u7,u8,u9,u10,u11,u12,u13,u14,u15,u16,u17,u18,u19,u20,u21,u22,u23,u24,u25,u26,u27,u28,u29,u30,u31,u32,u33,u34,u35,u36,u37,u38,u39,u40,u41,u42,u43,u44,u45,u46,u47,u48,u49,u50,u51,u52,u53,u54,u55,u56,u57,u58,u59,u60,u61,u62,u63,u64,u65,u66,rfl⟩:=zr3 u hu;have e0:u0=.pointer (some ⟨X.b,0,none⟩):=h0;subst e0;clear hu h0;obtain ⟨-,m,hat,hah,hhn,hjl,hDl,hln,f0,f1,f2⟩:=HF.out;clear HF;have hc2:=m.c2;have fz2:=m.fz 2;have hle:=hat.le;have hlt:=hat.lt;have hM0:=za5 m;have n0:(0:Int)<=(now:Int):=by omega
 have n1:(now:Int)<=16384:=by omega
 obtain ⟨hj1,hk1,f,hf,hrun⟩:=f1 rfl;clear f0 f1 f2;have hat1:=hat.next hj1
 have hp:=zb8 X.l j;have hpl:=ziw X.l j hj1;have m1:=m.setNow hC (now+1) (z:=(now:Int)+1) (by omega);have hcl:=zcm hC m1 hat1;obtain ⟨j1,hj1'⟩:=ex (j+(dc X.l j).2);rw [hj1'] at hat1 hcl hrun hpl;have hjj:j < j1:=by omega
 by_cases k01:kl X.l j1=1∨kl X.l j1=0
 ·have HH:Hid (∀ (v':Value) (W':World),MS X W' (now+1) fst line head v' D->Hid (RF X R 2 (now+1) j1 fst line head hb v' D W')/\rM X 2 W'<=rM X 1 wr):=fun v' W' m'=>⟨⟨by decide,m',hat1,hah,by omega,hpl,by omega,by omega,(fun h=>absurd h (by decide)),(fun h=>absurd h (by decide)),(fun _=>⟨k01,f,by omega,by rw [<-hrun,zi0 k01]⟩)⟩,by unfold rM;rw [za5 m',hM0];simp;omega⟩
  have HC2:Hid (kl X.l j1=1∨kl X.l j1=0):=k01;obtain ⟨k,hk⟩:=ex (kl X.l j1);rw [hk] at hcl k01;clear hrun hat hah hM0 m hk;have hnk:((k:Int) != 1&&(k:Int) != 0)=false:=by rcases k01 with rfl | rfl <;> rfl
  rcases k01 with rfl | rfl
  all_goals
   go_wp2_with fail
   refine hcl.mono ?_;rintro e w1 ⟨rfl,m2⟩
   go_wp2_with fail
   go_step3
   simp only [Exit.then]
   rename_i hK
   refine hK _ _ ?_;clear hK;exact zo9 (m:=fun l' _ w'=>rM X l' w') (rn2 hC (Q:=Q) hQ.out _ _ ⟨now+1,j1,fst,line,head,hb,v,D,_,rfl,rfl,rfl,(HH.out _ _ m2).1⟩ _ _ rfl) rfl (HH.out _ _ m2).2
 ·have kn1:kl X.l j1≠1:=fun h=>k01 (.inl h)
  have kn0:kl X.l j1≠0:=fun h=>k01 (.inr h);have hj2:j1 < X.l.length:=Classical.byContradiction (fun h=>kn0 (kl0.2 h));have HH:Hid (∀ (v':Value) (W':World),MS X W' (now+1) fst line head v' D->Hid (RF X R 1 (now+1) j1 fst line head hb v' D W')/\rM X 1 W' < rM X 1 wr):=fun v' W' m'=>⟨⟨by decide,m',hat1,hah,by omega,hpl,by omega,by omega,(fun h=>absurd h (by decide)),(fun _=>⟨hj2,kn1,f,by omega,by rw [<-hrun,zlq kn1 kn0]⟩),(fun h=>absurd h (by decide))⟩,by unfold rM;rw [za5 m',hM0];simp;omega⟩;obtain ⟨k,hk⟩:=ex (kl X.l j1);rw [hk] at hcl kn1 kn0;have t0:((k:Int)==0)=false:=by rw [beq_eq_false_iff_ne];omega
  have t1:((k:Int)==1)=false:=by rw [beq_eq_false_iff_ne];omega
  have t2:((k:Int) != 0)=true:=by rw [bne,t0];rfl
  have t3:((k:Int) != 1)=true:=by rw [bne,t1];rfl
  clear hrun hat hah hM0 m hk k01
  go_wp2_with fail
  refine hcl.mono ?_;rintro e w1 ⟨rfl,m2⟩
  go_wp2_with fail
  go_step3
  try simp only [Exit.then]
  exact ⟨⟨now+1,j1,fst,line,head,hb,v,D,_,rfl,rfl,rfl,(HH.out _ _ m2).1⟩,(HH.out _ _ m2).2⟩
set_option maxRecDepth 100000 in
set_option maxHeartbeats 4000000 in
theorem run_any {X:MX} (hC:MC X) (hF:FOK X.w0) {W:World} {v0:Value} (h:MS X W 0 0 1 0 v0 []) :
  Calls Tryz.prog 132 #[.pointer (some ⟨X.b,0,none⟩)] W fun e w'=>RunR X (zeo (X.l.length+1) X.l 0 1 0 []) e w':=by
 obtain ⟨R,hR⟩:=ex (zeo (X.l.length+1) X.l 0 1 0 []);have HF0:Hid (RF X R 0 0 0 0 1 0 0 v0 [] W):=⟨by decide,h,rfl,rfl,Nat.le_refl _,Nat.zero_le _,Nat.zero_le _,Nat.le_refl _,(fun _=>⟨_,by omega,hR⟩),(fun h=>absurd h (by decide)),(fun h=>absurd h (by decide))⟩;rw [hR];clear hR h
 go_enter Tryz.func132,Tryz.ntmps132
 go_wp2_with fail
 refine zcs (RJ X R) (fun lab _ wr=>rM X lab wr) ?pass ?first
 case first=>
  intro pass
  go_wp2_with fail
  go_step3
  simp only [Exit.then]
  rename_i hK
  refine hK _ _ ?_;exact zl1 (pass 0) ⟨0,0,0,1,0,0,v0,[],_,rfl,rfl,rfl,HF0⟩ rfl
 case pass=>
  intro lab a wr hJ;have hlab:lab=0∨lab=1∨lab=2:=by
   obtain ⟨_,_,_,_,_,_,_,_,_,_,_,_,HF⟩:=hJ;exact HF.out.1
  rcases hlab with rfl | rfl | rfl
  ·exact rn0 hC hF (fun tmps W' h=>bodyPost_ret (zfc _ _) rfl h) a wr hJ _ _ rfl
  ·exact rn1 hC (fun tmps W' h=>bodyPost_ret (zfc _ _) rfl h) a wr hJ _ _ rfl
  ·exact rn2 hC (fun tmps W' h=>bodyPost_ret (zfc _ _) rfl h) a wr hJ _ _ rfl
end Go.Proofs.YtmfakcfmkmppfaaGreatDoor
namespace Go.Proofs
open Go.Shelf
def Tryz.l316_ren:Go.Shelf.Ren:=⟨fun | 316=>141 | n=>n,fun | 9=>9 | 3=>3 | 4=>4 | 37=>145 | 0=>0 | 127=>203 | 5=>5 | n=>n,fun | n=>n⟩
theorem Tryz.l316:Go.Proofs.LaysM.n316 Tryz.prog Tryz.l316_ren:={
 mixed:=by kernel_rfl
 f316:=Tryz.func141.trans (congrArg some (by kernel_rfl))
 t0:=Tryz.underlying0
 a0:=Tryz.isAgg0
 z0:=Tryz.sizeOf0
 v0:=Tryz.zeroValue0
 t3:=Tryz.underlying3
 a3:=Tryz.isAgg3
 z3:=Tryz.sizeOf3
 v3:=Tryz.zeroValue3
 t4:=Tryz.underlying4
 a4:=Tryz.isAgg4
 z4:=Tryz.sizeOf4
 v4:=Tryz.zeroValue4
 t9:=Tryz.underlying9
 a9:=Tryz.isAgg9
 z9:=Tryz.sizeOf9
 v9:=Tryz.zeroValue9
 t37:=Tryz.underlying145
 a37:=Tryz.isAgg145
 z37:=Tryz.sizeOf145
 v37:=Tryz.zeroValue145
 t127:=Tryz.underlying203
 a127:=Tryz.isAgg203
 z127:=Tryz.sizeOf203
 v127:=Tryz.zeroValue203
 t5:=Tryz.underlying5
 a5:=Tryz.isAgg5
 z5:=Tryz.sizeOf5
 v5:=Tryz.zeroValue5
 i0:=by kernel_rfl
 i3:=by kernel_rfl
 i4:=by kernel_rfl
 i5:=by kernel_rfl
 i9:=by kernel_rfl
 i37:=by kernel_rfl
 i127:=by kernel_rfl }
end Go.Proofs
namespace Go.Proofs.YtmfakcfmkmppfaaGreatDoor
open Go.RowKit
end Go.Proofs.YtmfakcfmkmppfaaGreatDoor
namespace Go.Proofs.YtmfakcfmkmppfaaGreatDoor
open Go.RowKit Go.Shelf
theorem add0 (g m:Nat):(⟨g,0,none⟩:Addr).add m=⟨g,m,none⟩:=by unfold Addr.add;split <;> simp_all
theorem ccels_at (C:List (Int×Nat)):∀ (k:Nat) (c:Int×Nat),C[k]?=some c->(ze4 C)[k*2]?=some (.int .i32 c.1)/\(ze4 C)[k*2+1]?=some (.int .i64 (c.2:Int)):=by
 induction C with
 | nil=>intro k c h;simp at h
 | cons y C ih=>
  intro k c h;cases k with
  | zero=>
   simp at h;subst h;exact ⟨rfl,rfl⟩
  | succ k=>
   have:=ih k c (by simpa using h);rw [show (k+1)*2=k*2+1+1 by omega];exact this
theorem zbh {w:World} {B e sz n m g cap:Nat} {xs:List Value} (h:w.ownsRow B e sz (.slice (some ⟨g,0,none⟩) m cap) n xs):n<=cap:=by
 rcases h.2 with ⟨hh,_⟩ | ⟨g',c,cur,h1,_,_,h4,_⟩
 ·cases hh
 ·injection h1 with _ _ h1
  omega
def zb4 (l:List UInt8):Res:=if 16384 < l.length then ([],2,0,0) else zeo (l.length+1) l 0 1 0 []
def scR (l:List UInt8) (w:World) (e:Ending) (w':World):Prop:=
 ∃ v,e=.returned (.tuple #[v,.int .i64 ((zb4 l).2.1:Int),.int .i64 ((zb4 l).2.2.1:Int),.int .i64 ((zb4 l).2.2.2:Int)])/\w'.ownsRow w.heap.size 179 4 v (zb4 l).1.length (zft (zb4 l).1)/\Below w.heap.size w w'
theorem zfb (tmps:Array Value) (W:World):(results Tryz.f126 tmps).run Tryz.prog W=.ok (.tuple #[tmps.getD 2 undef,tmps.getD 3 undef,tmps.getD 4 undef,tmps.getD 5 undef]) W:=by
 simp [results,go_sem]
theorem zrp (l:List UInt8) (w:World) (h:l.length<=16384):Calls Tryz.prog 130 #[.string ⟨l.toArray⟩] w fun e w'=>e=.returned (.string ⟨l.toArray⟩)/\Below w.heap.size w w':=by
 have H:=Any.stringslite_Clone Tryz.l316 ⟨l.toArray⟩ w (by simp [ByteArray.size];omega)
 go_enter Tryz.func130,Tryz.ntmps130
 go_wp2_with fail
 refine H.mono ?_;rintro e w1 ⟨rfl,hb⟩
 go_wp2_with fail
 go_ret
 exact ⟨rfl,hb⟩
theorem row_blk {W:World} {B g cap n:Nat} {C:List (Int×Nat)} (h:W.ownsRow B 196 2 (.slice (some ⟨g,0,none⟩) n cap) C.length (ze4 C)):∃ gc gf,W.heap[g]?=some (.cells gc 196 gf)/\∀ k c,C[k]?=some c->gc[k*2]?=some (.int .i32 c.1)/\gc[k*2+1]?=some (.int .i64 (c.2:Int)):=by
 rcases h.2 with ⟨hh,_⟩ | ⟨g',c,cur,h1,_,h3,_⟩
 ·cases hh
 ·injection h1 with h1 _ _
  injection h1 with h1;injection h1 with h1 _ _;subst h1;refine ⟨_,_,h3,fun k c hc=>?_⟩;obtain ⟨a,b⟩:=ccels_at C k c hc;have ca:=h.cells rfl _ _ a;have cb:=h.cells rfl _ _ b;rw [add0,cell_of_row W g _ _ _ _ h3] at ca cb;exact ⟨ca,cb⟩
set_option maxRecDepth 100000 in
set_option maxHeartbeats 2000000 in
theorem scan_any (l:List UInt8) (w:World) (hm:l.length<=281474976710656) (hsh:SH w) (hsg:SG w) (hF:FOK w) :
  Calls Tryz.prog 126 #[.string ⟨l.toArray⟩] w fun e w'=>scR l w e w':=by
 by_cases h1:16384 < l.length
 ·have hr:Hid (zb4 l=([],2,0,0)):=if_pos h1
  have i1:(16384:Int) < (l.length:Int):=by omega
  go_enter Tryz.func126,Tryz.ntmps126
  go_wp2_with fail
  refine bodyPost_ret (zfb _ _) rfl ?_;unfold scR;rw [hr.out];exact ⟨_,rfl,World.ownsRow_nil _ _ _ _,Below.refl _ _⟩
 ·have i1:¬(16384:Int) < (l.length:Int):=by omega
  have hr:zb4 l=zeo (l.length+1) l 0 1 0 []:=if_neg h1;have HC:=zrp l w (by omega);have HCH:Hid (∀ W,Calls Tryz.prog 131 #[.string ⟨l.toArray⟩] W fun e w'=>∃ v,e=.returned v/\w'.ownsRow W.heap.size 196 2 v (zak l 0).length (ze4 (zak l 0))/\Below W.heap.size W w'):=fun W=>zlp l W (by omega);have hget0:(zak l 0)[0]?=some (chr l 0,(if 0 < l.length then 0 else l.length)):=zf3 (now:=0) rfl
  have hN0:0 < (zak l 0).length:=(List.getElem?_eq_some_iff.1 hget0).1;have hNm:=zcn l _ 0 (Nat.le_refl _);obtain ⟨R,hR⟩:=ex (zb4 l);unfold scR;rw [hR];have HRR:Hid (zeo (l.length+1) l 0 1 0 []=R):=hr.symm.trans hR;have hSH:Hid (SH w):=hsh;have hSG:Hid (SG w):=hsg;have hFF:Hid (FOK w):=hF;clear hr hR hget0 hsh hsg hF
  go_enter Tryz.func126,Tryz.ntmps126
  go_wp2_with fail
  refine HC.mono ?_;rintro e w1 ⟨rfl,hb1⟩
  go_wp2_with fail
  refine (HCH.out _).mono ?_;rintro e w2 ⟨vc,rfl,ho2,hb2⟩;obtain ⟨g,cap,rfl⟩:=zii ho2 hN0;have hcap:=zbh ho2;obtain ⟨gc,gf,hgk,hgc⟩:=row_blk ho2;have hbel:=zhx hb1 hb2;obtain ⟨X,hX⟩:∃ X:MX,X=⟨w,l,w2.heap.size,g,cap,gc,gf⟩:=⟨_,rfl⟩;have hMC:MC X:=by subst hX;exact ⟨hgc,hbel.size,hcap,by show l.length<=16384;omega,hSH.out,hSG.out⟩
  have hM0:MS X (w2.alloc (.cells #[.string ⟨l.toArray⟩,.slice (some ⟨g,0,none⟩) (zak l 0).length cap,.int .i64 0,.int .i64 0,.int .i64 1,.int .i64 0,.slice none 0 0] 185)) 0 0 1 0 (.slice none 0 0) []:=by
   subst hX;exact ⟨zam _ _,zax hgk _,World.ownsRow_nil _ _ _ _,hbel.alloc hbel.size _⟩
  have HRun:=run_any hMC (by subst hX;exact hFF.out) hM0;have hXb:X.b=w2.heap.size:=by rw [hX]
  have hXl:X.l=l:=by rw [hX]
  have hXw:X.w0=w:=by rw [hX]
  rw [hXb,hXl,HRR.out] at HRun;have HXw:Hid (X.w0=w):=hXw;have HXb:Hid (X.b=w2.heap.size):=hXb;clear hX hXb hXl hXw HCH HC HRR hSH hSG hFF ho2 hgk hgc hb1 hb2 hM0 hMC
  go_wp2_with fail
  refine HRun.mono ?_;rintro e w3 ⟨rfl,now,fst,line,head,v,D,hM,hhn,hn16,hok,herr⟩;clear HRun
  by_cases e0:R.2.1=0
  ·obtain rfl:=hok e0
   have hc6:=hM.c6;rw [HXb.out] at hc6;clear hok herr e0
   go_wp2_with fail
   refine bodyPost_ret (zfb _ _) rfl ?_;have ho:=hM.own;have hb:=hM.bel;rw [HXw.out] at ho hb;exact ⟨v,rfl,ho,hb⟩
  ·have hRe:=herr e0
   obtain ⟨E,hE⟩:=ex R.2.1;rw [hE] at e0 hRe ⊢;have HRe:Hid (R=([],E,line,now - head+1)):=hRe;have t0:((E:Int)==0)=false:=by rw [beq_eq_false_iff_ne];omega
   have t1:((E:Int) != 0)=true:=by rw [bne,t0];rfl
   have HB:Hid (∀ W',MS X W' now fst line head v D->∀ i,W'.cell? ⟨w2.heap.size,i,none⟩=(zhr X now fst line head v)[i]?):=fun W' m' i=>by rw [<-HXb.out];exact m'.c i
   have HCo:Hid (∀ W',MS X W' now fst line head v D->Calls Tryz.prog 133 #[.pointer (some ⟨w2.heap.size,0,none⟩),.int .i64 (now:Int)] W' fun e w'=>e=.returned (.int .i64 ((now - head+1:Nat):Int))/\w'=W'):=fun W' m'=>by
    rw [<-HXb.out];exact zhw m' hhn hn16
   clear hok herr hRe hE
   go_wp2_with fail
   refine zcg (C:=fun W=>MS X W now fst line head v D) (by kernel_rfl) (by kernel_rfl) (MS.drew hM) ?_
   go_big_quiet_want
   go_big_quiet_op
   go_big_quiet_on
   go_big_quiet_want
   refine ⟨.pointer (some ⟨w2.heap.size,4,none⟩),fun W hW=>?_,?_⟩
   ·go_simp
   go_big_quiet_on
   simp only [Act.put,List.setIfInBounds_toArray,List.set_cons_zero,List.set_cons_succ]
   go_big_quiet_want
   refine ⟨.int .i64 (line:Int),fun W hW=>?_,?_⟩
   ·have x4:W.cell? ⟨w2.heap.size,4,none⟩=some (.int .i64 (line:Int)):=HB.out W hW 4
    go_simp
   go_big_quiet_on
   simp only [Act.put,List.setIfInBounds_toArray,List.set_cons_zero,List.set_cons_succ]
   go_big_quiet_want
   refine ⟨.pointer (some ⟨w2.heap.size,2,none⟩),fun W hW=>?_,?_⟩
   ·go_simp
   go_big_quiet_on
   simp only [Act.put,List.setIfInBounds_toArray,List.set_cons_zero,List.set_cons_succ]
   go_big_quiet_want
   refine ⟨.int .i64 (now:Int),fun W hW=>?_,?_⟩
   ·have x2:W.cell? ⟨w2.heap.size,2,none⟩=some (.int .i64 (now:Int)):=HB.out W hW 2
    go_simp
   go_big_quiet_on
   simp only [Act.put,List.setIfInBounds_toArray,List.set_cons_zero,List.set_cons_succ]
   go_big_quiet_want
   refine ⟨.int .i64 ((now - head+1:Nat):Int),fun W hW=>?_,?_⟩
   ·go_simp
    refine (HCo.out W hW).mono ?_;rintro e w7 ⟨rfl,rfl⟩;exact ⟨rfl,hW⟩
   go_big_quiet_on
   simp only [Act.put,List.setIfInBounds_toArray,List.set_cons_zero,List.set_cons_succ]
   go_big_quiet_want
   go_big_quiet_op
   go_big_quiet_on
   go_big_quiet_want
   go_big_quiet_op
   go_big_quiet_on
   go_big_quiet_want
   go_big_quiet_op
   go_big_quiet_on
   go_big_quiet_want
   go_big_quiet_op
   go_big_quiet_on
   refine wpQuiet_nil ?_;intro W hW
   go_wp2_with fail
   refine bodyPost_ret (zfb _ _) rfl ?_;have hb:=hW.bel;rw [HXw.out] at hb;rw [HRe.out];exact ⟨.slice none 0 0,rfl,World.ownsRow_nil _ _ _ _,hb⟩
def okA (K:Nat) (l:List UInt8) (j e:Nat):Prop:=
 (K=2->inW l e=false/\zcl l e 3=false)/\(K=3∨K=5->inW l e=false)/\(K=4->(inW l e || zcl l e 4)=false)/\(K=7->sgn (l.drop j)=e - j)
theorem zju (l:List UInt8):∀ (m j:Nat),l.length - j<=m->(inW l (zg8 l j) || zcl l (zg8 l j) 4)=false
 | m,j,hm=>by
  cases h:(inW l j || zcl l j 4) with
  | false=>rw [zfe h];exact h
  | true=>
   have hj:j < l.length:=by
    rcases Bool.or_eq_true_iff.1 h with h | h
    ·exact (zca h).1
    ·exact (zd2 h).1
   match m,hm with
   | 0,hm=>omega
   | m+1,hm=>rw [zdx h];exact zju l m (j+1) (by omega)
theorem inW_end' {l:List UInt8} {i:Nat} (h:¬i < l.length):inW l i=false:=by
 unfold inW;rw [kl0.2 h];rfl
section
variable {l l':List UInt8} {j j' n K:Nat}
theorem zey (h:AG l j l' j' n) (h7:kl l j≠7) (h7':kl l' j'≠7) (hC:za7 l j=(K,j+n)) (hE:zcy l j=0) (hC':za7 l' j'=(K,j'+n)):zcy l' j'=0:=by
 unfold zcy at hE ⊢;rw [if_neg (fun e=>h7 e.1),hC] at hE;rw [if_neg (fun e=>h7' e.1),hC'];simp only at hE ⊢;rw [h.sub];exact hE
theorem tok_ag (h:AG l j l' j' n) (hn:0 < n) (hC:za7 l j=(K,j+n)) (hE:zcy l j=0) (ok:okA K l' j' (j'+n)):za7 l' j'=(K,j'+n)/\zcy l' j'=0:=by
 have hl:=h.1;have hl':=h.2.1;have hk:=h.kl0 hn;have a1:=h.more (m:=1) (by omega)
 by_cases h3:kl l j=3
 ·have h3':kl l' j'=3:=hk ▸ h3
  have hw:=(zdp l _ (j+1) (Nat.le_refl _)).1;cases hd:zcl l (za8 l (j+1)) 3 with
  | true=>
   have e:za7 l j=(3,za8 l (za8 l (j+1)+1)):=by unfold za7 zek;rw [if_pos h3,if_pos rfl,hd,if_pos rfl]
   obtain ⟨rfl,e2⟩:=Prod.mk.inj (e.symm.trans hC);obtain ⟨d1,d2⟩:kl l (za8 l (j+1))=5/\kl l (za8 l (j+1)+1)=3:=by unfold zcl at hd;simpa using hd
   have hw2:inW l (za8 l (j+1)+1)=true:=by unfold inW;rw [d2];rfl
   have hw3:=(zdp l _ (za8 l (j+1)+1+1) (Nat.le_refl _)).1;rw [<-zbd hw2,e2] at hw3;obtain ⟨p,hp⟩:∃ p,za8 l (j+1)=j+p:=⟨za8 l (j+1) - j,by omega⟩;rw [hp] at d1 d2 hw hw3 e2;have k1:=h.kl (k:=p) (by omega);have k2:=h.kl (k:=p+1) (by omega);rw [<-Nat.add_assoc,<-Nat.add_assoc] at k2;have s1:inW l' (j'+p)=false:=by unfold inW;rw [<-k1,d1];rfl
   have w1:za8 l' (j'+1)=j'+p:=by
    have:=zga _ (Nat.le_refl _) (a1.cut (m:=p - 1) (by omega)) (by omega) (by rw [show j'+1+(p - 1)=j'+p by omega];exact s1);omega
   have hd':zcl l' (j'+p) 3=true:=by unfold zcl;rw [<-k1,<-k2,d1,d2];rfl
   have a2:=h.more (m:=p+1) (by omega);have w2:za8 l' (j'+p+1)=j'+n:=by
    have:=zga _ (Nat.le_refl _) a2 (by rw [show j+(p+1)=j+p+1 by omega,e2];omega) (by rw [show j'+(p+1)+(n - (p+1))=j'+n by omega];exact ok.2.1 (.inl rfl));rw [show j'+(p+1)=j'+p+1 by omega] at this;omega
   have hC':za7 l' j'=(3,j'+n):=by unfold za7 zek;rw [if_pos h3',if_pos rfl,w1,hd',if_pos rfl,w2]
   exact ⟨hC',zey h (by omega) (by omega) hC hE hC'⟩
  | false=>
   have e:za7 l j=(2,za8 l (j+1)):=by unfold za7 zek;rw [if_pos h3,if_pos rfl,hd,if_neg (by decide)]
   obtain ⟨rfl,e2⟩:=Prod.mk.inj (e.symm.trans hC);have w1:za8 l' (j'+1)=j'+n:=by
    have:=zga _ (Nat.le_refl _) a1 (by omega) (by rw [show j'+1+(n - 1)=j'+n by omega];exact (ok.1 rfl).1);omega
   have hC':za7 l' j'=(2,j'+n):=by unfold za7 zek;rw [if_pos h3',if_pos rfl,w1,(ok.1 rfl).2,if_neg (by decide)]
   exact ⟨hC',zey h (by omega) (by omega) hC hE hC'⟩
 have h3':kl l' j'≠3:=hk ▸ h3
 by_cases h4:kl l j=4
 ·have h4':kl l' j'=4:=hk ▸ h4
  have e:za7 l j=(4,zg8 l (j+1)):=by unfold za7 zek;rw [if_neg h3,if_pos h4,if_neg (by decide),if_neg (by decide),if_pos rfl]
  obtain ⟨rfl,e2⟩:=Prod.mk.inj (e.symm.trans hC);have hst:=zju l _ (j+1) (Nat.le_refl _);rw [e2] at hst;have w1:zg8 l' (j'+1)=j'+n:=by
   have:=zqp _ (Nat.le_refl _) a1 (by omega) (by rw [show j'+1+(n - 1)=j'+n by omega];exact ok.2.2.1 rfl) (fun k hk2=>by
    cases hd:zcl l (j+1+k) 4 with
    | false=>rfl
    | true=>
     have d2:kl l (j+1+k+1)=4:=by unfold zcl at hd;simp at hd;exact hd.2
     rw [show j+1+k+1=j+n by omega] at d2;rw [show inW l (j+n)=true by unfold inW;rw [d2];rfl] at hst;cases hst)
   omega
  have hC':za7 l' j'=(4,j'+n):=by unfold za7 zek;rw [if_neg h3',if_pos h4',if_neg (by decide),if_neg (by decide),if_pos rfl,w1]
  exact ⟨hC',zey h (by omega) (by omega) hC hE hC'⟩
 have h4':kl l' j'≠4:=hk ▸ h4
 by_cases h6:kl l j=6
 ·have h6':kl l' j'=6:=hk ▸ h6
  have e:za7 l j=(5,za8 l (j+1)):=by unfold za7 zek;rw [if_neg h3,if_neg h4,if_pos h6,if_neg (by decide),if_neg (by decide),if_neg (by decide),if_pos rfl]
  obtain ⟨rfl,e2⟩:=Prod.mk.inj (e.symm.trans hC);have w1:za8 l' (j'+1)=j'+n:=by
   have:=zga _ (Nat.le_refl _) a1 (by omega) (by rw [show j'+1+(n - 1)=j'+n by omega];exact ok.2.1 (.inr rfl));omega
  have hC':za7 l' j'=(5,j'+n):=by unfold za7 zek;rw [if_neg h3',if_neg h4',if_pos h6',if_neg (by decide),if_neg (by decide),if_neg (by decide),if_pos rfl,w1]
  exact ⟨hC',zey h (by omega) (by omega) hC hE hC'⟩
 have h6':kl l' j'≠6:=hk ▸ h6
 by_cases h7:kl l j=7
 ·have h7':kl l' j'=7:=hk ▸ h7
  have hCq:∀ {x:List UInt8} {i:Nat},kl x i=7->za7 x i=(6,zhm x i):=fun hx=>by
   unfold za7 zek;rw [if_neg (by omega),if_neg (by omega),if_neg (by omega),if_pos hx,if_neg (by decide),if_neg (by decide),if_neg (by decide),if_neg (by decide)]
  obtain ⟨rfl,e2⟩:=Prod.mk.inj ((hCq h7).symm.trans hC);have hq0:zg6 l j=0:=Classical.byContradiction (fun e=>by
   unfold zcy at hE;rw [if_pos ⟨h7,e⟩] at hE;exact e hE)
  unfold zg6 at hq0
  by_cases q1:(zbx l (j+1) []).2.2=33/\kl l (zbx l (j+1) []).2.1=1
  ·rw [if_pos q1] at hq0;cases hq0
  rw [if_neg q1] at hq0
  by_cases q2:(zbx l (j+1) []).2.2=0/\256 < (zbx l (j+1) []).1.length
  ·rw [if_pos q2] at hq0;cases hq0
  rw [if_neg q2] at hq0;unfold zhm at e2;rw [if_neg q2] at e2;have hi:zbx l (j+1) []=((zbx l (j+1) []).1,j+1+(n - 1),0):=Prod.ext rfl (Prod.ext (by show (zbx l (j+1) []).2.1=j+1+(n - 1);omega) hq0);have hi':=zqy _ (Nat.le_refl _) a1 hi;have q2':¬((zbx l' (j'+1) []).2.2=0/\256 < (zbx l' (j'+1) []).1.length):=by
   rw [hi'];exact fun hh=>q2 ⟨hq0,hh.2⟩
  have hJ':zhm l' j'=j'+n:=by
   unfold zhm;rw [if_neg q2',hi'];simp only;omega
  have hE':zg6 l' j'=0:=by
   unfold zg6;rw [if_neg q2',hi'];simp
  refine ⟨by rw [hCq h7',hJ'],?_⟩;unfold zcy;rw [if_neg (fun hh=>hh.2 hE'),hCq h7'];show zbq 6 _=0;unfold zbq;rw [if_neg (by decide),if_neg (by decide),if_neg (by decide),if_neg (by decide)]
 have h7':kl l' j'≠7:=hk ▸ h7;obtain ⟨c1,-,-⟩:=zh6 h3 h4 h6 h7;obtain ⟨c1',-,-⟩:=zh6 h3' h4' h6' h7';obtain ⟨rfl,-⟩:=Prod.mk.inj (c1.symm.trans hC);have hs:=ok.2.2.2 rfl;have hC':za7 l' j'=(7,j'+n):=by rw [c1',hs,show j'+n - j'=n by omega]
 exact ⟨hC',zey h h7 h7' hC hE hC'⟩
end
theorem sgn_all:∀ s∈zdq,sgn s=s.length:=by decide
theorem zpm {r:List UInt8} {n:Nat} (hn:0 < n) (h:sgn r=n):sgn (r.take n)=n:=by
 unfold sgn at h;cases hf:zdq.find? (fun s=>Lib.hasPrefix r s) with
 | none=>rw [hf] at h;simp at h;omega
 | some z=>
  have hz:=List.find?_some hf;have hm:=List.mem_of_find?_eq_some hf;rw [hf] at h;simp only [Option.map_some,Option.getD_some] at h;unfold Lib.hasPrefix at hz;rw [List.isPrefixOf_iff_prefix] at hz;obtain ⟨t,ht⟩:=hz;have e:r.take n=z:=by rw [<-ht,<-h];exact List.take_left
  rw [e,sgn_all z hm,h]
def zj3 (K:Nat) (X:List UInt8):Prop:=0 < X.length/\kl X 0≠1/\kl X 0≠2/\kl X 0≠8/\za7 X 0=(K,X.length)/\zcy X 0=0
theorem ag_sub {l:List UInt8} {j n:Nat} (h:j+n<=l.length):AG l j (zbw l j (j+n)) 0 n:=by
 have hl:(zbw l j (j+n)).length=n:=by rw [ze9 h];omega
 refine ⟨h,by omega,fun k hk=>?_⟩;rw [Nat.zero_add];have e:(zbw l j (j+n))[k]?=some l[j+k]:=by
  unfold zbw;rw [List.getElem?_take,if_pos (by omega),List.getElem?_drop,List.getElem?_eq_getElem]
 rw [zdh e,zdh (List.getElem?_eq_getElem (show j+k < l.length by omega))]
theorem zpe {l:List UInt8} {j n K:Nat} (hn:0 < n) (hl:j+n<=l.length) (h1:kl l j≠1) (h2:kl l j≠2) (h8:kl l j≠8) (hC:za7 l j=(K,j+n)) (hE:zcy l j=0):zj3 K (zbw l j (j+n)):=by
 have a:=ag_sub hl;have hlen:(zbw l j (j+n)).length=n:=by rw [ze9 hl];omega
 have hk:=a.kl0 hn;have ok:okA K (zbw l j (j+n)) 0 (0+n):=by
  have hi:inW (zbw l j (j+n)) (0+n)=false:=inW_end' (by omega);have hd:∀ c,c≠0->zcl (zbw l j (j+n)) (0+n) c=false:=fun c hc=>by
   unfold zcl;rw [kl0.2 (show ¬0+n+1 < (zbw l j (j+n)).length by omega),decide_eq_false (show ¬0=c by omega),Bool.and_false]
  refine ⟨fun _=>⟨hi,hd 3 (by decide)⟩,fun _=>hi,fun _=>by rw [hi,hd 4 (by decide)];rfl,fun h7=>?_⟩;subst h7;have hs:sgn (l.drop j)=n:=by
   have h3:kl l j≠3:=fun e=>by
    unfold za7 zek at hC;rw [if_pos e,if_pos rfl] at hC
    split at hC <;> simp at hC
   have h4:kl l j≠4:=fun e=>by
    unfold za7 zek at hC;rw [if_neg h3,if_pos e,if_neg (by decide),if_neg (by decide),if_pos rfl] at hC;simp at hC
   have h6:kl l j≠6:=fun e=>by
    unfold za7 zek at hC;rw [if_neg h3,if_neg h4,if_pos e,if_neg (by decide),if_neg (by decide),if_neg (by decide),if_pos rfl] at hC;simp at hC
   have h7:kl l j≠7:=fun e=>by
    unfold za7 zek at hC;rw [if_neg h3,if_neg h4,if_neg h6,if_pos e,if_neg (by decide),if_neg (by decide),if_neg (by decide),if_neg (by decide)] at hC;simp at hC
   have:=(zh6 h3 h4 h6 h7).1;rw [hC] at this;have:=(Prod.mk.inj this).2;omega
  have:=zpm hn hs;rw [List.drop_zero,Nat.zero_add,Nat.sub_zero];unfold zbw;rw [Nat.add_sub_cancel_left];exact this
 obtain ⟨t1,t2⟩:=tok_ag a hn hC hE ok;exact ⟨by omega,by rw [<-hk];exact h1,by rw [<-hk];exact h2,by rw [<-hk];exact h8,by rw [t1,hlen,Nat.zero_add],t2⟩
theorem scan_one {K:Nat} {X:List UInt8} (h:zj3 K X) (hX:X.length<=16384):∃ c,zb4 X=([(K,X,1,1),(1,[10],1,c)],0,0,0):=by
 obtain ⟨h0,h1,h2,h8,hC,hE⟩:=h;have hz:kl X 0≠0:=fun e=>kl0.1 e h0;have hJ:zdv X 0=X.length:=by rw [zl4 hE,hC]
 have hK:K≠1:=fun e=>by
  have:(za7 X 0).1≠1:=by
   unfold za7 zek
   repeat' split
   all_goals simp
  rw [hC] at this;exact this e
 have hs:zbw X 0 X.length=X:=by unfold zbw;simp
 unfold zb4;rw [if_neg (by omega),zfx h2 h8 h1 hz hE,hJ,hC];obtain ⟨m,hm⟩:∃ m,X.length=m+1:=⟨X.length - 1,by omega⟩;have hend:kl X X.length=0:=kl0.2 (by omega);have e0:∀ (f:Nat) (D:List Tok),f=m+1->zeo f X X.length 1 0 D=zdu m X X.length 1 0 D:=fun f D hf=>by
  subst hf;exact zeq (.inr hend)
 have e:=e0 X.length ([]++[(K,zbw X 0 X.length,1,ci X 0 - ci X 0+1)]) hm;simp only at e ⊢;rw [e];unfold zdu;rw [if_pos hend,hs,Nat.sub_self];refine ⟨ci X X.length - ci X 0+1,?_⟩;unfold zlm;simp [hK]
def ended (X:List Tok):Prop:=∀ t,X.getLast?=some t->t.1=1
theorem zod (D:List Tok) (line col:Nat):ended (zlm D line col):=by
 unfold zlm ended;intro t ht;cases h:D.getLast? with
 | none=>
  rw [h] at ht;simp only [h] at ht;cases ht
 | some u=>
  rw [h] at ht
  by_cases hu:u.1=1
  ·simp only [if_pos hu,h] at ht
   rw [<-Option.some.inj ht];exact hu
  ·simp only [if_neg hu,List.getLast?_concat] at ht
   rw [<-Option.some.inj ht]
theorem zep (l:List UInt8):∀ (f j line hb:Nat) (D:List Tok),l.length - j < f->((zeo f l j line hb D).2.1=0->ended (zeo f l j line hb D).1/\(zeo f l j line hb D).2=(0,0,0))/\((zeo f l j line hb D).2.1≠0->(zeo f l j line hb D).1=[])
 | 0,j,line,hb,D,hf=>by omega
 | f+1,j,line,hb,D,hf=>by
  have hend:∀ e,j<=e->((zdu f l e line hb D).2.1=0->ended (zdu f l e line hb D).1/\(zdu f l e line hb D).2=(0,0,0))/\((zdu f l e line hb D).2.1≠0->(zdu f l e line hb D).1=[]):=fun e he=>by
   unfold zdu
   by_cases h0:kl l e=0
   ·rw [if_pos h0]
    exact ⟨fun _=>⟨zod _ _ _,rfl⟩,fun h=>absurd rfl h⟩
   ·have hlt:e < l.length:=Classical.byContradiction (fun h=>h0 (kl0.2 h))
    rw [if_neg h0];exact zep l f _ _ _ _ (by omega)
  by_cases h10:kl l j=1∨kl l j=0
  ·rw [zeq h10]
   exact hend j (Nat.le_refl _)
  have h1:kl l j≠1:=fun e=>h10 (.inl e);have h0:kl l j≠0:=fun e=>h10 (.inr e);have hj:j < l.length:=Classical.byContradiction (fun e=>h0 (kl0.2 e))
  by_cases h2:kl l j=2
  ·rw [zfa h2]
   exact zep l f _ _ _ _ (by omega)
  by_cases h8:kl l j=8
  ·rw [zgg h8]
   have:=zlr (l:=l) _ (j+1) (Nat.le_refl _);exact hend _ (by omega)
  by_cases he:zcy l j=0
  ·obtain ⟨a1,a2⟩:=zks hj h1 he
   rw [zfx h2 h8 h1 h0 he];exact zep l f _ _ _ _ (by omega)
  ·rw [zib h2 h8 h1 h0 he]
   exact ⟨fun h=>absurd h he,fun _=>rfl⟩
end Go.Proofs.YtmfakcfmkmppfaaGreatDoor
