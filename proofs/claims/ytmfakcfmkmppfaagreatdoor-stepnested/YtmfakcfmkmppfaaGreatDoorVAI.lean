import Derived.Test.YtmfakcfmkmppfaaGreatDoorVAH
namespace Go.Proofs.YtmfakcfmkmppfaaGreatDoor
open Go.RowKit Go.Shelf
section
variable {l l':List UInt8} {j j' n:Nat}
theorem AG.cut (h:AG l j l' j' n) {m:Nat} (hm:m<=n):AG l j l' j' m:=⟨by have:=h.1;omega,by have:=h.2.1;omega,fun k hk=>h.2.2 k (by omega)⟩
theorem AG.getD (h:AG l j l' j' n) {k:Nat} (hk:k < n):l'.getD (j'+k) 0=l.getD (j+k) 0:=UInt8.toNat_inj.1 (h.2.2 k hk).symm
theorem AG.take (h:AG l j l' j' n) {k:Nat} (hk:k<=n):(l'.drop j').take k=(l.drop j).take k:=by
 have:=(h.cut hk).sub;unfold zbw at this;rw [Nat.add_sub_cancel_left,Nat.add_sub_cancel_left] at this;exact this
theorem zj1:∀ (f:Nat) {j j' n x:Nat},AG l j l' j' n->(zan f (l.drop j) x).1 < n->zan f (l'.drop j') x=zan f (l.drop j) x
 | 0,j,j',n,x,_,_=>rfl
 | f+1,j,j',n,x,h,hc=>by
  have h1:j < l.length:=by have:=h.1;omega
  have h2:j' < l'.length:=by have:=h.2.1;omega
  have hb:l'[j']=l[j]:=by
   have e:=h.2.2 0 (by omega);rw [Nat.add_zero,Nat.add_zero,zdh (List.getElem?_eq_getElem h1),zdh (List.getElem?_eq_getElem h2)] at e;exact (UInt8.toNat_inj.1 e).symm
  rw [List.drop_eq_getElem_cons h1] at hc ⊢;rw [List.drop_eq_getElem_cons h2,hb];rw [zan] at hc ⊢;rw [zan];cases hd:zbu l[j] with
  | none=>rfl
  | some d=>
   rw [hd] at hc;simp only at hc ⊢;rw [zj1 f (h.more (m:=1) (by omega)) (by omega)]
theorem brS_ag (h:AG l j l' j' n) (h0:(brS l j).1≠0) (hn:(brS l j).1<=n):brS l' j'=brS l j:=by
 have hl:=h.1;have hl':=h.2.1
 by_cases c1:l.length < j+3∨bt l (j+2)≠123
 ·exact absurd (by unfold brS;rw [if_pos c1]) h0
 by_cases c2:(zan 6 (l.drop (j+3)) 0).1=0∨l.length<=j+3+(zan 6 (l.drop (j+3)) 0).1∨bt l (j+3+(zan 6 (l.drop (j+3)) 0).1)≠125∨1114111 < (zan 6 (l.drop (j+3)) 0).2∨(55296<=(zan 6 (l.drop (j+3)) 0).2/\(zan 6 (l.drop (j+3)) 0).2<=57343)
 ·exact absurd (by unfold brS;rw [if_neg c1,if_pos c2]) h0
 have e:brS l j=(4+(zan 6 (l.drop (j+3)) 0).1,(zan 6 (l.drop (j+3)) 0).2):=by unfold brS;rw [if_neg c1,if_neg c2]
 rw [e] at hn ⊢;simp only at hn;have hh:=zj1 (x:=0) 6 (h.more (m:=3) (by omega)) (by omega);have b2:=h.2.2 2 (by omega);have b3:=h.2.2 (3+(zan 6 (l.drop (j+3)) 0).1) (by omega);rw [<-Nat.add_assoc,<-Nat.add_assoc] at b3;unfold brS;rw [hh,<-b2,<-b3,if_neg (by omega),if_neg (by omega)]
theorem zrj (l:List UInt8) (j:Nat):(zbj l j).1=0∨(zbj l j).1=2∨(zbj l j).1=4∨(zbj l j).1=(brS l j).1:=by
 unfold zbj
 repeat' split
 all_goals first
  | exact .inl rfl
  | exact .inr (.inl rfl)
  | exact .inr (.inr (.inl rfl))
  | exact .inr (.inr (.inr rfl))
theorem zrx (l:List UInt8) (j:Nat):(brS l j).1=0∨4<=(brS l j).1:=by
 unfold brS
 repeat' split
 ·exact .inl rfl
 ·exact .inl rfl
 ·exact .inr (by simp only;omega)
theorem esc_two {l:List UInt8} {j:Nat} (h:(zbj l j).1≠0):2<=(zbj l j).1:=by
 have h1:=zrj l j;have h2:=zrx l j;omega
theorem esc_ag (h:AG l j l' j' n) (h0:(zbj l j).1≠0) (hn:(zbj l j).1<=n):zbj l' j'=zbj l j:=by
 have hl:=h.1;have hl':=h.2.1
 by_cases c0:l.length<=j+1
 ·exact absurd (by unfold zbj;rw [if_pos c0]) h0
 have key:2<=n->zbj l' j'=zbj l j:=fun h2=>by
  have b1:=h.2.2 1 (by omega);unfold zbj at h0 hn ⊢;rw [if_neg c0] at h0 hn ⊢;rw [if_neg (show ¬l'.length<=j'+1 by omega),<-b1]
  by_cases c1:bt l (j+1)=34
  ·rw [if_pos c1,if_pos c1]
  rw [if_neg c1] at h0 hn ⊢;rw [if_neg c1]
  by_cases c2:bt l (j+1)=92
  ·rw [if_pos c2,if_pos c2]
  rw [if_neg c2] at h0 hn ⊢;rw [if_neg c2]
  by_cases c3:bt l (j+1)=110
  ·rw [if_pos c3,if_pos c3]
  rw [if_neg c3] at h0 hn ⊢;rw [if_neg c3]
  by_cases c4:bt l (j+1)=114
  ·rw [if_pos c4,if_pos c4]
  rw [if_neg c4] at h0 hn ⊢;rw [if_neg c4]
  by_cases c5:bt l (j+1)=116
  ·rw [if_pos c5,if_pos c5]
  rw [if_neg c5] at h0 hn ⊢;rw [if_neg c5]
  by_cases c6:bt l (j+1)=120
  ·rw [if_pos c6] at h0 hn ⊢
   rw [if_pos c6]
   by_cases c7:j+3 < l.length
   ·rw [if_pos c7] at h0 hn ⊢
    cases ha:zbu (l.getD (j+2) 0) with
    | none=>rw [ha] at h0;exact absurd rfl h0
    | some a=>
     cases hb:zbu (l.getD (j+3) 0) with
     | none=>rw [ha,hb] at h0;exact absurd rfl h0
     | some b=>
      rw [ha,hb] at hn;simp only at hn;rw [if_pos (show j'+3 < l'.length by omega),h.getD (k:=2) (by omega),h.getD (k:=3) (by omega),ha,hb]
   ·rw [if_neg c7] at h0
    exact absurd rfl h0
  rw [if_neg c6] at h0 hn ⊢;rw [if_neg c6]
  by_cases c8:bt l (j+1)=117
  ·rw [if_pos c8] at h0 hn ⊢
   rw [if_pos c8]
   by_cases c9:0 < (brS l j).1
   ·rw [if_pos c9] at hn ⊢
    simp only at hn;rw [brS_ag h (by omega) hn,if_pos c9]
   ·rw [if_neg c9] at h0
    exact absurd rfl h0
  rw [if_neg c8] at h0;exact absurd rfl h0
 exact key (Nat.le_trans (esc_two h0) hn)
theorem zqy:∀ (m:Nat) {j j' n:Nat} {s s':List UInt8},n<=m->AG l j l' j' n->zbx l j s=(s',j+n,0)->zbx l' j' s=(s',j'+n,0)
 | m,j,j',n,s,s',hm,h,hi=>by
  have hl:=h.1;have hl':=h.2.1;have hj:j < l.length:=Classical.byContradiction (fun hc=>by
   rw [zbx,if_neg hc] at hi;have:=(Prod.mk.inj (Prod.mk.inj hi).2).2;omega)
  rw [zbx,if_pos hj] at hi
  by_cases c1:bt l j=34
  ·rw [if_pos c1] at hi
   obtain ⟨e1,e2⟩:=Prod.mk.inj hi;have e3:=(Prod.mk.inj e2).1;obtain rfl:n=1:=by omega
   have b0:=h.2.2 0 (by omega);rw [Nat.add_zero,Nat.add_zero] at b0;rw [zbx,if_pos (by omega),if_pos (by rw [<-b0];exact c1),e1]
  rw [if_neg c1] at hi;have hn0:0 < n:=by
   refine Nat.pos_of_ne_zero (fun e=>?_);subst e
   by_cases c2:bt l j=92
   ·rw [if_pos c2] at hi
    by_cases c3:(zbj l j).1=0
    ·rw [if_pos c3] at hi
     have:=(Prod.mk.inj (Prod.mk.inj hi).2).2;omega
    ·rw [if_neg c3] at hi
     have hq:=(zez l j (by omega)).1;have hg:=zei l _ (j+(zbj l j).1) (s++(zbj l j).2) (Nat.le_refl _) (by omega);rw [hi] at hg;simp only at hg;omega
   ·rw [if_neg c2] at hi
    by_cases c3:lo1 l j=true∨bt l j < 32∨bt l j=127
    ·rw [if_pos c3] at hi
     have:=(Prod.mk.inj (Prod.mk.inj hi).2).2;omega
    ·rw [if_neg c3] at hi
     have hp:=zb8 l j;have hle:=ziw l j hj;have hg:=zei l _ (j+(dc l j).2) (s++(l.drop j).take (dc l j).2) (Nat.le_refl _) hle;rw [hi] at hg;simp only at hg;omega
  have b0:=h.2.2 0 hn0;rw [Nat.add_zero,Nat.add_zero] at b0
  match m,hm with
  | 0,hm=>omega
  | m+1,hm=>
   by_cases c2:bt l j=92
   ·rw [if_pos c2] at hi
    by_cases c3:(zbj l j).1=0
    ·rw [if_pos c3] at hi
     have:=(Prod.mk.inj (Prod.mk.inj hi).2).2;omega
    ·rw [if_neg c3] at hi
     have hq:=(zez l j (by omega)).1;have hg:=zei l _ (j+(zbj l j).1) (s++(zbj l j).2) (Nat.le_refl _) (by omega);rw [hi] at hg;simp only at hg;have he:=esc_ag h c3 (by omega);rw [zbx,if_pos (by omega),if_neg (by rw [<-b0];exact c1),if_pos (by rw [<-b0];exact c2),he,if_neg c3,zqy m (n:=n - (zbj l j).1) (by omega) (h.more (by omega)) (by rw [hi,show j+n=j+(zbj l j).1+(n - (zbj l j).1) by omega]),show j'+(zbj l j).1+(n - (zbj l j).1)=j'+n by omega]
   ·rw [if_neg c2] at hi
    by_cases c3:lo1 l j=true∨bt l j < 32∨bt l j=127
    ·rw [if_pos c3] at hi
     have:=(Prod.mk.inj (Prod.mk.inj hi).2).2;omega
    ·rw [if_neg c3] at hi
     have hlo:lo1 l j=false:=Bool.eq_false_iff.2 (fun e=>c3 (.inl e));have hp:=zb8 l j;have hle:=ziw l j hj;have hg:=zei l _ (j+(dc l j).2) (s++(l.drop j).take (dc l j).2) (Nat.le_refl _) hle;rw [hi] at hg;simp only at hg;have hd:=dc_ag h hlo (by omega);have hlo':lo1 l' j'=lo1 l j:=by unfold lo1;rw [hd]
     rw [zbx,if_pos (by omega),if_neg (by rw [<-b0];exact c1),if_neg (by rw [<-b0];exact c2),hlo',<-b0,if_neg c3,hd,h.take (by omega),zqy m (n:=n - (dc l j).2) (by omega) (h.more (by omega)) (by rw [hi,show j+n=j+(dc l j).2+(n - (dc l j).2) by omega]),show j'+(dc l j).2+(n - (dc l j).2)=j'+n by omega]
end
set_option maxRecDepth 100000 in
set_option maxHeartbeats 4000000 in
theorem tk0 {X:MX} (hC:MC X) (hF:FOK X.w0) {now0 line head j0:Nat} {D:List Tok} (hA0:AT X.l now0 j0) (hhd:head<=now0) (hD:D.length<=65536) {Q:Exit->Act->World->Prop} (hQ0:∀ tmps W',zjg X now0 line head j0 D (.returned (tmps.getD 2 undef)) W'->Q .ret { tmps:=tmps,defers:=[] } W')
  (a:Act) (wr:World) (hJ:TJ X now0 line head j0 D 0 a wr) (R c:Code) (hc:Tryz.f144.body=some (.seq R (.scope c))):∃ X',findLabel c 0=some (.seq .skip X')/\X'.wp Tryz.prog (zd9 (fun l' a' w'=>TJ X now0 line head j0 D l' a' w'/\zfl X w' < zfl X wr) Q) a wr:=by
 have HA0:Hid (AT X.l now0 j0):=hA0;have hQ:Hid (∀ tmps W',zjg X now0 line head j0 D (.returned (tmps.getD 2 undef)) W'->Q .ret { tmps:=tmps,defers:=[] } W'):=hQ0;have hlen:=hC.len;clear hA0 hQ0;unfold Tryz.f144 at hc;injection hc with hc;injection hc with _ hc;injection hc with hc;subst hc;refine ⟨_,rfl,?_⟩;obtain ⟨now,j,v,u,rfl,hu,h0,HF⟩:=hJ;obtain ⟨u0,u1,u2,u3,u4,u5,u6,u7,u8,u9,u10,u11,u12,u13,u14,u15,u16,u17,u18,u19,u20,u21,u22,u23,u24,u25,u26,u27,u28,u29,u30,u31,u32,u33,u34,u35,u36,u37,u38,u39,u40,u41,u42,u43,u44,u45,u46,u47,u48,u49,u50,u51,u52,u53,u54,u55,u56,u57,u58,u59,u60,u61,u62,u63,u64,u65,u66,u67,u68,u69,u70,u71,u72,u73,u74,u75,u76,u77,u78,u79,u80,u81,u82,u83,u84,u85,u86,u87,u88,u89,u90,u91,u92,u93,u94,u95,u96,u97,u98,u99,u100,u101,u102,u103,u104,rfl⟩:=zg4 u hu;have e0:u0=.pointer (some ⟨X.b,0,none⟩):=h0;subst e0;clear hu h0;obtain ⟨-,m,hat,hj0,hjl,hasc,hend,h3,hn7,h7⟩:=HF.out;clear HF;have hc2:=m.c2;have fz2:=m.fz 2;have hle:=hat.le;have hlt:=hat.lt;have n0:(0:Int)<=(now:Int):=by omega
 have n1:(now:Int)<=16384:=by omega
 have hat1:=hat.asc hjl hasc;have m1:=m.setNow hC (now+1) (z:=(now:Int)+1) (by omega);have hM0:=za5 m;have HW:=zc6 hC m1 hat1;obtain ⟨r,hr⟩:=ex (inW X.l (j+1));rw [hr] at HW;clear m;cases r with
 | true=>
  obtain ⟨hl1,ha1⟩:=zca hr;have hend1:zek 0 X.l (j+1)=za7 X.l j0:=by
   rw [<-hend];show (if zcl X.l (za8 X.l (j+1+1)) 3=true then ((3:Nat),za8 X.l (za8 X.l (j+1+1)+1)) else (2,za8 X.l (j+1+1)))=(if zcl X.l (za8 X.l (j+1)) 3=true then ((3:Nat),za8 X.l (za8 X.l (j+1)+1)) else (2,za8 X.l (j+1)))
   rw [zbd (j:=j+1) (by simp [hr])]
  have HH:Hid (∀ W',MS X W' (now+1) now0 line head v D->Hid (TF X now0 line head j0 D 0 (now+1) (j+1) v W')/\zfl X W' < zfl X wr):=fun W' m'=>⟨⟨by decide,m',hat1,by omega,hl1,ha1,hend1,(fun h=>absurd h (by decide)),(fun _=>hn7 (by decide)),(fun h=>absurd h (by decide))⟩,by rw [za5 m',hM0];omega⟩;clear hend1 ha1;clear hr hat1 hat hend h3 hn7 h7 hM0 hasc
  go_wp2_with fail
  refine HW.mono ?_;rintro e w1 ⟨rfl,m2⟩
  go_wp2_with fail
  go_step3
  simp only [Exit.then];exact ⟨⟨now+1,j+1,v,_,rfl,rfl,rfl,(HH.out _ m2).1⟩,(HH.out _ m2).2⟩
 | false=>
  have HDt:Hid (∀ W',MS X W' (now+1) now0 line head v D->Calls Tryz.prog 155 #[.pointer (some ⟨X.b,0,none⟩),.int .i64 3] W' fun e w'=>e=.returned (.bool (zcl X.l (j+1) 3))/\MS X w' (now+1) now0 line head v D):=fun W' m'=>zfn hC m' hat1 3 (by decide);obtain ⟨d,hd⟩:=ex (zcl X.l (j+1) 3);rw [hd] at HDt;cases d with
  | true=>
   have hk:kl X.l (j+1)=5/\kl X.l (j+1+1)=3:=by unfold zcl at hd;simpa using hd
   obtain ⟨hl0,ha0⟩:=zd2 hd;have hat2:=hat1.asc hl0 ha0;have hr2:inW X.l (j+2)=true:=by
    have:=hk.2;unfold inW;rw [show j+2=j+1+1 by rfl,this];rfl
   obtain ⟨hl1,ha1⟩:=zca hr2;have hend1:zek 4 X.l (j+2)=za7 X.l j0:=by
    rw [<-hend];show ((3:Nat),za8 X.l (j+2+1))=(if zcl X.l (za8 X.l (j+1)) 3=true then ((3:Nat),za8 X.l (za8 X.l (j+1)+1)) else (2,za8 X.l (j+1)))
    rw [zcj (j:=j+1) hr,if_pos hd,zbd (j:=j+2) hr2]
   have HH:Hid (∀ W',MS X W' (now+2) now0 line head v D->Hid (TF X now0 line head j0 D 4 (now+2) (j+2) v W')/\zfl X W' < zfl X wr):=fun W' m'=>⟨⟨by decide,m',hat2,by omega,hl1,ha1,hend1,(fun h=>absurd h (by decide)),(fun _=>hn7 (by decide)),(fun h=>absurd h (by decide))⟩,by rw [za5 m',hM0];omega⟩;have HI:Hid (∀ W',MS X W' (now+2) now0 line head v D->Calls Tryz.prog 154 #[.pointer (some ⟨X.b,0,none⟩)] W' fun e w'=>e=.returned (.bool true)/\MS X w' (now+2) now0 line head v D):=fun W' m'=>by
    have:=zc6 hC m' hat2;rw [show now+1+1=now+2 by rfl,show j+1+1=j+2 by rfl,hr2] at this;exact this
   clear hend1 ha1 hd hk hr2 hat2 ha0;clear hr hat1 hat hend h3 hn7 h7 hM0 hasc
   go_wp2_with fail
   refine HW.mono ?_;rintro e w1 ⟨rfl,m3⟩
   go_wp2_with fail
   refine (HDt.out _ m3).mono ?_;rintro e w2 ⟨rfl,m4⟩;have hc4:=m4.c2;have fz4:=m4.fz 2;rw [show ((now+1:Nat):Int)=(now:Int)+1 by omega] at hc4;have m5:=m4.setNow hC (now+2) (z:=(now:Int)+1+1) (by omega);have n2:(now:Int)+1+1=(now:Int)+2:=by omega
   have m6:=m4.setNow hC (now+2) (z:=(now:Int)+2) (by omega);clear n2
   go_wp2_with fail
   go_step3
   simp only [Exit.then]
   rename_i hK
   refine hK _ _ ?_;clear hK
   go_wp2_with fail
   refine (HI.out _ (by first | exact m5 | exact m6)).mono ?_
   rintro e w3 ⟨rfl,m2⟩
   go_wp2_with fail
   go_step3
   simp only [Exit.then];exact ⟨⟨now+2,j+2,v,_,rfl,rfl,rfl,(HH.out _ m2).1⟩,(HH.out _ m2).2⟩
  | false=>
   have HEND:Hid (za7 X.l j0=(2,j+1)):=by
    unfold Hid;rw [<-hend];show (if zcl X.l (za8 X.l (j+1)) 3=true then ((3:Nat),za8 X.l (za8 X.l (j+1)+1)) else (2,za8 X.l (j+1)))=_
    rw [zcj (j:=j+1) hr];rw [if_neg (by rw [hd];decide)]
   have HN7:Hid (kl X.l j0≠7):=hn7 (by decide);have HAT:Hid (AT X.l (now+1) (j+1)):=hat1;clear hd;clear hr hat1 hat hend h3 hn7 h7 hM0 hasc
   go_wp2_with fail
   refine HW.mono ?_;rintro e w1 ⟨rfl,m3⟩
   go_wp2_with fail
   refine (HDt.out _ m3).mono ?_;rintro e w2 ⟨rfl,m2⟩
   go_wp2_with fail
   refine (zb6 hC hF m2 HA0.out HAT.out (by omega) (by omega) hhd hD 2 (by decide) (by decide) (by intro _;omega)).mono ?_;rintro e w9 ⟨rfl,v9,m9⟩
   go_wp2_with fail
   refine zbo (hQ.out _ _ ?_);exact zbl HAT.out HA0.out HEND.out (fun x=>absurd x HN7.out) ⟨rfl,v9,m9⟩
set_option maxRecDepth 100000 in
set_option maxHeartbeats 4000000 in
theorem tk1 {X:MX} (hC:MC X) (hF:FOK X.w0) {now0 line head j0:Nat} {D:List Tok} (hA0:AT X.l now0 j0) (hhd:head<=now0) (hD:D.length<=65536) {Q:Exit->Act->World->Prop} (hQ0:∀ tmps W',zjg X now0 line head j0 D (.returned (tmps.getD 2 undef)) W'->Q .ret { tmps:=tmps,defers:=[] } W')
  (a:Act) (wr:World) (hJ:TJ X now0 line head j0 D 1 a wr) (R c:Code) (hc:Tryz.f144.body=some (.seq R (.scope c))):∃ X',findLabel c 1=some (.seq .skip X')/\X'.wp Tryz.prog (zd9 (fun l' a' w'=>TJ X now0 line head j0 D l' a' w'/\zfl X w' < zfl X wr) Q) a wr:=by
 have HA0:Hid (AT X.l now0 j0):=hA0;have hQ:Hid (∀ tmps W',zjg X now0 line head j0 D (.returned (tmps.getD 2 undef)) W'->Q .ret { tmps:=tmps,defers:=[] } W'):=hQ0;have hlen:=hC.len;clear hA0 hQ0;unfold Tryz.f144 at hc;injection hc with hc;injection hc with _ hc;injection hc with hc;subst hc;refine ⟨_,rfl,?_⟩;obtain ⟨now,j,v,u,rfl,hu,h0,HF⟩:=hJ;obtain ⟨u0,u1,u2,u3,u4,u5,u6,u7,u8,u9,u10,u11,u12,u13,u14,u15,u16,u17,u18,u19,u20,u21,u22,u23,u24,u25,u26,u27,u28,u29,u30,u31,u32,u33,u34,u35,u36,u37,u38,u39,u40,u41,u42,u43,u44,u45,u46,u47,u48,u49,u50,u51,u52,u53,u54,u55,u56,u57,u58,u59,u60,u61,u62,u63,u64,u65,u66,u67,u68,u69,u70,u71,u72,u73,u74,u75,u76,u77,u78,u79,u80,u81,u82,u83,u84,u85,u86,u87,u88,u89,u90,u91,u92,u93,u94,u95,u96,u97,u98,u99,u100,u101,u102,u103,u104,rfl⟩:=zg4 u hu;have e0:u0=.pointer (some ⟨X.b,0,none⟩):=h0;subst e0;clear hu h0;obtain ⟨-,m,hat,hj0,hjl,hasc,hend,h3,hn7,h7⟩:=HF.out;clear HF;have hc2:=m.c2;have fz2:=m.fz 2;have hle:=hat.le;have hlt:=hat.lt;have n0:(0:Int)<=(now:Int):=by omega
 have n1:(now:Int)<=16384:=by omega
 have hat1:=hat.asc hjl hasc;have m1:=m.setNow hC (now+1) (z:=(now:Int)+1) (by omega);have hM0:=za5 m;have HW:=zc6 hC m1 hat1;obtain ⟨r,hr⟩:=ex (inW X.l (j+1));rw [hr] at HW;clear m;cases r with
 | true=>
  obtain ⟨hl1,ha1⟩:=zca hr;have hend1:zek 1 X.l (j+1)=za7 X.l j0:=by
   rw [<-hend];show ((4:Nat),zg8 X.l (j+1+1))=((4:Nat),zg8 X.l (j+1));rw [zdx (j:=j+1) (by simp [hr])]
  have HH:Hid (∀ W',MS X W' (now+1) now0 line head v D->Hid (TF X now0 line head j0 D 1 (now+1) (j+1) v W')/\zfl X W' < zfl X wr):=fun W' m'=>⟨⟨by decide,m',hat1,by omega,hl1,ha1,hend1,(fun h=>absurd h (by decide)),(fun _=>hn7 (by decide)),(fun h=>absurd h (by decide))⟩,by rw [za5 m',hM0];omega⟩;clear hend1 ha1;clear hr hat1 hat hend h3 hn7 h7 hM0 hasc
  go_wp2_with fail
  refine HW.mono ?_;rintro e w1 ⟨rfl,m2⟩
  go_wp2_with fail
  go_step3
  simp only [Exit.then];exact ⟨⟨now+1,j+1,v,_,rfl,rfl,rfl,(HH.out _ m2).1⟩,(HH.out _ m2).2⟩
 | false=>
  have HDt:Hid (∀ W',MS X W' (now+1) now0 line head v D->Calls Tryz.prog 155 #[.pointer (some ⟨X.b,0,none⟩),.int .i64 4] W' fun e w'=>e=.returned (.bool (zcl X.l (j+1) 4))/\MS X w' (now+1) now0 line head v D):=fun W' m'=>zfn hC m' hat1 4 (by decide);obtain ⟨d,hd⟩:=ex (zcl X.l (j+1) 4);rw [hd] at HDt;cases d with
  | true=>
   obtain ⟨hl1,ha1⟩:=zd2 hd;have hend1:zek 1 X.l (j+1)=za7 X.l j0:=by
    rw [<-hend];show ((4:Nat),zg8 X.l (j+1+1))=((4:Nat),zg8 X.l (j+1));rw [zdx (j:=j+1) (by simp [hr,hd])]
   have HH:Hid (∀ W',MS X W' (now+1) now0 line head v D->Hid (TF X now0 line head j0 D 1 (now+1) (j+1) v W')/\zfl X W' < zfl X wr):=fun W' m'=>⟨⟨by decide,m',hat1,by omega,hl1,ha1,hend1,(fun h=>absurd h (by decide)),(fun _=>hn7 (by decide)),(fun h=>absurd h (by decide))⟩,by rw [za5 m',hM0];omega⟩;clear hend1 ha1 hd;clear hr hat1 hat hend h3 hn7 h7 hM0 hasc
   go_wp2_with fail
   refine HW.mono ?_;rintro e w1 ⟨rfl,m3⟩
   go_wp2_with fail
   refine (HDt.out _ m3).mono ?_;rintro e w2 ⟨rfl,m2⟩
   go_wp2_with fail
   go_step3
   simp only [Exit.then];exact ⟨⟨now+1,j+1,v,_,rfl,rfl,rfl,(HH.out _ m2).1⟩,(HH.out _ m2).2⟩
  | false=>
   have HEND:Hid (za7 X.l j0=(4,j+1)):=by
    unfold Hid;rw [<-hend];show ((4:Nat),zg8 X.l (j+1))=_;rw [zfe (j:=j+1) (by simp [hr,hd])]
   have HN7:Hid (kl X.l j0≠7):=hn7 (by decide);have HAT:Hid (AT X.l (now+1) (j+1)):=hat1;clear hd;clear hr hat1 hat hend h3 hn7 h7 hM0 hasc
   go_wp2_with fail
   refine HW.mono ?_;rintro e w1 ⟨rfl,m3⟩
   go_wp2_with fail
   refine (HDt.out _ m3).mono ?_;rintro e w2 ⟨rfl,m2⟩
   go_wp2_with fail
   refine (zb6 hC hF m2 HA0.out HAT.out (by omega) (by omega) hhd hD 4 (by decide) (by decide) (by intro _;omega)).mono ?_;rintro e w9 ⟨rfl,v9,m9⟩
   go_wp2_with fail
   refine zbo (hQ.out _ _ ?_);exact zbl HAT.out HA0.out HEND.out (fun x=>absurd x HN7.out) ⟨rfl,v9,m9⟩
set_option maxRecDepth 100000 in
set_option maxHeartbeats 4000000 in
theorem tk2 {X:MX} (hC:MC X) (hF:FOK X.w0) {now0 line head j0:Nat} {D:List Tok} (hA0:AT X.l now0 j0) (hhd:head<=now0) (hD:D.length<=65536) {Q:Exit->Act->World->Prop} (hQ0:∀ tmps W',zjg X now0 line head j0 D (.returned (tmps.getD 2 undef)) W'->Q .ret { tmps:=tmps,defers:=[] } W')
  (a:Act) (wr:World) (hJ:TJ X now0 line head j0 D 2 a wr) (R c:Code) (hc:Tryz.f144.body=some (.seq R (.scope c))):∃ X',findLabel c 2=some (.seq .skip X')/\X'.wp Tryz.prog (zd9 (fun l' a' w'=>TJ X now0 line head j0 D l' a' w'/\zfl X w' < zfl X wr) Q) a wr:=by
 have HA0:Hid (AT X.l now0 j0):=hA0;have hQ:Hid (∀ tmps W',zjg X now0 line head j0 D (.returned (tmps.getD 2 undef)) W'->Q .ret { tmps:=tmps,defers:=[] } W'):=hQ0;have hlen:=hC.len;clear hA0 hQ0;unfold Tryz.f144 at hc;injection hc with hc;injection hc with _ hc;injection hc with hc;subst hc;refine ⟨_,rfl,?_⟩;obtain ⟨now,j,v,u,rfl,hu,h0,HF⟩:=hJ;obtain ⟨u0,u1,u2,u3,u4,u5,u6,u7,u8,u9,u10,u11,u12,u13,u14,u15,u16,u17,u18,u19,u20,u21,u22,u23,u24,u25,u26,u27,u28,u29,u30,u31,u32,u33,u34,u35,u36,u37,u38,u39,u40,u41,u42,u43,u44,u45,u46,u47,u48,u49,u50,u51,u52,u53,u54,u55,u56,u57,u58,u59,u60,u61,u62,u63,u64,u65,u66,u67,u68,u69,u70,u71,u72,u73,u74,u75,u76,u77,u78,u79,u80,u81,u82,u83,u84,u85,u86,u87,u88,u89,u90,u91,u92,u93,u94,u95,u96,u97,u98,u99,u100,u101,u102,u103,u104,rfl⟩:=zg4 u hu;have e0:u0=.pointer (some ⟨X.b,0,none⟩):=h0;subst e0;clear hu h0;obtain ⟨-,m,hat,hj0,hjl,hasc,hend,h3,hn7,h7⟩:=HF.out;clear HF;have hc2:=m.c2;have fz2:=m.fz 2;have hle:=hat.le;have hlt:=hat.lt;have n0:(0:Int)<=(now:Int):=by omega
 have n1:(now:Int)<=16384:=by omega
 have hat1:=hat.asc hjl hasc;have m1:=m.setNow hC (now+1) (z:=(now:Int)+1) (by omega);have hM0:=za5 m;have HW:=zc6 hC m1 hat1;obtain ⟨r,hr⟩:=ex (inW X.l (j+1));rw [hr] at HW;clear m;cases r with
 | true=>
  obtain ⟨hl1,ha1⟩:=zca hr;have hend1:zek 2 X.l (j+1)=za7 X.l j0:=by
   rw [<-hend];show ((5:Nat),za8 X.l (j+1+1))=((5:Nat),za8 X.l (j+1));rw [zbd (j:=j+1) (by simp [hr])]
  have HH:Hid (∀ W',MS X W' (now+1) now0 line head v D->Hid (TF X now0 line head j0 D 2 (now+1) (j+1) v W')/\zfl X W' < zfl X wr):=fun W' m'=>⟨⟨by decide,m',hat1,by omega,hl1,ha1,hend1,(fun h=>absurd h (by decide)),(fun _=>hn7 (by decide)),(fun h=>absurd h (by decide))⟩,by rw [za5 m',hM0];omega⟩;clear hend1 ha1;clear hr hat1 hat hend h3 hn7 h7 hM0 hasc
  go_wp2_with fail
  refine HW.mono ?_;rintro e w1 ⟨rfl,m2⟩
  go_wp2_with fail
  go_step3
  simp only [Exit.then];exact ⟨⟨now+1,j+1,v,_,rfl,rfl,rfl,(HH.out _ m2).1⟩,(HH.out _ m2).2⟩
 | false=>
  have HEND:Hid (za7 X.l j0=(5,j+1)):=by
   unfold Hid;rw [<-hend];show ((5:Nat),za8 X.l (j+1))=_;rw [zcj (j:=j+1) (by simp [hr])]
  have HN7:Hid (kl X.l j0≠7):=hn7 (by decide);have HAT:Hid (AT X.l (now+1) (j+1)):=hat1;clear hr hat1 hat hend h3 hn7 h7 hM0 hasc
  go_wp2_with fail
  refine HW.mono ?_;rintro e w1 ⟨rfl,m2⟩
  go_wp2_with fail
  refine (zb6 hC hF m2 HA0.out HAT.out (by omega) (by omega) hhd hD 5 (by decide) (by decide) (by intro _;omega)).mono ?_;rintro e w9 ⟨rfl,v9,m9⟩
  go_wp2_with fail
  refine zbo (hQ.out _ _ ?_);exact zbl HAT.out HA0.out HEND.out (fun x=>absurd x HN7.out) ⟨rfl,v9,m9⟩
set_option maxRecDepth 100000 in
set_option maxHeartbeats 4000000 in
theorem tk3 {X:MX} (hC:MC X) (hF:FOK X.w0) {now0 line head j0:Nat} {D:List Tok} (hA0:AT X.l now0 j0) (hhd:head<=now0) (hD:D.length<=65536) {Q:Exit->Act->World->Prop} (hQ0:∀ tmps W',zjg X now0 line head j0 D (.returned (tmps.getD 2 undef)) W'->Q .ret { tmps:=tmps,defers:=[] } W')
  (a:Act) (wr:World) (hJ:TJ X now0 line head j0 D 3 a wr) (R c:Code) (hc:Tryz.f144.body=some (.seq R (.scope c))):∃ X',findLabel c 3=some (.seq .skip X')/\X'.wp Tryz.prog (zd9 (fun l' a' w'=>TJ X now0 line head j0 D l' a' w'/\zfl X w' < zfl X wr) Q) a wr:=by
 have HA0:Hid (AT X.l now0 j0):=hA0;have hQ:Hid (∀ tmps W',zjg X now0 line head j0 D (.returned (tmps.getD 2 undef)) W'->Q .ret { tmps:=tmps,defers:=[] } W'):=hQ0;have hlen:=hC.len;clear hA0 hQ0;unfold Tryz.f144 at hc;injection hc with hc;injection hc with _ hc;injection hc with hc;subst hc;refine ⟨_,rfl,?_⟩;obtain ⟨now,j,v,u,rfl,hu,h0,HF⟩:=hJ;obtain ⟨u0,u1,u2,u3,u4,u5,u6,u7,u8,u9,u10,u11,u12,u13,u14,u15,u16,u17,u18,u19,u20,u21,u22,u23,u24,u25,u26,u27,u28,u29,u30,u31,u32,u33,u34,u35,u36,u37,u38,u39,u40,u41,u42,u43,u44,u45,u46,u47,u48,u49,u50,u51,u52,u53,u54,u55,u56,u57,u58,u59,u60,u61,u62,u63,u64,u65,u66,u67,u68,u69,u70,u71,u72,u73,u74,u75,u76,u77,u78,u79,u80,u81,u82,u83,u84,u85,u86,u87,u88,u89,u90,u91,u92,u93,u94,u95,u96,u97,u98,u99,u100,u101,u102,u103,u104,rfl⟩:=zg4 u hu;have e0:u0=.pointer (some ⟨X.b,0,none⟩):=h0;subst e0;clear hu h0;obtain ⟨-,m,hat,hj0,hjl,hasc,hend,h3,hn7,h7⟩:=HF.out;clear HF;have hc2:=m.c2;have fz2:=m.fz 2;have hle:=hat.le;have hlt:=hat.lt;have n0:(0:Int)<=(now:Int):=by omega
 have n1:(now:Int)<=16384:=by omega
 obtain ⟨rfl,rfl,hb34⟩:=h3 rfl;have H7:Hid (kl X.l j=7):=h7 rfl;have HP:=zha hC m hat hjl hb34;have HEND0:Hid (za7 X.l j=(6,zhm X.l j)):=hend.symm;have hql:=zp1 X.l j;have hge:zg6 X.l j=0->j<=zhm X.l j:=fun h0=>by
  have h1:=zei X.l _ (j+1) [] (Nat.le_refl _) (by omega);unfold zhm
  split
  ·exact Nat.le_refl _
  ·omega
 obtain ⟨E,hE⟩:=ex (zg6 X.l j);have HE:Hid (zg6 X.l j=E):=hE;rw [hE] at HP hge hql;clear hE hend h3 hn7 h7 hasc hc2 fz2 m hb34
 by_cases e0:E=0
 ·subst e0
  have hge0:=hge rfl
  go_wp2_with fail
  refine HP.mono ?_;rintro e w1 ⟨rfl,kq,hkq,hql2,m2⟩;have HEND:Hid (za7 X.l j=(6,zhm X.l j)):=HEND0.out;have HAT:Hid (AT X.l kq (zhm X.l j)):=hkq;clear hkq hat
  go_wp2_with fail
  refine (zb6 hC hF m2 HA0.out HAT.out (by omega) (by omega) hhd hD 6 (by decide) (by decide) (by intro _;omega)).mono ?_;rintro e w9 ⟨rfl,v9,m9⟩
  go_wp2_with fail
  refine zbo (hQ.out _ _ ?_);exact zbl HAT.out HA0.out HEND.out (fun _=>HE.out) ⟨rfl,v9,m9⟩
 ·have e1:((E:Int)==0)=false:=by rw [beq_eq_false_iff_ne];omega
  have e2:((E:Int) != 0)=true:=by rw [bne,e1];rfl
  clear hge
  go_wp2_with fail
  refine HP.mono ?_;rintro e w1 ⟨rfl,kq,hkq,hql2,m2⟩
  go_wp2_with fail
  refine zbo (hQ.out _ _ ?_);have:=zkt hkq H7.out (by rw [HE.out];exact e0) m2;rw [HE.out] at this;exact this
set_option maxRecDepth 100000 in
set_option maxHeartbeats 4000000 in
theorem tk4 {X:MX} (hC:MC X) (hF:FOK X.w0) {now0 line head j0:Nat} {D:List Tok} (hA0:AT X.l now0 j0) (hhd:head<=now0) (hD:D.length<=65536) {Q:Exit->Act->World->Prop} (hQ0:∀ tmps W',zjg X now0 line head j0 D (.returned (tmps.getD 2 undef)) W'->Q .ret { tmps:=tmps,defers:=[] } W')
  (a:Act) (wr:World) (hJ:TJ X now0 line head j0 D 4 a wr) (R c:Code) (hc:Tryz.f144.body=some (.seq R (.scope c))):∃ X',findLabel c 4=some (.seq .skip X')/\X'.wp Tryz.prog (zd9 (fun l' a' w'=>TJ X now0 line head j0 D l' a' w'/\zfl X w' < zfl X wr) Q) a wr:=by
 have HA0:Hid (AT X.l now0 j0):=hA0;have hQ:Hid (∀ tmps W',zjg X now0 line head j0 D (.returned (tmps.getD 2 undef)) W'->Q .ret { tmps:=tmps,defers:=[] } W'):=hQ0;have hlen:=hC.len;clear hA0 hQ0;unfold Tryz.f144 at hc;injection hc with hc;injection hc with _ hc;injection hc with hc;subst hc;refine ⟨_,rfl,?_⟩;obtain ⟨now,j,v,u,rfl,hu,h0,HF⟩:=hJ;obtain ⟨u0,u1,u2,u3,u4,u5,u6,u7,u8,u9,u10,u11,u12,u13,u14,u15,u16,u17,u18,u19,u20,u21,u22,u23,u24,u25,u26,u27,u28,u29,u30,u31,u32,u33,u34,u35,u36,u37,u38,u39,u40,u41,u42,u43,u44,u45,u46,u47,u48,u49,u50,u51,u52,u53,u54,u55,u56,u57,u58,u59,u60,u61,u62,u63,u64,u65,u66,u67,u68,u69,u70,u71,u72,u73,u74,u75,u76,u77,u78,u79,u80,u81,u82,u83,u84,u85,u86,u87,u88,u89,u90,u91,u92,u93,u94,u95,u96,u97,u98,u99,u100,u101,u102,u103,u104,rfl⟩:=zg4 u hu;have e0:u0=.pointer (some ⟨X.b,0,none⟩):=h0;subst e0;clear hu h0;obtain ⟨-,m,hat,hj0,hjl,hasc,hend,h3,hn7,h7⟩:=HF.out;clear HF;have hc2:=m.c2;have fz2:=m.fz 2;have hle:=hat.le;have hlt:=hat.lt;have n0:(0:Int)<=(now:Int):=by omega
 have n1:(now:Int)<=16384:=by omega
 have hat1:=hat.asc hjl hasc;have m1:=m.setNow hC (now+1) (z:=(now:Int)+1) (by omega);have hM0:=za5 m;have HW:=zc6 hC m1 hat1;obtain ⟨r,hr⟩:=ex (inW X.l (j+1));rw [hr] at HW;clear m;cases r with
 | true=>
  obtain ⟨hl1,ha1⟩:=zca hr;have hend1:zek 4 X.l (j+1)=za7 X.l j0:=by
   rw [<-hend];show ((3:Nat),za8 X.l (j+1+1))=((3:Nat),za8 X.l (j+1));rw [zbd (j:=j+1) (by simp [hr])]
  have HH:Hid (∀ W',MS X W' (now+1) now0 line head v D->Hid (TF X now0 line head j0 D 4 (now+1) (j+1) v W')/\zfl X W' < zfl X wr):=fun W' m'=>⟨⟨by decide,m',hat1,by omega,hl1,ha1,hend1,(fun h=>absurd h (by decide)),(fun _=>hn7 (by decide)),(fun h=>absurd h (by decide))⟩,by rw [za5 m',hM0];omega⟩;clear hend1 ha1;clear hr hat1 hat hend h3 hn7 h7 hM0 hasc
  go_wp2_with fail
  refine HW.mono ?_;rintro e w1 ⟨rfl,m2⟩
  go_wp2_with fail
  go_step3
  simp only [Exit.then];exact ⟨⟨now+1,j+1,v,_,rfl,rfl,rfl,(HH.out _ m2).1⟩,(HH.out _ m2).2⟩
 | false=>
  have HEND:Hid (za7 X.l j0=(3,j+1)):=by
   unfold Hid;rw [<-hend];show ((3:Nat),za8 X.l (j+1))=_;rw [zcj (j:=j+1) (by simp [hr])]
  have HN7:Hid (kl X.l j0≠7):=hn7 (by decide);have HAT:Hid (AT X.l (now+1) (j+1)):=hat1;clear hr hat1 hat hend h3 hn7 h7 hM0 hasc
  go_wp2_with fail
  refine HW.mono ?_;rintro e w1 ⟨rfl,m2⟩
  go_wp2_with fail
  refine (zb6 hC hF m2 HA0.out HAT.out (by omega) (by omega) hhd hD 3 (by decide) (by decide) (by intro _;omega)).mono ?_;rintro e w9 ⟨rfl,v9,m9⟩
  go_wp2_with fail
  refine zbo (hQ.out _ _ ?_);exact zbl HAT.out HA0.out HEND.out (fun x=>absurd x HN7.out) ⟨rfl,v9,m9⟩
theorem wpOp_go {P:Program} {ops:Array Oper} {Q:Exit->Act->World->Prop} {n:Nat} {K:Act->World->Prop} {a:Act} {w:World} {o:Oper} (ho:ops[n]?=some o) (hg:o.guard=none) (h:o.wp P a w K Q):wpOp P ops Q n K a w:=by
 unfold wpOp;rw [ho];have hw:Region.wanted o (yielded ops a.tmps)=true:=by simp [Region.wanted,hg]
 simp only [hw,if_true];exact .inl h
theorem kl7 {l:List UInt8} {j:Nat} (h:kl l j=7):j < l.length/\bt l j=34:=by
 unfold kl cls at h
 by_cases h1:chr l j=34
 ·exact (zbs l j 34 (by decide)).1 h1
 ·repeat' split at h
  all_goals first | omega | contradiction
set_option maxRecDepth 100000 in
set_option maxHeartbeats 4000000 in
theorem zpc {X:MX} (hC:MC X) (hF:FOK X.w0) {W:World} {now0 fst line head:Nat} {v0:Value} {D:List Tok} (h:MS X W now0 fst line head v0 D) {j0:Nat} (hA0:AT X.l now0 j0) (hjl0:j0 < X.l.length) (hhd:head<=now0) (hD:D.length<=65536) :
  Calls Tryz.prog 144 #[.pointer (some ⟨X.b,0,none⟩)] W fun e w'=>zjg X now0 line head j0 D e w':=by
 have HA0:Hid (AT X.l now0 j0):=hA0;have hlen:=hC.len;have hc2:=h.c2;have hc3:=h.c3;have fz3:=h.fz 3;have m1:=h.setFst hC now0 (z:=(now0:Int)) rfl;have hcl:=zcm hC m1 hA0;clear h
 go_enter Tryz.func144,Tryz.ntmps144
 go_wp2_with fail
 refine zcs (TJ X now0 line head j0 D) (fun _ _ wr=>zfl X wr) ?pass ?first
 case first=>
  intro pass;clear pass
  by_cases hk:kl X.l j0=3
  ·have HT:Hid (∀ W',MS X W' now0 now0 line head v0 D->Hid (TF X now0 line head j0 D 0 now0 j0 v0 W')):=fun W' m'=>⟨by decide,m',hA0,Nat.le_refl _,hjl0,(zev (by omega) (by omega)).2,by unfold za7;rw [if_pos hk],(fun h=>absurd h (by decide)),(fun _=>by omega),(fun h=>absurd h (by decide))⟩
   rw [hk] at hcl;clear hk hA0
   go_wp2_with fail
   refine hcl.mono ?_;rintro e w1 ⟨rfl,m2⟩
   go_wp2_with fail
   go_step3
   simp only [Exit.inBlock,Exit.then];exact ⟨now0,j0,v0,_,rfl,rfl,rfl,HT.out _ m2⟩
  have k3:=hk;clear hk
  by_cases hk:kl X.l j0=4
  ·have HT:Hid (∀ W',MS X W' now0 now0 line head v0 D->Hid (TF X now0 line head j0 D 1 now0 j0 v0 W')):=fun W' m'=>⟨by decide,m',hA0,Nat.le_refl _,hjl0,(zev (by omega) (by omega)).2,by unfold za7;rw [if_neg (by omega),if_pos hk],(fun h=>absurd h (by decide)),(fun _=>by omega),(fun h=>absurd h (by decide))⟩
   rw [hk] at hcl;clear hk hA0
   go_wp2_with fail
   refine hcl.mono ?_;rintro e w1 ⟨rfl,m2⟩
   go_wp2_with fail
   go_step3
   simp only [Exit.inBlock,Exit.then];exact ⟨now0,j0,v0,_,rfl,rfl,rfl,HT.out _ m2⟩
  have k4:=hk;clear hk
  by_cases hk:kl X.l j0=6
  ·have HT:Hid (∀ W',MS X W' now0 now0 line head v0 D->Hid (TF X now0 line head j0 D 2 now0 j0 v0 W')):=fun W' m'=>⟨by decide,m',hA0,Nat.le_refl _,hjl0,(zev (by omega) (by omega)).2,by unfold za7;rw [if_neg (by omega),if_neg (by omega),if_pos hk],(fun h=>absurd h (by decide)),(fun _=>by omega),(fun h=>absurd h (by decide))⟩
   rw [hk] at hcl;clear hk hA0
   go_wp2_with fail
   refine hcl.mono ?_;rintro e w1 ⟨rfl,m2⟩
   go_wp2_with fail
   go_step3
   simp only [Exit.inBlock,Exit.then];exact ⟨now0,j0,v0,_,rfl,rfl,rfl,HT.out _ m2⟩
  have k6:=hk;clear hk
  by_cases hk:kl X.l j0=7
  ·have HT:Hid (∀ W',MS X W' now0 now0 line head v0 D->Hid (TF X now0 line head j0 D 3 now0 j0 v0 W')):=fun W' m'=>⟨by decide,m',hA0,Nat.le_refl _,hjl0,(zev (by omega) (by omega)).2,by unfold za7;rw [if_neg (by omega),if_neg (by omega),if_neg (by omega),if_pos hk],fun _=>⟨rfl,rfl,(kl7 hk).2⟩,(fun h=>absurd rfl h),(fun _=>hk)⟩
   rw [hk] at hcl;clear hk hA0
   go_wp2_with fail
   refine hcl.mono ?_;rintro e w1 ⟨rfl,m2⟩
   go_wp2_with fail
   go_step3
   simp only [Exit.inBlock,Exit.then];exact ⟨now0,j0,v0,_,rfl,rfl,rfl,HT.out _ m2⟩
  have k7:=hk;clear hk;have HK:Hid (za7 X.l j0=(7,j0+sgn (X.l.drop j0))):=by
   unfold Hid za7;rw [if_neg k3,if_neg k4,if_neg k6,if_neg k7]
  have HN7:Hid (kl X.l j0≠7):=k7;obtain ⟨hat2,hl2⟩:=at_sgn hA0 (Nat.le_of_lt hjl0);have HAT:Hid (AT X.l (now0+sgn (X.l.drop j0)) (j0+sgn (X.l.drop j0))):=hat2;have hlt:=hA0.lt;have hlt2:=hat2.lt;have hle:=hA0.le;have hle2:=hat2.le;have HX:Hid (∀ W',MS X W' now0 now0 line head v0 D->W'.cell? ⟨X.b,0,none⟩=some (.string ⟨X.l.toArray⟩)/\W'.cell? ⟨X.b,1,none⟩=some (.slice (some ⟨X.g,0,none⟩) (zak X.l 0).length X.cap)/\W'.cell? ⟨X.b,2,none⟩=some (.int .i64 (now0:Int))/\W'.cell? ⟨X.g,now0*2+1,none⟩=some (.int .i64 (j0:Int))):=fun W' m'=>⟨m'.c0,m'.c1,m'.c2,m'.ca hC hA0 (Nat.le_of_lt hjl0)⟩;have HSG:Hid (∀ W',MS X W' now0 now0 line head v0 D->Calls Tryz.prog 152 #[.string ⟨(X.l.drop j0).toArray⟩] W' fun e w'=>e=.returned (.int .i64 (sgn (X.l.drop j0):Int))/\w'=W'):=fun W' m'=>znp _ W' (hC.sg.below m'.bel);have hsum:Hid (IntKind.i64.wrap ((now0:Int)+(sgn (X.l.drop j0):Int))=((now0+sgn (X.l.drop j0):Nat):Int)):=by unfold Hid;rw [IntKind.wrap_i64];omega
  have e3:((kl X.l j0:Int)==3)=false:=by rw [beq_eq_false_iff_ne];omega
  have e4:((kl X.l j0:Int)==4)=false:=by rw [beq_eq_false_iff_ne];omega
  have e6:((kl X.l j0:Int)==6)=false:=by rw [beq_eq_false_iff_ne];omega
  have e7:((kl X.l j0:Int)==7)=false:=by rw [beq_eq_false_iff_ne];omega
  have hE:=zf2 X.l j0;have n0:(0:Int)<=(now0:Int):=by omega
  have n1:(now0:Int) < ((zak X.l 0).length:Int):=by omega
  have p0:(0:Int)<=(j0:Int):=by omega
  have p1:(j0:Int)<=(X.l.length:Int):=by omega
  obtain ⟨k,hk⟩:=ex (kl X.l j0);rw [hk] at hcl e3 e4 e6 e7;clear hk hA0 hat2 k3 k4 k6 k7
  go_wp2_with fail
  refine hcl.mono ?_;rintro e w1 ⟨rfl,m2⟩
  go_wp2_with fail
  refine zns (C:=fun W=>MS X W now0 now0 line head v0 D) (by kernel_rfl) (by kernel_rfl) (by kernel_rfl) (by kernel_rfl) (MS.drew m2) ?_;simp only [List.dropLast_cons_cons,List.dropLast_singleton]
  go_big_quiet_want
  go_big_quiet_op
  go_big_quiet_on
  go_big_quiet_want
  refine ⟨.pointer (some ⟨X.b,0,none⟩),fun W hW=>?_,?_⟩
  ·go_simp
  go_big_quiet_on
  simp only [Act.put,List.setIfInBounds_toArray,List.set_cons_zero,List.set_cons_succ]
  go_big_quiet_want
  refine ⟨.pointer (some ⟨X.b,2,none⟩),fun W hW=>?_,?_⟩
  ·go_simp
  go_big_quiet_on
  simp only [Act.put,List.setIfInBounds_toArray,List.set_cons_zero,List.set_cons_succ]
  go_big_quiet_want
  refine ⟨.int .i64 (now0:Int),fun W hW=>?_,?_⟩
  ·obtain ⟨x0,x1,x2,x3⟩:=HX.out W hW
   go_simp
  go_big_quiet_on
  simp only [Act.put,List.setIfInBounds_toArray,List.set_cons_zero,List.set_cons_succ]
  go_big_quiet_want
  go_big_quiet_op
  go_big_quiet_on
  go_big_quiet_want
  refine ⟨.pointer (some ⟨X.b,0,none⟩),fun W hW=>?_,?_⟩
  ·go_simp
  go_big_quiet_on
  simp only [Act.put,List.setIfInBounds_toArray,List.set_cons_zero,List.set_cons_succ]
  go_big_quiet_want
  refine ⟨.pointer (some ⟨X.b,0,none⟩),fun W hW=>?_,?_⟩
  ·go_simp
  go_big_quiet_on
  simp only [Act.put,List.setIfInBounds_toArray,List.set_cons_zero,List.set_cons_succ]
  go_big_quiet_want
  refine ⟨.string ⟨X.l.toArray⟩,fun W hW=>?_,?_⟩
  ·obtain ⟨x0,x1,x2,x3⟩:=HX.out W hW
   go_simp
  go_big_quiet_on
  simp only [Act.put,List.setIfInBounds_toArray,List.set_cons_zero,List.set_cons_succ]
  go_big_quiet_want
  go_big_quiet_op
  go_big_quiet_on
  go_big_quiet_want
  refine ⟨.pointer (some ⟨X.b,0,none⟩),fun W hW=>?_,?_⟩
  ·go_simp
  go_big_quiet_on
  simp only [Act.put,List.setIfInBounds_toArray,List.set_cons_zero,List.set_cons_succ]
  go_big_quiet_want
  refine ⟨.pointer (some ⟨X.b,1,none⟩),fun W hW=>?_,?_⟩
  ·go_simp
  go_big_quiet_on
  simp only [Act.put,List.setIfInBounds_toArray,List.set_cons_zero,List.set_cons_succ]
  go_big_quiet_want
  refine ⟨.slice (some ⟨X.g,0,none⟩) (zak X.l 0).length X.cap,fun W hW=>?_,?_⟩
  ·obtain ⟨x0,x1,x2,x3⟩:=HX.out W hW
   go_simp
  go_big_quiet_on
  simp only [Act.put,List.setIfInBounds_toArray,List.set_cons_zero,List.set_cons_succ]
  go_big_quiet_want
  go_big_quiet_op
  go_big_quiet_on
  go_big_quiet_want
  refine ⟨.pointer (some ⟨X.b,0,none⟩),fun W hW=>?_,?_⟩
  ·go_simp
  go_big_quiet_on
  simp only [Act.put,List.setIfInBounds_toArray,List.set_cons_zero,List.set_cons_succ]
  go_big_quiet_want
  refine ⟨.pointer (some ⟨X.b,2,none⟩),fun W hW=>?_,?_⟩
  ·go_simp
  go_big_quiet_on
  simp only [Act.put,List.setIfInBounds_toArray,List.set_cons_zero,List.set_cons_succ]
  go_big_quiet_want
  refine ⟨.int .i64 (now0:Int),fun W hW=>?_,?_⟩
  ·obtain ⟨x0,x1,x2,x3⟩:=HX.out W hW
   go_simp
  go_big_quiet_on
  simp only [Act.put,List.setIfInBounds_toArray,List.set_cons_zero,List.set_cons_succ]
  go_big_quiet_want
  refine ⟨.pointer (some ⟨X.g,now0*2,none⟩),fun W hW=>?_,?_⟩
  ·go_simp
  go_big_quiet_on
  simp only [Act.put,List.setIfInBounds_toArray,List.set_cons_zero,List.set_cons_succ]
  go_big_quiet_want
  refine ⟨.pointer (some ⟨X.g,now0*2+1,none⟩),fun W hW=>?_,?_⟩
  ·go_simp
  go_big_quiet_on
  simp only [Act.put,List.setIfInBounds_toArray,List.set_cons_zero,List.set_cons_succ]
  go_big_quiet_want
  refine ⟨.int .i64 (j0:Int),fun W hW=>?_,?_⟩
  ·obtain ⟨x0,x1,x2,x3⟩:=HX.out W hW
   go_simp
  go_big_quiet_on
  simp only [Act.put,List.setIfInBounds_toArray,List.set_cons_zero,List.set_cons_succ]
  go_big_quiet_want
  refine ⟨.string ⟨(X.l.drop j0).toArray⟩,fun W hW=>?_,?_⟩
  ·go_simp
  go_big_quiet_on
  simp only [Act.put,List.setIfInBounds_toArray,List.set_cons_zero,List.set_cons_succ]
  go_big_quiet_want
  refine ⟨.int .i64 (sgn (X.l.drop j0):Int),fun W hW=>?_,?_⟩
  ·go_simp
   refine (HSG.out W hW).mono ?_;rintro e w7 ⟨rfl,rfl⟩;exact ⟨rfl,hW⟩
  go_big_quiet_on
  simp only [Act.put,List.setIfInBounds_toArray,List.set_cons_zero,List.set_cons_succ]
  go_big_quiet_want
  refine ⟨.int .i64 ((now0+sgn (X.l.drop j0):Nat):Int),fun W hW=>?_,?_⟩
  ·go_simp
   exact hsum.out
  go_big_quiet_on
  simp only [Act.put,List.setIfInBounds_toArray,List.set_cons_zero,List.set_cons_succ]
  go_big_quiet_want
  refine ⟨.pointer (some ⟨X.b,0,none⟩),fun W hW=>?_,?_⟩
  ·go_simp
  go_big_quiet_on
  simp only [Act.put,List.setIfInBounds_toArray,List.set_cons_zero,List.set_cons_succ]
  go_big_quiet_want
  refine ⟨.pointer (some ⟨X.b,2,none⟩),fun W hW=>?_,?_⟩
  ·go_simp
  go_big_quiet_on
  simp only [Act.put,List.setIfInBounds_toArray,List.set_cons_zero,List.set_cons_succ];refine wpQuiet_nil ?_;intro W hW;have y2:=hW.c2;have z2:=hW.fz 2;have m3:=hW.setNow hC (now0+sgn (X.l.drop j0)) (z:=((now0+sgn (X.l.drop j0):Nat):Int)) rfl;refine wpOp_go rfl rfl ?_
  go_simp
  go_wp2_with fail
  refine (zb6 hC hF m3 HA0.out HAT.out (by omega) (by omega) hhd hD 7 (by decide) (by decide) (by intro h;cases h)).mono ?_;rintro e w9 ⟨rfl,v9,m9⟩
  go_wp2_with fail
  refine zbo (bodyPost_ret (zcf _ _) rfl ?_);exact zbl HAT.out HA0.out HK.out (fun x=>absurd x HN7.out) ⟨rfl,v9,m9⟩
 case pass=>
  intro lab a wr hJ;have hlab:lab=0∨lab=1∨lab=2∨lab=3∨lab=4:=by
   obtain ⟨_,_,_,_,_,_,_,HF⟩:=hJ;exact HF.out.1
  rcases hlab with rfl | rfl | rfl | rfl | rfl
  ·exact tk0 hC hF hA0 hhd hD (fun tmps W' h=>bodyPost_ret (zcf _ _) rfl h) a wr hJ _ _ rfl
  ·exact tk1 hC hF hA0 hhd hD (fun tmps W' h=>bodyPost_ret (zcf _ _) rfl h) a wr hJ _ _ rfl
  ·exact tk2 hC hF hA0 hhd hD (fun tmps W' h=>bodyPost_ret (zcf _ _) rfl h) a wr hJ _ _ rfl
  ·exact tk3 hC hF hA0 hhd hD (fun tmps W' h=>bodyPost_ret (zcf _ _) rfl h) a wr hJ _ _ rfl
  ·exact tk4 hC hF hA0 hhd hD (fun tmps W' h=>bodyPost_ret (zcf _ _) rfl h) a wr hJ _ _ rfl
end Go.Proofs.YtmfakcfmkmppfaaGreatDoor
