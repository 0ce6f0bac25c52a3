import Derived.Test.YtmfakcfmkmppfaaGreatDoorVAV
namespace Go.Proofs.YtmfakcfmkmppfaaGreatDoor.Nt
open Go.RowKit Go.Shelf
theorem pb_dec {P:Prop} [h:Decidable P]:pb P=decide P:=by
 by_cases hp:P
 ·rw [zck hp];simp [hp]
 ·rw [zfd hp];simp [hp]
def FTQ (r:Option (Nat×NE)) (w:World) (e:Ending) (w':World):Prop:=Below w.heap.size w w'/\match r with
 | some (k,x)=>∃ pi ci po co pc cc,e=.returned (.tuple #[.agg (.int .i64 (k:Int) :: .slice pi x.ins.length ci :: .slice po x.outs.length co :: .slice pc x.cubes.length cc :: zcp x.wr).toArray,.bool true])/\LI w' po x.outs
 | none=>e=.returned (.tuple #[.agg #[.int .i64 0,.slice none 0 0,.slice none 0 0,.slice none 0 0,.int .i64 0,.int .u64 0,.int .u64 0,.int .u64 0,.int .u64 0,.int .u64 0,.int .u64 0,.int .u64 0,.int .u64 0],.bool false])
theorem zps (tmps:Array Value) (W:World) (b:Nat) (v0 v1 v2 v3 v4 v5 v6 v7 v8 v9 v10 v11 v12:Value) (u:Value) (h:tmps[4]?.getD undef=.pointer (some ⟨b,0,none⟩)) (h5:tmps[5]?.getD undef=u) (hb:W.heap[b]?=some (.cells #[v0,v1,v2,v3,v4,v5,v6,v7,v8,v9,v10,v11,v12] 119 (0,0))) :
  (results Tryz.f101 tmps).run Tryz.prog W=.ok (.tuple #[.agg #[v0,v1,v2,v3,v4,v5,v6,v7,v8,v9,v10,v11,v12],u]) W:=by
 have h1:=(zaf hb).1;have c0:=h1 0;have c1:=h1 1;have c2:=h1 2;have c3:=h1 3;have c4:=h1 4;have c5:=h1 5;have c6:=h1 6;have c7:=h1 7;have c8:=h1 8;have c9:=h1 9;have c10:=h1 10;have c11:=h1 11;have c12:=h1 12;simp at c0 c1 c2 c3 c4 c5 c6 c7 c8 c9 c10 c11 c12;simp [results,h,h5,c0,c1,c2,c3,c4,c5,c6,c7,c8,c9,c10,c11,c12,go_sem]
set_option maxRecDepth 100000 in
set_option maxHeartbeats 16000000 in
theorem zlk (n:NN) (v:NV) (np nt ng:Nat) (p:Int) (h:List UInt8) (w:World) (hW:NW w n v) (hV:NetP n) (hp0:0<=p) (hp1:p < (n.ports.length:Int)) (hh:HdP n.bits h) (hnp:n.ports.length=np) (hnt:n.tabs.length=nt) :
  Calls Tryz.prog 101 #[.agg #[.slice v.pp np v.cp,.slice v.pt nt v.ct,.slice v.pg ng v.cg],.agg (stC (p,h)).toArray] w (FTQ (zkk (zj8 p h) (ze8 n (zal n p).bx) (zd8 n (zal n p).bx.toNat)) w):=by
 obtain ⟨pp,cp,pt,ct,pg,cg⟩:=v;simp only at hW ⊢;obtain ⟨a0,a1,a2,a3,a4,a5,a6,a7,a8,h9⟩:=zbz h;obtain ⟨hx1,hx2⟩:=hV.port hp0 hp1;obtain ⟨ht1,ht2⟩:=hV.tab hx2.2.1 hx2.2.2.1;obtain ⟨pk,hpk⟩:∃ pk:Nat,p=(pk:Int):=⟨p.toNat,by omega⟩;subst hpk;rw [Int.toNat_natCast] at hx1;obtain ⟨X,hX⟩:=ex (zal n (pk:Int));rw [hX] at hx1 hx2 ht1 ht2 ⊢;obtain ⟨bk,hbk⟩:∃ bk:Nat,X.bx=(bk:Int):=⟨X.bx.toNat,by have:=hx2.2.1;omega⟩;rw [hbk,Int.toNat_natCast] at ht1;rw [hbk] at ht2 ⊢;rw [Int.toNat_natCast];obtain ⟨T,hT⟩:=ex (ze8 n (bk:Int));rw [hT] at ht1 ht2 ⊢;obtain ⟨bse,hbse⟩:=ex (zd8 n bk);rw [hbse];obtain ⟨gp,op,e1,a0',a1',a2',a3'⟩:=hW.1 pk X hx1;obtain ⟨gt,ot,q,c,e2,k0,hlx⟩:=hW.2.1 bk T ht1;simp only at e1 e2;subst e1 e2;rw [hbse] at hlx;obtain ⟨m,hm⟩:=ex T.length;rw [hm] at k0;have hst:(stC ((pk:Int),h)).toArray=#[.int .i64 (pk:Int),.int .i64 a0,.int .u64 a1,.int .u64 a2,.int .u64 a3,.int .u64 a4,.int .u64 a5,.int .u64 a6,.int .u64 a7,.int .u64 a8]:=by
  unfold stC;rw [show zcp ((pk:Int),h).2=_ from h9]
 rw [hst];obtain ⟨fr,hfr⟩:=ex (zkk (zj8 (pk:Int) h) T bse);rw [hfr];have hpn:pk < np:=by rw [<-hnp];exact (List.getElem?_eq_some_iff.1 hx1).1
 have hbn:bk < nt:=by rw [<-hnt];exact (List.getElem?_eq_some_iff.1 ht1).1
 have hmo:m<=256:=by
  have h1:=hV.2.2.1;have h2:T.length<=zhj n:=zbn (List.mem_map.2 ⟨T,List.mem_of_getElem? ht1,rfl⟩);omega
 obtain ⟨B,hB⟩:=ex w.heap.size;obtain ⟨b2,hb2⟩:=ex (w.heap.size+1);obtain ⟨b3,hb3⟩:=ex (w.heap.size+1+1);obtain ⟨W1,hW1⟩:=ex (((w.alloc (.cells #[.slice (some ⟨gp,op,none⟩) np cp,.slice (some ⟨gt,ot,none⟩) nt ct,.slice pg ng cg] 64)).alloc (.cells #[.int .i64 (pk:Int),.int .i64 a0,.int .u64 a1,.int .u64 a2,.int .u64 a3,.int .u64 a4,.int .u64 a5,.int .u64 a6,.int .u64 a7,.int .u64 a8] 75)).alloc (.cells #[.int .i64 0,.slice none 0 0,.slice none 0 0,.slice none 0 0,.int .i64 0,.int .u64 0,.int .u64 0,.int .u64 0,.int .u64 0,.int .u64 0,.int .u64 0,.int .u64 0,.int .u64 0] 119));have hz2:(w.alloc (.cells #[.slice (some ⟨gp,op,none⟩) np cp,.slice (some ⟨gt,ot,none⟩) nt ct,.slice pg ng cg] 64)).heap.size=w.heap.size+1:=Array.size_push _;have hz3:((w.alloc (.cells #[.slice (some ⟨gp,op,none⟩) np cp,.slice (some ⟨gt,ot,none⟩) nt ct,.slice pg ng cg] 64)).alloc (.cells #[.int .i64 (pk:Int),.int .i64 a0,.int .u64 a1,.int .u64 a2,.int .u64 a3,.int .u64 a4,.int .u64 a5,.int .u64 a6,.int .u64 a7,.int .u64 a8] 75)).heap.size=w.heap.size+1+1:=by
  show ((w.heap.push _).push _).size=_;rw [Array.size_push,Array.size_push]
 have b1:Below w.heap.size w W1:=by rw [<-hW1];exact zah (zah (zah (Below.refl _ _) _) _) _
 have k1:W1.heap[B]?=some (.cells #[.slice (some ⟨gp,op,none⟩) np cp,.slice (some ⟨gt,ot,none⟩) nt ct,.slice pg ng cg] 64 (0,0)):=by rw [<-hW1,<-hB];exact zae (zah (zah (Below.refl _ _) _) _) (zaa _ _)
 have k2:W1.heap[b2]?=some (.cells #[.int .i64 (pk:Int),.int .i64 a0,.int .u64 a1,.int .u64 a2,.int .u64 a3,.int .u64 a4,.int .u64 a5,.int .u64 a6,.int .u64 a7,.int .u64 a8] 75 (0,0)):=by rw [<-hW1,<-hb2,<-hz2];exact zae (zah (Below.refl _ _) _) (zaa _ _)
 have k3:W1.heap[b3]?=some (.cells #[.int .i64 0,.slice none 0 0,.slice none 0 0,.slice none 0 0,.int .i64 0,.int .u64 0,.int .u64 0,.int .u64 0,.int .u64 0,.int .u64 0,.int .u64 0,.int .u64 0,.int .u64 0] 119 (0,0)):=by rw [<-hW1,<-hb3,<-hz3];exact zaa _ _
 have HC:Hid (∀ U,Below W1.heap.size W1 U->(U.cell? ⟨B,0,none⟩=some (.slice (some ⟨gp,op,none⟩) np cp)/\U.cell? ⟨B,1,none⟩=some (.slice (some ⟨gt,ot,none⟩) nt ct)/\U.cell? ⟨B,2,none⟩=some (.slice pg ng cg))/\(U.cell? ⟨b2,0,none⟩=some (.int .i64 (pk:Int))/\U.cell? ⟨b2,1,none⟩=some (.int .i64 a0)/\U.cell? ⟨b2,2,none⟩=some (.int .u64 a1)/\U.cell? ⟨b2,3,none⟩=some (.int .u64 a2)/\U.cell? ⟨b2,4,none⟩=some (.int .u64 a3)/\U.cell? ⟨b2,5,none⟩=some (.int .u64 a4)/\U.cell? ⟨b2,6,none⟩=some (.int .u64 a5)/\U.cell? ⟨b2,7,none⟩=some (.int .u64 a6)/\U.cell? ⟨b2,8,none⟩=some (.int .u64 a7)/\U.cell? ⟨b2,9,none⟩=some (.int .u64 a8))/\U.cell? ⟨gt,ot+bk,none⟩=some (.slice q m c)/\U.cell? ⟨gp,op+pk*4+1,none⟩=some (.int .i64 (bk:Int))):=fun U hU=>by
  have e1:=(zaf (zae hU k1)).1;have e2:=(zaf (zae hU k2)).1;exact ⟨⟨by rw [e1];rfl,by rw [e1];rfl,by rw [e1];rfl⟩,⟨by rw [e2];rfl,by rw [e2];rfl,by rw [e2];rfl,by rw [e2];rfl,by rw [e2];rfl,by rw [e2];rfl,by rw [e2];rfl,by rw [e2];rfl,by rw [e2];rfl,by rw [e2];rfl⟩,zao (zac b1 hU) k0,by rw [<-hbk];exact zao (zac b1 hU) a1'⟩
 have HL:Hid (∀ U,Below W1.heap.size W1 U->Below w.heap.size w U/\U.heap[b3]?=some (.cells #[.int .i64 0,.slice none 0 0,.slice none 0 0,.slice none 0 0,.int .i64 0,.int .u64 0,.int .u64 0,.int .u64 0,.int .u64 0,.int .u64 0,.int .u64 0,.int .u64 0,.int .u64 0] 119 (0,0))):=fun U hU=>⟨zac b1 hU,zae hU k3⟩;have HLW:Hid (LXE w q bse T):=hlx;have HN:Hid (T.length=m/\zg9 n (bk:Int) T/\HdP n.bits h/\1<=n.bits/\n.bits<=256/\m<=256/\n.ports.length<=48):=⟨hm,ht2,hh,hV.bits.1,hV.bits.2,hmo,hV.1.2.2.2.1⟩;have H9:Hid (C9 h a0 a1 a2 a3 a4 a5 a6 a7 a8):=h9;have HFR:=zab hfr;have HB:=zab hB;have HB2:=zab hb2;have HB3:=zab hb3;have HBB:Hid (w.heap.size<=b3):=by show w.heap.size<=b3;omega
 have HW1:=zab hW1;have j0:(0:Int)<=(pk:Int):=by omega
 have j1:(pk:Int) < (np:Int):=by omega
 have i0:(0:Int)<=(bk:Int):=by omega
 have i1:(bk:Int) < (nt:Int):=by omega
 have hm7:m<=140737488351232:=by omega
 clear h9 hW hV hp0 hp1 hh hnp hnt hx1 hx2 ht1 ht2 hX hbk hT hbse hm hpn hbn hmo hB hb2 hb3 hW1 hz2 hz3 b1 k1 k2 k3 k0 hlx hst hfr a0' a1' a2' a3';obtain ⟨⟨q0,q1,q2⟩,⟨r0,r1,r2,r3,r4,r5,r6,r7,r8,r9⟩,k0,k9⟩:=HC.out W1 (Below.refl _ _)
 go_enter Tryz.func101,Tryz.ntmps101
 go_upto_region 1 with fail
 rw [HW1.out,HB3.out,HB2.out,HB.out];refine wp_scope_straight ?_
 go_wp2_with fail
 refine wp_label ?_
 go_wp2_with fail
 go_quiet (fail)
 go_wp2_with fail
 clear q0 q1 q2 k0 k9;clear r0 r1 r2 r3 r4 r5 r6 r7 r8 r9
 go_loopw [5,22] (fun v5 vk wr=>∃ k:Nat,v5=.bool false/\vk=.int .i64 (k:Int)/\k<=m/\Hid (Below W1.heap.size W1 wr/\∀ (i:Nat) e,i < k->T[i]?=some e->zj8 (pk:Int) h e=false)) (fun _ vk _=>m - (intOf vk).toNat)
 case atStart=>exact ⟨0,rfl,rfl,Nat.zero_le _,za1 nq (Below.refl _ _),fun i l hi=>by omega⟩
 case round=>
  obtain ⟨k,rfl,rfl,hk,HS⟩:=hrel;obtain ⟨⟨q0,q1,q2⟩,⟨r0,r1,r2,r3,r4,r5,r6,r7,r8,r9⟩,k0,k9⟩:=HC.out wr HS.out.1
  by_cases hlt:k < m
  ·obtain ⟨x,hx⟩:∃ x,T[k]?=some x:=⟨_,List.getElem?_eq_getElem (by have:=HN.out.1;omega)⟩
   obtain ⟨ge,oe,pi,ci,po,co,pc,cc,e9,u0,u1,u2,u3,u4',hins,houts,hrow⟩:=HLW.out k x hx;subst e9;have hbw:=(HL.out wr HS.out.1).1
   replace u0:=zao hbw u0
   replace u1:=zao hbw u1
   replace u2:=zao hbw u2
   replace u3:=zao hbw u3
   obtain ⟨d0,d1,d2,d3,d4,d5,d6,d7,d8,h8⟩:=zbz x.wr;have hu9:∀ (i:Nat) (v:Value),([.int .i64 d0,.int .u64 d1,.int .u64 d2,.int .u64 d3,.int .u64 d4,.int .u64 d5,.int .u64 d6,.int .u64 d7,.int .u64 d8]:List Value)[i]?=some v->wr.cell? ⟨ge,oe+k*13+4+i,none⟩=some v:=fun i v hv=>zao hbw (u4' i v (by rw [show zcp x.wr=_ from h8];exact hv));have u4:=hu9 0 _ rfl;have u5:=hu9 1 _ rfl;have u6:=hu9 2 _ rfl;have u7:=hu9 3 _ rfl;have u8:=hu9 4 _ rfl;have u9:=hu9 5 _ rfl;have u10:=hu9 6 _ rfl;have u11:=hu9 7 _ rfl;have u12:=hu9 8 _ rfl;rw [Nat.add_zero] at u4;rw [Nat.add_assoc] at u5 u6 u7 u8 u9 u10 u11 u12;simp only [Nat.reduceAdd] at u5 u6 u7 u8 u9 u10 u11 u12;obtain ⟨num,hnum⟩:=ex (bse+k);rw [hnum] at u0;obtain ⟨ni,hni⟩:=ex x.ins.length;obtain ⟨nc,hnc⟩:=ex x.cubes.length;obtain ⟨no,hno⟩:=ex x.outs.length;rw [hni] at u1;rw [hno] at u2;rw [hnc] at u3;have hx2:=HN.out.2.1.1 x (List.mem_of_getElem? hx);have hil:ni<=48:=by
    have hp:=hx2.2.1.2;have hm9:=hx2.2.1.1;have h3:=zmb x.ins 0 (n.ports.length:Int) hp (fun y hy=>⟨(hm9 y hy).1,(hm9 y hy).2.1⟩) (by omega);have h4:=HN.out.2.2.2.2.2.2;omega
   obtain ⟨W4,hW4⟩:=ex (wr.alloc (Obj.cells #[.int .i64 (num:Int),.slice pi ni ci,.slice po no co,.slice pc nc cc,.int .i64 d0,.int .u64 d1,.int .u64 d2,.int .u64 d3,.int .u64 d4,.int .u64 d5,.int .u64 d6,.int .u64 d7,.int .u64 d8] 119));have b4:Below wr.heap.size wr W4:=by rw [<-hW4];exact zah (Below.refl _ _) _
   obtain ⟨rb,hrb⟩:=ex wr.heap.size;have s4:W4.heap[rb]?=some (.cells #[.int .i64 (num:Int),.slice pi ni ci,.slice po no co,.slice pc nc cc,.int .i64 d0,.int .u64 d1,.int .u64 d2,.int .u64 d3,.int .u64 d4,.int .u64 d5,.int .u64 d6,.int .u64 d7,.int .u64 d8] 119 (0,0)):=by rw [<-hW4,<-hrb];exact zaa _ _
   have HD:Hid (∀ U,Below W4.heap.size W4 U->(U.cell? ⟨rb,0,none⟩=some (.int .i64 (num:Int))/\U.cell? ⟨rb,1,none⟩=some (.slice pi ni ci)/\U.cell? ⟨rb,2,none⟩=some (.slice po no co)/\U.cell? ⟨rb,3,none⟩=some (.slice pc nc cc)/\U.cell? ⟨rb,4,none⟩=some (.int .i64 d0)/\U.cell? ⟨rb,5,none⟩=some (.int .u64 d1)/\U.cell? ⟨rb,6,none⟩=some (.int .u64 d2)/\U.cell? ⟨rb,7,none⟩=some (.int .u64 d3)/\U.cell? ⟨rb,8,none⟩=some (.int .u64 d4)/\U.cell? ⟨rb,9,none⟩=some (.int .u64 d5)/\U.cell? ⟨rb,10,none⟩=some (.int .u64 d6)/\U.cell? ⟨rb,11,none⟩=some (.int .u64 d7)/\U.cell? ⟨rb,12,none⟩=some (.int .u64 d8))/\LI U pi x.ins/\LI U po x.outs/\RowL 9 zcp U pc x.cubes/\Below W1.heap.size W1 U):=fun U hU=>by
    have e1:=(zaf (zae hU s4)).1;have h1:=zac HS.out.1 (zac b4 hU);have h2:=(HL.out U h1).1;exact ⟨⟨by rw [e1];rfl,by rw [e1];rfl,by rw [e1];rfl,by rw [e1];rfl,by rw [e1];rfl,by rw [e1];rfl,by rw [e1];rfl,by rw [e1];rfl,by rw [e1];rfl,by rw [e1];rfl,by rw [e1];rfl,by rw [e1];rfl,by rw [e1];rfl⟩,hins.below h2,houts.below h2,hrow.below h2,h1⟩
   have HOUT:Hid (LI w po x.outs):=houts;have HCT:Hid (∀ U,Below W4.heap.size W4 U->Calls Tryz.prog 89 #[.slice pi ni ci,.int .i64 (pk:Int)] U fun e w'=>e=.returned (.bool (decide ((pk:Int)∈x.ins)))/\w'=U):=fun U hU=>by
    have hh:=zlv x.ins (pk:Int) pi ni ci U hni (by omega) (hins.below (HL.out U (zac HS.out.1 (zac b4 hU))).1);rw [pb_dec] at hh;exact hh
   have HX:=zab hx;have HXC:Hid (x.ins.length=ni/\x.cubes.length=nc/\x.outs.length=no/\zb1 n.bits x.cubes/\bse+k=num):=⟨hni,hnc,hno,hx2.2.2.1,hnum⟩;have H8:Hid (C9 x.wr d0 d1 d2 d3 d4 d5 d6 d7 d8):=h8;have hnc7:nc<=140737488351232:=by have:=hx2.2.2.1.1;omega
   have HW4:=zab hW4;have HRB:=zab hrb;have j2:(0:Int)<=(k:Int):=by omega
   have j3:(k:Int) < (m:Int):=by omega
   clear hx hnum hni hnc hno hx2 hil hW4 b4 hrb s4 hins houts hrow u4' hu9 h8 hbw
   go_upto_region 4 with fail
   rw [HW4.out,HRB.out];clear q0 q1 q2 k0 k9;clear r0 r1 r2 r3 r4 r5 r6 r7 r8 r9;clear u0 u1 u2 u3 u4 u5 u6 u7 u8 u9 u10 u11 u12;obtain ⟨⟨v0,v1,v2,v3,v4,v5,v6,v7,v8,v9,v10,v11,v12⟩,-,-,-,hb4⟩:=HD.out W4 (Below.refl _ _);obtain ⟨⟨q0,q1,q2⟩,⟨r0,r1,r2,r3,r4,r5,r6,r7,r8,r9⟩,k0,k9⟩:=HC.out W4 hb4;clear hb4;obtain ⟨bi,hbi⟩:=ex (decide ((pk:Int)∈x.ins));have HCT1:=HCT.out W4 (Below.refl _ _);rw [hbi] at HCT1;have HCT1:=zab HCT1;have HBI:=zab hbi;clear hbi
   go_wp2_with fail
   refine (HCT1.out).mono ?_;rintro e W5 ⟨rfl,h5⟩;subst h5;cases bi with
   | false=>
    have HR:Hid (Below W1.heap.size W1 W5/\∀ (i:Nat) e,i < k+1->T[i]?=some e->zj8 (pk:Int) h e=false):=by
     refine ⟨(HD.out W5 (Below.refl _ _)).2.2.2.2,fun i l hi hl=>?_⟩;rcases Nat.lt_or_ge i k with h1 | h1
     ·exact HS.out.2 i l h1 hl
     ·obtain rfl:i=k:=by omega
      rw [HX.out] at hl;obtain rfl:=Option.some.inj hl;unfold zj8;rw [HBI.out];rfl
    clear q0 q1 q2 k0 k9;clear r0 r1 r2 r3 r4 r5 r6 r7 r8 r9;clear v0 v1 v2 v3 v4 v5 v6 v7 v8 v9 v10 v11 v12
    go_wp2_with fail
    go_roundw
    case rel=>exact ⟨k+1,rfl,by go_num,by omega,HR⟩
    case measure=>simp [intOf];omega
   | true=>
    go_wp2_with fail
    clear q0 q1 q2 k0 k9;clear r0 r1 r2 r3 r4 r5 r6 r7 r8 r9;clear v0 v1 v2 v3 v4 v5 v6 v7 v8 v9 v10 v11 v12
    go_loopw [5,35] (fun v5 vj wr=>∃ j:Nat,v5=.bool false/\vj=.int .i64 (j:Int)/\j<=nc/\Hid (Below W5.heap.size W5 wr/\∀ (i:Nat) c,i < j->x.cubes[i]?=some c->Tn.hasB c h=false)) (fun _ vj _=>nc - (intOf vj).toNat)
    case atStart=>exact ⟨0,rfl,rfl,Nat.zero_le _,Below.refl _ _,fun i l hi=>by omega⟩
    case round=>
     obtain ⟨j,rfl,rfl,hj,HJ⟩:=hrel;obtain ⟨⟨v0,v1,v2,v3,v4,v5,v6,v7,v8,v9,v10,v11,v12⟩,-,-,hrow,hb1⟩:=HD.out wr HJ.out.1;obtain ⟨⟨q0,q1,q2⟩,⟨r0,r1,r2,r3,r4,r5,r6,r7,r8,r9⟩,k0,k9⟩:=HC.out wr hb1
     by_cases hlt2:j < nc
     ·obtain ⟨y,hy⟩:∃ y,x.cubes[j]?=some y:=⟨_,List.getElem?_eq_getElem (by have:=HXC.out.2.1;omega)⟩
      obtain ⟨gy,oy,e9,hcy⟩:=hrow j y hy;subst e9;obtain ⟨g0,g1,g2,g3,g4,g5,g6,g7,g8,h7⟩:=zbz y;have hcy9:∀ (i:Nat) (v:Value),([.int .i64 g0,.int .u64 g1,.int .u64 g2,.int .u64 g3,.int .u64 g4,.int .u64 g5,.int .u64 g6,.int .u64 g7,.int .u64 g8]:List Value)[i]?=some v->wr.cell? ⟨gy,oy+j*9+i,none⟩=some v:=fun i v hv=>hcy i v (by rw [show zcp y=_ from h7];exact hv);have y0:=hcy9 0 _ rfl;have y1:=hcy9 1 _ rfl;have y2:=hcy9 2 _ rfl;have y3:=hcy9 3 _ rfl;have y4:=hcy9 4 _ rfl;have y5:=hcy9 5 _ rfl;have y6:=hcy9 6 _ rfl;have y7:=hcy9 7 _ rfl;have y8:=hcy9 8 _ rfl;rw [Nat.add_zero] at y0;obtain ⟨W6,hW6⟩:=ex (wr.alloc (Obj.cells #[.int .i64 g0,.int .u64 g1,.int .u64 g2,.int .u64 g3,.int .u64 g4,.int .u64 g5,.int .u64 g6,.int .u64 g7,.int .u64 g8] 70));have b6:Below wr.heap.size wr W6:=by rw [<-hW6];exact zah (Below.refl _ _) _
      obtain ⟨rc,hrc⟩:=ex wr.heap.size;have s6:W6.heap[rc]?=some (.cells #[.int .i64 g0,.int .u64 g1,.int .u64 g2,.int .u64 g3,.int .u64 g4,.int .u64 g5,.int .u64 g6,.int .u64 g7,.int .u64 g8] 70 (0,0)):=by rw [<-hW6,<-hrc];exact zaa _ _
      have HCC:Hid (W6.cell? ⟨rc,0,none⟩=some (.int .i64 g0)/\W6.cell? ⟨rc,1,none⟩=some (.int .u64 g1)/\W6.cell? ⟨rc,2,none⟩=some (.int .u64 g2)/\W6.cell? ⟨rc,3,none⟩=some (.int .u64 g3)/\W6.cell? ⟨rc,4,none⟩=some (.int .u64 g4)/\W6.cell? ⟨rc,5,none⟩=some (.int .u64 g5)/\W6.cell? ⟨rc,6,none⟩=some (.int .u64 g6)/\W6.cell? ⟨rc,7,none⟩=some (.int .u64 g7)/\W6.cell? ⟨rc,8,none⟩=some (.int .u64 g8)):=by
       have e1:=(zaf s6).1;exact ⟨by rw [e1];rfl,by rw [e1];rfl,by rw [e1];rfl,by rw [e1];rfl,by rw [e1];rfl,by rw [e1];rfl,by rw [e1];rfl,by rw [e1];rfl,by rw [e1];rfl⟩
      obtain ⟨bq,hbq⟩:=ex (Tn.hasB y h);have HWI:Hid (Calls Tryz.prog 114 #[.agg #[.int .i64 a0,.int .u64 a1,.int .u64 a2,.int .u64 a3,.int .u64 a4,.int .u64 a5,.int .u64 a6,.int .u64 a7,.int .u64 a8],.agg #[.int .i64 g0,.int .u64 g1,.int .u64 g2,.int .u64 g3,.int .u64 g4,.int .u64 g5,.int .u64 g6,.int .u64 g7,.int .u64 g8]] W6 fun e w'=>e=.returned (.bool bq)/\Below W6.heap.size W6 w'):=by
       have hh:=zly HN.out.2.2.1 (HXC.out.2.2.2.1.2 y (List.mem_of_getElem? hy)) HN.out.2.2.2.1 HN.out.2.2.2.2.1 W6;rw [H9.out.agg,h7.agg,hbq] at hh;exact hh
      have HB6:Hid (Below W5.heap.size W5 W6):=zac HJ.out.1 b6;have HY:=zab hy;have HBQ:=zab hbq;have HW6:=zab hW6;have HRC:=zab hrc;have j4:(0:Int)<=(j:Int):=by omega
      have j5:(j:Int) < (nc:Int):=by omega
      clear hy hcy hcy9 h7 hW6 b6 hrc s6 hbq hrow hb1
      go_upto_region 8 with fail
      rw [HW6.out,HRC.out];clear q0 q1 q2 k0 k9;clear r0 r1 r2 r3 r4 r5 r6 r7 r8 r9;clear y0 y1 y2 y3 y4 y5 y6 y7 y8;clear v0 v1 v2 v3 v4 v5 v6 v7 v8 v9 v10 v11 v12;obtain ⟨⟨v0,v1,v2,v3,v4,v5,v6,v7,v8,v9,v10,v11,v12⟩,-,-,-,hb5⟩:=HD.out W6 HB6.out;obtain ⟨⟨q0,q1,q2⟩,⟨r0,r1,r2,r3,r4,r5,r6,r7,r8,r9⟩,k0,k9⟩:=HC.out W6 hb5;obtain ⟨y0,y1,y2,y3,y4,y5,y6,y7,y8⟩:=HCC.out;clear hb5
      go_wp2_with fail
      refine (HWI.out).mono ?_;rintro e W7 ⟨rfl,b7⟩;have HB7:Hid (Below W5.heap.size W5 W7):=zac HB6.out b7;clear q0 q1 q2 k0 k9 b7;clear r0 r1 r2 r3 r4 r5 r6 r7 r8 r9;clear y0 y1 y2 y3 y4 y5 y6 y7 y8;clear v0 v1 v2 v3 v4 v5 v6 v7 v8 v9 v10 v11 v12;cases bq with
      | true=>
       obtain ⟨⟨v0,v1,v2,v3,v4,v5,v6,v7,v8,v9,v10,v11,v12⟩,-,-,-,hb7⟩:=HD.out W7 HB7.out;have kz:=(HL.out W7 hb7).2;have hzz:=zaf kz;have z0:W7.cell? ⟨b3,0,none⟩=some (.int .i64 0):=by rw [hzz.1];rfl
       have f0:=hzz.2 0;have z1:W7.cell? ⟨b3,1,none⟩=some (.slice none 0 0):=by rw [hzz.1];rfl
       have f1:=hzz.2 1;have z2:W7.cell? ⟨b3,2,none⟩=some (.slice none 0 0):=by rw [hzz.1];rfl
       have f2:=hzz.2 2;have z3:W7.cell? ⟨b3,3,none⟩=some (.slice none 0 0):=by rw [hzz.1];rfl
       have f3:=hzz.2 3;have z4:W7.cell? ⟨b3,4,none⟩=some (.int .i64 0):=by rw [hzz.1];rfl
       have f4:=hzz.2 4;have z5:W7.cell? ⟨b3,5,none⟩=some (.int .u64 0):=by rw [hzz.1];rfl
       have f5:=hzz.2 5;have z6:W7.cell? ⟨b3,6,none⟩=some (.int .u64 0):=by rw [hzz.1];rfl
       have f6:=hzz.2 6;have z7:W7.cell? ⟨b3,7,none⟩=some (.int .u64 0):=by rw [hzz.1];rfl
       have f7:=hzz.2 7;have z8:W7.cell? ⟨b3,8,none⟩=some (.int .u64 0):=by rw [hzz.1];rfl
       have f8:=hzz.2 8;have z9:W7.cell? ⟨b3,9,none⟩=some (.int .u64 0):=by rw [hzz.1];rfl
       have f9:=hzz.2 9;have z10:W7.cell? ⟨b3,10,none⟩=some (.int .u64 0):=by rw [hzz.1];rfl
       have f10:=hzz.2 10;have z11:W7.cell? ⟨b3,11,none⟩=some (.int .u64 0):=by rw [hzz.1];rfl
       have f11:=hzz.2 11;have z12:W7.cell? ⟨b3,12,none⟩=some (.int .u64 0):=by rw [hzz.1];rfl
       have f12:=hzz.2 12;obtain ⟨W8,hW8⟩:=ex ((((((((((((((W7.setCell ⟨b3,0,none⟩ (.int .i64 (num:Int))).setCell ⟨b3,1,none⟩ (.slice pi ni ci)).setCell ⟨b3,2,none⟩ (.slice po no co)).setCell ⟨b3,3,none⟩ (.slice (some ⟨gy,oy,none⟩) nc cc)).setCell ⟨b3,4,none⟩ (.int .i64 d0)).setCell ⟨b3,5,none⟩ (.int .u64 d1)).setCell ⟨b3,6,none⟩ (.int .u64 d2)).setCell ⟨b3,7,none⟩ (.int .u64 d3)).setCell ⟨b3,8,none⟩ (.int .u64 d4)).setCell ⟨b3,9,none⟩ (.int .u64 d5)).setCell ⟨b3,10,none⟩ (.int .u64 d6)).setCell ⟨b3,11,none⟩ (.int .u64 d7)).setCell ⟨b3,12,none⟩ (.int .u64 d8)));have k8:W8.heap[b3]?=some (.cells #[.int .i64 (num:Int),.slice pi ni ci,.slice po no co,.slice (some ⟨gy,oy,none⟩) nc cc,.int .i64 d0,.int .u64 d1,.int .u64 d2,.int .u64 d3,.int .u64 d4,.int .u64 d5,.int .u64 d6,.int .u64 d7,.int .u64 d8] 119 (0,0)):=by
        rw [<-hW8];exact ((zag _ (zag _ (zag _ (zag _ (zag _ (zag _ (zag _ (zag _ (zag _ (zag _ (zag _ (zag _ (zag _ kz)))))))))))))).trans (by simp)
       have h8z:=zaf k8;have s0:W8.cell? ⟨b3,0,none⟩=some (.int .i64 (num:Int)):=by rw [h8z.1];rfl
       have t0:=h8z.2 0;have s1:W8.cell? ⟨b3,1,none⟩=some (.slice pi ni ci):=by rw [h8z.1];rfl
       have t1:=h8z.2 1;have s2:W8.cell? ⟨b3,2,none⟩=some (.slice po no co):=by rw [h8z.1];rfl
       have t2:=h8z.2 2;have s3:W8.cell? ⟨b3,3,none⟩=some (.slice (some ⟨gy,oy,none⟩) nc cc):=by rw [h8z.1];rfl
       have t3:=h8z.2 3;have s4:W8.cell? ⟨b3,4,none⟩=some (.int .i64 d0):=by rw [h8z.1];rfl
       have t4:=h8z.2 4;have s5:W8.cell? ⟨b3,5,none⟩=some (.int .u64 d1):=by rw [h8z.1];rfl
       have t5:=h8z.2 5;have s6:W8.cell? ⟨b3,6,none⟩=some (.int .u64 d2):=by rw [h8z.1];rfl
       have t6:=h8z.2 6;have s7:W8.cell? ⟨b3,7,none⟩=some (.int .u64 d3):=by rw [h8z.1];rfl
       have t7:=h8z.2 7;have s8:W8.cell? ⟨b3,8,none⟩=some (.int .u64 d4):=by rw [h8z.1];rfl
       have t8:=h8z.2 8;have s9:W8.cell? ⟨b3,9,none⟩=some (.int .u64 d5):=by rw [h8z.1];rfl
       have t9:=h8z.2 9;have s10:W8.cell? ⟨b3,10,none⟩=some (.int .u64 d6):=by rw [h8z.1];rfl
       have t10:=h8z.2 10;have s11:W8.cell? ⟨b3,11,none⟩=some (.int .u64 d7):=by rw [h8z.1];rfl
       have t11:=h8z.2 11;have s12:W8.cell? ⟨b3,12,none⟩=some (.int .u64 d8):=by rw [h8z.1];rfl
       have t12:=h8z.2 12;obtain ⟨W9,hW9⟩:=ex ((((((((((((((W8.setCell ⟨b3,0,none⟩ (.int .i64 (num:Int))).setCell ⟨b3,1,none⟩ (.slice pi ni ci)).setCell ⟨b3,2,none⟩ (.slice po no co)).setCell ⟨b3,3,none⟩ (.slice (some ⟨gy,oy,none⟩) nc cc)).setCell ⟨b3,4,none⟩ (.int .i64 d0)).setCell ⟨b3,5,none⟩ (.int .u64 d1)).setCell ⟨b3,6,none⟩ (.int .u64 d2)).setCell ⟨b3,7,none⟩ (.int .u64 d3)).setCell ⟨b3,8,none⟩ (.int .u64 d4)).setCell ⟨b3,9,none⟩ (.int .u64 d5)).setCell ⟨b3,10,none⟩ (.int .u64 d6)).setCell ⟨b3,11,none⟩ (.int .u64 d7)).setCell ⟨b3,12,none⟩ (.int .u64 d8)));have HRES:Hid (W9.heap[b3]?=some (.cells #[.int .i64 (num:Int),.slice pi ni ci,.slice po no co,.slice (some ⟨gy,oy,none⟩) nc cc,.int .i64 d0,.int .u64 d1,.int .u64 d2,.int .u64 d3,.int .u64 d4,.int .u64 d5,.int .u64 d6,.int .u64 d7,.int .u64 d8] 119 (0,0))):=by
        rw [<-hW9];exact ((zag _ (zag _ (zag _ (zag _ (zag _ (zag _ (zag _ (zag _ (zag _ (zag _ (zag _ (zag _ (zag _ k8)))))))))))))).trans (by simp)
       have HFIN:Hid (FTQ fr w (.returned (.tuple #[.agg #[.int .i64 (num:Int),.slice pi ni ci,.slice po no co,.slice (some ⟨gy,oy,none⟩) nc cc,.int .i64 d0,.int .u64 d1,.int .u64 d2,.int .u64 d3,.int .u64 d4,.int .u64 d5,.int .u64 d6,.int .u64 d7,.int .u64 d8],.bool true])) W9):=by
        have hbw:Below w.heap.size w W9:=by
         rw [<-hW9,<-hW8];have h0:=(HL.out W7 hb7).1;have hle:=HBB.out;exact ((((((((((((((((((((((((((h0.setCell hle _).setCell hle _).setCell hle _).setCell hle _).setCell hle _).setCell hle _).setCell hle _).setCell hle _).setCell hle _).setCell hle _).setCell hle _).setCell hle _).setCell hle _).setCell hle _).setCell hle _).setCell hle _).setCell hle _).setCell hle _).setCell hle _).setCell hle _).setCell hle _).setCell hle _).setCell hle _).setCell hle _).setCell hle _).setCell hle _)
        have hhit:fr=some (bse+k,x):=by
         rw [<-HFR.out];refine zmy HX.out (fun i e hi he=>HS.out.2 i e hi he) ?_;unfold zj8;rw [HBI.out,show zb0 x.cubes h=true from zls HY.out HBQ.out];rfl
        refine ⟨hbw,?_⟩;rw [hhit];obtain ⟨n1,n2,n3,-,n5⟩:=HXC.out;refine ⟨pi,ci,po,co,some ⟨gy,oy,none⟩,cc,?_,HOUT.out.below hbw⟩;rw [n1,n2,n3,n5,show zcp x.wr=_ from H8.out]
       have HW8:=zab hW8;have HW9:=zab hW9;clear hW8 hW9 k8 h8z kz hzz hb7
       go_upto_region 12 with fail
       rw [HW8.out];clear v0 v1 v2 v3 v4 v5 v6 v7 v8 v9 v10 v11 v12;clear z0 z1 z2 z3 z4 z5 z6 z7 z8 z9 z10 z11 z12;clear f0 f1 f2 f3 f4 f5 f6 f7 f8 f9 f10 f11 f12
       go_wp2_with fail
       rw [HW9.out];simp only [Exit.noGoto];refine bodyPost_ret (zps _ _ b3 _ _ _ _ _ _ _ _ _ _ _ _ _ _ rfl rfl HRES.out) rfl ?_;exact HFIN.out
      | false=>
       have HR:Hid (Below W5.heap.size W5 W7/\∀ (i:Nat) c,i < j+1->x.cubes[i]?=some c->Tn.hasB c h=false):=by
        refine ⟨HB7.out,fun i c hi hc=>?_⟩;rcases Nat.lt_or_ge i j with h1 | h1
        ·exact HJ.out.2 i c h1 hc
        ·obtain rfl:i=j:=by omega
         rw [HY.out] at hc;obtain rfl:=Option.some.inj hc;exact HBQ.out
       go_wp2_with fail
       go_roundw
       case rel=>exact ⟨j+1,rfl,by go_num,by omega,HR⟩
       case measure=>simp [intOf];omega
     ·obtain rfl:j=nc:=by omega
      have j5:¬(j:Int) < (j:Int):=by omega
      have HR:Hid (Below W1.heap.size W1 wr/\∀ (i:Nat) e,i < k+1->T[i]?=some e->zj8 (pk:Int) h e=false):=by
       refine ⟨hb1,fun i l hi hl=>?_⟩;rcases Nat.lt_or_ge i k with h1 | h1
       ·exact HS.out.2 i l h1 hl
       ·obtain rfl:i=k:=by omega
        rw [HX.out] at hl;obtain rfl:=Option.some.inj hl;unfold zj8;rw [show zb0 x.cubes h=false from zr4 (fun i9 c hc=>HJ.out.2 i9 c (by have:=(List.getElem?_eq_some_iff.1 hc).1;have:=HXC.out.2.1;omega) hc),Bool.and_false]
      clear hrow hb1
      go_wp2_with fail
      go_roundw
      case rel=>exact ⟨k+1,rfl,by go_num,by omega,HR⟩
      case measure=>simp [intOf];omega
  ·obtain rfl:k=m:=by omega
   have j3:¬(k:Int) < (k:Int):=by omega
   have kz:=(HL.out wr HS.out.1).2;have hzz:=zaf kz;have z0:wr.cell? ⟨b3,0,none⟩=some (.int .i64 0):=by rw [hzz.1];rfl
   have f0:=hzz.2 0;have z1:wr.cell? ⟨b3,1,none⟩=some (.slice none 0 0):=by rw [hzz.1];rfl
   have f1:=hzz.2 1;have z2:wr.cell? ⟨b3,2,none⟩=some (.slice none 0 0):=by rw [hzz.1];rfl
   have f2:=hzz.2 2;have z3:wr.cell? ⟨b3,3,none⟩=some (.slice none 0 0):=by rw [hzz.1];rfl
   have f3:=hzz.2 3;have z4:wr.cell? ⟨b3,4,none⟩=some (.int .i64 0):=by rw [hzz.1];rfl
   have f4:=hzz.2 4;have z5:wr.cell? ⟨b3,5,none⟩=some (.int .u64 0):=by rw [hzz.1];rfl
   have f5:=hzz.2 5;have z6:wr.cell? ⟨b3,6,none⟩=some (.int .u64 0):=by rw [hzz.1];rfl
   have f6:=hzz.2 6;have z7:wr.cell? ⟨b3,7,none⟩=some (.int .u64 0):=by rw [hzz.1];rfl
   have f7:=hzz.2 7;have z8:wr.cell? ⟨b3,8,none⟩=some (.int .u64 0):=by rw [hzz.1];rfl
   have f8:=hzz.2 8;have z9:wr.cell? ⟨b3,9,none⟩=some (.int .u64 0):=by rw [hzz.1];rfl
   have f9:=hzz.2 9;have z10:wr.cell? ⟨b3,10,none⟩=some (.int .u64 0):=by rw [hzz.1];rfl
   have f10:=hzz.2 10;have z11:wr.cell? ⟨b3,11,none⟩=some (.int .u64 0):=by rw [hzz.1];rfl
   have f11:=hzz.2 11;have z12:wr.cell? ⟨b3,12,none⟩=some (.int .u64 0):=by rw [hzz.1];rfl
   have f12:=hzz.2 12;obtain ⟨W9,hW9⟩:=ex ((((((((((((((wr.setCell ⟨b3,0,none⟩ (.int .i64 0)).setCell ⟨b3,1,none⟩ (.slice none 0 0)).setCell ⟨b3,2,none⟩ (.slice none 0 0)).setCell ⟨b3,3,none⟩ (.slice none 0 0)).setCell ⟨b3,4,none⟩ (.int .i64 0)).setCell ⟨b3,5,none⟩ (.int .u64 0)).setCell ⟨b3,6,none⟩ (.int .u64 0)).setCell ⟨b3,7,none⟩ (.int .u64 0)).setCell ⟨b3,8,none⟩ (.int .u64 0)).setCell ⟨b3,9,none⟩ (.int .u64 0)).setCell ⟨b3,10,none⟩ (.int .u64 0)).setCell ⟨b3,11,none⟩ (.int .u64 0)).setCell ⟨b3,12,none⟩ (.int .u64 0)));have HRES:Hid (W9.heap[b3]?=some (.cells #[.int .i64 0,.slice none 0 0,.slice none 0 0,.slice none 0 0,.int .i64 0,.int .u64 0,.int .u64 0,.int .u64 0,.int .u64 0,.int .u64 0,.int .u64 0,.int .u64 0,.int .u64 0] 119 (0,0))):=by
    rw [<-hW9];exact ((zag _ (zag _ (zag _ (zag _ (zag _ (zag _ (zag _ (zag _ (zag _ (zag _ (zag _ (zag _ (zag _ kz)))))))))))))).trans (by simp)
   have HFIN:Hid (FTQ fr w (.returned (.tuple #[.agg #[.int .i64 0,.slice none 0 0,.slice none 0 0,.slice none 0 0,.int .i64 0,.int .u64 0,.int .u64 0,.int .u64 0,.int .u64 0,.int .u64 0,.int .u64 0,.int .u64 0,.int .u64 0],.bool false])) W9):=by
    have hbw:Below w.heap.size w W9:=by
     rw [<-hW9];have h0:=(HL.out wr HS.out.1).1;have hle:=HBB.out;exact (((((((((((((h0.setCell hle _).setCell hle _).setCell hle _).setCell hle _).setCell hle _).setCell hle _).setCell hle _).setCell hle _).setCell hle _).setCell hle _).setCell hle _).setCell hle _).setCell hle _)
    have hno:fr=none:=by
     rw [<-HFR.out];exact zj9 (fun i e he=>HS.out.2 i e (by have:=(List.getElem?_eq_some_iff.1 he).1;have:=HN.out.1;omega) he)
    refine ⟨hbw,?_⟩;rw [hno]
   have HW9:=zab hW9;clear hW9 kz hzz;clear q0 q1 q2 k0 k9;clear r0 r1 r2 r3 r4 r5 r6 r7 r8 r9
   go_wp2_with fail
   rw [HW9.out];refine bodyPost_ret (zps _ _ b3 _ _ _ _ _ _ _ _ _ _ _ _ _ _ rfl rfl HRES.out) rfl ?_;exact HFIN.out
end Go.Proofs.YtmfakcfmkmppfaaGreatDoor.Nt
