import Derived.Test.YtmfakcfmkmppfaaGreatDoorVAS
namespace Go.Proofs.YtmfakcfmkmppfaaGreatDoor.Nt
open Go.RowKit Go.Shelf
theorem res_cube (tmps:Array Value) (W:World) (b:Nat) (a0 a1 a2 a3 a4 a5 a6 a7 a8:Int) (h:tmps[2]?.getD undef=.pointer (some ⟨b,0,none⟩)) (hb:W.heap[b]?=some (.cells #[.int .i64 a0,.int .u64 a1,.int .u64 a2,.int .u64 a3,.int .u64 a4,.int .u64 a5,.int .u64 a6,.int .u64 a7,.int .u64 a8] 70 (0,0))) :
  (results Tryz.f58 tmps).run Tryz.prog W=.ok (.agg #[.int .i64 a0,.int .u64 a1,.int .u64 a2,.int .u64 a3,.int .u64 a4,.int .u64 a5,.int .u64 a6,.int .u64 a7,.int .u64 a8]) W:=by
 have h1:=(zaf hb).1;have c0:=h1 0;have c1:=h1 1;have c2:=h1 2;have c3:=h1 3;have c4:=h1 4;have c5:=h1 5;have c6:=h1 6;have c7:=h1 7;have c8:=h1 8;simp at c0 c1 c2 c3 c4 c5 c6 c7 c8;simp [results,h,c0,c1,c2,c3,c4,c5,c6,c7,c8,go_sem]
theorem zpr (tmps:Array Value) (W:World) (b:Nat) (p a0 a1 a2 a3 a4 a5 a6 a7 a8:Int) (h:tmps[2]?.getD undef=.pointer (some ⟨b,0,none⟩)) (hb:W.heap[b]?=some (.cells #[.int .i64 p,.int .i64 a0,.int .u64 a1,.int .u64 a2,.int .u64 a3,.int .u64 a4,.int .u64 a5,.int .u64 a6,.int .u64 a7,.int .u64 a8] 75 (0,0))) :
  (results Tryz.f29 tmps).run Tryz.prog W=.ok (.agg #[.int .i64 p,.int .i64 a0,.int .u64 a1,.int .u64 a2,.int .u64 a3,.int .u64 a4,.int .u64 a5,.int .u64 a6,.int .u64 a7,.int .u64 a8]) W:=by
 have h1:=(zaf hb).1;have c0:=h1 0;have c1:=h1 1;have c2:=h1 2;have c3:=h1 3;have c4:=h1 4;have c5:=h1 5;have c6:=h1 6;have c7:=h1 7;have c8:=h1 8;have c9:=h1 9;simp at c0 c1 c2 c3 c4 c5 c6 c7 c8 c9;simp [results,h,c0,c1,c2,c3,c4,c5,c6,c7,c8,c9,go_sem]
set_option maxRecDepth 100000 in
set_option maxHeartbeats 16000000 in
theorem zfj (l:List UInt8) (w:World) (hl:l.length<=140737488351232) :
  Calls Tryz.prog 58 #[.string ⟨l.toArray⟩] w fun e w'=>e=.returned (Tn.cubeV (Tn.cubeT l))/\Below w.heap.size w w':=by
 obtain ⟨a0,a1,a2,a3,a4,a5,a6,a7,a8,h9⟩:=zbz (Tn.cubeT l);rw [h9.agg];obtain ⟨b,hb⟩:=ex w.heap.size;obtain ⟨er,her⟩:=ex (Tn.refP l);obtain ⟨W1,hW1⟩:=ex (w.alloc (.cells #[.int .i64 0,.int .u64 0,.int .u64 0,.int .u64 0,.int .u64 0,.int .u64 0,.int .u64 0,.int .u64 0,.int .u64 0] 70));have b1:Below w.heap.size w W1:=by rw [<-hW1];exact zah (Below.refl _ _) _
 have k1:W1.heap[b]?=some (.cells #[.int .i64 0,.int .u64 0,.int .u64 0,.int .u64 0,.int .u64 0,.int .u64 0,.int .u64 0,.int .u64 0,.int .u64 0] 70 (0,0)):=by rw [<-hW1,<-hb];exact zaa _ _
 have HP:Hid (∀ U,Calls Tryz.prog 82 #[.string ⟨l.toArray⟩] U fun e w'=>e=.returned (.tuple #[.agg #[.int .i64 a0,.int .u64 a1,.int .u64 a2,.int .u64 a3,.int .u64 a4,.int .u64 a5,.int .u64 a6,.int .u64 a7,.int .u64 a8],.int .i64 er])/\Below U.heap.size U w'):=fun U=>by
  have h:=Tn.parse_any ⟨l.toArray⟩ U (by show l.toArray.size<=maxLen;rw [List.size_toArray];unfold maxLen;omega);rw [show (ByteArray.mk l.toArray).data.toList=l from rfl,h9.agg,her] at h;exact h
 have HB:=zab hb;have HW:=zab hW1;have HK:=zab k1;have HB1:=zab b1;clear h9 her hb hW1 k1 b1
 go_enter Tryz.func58,Tryz.ntmps58
 go_upto_region 1 with fail
 rw [HW.out,HB.out]
 go_wp2_with fail
 refine (HP.out W1).mono ?_;rintro e W2 ⟨rfl,c2⟩;obtain ⟨d,hd⟩:=ex W2.heap.size;obtain ⟨W3,hW3⟩:=ex (W2.alloc (.cells #[.int .i64 a0,.int .u64 a1,.int .u64 a2,.int .u64 a3,.int .u64 a4,.int .u64 a5,.int .u64 a6,.int .u64 a7,.int .u64 a8] 70));have b3:Below W2.heap.size W2 W3:=by rw [<-hW3];exact zah (Below.refl _ _) _
 have k3:=zae b3 (zae c2 HK.out);have md:W3.heap[d]?=some (.cells #[.int .i64 a0,.int .u64 a1,.int .u64 a2,.int .u64 a3,.int .u64 a4,.int .u64 a5,.int .u64 a6,.int .u64 a7,.int .u64 a8] 70 (0,0)):=by rw [<-hW3,<-hd];exact zaa _ _
 have hbd:b < d:=by rw [<-hd];exact zap (zae c2 HK.out)
 have hz:=zaf k3;have hm:=(zaf md).1;have z0:W3.cell? ⟨b,0,none⟩=some (.int .i64 0):=by rw [hz.1];rfl
 have f0:=hz.2 0;have m0:W3.cell? ⟨d,0,none⟩=some (.int .i64 a0):=by rw [hm];rfl
 have z1:W3.cell? ⟨b,1,none⟩=some (.int .u64 0):=by rw [hz.1];rfl
 have f1:=hz.2 1;have m1:W3.cell? ⟨d,1,none⟩=some (.int .u64 a1):=by rw [hm];rfl
 have z2:W3.cell? ⟨b,2,none⟩=some (.int .u64 0):=by rw [hz.1];rfl
 have f2:=hz.2 2;have m2:W3.cell? ⟨d,2,none⟩=some (.int .u64 a2):=by rw [hm];rfl
 have z3:W3.cell? ⟨b,3,none⟩=some (.int .u64 0):=by rw [hz.1];rfl
 have f3:=hz.2 3;have m3:W3.cell? ⟨d,3,none⟩=some (.int .u64 a3):=by rw [hm];rfl
 have z4:W3.cell? ⟨b,4,none⟩=some (.int .u64 0):=by rw [hz.1];rfl
 have f4:=hz.2 4;have m4:W3.cell? ⟨d,4,none⟩=some (.int .u64 a4):=by rw [hm];rfl
 have z5:W3.cell? ⟨b,5,none⟩=some (.int .u64 0):=by rw [hz.1];rfl
 have f5:=hz.2 5;have m5:W3.cell? ⟨d,5,none⟩=some (.int .u64 a5):=by rw [hm];rfl
 have z6:W3.cell? ⟨b,6,none⟩=some (.int .u64 0):=by rw [hz.1];rfl
 have f6:=hz.2 6;have m6:W3.cell? ⟨d,6,none⟩=some (.int .u64 a6):=by rw [hm];rfl
 have z7:W3.cell? ⟨b,7,none⟩=some (.int .u64 0):=by rw [hz.1];rfl
 have f7:=hz.2 7;have m7:W3.cell? ⟨d,7,none⟩=some (.int .u64 a7):=by rw [hm];rfl
 have z8:W3.cell? ⟨b,8,none⟩=some (.int .u64 0):=by rw [hz.1];rfl
 have f8:=hz.2 8;have m8:W3.cell? ⟨d,8,none⟩=some (.int .u64 a8):=by rw [hm];rfl
 obtain ⟨W4,hW4⟩:=ex ((((((((((W3.setCell ⟨b,0,none⟩ (.int .i64 a0)).setCell ⟨b,1,none⟩ (.int .u64 a1)).setCell ⟨b,2,none⟩ (.int .u64 a2)).setCell ⟨b,3,none⟩ (.int .u64 a3)).setCell ⟨b,4,none⟩ (.int .u64 a4)).setCell ⟨b,5,none⟩ (.int .u64 a5)).setCell ⟨b,6,none⟩ (.int .u64 a6)).setCell ⟨b,7,none⟩ (.int .u64 a7)).setCell ⟨b,8,none⟩ (.int .u64 a8)));have HRES:Hid (W4.heap[b]?=some (.cells #[.int .i64 a0,.int .u64 a1,.int .u64 a2,.int .u64 a3,.int .u64 a4,.int .u64 a5,.int .u64 a6,.int .u64 a7,.int .u64 a8] 70 (0,0))):=by
  rw [<-hW4];exact ((zag _ (zag _ (zag _ (zag _ (zag _ (zag _ (zag _ (zag _ (zag _ k3)))))))))).trans (by simp)
 have HFIN:Hid (Below w.heap.size w W4):=by
  rw [<-hW4];have h0:Below w.heap.size w W3:=zac (zac HB1.out c2) b3;have hle:w.heap.size<=b:=by rw [HB.out];exact Nat.le_refl _
  exact (((((((((h0.setCell hle _).setCell hle _).setCell hle _).setCell hle _).setCell hle _).setCell hle _).setCell hle _).setCell hle _).setCell hle _)
 have HW3:=zab hW3;have HD:=zab hd;have HW4:=zab hW4;clear hW3 hd hW4 b3 k3 md hz hm c2
 go_upto_region 2 with fail
 rw [HW3.out,HD.out]
 go_wp2_with fail
 rw [HW4.out];refine bodyPost_ret (res_cube _ _ b _ _ _ _ _ _ _ _ _ rfl HRES.out) rfl ?_;exact ⟨rfl,HFIN.out⟩
set_option maxRecDepth 100000 in
set_option maxHeartbeats 16000000 in
theorem zge (p:Int) (l:List UInt8) (w:World) (hl:l.length<=140737488351232) :
  Calls Tryz.prog 29 #[.agg #[.int .i64 p,.string ⟨l.toArray⟩]] w fun e w'=>e=.returned (.agg (stC (p,Tn.cubeT l)).toArray)/\Below w.heap.size w w':=by
 obtain ⟨a0,a1,a2,a3,a4,a5,a6,a7,a8,h9⟩:=zbz (Tn.cubeT l);have hst:(stC (p,Tn.cubeT l)).toArray=#[.int .i64 p,.int .i64 a0,.int .u64 a1,.int .u64 a2,.int .u64 a3,.int .u64 a4,.int .u64 a5,.int .u64 a6,.int .u64 a7,.int .u64 a8]:=by
  unfold stC;rw [show zcp (p,Tn.cubeT l).2=_ from h9]
 rw [hst];obtain ⟨b,hb⟩:=ex w.heap.size;obtain ⟨b2,hb2⟩:=ex (w.heap.size+1);obtain ⟨W1,hW1⟩:=ex ((w.alloc (.cells #[.int .i64 p,.string ⟨l.toArray⟩] 28)).alloc (.cells #[.int .i64 0,.int .i64 0,.int .u64 0,.int .u64 0,.int .u64 0,.int .u64 0,.int .u64 0,.int .u64 0,.int .u64 0,.int .u64 0] 75));have hz2:(w.alloc (.cells #[.int .i64 p,.string ⟨l.toArray⟩] 28)).heap.size=w.heap.size+1:=Array.size_push _;have b1:Below w.heap.size w W1:=by rw [<-hW1];exact zah (zah (Below.refl _ _) _) _
 have k1:W1.heap[b]?=some (.cells #[.int .i64 p,.string ⟨l.toArray⟩] 28 (0,0)):=by rw [<-hW1,<-hb];exact zae (zah (Below.refl _ _) _) (zaa _ _)
 have k2:W1.heap[b2]?=some (.cells #[.int .i64 0,.int .i64 0,.int .u64 0,.int .u64 0,.int .u64 0,.int .u64 0,.int .u64 0,.int .u64 0,.int .u64 0,.int .u64 0] 75 (0,0)):=by rw [<-hW1,<-hb2,<-hz2];exact zaa _ _
 have HC:Hid (∀ U,Calls Tryz.prog 58 #[.string ⟨l.toArray⟩] U fun e w'=>e=.returned (.agg #[.int .i64 a0,.int .u64 a1,.int .u64 a2,.int .u64 a3,.int .u64 a4,.int .u64 a5,.int .u64 a6,.int .u64 a7,.int .u64 a8])/\Below U.heap.size U w'):=fun U=>by
  have h:=zfj l U hl;rw [h9.agg] at h;exact h
 have HS:Hid (∀ U,Below W1.heap.size W1 U->U.cell? ⟨b,0,none⟩=some (.int .i64 p)/\U.cell? ⟨b,1,none⟩=some (.string ⟨l.toArray⟩)):=fun U hU=>by
  have e1:=(zaf (zae hU k1)).1;exact ⟨by rw [e1];rfl,by rw [e1];rfl⟩
 have HK:Hid (∀ U,Below W1.heap.size W1 U->U.heap[b2]?=some (.cells #[.int .i64 0,.int .i64 0,.int .u64 0,.int .u64 0,.int .u64 0,.int .u64 0,.int .u64 0,.int .u64 0,.int .u64 0,.int .u64 0] 75 (0,0))/\Below w.heap.size w U):=fun U hU=>⟨zae hU k2,zac b1 hU⟩;have HB:=zab hb;have HB2:=zab hb2;have HBB:Hid (w.heap.size<=b2/\b≠b2):=⟨by omega,by omega⟩;have HW:=zab hW1;have hs0:W1.drew.cell? ⟨b,0,none⟩=some (.int .i64 p)/\W1.drew.cell? ⟨b,1,none⟩=some (.string ⟨l.toArray⟩):=HS.out _ (Below.refl _ _).drew;clear h9 hst hb hb2 hW1 b1 k1 k2 hz2
 go_enter Tryz.func29,Tryz.ntmps29
 go_upto_region 1 with fail
 rw [HW.out,HB2.out,HB.out];refine wp_region_held_drew (S:=fun U=>U.cell? ⟨b,0,none⟩=some (.int .i64 p)/\U.cell? ⟨b,1,none⟩=some (.string ⟨l.toArray⟩)) (by kernel_rfl) hs0 (fun _=>?_);refine tk 0 (.pointer (some ⟨b,0,none⟩)) rfl hs0 ?_ ?_
 ·rintro w ⟨q0,q1⟩;go_simp
 refine tk 1 (.int .i64 p) rfl hs0 ?_ ?_
 ·rintro w ⟨q0,q1⟩;go_simp
 refine tk 2 (.pointer (some ⟨b,1,none⟩)) rfl hs0 ?_ ?_
 ·rintro w ⟨q0,q1⟩;go_simp
 refine tk 3 (.string ⟨l.toArray⟩) rfl hs0 ?_ ?_
 ·rintro w ⟨q0,q1⟩;go_simp
 refine rd 4 rfl fun KK hKK=>?_
 go_simp
 refine (HC.out _).mono ?_;rintro en W2 ⟨rfl,c2⟩;have c2':Below W1.heap.size W1 W2:=zac (Below.refl _ _).drew c2;have hs2:=HS.out W2 c2';obtain ⟨kb,hbw⟩:=HK.out W2 c2';have hz:=zaf kb;have z0:W2.cell? ⟨b2,0,none⟩=some (.int .i64 0):=by rw [hz.1];rfl
 have f0:=hz.2 0;have z1:W2.cell? ⟨b2,1,none⟩=some (.int .i64 0):=by rw [hz.1];rfl
 have f1:=hz.2 1;have z2:W2.cell? ⟨b2,2,none⟩=some (.int .u64 0):=by rw [hz.1];rfl
 have f2:=hz.2 2;have z3:W2.cell? ⟨b2,3,none⟩=some (.int .u64 0):=by rw [hz.1];rfl
 have f3:=hz.2 3;have z4:W2.cell? ⟨b2,4,none⟩=some (.int .u64 0):=by rw [hz.1];rfl
 have f4:=hz.2 4;have z5:W2.cell? ⟨b2,5,none⟩=some (.int .u64 0):=by rw [hz.1];rfl
 have f5:=hz.2 5;have z6:W2.cell? ⟨b2,6,none⟩=some (.int .u64 0):=by rw [hz.1];rfl
 have f6:=hz.2 6;have z7:W2.cell? ⟨b2,7,none⟩=some (.int .u64 0):=by rw [hz.1];rfl
 have f7:=hz.2 7;have z8:W2.cell? ⟨b2,8,none⟩=some (.int .u64 0):=by rw [hz.1];rfl
 have f8:=hz.2 8;have z9:W2.cell? ⟨b2,9,none⟩=some (.int .u64 0):=by rw [hz.1];rfl
 have f9:=hz.2 9;obtain ⟨W4,hW4⟩:=ex (((((((((((W2.setCell ⟨b2,0,none⟩ (.int .i64 p)).setCell ⟨b2,1,none⟩ (.int .i64 a0)).setCell ⟨b2,2,none⟩ (.int .u64 a1)).setCell ⟨b2,3,none⟩ (.int .u64 a2)).setCell ⟨b2,4,none⟩ (.int .u64 a3)).setCell ⟨b2,5,none⟩ (.int .u64 a4)).setCell ⟨b2,6,none⟩ (.int .u64 a5)).setCell ⟨b2,7,none⟩ (.int .u64 a6)).setCell ⟨b2,8,none⟩ (.int .u64 a7)).setCell ⟨b2,9,none⟩ (.int .u64 a8)));have HRES:Hid (W4.heap[b2]?=some (.cells #[.int .i64 p,.int .i64 a0,.int .u64 a1,.int .u64 a2,.int .u64 a3,.int .u64 a4,.int .u64 a5,.int .u64 a6,.int .u64 a7,.int .u64 a8] 75 (0,0))):=by
  rw [<-hW4];exact ((zag _ (zag _ (zag _ (zag _ (zag _ (zag _ (zag _ (zag _ (zag _ (zag _ kb))))))))))).trans (by simp)
 have HFIN:Hid (Below w.heap.size w W4):=by
  rw [<-hW4];have hle:=HBB.out.1;exact ((((((((((hbw.setCell hle _).setCell hle _).setCell hle _).setCell hle _).setCell hle _).setCell hle _).setCell hle _).setCell hle _).setCell hle _).setCell hle _)
 have hs4:W4.cell? ⟨b,0,none⟩=some (.int .i64 p)/\W4.cell? ⟨b,1,none⟩=some (.string ⟨l.toArray⟩):=by
  have kp:∀ j,W4.cell? ⟨b,j,none⟩=W2.cell? ⟨b,j,none⟩:=fun j=>by
   unfold World.cell?;rw [<-hW4,zby _ _ _ _ _ (by exact HBB.out.2),zby _ _ _ _ _ (by exact HBB.out.2),zby _ _ _ _ _ (by exact HBB.out.2),zby _ _ _ _ _ (by exact HBB.out.2),zby _ _ _ _ _ (by exact HBB.out.2),zby _ _ _ _ _ (by exact HBB.out.2),zby _ _ _ _ _ (by exact HBB.out.2),zby _ _ _ _ _ (by exact HBB.out.2),zby _ _ _ _ _ (by exact HBB.out.2),zby _ _ _ _ _ (by exact HBB.out.2)]
  exact ⟨(kp 0).trans hs2.1,(kp 1).trans hs2.2⟩
 have HW4:=zab hW4;clear hW4 kb hbw hz c2 c2'
 go_simp
 refine hKK.out _ _ hs2 (fun _=>?_);clear hKK KK;refine tk 5 (.agg #[.int .i64 p,.int .i64 a0,.int .u64 a1,.int .u64 a2,.int .u64 a3,.int .u64 a4,.int .u64 a5,.int .u64 a6,.int .u64 a7,.int .u64 a8]) rfl hs2 ?_ ?_
 ·rintro w ⟨q0,q1⟩;go_simp
 refine rd 6 rfl fun KK hKK=>?_
 go_simp
 rw [HW4.out];refine hKK.out _ _ hs4 (fun _=>?_);clear hKK KK;refine wpAnyH_done (by kernel_rfl) ?_ _;clear hs0 hs2 hs4
 go_wp2_with fail
 refine bodyPost_ret (zpr _ _ b2 _ _ _ _ _ _ _ _ _ _ rfl HRES.out) rfl ?_;exact ⟨rfl,HFIN.out⟩
theorem zn9:(Tryz.prog.info? 70).map (fun i=>(i.zero,i.size,i.bytes))=some (some (.agg #[.int .i64 0,.int .u64 0,.int .u64 0,.int .u64 0,.int .u64 0,.int .u64 0,.int .u64 0,.int .u64 0,.int .u64 0]),9,72):=by kernel_rfl
theorem pushC {W:World} {B:Nat} {p:Option Addr} {n n9 c:Nat} {L:List (List UInt8)} {t:List UInt8} {a0 a1 a2 a3 a4 a5 a6 a7 a8:Int} (h9:C9 t a0 a1 a2 a3 a4 a5 a6 a7 a8) (h:W.ownsRow B 70 9 (.slice p n c) n (L.flatMap zcp)) (hB:B<=W.heap.size) (hn:n+1=n9) (hO:n9*72<=140737488355328) :
  ∃ q c9 W9,(Builtin.append_ #[115,115] 115 #[.slice p n c,.slice (some ⟨W.heap.size,0,none⟩) 1 1]).run Tryz.prog (W.alloc (.cells #[.int .i64 a0,.int .u64 a1,.int .u64 a2,.int .u64 a3,.int .u64 a4,.int .u64 a5,.int .u64 a6,.int .u64 a7,.int .u64 a8] 70 (0,0)))=.ok (.slice q n9 c9) W9/\W9.ownsRow B 70 9 (.slice q n9 c9) n9 ((L++[t]).flatMap zcp)/\Below B W W9:=by
 subst hn;obtain ⟨i0,hi,hz0,hz1,hz2⟩:=info_parts zn9;have hc:(zcp t).toArray=#[.int .i64 a0,.int .u64 a1,.int .u64 a2,.int .u64 a3,.int .u64 a4,.int .u64 a5,.int .u64 a6,.int .u64 a7,.int .u64 a8]:=by rw [show zcp t=_ from h9]
 obtain ⟨q,c9,W9,hr,o9,b9,-,-⟩:=zp3 (W:=W) (TS:=115) (cs:=(zcp t).toArray) Tryz.underlying115 hi hz0 hz1 hz2 rfl (by decide) h hB rfl (fun u hu=>zf5 t u (by simpa using hu)) hO (by omega);rw [hc] at hr;refine ⟨q,c9,W9,hr,?_,b9⟩;rw [List.flatMap_append]
 simpa using o9
set_option maxRecDepth 100000 in
set_option maxHeartbeats 16000000 in
theorem zgz (L:List (List UInt8)) (p:Option Addr) (n c:Nat) (w:World) (hn:L.length=n) (hL:LS w p L) (hT:∀ x∈L,Tn.cubeT x=x) (hO:∀ x∈L,x.length<=140737488351232) (h6:n<=1000000) :
  Calls Tryz.prog 57 #[.slice p n c] w fun e w'=>∃ q c9,e=.returned (.slice q n c9)/\w'.ownsRow w.heap.size 70 9 (.slice q n c9) n (L.flatMap zcp)/\Below w.heap.size w w':=by
 have HN:Hid (L.length=n/\(∀ U,Below w.heap.size w U->LS U p L)/\(∀ x∈L,Tn.cubeT x=x)/\(∀ x∈L,x.length<=140737488351232)/\n<=1000000):=⟨hn,fun U hU=>hL.below hU,hT,hO,h6⟩;clear hn hL hT hO
 go_enter Tryz.func57,Tryz.ntmps57
 go_wp2_with fail
 go_loopw [3,8] (fun v3 vk wr=>∃ (k:Nat) (q:Option Addr) (c9:Nat),v3=.slice q k c9/\vk=.int .i64 (k:Int)/\k<=n/\Hid (wr.ownsRow w.heap.size 70 9 (.slice q k c9) k ((L.take k).flatMap zcp)/\Below w.heap.size w wr)) (fun _ vk _=>n - (intOf vk).toNat)
 case atStart=>exact ⟨0,none,0,rfl,rfl,Nat.zero_le _,World.ownsRow_nil _ _ _ _,Below.refl _ _⟩
 case round=>
  obtain ⟨k,q,c9,rfl,rfl,hk,HS⟩:=hrel
  by_cases hlt:k < n
  ·obtain ⟨x,hx⟩:∃ x,L[k]?=some x:=⟨_,List.getElem?_eq_getElem (by have:=HN.out.1;omega)⟩
   obtain ⟨k9,hk9⟩:=ex (k+1);obtain ⟨g,o,rfl,c0⟩:=HN.out.2.1 wr HS.out.2 k x hx;have hm:=List.mem_of_getElem? hx;obtain ⟨a0,a1,a2,a3,a4,a5,a6,a7,a8,h9⟩:=zbz x;have HC:Hid (Calls Tryz.prog 58 #[.string ⟨x.toArray⟩] wr fun e w'=>e=.returned (.agg #[.int .i64 a0,.int .u64 a1,.int .u64 a2,.int .u64 a3,.int .u64 a4,.int .u64 a5,.int .u64 a6,.int .u64 a7,.int .u64 a8])/\Below wr.heap.size wr w'):=by
    have h:=zfj x wr (HN.out.2.2.2.1 x hm);rw [HN.out.2.2.1 x hm,h9.agg] at h;exact h
   have HX:=zab hx;have H9:Hid (C9 x a0 a1 a2 a3 a4 a5 a6 a7 a8):=h9;have HK9:=zab hk9;have j0:(0:Int)<=(k:Int):=by omega
   have j1:(k:Int) < (n:Int):=by omega
   clear hx h9 hk9 hm
   go_wp2_with fail
   refine (HC.out).mono ?_;rintro e W2 ⟨rfl,b2⟩;obtain ⟨q2,d9,W9,hr9,o9,b9⟩:=pushC H9.out (zaq HS.out.1 b2) (Nat.le_trans HS.out.2.size b2.size) HK9.out (by have:=HN.out.2.2.2.2;have:=HK9.out;omega);have HS9:Hid (W9.ownsRow w.heap.size 70 9 (.slice q2 k9 d9) k9 ((L.take k9).flatMap zcp)/\Below w.heap.size w W9):=by
    rw [<-HK9.out,List.take_add_one,HX.out,Option.toList_some,HK9.out];exact ⟨o9,(zac HS.out.2 b2).trans b9⟩
   clear c0 b2 o9 b9 HS
   go_wp2_with (at_builtin;refine za3 rfl _ _ _ rfl rfl rfl hr9 ?_)
   clear hr9
   go_wp2_with fail
   go_roundw
   case rel=>exact ⟨k9,q2,d9,rfl,by rw [<-HK9.out];go_num,by have:=HK9.out;omega,HS9⟩
   case measure=>have:=HK9.out;simp [intOf];omega
  ·obtain rfl:k=n:=by omega
   have j1:¬(k:Int) < (k:Int):=by omega
   have HF:Hid (wr.ownsRow w.heap.size 70 9 (.slice q k c9) k (L.flatMap zcp)/\Below w.heap.size w wr):=by
    have h:=HS.out;rw [List.take_of_length_le (by have:=HN.out.1;omega)] at h;exact h
   clear HS
   go_wp2_with fail
   go_ret
   exact ⟨q,c9,rfl,HF.out⟩
theorem zjl {α:Type} {sz:Nat} {f:α->List Value} (hf:∀ x,(f x).length=sz) (hsz:0 < sz):∀ (L:List α) (m:Nat) (u:Value),(L.flatMap f)[m]?=some u->∃ k j x,m=k*sz+j/\L[k]?=some x/\(f x)[j]?=some u
 | [],m,u,h=>by simp at h
 | a :: L,m,u,h=>by
  rw [List.flatMap_cons] at h
  by_cases hm:m < sz
  ·rw [List.getElem?_append_left (by rw [hf];exact hm)] at h
   exact ⟨0,m,a,by simp,rfl,h⟩
  ·rw [List.getElem?_append_right (by rw [hf];omega),hf] at h
   obtain ⟨k,j,x,e1,e2,e3⟩:=zjl hf hsz L (m - sz) u h;exact ⟨k+1,j,x,by rw [Nat.succ_mul];omega,by simpa using e2,e3⟩
theorem RowL.news {α:Type} {sz:Nat} {f:α->List Value} (hf:∀ x,(f x).length=sz) (hsz:0 < sz) {W:World} {ad:Addr} {L:List α} (h:RowL sz f W (some ad) L):∀ m u,(L.flatMap f)[m]?=some u->W.cell? (ad.add m)=some u:=fun m u hu=>by
 obtain ⟨k,j,x,rfl,h1,h2⟩:=zjl hf hsz L m u hu;obtain ⟨g,o,e,hc⟩:=h k x h1;obtain rfl:=Option.some.inj e;have h3:=hc j u h2;unfold Addr.add
 split
 ·rename_i h0
  have e1:o+k*sz+j=o:=by omega
  rw [e1] at h3;exact h3
 ·rw [<-Nat.add_assoc]
  exact h3
def inC (x:Int):List Value:=[.int .i64 x]
theorem zlj (x:Int):(inC x).length=1:=rfl
theorem zgq {W:World} {p:Option Addr} {L:List Int} (h:LI W p L):RowL 1 inC W p L:=fun k x hx=>by
 obtain ⟨g,o,e,c⟩:=h k x hx;refine ⟨g,o,e,fun j v hv=>?_⟩
 match j,hv with
 | 0,hv=>obtain rfl:=Option.some.inj hv;rw [Nat.mul_one];exact c
 | n+1,hv=>simp [inC] at hv
theorem zew (L:List Int):L.flatMap inC=inZ L:=by
 induction L with
 | nil=>rfl
 | cons a L ih=>rw [List.flatMap_cons,ih];rfl
theorem npC_oneL (x:NP):∀ u∈npC x,u.oneCell'=true:=fun u hu=>npC_one x u (by simpa using hu)
theorem int_oneL (x:Int):∀ u∈inC x,u.oneCell'=true:=fun u hu=>by
 obtain rfl:=List.mem_singleton.1 hu;rfl
set_option maxRecDepth 100000 in
theorem eq_yi (c:Nat) (w:World):(binOp BinOp.eql 35 (.slice none 0 c) (.slice none 0 0)).run Tryz.prog w=.ok (.bool true) w:=by
 first | rfl | kernel_rfl
set_option maxRecDepth 100000 in
theorem eq_ni (ad:Addr) (n c:Nat) (w:World):(binOp BinOp.eql 35 (.slice (some ad) n c) (.slice none 0 0)).run Tryz.prog w=.ok (.bool false) w:=by
 first | rfl | kernel_rfl
set_option maxRecDepth 100000 in
set_option maxHeartbeats 16000000 in
theorem zix (L:List Int) (p:Option Addr) (n c:Nat) (w:World) (hn:L.length=n) (hN:n<=1000000) (h:RowL 1 inC w p L) :
  Calls Tryz.prog 56 #[.slice p n c] w fun e w'=>∃ q c9,e=.returned (.slice q n c9)/\w'.ownsRow w.heap.size 3 1 (.slice q n c9) n (L.flatMap inC)/\Below w.heap.size w w':=by
 obtain ⟨i0,hi,hz0,hz1,hz2⟩:=info_parts zdz;cases p with
 | none=>
  have hz:L=[]:=by
   cases hc:L with
   | nil=>rfl
   | cons t l=>
    obtain ⟨g,o0,e,-⟩:=h 0 t (by rw [hc];rfl);cases e
  subst hz;obtain rfl:n=0:=hn.symm;have hq:=eq_yi c w;clear h hn
  go_enter Tryz.func56,Tryz.ntmps56
  go_wp2_with fail
  go_ret
  exact ⟨none,0,rfl,World.ownsRow_nil _ _ _ _,Below.refl _ _⟩
 | some ad=>
  have HE:Hid ((w.alloc (.cells #[] 3 (0,0))).ownsRow w.heap.size 3 1 (.slice (some ⟨w.heap.size,0,none⟩) 0 0) 0 []):=⟨rfl,.inr ⟨w.heap.size,0,#[],rfl,Nat.le_refl _,zaa _ _,Nat.le_refl _,by unfold maxLen;omega,rfl,rfl⟩⟩;have HNW:Hid (∀ j u,(L.flatMap inC)[j]?=some u->(w.alloc (.cells #[] 3 (0,0))).cell? (ad.add j)=some u):=(h.below (zah (Below.refl _ _) _)).news zlj (by decide);have HL:Hid ((L.flatMap inC).length=n*1):=by unfold Hid;rw [zgj zlj,hn]
  have HO:Hid (∀ u∈L.flatMap inC,u.oneCell'=true):=fun u hu=>by
   obtain ⟨x,_,hx⟩:=List.mem_flatMap.1 hu;exact int_oneL x u hx
  have hq:=eq_ni ad n c w;clear h hn
  go_enter Tryz.func56,Tryz.ntmps56
  go_wp2_with (at_builtin;refine wpList_append_own _ rfl _ _ 35 rfl w.heap.size 3 i0 _ 1 8 Tryz.underlying35 hi hz0 hz1 hz2 rfl (by decide) _ _ _ rfl HE.out ad n c (L.flatMap inC) rfl HL.out HNW.out HO.out (by unfold maxLen;omega) (by omega) (by simp) ?_)
  intro v8 w8 o8 g8 _;have HB8:Hid (w8.ownsRow w.heap.size 3 1 v8 n (L.flatMap inC)/\Below w.heap.size w w8):=by
   refine ⟨?_,(zah (Below.refl _ _) _).grown g8 (zah (Below.refl _ _) _).size (fun b e=>(HE.out.lt b e).1)⟩
   simpa using o8
  obtain ⟨q9,c9,rfl⟩:=zec HB8.out.1;clear o8 g8
  go_wp2_with fail
  go_ret
  exact ⟨q9,c9,rfl,HB8.out⟩
set_option maxRecDepth 100000 in
theorem eq_yp (c:Nat) (w:World):(binOp BinOp.eql 22 (.slice none 0 c) (.slice none 0 0)).run Tryz.prog w=.ok (.bool true) w:=by
 first | rfl | kernel_rfl
set_option maxRecDepth 100000 in
theorem eq_np (ad:Addr) (n c:Nat) (w:World):(binOp BinOp.eql 22 (.slice (some ad) n c) (.slice none 0 0)).run Tryz.prog w=.ok (.bool false) w:=by
 first | rfl | kernel_rfl
set_option maxRecDepth 100000 in
set_option maxHeartbeats 16000000 in
theorem clone_p (L:List NP) (p:Option Addr) (n c:Nat) (w:World) (hn:L.length=n) (hN:n<=1000000) (h:RowL 4 npC w p L) :
  Calls Tryz.prog 55 #[.slice p n c] w fun e w'=>∃ q c9,e=.returned (.slice q n c9)/\w'.ownsRow w.heap.size 84 4 (.slice q n c9) n (L.flatMap npC)/\Below w.heap.size w w':=by
 obtain ⟨i0,hi,hz0,hz1,hz2⟩:=info_parts zq1;cases p with
 | none=>
  have hz:L=[]:=by
   cases hc:L with
   | nil=>rfl
   | cons t l=>
    obtain ⟨g,o0,e,-⟩:=h 0 t (by rw [hc];rfl);cases e
  subst hz;obtain rfl:n=0:=hn.symm;have hq:=eq_yp c w;clear h hn
  go_enter Tryz.func55,Tryz.ntmps55
  go_wp2_with fail
  go_ret
  exact ⟨none,0,rfl,World.ownsRow_nil _ _ _ _,Below.refl _ _⟩
 | some ad=>
  have HE:Hid ((w.alloc (.cells #[] 84 (0,0))).ownsRow w.heap.size 84 4 (.slice (some ⟨w.heap.size,0,none⟩) 0 0) 0 []):=⟨rfl,.inr ⟨w.heap.size,0,#[],rfl,Nat.le_refl _,zaa _ _,Nat.le_refl _,by unfold maxLen;omega,rfl,rfl⟩⟩;have HNW:Hid (∀ j u,(L.flatMap npC)[j]?=some u->(w.alloc (.cells #[] 84 (0,0))).cell? (ad.add j)=some u):=(h.below (zah (Below.refl _ _) _)).news zlc (by decide);have HL:Hid ((L.flatMap npC).length=n*4):=by unfold Hid;rw [zgj zlc,hn]
  have HO:Hid (∀ u∈L.flatMap npC,u.oneCell'=true):=fun u hu=>by
   obtain ⟨x,_,hx⟩:=List.mem_flatMap.1 hu;exact npC_oneL x u hx
  have hq:=eq_np ad n c w;clear h hn
  go_enter Tryz.func55,Tryz.ntmps55
  go_wp2_with (at_builtin;refine wpList_append_own _ rfl _ _ 22 rfl w.heap.size 84 i0 _ 4 40 Tryz.underlying22 hi hz0 hz1 hz2 rfl (by decide) _ _ _ rfl HE.out ad n c (L.flatMap npC) rfl HL.out HNW.out HO.out (by unfold maxLen;omega) (by omega) (by simp) ?_)
  intro v8 w8 o8 g8 _;have HB8:Hid (w8.ownsRow w.heap.size 84 4 v8 n (L.flatMap npC)/\Below w.heap.size w w8):=by
   refine ⟨?_,(zah (Below.refl _ _) _).grown g8 (zah (Below.refl _ _) _).size (fun b e=>(HE.out.lt b e).1)⟩
   simpa using o8
  obtain ⟨q9,c9,rfl⟩:=zec HB8.out.1;clear o8 g8
  go_wp2_with fail
  go_ret
  exact ⟨q9,c9,rfl,HB8.out⟩
end Go.Proofs.YtmfakcfmkmppfaaGreatDoor.Nt
