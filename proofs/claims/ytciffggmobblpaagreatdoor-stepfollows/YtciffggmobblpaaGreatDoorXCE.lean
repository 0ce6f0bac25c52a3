import Derived.Test.YtciffggmobblpaaGreatDoorXBV
import Derived.Test.YtciffggmobblpaaGreatDoorXBZ
import Derived.Test.YtciffggmobblpaaGreatDoorXBR
namespace Go.Proofs.YtciffggmobblpaaGreatDoor.Nt
open Go.RowKit Go.Shelf
theorem info_intN:(Tryz.prog.info? 3).map (fun i=>(i.zero,i.size,i.bytes))=some (some (.int .i64 0),1,8):=by kernel_rfl
theorem pushI {W:World} {B:Nat} {p:Option Addr} {n n9 c:Nat} {L:List Int} (h:W.ownsRow B 3 1 (.slice p n c) n (inZ L)) (hB:B≤W.heap.size) (x:Int) (hn:n+1=n9) (hO:n9*8≤140737488355328) :
  ∃ q c9 W9,(Builtin.append_ #[38,38] 38 #[.slice p n c,.slice (some ⟨W.heap.size,0,none⟩) 1 1]).run Tryz.prog (W.alloc (.cells #[.int .i64 x] 3 (0,0)))=.ok (.slice q n9 c9) W9∧W9.ownsRow B 3 1 (.slice q n9 c9) n9 (inZ (L++[x]))∧Below B W W9∧(∀ b o,W.heap[b]?=some o→(Value.slice p n c).ownBlock≠some b→W9.heap[b]?=some o):=by
 subst hn
 obtain ⟨i0,hi,hz0,hz1,hz2⟩:=info_parts info_intN
 obtain ⟨q,c9,W9,hr,o9,b9,kp,-⟩:=pushR (W:=W) (TS:=38) (cs:=#[.int .i64 x]) Tryz.underlying38 hi hz0 hz1 hz2 rfl (by decide) h hB rfl (fun u hu=>by
  have hu:u=.int .i64 x:=by simpa using hu
  rw [hu]
  rfl) hO (by omega)
 refine ⟨q,c9,W9,hr,?_,b9,kp⟩
 have e:inZ (L++[x])=inZ L++[.int .i64 x]:=by simp [inZ]
 rw [e]
 simpa using o9
theorem own_li {W:World} {B n c:Nat} {p:Option Addr} {L:List Int} (h:W.ownsRow B 3 1 (.slice p n c) n (inZ L)) (hn:L.length=n):LI W p L:=fun k x hx=>by
 have hk:=(List.getElem?_eq_some_iff.1 hx).1
 obtain ⟨g,rfl⟩:=own_someZ h (by omega)
 exact ⟨g,0,rfl,by rw [Nat.zero_add];exact own_atZ h (by simp [inZ,hx])⟩
end Go.Proofs.YtciffggmobblpaaGreatDoor.Nt
namespace Go.Proofs.YtciffggmobblpaaGreatDoor.Nt
open Go.RowKit Go.Shelf
set_option maxRecDepth 100000 in
set_option maxHeartbeats 16000000 in
theorem copyInts_any (L:List Int) (p:Option Addr) (n c:Nat) (w:World) (hn:L.length=n) (hL:LI w p L) (hO:n*8≤140737488351232) :
  Calls Tryz.prog 17 #[.slice p n c] w fun e w'=>∃ q c9,e=.returned (.slice q n c9)∧w'.ownsRow w.heap.size 3 1 (.slice q n c9) n (inZ L)∧Below w.heap.size w w':=by
 have HN:Hid (L.length=n∧∀ U,Below w.heap.size w U→LI U p L):=⟨hn,fun U hU=>hL.below hU⟩
 have hn7:n≤17592186043904:=by omega
 clear hn hL hO
 go_enter Tryz.func17,Tryz.ntmps17
 go_wp2_with fail
 go_loopw [3,4] (fun v3 vk wr=>∃ (k:Nat) (q:Option Addr) (c9:Nat),v3=.slice q k c9∧vk=.int .i64 (k:Int)∧k≤n∧Hid (wr.ownsRow w.heap.size 3 1 (.slice q k c9) k (inZ (L.take k))∧Below w.heap.size w wr)) (fun _ vk _=>n - (intOf vk).toNat)
 case atStart=>exact ⟨0,none,0,rfl,rfl,Nat.zero_le _,World.ownsRow_nil _ _ _ _,Below.refl _ _⟩
 case round=>
  obtain ⟨k,q,c9,rfl,rfl,hk,HS⟩:=hrel
  by_cases hlt:k < n
  ·obtain ⟨x,hx⟩:∃ x,L[k]?=some x:=⟨_,List.getElem?_eq_getElem (by have:=HN.out.1;omega)⟩
   obtain ⟨g,o,rfl,a0⟩:=HN.out.2 wr HS.out.2 k x hx
   obtain ⟨k9,hk9⟩:∃ k9,k+1=k9:=⟨_,rfl⟩
   obtain ⟨q7,c7,W7,hr7,o7,b7,-⟩:=pushI HS.out.1 HS.out.2.size x hk9 (by omega)
   have HS9:Hid (W7.ownsRow w.heap.size 3 1 (.slice q7 k9 c7) k9 (inZ (L.take k9))∧Below w.heap.size w W7):=by
    rw [←hk9,List.take_add_one,hx]
    rw [←hk9] at o7
    exact ⟨o7,HS.out.2.trans b7⟩
   have HK9:=hideL hk9
   have j0:(0:Int)≤(k:Int):=by omega
   have j1:(k:Int) < (n:Int):=by omega
   clear hx o7 b7 hk9
   go_wp2_with (at_builtin;refine wpList_runZ rfl _ _ _ rfl rfl rfl hr7 ?_)
   clear hr7 a0
   go_wp2_with fail
   go_roundw
   case rel=>exact ⟨k9,q7,c7,rfl,by rw [←HK9.out];go_num,by have:=HK9.out;omega,HS9⟩
   case measure=>have:=HK9.out;simp [intOf];omega
  ·obtain rfl:k=n:=by omega
   have j1:¬(k:Int) < (k:Int):=by omega
   have HFIN:Hid (wr.ownsRow w.heap.size 3 1 (.slice q k c9) k (inZ L)∧Below w.heap.size w wr):=by
    have h9:=HS.out
    rw [List.take_of_length_le (by have:=HN.out.1;omega)] at h9
    exact h9
   go_wp2_with fail
   go_ret
   exact ⟨q,c9,rfl,HFIN.out.1,HFIN.out.2⟩
set_option maxRecDepth 100000 in
set_option maxHeartbeats 16000000 in
theorem kints_any (L:List Int) (p1 p2:Option Addr) (n c1 c2:Nat) (w:World) (hn:L.length=n) (h1:LI w p1 L) (h2:LI w p2 L) (hO:n≤140737488351232) :
  Calls Tryz.prog 20 #[.slice p1 n c1,.slice p2 n c2] w fun e w'=>e=.returned (.bool true)∧Below w.heap.size w w':=by
 have HN:Hid (L.length=n∧(∀ U,Below w.heap.size w U→LI U p1 L)∧∀ U,Below w.heap.size w U→LI U p2 L):=⟨hn,fun U hU=>h1.below hU,fun U hU=>h2.below hU⟩
 clear hn h1 h2
 go_enter Tryz.func20,Tryz.ntmps20
 go_wp2_with fail
 go_loopw [5] (fun vk wr=>∃ k:Nat,vk=.int .i64 (k:Int)∧k≤n∧Hid (Below w.heap.size w wr)) (fun vk _=>n - (intOf vk).toNat)
 case atStart=>exact ⟨0,rfl,Nat.zero_le _,Below.refl _ _⟩
 case round=>
  obtain ⟨k,rfl,hk,HB⟩:=hrel
  by_cases hlt:k < n
  ·obtain ⟨x,hx⟩:∃ x,L[k]?=some x:=⟨_,List.getElem?_eq_getElem (by have:=HN.out.1;omega)⟩
   obtain ⟨g1,o1,rfl,a0⟩:=HN.out.2.1 wr HB.out k x hx
   obtain ⟨g2,o2,rfl,b0⟩:=HN.out.2.2 wr HB.out k x hx
   have j0:(0:Int)≤(k:Int):=by omega
   have j1:(k:Int) < (n:Int):=by omega
   clear hx
   go_wp2_with fail
   go_quiet (fail)
   go_wp2_with fail
   go_roundw
   case rel=>exact ⟨k+1,by go_num,by omega,bel_drewZ nq HB.out⟩
   case measure=>simp [intOf];omega
  ·obtain rfl:k=n:=by omega
   have j1:¬(k:Int) < (k:Int):=by omega
   go_wp2_with fail
   go_ret
   exact ⟨rfl,HB.out⟩
set_option maxRecDepth 100000 in
set_option maxHeartbeats 24000000 in
theorem stepFollows_walk (n:NN) (v:NV) (s9:Int×List UInt8) (Q:List Int) (qp:Option Addr) (m cq:Nat) (w:World) (hN:LN w n v) (hO:okN n) (hh:okS s9.2) (hm:Q.length=m) (_hmc:m≤cq) (hQ:LI w qp Q) (hOQ:okI Q) (hT:TAB w) :
  Calls Tryz.prog 5 #[.agg (nnA n v),.agg #[.int .i64 s9.1,.string ⟨s9.2.toArray⟩],.slice qp m cq] w fun e w'=>e=.returned (.bool true)∧Below w.heap.size w w':=by
 obtain ⟨p,h⟩:=s9
 simp only at hh ⊢
 obtain ⟨pp,cp,pt,ct,pg,cg⟩:=v
 obtain ⟨np,hnp⟩:∃ np,n.ports.length=np:=⟨_,rfl⟩
 obtain ⟨nt,hnt⟩:∃ nt,n.tabs.length=nt:=⟨_,rfl⟩
 obtain ⟨ng,hng⟩:∃ ng,n.grds.length=ng:=⟨_,rfl⟩
 obtain ⟨bits,hbits⟩:∃ bits,n.bits=bits:=⟨_,rfl⟩
 obtain ⟨rh,ri,re,hre⟩:∃ rh ri re,flwM n (p,h) Q=(rh,ri,re):=⟨_,_,_,rfl⟩
 have hm8:m*8≤140737488351232:=by unfold okI at hOQ;omega
 have hE:∀ p1 c1 p2 c2 p3 c3,nnA n ⟨p1,c1,p2,c2,p3,c3⟩=#[.int .i64 bits,.slice p1 np c1,.slice p2 nt c2,.slice p3 ng c3]:=fun p1 c1 p2 c2 p3 c3=>by unfold nnA;rw [hnp,hnt,hng,hbits]
 rw [hE]
 have hA9:(asC (p,h)).toArray=#[.int .i64 p,.string ⟨h.toArray⟩]:=rfl
 obtain ⟨B,hB⟩:∃ B,w.heap.size=B:=⟨_,rfl⟩
 obtain ⟨b2,hb2⟩:∃ b2,w.heap.size+1=b2:=⟨_,rfl⟩
 obtain ⟨W1,hW1⟩:∃ W1,(w.alloc (.cells #[.int .i64 bits,.slice pp np cp,.slice pt nt ct,.slice pg ng cg] 26)).alloc (.cells #[.int .i64 p,.string ⟨h.toArray⟩] 28)=W1:=⟨_,rfl⟩
 have hz2:(w.alloc (.cells #[.int .i64 bits,.slice pp np cp,.slice pt nt ct,.slice pg ng cg] 26)).heap.size=w.heap.size+1:=Array.size_push _
 have b1:Below w.heap.size w W1:=by rw [←hW1];exact belAZ (belAZ (Below.refl _ _) _) _
 have k1:W1.heap[B]?=some (.cells #[.int .i64 bits,.slice pp np cp,.slice pt nt ct,.slice pg ng cg] 26 (0,0)):=by rw [←hW1,←hB];exact keepZ (belAZ (Below.refl _ _) _) (alloc_getZ _ _)
 have k2:W1.heap[b2]?=some (.cells #[.int .i64 p,.string ⟨h.toArray⟩] 28 (0,0)):=by rw [←hW1,←hb2,←hz2];exact alloc_getZ _ _
 have HC:Hid (∀ U,Below W1.heap.size W1 U→(U.cell? ⟨B,0,none⟩=some (.int .i64 bits)∧U.cell? ⟨B,1,none⟩=some (.slice pp np cp)∧U.cell? ⟨B,2,none⟩=some (.slice pt nt ct)∧U.cell? ⟨B,3,none⟩=some (.slice pg ng cg))∧(U.cell? ⟨b2,0,none⟩=some (.int .i64 p)∧U.cell? ⟨b2,1,none⟩=some (.string ⟨h.toArray⟩))):=fun U hU=>by
  have e1:=(cellsZ (keepZ hU k1)).1
  have e2:=(cellsZ (keepZ hU k2)).1
  exact ⟨⟨by rw [e1];rfl,by rw [e1];rfl,by rw [e1];rfl,by rw [e1];rfl⟩,⟨by rw [e2];rfl,by rw [e2];rfl⟩⟩
 have HRM:Hid (∀ U,Below W1.heap.size W1 U→Calls Tryz.prog 14 #[.agg #[.int .i64 bits,.slice pp np cp,.slice pt nt ct,.slice pg ng cg]] U fun e w'=>∃ p1 c1 p2 c2 p3 c3 r1 d1 r2 d2 r3 d3,e=.returned (.tuple #[.agg #[.int .i64 bits,.slice p1 np c1,.slice p2 nt c2,.slice p3 ng c3],.agg #[.int .i64 bits,.slice r1 np d1,.slice r2 nt d2,.slice r3 ng d3]])∧(GVN w' n ⟨p1,c1,p2,c2,p3,c3⟩∧KPN w' n ⟨r1,d1,r2,d2,r3,d3⟩)∧Below U.heap.size U w'):=fun U hU=>by
  have h:=roomy_any n ⟨pp,cp,pt,ct,pg,cg⟩ U (hN.below (bel0Z b1 hU)) hO
  rw [hE] at h
  refine h.mono ?_
  rintro e w' ⟨⟨p1,c1,p2,c2,p3,c3⟩,⟨q1,d1,q2,d2,q3,d3⟩,he,hg,hk,hb⟩
  rw [hE,hE] at he
  exact ⟨p1,c1,p2,c2,p3,c3,q1,d1,q2,d2,q3,d3,he,⟨hg,hk⟩,hb⟩
 have HVG:Hid (∀ U p1 c1 p2 c2 p3 c3 q c9,Below W1.heap.size W1 U→GVN U n ⟨p1,c1,p2,c2,p3,c3⟩→LI U q Q→m≤c9→Calls Tryz.prog 19 #[.agg #[.int .i64 bits,.slice p1 np c1,.slice p2 nt c2,.slice p3 ng c3],.agg #[.int .i64 p,.string ⟨h.toArray⟩],.slice q m c9] U fun e w'=>e=.returned (.tuple #[.string ⟨rh.toArray⟩,.int .i64 ri,.int .i64 re])∧Below U.heap.size U w'):=fun U p1 c1 p2 c2 p3 c3 q c9 hU hg hq hc9=>by
  have h9:=sfollow_any n ⟨p1,c1,p2,c2,p3,c3⟩ p h Q q m c9 U hg.ln hO (hT.at (bel0Z b1 hU)) hh hm hq hc9 (by omega)
  rw [hE,hA9,hre] at h9
  exact h9
 have HVD:Hid (∀ U q c9,Below W1.heap.size W1 U→LI U q Q→Calls Tryz.prog 18 #[.agg #[.int .i64 bits,.slice pp np cp,.slice pt nt ct,.slice pg ng cg],.agg #[.int .i64 p,.string ⟨h.toArray⟩],.slice q m c9] U fun e w'=>e=.returned (.tuple #[.string ⟨rh.toArray⟩,.int .i64 ri,.int .i64 re])∧Below U.heap.size U w'):=fun U q c9 hU hq=>by
  have h9:=dfollow_any n ⟨pp,cp,pt,ct,pg,cg⟩ p h Q q m c9 U (hN.below (bel0Z b1 hU)) hO hh hm hq (by omega)
  rw [hE,hA9,hre] at h9
  exact h9
 have HCP:Hid (∀ U,Below W1.heap.size W1 U→Calls Tryz.prog 17 #[.slice qp m cq] U fun e w'=>∃ q c9,e=.returned (.slice q m c9)∧w'.ownsRow U.heap.size 3 1 (.slice q m c9) m (inZ Q)∧Below U.heap.size U w'):=fun U hU=>copyInts_any Q qp m cq U hm (hQ.below (bel0Z b1 hU)) hm8
 have HEQ:Hid (∀ (U:World) p q c1 c2,LI U p Q→LI U q Q→Calls Tryz.prog 20 #[.slice p m c1,.slice q m c2] U fun e w'=>e=.returned (.bool true)∧Below U.heap.size U w'):=fun U p q c1 c2 h1 h2=>kints_any Q p q m c1 c2 U hm h1 h2 (by omega)
 have HKN:Hid (∀ U,Below W1.heap.size W1 U→Calls Tryz.prog 8 #[] U fun e w'=>e=.returned (.bool true)∧Below U.heap.size U w'):=fun U hU=>known_any U (hT.at (bel0Z b1 hU))
 have HMK:Hid (∀ U p1 c1 p2 c2 p3 c3 r1 d1 r2 d2 r3 d3,Below W1.heap.size W1 U→GVN U n ⟨p1,c1,p2,c2,p3,c3⟩→KPN U n ⟨r1,d1,r2,d2,r3,d3⟩→Calls Tryz.prog 16 #[.agg #[.int .i64 bits,.slice p1 np c1,.slice p2 nt c2,.slice p3 ng c3],.agg #[.int .i64 bits,.slice r1 np d1,.slice r2 nt d2,.slice r3 ng d3],.agg #[.int .i64 bits,.slice pp np cp,.slice pt nt ct,.slice pg ng cg]] U fun e w'=>e=.returned (.bool true)∧Below U.heap.size U w'):=fun U p1 c1 p2 c2 p3 c3 q1 d1 q2 d2 q3 d3 hU hg hk=>by
  have h:=marked_any n ⟨p1,c1,p2,c2,p3,c3⟩ ⟨q1,d1,q2,d2,q3,d3⟩ ⟨pp,cp,pt,ct,pg,cg⟩ U hg hk (hN.below (bel0Z b1 hU)) hO
  rw [hE,hE,hE] at h
  exact h
 have HF:Hid (∀ U,Below W1.heap.size W1 U→Below w.heap.size w U):=fun U hU=>bel0Z b1 hU
 have HQL:Hid (Q.length=m∧m*8≤140737488351232):=⟨hm,hm8⟩
 have hm7:m≤17592186043904:=by omega
 have HB1:=hideL hB
 have HB2:=hideL hb2
 have HW:=hideL hW1
 clear hre hnp hnt hng hbits hE hA9 hB hb2 hW1 hz2 b1 k1 k2 hN hO hT hh hm _hmc hQ hOQ hm8
 obtain ⟨⟨q0,q1,q2,q3⟩,⟨t0,t1⟩⟩:=HC.out W1 (Below.refl _ _)
 go_enter Tryz.func5,Tryz.ntmps5
 go_upto_region 1 with fail
 rw [HW.out,HB2.out,HB1.out]
 go_wp2_with fail
 refine (HRM.out W1 (Below.refl _ _)).mono ?_
 rintro e W4 ⟨p1,c1,p2,c2,p3,c3,r1,d1,r2,d2,r3,d3,rfl,hGK,c4⟩
 clear q0 q1 q2 q3 t0 t1
 obtain ⟨X,hX⟩:∃ X,W4.heap.size=X:=⟨_,rfl⟩
 obtain ⟨Y,hY⟩:∃ Y,W4.heap.size+1=Y:=⟨_,rfl⟩
 obtain ⟨W5,hW5⟩:∃ W,(W4.alloc (.cells #[.int .i64 bits,.slice p1 np c1,.slice p2 nt c2,.slice p3 ng c3] 26)).alloc (.cells #[.int .i64 bits,.slice r1 np d1,.slice r2 nt d2,.slice r3 ng d3] 26)=W:=⟨_,rfl⟩
 have b5:Below W4.heap.size W4 W5:=by rw [←hW5];exact belAZ (belAZ (Below.refl _ _) _) _
 have kX:W5.heap[X]?=some (.cells #[.int .i64 bits,.slice p1 np c1,.slice p2 nt c2,.slice p3 ng c3] 26 (0,0)):=by rw [←hW5,←hX];exact keepZ (belAZ (Below.refl _ _) _) (alloc_getZ _ _)
 have kY:W5.heap[Y]?=some (.cells #[.int .i64 bits,.slice r1 np d1,.slice r2 nt d2,.slice r3 ng d3] 26 (0,0)):=by
  rw [←hW5,←hY,show W4.heap.size+1=(W4.alloc (.cells #[.int .i64 bits,.slice p1 np c1,.slice p2 nt c2,.slice p3 ng c3] 26)).heap.size from (Array.size_push _).symm]
  exact alloc_getZ _ _
 have c5:=bel0Z c4 b5
 have HD:Hid (∀ U,Below W5.heap.size W5 U→((U.cell? ⟨B,0,none⟩=some (.int .i64 bits)∧U.cell? ⟨B,1,none⟩=some (.slice pp np cp)∧U.cell? ⟨B,2,none⟩=some (.slice pt nt ct)∧U.cell? ⟨B,3,none⟩=some (.slice pg ng cg))∧(U.cell? ⟨b2,0,none⟩=some (.int .i64 p)∧U.cell? ⟨b2,1,none⟩=some (.string ⟨h.toArray⟩)))∧(U.cell? ⟨X,0,none⟩=some (.int .i64 bits)∧U.cell? ⟨X,1,none⟩=some (.slice p1 np c1)∧U.cell? ⟨X,2,none⟩=some (.slice p2 nt c2)∧U.cell? ⟨X,3,none⟩=some (.slice p3 ng c3))∧(U.cell? ⟨Y,0,none⟩=some (.int .i64 bits)∧U.cell? ⟨Y,1,none⟩=some (.slice r1 np d1)∧U.cell? ⟨Y,2,none⟩=some (.slice r2 nt d2)∧U.cell? ⟨Y,3,none⟩=some (.slice r3 ng d3))∧Below W1.heap.size W1 U∧GVN U n ⟨p1,c1,p2,c2,p3,c3⟩∧KPN U n ⟨r1,d1,r2,d2,r3,d3⟩):=fun U hU=>by
  have e1:=(cellsZ (keepZ hU kX)).1
  have e2:=(cellsZ (keepZ hU kY)).1
  exact ⟨HC.out U (bel0Z c5 hU),⟨by rw [e1];rfl,by rw [e1];rfl,by rw [e1];rfl,by rw [e1];rfl⟩,⟨by rw [e2];rfl,by rw [e2];rfl,by rw [e2];rfl,by rw [e2];rfl⟩,bel0Z c5 hU,hGK.1.below (bel0Z b5 hU),hGK.2.below (bel0Z b5 hU)⟩
 have HW5:=hideL hW5
 have HX:=hideL hX
 have HY:=hideL hY
 clear hW5 hX hY b5 kX kY c5 c4 hGK
 go_upto_region 2 with fail
 rw [HW5.out,HY.out,HX.out]
 go_wp2_with fail
 refine (HCP.out W5 (HD.out W5 (Below.refl _ _)).2.2.2.1).mono ?_
 rintro e W6 ⟨qa,ca,rfl,oa,b6⟩
 have hla:LI W6 qa Q:=own_li oa HQL.out.1
 have HLA:Hid (∀ U,Below W6.heap.size W6 U→LI U qa Q):=fun U hU=>hla.below hU
 obtain ⟨⟨⟨q0,q1,q2,q3⟩,⟨t0,t1⟩⟩,-,-,e5,-,-⟩:=HD.out W6 b6
 clear oa hla
 go_upto_region 3 with fail
 go_wp2_with fail
 refine (HVD.out W6 qa ca e5 (HLA.out W6 (Below.refl _ _))).mono ?_
 rintro e W7 ⟨rfl,b7⟩
 have b67:=bel0Z b6 b7
 have HB7:Hid (Below W5.heap.size W5 W7∧Below W6.heap.size W6 W7):=⟨b67,b7⟩
 clear q0 q1 q2 q3 t0 t1 e5 b6 b7 b67
 go_upto_region 4 with fail
 go_wp2_with fail
 refine (HCP.out W7 (HD.out W7 HB7.out.1).2.2.2.1).mono ?_
 rintro e W8 ⟨qb,cb,rfl,ob,b8⟩
 obtain ⟨m9,hm9⟩:∃ m9,m+1=m9:=⟨_,rfl⟩
 obtain ⟨q9,c9,W9,hr9,o9,b9,-⟩:=pushI ob b8.size 7777 hm9 (by have:=HQL.out.2;omega)
 have hb79:Below W7.heap.size W7 W9:=b8.trans b9
 have hl9:LI W9 q9 (Q++[7777]):=own_li o9 (by rw [List.length_append,HQL.out.1,List.length_singleton,hm9])
 obtain ⟨g9,og9,hq9⟩:∃ g o,q9=some ⟨g,o,none⟩:=by
  obtain ⟨g,o,e,-⟩:=hl9 m 7777 (by rw [List.getElem?_append_right (by rw [HQL.out.1];exact Nat.le_refl _),HQL.out.1,Nat.sub_self];rfl)
  exact ⟨g,o,e⟩
 subst hq9
 have hcap:m9≤c9:=by
  rcases o9.2 with hv | ⟨g,cap,cur,hv,h1,h2,h3,-⟩
  ·cases hv.1
  ·have hv2:Value.slice (some ⟨g9,og9,none⟩) m9 c9=.slice (some ⟨g,0,none⟩) m9 cap:=hv
   injection hv2 with e1 e2 e3
   rw [e3]
   first | exact h3 | exact h2 | omega
 have hl10:LI W9 (some ⟨g9,og9,none⟩) Q:=fun k x hx=>hl9 k x (by rw [List.getElem?_append_left (List.getElem?_eq_some_iff.1 hx).1];exact hx)
 have hl11:W9.cell? ⟨g9,og9+m,none⟩=some (.int .i64 7777):=by
  obtain ⟨g,o,e,h9⟩:=hl9 m 7777 (by rw [List.getElem?_append_right (by rw [HQL.out.1];exact Nat.le_refl _),HQL.out.1,Nat.sub_self];rfl)
  simp only [Option.some.injEq,Addr.mk.injEq] at e
  obtain ⟨rfl,rfl,-⟩:=e
  exact h9
 have HE:Hid (∀ U,Below W9.heap.size W9 U→Below W5.heap.size W5 U∧LI U qa Q∧LI U (some ⟨g9,og9,none⟩) Q∧U.cell? ⟨g9,og9+m,none⟩=some (.int .i64 7777)):=fun U hU=>⟨bel0Z HB7.out.1 (bel0Z hb79 hU),HLA.out U (bel0Z HB7.out.2 (bel0Z hb79 hU)),hl10.below hU,keepC hU hl11⟩
 have hc9:m≤c9:=by omega
 have hm79:m < m9:=by omega
 have j1:(m:Int) < (m9:Int):=by omega
 have j2:(m:Int)≤(c9:Int):=by omega
 have j0:(0:Int)≤(m:Int):=by omega
 clear ob b8 hm9 o9 b9 hb79 hl9 hcap hl10 hl11
 go_upto_region 5 with (at_builtin;refine wpList_runZ rfl _ _ _ rfl rfl rfl hr9 ?_)
 clear hr9
 have hs0:(W9.drew.cell? ⟨X,0,none⟩=some (.int .i64 bits)∧W9.drew.cell? ⟨X,1,none⟩=some (.slice p1 np c1)∧W9.drew.cell? ⟨X,2,none⟩=some (.slice p2 nt c2)∧W9.drew.cell? ⟨X,3,none⟩=some (.slice p3 ng c3))∧(W9.drew.cell? ⟨b2,0,none⟩=some (.int .i64 p)∧W9.drew.cell? ⟨b2,1,none⟩=some (.string ⟨h.toArray⟩)):=by
  obtain ⟨⟨-,h1⟩,h2,-,-,-,-⟩:=HD.out W9.drew (HE.out W9.drew (Below.refl _ _).drew).1
  exact ⟨h2,h1⟩
 have HS5:Hid (∀ U,Below W9.heap.size W9 U→(U.cell? ⟨X,0,none⟩=some (.int .i64 bits)∧U.cell? ⟨X,1,none⟩=some (.slice p1 np c1)∧U.cell? ⟨X,2,none⟩=some (.slice p2 nt c2)∧U.cell? ⟨X,3,none⟩=some (.slice p3 ng c3))∧(U.cell? ⟨b2,0,none⟩=some (.int .i64 p)∧U.cell? ⟨b2,1,none⟩=some (.string ⟨h.toArray⟩))):=fun U hU=>by
  obtain ⟨⟨-,h1⟩,h2,-,-,-,-⟩:=HD.out U (HE.out U hU).1
  exact ⟨h2,h1⟩
 have HFO:Hid (Calls Tryz.prog 19 #[.agg #[.int .i64 bits,.slice p1 np c1,.slice p2 nt c2,.slice p3 ng c3],.agg #[.int .i64 p,.string ⟨h.toArray⟩],.slice (some ⟨g9,og9,none⟩) m c9] W9.drew fun e w'=>e=.returned (.tuple #[.string ⟨rh.toArray⟩,.int .i64 ri,.int .i64 re])∧Below W9.drew.heap.size W9.drew w'):=by
  have h1:=HE.out W9.drew (Below.refl _ _).drew
  obtain ⟨-,-,-,h2,h3,-⟩:=HD.out W9.drew h1.1
  exact HVG.out W9.drew _ _ _ _ _ _ _ _ h2 h3 h1.2.2.1 hc9
 refine wp_region_held_drew (S:=fun U=>(U.cell? ⟨X,0,none⟩=some (.int .i64 bits)∧U.cell? ⟨X,1,none⟩=some (.slice p1 np c1)∧U.cell? ⟨X,2,none⟩=some (.slice p2 nt c2)∧U.cell? ⟨X,3,none⟩=some (.slice p3 ng c3))∧(U.cell? ⟨b2,0,none⟩=some (.int .i64 p)∧U.cell? ⟨b2,1,none⟩=some (.string ⟨h.toArray⟩))) (by kernel_rfl) hs0 (fun _=>?_)
 refine wpAnyH_take (i:=0) (v:=.agg #[.int .i64 bits,.slice p1 np c1,.slice p2 nt c2,.slice p3 ng c3]) rfl (by kernel_rfl) (by kernel_rfl) (by kernel_rfl) (fun _ _ _ h=>h) (Or.inl ⟨by rfl,?_⟩) hs0 ?_
 ·rintro w ⟨⟨s0,s1,s2,s3⟩,⟨t0,t1⟩⟩;go_simp
 refine wpAnyH_take (i:=1) (v:=.agg #[.int .i64 p,.string ⟨h.toArray⟩]) rfl (by kernel_rfl) (by kernel_rfl) (by kernel_rfl) (fun _ _ _ h=>h) (Or.inl ⟨by rfl,?_⟩) hs0 ?_
 ·rintro w ⟨⟨s0,s1,s2,s3⟩,⟨t0,t1⟩⟩;go_simp
 refine wpAnyH_take (i:=2) (v:=.slice (some ⟨g9,og9,none⟩) m9 c9) rfl (by kernel_rfl) (by kernel_rfl) (by kernel_rfl) (fun _ _ _ h=>h) (Or.inl ⟨by rfl,?_⟩) hs0 ?_
 ·rintro w ⟨⟨s0,s1,s2,s3⟩,⟨t0,t1⟩⟩;go_simp
 refine wpAnyH_take (i:=3) (v:=.slice qp m cq) rfl (by kernel_rfl) (by kernel_rfl) (by kernel_rfl) (fun _ _ _ h=>h) (Or.inl ⟨by rfl,?_⟩) hs0 ?_
 ·rintro w ⟨⟨s0,s1,s2,s3⟩,⟨t0,t1⟩⟩;go_simp
 refine wpAnyH_take (i:=4) (v:=.int .i64 (m:Int)) rfl (by kernel_rfl) (by kernel_rfl) (by kernel_rfl) (fun _ _ _ h=>h) (Or.inl ⟨by rfl,?_⟩) hs0 ?_
 ·rintro w ⟨⟨s0,s1,s2,s3⟩,⟨t0,t1⟩⟩;go_simp
 refine wpAnyH_take (i:=5) (v:=.slice (some ⟨g9,og9,none⟩) m c9) rfl (by kernel_rfl) (by kernel_rfl) (by kernel_rfl) (fun _ _ _ h=>h) (Or.inl ⟨by rfl,?_⟩) hs0 ?_
 ·rintro w ⟨⟨s0,s1,s2,s3⟩,⟨t0,t1⟩⟩;go_simp
 refine wpAnyH_ready (rs:=[6]) (by kernel_rfl) (by simp) ?_
 refine AllReadyH.cons rfl (fun KK hKK=>?_) AllReadyH.nil
 go_simp
 refine (HFO.out).mono ?_
 rintro en WA ⟨rfl,bA⟩
 have cA:Below W9.heap.size W9 WA:=bel0Z (Below.refl _ _).drew bA
 have hsA:=HS5.out WA cA
 clear bA
 go_simp
 refine hKK.out _ _ hsA (fun _=>?_)
 clear hKK KK
 refine wpAnyH_take (i:=7) (v:=.tuple #[.string ⟨rh.toArray⟩,.int .i64 ri,.int .i64 re]) rfl (by kernel_rfl) (by kernel_rfl) (by kernel_rfl) (fun _ _ _ h=>h) (Or.inl ⟨by rfl,?_⟩) hsA ?_
 ·rintro w ⟨⟨s0,s1,s2,s3⟩,⟨t0,t1⟩⟩;go_simp
 refine wpAnyH_take (i:=8) (v:=.string ⟨rh.toArray⟩) rfl (by kernel_rfl) (by kernel_rfl) (by kernel_rfl) (fun _ _ _ h=>h) (Or.inl ⟨by rfl,?_⟩) hsA ?_
 ·rintro w ⟨⟨s0,s1,s2,s3⟩,⟨t0,t1⟩⟩;go_simp
 refine wpAnyH_take (i:=9) (v:=.int .i64 ri) rfl (by kernel_rfl) (by kernel_rfl) (by kernel_rfl) (fun _ _ _ h=>h) (Or.inl ⟨by rfl,?_⟩) hsA ?_
 ·rintro w ⟨⟨s0,s1,s2,s3⟩,⟨t0,t1⟩⟩;go_simp
 refine wpAnyH_take (i:=10) (v:=.int .i64 re) rfl (by kernel_rfl) (by kernel_rfl) (by kernel_rfl) (fun _ _ _ h=>h) (Or.inl ⟨by rfl,?_⟩) hsA ?_
 ·rintro w ⟨⟨s0,s1,s2,s3⟩,⟨t0,t1⟩⟩;go_simp
 refine wpAnyH_take (i:=11) (v:=.string ⟨rh.toArray⟩) rfl (by kernel_rfl) (by kernel_rfl) (by kernel_rfl) (fun _ _ _ h=>h) (Or.inl ⟨by rfl,?_⟩) hsA ?_
 ·rintro w ⟨⟨s0,s1,s2,s3⟩,⟨t0,t1⟩⟩;go_simp
 refine wpAnyH_take (i:=12) (v:=.int .i64 ri) rfl (by kernel_rfl) (by kernel_rfl) (by kernel_rfl) (fun _ _ _ h=>h) (Or.inl ⟨by rfl,?_⟩) hsA ?_
 ·rintro w ⟨⟨s0,s1,s2,s3⟩,⟨t0,t1⟩⟩;go_simp
 refine wpAnyH_take (i:=13) (v:=.int .i64 re) rfl (by kernel_rfl) (by kernel_rfl) (by kernel_rfl) (fun _ _ _ h=>h) (Or.inl ⟨by rfl,?_⟩) hsA ?_
 ·rintro w ⟨⟨s0,s1,s2,s3⟩,⟨t0,t1⟩⟩;go_simp
 refine wpAnyH_done (by kernel_rfl) ?_ _
 try simp only [List.getElem_toArray,List.getElem_cons_succ,List.getElem_cons_zero,Act.put,List.setIfInBounds_toArray,List.set_cons_zero,List.set_cons_succ]
 clear hs0 hsA
 have HEA:=hideL (HE.out WA cA)
 obtain ⟨⟨⟨q0,q1,q2,q3⟩,⟨t0,t1⟩⟩,⟨s0,s1,s2,s3⟩,⟨y0,y1,y2,y3⟩,e5,g5,k5⟩:=HD.out WA HEA.out.1
 have HCA:=hideL cA
 clear cA
 go_wp2_with fail
 refine (num_any re WA).mono ?_
 rintro e WB ⟨rfl,hw⟩
 obtain rfl:WA=WB:=hw.symm
 clear hw
 go_wp2_with fail
 refine (HMK.out WA _ _ _ _ _ _ _ _ _ _ _ _ e5 g5 k5).mono ?_
 rintro e WC ⟨rfl,bC⟩
 have HEC:=hideL (HE.out WC (bel0Z HCA.out bC))
 have HCC:=hideL (bel0Z HCA.out bC)
 clear q0 q1 q2 q3 t0 t1 s0 s1 s2 s3 y0 y1 y2 y3 e5 g5 k5 bC
 go_wp2_with fail
 refine (HEQ.out WC _ _ _ _ HEC.out.2.2.1 HEC.out.2.1).mono ?_
 rintro e WE ⟨rfl,bE⟩
 have HEE:=hideL (HE.out WE (bel0Z HCC.out bE))
 clear bE
 have v7:=HEE.out.2.2.2
 have hKN:=hideL (HKN.out WE (HD.out WE HEE.out.1).2.2.2.1)
 go_wp2_with fail
 refine (hKN.out).mono ?_
 rintro e WF ⟨rfl,bF⟩
 have HFF:=hideL (HF.out WF (bel0Z (HD.out WE HEE.out.1).2.2.2.1 bF))
 clear bF v7
 go_wp2_with fail
 go_ret
 exact ⟨rfl,HFF.out⟩
end Go.Proofs.YtciffggmobblpaaGreatDoor.Nt
