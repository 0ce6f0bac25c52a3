import Derived.Test.YtbplhianpelmfaaGreatDoorXBR
import Derived.Test.YtbplhianpelmfaaGreatDoorXBS
namespace Go.Proofs.YtbplhianpelmfaaGreatDoor.Nt
open Go.RowKit Go.Shelf
theorem pushK {W:World} {B:Nat} {p:Option Addr} {n n9 c:Nat} {L:List Int} (x:Int) (h:W.ownsRow B 3 1 (.slice p n c) n (inZ L)) (hB:B≤W.heap.size) (hn:n+1=n9) (hO:n9*8≤140737488355328) :
  ∃ q c9 W9,(Builtin.append_ #[38,38] 38 #[.slice p n c,.slice (some ⟨W.heap.size,0,none⟩) 1 1]).run Tryz.prog (W.alloc (.cells #[.int .i64 x] 3 (0,0)))=.ok (.slice q n9 c9) W9∧W9.ownsRow B 3 1 (.slice q n9 c9) n9 (inZ (L++[x]))∧Below B W W9:=by
 subst hn
 obtain ⟨i0,hi,hz0,hz1,hz2⟩:=info_parts info_rints
 obtain ⟨q,c9,W9,hr,o9,b9,-,-⟩:=pushR9 (W:=W) (TS:=38) (cs:=#[.int .i64 x]) Tryz.underlying38 hi hz0 hz1 hz2 rfl (by decide) h hB rfl (by intro u hu;simp at hu;subst hu;rfl) hO (by omega)
 refine ⟨q,c9,W9,hr,?_,b9⟩
 rw [inZ_app]
 exact o9
theorem LI.set {W:World} {g n:Nat} {L:List Int} {cs:Array Value} (h:LI W (some ⟨g,0,none⟩) L) (hb:W.heap[g]?=some (.cells cs 3 (0,0))) {k:Nat} (hk:k < L.length) (x:Int) (_hn:L.length=n):LI (W.setCell ⟨g,k,none⟩ (.int .i64 x)) (some ⟨g,0,none⟩) (L.set k x):=fun j y hy=>by
 have hs:=(cellsZ (set_getZ (j:=k) (.int .i64 x) hb)).1
 have ho:=(cellsZ hb).1
 refine ⟨g,0,rfl,?_⟩
 rw [hs,Nat.zero_add]
 have hc:∀ i z,L[i]?=some z→cs[i]?=some (Value.int .i64 z):=fun i z hz=>by
  obtain ⟨g9,o9,e,h9⟩:=h i z hz
  simp only [Option.some.injEq,Addr.mk.injEq] at e
  obtain ⟨rfl,rfl,-⟩:=e
  rw [ho,Nat.zero_add] at h9
  exact h9
 by_cases hjk:j=k
 ·subst hjk
  have e1:y=x:=by
   rw [List.getElem?_set_self hk] at hy
   exact (Option.some.inj hy).symm
  subst e1
  have hsz:j < cs.size:=by
   have:=hc j _ (List.getElem?_eq_getElem hk)
   exact (Array.getElem?_eq_some_iff.1 this).1
  rw [Array.getElem?_setIfInBounds_self_of_lt hsz]
 ·rw [List.getElem?_set_ne (fun e=>hjk e.symm)] at hy
  rw [Array.getElem?_setIfInBounds_ne (fun e=>hjk e.symm)]
  exact hc j y hy
theorem LI.take {W:World} {p:Option Addr} {L:List Int} (h:LI W p L) (k:Nat):LI W p (L.take k):=fun j y hy=>h j y (by
 rw [List.getElem?_take] at hy
 split at hy
 ·exact hy
 ·cases hy)
def wiM (k most:Int):Int:=if k < 0 then 0 else if k > most then most else k
theorem within_any (k most:Int) (w:World):Calls Tryz.prog 17 #[.int .i64 k,.int .i64 most] w fun e w'=>e=.returned (.int .i64 (wiM k most))∧w'=w:=by
 unfold wiM
 by_cases j1:k < 0
 ·rw [if_pos j1]
  go_enter Tryz.func17,Tryz.ntmps17
  go_wp2_with fail
  go_ret
  exact ⟨rfl,rfl⟩
 ·rw [if_neg j1]
  by_cases j2:k > most
  ·rw [if_pos j2]
   go_enter Tryz.func17,Tryz.ntmps17
   go_wp2_with fail
   go_ret
   exact ⟨rfl,rfl⟩
  ·rw [if_neg j2]
   go_enter Tryz.func17,Tryz.ntmps17
   go_wp2_with fail
   go_ret
   exact ⟨rfl,rfl⟩
set_option maxRecDepth 100000 in
set_option maxHeartbeats 16000000 in
theorem stepOff_walk (n:NN) (v:NV) (s9:Int×List UInt8) (hops at9 port:Int) (w:World) (hN:LN w n v) (hO:okN n) (hh:okS s9.2) (hT:TAB w) :
  Calls Tryz.prog 4 #[.agg (nnA n v),.agg #[.int .i64 s9.1,.string ⟨s9.2.toArray⟩],.int .i64 hops,.int .i64 at9,.int .i64 port] w fun e w'=>e=.returned (.bool true)∧Below w.heap.size w w':=by
 have hsm:=fun (U:World) (hU:Below w.heap.size w U)=>some_any n v s9 hops 1 U (hN.below hU) hO (hT.at hU) hh (by omega)
 have hfo:=fun (Q:List Int) (qp:Option Addr) (m c:Nat) (U:World) (hU:Below w.heap.size w U) (hm:Q.length=m) (hQ:LI U qp Q) (hc:m≤c) (hM:m≤140737488351232)=>sfollow_any n v s9.1 s9.2 Q qp m c U (hN.below hU) hO (hT.at hU) hh hm hQ hc hM
 have hkn:=fun (U:World) (hU:Below w.heap.size w U)=>known_any U (hT.at hU)
 obtain ⟨p,h⟩:=s9
 simp only at hfo hh ⊢
 rw [show (asC (p,h)).toArray=#[.int .i64 p,.string ⟨h.toArray⟩] from rfl] at hfo
 obtain ⟨pp,cp,pt,ct,pg,cg⟩:=v
 obtain ⟨np,hnp⟩:∃ np,n.ports.length=np:=⟨_,rfl⟩
 obtain ⟨nt,hnt⟩:∃ nt,n.tabs.length=nt:=⟨_,rfl⟩
 obtain ⟨ng,hng⟩:∃ ng,n.grds.length=ng:=⟨_,rfl⟩
 obtain ⟨bits,hbits⟩:∃ bits,n.bits=bits:=⟨_,rfl⟩
 have hE:nnA n ⟨pp,cp,pt,ct,pg,cg⟩=#[.int .i64 bits,.slice pp np cp,.slice pt nt ct,.slice pg ng cg]:=by unfold nnA;rw [hnp,hnt,hng,hbits]
 rw [hE] at hsm hfo ⊢
 obtain ⟨B,hB⟩:∃ B,w.heap.size=B:=⟨_,rfl⟩
 obtain ⟨b2,hb2⟩:∃ b2,w.heap.size+1=b2:=⟨_,rfl⟩
 obtain ⟨W1,hW1⟩:∃ W1,(w.alloc (.cells #[.int .i64 bits,.slice pp np cp,.slice pt nt ct,.slice pg ng cg] 26)).alloc (.cells #[.int .i64 p,.string ⟨h.toArray⟩] 28)=W1:=⟨_,rfl⟩
 have hz2:(w.alloc (.cells #[.int .i64 bits,.slice pp np cp,.slice pt nt ct,.slice pg ng cg] 26)).heap.size=w.heap.size+1:=Array.size_push _
 have b1:Below w.heap.size w W1:=by rw [←hW1];exact belAZ (belAZ (Below.refl _ _) _) _
 have k1:W1.heap[B]?=some (.cells #[.int .i64 bits,.slice pp np cp,.slice pt nt ct,.slice pg ng cg] 26 (0,0)):=by rw [←hW1,←hB];exact keepZ (belAZ (Below.refl _ _) _) (alloc_getZ _ _)
 have k2:W1.heap[b2]?=some (.cells #[.int .i64 p,.string ⟨h.toArray⟩] 28 (0,0)):=by rw [←hW1,←hb2,←hz2];exact alloc_getZ _ _
 have HC:Hid (∀ U,Below W1.heap.size W1 U→(U.cell? ⟨B,0,none⟩=some (.int .i64 bits)∧U.cell? ⟨B,1,none⟩=some (.slice pp np cp)∧U.cell? ⟨B,2,none⟩=some (.slice pt nt ct)∧U.cell? ⟨B,3,none⟩=some (.slice pg ng cg))∧(U.cell? ⟨b2,0,none⟩=some (.int .i64 p)∧U.cell? ⟨b2,1,none⟩=some (.string ⟨h.toArray⟩))):=fun U hU=>by
  have e1:=(cellsZ (keepZ hU k1)).1
  have e2:=(cellsZ (keepZ hU k2)).1
  exact ⟨⟨by rw [e1];rfl,by rw [e1];rfl,by rw [e1];rfl,by rw [e1];rfl⟩,⟨by rw [e2];rfl,by rw [e2];rfl⟩⟩
 have HSM:=hideL (hsm W1 b1)
 have HFO:Hid (∀ (Q:List Int) (qp:Option Addr) (m c:Nat) (U:World),Below W1.heap.size W1 U→Q.length=m→LI U qp Q→m≤c→m≤140737488351232→Calls Tryz.prog 18 #[.agg #[.int .i64 bits,.slice pp np cp,.slice pt nt ct,.slice pg ng cg],.agg #[.int .i64 p,.string ⟨h.toArray⟩],.slice qp m c] U (FLQ (flwM n (p,h) Q) U)):=fun Q qp m c U hU h1 h2 h3 h4=>hfo Q qp m c U (bel0Z b1 hU) h1 h2 h3 h4
 have HKN:Hid (∀ U,Below W1.heap.size W1 U→Calls Tryz.prog 10 #[] U fun e w'=>e=.returned (.bool true)∧Below U.heap.size U w'):=fun U hU=>hkn U (bel0Z b1 hU)
 have HF:Hid (∀ U,Below W1.heap.size W1 U→Below w.heap.size w U):=fun U hU=>bel0Z b1 hU
 have HB:=hideL hB
 have HB2:=hideL hb2
 have HW1:=hideL hW1
 obtain ⟨⟨q0,q1,q2,q3⟩,⟨r0,r1⟩⟩:=HC.out W1 (Below.refl _ _)
 clear hN hO hT hh hsm hfo hkn hE hnp hnt hng hbits hB hb2 hz2 b1 k1 k2 hW1
 go_enter Tryz.func4,Tryz.ntmps4
 go_upto_region 1 with fail
 rw [HW1.out,HB2.out,HB.out]
 go_wp2_with fail
 refine (HSM.out).mono ?_
 rintro e W2 ⟨ql,cl,V,hVm,rfl,hrow,hpl,c2⟩
 clear q0 q1 q2 q3 r0 r1
 have hlen1:V.length≤1:=by have:=congrArg List.length hVm;rw [List.length_map,List.length_take] at this;rw [this];exact Nat.min_le_left _ _
 cases V with
 | nil=>
  have HKK:=hideL (HKN.out W2 c2)
  have HC2:=hideL c2
  clear hVm hrow hpl c2 hlen1
  simp only [List.length_nil]
  go_wp2_with fail
  refine (HKK.out).mono ?_
  rintro e W3 ⟨rfl,b3⟩
  have HFF:=hideL (HF.out W3 (bel0Z HC2.out b3))
  clear b3
  go_wp2_with fail
  go_ret
  exact ⟨rfl,HFF.out⟩
 | cons xv V'=>
  obtain rfl:V'=[]:=by
   cases V' with
   | nil=>rfl
   | cons a b=>simp at hlen1
  obtain ⟨x,⟨u1,e1,u2,e2⟩⟩:=xv
  have hxm:x∈pthM n (p,h) hops:=by
   have:x∈(pthM n (p,h) hops).take (1:Int).toNat:=by rw [←hVm];simp
   exact List.mem_of_mem_take this
  obtain ⟨g,o,e9,hcx⟩:=hrow 0 _ rfl
  subst e9
  obtain ⟨n1,hn1⟩:∃ n1,x.ps.length=n1:=⟨_,rfl⟩
  obtain ⟨h1a,h1b,-⟩:=pth_len hxm
  rw [hn1] at h1a h1b
  have w0:W2.cell? ⟨g,o,none⟩=some (.slice u1 n1 e1):=by
   have:=hcx 0 _ rfl
   rw [hn1] at this
   simpa using this
  have hpx:=(hpl _ (List.mem_singleton.2 rfl)).1.2.1
  simp only at hpx
  have HP:Hid (∀ U,Below W2.heap.size W2 U→U.cell? ⟨g,o,none⟩=some (.slice u1 n1 e1)∧LI U u1 x.ps∧Below W1.heap.size W1 U):=fun U hU=>⟨keepC hU w0,hpx.below hU,bel0Z c2 hU⟩
  have HX:Hid (x∈pthM n (p,h) hops∧x.ps.length=n1):=⟨hxm,hn1⟩
  have HC2:=hideL c2
  clear hVm hrow hpl hcx hpx hxm hn1 hlen1 c2
  simp only [List.length_cons,List.length_nil,Nat.zero_add]
  have i0:((n1:Int)==0)=false:=by simp;omega
  have i1:(0:Int) < (n1:Int):=by omega
  go_wp2_with fail
  clear w0
  go_loopw [12,13] (fun v12 v13 wr=>∃ (k c:Nat) (q:Option Addr),v12=.slice q k c∧v13=.int .i64 (k:Int)∧k≤n1∧Hid (wr.ownsRow W2.heap.size 3 1 (.slice q k c) k (inZ (x.ps.take k))∧Below W2.heap.size W2 wr)) (fun _ v13 _=>n1 - (intOf v13).toNat)
  case atStart=>exact ⟨0,0,none,rfl,rfl,Nat.zero_le _,World.ownsRow_nil _ _ _ _,Below.refl _ _⟩
  case round=>
   obtain ⟨k,c,q,rfl,rfl,hk,HS⟩:=hrel
   obtain ⟨w0,hli,hb⟩:=HP.out wr HS.out.2
   by_cases hlt:k < n1
   ·obtain ⟨y,hy⟩:∃ y,x.ps[k]?=some y:=⟨_,List.getElem?_eq_getElem (by have:=HX.out.2;omega)⟩
    obtain ⟨gp,op,e9,a0⟩:=hli k y hy
    subst e9
    obtain ⟨k9,hk9⟩:∃ k9,k+1=k9:=⟨_,rfl⟩
    obtain ⟨q7,c7,W7,hr7,o7,b7⟩:=pushK y HS.out.1 HS.out.2.size hk9 (by omega)
    have HS9:Hid (W7.ownsRow W2.heap.size 3 1 (.slice q7 k9 c7) k9 (inZ (x.ps.take k9))∧Below W2.heap.size W2 W7):=by
     rw [←hk9,List.take_add_one,hy]
     rw [←hk9] at o7
     exact ⟨o7,HS.out.2.trans b7⟩
    have HK9:=hideL hk9
    have j0:(0:Int)≤(k:Int):=by omega
    have j1:(k:Int) < (n1:Int):=by omega
    clear hy o7 b7 hk9 hli hb
    go_wp2_with (at_builtin;refine wpList_runZ rfl _ _ _ rfl rfl rfl hr7 ?_)
    go_roundw
    case rel=>exact ⟨k9,c7,q7,rfl,by rw [←HK9.out];go_num,by have:=HK9.out;omega,HS9⟩
    case measure=>have:=HK9.out;simp [intOf];omega
   ·obtain rfl:k=n1:=by omega
    have j1:¬(k:Int) < (k:Int):=by omega
    have hrow9:=HS.out.1
    rw [List.take_of_length_le (by have:=HX.out.2;omega)] at hrow9
    obtain ⟨g9,rfl⟩:=own_someZ hrow9 (by omega)
    have hlA:LI wr (some ⟨g9,0,none⟩) x.ps:=own_li9 hrow9 HX.out.2
    obtain ⟨cs9,hc9,hcap,hbase⟩:∃ cs,wr.heap[g9]?=some (.cells cs 3 (0,0))∧k≤c∧W2.heap.size≤g9:=by
     rcases hrow9.2 with ⟨e,-⟩ | ⟨g,cap,cur,e,hb9,hg9,hn9,-⟩
     ·cases e
     ·simp only [Value.slice.injEq,Option.some.injEq,Addr.mk.injEq] at e
      obtain ⟨⟨rfl,-⟩,-,rfl⟩:=e
      exact ⟨cur,hg9,hn9,hb9⟩
    obtain ⟨r,hr⟩:∃ r:Nat,wiM at9 ((k:Int) - 1)=(r:Int)∧r < k:=by
     unfold wiM
     split
     ·exact ⟨0,rfl,by omega⟩
     ·split
      ·exact ⟨k - 1,by omega,by omega⟩
      ·exact ⟨at9.toNat,by omega,by omega⟩
    have HWI:Hid (∀ U,Calls Tryz.prog 17 #[.int .i64 at9,.int .i64 ((k:Int) - 1)] U fun e w'=>e=.returned (.int .i64 (r:Int))∧w'=U):=fun U=>by
     have h9:=within_any at9 ((k:Int) - 1) U
     rw [hr.1] at h9
     exact h9
    obtain ⟨W5,hW5⟩:∃ W5,wr.setCell ⟨g9,r,none⟩ (.int .i64 port)=W5:=⟨_,rfl⟩
    have hl5:LI W5 (some ⟨g9,0,none⟩) (x.ps.set r port):=by rw [←hW5];exact hlA.set hc9 (by have:=HX.out.2;omega) port HX.out.2
    have hb5:Below W2.heap.size W2 W5:=by rw [←hW5];exact HS.out.2.setCell (p:=⟨g9,r,none⟩) hbase _
    have z0:∃ z,wr.cell? ⟨g9,r,none⟩=some (.int .i64 z):=by
     obtain ⟨gg,oo,e,hz⟩:=hlA r (x.ps[r]'(by have:=HX.out.2;omega)) (List.getElem?_eq_getElem _)
     simp only [Option.some.injEq,Addr.mk.injEq] at e
     obtain ⟨rfl,rfl,-⟩:=e
     rw [Nat.zero_add] at hz
     exact ⟨_,hz⟩
    obtain ⟨z,z0⟩:=z0
    have f0:=(cellsZ hc9).2 r
    have HQ:Hid (∀ U,Below W5.heap.size W5 U→LI U (some ⟨g9,0,none⟩) (x.ps.set r port)∧Below W1.heap.size W1 U):=fun U hU=>⟨hl5.below hU,bel0Z HC2.out (bel0Z hb5 hU)⟩
    obtain ⟨r1h,r1i,r1e,hf1⟩:∃ a b c,flwM n (p,h) ((x.ps.set r port).take (r+1))=(a,b,c):=⟨_,_,_,rfl⟩
    obtain ⟨r2h,r2i,r2e,hf2⟩:∃ a b c,flwM n (p,h) (x.ps.set r port)=(a,b,c):=⟨_,_,_,rfl⟩
    have hoff:=off_pure HX.out.1 (k:=r) (by have:=HX.out.2;omega) port
    rw [hf1,hf2] at hoff
    simp only at hoff
    have HFA:Hid (∀ U,Below W5.heap.size W5 U→Calls Tryz.prog 18 #[.agg #[.int .i64 bits,.slice pp np cp,.slice pt nt ct,.slice pg ng cg],.agg #[.int .i64 p,.string ⟨h.toArray⟩],.slice (some ⟨g9,0,none⟩) (r+1) c] U fun e w'=>e=.returned (.tuple #[.string ⟨r1h.toArray⟩,.int .i64 r1i,.int .i64 r1e])∧Below U.heap.size U w'):=fun U hU=>by
     have h9:=HFO.out ((x.ps.set r port).take (r+1)) (some ⟨g9,0,none⟩) (r+1) c U (HQ.out U hU).2 (by rw [List.length_take,List.length_set,HX.out.2];omega) ((HQ.out U hU).1.take _) (by omega) (by omega)
     rw [hf1] at h9
     exact h9
    have HFB:Hid (∀ U,Below W5.heap.size W5 U→Calls Tryz.prog 18 #[.agg #[.int .i64 bits,.slice pp np cp,.slice pt nt ct,.slice pg ng cg],.agg #[.int .i64 p,.string ⟨h.toArray⟩],.slice (some ⟨g9,0,none⟩) k c] U fun e w'=>e=.returned (.tuple #[.string ⟨r2h.toArray⟩,.int .i64 r2i,.int .i64 r2e])∧Below U.heap.size U w'):=fun U hU=>by
     have h9:=HFO.out (x.ps.set r port) (some ⟨g9,0,none⟩) k c U (HQ.out U hU).2 (by rw [List.length_set,HX.out.2]) (HQ.out U hU).1 hcap (by omega)
     rw [hf2] at h9
     exact h9
    have HOF:=hideL hoff
    have HW5:=hideL hW5
    have hrk:r < k:=hr.2
    obtain ⟨r9,hr9⟩:∃ r9,r+1=r9:=⟨_,rfl⟩
    rw [hr9] at HFA
    have HR9:=hideL hr9
    have j2:(r:Int) < (k:Int):=by omega
    have j3:(0:Int)≤(r:Int):=by omega
    have j4:(r:Int)+1=(r9:Int):=by omega
    have j5:(r9:Int)≤(c:Int):=by omega
    have j6:(0:Int)≤(r9:Int):=by omega
    have hk130:k≤130:=by omega
    have hr130:r9≤131:=by omega
    clear hrow9 hlA hc9 hbase hl5 hb5 hW5 hr hf1 hf2 hoff hli hb hr9
    go_wp2_with fail
    refine (HWI.out wr).mono ?_
    rintro e W4 ⟨rfl,hw4⟩
    obtain rfl:wr=W4:=hw4.symm
    clear hw4
    go_upto_region 11 with fail
    rw [HW5.out]
    clear z0 f0 w0
    have HS5:Hid (∀ U,Below W5.heap.size W5 U→(U.cell? ⟨B,0,none⟩=some (.int .i64 bits)∧U.cell? ⟨B,1,none⟩=some (.slice pp np cp)∧U.cell? ⟨B,2,none⟩=some (.slice pt nt ct)∧U.cell? ⟨B,3,none⟩=some (.slice pg ng cg))∧(U.cell? ⟨b2,0,none⟩=some (.int .i64 p)∧U.cell? ⟨b2,1,none⟩=some (.string ⟨h.toArray⟩))):=fun U hU=>HC.out U (HQ.out U hU).2
    have hs0:=HS5.out W5.drew (Below.refl _ _).drew
    refine wp_region_held_drew (S:=fun U=>(U.cell? ⟨B,0,none⟩=some (.int .i64 bits)∧U.cell? ⟨B,1,none⟩=some (.slice pp np cp)∧U.cell? ⟨B,2,none⟩=some (.slice pt nt ct)∧U.cell? ⟨B,3,none⟩=some (.slice pg ng cg))∧(U.cell? ⟨b2,0,none⟩=some (.int .i64 p)∧U.cell? ⟨b2,1,none⟩=some (.string ⟨h.toArray⟩))) (by kernel_rfl) hs0 (fun _=>?_)
    refine wpAnyH_take (i:=0) (v:=.agg #[.int .i64 bits,.slice pp np cp,.slice pt nt ct,.slice pg ng cg]) rfl (by kernel_rfl) (by kernel_rfl) (by kernel_rfl) (fun _ _ _ h=>h) (Or.inl ⟨by rfl,?_⟩) hs0 ?_
    ·rintro w ⟨⟨q0,q1,q2,q3⟩,⟨r0,r1⟩⟩;go_simp
    refine wpAnyH_take (i:=1) (v:=.agg #[.int .i64 p,.string ⟨h.toArray⟩]) rfl (by kernel_rfl) (by kernel_rfl) (by kernel_rfl) (fun _ _ _ h=>h) (Or.inl ⟨by rfl,?_⟩) hs0 ?_
    ·rintro w ⟨⟨q0,q1,q2,q3⟩,⟨r0,r1⟩⟩;go_simp
    refine wpAnyH_take (i:=2) (v:=.slice (some ⟨g9,0,none⟩) k c) rfl (by kernel_rfl) (by kernel_rfl) (by kernel_rfl) (fun _ _ _ h=>h) (Or.inl ⟨by rfl,?_⟩) hs0 ?_
    ·rintro w ⟨⟨q0,q1,q2,q3⟩,⟨r0,r1⟩⟩;go_simp
    refine wpAnyH_take (i:=3) (v:=.int .i64 (r:Int)) rfl (by kernel_rfl) (by kernel_rfl) (by kernel_rfl) (fun _ _ _ h=>h) (Or.inl ⟨by rfl,?_⟩) hs0 ?_
    ·rintro w ⟨⟨q0,q1,q2,q3⟩,⟨r0,r1⟩⟩;go_simp
    refine wpAnyH_take (i:=4) (v:=.int .i64 (r9:Int)) rfl (by kernel_rfl) (by kernel_rfl) (by kernel_rfl) (fun _ _ _ h=>h) (Or.inl ⟨by rfl,?_⟩) hs0 ?_
    ·rintro w ⟨⟨q0,q1,q2,q3⟩,⟨r0,r1⟩⟩;go_simp;rw [IntKind.wrap_i64];omega
    refine wpAnyH_take (i:=5) (v:=.slice (some ⟨g9,0,none⟩) r9 c) rfl (by kernel_rfl) (by kernel_rfl) (by kernel_rfl) (fun _ _ _ h=>h) (Or.inl ⟨by rfl,?_⟩) hs0 ?_
    ·rintro w ⟨⟨q0,q1,q2,q3⟩,⟨r0,r1⟩⟩;go_simp
    refine wpAnyH_ready (rs:=[6]) (by kernel_rfl) (by simp) ?_
    refine AllReadyH.cons rfl (fun KK hKK=>?_) AllReadyH.nil
    go_simp
    refine (HFA.out _ (Below.refl _ _).drew).mono ?_
    rintro en W6 ⟨rfl,b6⟩
    have c6:Below W5.heap.size W5 W6:=bel0Z (Below.refl _ _).drew b6
    have hs1:=HS5.out W6 c6
    clear b6
    go_simp
    refine hKK.out _ _ hs1 (fun _=>?_)
    clear hKK KK
    refine wpAnyH_take (i:=7) (v:=.tuple #[.string ⟨r1h.toArray⟩,.int .i64 r1i,.int .i64 r1e]) rfl (by kernel_rfl) (by kernel_rfl) (by kernel_rfl) (fun _ _ _ h=>h) (Or.inl ⟨by rfl,?_⟩) hs1 ?_
    ·rintro w ⟨⟨q0,q1,q2,q3⟩,⟨r0,r1⟩⟩;go_simp
    refine wpAnyH_take (i:=8) (v:=.string ⟨r1h.toArray⟩) rfl (by kernel_rfl) (by kernel_rfl) (by kernel_rfl) (fun _ _ _ h=>h) (Or.inl ⟨by rfl,?_⟩) hs1 ?_
    ·rintro w ⟨⟨q0,q1,q2,q3⟩,⟨r0,r1⟩⟩;go_simp
    refine wpAnyH_take (i:=9) (v:=.int .i64 r1i) rfl (by kernel_rfl) (by kernel_rfl) (by kernel_rfl) (fun _ _ _ h=>h) (Or.inl ⟨by rfl,?_⟩) hs1 ?_
    ·rintro w ⟨⟨q0,q1,q2,q3⟩,⟨r0,r1⟩⟩;go_simp
    refine wpAnyH_take (i:=10) (v:=.int .i64 r1e) rfl (by kernel_rfl) (by kernel_rfl) (by kernel_rfl) (fun _ _ _ h=>h) (Or.inl ⟨by rfl,?_⟩) hs1 ?_
    ·rintro w ⟨⟨q0,q1,q2,q3⟩,⟨r0,r1⟩⟩;go_simp
    refine wpAnyH_take (i:=11) (v:=.string ⟨r1h.toArray⟩) rfl (by kernel_rfl) (by kernel_rfl) (by kernel_rfl) (fun _ _ _ h=>h) (Or.inl ⟨by rfl,?_⟩) hs1 ?_
    ·rintro w ⟨⟨q0,q1,q2,q3⟩,⟨r0,r1⟩⟩;go_simp
    refine wpAnyH_take (i:=12) (v:=.int .i64 r1i) rfl (by kernel_rfl) (by kernel_rfl) (by kernel_rfl) (fun _ _ _ h=>h) (Or.inl ⟨by rfl,?_⟩) hs1 ?_
    ·rintro w ⟨⟨q0,q1,q2,q3⟩,⟨r0,r1⟩⟩;go_simp
    refine wpAnyH_take (i:=13) (v:=.int .i64 r1e) rfl (by kernel_rfl) (by kernel_rfl) (by kernel_rfl) (fun _ _ _ h=>h) (Or.inl ⟨by rfl,?_⟩) hs1 ?_
    ·rintro w ⟨⟨q0,q1,q2,q3⟩,⟨r0,r1⟩⟩;go_simp
    refine wpAnyH_done (by kernel_rfl) ?_ _
    try simp only [List.getElem_toArray,List.getElem_cons_succ,List.getElem_cons_zero,Act.put,List.setIfInBounds_toArray,List.set_cons_zero,List.set_cons_succ]
    clear hs0
    obtain ⟨⟨q0,q1,q2,q3⟩,⟨r0,r1⟩⟩:=hs1
    have HC6:=hideL c6
    clear c6 j2 j3 j4 j5 j6
    go_wp2_with fail
    refine (HFB.out W6 HC6.out).mono ?_
    rintro e W7 ⟨rfl,b7⟩
    have HB7:=hideL (HQ.out W7 (bel0Z HC6.out b7)).2
    have HKK:=hideL (HKN.out W7 HB7.out)
    clear q0 q1 q2 q3 r0 r1 b7
    go_wp2_with fail
    refine (num_any r1e W7).mono ?_
    rintro e W8 ⟨rfl,hw⟩
    obtain rfl:W7=W8:=hw.symm
    clear hw
    rcases HOF.out with ⟨rfl,rfl | ⟨rfl,hgt⟩⟩ | ⟨rfl,rfl,rfl,rfl⟩
    ·go_wp2_with fail
     refine (num_any 0 W7).mono ?_
     rintro e W8 ⟨rfl,hw⟩
     obtain rfl:W7=W8:=hw.symm
     clear hw
     go_wp2_with fail
     refine (HKK.out).mono ?_
     rintro e W9 ⟨rfl,b9⟩
     have HFF:=hideL (HF.out W9 (bel0Z HB7.out b9))
     clear b9
     go_wp2_with fail
     go_ret
     exact ⟨rfl,HFF.out⟩
    ·have hg9:r2i > (r:Int):=hgt
     clear HOF hgt
     go_wp2_with fail
     refine (num_any 101 W7).mono ?_
     rintro e W8 ⟨rfl,hw⟩
     obtain rfl:W7=W8:=hw.symm
     clear hw
     go_wp2_with fail
     refine (num_any 101 W7).mono ?_
     rintro e W8 ⟨rfl,hw⟩
     obtain rfl:W7=W8:=hw.symm
     clear hw
     go_wp2_with fail
     refine (HKK.out).mono ?_
     rintro e W9 ⟨rfl,b9⟩
     have HFF:=hideL (HF.out W9 (bel0Z HB7.out b9))
     clear b9
     go_wp2_with fail
     go_ret
     exact ⟨rfl,HFF.out⟩
    ·go_wp2_with fail
     refine (num_any 101 W7).mono ?_
     rintro e W8 ⟨rfl,hw⟩
     obtain rfl:W7=W8:=hw.symm
     clear hw
     go_wp2_with fail
     refine (num_any 101 W7).mono ?_
     rintro e W8 ⟨rfl,hw⟩
     obtain rfl:W7=W8:=hw.symm
     clear hw
     go_wp2_with fail
     refine (HKK.out).mono ?_
     rintro e W9 ⟨rfl,b9⟩
     have HFF:=hideL (HF.out W9 (bel0Z HB7.out b9))
     clear b9
     go_wp2_with fail
     go_ret
     exact ⟨rfl,HFF.out⟩
end Go.Proofs.YtbplhianpelmfaaGreatDoor.Nt
