import Derived.Test.YtmfakcfmkmppfaaGreatDoorVAN
namespace Go.Proofs.YtmfakcfmkmppfaaGreatDoor.Nt
open Go.RowKit Go.Shelf
theorem nd_names {n:NN} {i:Nat} {x:NP} (h:((n.ports.take i).map (·.nm)).Nodup) (hx:n.ports[i]?=some x) (hp:∀ j y,j < i->n.ports[j]?=some y->y.nm≠x.nm):((n.ports.take (i+1)).map (·.nm)).Nodup:=by
 rw [List.map_take] at h ⊢;refine zle (x:=x.nm) h (by rw [List.getElem?_map,hx];rfl) (fun j y hj hy=>?_);rw [List.getElem?_map] at hy;cases hq:n.ports[j]? with
 | none=>rw [hq] at hy;cases hy
 | some u=>
  rw [hq] at hy;have:u.nm=y:=by simpa using hy
  rw [<-this];exact hp j u hj hq
theorem zgp {n:NN} {i j:Nat} {x y:NP} (h:(n.ports.map (·.nm)).Nodup) (hj:j < i) (h1:n.ports[j]?=some y) (h2:n.ports[i]?=some x) (he:y.nm=x.nm):False:=
 zqr h hj (x:=x.nm) (by rw [List.getElem?_map,h1,<-he];rfl) (by rw [List.getElem?_map,h2];rfl)
set_option maxRecDepth 100000 in
set_option maxHeartbeats 16000000 in
theorem znc (n:NN) (v:NV) (w:World) (hN:LN w n v) (hS:zdn n) (hO:okN n) :
  Calls Tryz.prog 77 #[.agg (nnA n v)] w (BQ (zcc n) w):=by
 obtain ⟨pp,cp,pt,ct,pg,cg⟩:=v;unfold nnA;simp only at hN ⊢;obtain ⟨W1,hW1⟩:=ex (w.alloc (Obj.cells #[.int .i64 n.bits,.slice pp n.ports.length cp,.slice pt n.tabs.length ct,.slice pg n.grds.length cg] 26));have b1:Below w.heap.size w W1:=by rw [<-hW1];exact zah (Below.refl _ _) _
 obtain ⟨B,hB⟩:=ex w.heap.size;have k1:W1.heap[B]?=some (.cells #[.int .i64 n.bits,.slice pp n.ports.length cp,.slice pt n.tabs.length ct,.slice pg n.grds.length cg] 26 (0,0)):=by rw [<-hW1,<-hB];exact zaa _ _
 have HC:Hid (∀ U,Below W1.heap.size W1 U->U.cell? ⟨B,0,none⟩=some (.int .i64 n.bits)/\U.cell? ⟨B,1,none⟩=some (.slice pp n.ports.length cp)/\U.cell? ⟨B,2,none⟩=some (.slice pt n.tabs.length ct)/\U.cell? ⟨B,3,none⟩=some (.slice pg n.grds.length cg)):=fun U hU=>by
  have:=(zaf (zae hU k1)).1;exact ⟨by rw [this];rfl,by rw [this];rfl,by rw [this];rfl,by rw [this];rfl⟩
 have HNN:Hid (∀ U,Below W1.heap.size W1 U->LN U n ⟨pp,cp,pt,ct,pg,cg⟩):=fun U hU=>hN.below (zac b1 hU);have HB1:=zab b1;have HBB:=zab hB;have HW:=zab hW1;clear k1 b1 hB hW1 hN;have HZ:Hid (zdn n/\okN n):=⟨hS,hO⟩;have HQT:Hid (∀ U,Below W1.heap.size W1 U->zcc n->BQ (zcc n) w (.returned (.bool true)) U):=fun U hU h=>BQ.yes h (zac HB1.out hU);have HQF:Hid (∀ U,Below W1.heap.size W1 U->¬zcc n->BQ (zcc n) w (.returned (.bool false)) U):=fun U hU h=>BQ.no h (zac HB1.out hU);obtain ⟨np,hnp⟩:=ex n.ports.length;obtain ⟨nt,hnt⟩:=ex n.tabs.length;have hnp48:np<=48:=by have:=hS.2.2.2.1;omega
 have hnt16:nt<=16:=by have:=hS.2.2.1;omega
 have HNP:Hid (n.ports.length=np/\n.tabs.length=nt):=⟨hnp,hnt⟩;rw [hnp,hnt] at HC HW ⊢;clear hS hO hnp hnt
 go_enter Tryz.func77,Tryz.ntmps77
 go_wp2_with fail
 rw [HW.out,HBB.out]
 go_loopw [3] (fun v3 wr=>∃ k:Nat,v3=.int .i64 (k:Int)/\k<=np/\Hid ((∀ p∈n.ports.take k,zdi n p)/\((n.ports.take k).map (·.nm)).Nodup)/\Hid (Below W1.heap.size W1 wr)) (fun v3 _=>np - (intOf v3).toNat)
 case atStart=>exact ⟨0,rfl,Nat.zero_le _,⟨fun p hp=>by simp at hp,by simp⟩,Below.refl _ _⟩
 case round=>
  obtain ⟨k,rfl,hk,HIN,HBW⟩:=hrel;obtain ⟨q0,q1,q2,q3⟩:=HC.out wr HBW.out
  by_cases hlt:k < np
  ·obtain ⟨x,hx⟩:∃ x,n.ports[k]?=some x:=⟨_,List.getElem?_eq_getElem (by have:=HNP.out.1;omega)⟩
   obtain ⟨gp,op,e5,i0,i1,i2,i3⟩:=(HNN.out wr HBW.out).1 k x hx;simp only at e5;subst e5;have HPC:Hid (∀ (U:World) (j:Nat) (y:NP),Below W1.heap.size W1 U->n.ports[j]?=some y->U.cell? ⟨gp,op+j*4,none⟩=some (.string ⟨y.nm.toArray⟩)/\U.cell? ⟨gp,op+j*4+2,none⟩=some (.bool y.inn)):=fun U j y hU hy=>by
    obtain ⟨g9,o9,e9,c0,c1,c2,c3⟩:=(HNN.out U hU).1 j y hy;have e9:=Option.some.inj e9;injection e9 with e91 e92;subst e91 e92;exact ⟨c0,c2⟩
   have j1:(0:Int)<=(k:Int):=by omega
   have j2:(k:Int) < (np:Int):=by omega
   have HNX:Hid (zdi n x->(∀ j y,j < k->n.ports[j]?=some y->y.nm≠x.nm)->(∀ p∈n.ports.take (k+1),zdi n p)/\((n.ports.take (k+1)).map (·.nm)).Nodup):=fun h1 h2=>⟨zba hx HIN.out.1 h1,nd_names HIN.out.2 hx h2⟩;have HX:=zab hx;obtain ⟨W5,hW5⟩:=ex (wr.alloc (Obj.cells #[.string ⟨x.nm.toArray⟩,.int .i64 x.bx,.bool x.inn,.int .i64 x.lk] 84));have b5:Below wr.heap.size wr W5:=by rw [<-hW5];exact zah (Below.refl _ _) _
   obtain ⟨b4,hb4⟩:=ex wr.heap.size;have k5:W5.heap[b4]?=some (.cells #[.string ⟨x.nm.toArray⟩,.int .i64 x.bx,.bool x.inn,.int .i64 x.lk] 84 (0,0)):=by rw [<-hW5,<-hb4];exact zaa _ _
   have HK5:Hid (∀ U,Below W5.heap.size W5 U->U.cell? ⟨b4,0,none⟩=some (.string ⟨x.nm.toArray⟩)/\U.cell? ⟨b4,1,none⟩=some (.int .i64 x.bx)/\U.cell? ⟨b4,2,none⟩=some (.bool x.inn)/\U.cell? ⟨b4,3,none⟩=some (.int .i64 x.lk)):=fun U hU=>by
    have:=(zaf (zae hU k5)).1;exact ⟨by rw [this];rfl,by rw [this];rfl,by rw [this];rfl,by rw [this];rfl⟩
   have HB5:Hid (Below W1.heap.size W1 W5):=zac HBW.out b5;have HFN:=zou x.nm W5 (HZ.out.2.2.1 x (List.mem_of_getElem? hx));have HW5:=zab hW5;have HB4:=zab hb4;clear hx hW5 hb4 b5 k5 HIN
   go_upto_region 5 with fail
   rw [HW5.out,HB4.out];clear q0 q1 q2 q3 i0 i1 i2 i3;obtain ⟨q0,q1,q2,q3⟩:=HC.out W5 HB5.out;obtain ⟨i0,i1,i2,i3⟩:=HK5.out W5 (Below.refl _ _)
   go_wp2_with fail
   refine HFN.mono ?_;rintro e W6 ⟨rfl,hw6⟩;obtain rfl:=hw6.symm;clear hw6 HFN;have HPX:Hid (zcc n->zdi n x):=fun h=>h.1 x (List.mem_of_getElem? HX.out);cases hf:zcw x.nm with
   | false=>
    have HQ:=zab (HQF.out W5 HB5.out (fun h=>by have:=(HPX.out h).1;rw [hf] at this;cases this));clear HNX HPX
    go_wp2_with fail
    go_ret
    exact HQ.out
   | true=>
    by_cases hb0:x.bx < 0
    ·have j3:x.bx < (0:Int):=hb0
     have HQ:=zab (HQF.out W5 HB5.out (fun h=>by have:=(HPX.out h).2.1;omega));clear HNX HPX
     go_wp2_with fail
     go_ret
     exact HQ.out
    ·by_cases hb1:(nt:Int)<=x.bx
     ·have j4:¬x.bx < (nt:Int):=by omega
      have HQ:=zab (HQF.out W5 HB5.out (fun h=>by have:=(HPX.out h).2.2.1;have:=HNP.out.2;omega));clear HNX HPX
      go_wp2_with fail
      go_ret
      exact HQ.out
     ·have j4:x.bx < (nt:Int):=by omega
      by_cases ht0:x.lk < -1
      ·have j5:x.lk < (-1:Int):=ht0
       have HQ:=zab (HQF.out W5 HB5.out (fun h=>by rcases (HPX.out h).2.2.2 with h9 | h9 <;> omega))
       clear HNX HPX
       go_wp2_with fail
       go_ret
       exact HQ.out
      ·by_cases ht1:(np:Int)<=x.lk
       ·have j6:¬x.lk < (np:Int):=by omega
        have HQ:=zab (HQF.out W5 HB5.out (fun h=>by rcases (HPX.out h).2.2.2 with h9 | h9 <;> (have:=HNP.out.1;omega)))
        clear HNX HPX
        go_wp2_with fail
        go_ret
        exact HQ.out
       ·have j6:x.lk < (np:Int):=by omega
        have HBX:Hid (zcw x.nm=true/\0<=x.bx/\x.bx < (n.tabs.length:Int)):=⟨hf,by omega,by have:=HNP.out.2;omega⟩
        by_cases hl:(0:Int)<=x.lk
        ·obtain ⟨l,hl9⟩:∃ l:Nat,x.lk=(l:Int):=⟨x.lk.toNat,by omega⟩
         obtain ⟨y,hy⟩:∃ y,n.ports[l]?=some y:=⟨_,List.getElem?_eq_getElem (by have:=HNP.out.1;omega)⟩;have hpa:=zdr hy;have hyc:=(HPC.out W5 l y HB5.out hy).2;rw [hl9] at i3;have j7:(0:Int)<=(l:Int):=by omega
         have j8:(l:Int) < (np:Int):=by omega
         have HLK:Hid (zdi n x↔(x.inn=false/\y.inn=true)):=by
          show _↔_;unfold zdi;rw [hl9,hpa];exact ⟨fun h=>by rcases h.2.2.2 with h9 | h9;omega;exact ⟨h9.1,h9.2.2.2⟩,fun h=>⟨HBX.out.1,HBX.out.2.1,HBX.out.2.2,.inr ⟨h.1,j7,by have:=HNP.out.1;omega,h.2⟩⟩⟩
         cases hin:x.inn with
         | true=>
          rw [hin] at i2;have HQ:=zab (HQF.out W5 HB5.out (fun h=>by have:=(HLK.out.1 (HPX.out h)).1;rw [hin] at this;cases this));clear HNX HPX hf hy hpa
          go_wp2_with fail
          go_ret
          exact HQ.out
         | false=>
          rw [hin] at i2;cases hyi:y.inn with
          | false=>
           rw [hyi] at hyc;have HQ:=zab (HQF.out W5 HB5.out (fun h=>by have:=(HLK.out.1 (HPX.out h)).2;rw [hyi] at this;cases this));clear HNX HPX hf hy hpa
           go_wp2_with fail
           go_ret
           exact HQ.out
          | true=>
           rw [hyi] at hyc;have HPP:=zab (HLK.out.2 ⟨hin,hyi⟩);clear HLK HPX hf hy hpa hin hyi hl9
           go_wp2_with fail
           clear i0 i1 i2 i3 q0 q1 q2 q3
           go_loopw [6] (fun v6 wr=>∃ j:Nat,v6=.int .i64 (j:Int)/\j<=k/\Hid (∀ j9 y,j9 < j->n.ports[j9]?=some y->y.nm≠x.nm)/\Hid (Below W5.heap.size W5 wr)) (fun v6 _=>k - (intOf v6).toNat)
           case atStart=>exact ⟨0,rfl,Nat.zero_le _,fun j9 y h9=>by omega,Below.refl _ _⟩
           case round=>
            obtain ⟨j,rfl,hj,HDJ,HBJ⟩:=hrel;obtain ⟨q0,q1,q2,q3⟩:=HC.out wr (zac HB5.out HBJ.out);obtain ⟨i0,i1,i2,i3⟩:=HK5.out wr HBJ.out;have HB6:Hid (Below W1.heap.size W1 wr):=zac HB5.out HBJ.out
            by_cases hlt3:j < k
            ·obtain ⟨u,hu⟩:∃ u,n.ports[j]?=some u:=⟨_,List.getElem?_eq_getElem (by have:=HNP.out.1;omega)⟩
             have u0:=(HPC.out wr j u HB6.out hu).1;have j9:(0:Int)<=(j:Int):=by omega
             have j10:(j:Int) < (k:Int):=by omega
             have j11:(j:Int) < (np:Int):=by omega
             by_cases heq:u.nm=x.nm
             ·have HQ:=zab (HQF.out wr HB6.out (fun h=>zgp h.2 hlt3 hu HX.out heq))
              have y1:(u.nm==x.nm)=true:=beq_iff_eq.2 heq;rw [heq] at u0;clear HDJ HNX HPP hu heq y1
              go_wp2_with fail
              go_quiet (fail)
              go_wp2_with fail
              go_ret
              exact ⟨HQ.out.1,za1 nq HQ.out.2⟩
             ·have y1:(u.nm==x.nm)=false:=beq_eq_false_iff_ne.2 heq
              have HN1:Hid (∀ j9 y,j9 < j+1->n.ports[j9]?=some y->y.nm≠x.nm):=fun j9 y h9 hy=>by
               rcases Nat.lt_or_ge j9 j with h1 | h1
               ·exact HDJ.out j9 y h1 hy
               ·obtain rfl:j9=j:=by omega
                rw [hu] at hy;rw [<-Option.some.inj hy];exact heq
              clear HDJ HNX HPP hu
              go_wp2_with fail
              go_quiet (fail)
              go_wp2_with fail
              go_roundw
              case rel=>exact ⟨j+1,by go_num,by omega,HN1,za1 nq HBJ.out⟩
              case measure=>simp [intOf];omega
            ·obtain rfl:j=k:=by omega
             have j10:¬(j:Int) < (j:Int):=by omega
             have HN1:=zab (HNX.out HPP.out HDJ.out);clear HDJ HNX HPP
             go_wp2_with fail
             go_roundw
             case rel=>exact ⟨j+1,by go_num,by omega,HN1,HB6⟩
             case measure=>simp [intOf];omega
        ·have j5:¬x.lk < (-1:Int):=ht0
         have HPP:Hid (zdi n x):=⟨HBX.out.1,HBX.out.2.1,HBX.out.2.2,.inl (by omega)⟩;clear HPX hf
         go_wp2_with fail
         clear i0 i1 i2 i3 q0 q1 q2 q3
         go_loopw [6] (fun v6 wr=>∃ j:Nat,v6=.int .i64 (j:Int)/\j<=k/\Hid (∀ j9 y,j9 < j->n.ports[j9]?=some y->y.nm≠x.nm)/\Hid (Below W5.heap.size W5 wr)) (fun v6 _=>k - (intOf v6).toNat)
         case atStart=>exact ⟨0,rfl,Nat.zero_le _,fun j9 y h9=>by omega,Below.refl _ _⟩
         case round=>
          obtain ⟨j,rfl,hj,HDJ,HBJ⟩:=hrel;obtain ⟨q0,q1,q2,q3⟩:=HC.out wr (zac HB5.out HBJ.out);obtain ⟨i0,i1,i2,i3⟩:=HK5.out wr HBJ.out;have HB6:Hid (Below W1.heap.size W1 wr):=zac HB5.out HBJ.out
          by_cases hlt3:j < k
          ·obtain ⟨u,hu⟩:∃ u,n.ports[j]?=some u:=⟨_,List.getElem?_eq_getElem (by have:=HNP.out.1;omega)⟩
           have u0:=(HPC.out wr j u HB6.out hu).1;have j9:(0:Int)<=(j:Int):=by omega
           have j10:(j:Int) < (k:Int):=by omega
           have j11:(j:Int) < (np:Int):=by omega
           by_cases heq:u.nm=x.nm
           ·have HQ:=zab (HQF.out wr HB6.out (fun h=>zgp h.2 hlt3 hu HX.out heq))
            have y1:(u.nm==x.nm)=true:=beq_iff_eq.2 heq;rw [heq] at u0;clear HDJ HNX HPP hu heq y1
            go_wp2_with fail
            go_quiet (fail)
            go_wp2_with fail
            go_ret
            exact ⟨HQ.out.1,za1 nq HQ.out.2⟩
           ·have y1:(u.nm==x.nm)=false:=beq_eq_false_iff_ne.2 heq
            have HN1:Hid (∀ j9 y,j9 < j+1->n.ports[j9]?=some y->y.nm≠x.nm):=fun j9 y h9 hy=>by
             rcases Nat.lt_or_ge j9 j with h1 | h1
             ·exact HDJ.out j9 y h1 hy
             ·obtain rfl:j9=j:=by omega
              rw [hu] at hy;rw [<-Option.some.inj hy];exact heq
            clear HDJ HNX HPP hu
            go_wp2_with fail
            go_quiet (fail)
            go_wp2_with fail
            go_roundw
            case rel=>exact ⟨j+1,by go_num,by omega,HN1,za1 nq HBJ.out⟩
            case measure=>simp [intOf];omega
          ·obtain rfl:j=k:=by omega
           have j10:¬(j:Int) < (j:Int):=by omega
           have HN1:=zab (HNX.out HPP.out HDJ.out);clear HDJ HNX HPP
           go_wp2_with fail
           go_roundw
           case rel=>exact ⟨j+1,by go_num,by omega,HN1,HB6⟩
           case measure=>simp [intOf];omega
  ·obtain rfl:k=np:=by omega
   have j2:¬(k:Int) < (k:Int):=by omega
   have HQ:=zab (HQT.out wr HBW.out (by
    have h1:=HIN.out;rw [List.take_of_length_le (by have:=HNP.out.1;omega)] at h1;exact h1))
   clear HIN
   go_wp2_with fail
   go_ret
   exact HQ.out
set_option maxRecDepth 100000 in
set_option maxHeartbeats 8000000 in
theorem znb (n:NN) (v:NV) (w:World) (hN:LN w n v) (hO:okN n) :
  Calls Tryz.prog 51 #[.agg (nnA n v)] w fun e w'=>e=.returned (.int .i64 (if pb (NetP n)=true then 0 else 90))/\Below w.heap.size w w':=by
 obtain ⟨R,hR⟩:∃ R:Int,(if pb (NetP n)=true then (0:Int) else 90)=R:=⟨_,rfl⟩
 have HRT:Hid (NetP n->R=0):=fun h=>by rw [<-hR,if_pos (zck h)]
 have HRF:Hid (¬NetP n->R=90):=fun h=>by rw [<-hR,if_neg (by rw [zfd h];decide)]
 rw [hR];clear hR;have hN0:=hN;obtain ⟨pp,cp,pt,ct,pg,cg⟩:=v;unfold nnA;simp only at hN ⊢;obtain ⟨W1,hW1⟩:=ex (w.alloc (Obj.cells #[.int .i64 n.bits,.slice pp n.ports.length cp,.slice pt n.tabs.length ct,.slice pg n.grds.length cg] 26));have b1:Below w.heap.size w W1:=by rw [<-hW1];exact zah (Below.refl _ _) _
 obtain ⟨B,hB⟩:=ex w.heap.size;have k1:W1.heap[B]?=some (.cells #[.int .i64 n.bits,.slice pp n.ports.length cp,.slice pt n.tabs.length ct,.slice pg n.grds.length cg] 26 (0,0)):=by rw [<-hW1,<-hB];exact zaa _ _
 have HC:Hid (∀ U,Below W1.heap.size W1 U->U.cell? ⟨B,0,none⟩=some (.int .i64 n.bits)/\U.cell? ⟨B,1,none⟩=some (.slice pp n.ports.length cp)/\U.cell? ⟨B,2,none⟩=some (.slice pt n.tabs.length ct)/\U.cell? ⟨B,3,none⟩=some (.slice pg n.grds.length cg)):=fun U hU=>by
  have:=(zaf (zae hU k1)).1;exact ⟨by rw [this];rfl,by rw [this];rfl,by rw [this];rfl,by rw [this];rfl⟩
 have HNN:Hid (∀ U,Below W1.heap.size W1 U->LN U n ⟨pp,cp,pt,ct,pg,cg⟩):=fun U hU=>hN.below (zac b1 hU);have HB1:=zab b1;have HBB:=zab hB;have HW:=zab hW1;clear k1 b1 hB hW1 hN;obtain ⟨q0,q1,q2,q3⟩:=HC.out W1 (Below.refl _ _);have HRR:Hid (∀ U,Below W1.heap.size W1 U->Below w.heap.size w U):=fun U hU=>zac HB1.out hU
 by_cases c0:n.bits < 1
 ·have j0:(n.bits:Int) < 1:=by omega
  have HR:=zab (HRF.out (fun h=>by have:=h.1.1;omega));clear hO c0
  go_enter Tryz.func51,Tryz.ntmps51
  go_upto_region 1 with fail
  rw [HW.out,HBB.out]
  go_wp2_with fail
  go_ret
  exact ⟨by rw [HR.out];rfl,HRR.out W1 (Below.refl _ _)⟩
 have j0:¬(n.bits:Int) < 1:=by omega
 by_cases c1:256 < n.bits
 ·have j1:(256:Int) < n.bits:=by omega
  have HR:=zab (HRF.out (fun h=>by have:=h.1.2.1;omega));clear hO c1
  go_enter Tryz.func51,Tryz.ntmps51
  go_upto_region 1 with fail
  rw [HW.out,HBB.out]
  go_wp2_with fail
  go_ret
  exact ⟨by rw [HR.out];rfl,HRR.out W1 (Below.refl _ _)⟩
 have j1:¬(256:Int) < n.bits:=by omega
 by_cases c2:16 < n.tabs.length
 ·have j2:(16:Int) < (n.tabs.length:Int):=by omega
  have HR:=zab (HRF.out (fun h=>by have:=h.1.2.2.1;omega));clear hO c2
  go_enter Tryz.func51,Tryz.ntmps51
  go_upto_region 1 with fail
  rw [HW.out,HBB.out]
  go_wp2_with fail
  go_ret
  exact ⟨by rw [HR.out];rfl,HRR.out W1 (Below.refl _ _)⟩
 have j2:¬(16:Int) < (n.tabs.length:Int):=by omega
 by_cases c3:48 < n.ports.length
 ·have j3:(48:Int) < (n.ports.length:Int):=by omega
  have HR:=zab (HRF.out (fun h=>by have:=h.1.2.2.2.1;omega));clear hO c3
  go_enter Tryz.func51,Tryz.ntmps51
  go_upto_region 1 with fail
  rw [HW.out,HBB.out]
  go_wp2_with fail
  go_ret
  exact ⟨by rw [HR.out];rfl,HRR.out W1 (Below.refl _ _)⟩
 have j3:¬(48:Int) < (n.ports.length:Int):=by omega
 by_cases c4:n.grds.length=n.ports.length
 rotate_left
 ·have y4:((n.grds.length:Int)==(n.ports.length:Int))=false:=beq_eq_false_iff_ne.2 (by omega)
  have y5:((n.grds.length:Int) != (n.ports.length:Int))=true:=by simp only [bne,y4];rfl
  have HR:=zab (HRF.out (fun h=>c4 h.1.2.2.2.2));clear hO c4
  go_enter Tryz.func51,Tryz.ntmps51
  go_upto_region 1 with fail
  rw [HW.out,HBB.out]
  go_wp2_with fail
  go_ret
  exact ⟨by rw [HR.out];rfl,HRR.out W1 (Below.refl _ _)⟩
 have y4:((n.grds.length:Int)==(n.ports.length:Int))=true:=beq_iff_eq.2 (by omega);have y5:((n.grds.length:Int) != (n.ports.length:Int))=false:=by simp only [bne,y4];rfl
 have HS:Hid (zdn n):=⟨by omega,by omega,by omega,by omega,by omega⟩;clear c4;have HP:Hid (∀ U,Below W1.heap.size W1 U->Calls Tryz.prog 77 #[.agg #[.int .i64 n.bits,.slice pp n.ports.length cp,.slice pt n.tabs.length ct,.slice pg n.grds.length cg]] U (BQ (zcc n) U)):=fun U hU=>znc n ⟨pp,cp,pt,ct,pg,cg⟩ U (HNN.out U hU) HS.out hO;have HG:Hid (∀ U,Below W1.heap.size W1 U->Calls Tryz.prog 78 #[.agg #[.int .i64 n.bits,.slice pp n.ports.length cp,.slice pt n.tabs.length ct,.slice pg n.grds.length cg]] U (BQ ((∀ g∈n.grds,zbk n.bits g)/\zhk n<=64) U)):=fun U hU=>zkm n ⟨pp,cp,pt,ct,pg,cg⟩ U (HNN.out U hU) HS.out hO;have HT:Hid (∀ U,Below W1.heap.size W1 U->Calls Tryz.prog 79 #[.agg #[.int .i64 n.bits,.slice pp n.ports.length cp,.slice pt n.tabs.length ct,.slice pg n.grds.length cg]] U (BQ ((∀ (k:Nat) (t:List NE),n.tabs[k]?=some t->zg9 n (k:Int) t)/\zhj n<=256) U)):=fun U hU=>zkl n ⟨pp,cp,pt,ct,pg,cg⟩ U (HNN.out U hU) HS.out hO;have HP1:=HP.out W1 (Below.refl _ _);clear hO
 go_enter Tryz.func51,Tryz.ntmps51
 go_upto_region 1 with fail
 rw [HW.out,HBB.out]
 go_wp2_with fail
 refine HP1.mono ?_;rintro e W2 ⟨rfl,b2⟩;have HB2:=zab b2;clear HP1 HP b2 q0 q1 q2 q3;obtain ⟨q0,q1,q2,q3⟩:=HC.out W2 HB2.out;cases hp:pb (zcc n) with
 | false=>
  have HR:=zab (HRF.out (fun h=>za6 hp h.2.2.2.1));clear hp HG HT
  go_wp2_with fail
  go_ret
  exact ⟨by rw [HR.out];rfl,HRR.out W2 HB2.out⟩
 | true=>
  have hpp:=za0.1 hp;have HPP:=zab hpp;have HG1:=HG.out W2 HB2.out;clear hp hpp HG
  go_wp2_with fail
  refine HG1.mono ?_;rintro e W3 ⟨rfl,b3⟩;have HB3:Hid (Below W1.heap.size W1 W3):=zac HB2.out b3;clear HG1 b3 q0 q1 q2 q3;obtain ⟨q0,q1,q2,q3⟩:=HC.out W3 HB3.out;cases hg:pb ((∀ g∈n.grds,zbk n.bits g)/\zhk n<=64) with
  | false=>
   have HR:=zab (HRF.out (fun h=>za6 hg ⟨h.2.2.2.2.1,h.2.1⟩));clear hg HT
   go_wp2_with fail
   go_ret
   exact ⟨by rw [HR.out];rfl,HRR.out W3 HB3.out⟩
  | true=>
   have HGG:=zab (za0.1 hg);have HT1:=HT.out W3 HB3.out;clear hg HT
   go_wp2_with fail
   refine HT1.mono ?_;rintro e W4 ⟨rfl,b4⟩;have HB4:Hid (Below W1.heap.size W1 W4):=zac HB3.out b4;clear HT1 b4 q0 q1 q2 q3;cases ht:pb ((∀ (k:Nat) (t:List NE),n.tabs[k]?=some t->zg9 n (k:Int) t)/\zhj n<=256) with
   | false=>
    have HR:=zab (HRF.out (fun h=>za6 ht ⟨h.2.2.2.2.2,h.2.2.1⟩));clear ht
    go_wp2_with fail
    go_ret
    exact ⟨by rw [HR.out];rfl,HRR.out W4 HB4.out⟩
   | true=>
    have htt:=za0.1 ht;have HR:=zab (HRT.out ⟨HS.out,HGG.out.2,htt.2,HPP.out,HGG.out.1,htt.1⟩);clear ht htt
    go_wp2_with fail
    go_ret
    exact ⟨by rw [HR.out];rfl,HRR.out W4 HB4.out⟩
set_option maxRecDepth 100000 in
set_option maxHeartbeats 8000000 in
theorem zni (n:NN) (v:NV) (box:Int) (x:NE) (pi:Option Addr) (ci:Nat) (pc:Option Addr) (cc:Nat) (po:Option Addr) (co:Nat) (w:World) (hN:LN w n v) (hE:LEL w x pi ci pc cc po co) (hS:zdn n) (hO:okE x) :
  Calls Tryz.prog 112 #[.agg (nnA n v),.int .i64 box,.agg (neA x pi ci pc cc po co)] w (BQ (za2 n box x) w):=by
 obtain ⟨pp,cp,pt,ct,pg,cg⟩:=v;unfold nnA neA;simp only at hN ⊢;obtain ⟨ni,hni⟩:=ex x.ins.length;obtain ⟨nc,hnc⟩:=ex x.cubes.length;obtain ⟨no,hno⟩:=ex x.outs.length;rw [hni,hnc,hno];obtain ⟨W1,hW1⟩:=ex ((w.alloc (Obj.cells #[.int .i64 n.bits,.slice pp n.ports.length cp,.slice pt n.tabs.length ct,.slice pg n.grds.length cg] 26)).alloc (Obj.cells #[.string ⟨x.nm.toArray⟩,.slice pi ni ci,.slice pc nc cc,.string ⟨x.wr.toArray⟩,.slice po no co] 89));have b1:Below w.heap.size w W1:=by rw [<-hW1];exact zah (zah (Below.refl _ _) _) _
 obtain ⟨B,hB⟩:=ex w.heap.size;obtain ⟨E,hEB⟩:=ex (B+1);have k1:W1.heap[B]?=some (.cells #[.int .i64 n.bits,.slice pp n.ports.length cp,.slice pt n.tabs.length ct,.slice pg n.grds.length cg] 26 (0,0)):=by rw [<-hW1,<-hB];exact zae (zah (Below.refl _ _) _) (zaa _ _)
 have k2:W1.heap[E]?=some (.cells #[.string ⟨x.nm.toArray⟩,.slice pi ni ci,.slice pc nc cc,.string ⟨x.wr.toArray⟩,.slice po no co] 89 (0,0)):=by
  have:=zaa (w.alloc (Obj.cells #[.int .i64 n.bits,.slice pp n.ports.length cp,.slice pt n.tabs.length ct,.slice pg n.grds.length cg] 26)) (Obj.cells #[.string ⟨x.nm.toArray⟩,.slice pi ni ci,.slice pc nc cc,.string ⟨x.wr.toArray⟩,.slice po no co] 89);rw [zr6,hB,hEB,hW1] at this;exact this
 have HC:Hid (∀ U,Below W1.heap.size W1 U->U.cell? ⟨B,0,none⟩=some (.int .i64 n.bits)/\U.cell? ⟨B,1,none⟩=some (.slice pp n.ports.length cp)/\U.cell? ⟨B,2,none⟩=some (.slice pt n.tabs.length ct)/\U.cell? ⟨B,3,none⟩=some (.slice pg n.grds.length cg)/\U.cell? ⟨E,0,none⟩=some (.string ⟨x.nm.toArray⟩)/\U.cell? ⟨E,1,none⟩=some (.slice pi ni ci)/\U.cell? ⟨E,2,none⟩=some (.slice pc nc cc)/\U.cell? ⟨E,3,none⟩=some (.string ⟨x.wr.toArray⟩)/\U.cell? ⟨E,4,none⟩=some (.slice po no co)):=fun U hU=>by
  have h1:=(zaf (zae hU k1)).1;have h2:=(zaf (zae hU k2)).1;exact ⟨by rw [h1];rfl,by rw [h1];rfl,by rw [h1];rfl,by rw [h1];rfl,by rw [h2];rfl,by rw [h2];rfl,by rw [h2];rfl,by rw [h2];rfl,by rw [h2];rfl⟩
 have hni9:ni<=17592186043904:=by have:=hO.2.1;unfold okI at this;omega
 have hnc9:nc<=17592186043904:=by have:=hO.2.2.1.1;omega
 have HI:Hid (∀ U,Below W1.heap.size W1 U->Calls Tryz.prog 122 #[.agg #[.int .i64 n.bits,.slice pp n.ports.length cp,.slice pt n.tabs.length ct,.slice pg n.grds.length cg],.int .i64 box,.slice pi ni ci] U (BQ (InsP n box x.ins) U)):=fun U hU=>xins_any n ⟨pp,cp,pt,ct,pg,cg⟩ box x.ins pi ni ci U (hN.below (zac b1 hU)) hni hni9 (hE.1.below (zac b1 hU));have HU:Hid (∀ U,Below W1.heap.size W1 U->Calls Tryz.prog 123 #[.agg #[.int .i64 n.bits,.slice pp n.ports.length cp,.slice pt n.tabs.length ct,.slice pg n.grds.length cg],.int .i64 box,.slice po no co] U (BQ (zhg n box x.outs) U)):=fun U hU=>zoy n ⟨pp,cp,pt,ct,pg,cg⟩ box x.outs po no co U (hN.below (zac b1 hU)) hno (by have:=hE.2.2.2.2.2;omega) (hE.2.2.2.2.1.below (zac b1 hU));have HK:Hid (∀ U,Below W1.heap.size W1 U->Calls Tryz.prog 111 #[.int .i64 n.bits,.slice pc nc cc] U (BQ (zb1 n.bits x.cubes) U)):=fun U hU=>zhh n.bits x.cubes pc nc cc U hS.2.1 hnc hnc9 (hE.2.2.1.below (zac b1 hU));have HX:Hid (∀ U,Calls Tryz.prog 121 #[.int .i64 n.bits,.string ⟨x.wr.toArray⟩] U (BQ (za4 n.bits x.wr) U)):=fun U=>zjc n.bits x.wr U hS.2.1;obtain ⟨EP,hEP⟩:∃ EP:Prop,za2 n box x=EP:=⟨_,rfl⟩;have HEP:Hid (EP=za2 n box x):=hEP.symm;have HQT:Hid (∀ U,Below W1.heap.size W1 U->EP->BQ EP w (.returned (.bool true)) U):=fun U hU h=>BQ.yes h (zac b1 hU);have HQF:Hid (∀ U,Below W1.heap.size W1 U->¬EP->BQ EP w (.returned (.bool false)) U):=fun U hU h=>BQ.no h (zac b1 hU);have HBB:Hid (w.heap.size=B/\B+1=E):=⟨hB,hEB⟩;have HW:=zab hW1;rw [hEP];clear k1 k2 b1 hB hEB hW1 hN hE hS hO hni hnc hno hEP hni9 hnc9;obtain ⟨q0,q1,q2,q3,e0,e1,e2,e3,e4⟩:=HC.out W1 (Below.refl _ _)
 by_cases hnm:x.nm.length<=256
 rotate_left
 ·have j0:¬(x.nm.length:Int)<=256:=by omega
  have HQ:=zab (HQF.out W1 (Below.refl _ _) (fun h=>hnm (HEP.out ▸ h:za2 n box x).1));clear hnm
  go_enter Tryz.func112,Tryz.ntmps112
  go_upto_region 1 with fail
  rw [HW.out,HBB.out.1,HBB.out.2]
  go_wp2_with fail
  go_ret
  exact HQ.out
 have j0:(x.nm.length:Int)<=256:=by omega
 have HNM:=zab hnm;have H1:=HI.out W1 (Below.refl _ _)
 go_enter Tryz.func112,Tryz.ntmps112
 go_upto_region 1 with fail
 rw [HW.out,HBB.out.1,HBB.out.2];clear hnm
 go_wp2_with fail
 refine H1.mono ?_;rintro e W2 ⟨rfl,b1⟩;have HB1:Hid (Below W1.heap.size W1 W2):=b1;clear H1 b1 q0 q1 q2 q3 e0 e1 e2 e3 e4;obtain ⟨q0,q1,q2,q3,e0,e1,e2,e3,e4⟩:=HC.out W2 HB1.out;cases hp:pb (InsP n box x.ins) with
 | false=>
  have HQ:=zab (HQF.out W2 HB1.out (fun h=>za6 hp (HEP.out ▸ h:za2 n box x).2.1));clear hp
  go_wp2_with fail
  go_ret
  exact HQ.out
 | true=>
  have HP1:=zab (za0.1 hp);have H2:=HK.out W2 HB1.out;clear hp
  go_wp2_with fail
  refine H2.mono ?_;rintro e W3 ⟨rfl,b2⟩;have HB2:Hid (Below W1.heap.size W1 W3):=zac HB1.out b2;clear H2 b2 q0 q1 q2 q3 e0 e1 e2 e3 e4;obtain ⟨q0,q1,q2,q3,e0,e1,e2,e3,e4⟩:=HC.out W3 HB2.out;cases hp:pb (zb1 n.bits x.cubes) with
  | false=>
   have HQ:=zab (HQF.out W3 HB2.out (fun h=>za6 hp (HEP.out ▸ h:za2 n box x).2.2.1));clear hp
   go_wp2_with fail
   go_ret
   exact HQ.out
  | true=>
   have HP2:=zab (za0.1 hp);have H3:=HX.out W3;clear hp
   go_wp2_with fail
   refine H3.mono ?_;rintro e W4 ⟨rfl,b3⟩;have HB3:Hid (Below W1.heap.size W1 W4):=zac HB2.out b3;clear H3 b3 q0 q1 q2 q3 e0 e1 e2 e3 e4;obtain ⟨q0,q1,q2,q3,e0,e1,e2,e3,e4⟩:=HC.out W4 HB3.out;cases hp:pb (za4 n.bits x.wr) with
   | false=>
    have HQ:=zab (HQF.out W4 HB3.out (fun h=>za6 hp (HEP.out ▸ h:za2 n box x).2.2.2.1));clear hp
    go_wp2_with fail
    go_ret
    exact HQ.out
   | true=>
    have HP3:=zab (za0.1 hp);have H4:=HU.out W4 HB3.out;clear hp
    go_wp2_with fail
    refine H4.mono ?_;rintro e W5 ⟨rfl,b4⟩;have HB4:Hid (Below W1.heap.size W1 W5):=zac HB3.out b4;clear H4 b4 q0 q1 q2 q3 e0 e1 e2 e3 e4;obtain ⟨q0,q1,q2,q3,e0,e1,e2,e3,e4⟩:=HC.out W5 HB4.out;cases hp:pb (zhg n box x.outs) with
    | false=>
     have HQ:=zab (HQF.out W5 HB4.out (fun h=>za6 hp (HEP.out ▸ h:za2 n box x).2.2.2.2));clear hp
     go_wp2_with fail
     go_ret
     exact HQ.out
    | true=>
     have HP4:=zab (za0.1 hp);have HQ:=zab (HQT.out W5 HB4.out (HEP.out ▸ (⟨HNM.out,HP1.out,HP2.out,HP3.out,HP4.out⟩:za2 n box x)));clear hp
     go_wp2_with fail
     go_ret
     exact HQ.out
set_option maxRecDepth 100000 in
set_option maxHeartbeats 8000000 in
theorem zov (n:NN) (p:Option Addr) (m c:Nat) (w:World) (hm:n.grds.length=m) (hm9:m<=48) (hL:LGS w p n.grds) (hO:∀ t∈n.grds,t.length<=4398046510976) :
  Calls Tryz.prog 93 #[.slice p m c] w fun e w'=>e=.returned (.int .i64 (zhk n:Int))/\w'=w:=by
 have HM:=zab hm;have HL:=zab hL;have HO:=zab hO;clear hm hL hO
 go_enter Tryz.func93,Tryz.ntmps93
 go_wp2_with fail
 go_loopw [3,8] (fun v3 vk wr=>∃ k t:Nat,v3=.int .i64 (t:Int)/\vk=.int .i64 (k:Int)/\k<=m/\t<=k*4398046510976/\Hid (((n.grds.take k).map (·.length)).sum=t)/\wr=w) (fun _ vk _=>m - (intOf vk).toNat)
 case atStart=>exact ⟨0,0,rfl,rfl,Nat.zero_le _,Nat.zero_le _,rfl,rfl⟩
 case round=>
  obtain ⟨k,t,rfl,rfl,hk,ht,HT,rfl⟩:=hrel
  by_cases hlt:k < m
  ·obtain ⟨x,hx⟩:∃ x,n.grds[k]?=some x:=⟨_,List.getElem?_eq_getElem (by have:=HM.out;omega)⟩
   obtain ⟨g,o,p5,c5,rfl,c0,-,-⟩:=HL.out k x hx;have hx9:=HO.out x (List.mem_of_getElem? hx);obtain ⟨l,hl⟩:=ex x.length;rw [hl] at c0 hx9;have HN1:Hid (((n.grds.take (k+1)).map (·.length)).sum=t+l):=by show _=_;rw [zfw hx,HT.out,hl]
   have j1:(k:Int) < (m:Int):=by omega
   have j0:(0:Int)<=(k:Int):=by omega
   clear hx hl HT
   go_wp2_with fail
   go_roundw
   case rel=>exact ⟨k+1,t+l,by go_num,by go_num,by omega,by omega,HN1,by first | rfl | trivial⟩
   case measure=>simp [intOf];omega
  ·obtain rfl:k=m:=by omega
   have j1:¬(k:Int) < (k:Int):=by omega
   have HE:Hid (zhk n=t):=by
    have h1:=HT.out;rw [List.take_of_length_le (by have:=HM.out;omega)] at h1;exact h1
   clear HT
   go_wp2_with fail
   go_ret
   exact ⟨by rw [HE.out];rfl,by first | rfl | trivial⟩
set_option maxRecDepth 100000 in
set_option maxHeartbeats 8000000 in
theorem zow (n:NN) (p:Option Addr) (m c:Nat) (w:World) (hm:n.tabs.length=m) (hm9:m<=48) (hL:LT w p n.tabs) (hO:∀ t∈n.tabs,t.length<=4398046510976) :
  Calls Tryz.prog 94 #[.slice p m c] w fun e w'=>e=.returned (.int .i64 (zhj n:Int))/\w'=w:=by
 have HM:=zab hm;have HL:=zab hL;have HO:=zab hO;clear hm hL hO
 go_enter Tryz.func94,Tryz.ntmps94
 go_wp2_with fail
 go_loopw [3,8] (fun v3 vk wr=>∃ k t:Nat,v3=.int .i64 (t:Int)/\vk=.int .i64 (k:Int)/\k<=m/\t<=k*4398046510976/\Hid (((n.tabs.take k).map (·.length)).sum=t)/\wr=w) (fun _ vk _=>m - (intOf vk).toNat)
 case atStart=>exact ⟨0,0,rfl,rfl,Nat.zero_le _,Nat.zero_le _,rfl,rfl⟩
 case round=>
  obtain ⟨k,t,rfl,rfl,hk,ht,HT,rfl⟩:=hrel
  by_cases hlt:k < m
  ·obtain ⟨x,hx⟩:∃ x,n.tabs[k]?=some x:=⟨_,List.getElem?_eq_getElem (by have:=HM.out;omega)⟩
   obtain ⟨g,o,p5,c5,rfl,c0,-,-⟩:=HL.out k x hx;have hx9:=HO.out x (List.mem_of_getElem? hx);obtain ⟨l,hl⟩:=ex x.length;rw [hl] at c0 hx9;have HN1:Hid (((n.tabs.take (k+1)).map (·.length)).sum=t+l):=by show _=_;rw [zfw hx,HT.out,hl]
   have j1:(k:Int) < (m:Int):=by omega
   have j0:(0:Int)<=(k:Int):=by omega
   clear hx hl HT
   go_wp2_with fail
   go_roundw
   case rel=>exact ⟨k+1,t+l,by go_num,by go_num,by omega,by omega,HN1,by first | rfl | trivial⟩
   case measure=>simp [intOf];omega
  ·obtain rfl:k=m:=by omega
   have j1:¬(k:Int) < (k:Int):=by omega
   have HE:Hid (zhj n=t):=by
    have h1:=HT.out;rw [List.take_of_length_le (by have:=HM.out;omega)] at h1;exact h1
   clear HT
   go_wp2_with fail
   go_ret
   exact ⟨by rw [HE.out];rfl,by first | rfl | trivial⟩
theorem zpn {x:List UInt8} (h:(zb4 x).2.1≠0):(zb4 x).1=[]:=by
 by_cases hl:x.length<=16384
 ·have:=(zep x (x.length+1) 0 1 0 [] (by omega)).2
  unfold zb4 at h ⊢;rw [if_neg (by omega)] at h ⊢;exact this h
 ·unfold zb4
  rw [if_pos (by omega)]
def TAB (w0:World):Prop:=∀ U,Below w0.heap.size w0 U->SH U/\SG U/\VW U
theorem TAB.at {w U:World} (h:TAB w) (hb:Below w.heap.size w U):TAB U:=fun V hV=>h V (zac hb hV)
set_option maxRecDepth 100000 in
set_option maxHeartbeats 8000000 in
theorem zng (x:List UInt8) (w:World) (hx:okS x) (hT:TAB w) :
  Calls Tryz.prog 117 #[.string ⟨x.toArray⟩] w fun e w'=>e=.returned (.bool (zcw x))/\Below w.heap.size w w':=by
 have hT1:=hT w (Below.refl _ _);have hx:x.length<=140737488351232:=hx;have HSC:=scan_any x w (by omega) hT1.1 hT1.2.1 (FOK_of hT1.2.2);have HOF:Hid (zcw x=match (zb4 x).1 with | t :: _=>t.1==3&&t.2.1==x | []=>false):=by show zcw x=_;rw [<-ofB_port];rfl
 have HER:Hid ((zb4 x).2.1≠0->(zb4 x).1=[]):=zpn;obtain ⟨q,hq⟩:=ex (zcw x);rw [hq] at HOF ⊢;clear hT hT1 hq
 go_enter Tryz.func117,Tryz.ntmps117
 go_wp2_with fail
 refine HSC.mono ?_;rintro e W2 ⟨v,rfl,o2,b2⟩;obtain ⟨S,hS⟩:=ex (zb4 x);rw [hS] at o2 HOF HER ⊢;obtain ⟨l,s1,s2,s3⟩:=S;simp only at o2 HOF HER ⊢;have HB2:=zab b2;clear hS HSC b2
 by_cases h0:s1=0
 ·subst h0
  clear HER;cases l with
  | nil=>
   obtain ⟨pv,cv,rfl⟩:=zec o2;simp only at HOF;clear o2
   go_wp2_with fail
   go_ret
   exact ⟨by rw [HOF.out];rfl,HB2.out⟩
  | cons t ls=>
   obtain ⟨t1,t2,t3,t4⟩:=t;obtain ⟨pv,cv,rfl⟩:=zec o2;obtain ⟨g,rfl⟩:=zds o2 (by simp);have k0:W2.cell? ⟨g,0,none⟩=some (.int .i64 (t1:Int)):=zgm o2 rfl;have k1:W2.cell? ⟨g,1,none⟩=some (.string ⟨t2.toArray⟩):=zgm o2 rfl;obtain ⟨N,hN⟩:=ex (((t1,t2,t3,t4) :: ls).length);have j0:(0:Int) < (N:Int):=by rw [<-hN];simp only [List.length_cons];omega
   have j00:0 < N:=by omega
   rw [hN];simp only at HOF;clear o2 hN
   by_cases h1:t1=3
   ·subst h1
    by_cases h2:t2=x
    ·subst h2
     have HQ:Hid (q=true):=by show q=_;rw [HOF.out];simp
     clear HOF
     go_wp2_with fail
     go_ret
     exact ⟨by rw [HQ.out];rfl,HB2.out⟩
    ·have y3:(t2==x)=false:=beq_eq_false_iff_ne.2 h2
     have HQ:Hid (q=false):=by show q=_;rw [HOF.out,y3];rfl
     clear HOF h2
     go_wp2_with fail
     go_ret
     exact ⟨by rw [HQ.out];rfl,HB2.out⟩
   ·have y3:((t1:Int)==3)=false:=beq_eq_false_iff_ne.2 (by omega)
    have HQ:Hid (q=false):=by show q=_;rw [HOF.out,beq_eq_false_iff_ne.2 h1];rfl
    clear HOF h1
    go_wp2_with fail
    go_ret
    exact ⟨by rw [HQ.out];rfl,HB2.out⟩
 ·obtain rfl:=HER.out h0
  obtain ⟨pv,cv,rfl⟩:=zec o2;have y1:((s1:Int)==0)=false:=beq_eq_false_iff_ne.2 (by omega);simp only at HOF;clear o2 h0 HER
  go_wp2_with fail
  go_ret
  exact ⟨by rw [HOF.out];rfl,HB2.out⟩
end Go.Proofs.YtmfakcfmkmppfaaGreatDoor.Nt
