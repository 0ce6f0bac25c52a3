import Derived.Test.YtciffggmobblpaaGreatDoorXAQ
namespace Go.Proofs.YtciffggmobblpaaGreatDoor.Nt
open Go.RowKit Go.Shelf
theorem nd_names {n:NN} {i:Nat} {x:NP} (h:((n.ports.take i).map (·.nm)).Nodup) (hx:n.ports[i]?=some x) (hp:∀ j y,j < i→n.ports[j]?=some y→y.nm≠x.nm):((n.ports.take (i+1)).map (·.nm)).Nodup:=by
 rw [List.map_take] at h ⊢
 refine nd_take (x:=x.nm) h (by rw [List.getElem?_map,hx];rfl) (fun j y hj hy=>?_)
 rw [List.getElem?_map] at hy
 cases hq:n.ports[j]? with
 | none=>rw [hq] at hy;cases hy
 | some u=>
  rw [hq] at hy
  have:u.nm=y:=by simpa using hy
  rw [←this]
  exact hp j u hj hq
theorem nd_namesbad {n:NN} {i j:Nat} {x y:NP} (h:(n.ports.map (·.nm)).Nodup) (hj:j < i) (h1:n.ports[j]?=some y) (h2:n.ports[i]?=some x) (he:y.nm=x.nm):False:=
 nd_bad h hj (x:=x.nm) (by rw [List.getElem?_map,h1,←he];rfl) (by rw [List.getElem?_map,h2];rfl)
set_option maxRecDepth 100000 in
set_option maxHeartbeats 16000000 in
theorem yports_any (n:NN) (v:NV) (w:World) (hN:LN w n v) (hS:SizeP n) (hO:okN n) :
  Calls Tryz.prog 64 #[.agg (nnA n v)] w (BQ (PortsP n) w):=by
 obtain ⟨pp,cp,pt,ct,pg,cg⟩:=v
 unfold nnA
 simp only at hN ⊢
 obtain ⟨W1,hW1⟩:∃ W1,w.alloc (Obj.cells #[.int .i64 n.bits,.slice pp n.ports.length cp,.slice pt n.tabs.length ct,.slice pg n.grds.length cg] 26)=W1:=⟨_,rfl⟩
 have b1:Below w.heap.size w W1:=by rw [←hW1];exact belAZ (Below.refl _ _) _
 obtain ⟨B,hB⟩:∃ B,w.heap.size=B:=⟨_,rfl⟩
 have k1:W1.heap[B]?=some (.cells #[.int .i64 n.bits,.slice pp n.ports.length cp,.slice pt n.tabs.length ct,.slice pg n.grds.length cg] 26 (0,0)):=by rw [←hW1,←hB];exact alloc_getZ _ _
 have HC:Hid (∀ U,Below W1.heap.size W1 U→U.cell? ⟨B,0,none⟩=some (.int .i64 n.bits)∧U.cell? ⟨B,1,none⟩=some (.slice pp n.ports.length cp)∧U.cell? ⟨B,2,none⟩=some (.slice pt n.tabs.length ct)∧U.cell? ⟨B,3,none⟩=some (.slice pg n.grds.length cg)):=fun U hU=>by
  have:=(cellsZ (keepZ hU k1)).1
  exact ⟨by rw [this];rfl,by rw [this];rfl,by rw [this];rfl,by rw [this];rfl⟩
 have HNN:Hid (∀ U,Below W1.heap.size W1 U→LN U n ⟨pp,cp,pt,ct,pg,cg⟩):=fun U hU=>hN.below (bel0Z b1 hU)
 have HB1:=hideL b1
 have HBB:=hideL hB
 have HW:=hideL hW1
 clear k1 b1 hB hW1 hN
 have HZ:Hid (SizeP n∧okN n):=⟨hS,hO⟩
 have HQT:Hid (∀ U,Below W1.heap.size W1 U→PortsP n→BQ (PortsP n) w (.returned (.bool true)) U):=fun U hU h=>BQ.yes h (bel0Z HB1.out hU)
 have HQF:Hid (∀ U,Below W1.heap.size W1 U→¬PortsP n→BQ (PortsP n) w (.returned (.bool false)) U):=fun U hU h=>BQ.no h (bel0Z HB1.out hU)
 obtain ⟨np,hnp⟩:∃ np,n.ports.length=np:=⟨_,rfl⟩
 obtain ⟨nt,hnt⟩:∃ nt,n.tabs.length=nt:=⟨_,rfl⟩
 have hnp48:np≤48:=by have:=hS.2.2.2.1;omega
 have hnt16:nt≤16:=by have:=hS.2.2.1;omega
 have HNP:Hid (n.ports.length=np∧n.tabs.length=nt):=⟨hnp,hnt⟩
 rw [hnp,hnt] at HC HW ⊢
 clear hS hO hnp hnt
 go_enter Tryz.func64,Tryz.ntmps64
 go_wp2_with fail
 rw [HW.out,HBB.out]
 go_loopw [3] (fun v3 wr=>∃ k:Nat,v3=.int .i64 (k:Int)∧k≤np∧Hid ((∀ p∈n.ports.take k,PortP n p)∧((n.ports.take k).map (·.nm)).Nodup)∧Hid (Below W1.heap.size W1 wr)) (fun v3 _=>np - (intOf v3).toNat)
 case atStart=>exact ⟨0,rfl,Nat.zero_le _,⟨fun p hp=>by simp at hp,by simp⟩,Below.refl _ _⟩
 case round=>
  obtain ⟨k,rfl,hk,HIN,HBW⟩:=hrel
  obtain ⟨q0,q1,q2,q3⟩:=HC.out wr HBW.out
  by_cases hlt:k < np
  ·obtain ⟨x,hx⟩:∃ x,n.ports[k]?=some x:=⟨_,List.getElem?_eq_getElem (by have:=HNP.out.1;omega)⟩
   obtain ⟨gp,op,e5,i0,i1,i2,i3⟩:=(HNN.out wr HBW.out).1 k x hx
   simp only at e5
   subst e5
   have HPC:Hid (∀ (U:World) (j:Nat) (y:NP),Below W1.heap.size W1 U→n.ports[j]?=some y→U.cell? ⟨gp,op+j*4,none⟩=some (.string ⟨y.nm.toArray⟩)∧U.cell? ⟨gp,op+j*4+2,none⟩=some (.bool y.inn)):=fun U j y hU hy=>by
    obtain ⟨g9,o9,e9,c0,c1,c2,c3⟩:=(HNN.out U hU).1 j y hy
    have e9:=Option.some.inj e9
    injection e9 with e91 e92
    subst e91 e92
    exact ⟨c0,c2⟩
   have j1:(0:Int)≤(k:Int):=by omega
   have j2:(k:Int) < (np:Int):=by omega
   have HNX:Hid (PortP n x→(∀ j y,j < k→n.ports[j]?=some y→y.nm≠x.nm)→(∀ p∈n.ports.take (k+1),PortP n p)∧((n.ports.take (k+1)).map (·.nm)).Nodup):=fun h1 h2=>⟨all_take hx HIN.out.1 h1,nd_names HIN.out.2 hx h2⟩
   have HX:=hideL hx
   obtain ⟨W5,hW5⟩:∃ W5,wr.alloc (Obj.cells #[.string ⟨x.nm.toArray⟩,.int .i64 x.bx,.bool x.inn,.int .i64 x.lk] 36)=W5:=⟨_,rfl⟩
   have b5:Below wr.heap.size wr W5:=by rw [←hW5];exact belAZ (Below.refl _ _) _
   obtain ⟨b4,hb4⟩:∃ b4,wr.heap.size=b4:=⟨_,rfl⟩
   have k5:W5.heap[b4]?=some (.cells #[.string ⟨x.nm.toArray⟩,.int .i64 x.bx,.bool x.inn,.int .i64 x.lk] 36 (0,0)):=by rw [←hW5,←hb4];exact alloc_getZ _ _
   have HK5:Hid (∀ U,Below W5.heap.size W5 U→U.cell? ⟨b4,0,none⟩=some (.string ⟨x.nm.toArray⟩)∧U.cell? ⟨b4,1,none⟩=some (.int .i64 x.bx)∧U.cell? ⟨b4,2,none⟩=some (.bool x.inn)∧U.cell? ⟨b4,3,none⟩=some (.int .i64 x.lk)):=fun U hU=>by
    have:=(cellsZ (keepZ hU k5)).1
    exact ⟨by rw [this];rfl,by rw [this];rfl,by rw [this];rfl,by rw [this];rfl⟩
   have HB5:Hid (Below W1.heap.size W1 W5):=bel0Z HBW.out b5
   have HFN:=yfull_any x.nm W5 (HZ.out.2.2.1 x (List.mem_of_getElem? hx))
   have HW5:=hideL hW5
   have HB4:=hideL hb4
   clear hx hW5 hb4 b5 k5 HIN
   go_upto_region 5 with fail
   rw [HW5.out,HB4.out]
   clear q0 q1 q2 q3 i0 i1 i2 i3
   obtain ⟨q0,q1,q2,q3⟩:=HC.out W5 HB5.out
   obtain ⟨i0,i1,i2,i3⟩:=HK5.out W5 (Below.refl _ _)
   go_wp2_with fail
   refine HFN.mono ?_
   rintro e W6 ⟨rfl,hw6⟩
   obtain rfl:=hw6.symm
   clear hw6 HFN
   have HPX:Hid (PortsP n→PortP n x):=fun h=>h.1 x (List.mem_of_getElem? HX.out)
   cases hf:fullN x.nm with
   | false=>
    have HQ:=hideL (HQF.out W5 HB5.out (fun h=>by have:=(HPX.out h).1;rw [hf] at this;cases this))
    clear HNX HPX
    go_wp2_with fail
    go_ret
    exact HQ.out
   | true=>
    by_cases hb0:x.bx < 0
    ·have j3:x.bx < (0:Int):=hb0
     have HQ:=hideL (HQF.out W5 HB5.out (fun h=>by have:=(HPX.out h).2.1;omega))
     clear HNX HPX
     go_wp2_with fail
     go_ret
     exact HQ.out
    ·by_cases hb1:(nt:Int)≤x.bx
     ·have j4:¬x.bx < (nt:Int):=by omega
      have HQ:=hideL (HQF.out W5 HB5.out (fun h=>by have:=(HPX.out h).2.2.1;have:=HNP.out.2;omega))
      clear HNX HPX
      go_wp2_with fail
      go_ret
      exact HQ.out
     ·have j4:x.bx < (nt:Int):=by omega
      by_cases ht0:x.lk < -1
      ·have j5:x.lk < (-1:Int):=ht0
       have HQ:=hideL (HQF.out W5 HB5.out (fun h=>by rcases (HPX.out h).2.2.2 with h9 | h9 <;> omega))
       clear HNX HPX
       go_wp2_with fail
       go_ret
       exact HQ.out
      ·by_cases ht1:(np:Int)≤x.lk
       ·have j6:¬x.lk < (np:Int):=by omega
        have HQ:=hideL (HQF.out W5 HB5.out (fun h=>by rcases (HPX.out h).2.2.2 with h9 | h9 <;> (have:=HNP.out.1;omega)))
        clear HNX HPX
        go_wp2_with fail
        go_ret
        exact HQ.out
       ·have j6:x.lk < (np:Int):=by omega
        have HBX:Hid (fullN x.nm=true∧0≤x.bx∧x.bx < (n.tabs.length:Int)):=⟨hf,by omega,by have:=HNP.out.2;omega⟩
        by_cases hl:(0:Int)≤x.lk
        ·obtain ⟨l,hl9⟩:∃ l:Nat,x.lk=(l:Int):=⟨x.lk.toNat,by omega⟩
         obtain ⟨y,hy⟩:∃ y,n.ports[l]?=some y:=⟨_,List.getElem?_eq_getElem (by have:=HNP.out.1;omega)⟩
         have hpa:=portAt_of hy
         have hyc:=(HPC.out W5 l y HB5.out hy).2
         rw [hl9] at i3
         have j7:(0:Int)≤(l:Int):=by omega
         have j8:(l:Int) < (np:Int):=by omega
         have HLK:Hid (PortP n x↔(x.inn=false∧y.inn=true)):=by
          show _↔_
          unfold PortP
          rw [hl9,hpa]
          exact ⟨fun h=>by rcases h.2.2.2 with h9 | h9;omega;exact ⟨h9.1,h9.2.2.2⟩,fun h=>⟨HBX.out.1,HBX.out.2.1,HBX.out.2.2,.inr ⟨h.1,j7,by have:=HNP.out.1;omega,h.2⟩⟩⟩
         cases hin:x.inn with
         | true=>
          rw [hin] at i2
          have HQ:=hideL (HQF.out W5 HB5.out (fun h=>by have:=(HLK.out.1 (HPX.out h)).1;rw [hin] at this;cases this))
          clear HNX HPX hf hy hpa
          go_wp2_with fail
          go_ret
          exact HQ.out
         | false=>
          rw [hin] at i2
          cases hyi:y.inn with
          | false=>
           rw [hyi] at hyc
           have HQ:=hideL (HQF.out W5 HB5.out (fun h=>by have:=(HLK.out.1 (HPX.out h)).2;rw [hyi] at this;cases this))
           clear HNX HPX hf hy hpa
           go_wp2_with fail
           go_ret
           exact HQ.out
          | true=>
           rw [hyi] at hyc
           have HPP:=hideL (HLK.out.2 ⟨hin,hyi⟩)
           clear HLK HPX hf hy hpa hin hyi hl9
           go_wp2_with fail
           clear i0 i1 i2 i3 q0 q1 q2 q3
           go_loopw [6] (fun v6 wr=>∃ j:Nat,v6=.int .i64 (j:Int)∧j≤k∧Hid (∀ j9 y,j9 < j→n.ports[j9]?=some y→y.nm≠x.nm)∧Hid (Below W5.heap.size W5 wr)) (fun v6 _=>k - (intOf v6).toNat)
           case atStart=>exact ⟨0,rfl,Nat.zero_le _,fun j9 y h9=>by omega,Below.refl _ _⟩
           case round=>
            obtain ⟨j,rfl,hj,HDJ,HBJ⟩:=hrel
            obtain ⟨q0,q1,q2,q3⟩:=HC.out wr (bel0Z HB5.out HBJ.out)
            obtain ⟨i0,i1,i2,i3⟩:=HK5.out wr HBJ.out
            have HB6:Hid (Below W1.heap.size W1 wr):=bel0Z HB5.out HBJ.out
            by_cases hlt3:j < k
            ·obtain ⟨u,hu⟩:∃ u,n.ports[j]?=some u:=⟨_,List.getElem?_eq_getElem (by have:=HNP.out.1;omega)⟩
             have u0:=(HPC.out wr j u HB6.out hu).1
             have j9:(0:Int)≤(j:Int):=by omega
             have j10:(j:Int) < (k:Int):=by omega
             have j11:(j:Int) < (np:Int):=by omega
             by_cases heq:u.nm=x.nm
             ·have HQ:=hideL (HQF.out wr HB6.out (fun h=>nd_namesbad h.2 hlt3 hu HX.out heq))
              have y1:(u.nm==x.nm)=true:=beq_iff_eq.2 heq
              rw [heq] at u0
              clear HDJ HNX HPP hu heq y1
              go_wp2_with fail
              go_quiet (fail)
              go_wp2_with fail
              go_ret
              exact ⟨HQ.out.1,bel_drewZ nq HQ.out.2⟩
             ·have y1:(u.nm==x.nm)=false:=beq_eq_false_iff_ne.2 heq
              have HN1:Hid (∀ j9 y,j9 < j+1→n.ports[j9]?=some y→y.nm≠x.nm):=fun j9 y h9 hy=>by
               rcases Nat.lt_or_ge j9 j with h1 | h1
               ·exact HDJ.out j9 y h1 hy
               ·obtain rfl:j9=j:=by omega
                rw [hu] at hy
                rw [←Option.some.inj hy]
                exact heq
              clear HDJ HNX HPP hu
              go_wp2_with fail
              go_quiet (fail)
              go_wp2_with fail
              go_roundw
              case rel=>exact ⟨j+1,by go_num,by omega,HN1,bel_drewZ nq HBJ.out⟩
              case measure=>simp [intOf];omega
            ·obtain rfl:j=k:=by omega
             have j10:¬(j:Int) < (j:Int):=by omega
             have HN1:=hideL (HNX.out HPP.out HDJ.out)
             clear HDJ HNX HPP
             go_wp2_with fail
             go_roundw
             case rel=>exact ⟨j+1,by go_num,by omega,HN1,HB6⟩
             case measure=>simp [intOf];omega
        ·have j5:¬x.lk < (-1:Int):=ht0
         have HPP:Hid (PortP n x):=⟨HBX.out.1,HBX.out.2.1,HBX.out.2.2,.inl (by omega)⟩
         clear HPX hf
         go_wp2_with fail
         clear i0 i1 i2 i3 q0 q1 q2 q3
         go_loopw [6] (fun v6 wr=>∃ j:Nat,v6=.int .i64 (j:Int)∧j≤k∧Hid (∀ j9 y,j9 < j→n.ports[j9]?=some y→y.nm≠x.nm)∧Hid (Below W5.heap.size W5 wr)) (fun v6 _=>k - (intOf v6).toNat)
         case atStart=>exact ⟨0,rfl,Nat.zero_le _,fun j9 y h9=>by omega,Below.refl _ _⟩
         case round=>
          obtain ⟨j,rfl,hj,HDJ,HBJ⟩:=hrel
          obtain ⟨q0,q1,q2,q3⟩:=HC.out wr (bel0Z HB5.out HBJ.out)
          obtain ⟨i0,i1,i2,i3⟩:=HK5.out wr HBJ.out
          have HB6:Hid (Below W1.heap.size W1 wr):=bel0Z HB5.out HBJ.out
          by_cases hlt3:j < k
          ·obtain ⟨u,hu⟩:∃ u,n.ports[j]?=some u:=⟨_,List.getElem?_eq_getElem (by have:=HNP.out.1;omega)⟩
           have u0:=(HPC.out wr j u HB6.out hu).1
           have j9:(0:Int)≤(j:Int):=by omega
           have j10:(j:Int) < (k:Int):=by omega
           have j11:(j:Int) < (np:Int):=by omega
           by_cases heq:u.nm=x.nm
           ·have HQ:=hideL (HQF.out wr HB6.out (fun h=>nd_namesbad h.2 hlt3 hu HX.out heq))
            have y1:(u.nm==x.nm)=true:=beq_iff_eq.2 heq
            rw [heq] at u0
            clear HDJ HNX HPP hu heq y1
            go_wp2_with fail
            go_quiet (fail)
            go_wp2_with fail
            go_ret
            exact ⟨HQ.out.1,bel_drewZ nq HQ.out.2⟩
           ·have y1:(u.nm==x.nm)=false:=beq_eq_false_iff_ne.2 heq
            have HN1:Hid (∀ j9 y,j9 < j+1→n.ports[j9]?=some y→y.nm≠x.nm):=fun j9 y h9 hy=>by
             rcases Nat.lt_or_ge j9 j with h1 | h1
             ·exact HDJ.out j9 y h1 hy
             ·obtain rfl:j9=j:=by omega
              rw [hu] at hy
              rw [←Option.some.inj hy]
              exact heq
            clear HDJ HNX HPP hu
            go_wp2_with fail
            go_quiet (fail)
            go_wp2_with fail
            go_roundw
            case rel=>exact ⟨j+1,by go_num,by omega,HN1,bel_drewZ nq HBJ.out⟩
            case measure=>simp [intOf];omega
          ·obtain rfl:j=k:=by omega
           have j10:¬(j:Int) < (j:Int):=by omega
           have HN1:=hideL (HNX.out HPP.out HDJ.out)
           clear HDJ HNX HPP
           go_wp2_with fail
           go_roundw
           case rel=>exact ⟨j+1,by go_num,by omega,HN1,HB6⟩
           case measure=>simp [intOf];omega
  ·obtain rfl:k=np:=by omega
   have j2:¬(k:Int) < (k:Int):=by omega
   have HQ:=hideL (HQT.out wr HBW.out (by
    have h1:=HIN.out
    rw [List.take_of_length_le (by have:=HNP.out.1;omega)] at h1
    exact h1))
   clear HIN
   go_wp2_with fail
   go_ret
   exact HQ.out
set_option maxRecDepth 100000 in
set_option maxHeartbeats 8000000 in
theorem yvalid_any (n:NN) (v:NV) (w:World) (hN:LN w n v) (hO:okN n) :
  Calls Tryz.prog 50 #[.agg (nnA n v)] w fun e w'=>e=.returned (.int .i64 (if pb (NetP n)=true then 0 else 90))∧Below w.heap.size w w':=by
 obtain ⟨R,hR⟩:∃ R:Int,(if pb (NetP n)=true then (0:Int) else 90)=R:=⟨_,rfl⟩
 have HRT:Hid (NetP n→R=0):=fun h=>by rw [←hR,if_pos (pb_yes h)]
 have HRF:Hid (¬NetP n→R=90):=fun h=>by rw [←hR,if_neg (by rw [pb_no h];decide)]
 rw [hR]
 clear hR
 have hN0:=hN
 obtain ⟨pp,cp,pt,ct,pg,cg⟩:=v
 unfold nnA
 simp only at hN ⊢
 obtain ⟨W1,hW1⟩:∃ W1,w.alloc (Obj.cells #[.int .i64 n.bits,.slice pp n.ports.length cp,.slice pt n.tabs.length ct,.slice pg n.grds.length cg] 26)=W1:=⟨_,rfl⟩
 have b1:Below w.heap.size w W1:=by rw [←hW1];exact belAZ (Below.refl _ _) _
 obtain ⟨B,hB⟩:∃ B,w.heap.size=B:=⟨_,rfl⟩
 have k1:W1.heap[B]?=some (.cells #[.int .i64 n.bits,.slice pp n.ports.length cp,.slice pt n.tabs.length ct,.slice pg n.grds.length cg] 26 (0,0)):=by rw [←hW1,←hB];exact alloc_getZ _ _
 have HC:Hid (∀ U,Below W1.heap.size W1 U→U.cell? ⟨B,0,none⟩=some (.int .i64 n.bits)∧U.cell? ⟨B,1,none⟩=some (.slice pp n.ports.length cp)∧U.cell? ⟨B,2,none⟩=some (.slice pt n.tabs.length ct)∧U.cell? ⟨B,3,none⟩=some (.slice pg n.grds.length cg)):=fun U hU=>by
  have:=(cellsZ (keepZ hU k1)).1
  exact ⟨by rw [this];rfl,by rw [this];rfl,by rw [this];rfl,by rw [this];rfl⟩
 have HNN:Hid (∀ U,Below W1.heap.size W1 U→LN U n ⟨pp,cp,pt,ct,pg,cg⟩):=fun U hU=>hN.below (bel0Z b1 hU)
 have HB1:=hideL b1
 have HBB:=hideL hB
 have HW:=hideL hW1
 clear k1 b1 hB hW1 hN
 obtain ⟨q0,q1,q2,q3⟩:=HC.out W1 (Below.refl _ _)
 have HRR:Hid (∀ U,Below W1.heap.size W1 U→Below w.heap.size w U):=fun U hU=>bel0Z HB1.out hU
 by_cases c0:n.bits < 1
 ·have j0:(n.bits:Int) < 1:=by omega
  have HR:=hideL (HRF.out (fun h=>by have:=h.1.1;omega))
  clear hO c0
  go_enter Tryz.func50,Tryz.ntmps50
  go_upto_region 1 with fail
  rw [HW.out,HBB.out]
  go_wp2_with fail
  go_ret
  exact ⟨by rw [HR.out];rfl,HRR.out W1 (Below.refl _ _)⟩
 have j0:¬(n.bits:Int) < 1:=by omega
 by_cases c1:256 < n.bits
 ·have j1:(256:Int) < n.bits:=by omega
  have HR:=hideL (HRF.out (fun h=>by have:=h.1.2.1;omega))
  clear hO c1
  go_enter Tryz.func50,Tryz.ntmps50
  go_upto_region 1 with fail
  rw [HW.out,HBB.out]
  go_wp2_with fail
  go_ret
  exact ⟨by rw [HR.out];rfl,HRR.out W1 (Below.refl _ _)⟩
 have j1:¬(256:Int) < n.bits:=by omega
 by_cases c2:16 < n.tabs.length
 ·have j2:(16:Int) < (n.tabs.length:Int):=by omega
  have HR:=hideL (HRF.out (fun h=>by have:=h.1.2.2.1;omega))
  clear hO c2
  go_enter Tryz.func50,Tryz.ntmps50
  go_upto_region 1 with fail
  rw [HW.out,HBB.out]
  go_wp2_with fail
  go_ret
  exact ⟨by rw [HR.out];rfl,HRR.out W1 (Below.refl _ _)⟩
 have j2:¬(16:Int) < (n.tabs.length:Int):=by omega
 by_cases c3:48 < n.ports.length
 ·have j3:(48:Int) < (n.ports.length:Int):=by omega
  have HR:=hideL (HRF.out (fun h=>by have:=h.1.2.2.2.1;omega))
  clear hO c3
  go_enter Tryz.func50,Tryz.ntmps50
  go_upto_region 1 with fail
  rw [HW.out,HBB.out]
  go_wp2_with fail
  go_ret
  exact ⟨by rw [HR.out];rfl,HRR.out W1 (Below.refl _ _)⟩
 have j3:¬(48:Int) < (n.ports.length:Int):=by omega
 by_cases c4:n.grds.length=n.ports.length
 rotate_left
 ·have y4:((n.grds.length:Int)==(n.ports.length:Int))=false:=beq_eq_false_iff_ne.2 (by omega)
  have y5:((n.grds.length:Int) != (n.ports.length:Int))=true:=by simp only [bne,y4];rfl
  have HR:=hideL (HRF.out (fun h=>c4 h.1.2.2.2.2))
  clear hO c4
  go_enter Tryz.func50,Tryz.ntmps50
  go_upto_region 1 with fail
  rw [HW.out,HBB.out]
  go_wp2_with fail
  go_ret
  exact ⟨by rw [HR.out];rfl,HRR.out W1 (Below.refl _ _)⟩
 have y4:((n.grds.length:Int)==(n.ports.length:Int))=true:=beq_iff_eq.2 (by omega)
 have y5:((n.grds.length:Int) != (n.ports.length:Int))=false:=by simp only [bne,y4];rfl
 have HS:Hid (SizeP n):=⟨by omega,by omega,by omega,by omega,by omega⟩
 clear c4
 have HP:Hid (∀ U,Below W1.heap.size W1 U→Calls Tryz.prog 64 #[.agg #[.int .i64 n.bits,.slice pp n.ports.length cp,.slice pt n.tabs.length ct,.slice pg n.grds.length cg]] U (BQ (PortsP n) U)):=fun U hU=>yports_any n ⟨pp,cp,pt,ct,pg,cg⟩ U (HNN.out U hU) HS.out hO
 have HG:Hid (∀ U,Below W1.heap.size W1 U→Calls Tryz.prog 65 #[.agg #[.int .i64 n.bits,.slice pp n.ports.length cp,.slice pt n.tabs.length ct,.slice pg n.grds.length cg]] U (BQ ((∀ g∈n.grds,LinesP n.bits g)∧totG n≤64) U)):=fun U hU=>yguards_any n ⟨pp,cp,pt,ct,pg,cg⟩ U (HNN.out U hU) HS.out hO
 have HT:Hid (∀ U,Below W1.heap.size W1 U→Calls Tryz.prog 66 #[.agg #[.int .i64 n.bits,.slice pp n.ports.length cp,.slice pt n.tabs.length ct,.slice pg n.grds.length cg]] U (BQ ((∀ (k:Nat) (t:List NE),n.tabs[k]?=some t→TabP n (k:Int) t)∧totT n≤256) U)):=fun U hU=>ytables_any n ⟨pp,cp,pt,ct,pg,cg⟩ U (HNN.out U hU) HS.out hO
 have HP1:=HP.out W1 (Below.refl _ _)
 clear hO
 go_enter Tryz.func50,Tryz.ntmps50
 go_upto_region 1 with fail
 rw [HW.out,HBB.out]
 go_wp2_with fail
 refine HP1.mono ?_
 rintro e W2 ⟨rfl,b2⟩
 have HB2:=hideL b2
 clear HP1 HP b2 q0 q1 q2 q3
 obtain ⟨q0,q1,q2,q3⟩:=HC.out W2 HB2.out
 cases hp:pb (PortsP n) with
 | false=>
  have HR:=hideL (HRF.out (fun h=>pb_not hp h.2.2.2.1))
  clear hp HG HT
  go_wp2_with fail
  go_ret
  exact ⟨by rw [HR.out];rfl,HRR.out W2 HB2.out⟩
 | true=>
  have hpp:=pb_iff.1 hp
  have HPP:=hideL hpp
  have HG1:=HG.out W2 HB2.out
  clear hp hpp HG
  go_wp2_with fail
  refine HG1.mono ?_
  rintro e W3 ⟨rfl,b3⟩
  have HB3:Hid (Below W1.heap.size W1 W3):=bel0Z HB2.out b3
  clear HG1 b3 q0 q1 q2 q3
  obtain ⟨q0,q1,q2,q3⟩:=HC.out W3 HB3.out
  cases hg:pb ((∀ g∈n.grds,LinesP n.bits g)∧totG n≤64) with
  | false=>
   have HR:=hideL (HRF.out (fun h=>pb_not hg ⟨h.2.2.2.2.1,h.2.1⟩))
   clear hg HT
   go_wp2_with fail
   go_ret
   exact ⟨by rw [HR.out];rfl,HRR.out W3 HB3.out⟩
  | true=>
   have HGG:=hideL (pb_iff.1 hg)
   have HT1:=HT.out W3 HB3.out
   clear hg HT
   go_wp2_with fail
   refine HT1.mono ?_
   rintro e W4 ⟨rfl,b4⟩
   have HB4:Hid (Below W1.heap.size W1 W4):=bel0Z HB3.out b4
   clear HT1 b4 q0 q1 q2 q3
   cases ht:pb ((∀ (k:Nat) (t:List NE),n.tabs[k]?=some t→TabP n (k:Int) t)∧totT n≤256) with
   | false=>
    have HR:=hideL (HRF.out (fun h=>pb_not ht ⟨h.2.2.2.2.2,h.2.2.1⟩))
    clear ht
    go_wp2_with fail
    go_ret
    exact ⟨by rw [HR.out];rfl,HRR.out W4 HB4.out⟩
   | true=>
    have htt:=pb_iff.1 ht
    have HR:=hideL (HRT.out ⟨HS.out,HGG.out.2,htt.2,HPP.out,HGG.out.1,htt.1⟩)
    clear ht htt
    go_wp2_with fail
    go_ret
    exact ⟨by rw [HR.out];rfl,HRR.out W4 HB4.out⟩
end Go.Proofs.YtciffggmobblpaaGreatDoor.Nt
