import Derived.Test.YtciffggmobblpaaGreatDoorXAO
namespace Go.Proofs.YtciffggmobblpaaGreatDoor.Nt
open Go.RowKit Go.Shelf
set_option maxRecDepth 100000 in
set_option maxHeartbeats 16000000 in
theorem ytables_any (n:NN) (v:NV) (w:World) (hN:LN w n v) (hS:SizeP n) (hO:okN n) :
  Calls Tryz.prog 66 #[.agg (nnA n v)] w (BQ ((∀ (k:Nat) (t:List NE),n.tabs[k]?=some t→TabP n (k:Int) t)∧totT n≤256) w):=by
 obtain ⟨pp,cp,pt,ct,pg,cg⟩:=v
 unfold nnA
 simp only at hN ⊢
 obtain ⟨W1,hW1⟩:∃ W1,w.alloc (Obj.cells #[.int .i64 n.bits,.slice pp n.ports.length cp,.slice pt n.tabs.length ct,.slice pg n.grds.length cg] 26)=W1:=⟨_,rfl⟩
 have b1:Below w.heap.size w W1:=by rw [←hW1];exact belAZ (Below.refl _ _) _
 obtain ⟨B,hB⟩:∃ B,w.heap.size=B:=⟨_,rfl⟩
 have k1:W1.heap[B]?=some (.cells #[.int .i64 n.bits,.slice pp n.ports.length cp,.slice pt n.tabs.length ct,.slice pg n.grds.length cg] 26 (0,0)):=by rw [←hW1,←hB];exact alloc_getZ _ _
 have HC:Hid (∀ U,Below W1.heap.size W1 U→U.cell? ⟨B,0,none⟩=some (.int .i64 n.bits)∧U.cell? ⟨B,1,none⟩=some (.slice pp n.ports.length cp)∧U.cell? ⟨B,2,none⟩=some (.slice pt n.tabs.length ct)∧U.cell? ⟨B,3,none⟩=some (.slice pg n.grds.length cg)):=fun U hU=>by
  have:=(cellsZ (keepZ hU k1)).1
  exact ⟨by rw [this];rfl,by rw [this];rfl,by rw [this];rfl,by rw [this];rfl⟩
 have HNN:Hid (∀ U,Below W1.heap.size W1 U→LN U n ⟨pp,cp,pt,ct,pg,cg⟩):=fun U hU=>hN.below (bel0Z b1 hU)
 have HB1:=hideL b1
 have HBB:=hideL hB
 have HW:=hideL hW1
 clear k1 b1 hB hW1 hN
 obtain ⟨PP,hPP⟩:∃ PP:Prop,((∀ (k:Nat) (t:List NE),n.tabs[k]?=some t→TabP n (k:Int) t)∧totT n≤256)=PP:=⟨_,rfl⟩
 have HPP:Hid (PP=((∀ (k:Nat) (t:List NE),n.tabs[k]?=some t→TabP n (k:Int) t)∧totT n≤256)):=hPP.symm
 rw [hPP]
 have HZ:Hid (SizeP n∧okN n):=⟨hS,hO⟩
 have HQT:Hid (∀ U,Below W1.heap.size W1 U→PP→BQ PP w (.returned (.bool true)) U):=fun U hU h=>BQ.yes h (bel0Z HB1.out hU)
 have HQF:Hid (∀ U,Below W1.heap.size W1 U→¬PP→BQ PP w (.returned (.bool false)) U):=fun U hU h=>BQ.no h (bel0Z HB1.out hU)
 obtain ⟨nt,hnt⟩:∃ nt,n.tabs.length=nt:=⟨_,rfl⟩
 have hnt16:nt≤16:=by have:=hS.2.2.1;omega
 have HNT:=hideL hnt
 rw [hnt] at HC HW ⊢
 clear hS hO hnt hPP
 go_enter Tryz.func66,Tryz.ntmps66
 go_wp2_with fail
 rw [HW.out,HBB.out]
 go_loopw [3,4] (fun v3 v4 wr=>∃ k t:Nat,v3=.int .i64 (t:Int)∧v4=.int .i64 (k:Int)∧k≤nt∧t≤k*1353245080300∧Hid (((n.tabs.take k).map (·.length)).sum=t∧∀ (j:Nat) (t:List NE),j < k→n.tabs[j]?=some t→TabP n (j:Int) t)∧Hid (Below W1.heap.size W1 wr)) (fun _ v4 _=>nt - (intOf v4).toNat)
 case atStart=>exact ⟨0,0,rfl,rfl,Nat.zero_le _,Nat.zero_le _,⟨rfl,fun j t h=>by omega⟩,Below.refl _ _⟩
 case round=>
  obtain ⟨wo,rfl⟩:∃ wo,wo=wr:=⟨wr,rfl⟩
  obtain ⟨k,t,rfl,rfl,hk,htk,HSO,HB⟩:=hrel
  obtain ⟨q0,q1,q2,q3⟩:=HC.out wo HB.out
  by_cases hlt:k < nt
  ·obtain ⟨gl,hx⟩:∃ gl,n.tabs[k]?=some gl:=⟨_,List.getElem?_eq_getElem (by have:=HNT.out;omega)⟩
   have hNw:=HNN.out wo HB.out
   obtain ⟨g0,o0,p5,c5,e5,e0,hG,hcl⟩:=hNw.2.2.1 k gl hx
   simp only at e5
   subst e5
   have hok:=HZ.out.2.2.2.2.1 gl (List.mem_of_getElem? hx)
   obtain ⟨m,hm⟩:∃ m,gl.length=m:=⟨_,rfl⟩
   have hm43:m≤1353245080300:=by have:=hok.1;omega
   rw [hm] at e0
   have HX:Hid (n.tabs[k]?=some gl∧gl.length=m∧okTab gl):=⟨hx,hm,hok⟩
   have HG:Hid (∀ U,Below wo.heap.size wo U→U.cell? ⟨g0,o0+k,none⟩=some (.slice p5 m c5)∧LE U p5 gl∧LN U n ⟨pp,cp,some ⟨g0,o0,none⟩,ct,pg,cg⟩∧(U.cell? ⟨B,0,none⟩=some (.int .i64 n.bits)∧U.cell? ⟨B,1,none⟩=some (.slice pp n.ports.length cp)∧U.cell? ⟨B,2,none⟩=some (.slice (some ⟨g0,o0,none⟩) nt ct)∧U.cell? ⟨B,3,none⟩=some (.slice pg n.grds.length cg))):=fun U hU=>⟨keepC hU e0,hG.below hU,hNw.below hU,keepC hU q0,keepC hU q1,keepC hU q2,keepC hU q3⟩
   have j1:(0:Int)≤(k:Int):=by omega
   have j2:(k:Int) < (nt:Int):=by omega
   clear hx hG hcl hok hm q0 q1 q3 e0 HNN HC hNw
   go_wp2_with fail
   clear q2
   go_loopw [3,5,6] (fun v3 v5 v6 wr=>∃ i a s:Nat,v3=.int .i64 (s:Int)∧v5=.int .i64 (a:Int)∧v6=.int .i64 (i:Int)∧i≤m∧a≤i*64∧s≤21651921284800+i∧Hid (s=t+i)∧Hid (sumE (gl.take i)=a∧∀ e∈gl.take i,EntryP n (k:Int) e)∧Hid (Below wo.heap.size wo wr)) (fun _ _ v6 _=>m - (intOf v6).toNat)
   case atStart=>exact ⟨0,0,t,rfl,rfl,rfl,Nat.zero_le _,Nat.zero_le _,by omega,rfl,⟨rfl,fun g hg=>by simp at hg⟩,Below.refl _ _⟩
   case round=>
    obtain ⟨i,a,s,rfl,rfl,rfl,hi,hai,hsi,HS,HSI,HBI⟩:=hrel
    obtain ⟨e0,hG,hLN,q0,q1,q2,q3⟩:=HG.out _ HBI.out
    by_cases hlt2:i < m
    ·obtain ⟨x,hl⟩:∃ x,gl[i]?=some x:=⟨_,List.getElem?_eq_getElem (by have:=HX.out.2.1;omega)⟩
     obtain ⟨g2,o2,pi,ci,pc,cc,po,co,e5,e1,e2,e3,e4,e6,hLEL⟩:=hG i x hl
     subst e5
     have hokl:=HX.out.2.2.2 x (List.mem_of_getElem? hl)
     obtain ⟨lc,hlc⟩:∃ lc,x.cubes.length=lc:=⟨_,rfl⟩
     rw [hlc] at e3
     have HCK:Hid (∀ U,Below wr.heap.size wr U→U.cell? ⟨B,0,none⟩=some (.int .i64 n.bits)∧U.cell? ⟨B,1,none⟩=some (.slice pp n.ports.length cp)∧U.cell? ⟨B,2,none⟩=some (.slice (some ⟨g0,o0,none⟩) nt ct)∧U.cell? ⟨B,3,none⟩=some (.slice pg n.grds.length cg)):=fun U hU=>⟨keepC hU q0,keepC hU q1,keepC hU q2,keepC hU q3⟩
     have HEC:Hid (∀ U,Below wr.heap.size wr U→U.cell? ⟨g0,o0+k,none⟩=some (.slice (some ⟨g2,o2,none⟩) m c5)∧U.cell? ⟨g2,o2+i*5,none⟩=some (.string ⟨x.nm.toArray⟩)∧U.cell? ⟨g2,o2+i*5+1,none⟩=some (.slice pi x.ins.length ci)∧U.cell? ⟨g2,o2+i*5+2,none⟩=some (.slice pc lc cc)∧U.cell? ⟨g2,o2+i*5+3,none⟩=some (.string ⟨x.wr.toArray⟩)∧U.cell? ⟨g2,o2+i*5+4,none⟩=some (.slice po x.outs.length co)):=fun U hU=>⟨keepC hU e0,keepC hU e1,keepC hU e2,keepC hU e3,keepC hU e4,keepC hU e6⟩
     have HEN:Hid (∀ U,Below wr.heap.size wr U→Calls Tryz.prog 80 #[.agg #[.int .i64 n.bits,.slice pp n.ports.length cp,.slice (some ⟨g0,o0,none⟩) nt ct,.slice pg n.grds.length cg],.int .i64 (k:Int),.agg #[.string ⟨x.nm.toArray⟩,.slice pi x.ins.length ci,.slice pc lc cc,.string ⟨x.wr.toArray⟩,.slice po x.outs.length co]] U (BQ (EntryP n (k:Int) x) U)):=fun U hU=>by
      have:=yentry_any n ⟨pp,cp,some ⟨g0,o0,none⟩,ct,pg,cg⟩ (k:Int) x pi ci pc cc po co U (hLN.below hU) (hLEL.below hU) HZ.out.1 hokl
      unfold nnA neA at this
      simp only at this
      rw [HNT.out,hlc] at this
      exact this
     have HLL:Hid (gl[i]?=some x∧x.cubes.length=lc):=⟨hl,hlc⟩
     have j3:(0:Int)≤(i:Int):=by omega
     have j4:(i:Int) < (m:Int):=by omega
     clear hl hlc hokl hLEL hG hLN HG
     clear e1 e2 e3 e4 e6 q0 q1 q3
     go_wp2_with fail
     refine quiet_lit3 (C:=fun U=>Below wr.heap.size wr U) (by kernel_rfl) (by kernel_rfl) (show Below _ _ _ from (Below.refl _ _).drew) ?_
     go_big_quiet_want
     refine ⟨.agg #[.int .i64 n.bits,.slice pp n.ports.length cp,.slice (some ⟨g0,o0,none⟩) nt ct,.slice pg n.grds.length cg],fun W hW=>?_,?_⟩
     ·obtain ⟨q0,q1,q2,q3⟩:=HCK.out W hW
      go_simp
     go_big_quiet_on
     simp only [Act.put,List.setIfInBounds_toArray,List.set_cons_zero,List.set_cons_succ]
     go_big_quiet_want
     refine ⟨.int .i64 (k:Int),fun W hW=>?_,?_⟩
     ·go_simp
     go_big_quiet_on
     simp only [Act.put,List.setIfInBounds_toArray,List.set_cons_zero,List.set_cons_succ]
     go_big_quiet_want
     refine ⟨.pointer (some ⟨B,2,none⟩),fun W hW=>?_,?_⟩
     ·go_simp
     go_big_quiet_on
     simp only [Act.put,List.setIfInBounds_toArray,List.set_cons_zero,List.set_cons_succ]
     go_big_quiet_want
     refine ⟨.slice (some ⟨g0,o0,none⟩) nt ct,fun W hW=>?_,?_⟩
     ·obtain ⟨q0,q1,q2,q3⟩:=HCK.out W hW
      go_simp
     go_big_quiet_on
     simp only [Act.put,List.setIfInBounds_toArray,List.set_cons_zero,List.set_cons_succ]
     go_big_quiet_want
     refine ⟨.int .i64 (k:Int),fun W hW=>?_,?_⟩
     ·go_simp
     go_big_quiet_on
     simp only [Act.put,List.setIfInBounds_toArray,List.set_cons_zero,List.set_cons_succ]
     go_big_quiet_want
     refine ⟨.pointer (some ⟨g0,o0+k,none⟩),fun W hW=>?_,?_⟩
     ·go_simp
     go_big_quiet_on
     simp only [Act.put,List.setIfInBounds_toArray,List.set_cons_zero,List.set_cons_succ]
     go_big_quiet_want
     refine ⟨.slice (some ⟨g2,o2,none⟩) m c5,fun W hW=>?_,?_⟩
     ·obtain ⟨e1,e2,e3,e4,e5,e6⟩:=HEC.out W hW
      go_simp
     go_big_quiet_on
     simp only [Act.put,List.setIfInBounds_toArray,List.set_cons_zero,List.set_cons_succ]
     go_big_quiet_want
     refine ⟨.int .i64 (i:Int),fun W hW=>?_,?_⟩
     ·go_simp
     go_big_quiet_on
     simp only [Act.put,List.setIfInBounds_toArray,List.set_cons_zero,List.set_cons_succ]
     go_big_quiet_want
     refine ⟨.pointer (some ⟨g2,o2+i*5,none⟩),fun W hW=>?_,?_⟩
     ·go_simp
     go_big_quiet_on
     simp only [Act.put,List.setIfInBounds_toArray,List.set_cons_zero,List.set_cons_succ]
     go_big_quiet_want
     refine ⟨.agg #[.string ⟨x.nm.toArray⟩,.slice pi x.ins.length ci,.slice pc lc cc,.string ⟨x.wr.toArray⟩,.slice po x.outs.length co],fun W hW=>?_,?_⟩
     ·obtain ⟨e1,e2,e3,e4,e5,e6⟩:=HEC.out W hW
      go_simp
     go_big_quiet_on
     simp only [Act.put,List.setIfInBounds_toArray,List.set_cons_zero,List.set_cons_succ]
     go_big_quiet_want
     refine ⟨.bool (pb (EntryP n (k:Int) x)),fun W hW=>?_,?_⟩
     ·go_simp
      refine (HEN.out W hW).mono ?_
      rintro e w7 ⟨rfl,hb⟩
      exact ⟨rfl,bel0Z hW hb⟩
     go_big_quiet_on
     simp only [Act.put,List.setIfInBounds_toArray,List.set_cons_zero,List.set_cons_succ]
     go_big_quiet_want
     go_big_quiet_op
     go_big_quiet_on
     refine wpQuiet_nil ?_
     intro W4 hW4
     have HB4:Hid (Below W1.heap.size W1 W4):=bel0Z HB.out (bel0Z HBI.out hW4)
     have HB5:Hid (Below wo.heap.size wo W4):=bel0Z HBI.out hW4
     obtain ⟨-,-,q2,-⟩:=HCK.out W4 hW4
     obtain ⟨e0,-,-,e3,-,-⟩:=HEC.out W4 hW4
     clear hW4
     cases hp:pb (EntryP n (k:Int) x) with
     | false=>
      have HQ:=hideL (HQF.out W4 HB4.out (fun h=>pb_not hp (((HPP.out ▸ h).1 k gl HX.out.1).1 x (List.mem_of_getElem? HLL.out.1))))
      clear hp
      go_wp2_with fail
      go_ret
      exact HQ.out
     | true=>
      have hcp:=pb_iff.1 hp
      have hl64:lc≤64:=by have:=hcp.2.2.1.1;have:=HLL.out.2;omega
      have HN1:Hid (sumE (gl.take (i+1))=a+lc∧∀ e∈gl.take (i+1),EntryP n (k:Int) e):=⟨by rw [sumE_take HLL.out.1,HSI.out.1,HLL.out.2],all_take HLL.out.1 HSI.out.2 hcp⟩
      have HS1:Hid (s+1=t+(i+1)):=by have:=HS.out;show _=_;omega
      clear hp hcp HSI HS
      go_wp2_with fail
      go_roundw
      case rel=>exact ⟨i+1,a+lc,s+1,by go_num,by go_num,by go_num,by omega,by omega,by omega,HS1,HN1,HB5⟩
      case measure=>simp [intOf];omega
    ·obtain rfl:i=m:=by omega
     have j4:¬(i:Int) < (i:Int):=by omega
     have HE:Hid (sumE gl=a∧∀ l∈gl,EntryP n (k:Int) l):=by
      have h1:=HSI.out
      rw [List.take_of_length_le (by have:=HX.out.2.1;omega)] at h1
      exact h1
     have HB4:Hid (Below W1.heap.size W1 wr):=bel0Z HB.out HBI.out
     by_cases h512:512 < a
     ·have j5:(512:Int) < (a:Int):=by omega
      have HQ:=hideL (HQF.out wr HB4.out (fun h=>by have h9:=((HPP.out ▸ h).1 k gl HX.out.1).2;have:=HE.out.1;omega))
      clear hG HG HSI HS h512 hLN
      go_wp2_with fail
      go_ret
      exact HQ.out
     ·have j5:¬(512:Int) < (a:Int):=by omega
      have HN1:Hid (((n.tabs.take (k+1)).map (·.length)).sum=s∧∀ (j:Nat) (t:List NE),j < k+1→n.tabs[j]?=some t→TabP n (j:Int) t):=⟨by rw [tot_take HX.out.1,HSO.out.1,HX.out.2.1,HS.out],fun j t hj ht=>by
       rcases Nat.lt_or_ge j k with h1 | h1
       ·exact HSO.out.2 j t h1 ht
       ·obtain rfl:j=k:=by omega
        rw [HX.out.1] at ht
        rw [←Option.some.inj ht]
        exact ⟨HE.out.2,by have:=HE.out.1;omega⟩⟩
      have hs9:s≤(k+1)*1353245080300:=by have:=HS.out;omega
      clear hG HG HSI HS h512 HE HSO hLN
      go_wp2_with fail
      go_roundw
      case rel=>exact ⟨k+1,s,rfl,by go_num,by omega,hs9,HN1,HB4⟩
      case measure=>simp [intOf];omega
  ·obtain rfl:k=nt:=by omega
   have j2:¬(k:Int) < (k:Int):=by omega
   have HE:Hid (totT n=t∧∀ (j:Nat) (t:List NE),n.tabs[j]?=some t→TabP n (j:Int) t):=by
    have h1:=HSO.out
    rw [List.take_of_length_le (by have:=HNT.out;omega)] at h1
    exact ⟨h1.1,fun j t ht=>h1.2 j t (by have:=(List.getElem?_eq_some_iff.1 ht).1;have:=HNT.out;omega) ht⟩
   by_cases h64:t≤256
   ·have j5:(t:Int)≤256:=by omega
    have HQ:=hideL (HQT.out wo HB.out (HPP.out ▸ ⟨HE.out.2,by have:=HE.out.1;omega⟩))
    clear HSO HE h64 HNN HC
    go_wp2_with fail
    go_ret
    exact HQ.out
   ·have j5:¬(t:Int)≤256:=by omega
    have HQ:=hideL (HQF.out wo HB.out (fun h=>by have:=(HPP.out ▸ h).2;have:=HE.out.1;omega))
    clear HSO HE h64 HNN HC
    go_wp2_with fail
    go_ret
    exact HQ.out
end Go.Proofs.YtciffggmobblpaaGreatDoor.Nt
