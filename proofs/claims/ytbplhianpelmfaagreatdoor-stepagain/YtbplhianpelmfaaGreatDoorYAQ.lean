import Derived.Test.YtbplhianpelmfaaGreatDoorYAP
namespace Go.Proofs.YtbplhianpelmfaaGreatDoor.Nt
open Go.RowKit Go.Shelf
set_option maxRecDepth 100000 in
set_option maxHeartbeats 16000000 in
theorem xguards_any (n:NN) (v:NV) (w:World) (hN:LN w n v) (hS:SizeP n) (hO:okN n) :
  Calls Tryz.prog 73 #[.agg (nnA n v)] w (BQ (∀ g∈n.grds,LinesP n.bits g) w):=by
 obtain ⟨pp,cp,pt,ct,pg,cg⟩:=v
 unfold nnA
 simp only at hN ⊢
 obtain ⟨W1,hW1⟩:∃ W1,w.alloc (Obj.cells #[.int .i64 n.bits,.slice pp n.ports.length cp,.slice pt n.tabs.length ct,.slice pg n.grds.length cg] 26)=W1:=⟨_,rfl⟩
 have b1:Below w.heap.size w W1:=by rw [←hW1];exact belAZ (Below.refl _ _) _
 obtain ⟨B,hB⟩:∃ B,w.heap.size=B:=⟨_,rfl⟩
 have k1:W1.heap[B]?=some (.cells #[.int .i64 n.bits,.slice pp n.ports.length cp,.slice pt n.tabs.length ct,.slice pg n.grds.length cg] 26 (0,0)):=by rw [←hW1,←hB];exact alloc_getZ _ _
 have HC:Hid (∀ U,Below W1.heap.size W1 U→U.cell? ⟨B,0,none⟩=some (.int .i64 n.bits)∧U.cell? ⟨B,1,none⟩=some (.slice pp n.ports.length cp)∧U.cell? ⟨B,2,none⟩=some (.slice pt n.tabs.length ct)∧U.cell? ⟨B,3,none⟩=some (.slice pg n.grds.length cg)):=fun U hU=>by
  have:=(cellsZ (keepZ hU k1)).1
  exact ⟨by rw [this];rfl,by rw [this];rfl,by rw [this];rfl,by rw [this];rfl⟩
 have HNN:Hid (∀ U,Below W1.heap.size W1 U→LN U n ⟨pp,cp,pt,ct,pg,cg⟩):=fun U hU=>hN.below (bel0Z b1 hU)
 have HB1:=hideL b1
 have HBB:=hideL hB
 have HW:=hideL hW1
 clear k1 b1 hB hW1 hN
 obtain ⟨PP,hPP⟩:∃ PP:Prop,(∀ g∈n.grds,LinesP n.bits g)=PP:=⟨_,rfl⟩
 have HPP:Hid (PP=(∀ g∈n.grds,LinesP n.bits g)):=hPP.symm
 rw [hPP]
 have HZ:Hid (SizeP n∧okN n):=⟨hS,hO⟩
 have HQT:Hid (∀ U,Below W1.heap.size W1 U→PP→BQ PP w (.returned (.bool true)) U):=fun U hU h=>BQ.yes h (bel0Z HB1.out hU)
 have HQF:Hid (∀ U,Below W1.heap.size W1 U→¬PP→BQ PP w (.returned (.bool false)) U):=fun U hU h=>BQ.no h (bel0Z HB1.out hU)
 obtain ⟨ng,hng⟩:∃ ng,n.grds.length=ng:=⟨_,rfl⟩
 have hng48:ng≤48:=by have:=hS.2.2.2.1;have:=hS.2.2.2.2;omega
 have HNG:=hideL hng
 rw [hng] at HC HW ⊢
 clear hS hO hng hPP
 obtain ⟨q0,q1,q2,q3⟩:=HC.out W1 (Below.refl _ _)
 go_enter Tryz.func73,Tryz.ntmps73
 go_upto_region 1 with fail
 rw [HW.out,HBB.out]
 go_wp2_with fail
 clear q0 q1 q2 q3
 go_loopw [11] (fun vk wr=>∃ k:Nat,vk=.int .i64 (k:Int)∧k≤ng∧Hid (∀ g∈n.grds.take k,LinesP n.bits g)∧Hid (Below W1.heap.size W1 wr)) (fun vk _=>ng - (intOf vk).toNat)
 case atStart=>exact ⟨0,rfl,Nat.zero_le _,fun g hg=>by simp at hg,Below.refl _ _⟩
 case round=>
  obtain ⟨wo,rfl⟩:∃ wo,wo=wr:=⟨wr,rfl⟩
  obtain ⟨k,rfl,hk,HSO,HB⟩:=hrel
  by_cases hlt:k < ng
  ·obtain ⟨gl,hx⟩:∃ gl,n.grds[k]?=some gl:=⟨_,List.getElem?_eq_getElem (by have:=HNG.out;omega)⟩
   obtain ⟨g0,o0,p5,c5,e5,e0,hG,hcl⟩:=(HNN.out wo HB.out).2.2.2.2.1 k gl hx
   simp only at e5
   subst e5
   have hok:=HZ.out.2.2.2.2.2.2 gl (List.mem_of_getElem? hx)
   obtain ⟨m,hm⟩:∃ m,gl.length=m:=⟨_,rfl⟩
   have hm43:m≤4398046510976:=by have:=hok.1;omega
   rw [hm] at e0
   have HX:Hid (n.grds[k]?=some gl∧gl.length=m∧okGl gl):=⟨hx,hm,hok⟩
   have HG:Hid (∀ U,Below wo.heap.size wo U→LG U p5 gl∧U.cell? ⟨B,0,none⟩=some (.int .i64 n.bits)):=fun U hU=>⟨hG.below hU,(HC.out U (bel0Z HB.out hU)).1⟩
   have j1:(0:Int)≤(k:Int):=by omega
   have j2:(k:Int) < (ng:Int):=by omega
   clear hx hG hcl hok hm HNN
   go_wp2_with fail
   clear e0
   go_loopw [5,17] (fun v5 v6 wr=>∃ i a:Nat,v5=.int .i64 (a:Int)∧v6=.int .i64 (i:Int)∧i≤m∧a≤i*64∧Hid (sumG (gl.take i)=a∧∀ l∈gl.take i,CubesP n.bits l.cubes)∧Hid (Below wo.heap.size wo wr)) (fun _ v6 _=>m - (intOf v6).toNat)
   case atStart=>exact ⟨0,0,rfl,rfl,Nat.zero_le _,Nat.zero_le _,⟨rfl,fun g hg=>by simp at hg⟩,Below.refl _ _⟩
   case round=>
    obtain ⟨i,a,rfl,rfl,hi,hai,HSI,HBI⟩:=hrel
    obtain ⟨hG,q0⟩:=HG.out _ HBI.out
    by_cases hlt2:i < m
    ·obtain ⟨l,hl⟩:∃ l,gl[i]?=some l:=⟨_,List.getElem?_eq_getElem (by have:=HX.out.2.1;omega)⟩
     obtain ⟨g2,o2,pc,cc,e5,e1,e2,hLS,hcc⟩:=hG i l hl
     subst e5
     have hokl:=HX.out.2.2.2 l (List.mem_of_getElem? hl)
     obtain ⟨lc,hlc⟩:∃ lc,l.cubes.length=lc:=⟨_,rfl⟩
     rw [hlc] at e2
     obtain ⟨W3,hW3⟩:∃ W3,wr.alloc (Obj.cells #[.bool l.pm,.slice pc lc cc] 86)=W3:=⟨_,rfl⟩
     have b3:Below wr.heap.size wr W3:=by rw [←hW3];exact belAZ (Below.refl _ _) _
     obtain ⟨b7,hb7⟩:∃ b7,wr.heap.size=b7:=⟨_,rfl⟩
     have k3:W3.heap[b7]?=some (.cells #[.bool l.pm,.slice pc lc cc] 86 (0,0)):=by rw [←hW3,←hb7];exact alloc_getZ _ _
     have HK7:Hid (∀ U,Below W3.heap.size W3 U→U.cell? ⟨b7,1,none⟩=some (.slice pc lc cc)∧U.cell? ⟨B,0,none⟩=some (.int .i64 n.bits)∧Below wo.heap.size wo U):=fun U hU=>⟨by rw [(cellsZ (keepZ hU k3)).1];rfl,keepC hU (keepC b3 q0),bel0Z (bel0Z HBI.out b3) hU⟩
     have HCU:=xcubes_any n.bits l.cubes pc lc cc W3 HZ.out.1.2.1 hlc (by have:=hokl.1;omega) (hLS.below b3)
     have HLL:Hid (gl[i]?=some l∧l.cubes.length=lc):=⟨hl,hlc⟩
     have j3:(0:Int)≤(i:Int):=by omega
     have j4:(i:Int) < (m:Int):=by omega
     have HW3:=hideL hW3
     have HB7:=hideL hb7
     obtain ⟨u1,u0,-⟩:=HK7.out W3 (Below.refl _ _)
     clear hl hlc hokl hLS hcc hG hW3 hb7 k3 b3 HG
     go_upto_region 8 with fail
     rw [HW3.out,HB7.out]
     clear e1 e2 q0
     go_wp2_with fail
     refine HCU.mono ?_
     rintro en W4 ⟨rfl,b4⟩
     obtain ⟨c1,c0,hb4⟩:=HK7.out W4 b4
     have HB4:Hid (Below W1.heap.size W1 W4):=bel0Z HB.out hb4
     have HB5:Hid (Below wo.heap.size wo W4):=hb4
     clear HCU b4 hb4 u0 u1
     cases hp:pb (CubesP n.bits l.cubes) with
     | false=>
      have HQ:=hideL (HQF.out W4 HB4.out (fun h=>pb_not hp (((HPP.out ▸ h:∀ g∈n.grds,LinesP n.bits g) gl (List.mem_of_getElem? HX.out.1)).1 l (List.mem_of_getElem? HLL.out.1))))
      clear hp
      go_wp2_with fail
      go_ret
      exact HQ.out
     | true=>
      have hcp:=pb_iff.1 hp
      have hl64:lc≤64:=by have:=hcp.1;have:=HLL.out.2;omega
      have HN1:Hid (sumG (gl.take (i+1))=a+lc∧∀ l∈gl.take (i+1),CubesP n.bits l.cubes):=⟨by rw [sumG_take HLL.out.1,HSI.out.1,HLL.out.2],all_take HLL.out.1 HSI.out.2 hcp⟩
      clear hp hcp HSI
      go_wp2_with fail
      go_roundw
      case rel=>exact ⟨i+1,a+lc,by go_num,by go_num,by omega,by omega,HN1,HB5⟩
      case measure=>simp [intOf];omega
    ·obtain rfl:i=m:=by omega
     have j4:¬(i:Int) < (i:Int):=by omega
     have HE:Hid (sumG gl=a∧∀ l∈gl,CubesP n.bits l.cubes):=by
      have h1:=HSI.out
      rw [List.take_of_length_le (by have:=HX.out.2.1;omega)] at h1
      exact h1
     have HB4:Hid (Below W1.heap.size W1 wr):=bel0Z HB.out HBI.out
     by_cases h512:512 < a
     ·have j5:(512:Int) < (a:Int):=by omega
      have HQ:=hideL (HQF.out wr HB4.out (fun h=>by have h9:=((HPP.out ▸ h:∀ g∈n.grds,LinesP n.bits g) gl (List.mem_of_getElem? HX.out.1)).2;have:=HE.out.1;omega))
      clear hG HG HSI h512
      go_wp2_with fail
      go_ret
      exact HQ.out
     ·have j5:¬(512:Int) < (a:Int):=by omega
      have HN1:Hid (∀ g∈n.grds.take (k+1),LinesP n.bits g):=all_take HX.out.1 HSO.out ⟨HE.out.2,by have:=HE.out.1;omega⟩
      clear hG HG HSI h512 HE HSO
      go_wp2_with fail
      go_roundw
      case rel=>exact ⟨k+1,by go_num,by omega,HN1,HB4⟩
      case measure=>simp [intOf];omega
  ·obtain rfl:k=ng:=by omega
   have j2:¬(k:Int) < (k:Int):=by omega
   have HQ:=hideL (HQT.out wo HB.out (HPP.out ▸ (by have h1:=HSO.out;rw [List.take_of_length_le (by have:=HNG.out;omega)] at h1;exact h1:∀ g∈n.grds,LinesP n.bits g)))
   clear HSO HNN
   go_wp2_with fail
   go_ret
   exact HQ.out
set_option maxRecDepth 100000 in
set_option maxHeartbeats 16000000 in
theorem xtables_any (n:NN) (v:NV) (w:World) (hN:LN w n v) (hS:SizeP n) (hO:okN n) :
  Calls Tryz.prog 74 #[.agg (nnA n v)] w (BQ (∀ (k:Nat) (t:List NE),n.tabs[k]?=some t→TabP n (k:Int) t) w):=by
 obtain ⟨pp,cp,pt,ct,pg,cg⟩:=v
 unfold nnA
 simp only at hN ⊢
 obtain ⟨W1,hW1⟩:∃ W1,w.alloc (Obj.cells #[.int .i64 n.bits,.slice pp n.ports.length cp,.slice pt n.tabs.length ct,.slice pg n.grds.length cg] 26)=W1:=⟨_,rfl⟩
 have b1:Below w.heap.size w W1:=by rw [←hW1];exact belAZ (Below.refl _ _) _
 obtain ⟨B,hB⟩:∃ B,w.heap.size=B:=⟨_,rfl⟩
 have k1:W1.heap[B]?=some (.cells #[.int .i64 n.bits,.slice pp n.ports.length cp,.slice pt n.tabs.length ct,.slice pg n.grds.length cg] 26 (0,0)):=by rw [←hW1,←hB];exact alloc_getZ _ _
 have HC:Hid (∀ U,Below W1.heap.size W1 U→U.cell? ⟨B,0,none⟩=some (.int .i64 n.bits)∧U.cell? ⟨B,1,none⟩=some (.slice pp n.ports.length cp)∧U.cell? ⟨B,2,none⟩=some (.slice pt n.tabs.length ct)∧U.cell? ⟨B,3,none⟩=some (.slice pg n.grds.length cg)):=fun U hU=>by
  have:=(cellsZ (keepZ hU k1)).1
  exact ⟨by rw [this];rfl,by rw [this];rfl,by rw [this];rfl,by rw [this];rfl⟩
 have HNN:Hid (∀ U,Below W1.heap.size W1 U→LN U n ⟨pp,cp,pt,ct,pg,cg⟩):=fun U hU=>hN.below (bel0Z b1 hU)
 have HB1:=hideL b1
 have HBB:=hideL hB
 have HW:=hideL hW1
 clear k1 b1 hB hW1 hN
 obtain ⟨PP,hPP⟩:∃ PP:Prop,(∀ (k:Nat) (t:List NE),n.tabs[k]?=some t→TabP n (k:Int) t)=PP:=⟨_,rfl⟩
 have HPP:Hid (PP=(∀ (k:Nat) (t:List NE),n.tabs[k]?=some t→TabP n (k:Int) t)):=hPP.symm
 rw [hPP]
 have HZ:Hid (SizeP n∧okN n):=⟨hS,hO⟩
 have HQT:Hid (∀ U,Below W1.heap.size W1 U→PP→BQ PP w (.returned (.bool true)) U):=fun U hU h=>BQ.yes h (bel0Z HB1.out hU)
 have HQF:Hid (∀ U,Below W1.heap.size W1 U→¬PP→BQ PP w (.returned (.bool false)) U):=fun U hU h=>BQ.no h (bel0Z HB1.out hU)
 obtain ⟨nt,hnt⟩:∃ nt,n.tabs.length=nt:=⟨_,rfl⟩
 have hnt16:nt≤16:=by have:=hS.2.2.1;omega
 have HNT:=hideL hnt
 rw [hnt] at HC HW ⊢
 clear hS hO hnt hPP
 obtain ⟨q0,q1,q2,q3⟩:=HC.out W1 (Below.refl _ _)
 go_enter Tryz.func74,Tryz.ntmps74
 go_upto_region 1 with fail
 rw [HW.out,HBB.out]
 go_wp2_with fail
 clear q0 q1 q2 q3
 go_loopw [11] (fun vk wr=>∃ k:Nat,vk=.int .i64 (k:Int)∧k≤nt∧Hid (∀ (j:Nat) (t:List NE),j < k→n.tabs[j]?=some t→TabP n (j:Int) t)∧Hid (Below W1.heap.size W1 wr)) (fun vk _=>nt - (intOf vk).toNat)
 case atStart=>exact ⟨0,rfl,Nat.zero_le _,fun j t h=>by omega,Below.refl _ _⟩
 case round=>
  obtain ⟨wo,rfl⟩:∃ wo,wo=wr:=⟨wr,rfl⟩
  obtain ⟨k,rfl,hk,HSO,HB⟩:=hrel
  by_cases hlt:k < nt
  ·obtain ⟨gl,hx⟩:∃ gl,n.tabs[k]?=some gl:=⟨_,List.getElem?_eq_getElem (by have:=HNT.out;omega)⟩
   have hNw:=HNN.out wo HB.out
   obtain ⟨g0,o0,p5,c5,e5,e0,hG,hcl⟩:=hNw.2.2.1 k gl hx
   simp only at e5
   subst e5
   have hok:=HZ.out.2.2.2.2.1 gl (List.mem_of_getElem? hx)
   obtain ⟨m,hm⟩:∃ m,gl.length=m:=⟨_,rfl⟩
   have hm43:m≤1353245080300:=by have:=hok.1;omega
   rw [hm] at e0
   have HX:Hid (n.tabs[k]?=some gl∧gl.length=m∧okTab gl):=⟨hx,hm,hok⟩
   have HG:Hid (∀ U,Below wo.heap.size wo U→LE U p5 gl∧LN U n ⟨pp,cp,some ⟨g0,o0,none⟩,ct,pg,cg⟩∧(U.cell? ⟨B,0,none⟩=some (.int .i64 n.bits)∧U.cell? ⟨B,1,none⟩=some (.slice pp n.ports.length cp)∧U.cell? ⟨B,2,none⟩=some (.slice (some ⟨g0,o0,none⟩) nt ct)∧U.cell? ⟨B,3,none⟩=some (.slice pg n.grds.length cg))):=fun U hU=>⟨hG.below hU,hNw.below hU,HC.out U (bel0Z HB.out hU)⟩
   have j1:(0:Int)≤(k:Int):=by omega
   have j2:(k:Int) < (nt:Int):=by omega
   clear hx hG hcl hok hm HNN hNw
   go_wp2_with fail
   clear e0
   go_loopw [5,18] (fun v5 v6 wr=>∃ i a:Nat,v5=.int .i64 (a:Int)∧v6=.int .i64 (i:Int)∧i≤m∧a≤i*64∧Hid (sumE (gl.take i)=a∧∀ e∈gl.take i,EntryP n (k:Int) e)∧Hid (Below wo.heap.size wo wr)) (fun _ v6 _=>m - (intOf v6).toNat)
   case atStart=>exact ⟨0,0,rfl,rfl,Nat.zero_le _,Nat.zero_le _,⟨rfl,fun g hg=>by simp at hg⟩,Below.refl _ _⟩
   case round=>
    obtain ⟨i,a,rfl,rfl,hi,hai,HSI,HBI⟩:=hrel
    obtain ⟨hG,hLN,q0,q1,q2,q3⟩:=HG.out _ HBI.out
    by_cases hlt2:i < m
    ·obtain ⟨x,hl⟩:∃ x,gl[i]?=some x:=⟨_,List.getElem?_eq_getElem (by have:=HX.out.2.1;omega)⟩
     obtain ⟨g2,o2,pi,ci,pc,cc,po,co,e5,e1,e2,e3,e4,e6,hLEL⟩:=hG i x hl
     subst e5
     have hokl:=HX.out.2.2.2 x (List.mem_of_getElem? hl)
     obtain ⟨lc,hlc⟩:∃ lc,x.cubes.length=lc:=⟨_,rfl⟩
     rw [hlc] at e3
     obtain ⟨W3,hW3⟩:∃ W3,wr.alloc (Obj.cells #[.string ⟨x.nm.toArray⟩,.slice pi x.ins.length ci,.slice pc lc cc,.string ⟨x.wr.toArray⟩,.slice po x.outs.length co] 41)=W3:=⟨_,rfl⟩
     have b3:Below wr.heap.size wr W3:=by rw [←hW3];exact belAZ (Below.refl _ _) _
     obtain ⟨b7,hb7⟩:∃ b7,wr.heap.size=b7:=⟨_,rfl⟩
     have k3:W3.heap[b7]?=some (.cells #[.string ⟨x.nm.toArray⟩,.slice pi x.ins.length ci,.slice pc lc cc,.string ⟨x.wr.toArray⟩,.slice po x.outs.length co] 41 (0,0)):=by rw [←hW3,←hb7];exact alloc_getZ _ _
     have HK7:Hid (∀ U,Below W3.heap.size W3 U→(U.cell? ⟨b7,0,none⟩=some (.string ⟨x.nm.toArray⟩)∧U.cell? ⟨b7,1,none⟩=some (.slice pi x.ins.length ci)∧U.cell? ⟨b7,2,none⟩=some (.slice pc lc cc)∧U.cell? ⟨b7,3,none⟩=some (.string ⟨x.wr.toArray⟩)∧U.cell? ⟨b7,4,none⟩=some (.slice po x.outs.length co))∧(U.cell? ⟨B,0,none⟩=some (.int .i64 n.bits)∧U.cell? ⟨B,1,none⟩=some (.slice pp n.ports.length cp)∧U.cell? ⟨B,2,none⟩=some (.slice (some ⟨g0,o0,none⟩) nt ct)∧U.cell? ⟨B,3,none⟩=some (.slice pg n.grds.length cg))∧Below wo.heap.size wo U):=fun U hU=>by
      have:=(cellsZ (keepZ hU k3)).1
      exact ⟨⟨by rw [this];rfl,by rw [this];rfl,by rw [this];rfl,by rw [this];rfl,by rw [this];rfl⟩,⟨keepC hU (keepC b3 q0),keepC hU (keepC b3 q1),keepC hU (keepC b3 q2),keepC hU (keepC b3 q3)⟩,bel0Z (bel0Z HBI.out b3) hU⟩
     have HCU:Calls Tryz.prog 81 #[.agg #[.int .i64 n.bits,.slice pp n.ports.length cp,.slice (some ⟨g0,o0,none⟩) nt ct,.slice pg n.grds.length cg],.int .i64 (k:Int),.agg #[.string ⟨x.nm.toArray⟩,.slice pi x.ins.length ci,.slice pc lc cc,.string ⟨x.wr.toArray⟩,.slice po x.outs.length co]] W3 (BQ (EntryP n (k:Int) x) W3):=by
      have:=xentry_any n ⟨pp,cp,some ⟨g0,o0,none⟩,ct,pg,cg⟩ (k:Int) x pi ci pc cc po co W3 (hLN.below b3) (hLEL.below b3) HZ.out.1 hokl
      unfold nnA neA at this
      simp only at this
      rw [HNT.out,hlc] at this
      exact this
     have HLL:Hid (gl[i]?=some x∧x.cubes.length=lc):=⟨hl,hlc⟩
     have j3:(0:Int)≤(i:Int):=by omega
     have j4:(i:Int) < (m:Int):=by omega
     have HW3:=hideL hW3
     have HB7:=hideL hb7
     clear hl hlc hokl hLEL hG hW3 hb7 k3 b3 HG hLN
     go_upto_region 8 with fail
     rw [HW3.out,HB7.out]
     clear e1 e2 e3 e4 e6 q0 q1 q2 q3
     obtain ⟨⟨u0,u1,u2,u3,u4⟩,⟨q0,q1,q2,q3⟩,-⟩:=HK7.out W3 (Below.refl _ _)
     go_wp2_with fail
     refine HCU.mono ?_
     rintro en W4 ⟨rfl,b4⟩
     clear u0 u1 u2 u3 u4 q0 q1 q2 q3
     obtain ⟨⟨-,-,u2,-,-⟩,-,hb4⟩:=HK7.out W4 b4
     have HB4:Hid (Below W1.heap.size W1 W4):=bel0Z HB.out hb4
     have HB5:Hid (Below wo.heap.size wo W4):=hb4
     clear HCU b4 hb4
     cases hp:pb (EntryP n (k:Int) x) with
     | false=>
      have HQ:=hideL (HQF.out W4 HB4.out (fun h=>pb_not hp (((HPP.out ▸ h:∀ (k:Nat) (t:List NE),n.tabs[k]?=some t→TabP n (k:Int) t) k gl HX.out.1).1 x (List.mem_of_getElem? HLL.out.1))))
      clear hp
      go_wp2_with fail
      go_ret
      exact HQ.out
     | true=>
      have hcp:=pb_iff.1 hp
      have hl64:lc≤64:=by have:=hcp.2.2.1.1;have:=HLL.out.2;omega
      have HN1:Hid (sumE (gl.take (i+1))=a+lc∧∀ e∈gl.take (i+1),EntryP n (k:Int) e):=⟨by rw [sumE_take HLL.out.1,HSI.out.1,HLL.out.2],all_take HLL.out.1 HSI.out.2 hcp⟩
      clear hp hcp HSI
      go_wp2_with fail
      go_roundw
      case rel=>exact ⟨i+1,a+lc,by go_num,by go_num,by omega,by omega,HN1,HB5⟩
      case measure=>simp [intOf];omega
    ·obtain rfl:i=m:=by omega
     have j4:¬(i:Int) < (i:Int):=by omega
     have HE:Hid (sumE gl=a∧∀ l∈gl,EntryP n (k:Int) l):=by
      have h1:=HSI.out
      rw [List.take_of_length_le (by have:=HX.out.2.1;omega)] at h1
      exact h1
     have HB4:Hid (Below W1.heap.size W1 wr):=bel0Z HB.out HBI.out
     by_cases h512:512 < a
     ·have j5:(512:Int) < (a:Int):=by omega
      have HQ:=hideL (HQF.out wr HB4.out (fun h=>by have h9:=((HPP.out ▸ h:∀ (k:Nat) (t:List NE),n.tabs[k]?=some t→TabP n (k:Int) t) k gl HX.out.1).2;have:=HE.out.1;omega))
      clear hG HG HSI h512 hLN
      go_wp2_with fail
      go_ret
      exact HQ.out
     ·have j5:¬(512:Int) < (a:Int):=by omega
      have HN1:Hid (∀ (j:Nat) (t:List NE),j < k+1→n.tabs[j]?=some t→TabP n (j:Int) t):=fun j t hj ht=>by
       rcases Nat.lt_or_ge j k with h1 | h1
       ·exact HSO.out j t h1 ht
       ·obtain rfl:j=k:=by omega
        rw [HX.out.1] at ht
        rw [←Option.some.inj ht]
        exact ⟨HE.out.2,by have:=HE.out.1;omega⟩
      clear hG HG HSI h512 HE HSO hLN
      go_wp2_with fail
      go_roundw
      case rel=>exact ⟨k+1,by go_num,by omega,HN1,HB4⟩
      case measure=>simp [intOf];omega
  ·obtain rfl:k=nt:=by omega
   have j2:¬(k:Int) < (k:Int):=by omega
   have HQ:=hideL (HQT.out wo HB.out (HPP.out ▸ (fun j t ht=>HSO.out j t (by have:=(List.getElem?_eq_some_iff.1 ht).1;have:=HNT.out;omega) ht:∀ (k:Nat) (t:List NE),n.tabs[k]?=some t→TabP n (k:Int) t)))
   clear HSO HNN
   go_wp2_with fail
   go_ret
   exact HQ.out
set_option maxRecDepth 100000 in
set_option maxHeartbeats 8000000 in
theorem xnet_any (n:NN) (v:NV) (w:World) (hN:LN w n v) (hO:okN n) (hT:TAB w) :
  Calls Tryz.prog 60 #[.agg (nnA n v)] w (BQ (NetP n) w):=by
 obtain ⟨pp,cp,pt,ct,pg,cg⟩:=v
 unfold nnA
 simp only at hN ⊢
 obtain ⟨W1,hW1⟩:∃ W1,w.alloc (Obj.cells #[.int .i64 n.bits,.slice pp n.ports.length cp,.slice pt n.tabs.length ct,.slice pg n.grds.length cg] 26)=W1:=⟨_,rfl⟩
 have b1:Below w.heap.size w W1:=by rw [←hW1];exact belAZ (Below.refl _ _) _
 obtain ⟨B,hB⟩:∃ B,w.heap.size=B:=⟨_,rfl⟩
 have k1:W1.heap[B]?=some (.cells #[.int .i64 n.bits,.slice pp n.ports.length cp,.slice pt n.tabs.length ct,.slice pg n.grds.length cg] 26 (0,0)):=by rw [←hW1,←hB];exact alloc_getZ _ _
 have HC:Hid (∀ U,Below W1.heap.size W1 U→U.cell? ⟨B,0,none⟩=some (.int .i64 n.bits)∧U.cell? ⟨B,1,none⟩=some (.slice pp n.ports.length cp)∧U.cell? ⟨B,2,none⟩=some (.slice pt n.tabs.length ct)∧U.cell? ⟨B,3,none⟩=some (.slice pg n.grds.length cg)):=fun U hU=>by
  have:=(cellsZ (keepZ hU k1)).1
  exact ⟨by rw [this];rfl,by rw [this];rfl,by rw [this];rfl,by rw [this];rfl⟩
 have HNN:Hid (∀ U,Below W1.heap.size W1 U→LN U n ⟨pp,cp,pt,ct,pg,cg⟩):=fun U hU=>hN.below (bel0Z b1 hU)
 have HB1:=hideL b1
 have HBB:=hideL hB
 have HW:=hideL hW1
 clear k1 b1 hB hW1 hN
 obtain ⟨q0,q1,q2,q3⟩:=HC.out W1 (Below.refl _ _)
 have HQT:Hid (∀ U,Below W1.heap.size W1 U→NetP n→BQ (NetP n) w (.returned (.bool true)) U):=fun U hU h=>BQ.yes h (bel0Z HB1.out hU)
 have HQF:Hid (∀ U,Below W1.heap.size W1 U→¬NetP n→BQ (NetP n) w (.returned (.bool false)) U):=fun U hU h=>BQ.no h (bel0Z HB1.out hU)
 by_cases c0:n.bits < 1
 ·have j0:(n.bits:Int) < 1:=by omega
  have HQ:=hideL (HQF.out W1 (Below.refl _ _) (fun h=>by have:=h.1.1;omega))
  clear hO c0
  go_enter Tryz.func60,Tryz.ntmps60
  go_upto_region 1 with fail
  rw [HW.out,HBB.out]
  go_wp2_with fail
  go_ret
  exact HQ.out
 have j0:¬(n.bits:Int) < 1:=by omega
 by_cases c1:256 < n.bits
 ·have j1:(256:Int) < n.bits:=by omega
  have HQ:=hideL (HQF.out W1 (Below.refl _ _) (fun h=>by have:=h.1.2.1;omega))
  clear hO c1
  go_enter Tryz.func60,Tryz.ntmps60
  go_upto_region 1 with fail
  rw [HW.out,HBB.out]
  go_wp2_with fail
  go_ret
  exact HQ.out
 have j1:¬(256:Int) < n.bits:=by omega
 by_cases c2:16 < n.tabs.length
 ·have j2:(16:Int) < (n.tabs.length:Int):=by omega
  have HQ:=hideL (HQF.out W1 (Below.refl _ _) (fun h=>by have:=h.1.2.2.1;omega))
  clear hO c2
  go_enter Tryz.func60,Tryz.ntmps60
  go_upto_region 1 with fail
  rw [HW.out,HBB.out]
  go_wp2_with fail
  go_ret
  exact HQ.out
 have j2:¬(16:Int) < (n.tabs.length:Int):=by omega
 by_cases c3:48 < n.ports.length
 ·have j3:(48:Int) < (n.ports.length:Int):=by omega
  have HQ:=hideL (HQF.out W1 (Below.refl _ _) (fun h=>by have:=h.1.2.2.2.1;omega))
  clear hO c3
  go_enter Tryz.func60,Tryz.ntmps60
  go_upto_region 1 with fail
  rw [HW.out,HBB.out]
  go_wp2_with fail
  go_ret
  exact HQ.out
 have j3:¬(48:Int) < (n.ports.length:Int):=by omega
 by_cases c4:n.grds.length=n.ports.length
 rotate_left
 ·have y4:((n.grds.length:Int)==(n.ports.length:Int))=false:=beq_eq_false_iff_ne.2 (by omega)
  have y5:((n.grds.length:Int) != (n.ports.length:Int))=true:=by simp only [bne,y4];rfl
  have HQ:=hideL (HQF.out W1 (Below.refl _ _) (fun h=>c4 h.1.2.2.2.2))
  clear hO c4
  go_enter Tryz.func60,Tryz.ntmps60
  go_upto_region 1 with fail
  rw [HW.out,HBB.out]
  go_wp2_with fail
  go_ret
  exact HQ.out
 have y4:((n.grds.length:Int)==(n.ports.length:Int))=true:=beq_iff_eq.2 (by omega)
 have y5:((n.grds.length:Int) != (n.ports.length:Int))=false:=by simp only [bne,y4];rfl
 have hS:SizeP n:=⟨by omega,by omega,by omega,by omega,by omega⟩
 have HS:=hideL hS
 have hLN1:=HNN.out W1 (Below.refl _ _)
 have HG1:=xtotG_any n pg n.grds.length cg W1 rfl (by omega) hLN1.2.2.2.2.1 (fun t ht=>by have:=(hO.2.2.2.2.2 t ht).1;omega)
 have HT1:=xtotE_any n pt n.tabs.length ct W1 rfl (by omega) hLN1.2.2.1 (fun t ht=>by have:=(hO.2.2.2.1 t ht).1;omega)
 have HP:Hid (∀ U,Below W1.heap.size W1 U→Calls Tryz.prog 72 #[.agg #[.int .i64 n.bits,.slice pp n.ports.length cp,.slice pt n.tabs.length ct,.slice pg n.grds.length cg]] U (BQ (PortsP n) U)):=fun U hU=>xports_any n ⟨pp,cp,pt,ct,pg,cg⟩ U (HNN.out U hU) HS.out hO (hT.at (bel0Z HB1.out hU))
 have HG:Hid (∀ U,Below W1.heap.size W1 U→Calls Tryz.prog 73 #[.agg #[.int .i64 n.bits,.slice pp n.ports.length cp,.slice pt n.tabs.length ct,.slice pg n.grds.length cg]] U (BQ (∀ g∈n.grds,LinesP n.bits g) U)):=fun U hU=>xguards_any n ⟨pp,cp,pt,ct,pg,cg⟩ U (HNN.out U hU) HS.out hO
 have HTT:Hid (∀ U,Below W1.heap.size W1 U→Calls Tryz.prog 74 #[.agg #[.int .i64 n.bits,.slice pp n.ports.length cp,.slice pt n.tabs.length ct,.slice pg n.grds.length cg]] U (BQ (∀ (k:Nat) (t:List NE),n.tabs[k]?=some t→TabP n (k:Int) t) U)):=fun U hU=>xtables_any n ⟨pp,cp,pt,ct,pg,cg⟩ U (HNN.out U hU) HS.out hO
 clear c4 hLN1 hO hS hT
 go_enter Tryz.func60,Tryz.ntmps60
 go_upto_region 1 with fail
 rw [HW.out,HBB.out]
 go_wp2_with fail
 refine HG1.mono ?_
 rintro e W2 ⟨rfl,hw⟩
 obtain rfl:=hw.symm
 clear hw HG1
 by_cases t0:64 < totG n
 ·have k0:(64:Int) < (totG n:Int):=by omega
  have HQ:=hideL (HQF.out W1 (Below.refl _ _) (fun h=>by have:=h.2.1;omega))
  clear t0
  go_wp2_with fail
  go_ret
  exact HQ.out
 have k0:¬(64:Int) < (totG n:Int):=by omega
 go_wp2_with fail
 refine HT1.mono ?_
 rintro e W2 ⟨rfl,hw⟩
 obtain rfl:=hw.symm
 clear hw HT1
 by_cases t1:256 < totT n
 ·have k1:(256:Int) < (totT n:Int):=by omega
  have HQ:=hideL (HQF.out W1 (Below.refl _ _) (fun h=>by have:=h.2.2.1;omega))
  clear t1
  go_wp2_with fail
  go_ret
  exact HQ.out
 have k1:¬(256:Int) < (totT n:Int):=by omega
 have HTO:Hid (totG n≤64∧totT n≤256):=⟨by omega,by omega⟩
 have HP1:=HP.out W1 (Below.refl _ _)
 clear t0 t1
 go_wp2_with fail
 refine HP1.mono ?_
 rintro e W2 ⟨rfl,b2⟩
 have HB2:=hideL b2
 clear HP1 HP b2 q0 q1 q2 q3
 obtain ⟨q0,q1,q2,q3⟩:=HC.out W2 HB2.out
 cases hp:pb (PortsP n) with
 | false=>
  have HQ:=hideL (HQF.out W2 HB2.out (fun h=>pb_not hp h.2.2.2.1))
  clear hp HG HTT
  go_wp2_with fail
  go_ret
  exact HQ.out
 | true=>
  have HPP:=hideL (pb_iff.1 hp)
  have HG1:=HG.out W2 HB2.out
  clear hp HG
  go_wp2_with fail
  refine HG1.mono ?_
  rintro e W3 ⟨rfl,b3⟩
  have HB3:Hid (Below W1.heap.size W1 W3):=bel0Z HB2.out b3
  clear HG1 b3 q0 q1 q2 q3
  obtain ⟨q0,q1,q2,q3⟩:=HC.out W3 HB3.out
  cases hg:pb (∀ g∈n.grds,LinesP n.bits g) with
  | false=>
   have HQ:=hideL (HQF.out W3 HB3.out (fun h=>pb_not hg h.2.2.2.2.1))
   clear hg HTT
   go_wp2_with fail
   go_ret
   exact HQ.out
  | true=>
   have HGG:=hideL (pb_iff.1 hg)
   have HT2:=HTT.out W3 HB3.out
   clear hg HTT
   go_wp2_with fail
   refine HT2.mono ?_
   rintro e W4 ⟨rfl,b4⟩
   have HB4:Hid (Below W1.heap.size W1 W4):=bel0Z HB3.out b4
   clear HT2 b4 q0 q1 q2 q3
   cases ht:pb (∀ (k:Nat) (t:List NE),n.tabs[k]?=some t→TabP n (k:Int) t) with
   | false=>
    have HQ:=hideL (HQF.out W4 HB4.out (fun h=>pb_not ht h.2.2.2.2.2))
    clear ht
    go_wp2_with fail
    go_ret
    exact HQ.out
   | true=>
    have HQ:=hideL (HQT.out W4 HB4.out ⟨HS.out,HTO.out.1,HTO.out.2,HPP.out,HGG.out,pb_iff.1 ht⟩)
    clear ht
    go_wp2_with fail
    go_ret
    exact HQ.out
set_option maxRecDepth 100000 in
set_option maxHeartbeats 8000000 in
theorem xvalid_any (n:NN) (v:NV) (w:World) (hN:LN w n v) (hO:okN n) (hT:TAB w) :
  Calls Tryz.prog 37 #[.agg (nnA n v)] w fun e w'=>e=.returned (.int .i64 (if pb (NetP n)=true then 0 else 90))∧Below w.heap.size w w':=by
 obtain ⟨R,hR⟩:∃ R:Int,(if pb (NetP n)=true then (0:Int) else 90)=R:=⟨_,rfl⟩
 have HRT:Hid (NetP n→R=0):=fun h=>by rw [←hR,if_pos (pb_yes h)]
 have HRF:Hid (¬NetP n→R=90):=fun h=>by rw [←hR,if_neg (by rw [pb_no h];decide)]
 rw [hR]
 clear hR
 obtain ⟨pp,cp,pt,ct,pg,cg⟩:=v
 unfold nnA
 simp only at hN ⊢
 obtain ⟨W1,hW1⟩:∃ W1,w.alloc (Obj.cells #[.int .i64 n.bits,.slice pp n.ports.length cp,.slice pt n.tabs.length ct,.slice pg n.grds.length cg] 26)=W1:=⟨_,rfl⟩
 have b1:Below w.heap.size w W1:=by rw [←hW1];exact belAZ (Below.refl _ _) _
 obtain ⟨B,hB⟩:∃ B,w.heap.size=B:=⟨_,rfl⟩
 have k1:W1.heap[B]?=some (.cells #[.int .i64 n.bits,.slice pp n.ports.length cp,.slice pt n.tabs.length ct,.slice pg n.grds.length cg] 26 (0,0)):=by rw [←hW1,←hB];exact alloc_getZ _ _
 have HC:Hid (∀ U,Below W1.heap.size W1 U→U.cell? ⟨B,0,none⟩=some (.int .i64 n.bits)∧U.cell? ⟨B,1,none⟩=some (.slice pp n.ports.length cp)∧U.cell? ⟨B,2,none⟩=some (.slice pt n.tabs.length ct)∧U.cell? ⟨B,3,none⟩=some (.slice pg n.grds.length cg)):=fun U hU=>by
  have:=(cellsZ (keepZ hU k1)).1
  exact ⟨by rw [this];rfl,by rw [this];rfl,by rw [this];rfl,by rw [this];rfl⟩
 have HNN:Hid (∀ U,Below W1.heap.size W1 U→LN U n ⟨pp,cp,pt,ct,pg,cg⟩):=fun U hU=>hN.below (bel0Z b1 hU)
 have HB1:=hideL b1
 have HBB:=hideL hB
 have HW:=hideL hW1
 clear k1 b1 hB hW1 hN
 obtain ⟨q0,q1,q2,q3⟩:=HC.out W1 (Below.refl _ _)
 have H1:Calls Tryz.prog 60 #[.agg #[.int .i64 n.bits,.slice pp n.ports.length cp,.slice pt n.tabs.length ct,.slice pg n.grds.length cg]] W1 (BQ (NetP n) W1):=xnet_any n ⟨pp,cp,pt,ct,pg,cg⟩ W1 (HNN.out W1 (Below.refl _ _)) hO (hT.at HB1.out)
 clear hO hT HNN
 go_enter Tryz.func37,Tryz.ntmps37
 go_upto_region 1 with fail
 rw [HW.out,HBB.out]
 go_wp2_with fail
 refine H1.mono ?_
 rintro e W2 ⟨rfl,b2⟩
 have HB2:Hid (Below w.heap.size w W2):=bel0Z HB1.out b2
 clear H1 b2
 cases hp:pb (NetP n) with
 | false=>
  have HR:=hideL (HRF.out (pb_not hp))
  clear hp
  go_wp2_with fail
  go_ret
  exact ⟨by rw [HR.out];rfl,HB2.out⟩
 | true=>
  have HR:=hideL (HRT.out (pb_iff.1 hp))
  clear hp
  go_wp2_with fail
  go_ret
  exact ⟨by rw [HR.out];rfl,HB2.out⟩
end Go.Proofs.YtbplhianpelmfaaGreatDoor.Nt
