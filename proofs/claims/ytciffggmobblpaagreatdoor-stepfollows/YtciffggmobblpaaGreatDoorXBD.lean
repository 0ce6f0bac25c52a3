import Derived.Test.YtciffggmobblpaaGreatDoorXBC
namespace Go.Proofs.YtciffggmobblpaaGreatDoor.Nt
open Go.RowKit Go.Shelf
def RMQ (n:NN) (w:World) (e:Ending) (w':World):Prop:=∃ v1 v2,e=.returned (.tuple #[.agg (nnA n v1),.agg (nnA n v2)])∧GVN w' n v1∧KPN w' n v2∧Below w.heap.size w w'
theorem held_q (n:NN) (gP gT gG np nt ng mp mt mg:Nat) (U:World) (hP:PF U gP n.ports) (hT:TF U gT n.tabs) (hG:GF U gG n.grds) (h1:n.ports.length=np) (h2:n.tabs.length=nt) (h3:n.grds.length=ng) (hO:okN n) :
  Calls Tryz.prog 29 #[.agg #[.int .i64 n.bits,.slice (some ⟨gP,0,none⟩) np mp,.slice (some ⟨gT,0,none⟩) nt mt,.slice (some ⟨gG,0,none⟩) ng mg]] U fun e w'=>∃ p1 c1 p2 c2 p3 c3,e=.returned (.agg #[.int .i64 n.bits,.slice p1 np c1,.slice p2 nt c2,.slice p3 ng c3])∧(∀ Y,NewK U.heap.size w' Y→KT w' Y→KPN Y n ⟨p1,c1,p2,c2,p3,c3⟩)∧Below U.heap.size U w':=by
 obtain ⟨o1,-,o2,o3,o4,o5⟩:=hO
 obtain ⟨tb,t1,t2,t3⟩:=tmk_raw hT.tmk
 obtain ⟨gd,g1,g2,g3⟩:=gmk_raw hG.gmk
 refine (held_any n.bits n.ports tb gd np nt ng mp mt mg _ _ _ U hP.rowL h1 (by omega) t2 (by omega) (by omega) (fun R hR=>?_) g2 (by omega) (by omega) (fun R hR=>?_)).mono ?_
 ·obtain ⟨k,hk⟩:=List.getElem?_of_mem hR
  have hlt:=(List.getElem?_eq_some_iff.1 hk).1
  obtain ⟨t,ht⟩:∃ t,n.tabs[k]?=some t:=⟨_,List.getElem?_eq_getElem (by omega)⟩
  have e1:=(t3 k t R ht hk).1
  have e2:=(o3 t (List.mem_of_getElem? ht)).1
  omega
 ·obtain ⟨k,hk⟩:=List.getElem?_of_mem hR
  have hlt:=(List.getElem?_eq_some_iff.1 hk).1
  obtain ⟨t,ht⟩:∃ t,n.grds[k]?=some t:=⟨_,List.getElem?_eq_getElem (by omega)⟩
  have e1:=(g3 k t R ht hk).1
  have e2:=(o5 t (List.mem_of_getElem? ht)).1
  omega
 ·rintro e w' ⟨p1,c1,p2,c2,p3,c3,rfl,hF,l1,l2,l3,hb⟩
  refine ⟨p1,c1,p2,c2,p3,c3,rfl,fun Y hY hk=>?_,hb⟩
  obtain ⟨a1,a3,a5⟩:=hF Y hY
  refine ⟨a1,by simp only;omega,met_of a3 t1 (fun k t R ht hR=>?_),by simp only;omega,mgt_of a5 g1 (fun k t R ht hR=>?_),by simp only;omega⟩
  ·obtain ⟨r1,r2⟩:=t3 k t R ht hR
   exact ⟨r1,fun i x r hx hr=>((r2 i x r hx hr).below hb).kt hk⟩
  ·obtain ⟨r1,r2⟩:=g3 k t R ht hR
   exact ⟨r1,fun i x r hx hr=>((r2 i x r hx hr).below hb).kt hk⟩
set_option maxRecDepth 100000 in
set_option maxHeartbeats 24000000 in
theorem roomy_any (n:NN) (v:NV) (w:World) (hL:LN w n v) (hO:okN n) :
  Calls Tryz.prog 14 #[.agg (nnA n v)] w (RMQ n w):=by
 obtain ⟨pp,cp,pt,ct,pg,cg⟩:=v
 unfold nnA
 simp only at hL ⊢
 obtain ⟨np,hnp⟩:∃ np,n.ports.length=np:=⟨_,rfl⟩
 obtain ⟨nt,hnt⟩:∃ nt,n.tabs.length=nt:=⟨_,rfl⟩
 obtain ⟨ng,hng⟩:∃ ng,n.grds.length=ng:=⟨_,rfl⟩
 obtain ⟨bits,hbits⟩:∃ bits,n.bits=bits:=⟨_,rfl⟩
 rw [hnp,hnt,hng,hbits]
 obtain ⟨mp,hmp⟩:∃ mp,np+1=mp:=⟨_,rfl⟩
 obtain ⟨mt,hmt⟩:∃ mt,nt+1=mt:=⟨_,rfl⟩
 obtain ⟨mg,hmg⟩:∃ mg,ng+1=mg:=⟨_,rfl⟩
 have o1:=hO.1
 have o2:=hO.2.2.1
 have o3:=hO.2.2.2.2.1
 have hmkp:=make_ports mp (by omega)
 have hmkt:=make_tabs mt (by omega)
 have hmkg:=make_gds mg (by omega)
 obtain ⟨B,hB⟩:∃ B,w.heap.size=B:=⟨_,rfl⟩
 obtain ⟨b2,hb2⟩:∃ b2,w.heap.size+1=b2:=⟨_,rfl⟩
 obtain ⟨b3,hb3⟩:∃ b3,w.heap.size+1+1=b3:=⟨_,rfl⟩
 obtain ⟨b4,hb4⟩:∃ b4,w.heap.size+1+1+1=b4:=⟨_,rfl⟩
 obtain ⟨W1,hW1⟩:∃ W1,((((w.alloc (.cells #[.int .i64 bits,.slice pp np cp,.slice pt nt ct,.slice pg ng cg] 26)).alloc (.cells #[.int .i64 0,.slice none 0 0,.slice none 0 0,.slice none 0 0] 26)).alloc (.cells #[.int .i64 0,.slice none 0 0,.slice none 0 0,.slice none 0 0] 26)).alloc (.cells #[.int .i64 bits,.slice none 0 0,.slice none 0 0,.slice none 0 0] 26))=W1:=⟨_,rfl⟩
 have hR1:RY w W1 B b2 b3 b4 #[.int .i64 bits,.slice pp np cp,.slice pt nt ct,.slice pg ng cg] #[.int .i64 bits,.slice none 0 0,.slice none 0 0,.slice none 0 0]:=by
  have hz2:(w.alloc (.cells #[.int .i64 bits,.slice pp np cp,.slice pt nt ct,.slice pg ng cg] 26)).heap.size=w.heap.size+1:=Array.size_push _
  have hz3:((w.alloc (.cells #[.int .i64 bits,.slice pp np cp,.slice pt nt ct,.slice pg ng cg] 26)).alloc (.cells #[.int .i64 0,.slice none 0 0,.slice none 0 0,.slice none 0 0] 26)).heap.size=w.heap.size+1+1:=by
   show ((w.heap.push _).push _).size=_
   rw [Array.size_push,Array.size_push]
  have hz4:(((w.alloc (.cells #[.int .i64 bits,.slice pp np cp,.slice pt nt ct,.slice pg ng cg] 26)).alloc (.cells #[.int .i64 0,.slice none 0 0,.slice none 0 0,.slice none 0 0] 26)).alloc (.cells #[.int .i64 0,.slice none 0 0,.slice none 0 0,.slice none 0 0] 26)).heap.size=w.heap.size+1+1+1:=by
   show (((w.heap.push _).push _).push _).size=_
   rw [Array.size_push,Array.size_push,Array.size_push]
  refine ⟨?_,?_,?_,?_,?_,?_⟩
  ·rw [←hW1,←hB];exact keepZ (belAZ (belAZ (belAZ (Below.refl _ _) _) _) _) (alloc_getZ _ _)
  ·rw [←hW1,←hb2,←hz2];exact keepZ (belAZ (belAZ (Below.refl _ _) _) _) (alloc_getZ _ _)
  ·rw [←hW1,←hb3,←hz3];exact keepZ (belAZ (Below.refl _ _) _) (alloc_getZ _ _)
  ·rw [←hW1,←hb4,←hz4];exact alloc_getZ _ _
  ·rw [←hW1,←hB];exact belAZ (belAZ (belAZ (belAZ (Below.refl _ _) _) _) _) _
  ·rw [←hW1,←hb4]
   show _ < ((((w.heap.push _).push _).push _).push _).size
   rw [Array.size_push,Array.size_push,Array.size_push,Array.size_push]
   omega
 have HB:Hid (B < b2∧b2 < b3∧b3 < b4):=⟨by omega,by omega,by omega⟩
 have HN:Hid (n.ports.length=np∧n.tabs.length=nt∧n.grds.length=ng∧okN n∧n.bits=bits):=⟨hnp,hnt,hng,hO,hbits⟩
 have HM:Hid (np+1=mp∧nt+1=mt∧ng+1=mg):=⟨hmp,hmt,hmg⟩
 have HL:Hid (∀ U,Below B w U→LN U n ⟨pp,cp,pt,ct,pg,cg⟩):=fun U hU=>hL.below (by rw [hB];exact hU)
 have HLT:Hid (∀ (a:Addr) (v:Value),w.cell? a=some v→a.block < B):=fun a v ha=>by rw [←hB];exact World.block_lt_of_cell? w _ ha
 have HL0:Hid (LN w n ⟨pp,cp,pt,ct,pg,cg⟩):=hL
 have hnp7:np≤140737488351232:=by omega
 have hnt7:nt≤140737488351232:=by omega
 have hng7:ng≤140737488351232:=by omega
 have x2:(np:Int)+1=(mp:Int):=by omega
 have x3:IntKind.i64.wrap (mp:Int)=(mp:Int):=by rw [IntKind.wrap_i64];omega
 have x4:(0:Int)≤(np:Int):=by omega
 have x5:(0:Int)≤(mp:Int):=by omega
 have x6:(np:Int)≤(mp:Int):=by omega
 have x7:(np:Int) < (mp:Int):=by omega
 have x8:np < mp:=by omega
 have y2:(nt:Int)+1=(mt:Int):=by omega
 have y3:IntKind.i64.wrap (mt:Int)=(mt:Int):=by rw [IntKind.wrap_i64];omega
 have y4:(0:Int)≤(nt:Int):=by omega
 have y5:(0:Int)≤(mt:Int):=by omega
 have y6:(nt:Int)≤(mt:Int):=by omega
 have y7:(nt:Int) < (mt:Int):=by omega
 have y8:nt < mt:=by omega
 have z2:(ng:Int)+1=(mg:Int):=by omega
 have z3:IntKind.i64.wrap (mg:Int)=(mg:Int):=by rw [IntKind.wrap_i64];omega
 have z4:(0:Int)≤(ng:Int):=by omega
 have z5:(0:Int)≤(mg:Int):=by omega
 have z6:(ng:Int)≤(mg:Int):=by omega
 have z7:(ng:Int) < (mg:Int):=by omega
 have z8:ng < mg:=by omega
 have HB1:=hideL hB
 have HB2:=hideL hb2
 have HB3:=hideL hb3
 have HB4:=hideL hb4
 have HW1:=hideL hW1
 have HR1:=hideL hR1
 clear hB hb2 hb3 hb4 hW1 hR1 hnp hnt hng hbits hmp hmt hmg o1 o2 o3 hO hL
 go_enter Tryz.func14,Tryz.ntmps14
 go_upto_region 2 with fail
 rw [HW1.out,HB4.out,HB3.out,HB2.out,HB1.out]
 have a1:W1.cell? ⟨B,1,none⟩=some (.slice pp np cp):=by rw [(cellsZ HR1.out.1).1];rfl
 have a2:W1.cell? ⟨B,2,none⟩=some (.slice pt nt ct):=by rw [(cellsZ HR1.out.1).1];rfl
 have a3:W1.cell? ⟨B,3,none⟩=some (.slice pg ng cg):=by rw [(cellsZ HR1.out.1).1];rfl
 have bm:Below W1.heap.size W1 (W1.alloc (.cells (mkP mp) 36)):=belAZ (Below.refl _ _) _
 have d0:(W1.alloc (.cells (mkP mp) 36)).cell? ⟨b4,1,none⟩=some (.slice none 0 0):=by rw [(cellsZ (keepZ bm HR1.out.2.2.2.1)).1];rfl
 have f0:=(cellsZ (keepZ bm HR1.out.2.2.2.1)).2 1
 obtain ⟨gP,hgP⟩:∃ g,W1.heap.size=g:=⟨_,rfl⟩
 obtain ⟨W2,hW2⟩:∃ W,(W1.alloc (.cells (mkP mp) 36)).setCell ⟨b4,1,none⟩ (.slice (some ⟨gP,0,none⟩) mp mp)=W:=⟨_,rfl⟩
 have HR2':=HR1.out.made (i:=1) HB.out 36 (mkP mp) (.slice (some ⟨gP,0,none⟩) mp mp)
 rw [hW2,hgP] at HR2'
 have HR2:=hideL HR2'
 have HgP:=hideL hgP
 have HgP4:Hid (b4 < gP):=by show b4 < gP;rw [←hgP];exact HR1.out.2.2.2.2.2
 have HW2:=hideL hW2
 clear bm HR2' hgP hW2
 go_wp2_with fail
 rw [HgP.out,HW2.out]
 clear a1 a2 a3 d0 f0
 have H1:Hid (SP w W2 B b2 b3 b4 #[.int .i64 bits,.slice pp np cp,.slice pt nt ct,.slice pg ng cg] #[.int .i64 bits,.slice (some ⟨gP,0,none⟩) mp mp,.slice none 0 0,.slice none 0 0] gP mp n.ports 0 (mkP mp)):=⟨HR2.out.1,⟨HR2.out.2.1,size_madeCells _ _,fun i x hi=>by omega⟩,HgP4.out⟩
 go_loopw [5] (fun vk wr=>∃ (k:Nat) (cs:Array Value),vk=.int .i64 (k:Int)∧k≤np∧Hid (SP w wr B b2 b3 b4 #[.int .i64 bits,.slice pp np cp,.slice pt nt ct,.slice pg ng cg] #[.int .i64 bits,.slice (some ⟨gP,0,none⟩) mp mp,.slice none 0 0,.slice none 0 0] gP mp n.ports k cs)) (fun vk _=>np - (intOf vk).toNat)
 case atStart=>exact ⟨0,_,rfl,Nat.zero_le _,H1⟩
 case round=>
  clear H1
  obtain ⟨k,cs,rfl,hk,HS⟩:=hrel
  have a1:wr.cell? ⟨B,1,none⟩=some (.slice pp np cp):=by rw [(cellsZ HS.out.1.1).1];rfl
  have a2:wr.cell? ⟨B,2,none⟩=some (.slice pt nt ct):=by rw [(cellsZ HS.out.1.1).1];rfl
  have a3:wr.cell? ⟨B,3,none⟩=some (.slice pg ng cg):=by rw [(cellsZ HS.out.1.1).1];rfl
  have a4:wr.cell? ⟨b4,1,none⟩=some (.slice (some ⟨gP,0,none⟩) mp mp):=by rw [(cellsZ HS.out.1.2.2.2.1).1];rfl
  by_cases hlt:k < np
  ·obtain ⟨x,hx⟩:∃ x,n.ports[k]?=some x:=⟨_,List.getElem?_eq_getElem (by have:=HN.out.1;omega)⟩
   obtain ⟨k9,hk9⟩:∃ k9,k+1=k9:=⟨_,rfl⟩
   obtain ⟨g,o,e9,c0,c1,c2,c3⟩:=HL0.out.1 k x hx
   simp only at e9
   subst e9
   have hgB:g < B:=HLT.out _ _ c0
   have hbw:=HS.out.1.2.2.2.2.1
   have kk:∀ (a:Addr) (v:Value),w.cell? a=some v→wr.cell? a=some v:=fun a v ha=>(hbw.cell (HLT.out _ _ ha)).trans ha
   replace c0:=kk _ _ c0
   replace c1:=kk _ _ c1
   replace c2:=kk _ _ c2
   replace c3:=kk _ _ c3
   have HK9:=hideL hk9
   have j0:(0:Int)≤(k:Int):=by omega
   have j1:(k:Int) < (np:Int):=by omega
   have j2:(k:Int) < (mp:Int):=by have:=HM.out.1;omega
   obtain ⟨W5,hW5⟩:∃ W5,wr.drew=W5:=⟨_,rfl⟩
   have b5:Below wr.heap.size wr W5:=by rw [←hW5];exact (Below.refl _ _).drew
   have HS5:SP w W5 B b2 b3 b4 #[.int .i64 bits,.slice (some ⟨g,o,none⟩) np cp,.slice pt nt ct,.slice pg ng cg] #[.int .i64 bits,.slice (some ⟨gP,0,none⟩) mp mp,.slice none 0 0,.slice none 0 0] gP mp n.ports k cs:=⟨HS.out.1.below b5,⟨keepZ b5 HS.out.2.1.1,HS.out.2.1.2⟩,HS.out.2.2⟩
   obtain ⟨cs9,h9⟩:=HS5.step HB.out hx (by have:=HM.out.1;omega) hk9
   have HP:=hideL h9
   have hs0:W5.cell? ⟨b4,1,none⟩=some (.slice (some ⟨gP,0,none⟩) mp mp)∧W5.cell? ⟨B,1,none⟩=some (.slice (some ⟨g,o,none⟩) np cp)∧W5.cell? ⟨g,o+k*4,none⟩=some (.string ⟨x.nm.toArray⟩)∧W5.cell? ⟨g,o+k*4+1,none⟩=some (.int .i64 x.bx)∧W5.cell? ⟨g,o+k*4+2,none⟩=some (.bool x.inn)∧W5.cell? ⟨g,o+k*4+3,none⟩=some (.int .i64 x.lk):=⟨keepC b5 a4,keepC b5 a1,keepC b5 c0,keepC b5 c1,keepC b5 c2,keepC b5 c3⟩
   have hgP:=HgP4.out
   have hbb:=HB.out
   have hf:=cellsZ HS5.2.1.1
   have hsz:=HS5.2.1.2.1
   have hmm:=HM.out.1
   obtain ⟨u0,d0⟩:∃ u,W5.cell? ⟨gP,k*4,none⟩=some u:=by rw [hf.1];exact aget (by omega)
   obtain ⟨u1,d1⟩:∃ u,W5.cell? ⟨gP,k*4+1,none⟩=some u:=by rw [hf.1];exact aget (by omega)
   obtain ⟨u2,d2⟩:∃ u,W5.cell? ⟨gP,k*4+2,none⟩=some u:=by rw [hf.1];exact aget (by omega)
   obtain ⟨u3,d3⟩:∃ u,W5.cell? ⟨gP,k*4+3,none⟩=some u:=by rw [hf.1];exact aget (by omega)
   have f0:=hf.2 (k*4)
   have f1:=hf.2 (k*4+1)
   have f2:=hf.2 (k*4+2)
   have f3:=hf.2 (k*4+3)
   have hs8:((((W5.setCell ⟨gP,k*4,none⟩ (.string ⟨x.nm.toArray⟩)).setCell ⟨gP,k*4+1,none⟩ (.int .i64 x.bx)).setCell ⟨gP,k*4+2,none⟩ (.bool x.inn)).setCell ⟨gP,k*4+3,none⟩ (.int .i64 x.lk)).cell? ⟨b4,1,none⟩=some (.slice (some ⟨gP,0,none⟩) mp mp)∧((((W5.setCell ⟨gP,k*4,none⟩ (.string ⟨x.nm.toArray⟩)).setCell ⟨gP,k*4+1,none⟩ (.int .i64 x.bx)).setCell ⟨gP,k*4+2,none⟩ (.bool x.inn)).setCell ⟨gP,k*4+3,none⟩ (.int .i64 x.lk)).cell? ⟨B,1,none⟩=some (.slice (some ⟨g,o,none⟩) np cp)∧((((W5.setCell ⟨gP,k*4,none⟩ (.string ⟨x.nm.toArray⟩)).setCell ⟨gP,k*4+1,none⟩ (.int .i64 x.bx)).setCell ⟨gP,k*4+2,none⟩ (.bool x.inn)).setCell ⟨gP,k*4+3,none⟩ (.int .i64 x.lk)).cell? ⟨g,o+k*4,none⟩=some (.string ⟨x.nm.toArray⟩)∧((((W5.setCell ⟨gP,k*4,none⟩ (.string ⟨x.nm.toArray⟩)).setCell ⟨gP,k*4+1,none⟩ (.int .i64 x.bx)).setCell ⟨gP,k*4+2,none⟩ (.bool x.inn)).setCell ⟨gP,k*4+3,none⟩ (.int .i64 x.lk)).cell? ⟨g,o+k*4+1,none⟩=some (.int .i64 x.bx)∧((((W5.setCell ⟨gP,k*4,none⟩ (.string ⟨x.nm.toArray⟩)).setCell ⟨gP,k*4+1,none⟩ (.int .i64 x.bx)).setCell ⟨gP,k*4+2,none⟩ (.bool x.inn)).setCell ⟨gP,k*4+3,none⟩ (.int .i64 x.lk)).cell? ⟨g,o+k*4+2,none⟩=some (.bool x.inn)∧((((W5.setCell ⟨gP,k*4,none⟩ (.string ⟨x.nm.toArray⟩)).setCell ⟨gP,k*4+1,none⟩ (.int .i64 x.bx)).setCell ⟨gP,k*4+2,none⟩ (.bool x.inn)).setCell ⟨gP,k*4+3,none⟩ (.int .i64 x.lk)).cell? ⟨g,o+k*4+3,none⟩=some (.int .i64 x.lk):=by
    have kp:∀ (a:Addr) (v:Value),a.block≠gP→W5.cell? a=some v→((((W5.setCell ⟨gP,k*4,none⟩ (.string ⟨x.nm.toArray⟩)).setCell ⟨gP,k*4+1,none⟩ (.int .i64 x.bx)).setCell ⟨gP,k*4+2,none⟩ (.bool x.inn)).setCell ⟨gP,k*4+3,none⟩ (.int .i64 x.lk)).cell? a=some v:=fun a v hne ha=>by
     unfold World.cell?
     rw [put4f _ _ _ _ _ _ _ _ hne]
     exact ha
    exact ⟨kp _ _ (by show b4≠gP;omega) hs0.1,kp _ _ (by show B≠gP;omega) hs0.2.1,kp _ _ (by show g≠gP;omega) hs0.2.2.1,kp _ _ (by show g≠gP;omega) hs0.2.2.2.1,kp _ _ (by show g≠gP;omega) hs0.2.2.2.2.1,kp _ _ (by show g≠gP;omega) hs0.2.2.2.2.2⟩
   have HW5:=hideL hW5
   clear hx hk9 hgB hbw kk hW5 b5 HS5 h9 hf hsz hmm hgP hbb c0 c1 c2 c3
   go_wp2_with fail
   refine wp_region_held_drew (S:=fun U=>U.cell? ⟨b4,1,none⟩=some (.slice (some ⟨gP,0,none⟩) mp mp)∧U.cell? ⟨B,1,none⟩=some (.slice (some ⟨g,o,none⟩) np cp)∧U.cell? ⟨g,o+k*4,none⟩=some (.string ⟨x.nm.toArray⟩)∧U.cell? ⟨g,o+k*4+1,none⟩=some (.int .i64 x.bx)∧U.cell? ⟨g,o+k*4+2,none⟩=some (.bool x.inn)∧U.cell? ⟨g,o+k*4+3,none⟩=some (.int .i64 x.lk)) (by kernel_rfl) (by rw [HW5.out];exact hs0) (fun _=>?_)
   rw [HW5.out]
   refine wpAnyH_take (i:=0) (v:=.pointer (some ⟨b4,1,none⟩)) rfl (by kernel_rfl) (by kernel_rfl) (by kernel_rfl) (fun _ _ _ h=>h) (Or.inl ⟨by rfl,?_⟩) hs0 ?_
   ·rintro w ⟨q0,q1,q2,q3,q4,q5⟩;go_simp
   refine wpAnyH_take (i:=1) (v:=.slice (some ⟨gP,0,none⟩) mp mp) rfl (by kernel_rfl) (by kernel_rfl) (by kernel_rfl) (fun _ _ _ h=>h) (Or.inl ⟨by rfl,?_⟩) hs0 ?_
   ·rintro w ⟨q0,q1,q2,q3,q4,q5⟩;go_simp
   refine wpAnyH_take (i:=2) (v:=.int .i64 (k:Int)) rfl (by kernel_rfl) (by kernel_rfl) (by kernel_rfl) (fun _ _ _ h=>h) (Or.inl ⟨by rfl,?_⟩) hs0 ?_
   ·rintro w ⟨q0,q1,q2,q3,q4,q5⟩;go_simp
   refine wpAnyH_take (i:=3) (v:=.pointer (some ⟨B,1,none⟩)) rfl (by kernel_rfl) (by kernel_rfl) (by kernel_rfl) (fun _ _ _ h=>h) (Or.inl ⟨by rfl,?_⟩) hs0 ?_
   ·rintro w ⟨q0,q1,q2,q3,q4,q5⟩;go_simp
   refine wpAnyH_take (i:=4) (v:=.slice (some ⟨g,o,none⟩) np cp) rfl (by kernel_rfl) (by kernel_rfl) (by kernel_rfl) (fun _ _ _ h=>h) (Or.inl ⟨by rfl,?_⟩) hs0 ?_
   ·rintro w ⟨q0,q1,q2,q3,q4,q5⟩;go_simp
   refine wpAnyH_take (i:=5) (v:=.int .i64 (k:Int)) rfl (by kernel_rfl) (by kernel_rfl) (by kernel_rfl) (fun _ _ _ h=>h) (Or.inl ⟨by rfl,?_⟩) hs0 ?_
   ·rintro w ⟨q0,q1,q2,q3,q4,q5⟩;go_simp
   refine wpAnyH_take (i:=6) (v:=.pointer (some ⟨g,o+k*4,none⟩)) rfl (by kernel_rfl) (by kernel_rfl) (by kernel_rfl) (fun _ _ _ h=>h) (Or.inl ⟨by rfl,?_⟩) hs0 ?_
   ·rintro w ⟨q0,q1,q2,q3,q4,q5⟩;go_simp
   refine wpAnyH_take (i:=7) (v:=.agg #[.string ⟨x.nm.toArray⟩,.int .i64 x.bx,.bool x.inn,.int .i64 x.lk]) rfl (by kernel_rfl) (by kernel_rfl) (by kernel_rfl) (fun _ _ _ h=>h) (Or.inl ⟨by rfl,?_⟩) hs0 ?_
   ·rintro w ⟨q0,q1,q2,q3,q4,q5⟩;go_simp
   refine wpAnyH_take (i:=8) (v:=.pointer (some ⟨gP,k*4,none⟩)) rfl (by kernel_rfl) (by kernel_rfl) (by kernel_rfl) (fun _ _ _ h=>h) (Or.inl ⟨by rfl,?_⟩) hs0 ?_
   ·rintro w ⟨q0,q1,q2,q3,q4,q5⟩;go_simp
   refine wpAnyH_ready (rs:=[9]) (by kernel_rfl) (by simp) ?_
   refine AllReadyH.cons rfl (fun KK hKK=>?_) AllReadyH.nil
   go_simp
   refine hKK.out _ _ hs8 (fun _=>?_)
   clear hKK KK
   refine wpAnyH_done (by kernel_rfl) ?_ _
   clear d0 d1 d2 d3 f0 f1 f2 f3 hs8 hs0
   go_wp2_with fail
   go_roundw
   case rel=>exact ⟨k9,_,by rw [←HK9.out];go_num,by have:=HK9.out;omega,HP⟩
   case measure=>have:=HK9.out;simp [intOf];omega
  ·obtain rfl:k=np:=by omega
   have j1:¬(k:Int) < (k:Int):=by omega
   obtain ⟨W3,hW3⟩:∃ W,((((wr.setCell ⟨gP,k*4,none⟩ (.string ⟨#[98,101,104,105,110,100,32,116,104,101,32,101,110,100]⟩)).setCell ⟨gP,k*4+1,none⟩ (.int .i64 0)).setCell ⟨gP,k*4+2,none⟩ (.bool false)).setCell ⟨gP,k*4+3,none⟩ (.int .i64 0))=W:=⟨_,rfl⟩
   have h3:=HS.out.mark HB.out HN.out.1 HM.out.1 (.int .i64 0) (.bool false) (.int .i64 0)
   rw [hW3] at h3
   have HR3:=hideL h3
   have hf:=cellsZ HS.out.2.1.1
   have hsz:=HS.out.2.1.2.1
   have hmm:=HM.out.1
   obtain ⟨u0,d0⟩:∃ u,wr.cell? ⟨gP,k*4,none⟩=some u:=by rw [hf.1];exact aget (by omega)
   obtain ⟨u1,d1⟩:∃ u,wr.cell? ⟨gP,k*4+1,none⟩=some u:=by rw [hf.1];exact aget (by omega)
   obtain ⟨u2,d2⟩:∃ u,wr.cell? ⟨gP,k*4+2,none⟩=some u:=by rw [hf.1];exact aget (by omega)
   obtain ⟨u3,d3⟩:∃ u,wr.cell? ⟨gP,k*4+3,none⟩=some u:=by rw [hf.1];exact aget (by omega)
   have f0:=hf.2 (k*4)
   have f1:=hf.2 (k*4+1)
   have f2:=hf.2 (k*4+2)
   have f3:=hf.2 (k*4+3)
   have HW3:=hideL hW3
   clear hW3 h3 hf hsz hmm HS
   go_upto_region 8 with fail
   rw [HW3.out]
   clear d0 d1 d2 d3 f0 f1 f2 f3 u0 u1 u2 u3 a1 a2 a3 a4
   have a1:W3.cell? ⟨B,1,none⟩=some (.slice pp k cp):=by rw [(cellsZ HR3.out.1.1).1];rfl
   have a2:W3.cell? ⟨B,2,none⟩=some (.slice pt nt ct):=by rw [(cellsZ HR3.out.1.1).1];rfl
   have a3:W3.cell? ⟨B,3,none⟩=some (.slice pg ng cg):=by rw [(cellsZ HR3.out.1.1).1];rfl
   have a4:W3.cell? ⟨b4,1,none⟩=some (.slice (some ⟨gP,0,none⟩) mp mp):=by rw [(cellsZ HR3.out.1.2.2.2.1).1];rfl
   have f4:=(cellsZ HR3.out.1.2.2.2.1).2 1
   obtain ⟨W4,hW4⟩:∃ W,W3.setCell ⟨b4,1,none⟩ (.slice (some ⟨gP,0,none⟩) k mp)=W:=⟨_,rfl⟩
   have r9:=HR3.out.1.set4 HB.out 1 (.slice (some ⟨gP,0,none⟩) k mp)
   rw [hW4] at r9
   have HRW4:=hideL r9
   have HW4:=hideL hW4
   clear r9 hW4
   go_upto_region 9 with fail
   rw [HW4.out]
   clear a1 a2 a3 a4 f4
   have HP4:Hid (PF W4 gP n.ports):=by
    obtain ⟨c9,p1,p2⟩:=HR3.out.2
    exact ⟨c9,by rw [←HW4.out,far1 _ _ _ _ _ (by have:=HgP4.out;omega)];exact p1,p2⟩
   clear HR3
   have a1:W4.cell? ⟨B,1,none⟩=some (.slice pp k cp):=by rw [(cellsZ HRW4.out.1).1];rfl
   have a2:W4.cell? ⟨B,2,none⟩=some (.slice pt nt ct):=by rw [(cellsZ HRW4.out.1).1];rfl
   have a3:W4.cell? ⟨B,3,none⟩=some (.slice pg ng cg):=by rw [(cellsZ HRW4.out.1).1];rfl
   have bm:Below W4.heap.size W4 (W4.alloc (.cells (mkT mt) 37)):=belAZ (Below.refl _ _) _
   have d0:(W4.alloc (.cells (mkT mt) 37)).cell? ⟨b4,2,none⟩=some (.slice none 0 0):=by rw [(cellsZ (keepZ bm HRW4.out.2.2.2.1)).1];rfl
   have f0:=(cellsZ (keepZ bm HRW4.out.2.2.2.1)).2 2
   obtain ⟨gT,hgT⟩:∃ g,W4.heap.size=g:=⟨_,rfl⟩
   obtain ⟨W5,hW5⟩:∃ W,(W4.alloc (.cells (mkT mt) 37)).setCell ⟨b4,2,none⟩ (.slice (some ⟨gT,0,none⟩) mt mt)=W:=⟨_,rfl⟩
   have HR5':=HRW4.out.made (i:=2) HB.out 37 (mkT mt) (.slice (some ⟨gT,0,none⟩) mt mt)
   rw [hW5,hgT] at HR5'
   have HR5:=hideL HR5'
   have HgT:=hideL hgT
   have HgT4:Hid (b4 < gT):=by show b4 < gT;rw [←hgT];exact HRW4.out.2.2.2.2.2
   have HW5:=hideL hW5
   clear bm HR5' hgT hW5
   go_wp2_with fail
   rw [HgT.out,HW5.out]
   clear a1 a2 a3 d0 f0
   have H2:Hid (ST w W5 B b2 b3 b4 #[.int .i64 bits,.slice pp k cp,.slice pt nt ct,.slice pg ng cg] #[.int .i64 bits,.slice (some ⟨gP,0,none⟩) k mp,.slice (some ⟨gT,0,none⟩) mt mt,.slice none 0 0] gP n.ports gT mt n.tabs 0 (mkT mt)):=by
    obtain ⟨r1,r2,r3⟩:=HR5.out
    obtain ⟨c9,p1,p2⟩:=HP4.out
    exact ⟨r1,⟨c9,r3 _ _ (by have:=HgP4.out;omega) p1,p2⟩,⟨r2,size_madeCells _ _,fun i x hi=>by omega⟩,HgT4.out⟩
   clear HR5 HP4 HRW4 HW4 HW5 HW3 HgT HgP
   obtain ⟨w5,hw5⟩:∃ w5,W5=w5:=⟨_,rfl⟩
   clear hw5
   go_loopw [6] (fun vk wr=>∃ (i:Nat) (cs:Array Value),vk=.int .i64 (i:Int)∧i≤nt∧Hid (ST w wr B b2 b3 b4 #[.int .i64 bits,.slice pp k cp,.slice pt nt ct,.slice pg ng cg] #[.int .i64 bits,.slice (some ⟨gP,0,none⟩) k mp,.slice (some ⟨gT,0,none⟩) mt mt,.slice none 0 0] gP n.ports gT mt n.tabs i cs)) (fun vk _=>nt - (intOf vk).toNat)
   case atStart=>exact ⟨0,_,rfl,Nat.zero_le _,H2⟩
   case round=>
    clear H2
    obtain ⟨i,cs2,rfl,hi,HS⟩:=hrel
    have a1:wr.cell? ⟨B,1,none⟩=some (.slice pp k cp):=by rw [(cellsZ HS.out.1.1).1];rfl
    have a2:wr.cell? ⟨B,2,none⟩=some (.slice pt nt ct):=by rw [(cellsZ HS.out.1.1).1];rfl
    have a3:wr.cell? ⟨B,3,none⟩=some (.slice pg ng cg):=by rw [(cellsZ HS.out.1.1).1];rfl
    have a4:wr.cell? ⟨b4,2,none⟩=some (.slice (some ⟨gT,0,none⟩) mt mt):=by rw [(cellsZ HS.out.1.2.2.2.1).1];rfl
    by_cases hlt:i < nt
    ·obtain ⟨t,ht⟩:∃ t,n.tabs[i]?=some t:=⟨_,List.getElem?_eq_getElem (by have:=HN.out.2.1;omega)⟩
     obtain ⟨k9,hk9⟩:∃ k9,i+1=k9:=⟨_,rfl⟩
     obtain ⟨g,o,q,c1,e9,c0,hrow,hcc⟩:=HL0.out.2.2.1 i t ht
     simp only at e9
     subst e9
     obtain ⟨m1,hm1⟩:∃ m1,t.length=m1:=⟨_,rfl⟩
     obtain ⟨m2,hm2⟩:∃ m2,m1+2=m2:=⟨_,rfl⟩
     rw [hm1] at c0 hcc
     have hgB:g < B:=HLT.out _ _ c0
     have hbw:=HS.out.1.2.2.2.2.1
     have HOK:=HN.out.2.2.2.1.2.2.2.1 t (List.mem_of_getElem? ht)
     have c0':wr.cell? ⟨g,o+i,none⟩=some (.slice q m1 c1):=(hbw.cell hgB).trans c0
     have hbw':∀ U,Below wr.heap.size wr U→Below w.heap.size w U:=fun U hU=>by
      rw [HB1.out]
      exact hbw.trans (hU.mono (Nat.le_of_lt (lt_getZ HS.out.1.1)))
     have HCL:Hid (∀ U,Below wr.heap.size wr U→Calls Tryz.prog 27 #[.slice q m1 c1] U fun e w'=>∃ g,e=.returned (.slice (some ⟨g,0,none⟩) m1 m2)∧U.heap.size≤g∧ERQ w' g t∧Below U.heap.size U w'):=fun U hU=>rtable_any t q m1 m2 c1 U hm1 hm2 (hrow.below (hbw' U hU)) HOK
     have HPT:Hid (∀ U,Below wr.heap.size wr U→∀ gt,ERQ U gt t→∃ cs9,ST w (U.setCell ⟨gT,i,none⟩ (.slice (some ⟨gt,0,none⟩) m1 m2)) B b2 b3 b4 #[.int .i64 bits,.slice pp k cp,.slice (some ⟨g,o,none⟩) nt ct,.slice pg ng cg] #[.int .i64 bits,.slice (some ⟨gP,0,none⟩) k mp,.slice (some ⟨gT,0,none⟩) mt mt,.slice none 0 0] gP n.ports gT mt n.tabs k9 cs9):=fun U hU gt hE=>HS.out.step HB.out hU hE ht (by have:=HM.out.2.1;omega) hk9 hm1 hm2
     have HS9:Hid (∀ U,Below wr.heap.size wr U→U.cell? ⟨b4,2,none⟩=some (.slice (some ⟨gT,0,none⟩) mt mt)∧U.cell? ⟨B,2,none⟩=some (.slice (some ⟨g,o,none⟩) nt ct)∧U.cell? ⟨g,o+i,none⟩=some (.slice q m1 c1)):=fun U hU=>⟨keepC hU a4,keepC hU a2,keepC hU c0'⟩
     have HFT:Hid (∀ U,Below wr.heap.size wr U→∀ gt,(∃ u,U.cell? ⟨gT,i,none⟩=some u)∧U.frozen? ⟨gT,i,none⟩=false∧(U.setCell ⟨gT,i,none⟩ (.slice (some ⟨gt,0,none⟩) m1 m2)).cell? ⟨b4,2,none⟩=some (.slice (some ⟨gT,0,none⟩) mt mt)∧(U.setCell ⟨gT,i,none⟩ (.slice (some ⟨gt,0,none⟩) m1 m2)).cell? ⟨B,2,none⟩=some (.slice (some ⟨g,o,none⟩) nt ct)∧(U.setCell ⟨gT,i,none⟩ (.slice (some ⟨gt,0,none⟩) m1 m2)).cell? ⟨g,o+i,none⟩=some (.slice q m1 c1)):=fun U hU gt=>by
      have hf:=cellsZ (keepZ hU HS.out.2.2.1.1)
      have hsz:=HS.out.2.2.1.2.1
      have hmm:=HM.out.2.1
      have hg4:=HgT4.out
      have hbb:=HB.out
      obtain ⟨s1,s2,s3⟩:=HS9.out U hU
      refine ⟨by rw [hf.1];exact aget (by omega),hf.2 _,?_,?_,?_⟩
      ·unfold World.cell?;rw [far1 _ _ _ _ _ (by show b4≠gT;omega)];exact s1
      ·unfold World.cell?;rw [far1 _ _ _ _ _ (by show B≠gT;omega)];exact s2
      ·unfold World.cell?;rw [far1 _ _ _ _ _ (by show g≠gT;omega)];exact s3
     have hs0:wr.drew.cell? ⟨b4,2,none⟩=some (.slice (some ⟨gT,0,none⟩) mt mt)∧wr.drew.cell? ⟨B,2,none⟩=some (.slice (some ⟨g,o,none⟩) nt ct)∧wr.drew.cell? ⟨g,o+i,none⟩=some (.slice q m1 c1):=HS9.out _ (Below.refl _ _).drew
     have HK9:=hideL hk9
     have j4:(0:Int)≤(i:Int):=by omega
     have j5:(i:Int) < (nt:Int):=by omega
     have j6:(i:Int) < (mt:Int):=by have:=HM.out.2.1;omega
     have m7:m1≤140737488351232:=by have:=HOK.1;omega
     clear ht hk9 c0 hrow hcc hm1 hm2 hgB hbw HOK hbw'
     go_wp2_with fail
     refine wp_region_held_drew (S:=fun U=>U.cell? ⟨b4,2,none⟩=some (.slice (some ⟨gT,0,none⟩) mt mt)∧U.cell? ⟨B,2,none⟩=some (.slice (some ⟨g,o,none⟩) nt ct)∧U.cell? ⟨g,o+i,none⟩=some (.slice q m1 c1)) (by kernel_rfl) hs0 (fun _=>?_)
     refine wpAnyH_take (i:=0) (v:=.pointer (some ⟨b4,2,none⟩)) rfl (by kernel_rfl) (by kernel_rfl) (by kernel_rfl) (fun _ _ _ h=>h) (Or.inl ⟨by rfl,?_⟩) hs0 ?_
     ·rintro w ⟨q0,q1,q2⟩;go_simp
     refine wpAnyH_take (i:=1) (v:=.slice (some ⟨gT,0,none⟩) mt mt) rfl (by kernel_rfl) (by kernel_rfl) (by kernel_rfl) (fun _ _ _ h=>h) (Or.inl ⟨by rfl,?_⟩) hs0 ?_
     ·rintro w ⟨q0,q1,q2⟩;go_simp
     refine wpAnyH_take (i:=2) (v:=.int .i64 (i:Int)) rfl (by kernel_rfl) (by kernel_rfl) (by kernel_rfl) (fun _ _ _ h=>h) (Or.inl ⟨by rfl,?_⟩) hs0 ?_
     ·rintro w ⟨q0,q1,q2⟩;go_simp
     refine wpAnyH_take (i:=3) (v:=.pointer (some ⟨B,2,none⟩)) rfl (by kernel_rfl) (by kernel_rfl) (by kernel_rfl) (fun _ _ _ h=>h) (Or.inl ⟨by rfl,?_⟩) hs0 ?_
     ·rintro w ⟨q0,q1,q2⟩;go_simp
     refine wpAnyH_take (i:=4) (v:=.slice (some ⟨g,o,none⟩) nt ct) rfl (by kernel_rfl) (by kernel_rfl) (by kernel_rfl) (fun _ _ _ h=>h) (Or.inl ⟨by rfl,?_⟩) hs0 ?_
     ·rintro w ⟨q0,q1,q2⟩;go_simp
     refine wpAnyH_take (i:=5) (v:=.int .i64 (i:Int)) rfl (by kernel_rfl) (by kernel_rfl) (by kernel_rfl) (fun _ _ _ h=>h) (Or.inl ⟨by rfl,?_⟩) hs0 ?_
     ·rintro w ⟨q0,q1,q2⟩;go_simp
     refine wpAnyH_take (i:=6) (v:=.pointer (some ⟨g,o+i,none⟩)) rfl (by kernel_rfl) (by kernel_rfl) (by kernel_rfl) (fun _ _ _ h=>h) (Or.inl ⟨by rfl,?_⟩) hs0 ?_
     ·rintro w ⟨q0,q1,q2⟩;go_simp
     refine wpAnyH_take (i:=7) (v:=.slice q m1 c1) rfl (by kernel_rfl) (by kernel_rfl) (by kernel_rfl) (fun _ _ _ h=>h) (Or.inl ⟨by rfl,?_⟩) hs0 ?_
     ·rintro w ⟨q0,q1,q2⟩;go_simp
     refine wpAnyH_ready (rs:=[8]) (by kernel_rfl) (by simp) ?_
     refine AllReadyH.cons rfl (fun KK hKK=>?_) AllReadyH.nil
     go_simp
     refine (HCL.out _ (Below.refl _ _).drew).mono ?_
     rintro en W7 ⟨gt,rfl,-,hE7,b7⟩
     have b7':Below wr.heap.size wr W7:=bel0Z (Below.refl _ _).drew b7
     have hs7:=HS9.out W7 b7'
     obtain ⟨cs9,h9⟩:=HPT.out W7 b7' gt hE7
     have HP:=hideL h9
     obtain ⟨⟨u0,d0⟩,f0,hs8⟩:=HFT.out W7 b7' gt
     clear h9 b7 hE7
     go_simp
     refine hKK.out _ _ hs7 (fun _=>?_)
     clear hKK KK
     refine wpAnyH_take (i:=9) (v:=.pointer (some ⟨gT,i,none⟩)) rfl (by kernel_rfl) (by kernel_rfl) (by kernel_rfl) (fun _ _ _ h=>h) (Or.inl ⟨by rfl,?_⟩) hs7 ?_
     ·rintro w ⟨q0,q1,q2⟩;go_simp
     refine wpAnyH_ready (rs:=[10]) (by kernel_rfl) (by simp) ?_
     refine AllReadyH.cons rfl (fun KK hKK=>?_) AllReadyH.nil
     go_simp
     refine hKK.out _ _ hs8 (fun _=>?_)
     clear hKK KK
     refine wpAnyH_done (by kernel_rfl) ?_ _
     clear d0 f0 hs8 hs7 hs0 b7'
     go_wp2_with fail
     go_roundw
     case rel=>exact ⟨k9,_,by rw [←HK9.out];go_num,by have:=HK9.out;omega,HP⟩
     case measure=>have:=HK9.out;simp [intOf];omega
    ·obtain rfl:i=nt:=by omega
     have j5:¬(i:Int) < (i:Int):=by omega
     obtain ⟨W7,hW7⟩:∃ W,wr.alloc (.cells #[.string ⟨#[98,101,104,105,110,100,32,116,104,101,32,101,110,100]⟩,.slice none 0 0,.slice none 0 0,.string ⟨#[]⟩,.slice none 0 0] 41)=W:=⟨_,rfl⟩
     have b7:Below wr.heap.size wr W7:=by rw [←hW7];exact belAZ (Below.refl _ _) _
     obtain ⟨R1,hR1⟩:∃ R1,wr.heap.size=R1:=⟨_,rfl⟩
     have k1:W7.heap[R1]?=some (.cells #[.string ⟨#[98,101,104,105,110,100,32,116,104,101,32,101,110,100]⟩,.slice none 0 0,.slice none 0 0,.string ⟨#[]⟩,.slice none 0 0] 41 (0,0)):=by rw [←hW7,←hR1];exact alloc_getZ _ _
     obtain ⟨W8,hW8⟩:∃ W,(wr.alloc (.cells #[.string ⟨#[98,101,104,105,110,100,32,116,104,101,32,101,110,100]⟩,.slice none 0 0,.slice none 0 0,.string ⟨#[]⟩,.slice none 0 0] 41)).setCell ⟨gT,i,none⟩ (.slice (some ⟨R1,0,none⟩) 1 1)=W:=⟨_,rfl⟩
     have h8:=HS.out.mark HB.out b7 k1 HN.out.2.1 HM.out.2.1
     rw [←hW7,hW8] at h8
     have HR8:=hideL h8
     have hf:=cellsZ (keepZ b7 HS.out.2.2.1.1)
     have hsz:=HS.out.2.2.1.2.1
     have hmm:=HM.out.2.1
     rw [←hW7] at hf
     obtain ⟨u0,d0⟩:∃ u,(wr.alloc (.cells #[.string ⟨#[98,101,104,105,110,100,32,116,104,101,32,101,110,100]⟩,.slice none 0 0,.slice none 0 0,.string ⟨#[]⟩,.slice none 0 0] 41)).cell? ⟨gT,i,none⟩=some u:=by rw [hf.1];exact aget (by omega)
     have f0:=hf.2 i
     have HW8:=hideL hW8
     have HRR1:=hideL hR1
     clear hW7 b7 hR1 k1 hW8 h8 hf hsz hmm HS W7
     go_upto_region 15 with fail
     rw [HRR1.out,HW8.out]
     clear d0 f0 u0 a1 a2 a3 a4
     have a1:W8.cell? ⟨B,1,none⟩=some (.slice pp k cp):=by rw [(cellsZ HR8.out.1.1).1];rfl
     have a2:W8.cell? ⟨B,2,none⟩=some (.slice pt i ct):=by rw [(cellsZ HR8.out.1.1).1];rfl
     have a3:W8.cell? ⟨B,3,none⟩=some (.slice pg ng cg):=by rw [(cellsZ HR8.out.1.1).1];rfl
     have a4:W8.cell? ⟨b4,2,none⟩=some (.slice (some ⟨gT,0,none⟩) mt mt):=by rw [(cellsZ HR8.out.1.2.2.2.1).1];rfl
     have f4:=(cellsZ HR8.out.1.2.2.2.1).2 2
     obtain ⟨W9,hW9⟩:∃ W,W8.setCell ⟨b4,2,none⟩ (.slice (some ⟨gT,0,none⟩) i mt)=W:=⟨_,rfl⟩
     have r9:=HR8.out.1.set4 HB.out 2 (.slice (some ⟨gT,0,none⟩) i mt)
     rw [hW9] at r9
     have HRW9:=hideL r9
     have HW9:=hideL hW9
     clear r9 hW9
     go_upto_region 16 with fail
     rw [HW9.out]
     clear a1 a2 a3 a4 f4
     have HP9:Hid (PF W9 gP n.ports∧TF W9 gT n.tabs):=by
      obtain ⟨r1,r2,r3⟩:=HR8.out
      obtain ⟨c9,p1,p2⟩:=r2
      obtain ⟨c8,q1,q2⟩:=r3
      refine ⟨⟨c9,by rw [←HW9.out,far1 _ _ _ _ _ (by have:=HgP4.out;omega)];exact p1,p2⟩,?_⟩
      rw [←HW9.out]
      exact TF.keep ⟨c8,q1,q2⟩ (kt_set r1.2.2.2.1 (.inl rfl)) (far1 _ _ _ _ _ (by have:=HgT4.out;omega))
     clear HR8
     have a1:W9.cell? ⟨B,1,none⟩=some (.slice pp k cp):=by rw [(cellsZ HRW9.out.1).1];rfl
     have a2:W9.cell? ⟨B,2,none⟩=some (.slice pt i ct):=by rw [(cellsZ HRW9.out.1).1];rfl
     have a3:W9.cell? ⟨B,3,none⟩=some (.slice pg ng cg):=by rw [(cellsZ HRW9.out.1).1];rfl
     have bm:Below W9.heap.size W9 (W9.alloc (.cells (mkT mg) 43)):=belAZ (Below.refl _ _) _
     have d0:(W9.alloc (.cells (mkT mg) 43)).cell? ⟨b4,3,none⟩=some (.slice none 0 0):=by rw [(cellsZ (keepZ bm HRW9.out.2.2.2.1)).1];rfl
     have f0:=(cellsZ (keepZ bm HRW9.out.2.2.2.1)).2 3
     obtain ⟨gG,hgG⟩:∃ g,W9.heap.size=g:=⟨_,rfl⟩
     obtain ⟨WA,hWA⟩:∃ W,(W9.alloc (.cells (mkT mg) 43)).setCell ⟨b4,3,none⟩ (.slice (some ⟨gG,0,none⟩) mg mg)=W:=⟨_,rfl⟩
     have HRA':=HRW9.out.made (i:=3) HB.out 43 (mkT mg) (.slice (some ⟨gG,0,none⟩) mg mg)
     rw [hWA,hgG] at HRA'
     have HRA:=hideL HRA'
     have HgG:=hideL hgG
     have HgG4:Hid (b4 < gG):=by show b4 < gG;rw [←hgG];exact HRW9.out.2.2.2.2.2
     have HWA:=hideL hWA
     clear bm HRA' hgG hWA
     go_wp2_with fail
     rw [HgG.out,HWA.out]
     clear a1 a2 a3 d0 f0
     have H3:Hid (SG w WA B b2 b3 b4 #[.int .i64 bits,.slice pp k cp,.slice pt i ct,.slice pg ng cg] #[.int .i64 bits,.slice (some ⟨gP,0,none⟩) k mp,.slice (some ⟨gT,0,none⟩) i mt,.slice (some ⟨gG,0,none⟩) mg mg] gP n.ports gT n.tabs gG mg n.grds 0 (mkT mg)):=by
      obtain ⟨r1,r2,r3⟩:=HRA.out
      obtain ⟨c9,p1,p2⟩:=HP9.out.1
      obtain ⟨c8,q1,q2⟩:=HP9.out.2
      refine ⟨r1,⟨c9,r3 _ _ (by have:=HgP4.out;omega) p1,p2⟩,?_,⟨r2,size_madeCells _ _,fun i x hi=>by omega⟩,HgG4.out⟩
      refine TF.keep (W:=W9) ⟨c8,q1,q2⟩ (fun b T cur hT hh=>r3 b _ (fun e=>?_) hh) ((r3 _ _ (by have:=HgT4.out;omega) q1).trans q1.symm)
      exact ne_ty hh HRW9.out.2.2.2.1 hT.1 e
     clear HRA HP9 HRW9 HW9 HWA HW8 HgG
     obtain ⟨wa,hwa⟩:∃ wa,WA=wa:=⟨_,rfl⟩
     clear hwa
     go_loopw [7] (fun vk wr=>∃ (l:Nat) (cs:Array Value),vk=.int .i64 (l:Int)∧l≤ng∧Hid (SG w wr B b2 b3 b4 #[.int .i64 bits,.slice pp k cp,.slice pt i ct,.slice pg ng cg] #[.int .i64 bits,.slice (some ⟨gP,0,none⟩) k mp,.slice (some ⟨gT,0,none⟩) i mt,.slice (some ⟨gG,0,none⟩) mg mg] gP n.ports gT n.tabs gG mg n.grds l cs)) (fun vk _=>ng - (intOf vk).toNat)
     case atStart=>exact ⟨0,_,rfl,Nat.zero_le _,H3⟩
     case round=>
      clear H3
      obtain ⟨l,cs3,rfl,hl,HS⟩:=hrel
      have a1:wr.cell? ⟨B,1,none⟩=some (.slice pp k cp):=by rw [(cellsZ HS.out.1.1).1];rfl
      have a2:wr.cell? ⟨B,2,none⟩=some (.slice pt i ct):=by rw [(cellsZ HS.out.1.1).1];rfl
      have a3:wr.cell? ⟨B,3,none⟩=some (.slice pg ng cg):=by rw [(cellsZ HS.out.1.1).1];rfl
      have a4:wr.cell? ⟨b4,3,none⟩=some (.slice (some ⟨gG,0,none⟩) mg mg):=by rw [(cellsZ HS.out.1.2.2.2.1).1];rfl
      by_cases hlt:l < ng
      ·obtain ⟨t,ht⟩:∃ t,n.grds[l]?=some t:=⟨_,List.getElem?_eq_getElem (by have:=HN.out.2.2.1;omega)⟩
       obtain ⟨k9,hk9⟩:∃ k9,l+1=k9:=⟨_,rfl⟩
       obtain ⟨g,o,q,c1,e9,c0,hrow,hcc⟩:=HL0.out.2.2.2.2.1 l t ht
       simp only at e9
       subst e9
       obtain ⟨m1,hm1⟩:∃ m1,t.length=m1:=⟨_,rfl⟩
       obtain ⟨m2,hm2⟩:∃ m2,m1+2=m2:=⟨_,rfl⟩
       rw [hm1] at c0 hcc
       have hgB:g < B:=HLT.out _ _ c0
       have hbw:=HS.out.1.2.2.2.2.1
       have HOK:=HN.out.2.2.2.1.2.2.2.2.2 t (List.mem_of_getElem? ht)
       have c0':wr.cell? ⟨g,o+l,none⟩=some (.slice q m1 c1):=(hbw.cell hgB).trans c0
       have hbw':∀ U,Below wr.heap.size wr U→Below w.heap.size w U:=fun U hU=>by
        rw [HB1.out]
        exact hbw.trans (hU.mono (Nat.le_of_lt (lt_getZ HS.out.1.1)))
       have HCL:Hid (∀ U,Below wr.heap.size wr U→Calls Tryz.prog 28 #[.slice q m1 c1] U fun e w'=>∃ g,e=.returned (.slice (some ⟨g,0,none⟩) m1 m2)∧U.heap.size≤g∧GRQ w' g t∧Below U.heap.size U w'):=fun U hU=>rguard_any t q m1 m2 c1 U hm1 hm2 (hrow.below (hbw' U hU)) HOK
       have HPT:Hid (∀ U,Below wr.heap.size wr U→∀ gt,GRQ U gt t→∃ cs9,SG w (U.setCell ⟨gG,l,none⟩ (.slice (some ⟨gt,0,none⟩) m1 m2)) B b2 b3 b4 #[.int .i64 bits,.slice pp k cp,.slice pt i ct,.slice (some ⟨g,o,none⟩) ng cg] #[.int .i64 bits,.slice (some ⟨gP,0,none⟩) k mp,.slice (some ⟨gT,0,none⟩) i mt,.slice (some ⟨gG,0,none⟩) mg mg] gP n.ports gT n.tabs gG mg n.grds k9 cs9):=fun U hU gt hE=>HS.out.step HB.out hU hE ht (by have:=HM.out.2.2;omega) hk9 hm1 hm2
       have HS9:Hid (∀ U,Below wr.heap.size wr U→U.cell? ⟨b4,3,none⟩=some (.slice (some ⟨gG,0,none⟩) mg mg)∧U.cell? ⟨B,3,none⟩=some (.slice (some ⟨g,o,none⟩) ng cg)∧U.cell? ⟨g,o+l,none⟩=some (.slice q m1 c1)):=fun U hU=>⟨keepC hU a4,keepC hU a3,keepC hU c0'⟩
       have HFT:Hid (∀ U,Below wr.heap.size wr U→∀ gt,(∃ u,U.cell? ⟨gG,l,none⟩=some u)∧U.frozen? ⟨gG,l,none⟩=false∧(U.setCell ⟨gG,l,none⟩ (.slice (some ⟨gt,0,none⟩) m1 m2)).cell? ⟨b4,3,none⟩=some (.slice (some ⟨gG,0,none⟩) mg mg)∧(U.setCell ⟨gG,l,none⟩ (.slice (some ⟨gt,0,none⟩) m1 m2)).cell? ⟨B,3,none⟩=some (.slice (some ⟨g,o,none⟩) ng cg)∧(U.setCell ⟨gG,l,none⟩ (.slice (some ⟨gt,0,none⟩) m1 m2)).cell? ⟨g,o+l,none⟩=some (.slice q m1 c1)):=fun U hU gt=>by
        have hf:=cellsZ (keepZ hU HS.out.2.2.2.1.1)
        have hsz:=HS.out.2.2.2.1.2.1
        have hmm:=HM.out.2.2
        have hg4:=HgG4.out
        have hbb:=HB.out
        obtain ⟨s1,s2,s3⟩:=HS9.out U hU
        refine ⟨by rw [hf.1];exact aget (by omega),hf.2 _,?_,?_,?_⟩
        ·unfold World.cell?;rw [far1 _ _ _ _ _ (by show b4≠gG;omega)];exact s1
        ·unfold World.cell?;rw [far1 _ _ _ _ _ (by show B≠gG;omega)];exact s2
        ·unfold World.cell?;rw [far1 _ _ _ _ _ (by show g≠gG;omega)];exact s3
       have hs0:wr.drew.cell? ⟨b4,3,none⟩=some (.slice (some ⟨gG,0,none⟩) mg mg)∧wr.drew.cell? ⟨B,3,none⟩=some (.slice (some ⟨g,o,none⟩) ng cg)∧wr.drew.cell? ⟨g,o+l,none⟩=some (.slice q m1 c1):=HS9.out _ (Below.refl _ _).drew
       have HK9:=hideL hk9
       have j4:(0:Int)≤(l:Int):=by omega
       have j5:(l:Int) < (ng:Int):=by omega
       have j6:(l:Int) < (mg:Int):=by have:=HM.out.2.2;omega
       have m7:m1≤140737488351232:=by have:=HOK.1;omega
       clear ht hk9 c0 hrow hcc hm1 hm2 hgB hbw HOK hbw'
       go_wp2_with fail
       refine wp_region_held_drew (S:=fun U=>U.cell? ⟨b4,3,none⟩=some (.slice (some ⟨gG,0,none⟩) mg mg)∧U.cell? ⟨B,3,none⟩=some (.slice (some ⟨g,o,none⟩) ng cg)∧U.cell? ⟨g,o+l,none⟩=some (.slice q m1 c1)) (by kernel_rfl) hs0 (fun _=>?_)
       refine wpAnyH_take (i:=0) (v:=.pointer (some ⟨b4,3,none⟩)) rfl (by kernel_rfl) (by kernel_rfl) (by kernel_rfl) (fun _ _ _ h=>h) (Or.inl ⟨by rfl,?_⟩) hs0 ?_
       ·rintro w ⟨q0,q1,q2⟩;go_simp
       refine wpAnyH_take (i:=1) (v:=.slice (some ⟨gG,0,none⟩) mg mg) rfl (by kernel_rfl) (by kernel_rfl) (by kernel_rfl) (fun _ _ _ h=>h) (Or.inl ⟨by rfl,?_⟩) hs0 ?_
       ·rintro w ⟨q0,q1,q2⟩;go_simp
       refine wpAnyH_take (i:=2) (v:=.int .i64 (l:Int)) rfl (by kernel_rfl) (by kernel_rfl) (by kernel_rfl) (fun _ _ _ h=>h) (Or.inl ⟨by rfl,?_⟩) hs0 ?_
       ·rintro w ⟨q0,q1,q2⟩;go_simp
       refine wpAnyH_take (i:=3) (v:=.pointer (some ⟨B,3,none⟩)) rfl (by kernel_rfl) (by kernel_rfl) (by kernel_rfl) (fun _ _ _ h=>h) (Or.inl ⟨by rfl,?_⟩) hs0 ?_
       ·rintro w ⟨q0,q1,q2⟩;go_simp
       refine wpAnyH_take (i:=4) (v:=.slice (some ⟨g,o,none⟩) ng cg) rfl (by kernel_rfl) (by kernel_rfl) (by kernel_rfl) (fun _ _ _ h=>h) (Or.inl ⟨by rfl,?_⟩) hs0 ?_
       ·rintro w ⟨q0,q1,q2⟩;go_simp
       refine wpAnyH_take (i:=5) (v:=.int .i64 (l:Int)) rfl (by kernel_rfl) (by kernel_rfl) (by kernel_rfl) (fun _ _ _ h=>h) (Or.inl ⟨by rfl,?_⟩) hs0 ?_
       ·rintro w ⟨q0,q1,q2⟩;go_simp
       refine wpAnyH_take (i:=6) (v:=.pointer (some ⟨g,o+l,none⟩)) rfl (by kernel_rfl) (by kernel_rfl) (by kernel_rfl) (fun _ _ _ h=>h) (Or.inl ⟨by rfl,?_⟩) hs0 ?_
       ·rintro w ⟨q0,q1,q2⟩;go_simp
       refine wpAnyH_take (i:=7) (v:=.slice q m1 c1) rfl (by kernel_rfl) (by kernel_rfl) (by kernel_rfl) (fun _ _ _ h=>h) (Or.inl ⟨by rfl,?_⟩) hs0 ?_
       ·rintro w ⟨q0,q1,q2⟩;go_simp
       refine wpAnyH_ready (rs:=[8]) (by kernel_rfl) (by simp) ?_
       refine AllReadyH.cons rfl (fun KK hKK=>?_) AllReadyH.nil
       go_simp
       refine (HCL.out _ (Below.refl _ _).drew).mono ?_
       rintro en W7 ⟨gt,rfl,-,hE7,b7⟩
       have b7':Below wr.heap.size wr W7:=bel0Z (Below.refl _ _).drew b7
       have hs7:=HS9.out W7 b7'
       obtain ⟨cs9,h9⟩:=HPT.out W7 b7' gt hE7
       have HP:=hideL h9
       obtain ⟨⟨u0,d0⟩,f0,hs8⟩:=HFT.out W7 b7' gt
       clear h9 b7 hE7
       go_simp
       refine hKK.out _ _ hs7 (fun _=>?_)
       clear hKK KK
       refine wpAnyH_take (i:=9) (v:=.pointer (some ⟨gG,l,none⟩)) rfl (by kernel_rfl) (by kernel_rfl) (by kernel_rfl) (fun _ _ _ h=>h) (Or.inl ⟨by rfl,?_⟩) hs7 ?_
       ·rintro w ⟨q0,q1,q2⟩;go_simp
       refine wpAnyH_ready (rs:=[10]) (by kernel_rfl) (by simp) ?_
       refine AllReadyH.cons rfl (fun KK hKK=>?_) AllReadyH.nil
       go_simp
       refine hKK.out _ _ hs8 (fun _=>?_)
       clear hKK KK
       refine wpAnyH_done (by kernel_rfl) ?_ _
       clear d0 f0 hs8 hs7 hs0 b7'
       go_wp2_with fail
       go_roundw
       case rel=>exact ⟨k9,_,by rw [←HK9.out];go_num,by have:=HK9.out;omega,HP⟩
       case measure=>have:=HK9.out;simp [intOf];omega
      ·obtain rfl:l=ng:=by omega
       have j7:¬(l:Int) < (l:Int):=by omega
       obtain ⟨R1,hR1⟩:∃ R1,wr.heap.size=R1:=⟨_,rfl⟩
       obtain ⟨R2,hR2⟩:∃ R2,wr.heap.size+1=R2:=⟨_,rfl⟩
       obtain ⟨W7,hW7⟩:∃ W,(wr.alloc (.cells #[.string ⟨#[98,101,104,105,110,100,32,116,104,101,32,101,110,100]⟩] 9)).alloc (.cells #[.bool false,.slice (some ⟨R1,0,none⟩) 1 1] 81)=W:=⟨_,rfl⟩
       have b7:Below wr.heap.size wr W7:=by rw [←hW7];exact belAZ (belAZ (Below.refl _ _) _) _
       have k1:W7.heap[R1]?=some (.cells #[.string ⟨#[98,101,104,105,110,100,32,116,104,101,32,101,110,100]⟩] 9 (0,0)):=by rw [←hW7,←hR1];exact keepZ (belAZ (Below.refl _ _) _) (alloc_getZ _ _)
       have k2:W7.heap[R2]?=some (.cells #[.bool false,.slice (some ⟨R1,0,none⟩) 1 1] 81 (0,0)):=by
        rw [←hW7,←hR2,show wr.heap.size+1=(wr.alloc (.cells #[.string ⟨#[98,101,104,105,110,100,32,116,104,101,32,101,110,100]⟩] 9)).heap.size from (Array.size_push _).symm]
        exact alloc_getZ _ _
       obtain ⟨W8,hW8⟩:∃ W,((wr.alloc (.cells #[.string ⟨#[98,101,104,105,110,100,32,116,104,101,32,101,110,100]⟩] 9)).alloc (.cells #[.bool false,.slice (some ⟨R1,0,none⟩) 1 1] 81)).setCell ⟨gG,l,none⟩ (.slice (some ⟨R2,0,none⟩) 1 1)=W:=⟨_,rfl⟩
       have h8:=HS.out.mark HB.out b7 k2 k1 HN.out.2.2.1 HM.out.2.2
       rw [←hW7,hW8] at h8
       have HR8:=hideL h8
       have hf:=cellsZ (keepZ b7 HS.out.2.2.2.1.1)
       have hsz:=HS.out.2.2.2.1.2.1
       have hmm:=HM.out.2.2
       rw [←hW7] at hf
       obtain ⟨u0,d0⟩:∃ u,((wr.alloc (.cells #[.string ⟨#[98,101,104,105,110,100,32,116,104,101,32,101,110,100]⟩] 9)).alloc (.cells #[.bool false,.slice (some ⟨R1,0,none⟩) 1 1] 81)).cell? ⟨gG,l,none⟩=some u:=by rw [hf.1];exact aget (by omega)
       have f0:=hf.2 l
       rw [←hR1] at d0 f0
       have HW8:=hideL hW8
       have HRR1:=hideL hR1
       have HRR2:=hideL hR2
       clear hW7 b7 hR1 hR2 k1 k2 hW8 h8 hf hsz hmm HS W7
       go_upto_region 22 with fail
       rw [HRR2.out,HRR1.out,HW8.out]
       clear d0 f0 u0 a1 a2 a3 a4
       have a1:W8.cell? ⟨B,1,none⟩=some (.slice pp k cp):=by rw [(cellsZ HR8.out.1.1).1];rfl
       have a2:W8.cell? ⟨B,2,none⟩=some (.slice pt i ct):=by rw [(cellsZ HR8.out.1.1).1];rfl
       have a3:W8.cell? ⟨B,3,none⟩=some (.slice pg l cg):=by rw [(cellsZ HR8.out.1.1).1];rfl
       have a4:W8.cell? ⟨b4,3,none⟩=some (.slice (some ⟨gG,0,none⟩) mg mg):=by rw [(cellsZ HR8.out.1.2.2.2.1).1];rfl
       have f4:=(cellsZ HR8.out.1.2.2.2.1).2 3
       obtain ⟨W9,hW9⟩:∃ W,W8.setCell ⟨b4,3,none⟩ (.slice (some ⟨gG,0,none⟩) l mg)=W:=⟨_,rfl⟩
       have r9:=HR8.out.1.set4 HB.out 3 (.slice (some ⟨gG,0,none⟩) l mg)
       rw [hW9] at r9
       have HRW9:=hideL r9
       have HW9:=hideL hW9
       clear r9 hW9
       go_upto_region 23 with fail
       rw [HW9.out]
       clear a1 a2 a3 a4 f4
       have HRF:Hid (RY w W9 B b2 b3 b4 #[.int .i64 bits,.slice pp k cp,.slice pt i ct,.slice pg l cg] #[.int .i64 bits,.slice (some ⟨gP,0,none⟩) k mp,.slice (some ⟨gT,0,none⟩) i mt,.slice (some ⟨gG,0,none⟩) l mg]∧PF W9 gP n.ports∧TF W9 gT n.tabs∧GF W9 gG n.grds):=by
        obtain ⟨r1,r2,r3,r4⟩:=HR8.out
        obtain ⟨c9,p1,p2⟩:=r2
        refine ⟨HRW9.out,⟨c9,by rw [←HW9.out,far1 _ _ _ _ _ (by have:=HgP4.out;omega)];exact p1,p2⟩,?_,?_⟩
        ·rw [←HW9.out]
         exact r3.keep (kt_set r1.2.2.2.1 (.inl rfl)) (far1 _ _ _ _ _ (by have:=HgT4.out;omega))
        ·rw [←HW9.out]
         exact r4.keep (kt_set r1.2.2.2.1 (.inl rfl)) (far1 _ _ _ _ _ (by have:=HgG4.out;omega))
       clear HR8 HRW9 HW9 HW8
       have HS9:Hid (∀ U,Below W9.heap.size W9 U→U.cell? ⟨b4,0,none⟩=some (.int .i64 bits)∧U.cell? ⟨b4,1,none⟩=some (.slice (some ⟨gP,0,none⟩) k mp)∧U.cell? ⟨b4,2,none⟩=some (.slice (some ⟨gT,0,none⟩) i mt)∧U.cell? ⟨b4,3,none⟩=some (.slice (some ⟨gG,0,none⟩) l mg)):=fun U hU=>by
        have e1:=(cellsZ (keepZ hU HRF.out.1.2.2.2.1)).1
        exact ⟨by rw [e1];rfl,by rw [e1];rfl,by rw [e1];rfl,by rw [e1];rfl⟩
       have HCL:Hid (∀ U,Below W9.heap.size W9 U→Calls Tryz.prog 29 #[.agg #[.int .i64 bits,.slice (some ⟨gP,0,none⟩) k mp,.slice (some ⟨gT,0,none⟩) i mt,.slice (some ⟨gG,0,none⟩) l mg]] U fun e w'=>∃ p1 c1 p2 c2 p3 c3,e=.returned (.agg #[.int .i64 bits,.slice p1 k c1,.slice p2 i c2,.slice p3 l c3])∧(∀ Y,NewK U.heap.size w' Y→KT w' Y→KPN Y n ⟨p1,c1,p2,c2,p3,c3⟩)∧Below U.heap.size U w'):=fun U hU=>by
        have:=held_q n gP gT gG k i l mp mt mg U (HRF.out.2.1.below hU) (HRF.out.2.2.1.below hU) (HRF.out.2.2.2.below hU) HN.out.1 HN.out.2.1 HN.out.2.2.1 HN.out.2.2.2.1
        rw [HN.out.2.2.2.2] at this
        exact this
       have HFB:Hid (∀ U,Below W9.heap.size W9 U→RY w U B b2 b3 b4 #[.int .i64 bits,.slice pp k cp,.slice pt i ct,.slice pg l cg] #[.int .i64 bits,.slice (some ⟨gP,0,none⟩) k mp,.slice (some ⟨gT,0,none⟩) i mt,.slice (some ⟨gG,0,none⟩) l mg]∧GVN U n ⟨some ⟨gP,0,none⟩,mp,some ⟨gT,0,none⟩,mt,some ⟨gG,0,none⟩,mg⟩):=fun U hU=>by
        obtain ⟨r1,r2,r3,r4⟩:=HRF.out
        refine ⟨r1.below hU,gP,gT,gG,?_,r2.below hU,r3.below hU,r4.below hU⟩
        obtain ⟨m1,m2,m3⟩:=HM.out
        obtain ⟨n1,n2,n3,-⟩:=HN.out
        rw [n1,n2,n3,m1,m2,m3]
       have hs0:W9.drew.cell? ⟨b4,0,none⟩=some (.int .i64 bits)∧W9.drew.cell? ⟨b4,1,none⟩=some (.slice (some ⟨gP,0,none⟩) k mp)∧W9.drew.cell? ⟨b4,2,none⟩=some (.slice (some ⟨gT,0,none⟩) i mt)∧W9.drew.cell? ⟨b4,3,none⟩=some (.slice (some ⟨gG,0,none⟩) l mg):=HS9.out _ (Below.refl _ _).drew
       obtain ⟨W5,hW5⟩:∃ W5,W9.drew=W5:=⟨_,rfl⟩
       have b5:Below W9.heap.size W9 W5:=by rw [←hW5];exact (Below.refl _ _).drew
       rw [hW5] at hs0
       have HW5:=hideL hW5
       have HRY4:Hid (b4 < W9.heap.size):=HRF.out.1.2.2.2.2.2
       clear hW5 HRF
       go_wp2_with fail
       refine wp_region_held_drew (S:=fun U=>U.cell? ⟨b4,0,none⟩=some (.int .i64 bits)∧U.cell? ⟨b4,1,none⟩=some (.slice (some ⟨gP,0,none⟩) k mp)∧U.cell? ⟨b4,2,none⟩=some (.slice (some ⟨gT,0,none⟩) i mt)∧U.cell? ⟨b4,3,none⟩=some (.slice (some ⟨gG,0,none⟩) l mg)) (by kernel_rfl) (by rw [HW5.out];exact hs0) (fun _=>?_)
       rw [HW5.out]
       refine wpAnyH_take (i:=0) (v:=.agg #[.int .i64 bits,.slice (some ⟨gP,0,none⟩) k mp,.slice (some ⟨gT,0,none⟩) i mt,.slice (some ⟨gG,0,none⟩) l mg]) rfl (by kernel_rfl) (by kernel_rfl) (by kernel_rfl) (fun _ _ _ h=>h) (Or.inl ⟨by rfl,?_⟩) hs0 ?_
       ·rintro w ⟨q0,q1,q2,q3⟩;go_simp
       refine wpAnyH_take (i:=1) (v:=.agg #[.int .i64 bits,.slice (some ⟨gP,0,none⟩) k mp,.slice (some ⟨gT,0,none⟩) i mt,.slice (some ⟨gG,0,none⟩) l mg]) rfl (by kernel_rfl) (by kernel_rfl) (by kernel_rfl) (fun _ _ _ h=>h) (Or.inl ⟨by rfl,?_⟩) hs0 ?_
       ·rintro w ⟨q0,q1,q2,q3⟩;go_simp
       refine wpAnyH_ready (rs:=[2]) (by kernel_rfl) (by simp) ?_
       refine AllReadyH.cons rfl (fun KK hKK=>?_) AllReadyH.nil
       go_simp
       refine (HCL.out _ b5).mono ?_
       rintro en W7 ⟨p1,c1,p2,c2,p3,c3,rfl,hK7,b7⟩
       have b7':Below W9.heap.size W9 W7:=bel0Z b5 b7
       have hs7:=HS9.out W7 b7'
       obtain ⟨hY,hG⟩:=HFB.out W7 b7'
       have hbb:=HB.out
       have g2:=cellsZ hY.2.1
       have g3:=cellsZ hY.2.2.1
       have d0:W7.cell? ⟨b2,0,none⟩=some (.int .i64 0):=by rw [g2.1];rfl
       have d1:W7.cell? ⟨b2,1,none⟩=some (.slice none 0 0):=by rw [g2.1];rfl
       have d2:W7.cell? ⟨b2,2,none⟩=some (.slice none 0 0):=by rw [g2.1];rfl
       have d3:W7.cell? ⟨b2,3,none⟩=some (.slice none 0 0):=by rw [g2.1];rfl
       have f0:=g2.2 0
       have f1:=g2.2 1
       have f2:=g2.2 2
       have f3:=g2.2 3
       obtain ⟨W8,hW8⟩:∃ W,((((W7.setCell ⟨b2,0,none⟩ (.int .i64 bits)).setCell ⟨b2,1,none⟩ (.slice (some ⟨gP,0,none⟩) k mp)).setCell ⟨b2,2,none⟩ (.slice (some ⟨gT,0,none⟩) i mt)).setCell ⟨b2,3,none⟩ (.slice (some ⟨gG,0,none⟩) l mg))=W:=⟨_,rfl⟩
       have kf8:∀ b,b≠b2→W8.heap[b]?=W7.heap[b]?:=fun b hne=>by
        rw [←hW8,far1 _ _ _ _ _ hne,far1 _ _ _ _ _ hne,far1 _ _ _ _ _ hne,far1 _ _ _ _ _ hne]
       have kb8:W8.heap[b2]?=some (.cells #[.int .i64 bits,.slice (some ⟨gP,0,none⟩) k mp,.slice (some ⟨gT,0,none⟩) i mt,.slice (some ⟨gG,0,none⟩) l mg] 26 (0,0)):=by
        rw [←hW8]
        exact (set_getZ _ (set_getZ _ (set_getZ _ (set_getZ _ hY.2.1)))).trans (by simp)
       have kt8:KT W7 W8:=by
        rw [←hW8]
        have z0:=set_getZ (j:=0) (.int .i64 bits) hY.2.1
        have z1:=set_getZ (j:=1) (.slice (some ⟨gP,0,none⟩) k mp) z0
        have z2:=set_getZ (j:=2) (.slice (some ⟨gT,0,none⟩) i mt) z1
        exact (kt_set hY.2.1 (.inl rfl)).trans ((kt_set z0 (.inl rfl)).trans ((kt_set z1 (.inl rfl)).trans (kt_set z2 (.inl rfl))))
       have g3':W8.heap[b3]?=_:=(kf8 b3 (by omega)).trans hY.2.2.1
       have e0:W8.cell? ⟨b3,0,none⟩=some (.int .i64 0):=by rw [(cellsZ g3').1];rfl
       have e1:W8.cell? ⟨b3,1,none⟩=some (.slice none 0 0):=by rw [(cellsZ g3').1];rfl
       have e2:W8.cell? ⟨b3,2,none⟩=some (.slice none 0 0):=by rw [(cellsZ g3').1];rfl
       have e3:W8.cell? ⟨b3,3,none⟩=some (.slice none 0 0):=by rw [(cellsZ g3').1];rfl
       have m0:=(cellsZ g3').2 0
       have m1:=(cellsZ g3').2 1
       have m2:=(cellsZ g3').2 2
       have m3:=(cellsZ g3').2 3
       have hs8:W8.cell? ⟨b4,0,none⟩=some (.int .i64 bits)∧W8.cell? ⟨b4,1,none⟩=some (.slice (some ⟨gP,0,none⟩) k mp)∧W8.cell? ⟨b4,2,none⟩=some (.slice (some ⟨gT,0,none⟩) i mt)∧W8.cell? ⟨b4,3,none⟩=some (.slice (some ⟨gG,0,none⟩) l mg):=by
        have kp:∀ j,W8.cell? ⟨b4,j,none⟩=W7.cell? ⟨b4,j,none⟩:=fun j=>by
         unfold World.cell?
         rw [kf8 _ (by show b4≠b2;omega)]
        exact ⟨(kp 0).trans hs7.1,(kp 1).trans hs7.2.1,(kp 2).trans hs7.2.2.1,(kp 3).trans hs7.2.2.2⟩
       obtain ⟨WB,hWB⟩:∃ W,((((W8.setCell ⟨b3,0,none⟩ (.int .i64 bits)).setCell ⟨b3,1,none⟩ (.slice p1 k c1)).setCell ⟨b3,2,none⟩ (.slice p2 i c2)).setCell ⟨b3,3,none⟩ (.slice p3 l c3))=W:=⟨_,rfl⟩
       have kfB:∀ b,b≠b3→WB.heap[b]?=W8.heap[b]?:=fun b hne=>by
        rw [←hWB,far1 _ _ _ _ _ hne,far1 _ _ _ _ _ hne,far1 _ _ _ _ _ hne,far1 _ _ _ _ _ hne]
       have kbB:WB.heap[b3]?=some (.cells #[.int .i64 bits,.slice p1 k c1,.slice p2 i c2,.slice p3 l c3] 26 (0,0)):=by
        rw [←hWB]
        exact (set_getZ _ (set_getZ _ (set_getZ _ (set_getZ _ g3')))).trans (by simp)
       have ktB:KT W8 WB:=by
        rw [←hWB]
        have z0:=set_getZ (j:=0) (.int .i64 bits) g3'
        have z1:=set_getZ (j:=1) (.slice p1 k c1) z0
        have z2:=set_getZ (j:=2) (.slice p2 i c2) z1
        exact (kt_set g3' (.inl rfl)).trans ((kt_set z0 (.inl rfl)).trans ((kt_set z1 (.inl rfl)).trans (kt_set z2 (.inl rfl))))
       have hsB:WB.cell? ⟨b4,0,none⟩=some (.int .i64 bits)∧WB.cell? ⟨b4,1,none⟩=some (.slice (some ⟨gP,0,none⟩) k mp)∧WB.cell? ⟨b4,2,none⟩=some (.slice (some ⟨gT,0,none⟩) i mt)∧WB.cell? ⟨b4,3,none⟩=some (.slice (some ⟨gG,0,none⟩) l mg):=by
        have kp:∀ j,WB.cell? ⟨b4,j,none⟩=W8.cell? ⟨b4,j,none⟩:=fun j=>by
         unfold World.cell?
         rw [kfB _ (by show b4≠b3;omega)]
        exact ⟨(kp 0).trans hs8.1,(kp 1).trans hs8.2.1,(kp 2).trans hs8.2.2.1,(kp 3).trans hs8.2.2.2⟩
       have HFIN:Hid (GVN WB n ⟨some ⟨gP,0,none⟩,mp,some ⟨gT,0,none⟩,mt,some ⟨gG,0,none⟩,mg⟩∧KPN WB n ⟨p1,c1,p2,c2,p3,c3⟩∧Below w.heap.size w WB):=by
        have hP4:=HgP4.out
        have hT4:=HgT4.out
        have hG4:=HgG4.out
        have kf:∀ b,b4 < b→WB.heap[b]?=W7.heap[b]?:=fun b hb=>(kfB b (by omega)).trans (kf8 b (by omega))
        have kt:=kt8.trans ktB
        refine ⟨?_,hK7 WB (fun b o hb ho=>?_) kt,?_⟩
        ·obtain ⟨gP',gT',gG',e9,r1,r2,r3⟩:=hG
         injection e9 with e91 _ e92 _ e93 _
         injection e91 with e91
         injection e92 with e92
         injection e93 with e93
         injection e91 with e91 _
         injection e92 with e92 _
         injection e93 with e93 _
         subst e91 e92 e93
         refine ⟨gP,gT,gG,?_,r1.keep (kf _ hP4),r2.keep kt (kf _ hT4),r3.keep kt (kf _ hG4)⟩
         obtain ⟨m1,m2,m3⟩:=HM.out
         obtain ⟨n1,n2,n3,-⟩:=HN.out
         rw [n1,n2,n3,m1,m2,m3]
        ·have h4:=HRY4.out
         have hb5:W9.heap.size≤b:=Nat.le_trans b5.size hb
         rw [kf b (by omega)]
         exact ho
        ·rw [←hWB,←hW8,HB1.out]
         have hh:=hY.2.2.2.2.1
         exact ((((((((hh.setCell (by show B≤b2;omega) _).setCell (by show B≤b2;omega) _).setCell (by show B≤b2;omega) _).setCell (by show B≤b2;omega) _).setCell (by show B≤b3;omega) _).setCell (by show B≤b3;omega) _).setCell (by show B≤b3;omega) _).setCell (by show B≤b3;omega) _)
       have kb2:WB.heap[b2]?=some (.cells #[.int .i64 bits,.slice (some ⟨gP,0,none⟩) k mp,.slice (some ⟨gT,0,none⟩) i mt,.slice (some ⟨gG,0,none⟩) l mg] 26 (0,0)):=(kfB b2 (by omega)).trans kb8
       have HRES:Hid (WB.heap[b2]?=some (.cells #[.int .i64 bits,.slice (some ⟨gP,0,none⟩) k mp,.slice (some ⟨gT,0,none⟩) i mt,.slice (some ⟨gG,0,none⟩) l mg] 26 (0,0))∧WB.heap[b3]?=some (.cells #[.int .i64 bits,.slice p1 k c1,.slice p2 i c2,.slice p3 l c3] 26 (0,0))):=⟨kb2,kbB⟩
       have HW8:=hideL hW8
       have HWB:=hideL hWB
       clear hW8 hWB kb2 kb8 kbB kf8 kfB kt8 ktB hK7 b7 b7' hY hG g2 g3 g3' hbb
       go_simp
       refine hKK.out _ _ hs7 (fun _=>?_)
       clear hKK KK
       refine wpAnyH_ready (rs:=[3]) (by kernel_rfl) (by simp) ?_
       refine AllReadyH.cons rfl (fun KK hKK=>?_) AllReadyH.nil
       go_simp
       rw [HW8.out]
       refine hKK.out _ _ hs8 (fun _=>?_)
       clear hKK KK
       refine wpAnyH_ready (rs:=[4]) (by kernel_rfl) (by simp) ?_
       refine AllReadyH.cons rfl (fun KK hKK=>?_) AllReadyH.nil
       go_simp
       rw [HWB.out]
       refine hKK.out _ _ hsB (fun _=>?_)
       clear hKK KK
       refine wpAnyH_done (by kernel_rfl) ?_ _
       clear d0 d1 d2 d3 f0 f1 f2 f3 e0 e1 e2 e3 m0 m1 m2 m3 hs0 hs7 hs8 hsB
       go_wp2_with fail
       refine bodyPost_ret (res_nets _ _ b2 b3 _ _ _ _ _ _ _ _ _ _ _ _ _ _ _ _ _ _ _ _ rfl rfl HRES.out.1 HRES.out.2) rfl ?_
       refine ⟨⟨some ⟨gP,0,none⟩,mp,some ⟨gT,0,none⟩,mt,some ⟨gG,0,none⟩,mg⟩,⟨p1,c1,p2,c2,p3,c3⟩,?_,HFIN.out⟩
       obtain ⟨n1,n2,n3,-,n5⟩:=HN.out
       unfold nnA
       rw [n1,n2,n3,n5]
end Go.Proofs.YtciffggmobblpaaGreatDoor.Nt
