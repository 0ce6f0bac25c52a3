import Derived.Test.YtciffggmobblpaaGreatDoorXBA
namespace Go.Proofs.YtciffggmobblpaaGreatDoor.Nt
open Go.RowKit Go.Shelf
theorem vA_li {W:World} {g m:Nat} {T:TypeId} {L:List Int} (h:W.heap[g]?=some (.cells (vA m (riF L)) T (0,0))) (hm:L.length+2=m):LI W (some ⟨g,0,none⟩) L:=fun k x hx=>by
 have hk:=(List.getElem?_eq_some_iff.1 hx).1
 refine ⟨g,0,rfl,?_⟩
 rw [Nat.zero_add,(cellsZ h).1,vA_get (by omega),riF_at hx]
theorem vA_ls {W:World} {g m:Nat} {T:TypeId} {L:List (List UInt8)} (h:W.heap[g]?=some (.cells (vA m (rsF L)) T (0,0))) (hm:L.length+2=m):LS W (some ⟨g,0,none⟩) L:=fun k x hx=>by
 have hk:=(List.getElem?_eq_some_iff.1 hx).1
 refine ⟨g,0,rfl,?_⟩
 rw [Nat.zero_add,(cellsZ h).1,vA_get (by omega),rsF_at hx]
theorem vA_im {W:World} {g m:Nat} {T:TypeId} {L:List Int} (h:W.heap[g]?=some (.cells (vA m (riF L)) T (0,0))) (hm:L.length+2=m):W.cell? ⟨g,L.length,none⟩=some (.int .i64 (-4711))∧W.cell? ⟨g,L.length+1,none⟩=some (.int .i64 (-4712)):=
 ⟨by rw [(cellsZ h).1,vA_get (by omega),riF_m1 rfl],by rw [(cellsZ h).1,vA_get (by omega),riF_m2 rfl (by omega)]⟩
theorem vA_sm {W:World} {g m:Nat} {T:TypeId} {L:List (List UInt8)} (h:W.heap[g]?=some (.cells (vA m (rsF L)) T (0,0))) (hm:L.length+2=m):W.cell? ⟨g,L.length,none⟩=some beh1∧W.cell? ⟨g,L.length+1,none⟩=some beh2:=
 ⟨by rw [(cellsZ h).1,vA_get (by omega),rsF_m1 rfl],by rw [(cellsZ h).1,vA_get (by omega),rsF_m2 rfl (by omega)]⟩
theorem ERQ.le {W:World} {g:Nat} {L:List NE} (h:ERQ W g L):LE W (some ⟨g,0,none⟩) L:=fun k x hx=>by
 obtain ⟨cs,hg,hr,-⟩:=h
 obtain ⟨gi,gc,go,-,a0,a1,a2,a3,a4,d1,d2,d3⟩:=hr k x hx
 have hc:=(cellsZ hg).1
 refine ⟨g,0,some ⟨gi,0,none⟩,x.ins.length+2,some ⟨gc,0,none⟩,x.cubes.length+2,some ⟨go,0,none⟩,x.outs.length+2,rfl,?_,?_,?_,?_,?_,vA_li d1 rfl,by omega,vA_ls d2 rfl,by omega,vA_li d3 rfl,by omega⟩
 ·rw [Nat.zero_add,hc];exact a0
 ·rw [Nat.zero_add,hc];exact a1
 ·rw [Nat.zero_add,hc];exact a2
 ·rw [Nat.zero_add,hc];exact a3
 ·rw [Nat.zero_add,hc];exact a4
theorem GRQ.lg {W:World} {g:Nat} {L:List NG} (h:GRQ W g L):LG W (some ⟨g,0,none⟩) L:=fun k x hx=>by
 obtain ⟨cs,_,_,hg,hr,-⟩:=h
 obtain ⟨gc,-,a0,a1,d1⟩:=hr k x hx
 have hc:=(cellsZ hg).1
 refine ⟨g,0,some ⟨gc,0,none⟩,x.cubes.length+2,rfl,?_,?_,vA_ls d1 rfl,by omega⟩
 ·rw [Nat.zero_add,hc];exact a0
 ·rw [Nat.zero_add,hc];exact a1
def REM (W:World) (x:NE) (r:RE):Prop:=r.nm=x.nm∧r.wr=x.wr∧r.ni=x.ins.length∧r.nc=x.cubes.length∧r.no=x.outs.length∧r.ci=r.ni+2∧r.cc=r.nc+2∧r.co=r.no+2∧∃ gi gc go,r.pi=some ⟨gi,0,none⟩∧r.pc=some ⟨gc,0,none⟩∧r.po=some ⟨go,0,none⟩∧W.heap[gi]?=some (.cells (vA (x.ins.length+2) (riF x.ins)) 3 (0,0))∧W.heap[gc]?=some (.cells (vA (x.cubes.length+2) (rsF x.cubes)) 9 (0,0))∧W.heap[go]?=some (.cells (vA (x.outs.length+2) (riF x.outs)) 3 (0,0))
theorem REM.below {W W':World} {x:NE} {r:RE} (h:REM W x r) (hb:Below W.heap.size W W'):REM W' x r:=by
 obtain ⟨a1,a2,a3,a4,a5,a6,a7,a8,gi,gc,go,b1,b2,b3,d1,d2,d3⟩:=h
 exact ⟨a1,a2,a3,a4,a5,a6,a7,a8,gi,gc,go,b1,b2,b3,keepZ hb d1,keepZ hb d2,keepZ hb d3⟩
end Go.Proofs.YtciffggmobblpaaGreatDoor.Nt
namespace Go.Proofs.YtciffggmobblpaaGreatDoor.Nt
open Go.RowKit Go.Shelf
def TMK (W:World) (p:Option Addr) (tabs:List (List NE)):Prop:=∀ (k:Nat) (t:List NE),tabs[k]?=some t→∃ gt g,p=some ⟨gt,0,none⟩∧W.cell? ⟨gt,k,none⟩=some (.slice (some ⟨g,0,none⟩) t.length (t.length+2))∧ERQ W g t
def GMK (W:World) (p:Option Addr) (grds:List (List NG)):Prop:=∀ (k:Nat) (t:List NG),grds[k]?=some t→∃ gt g,p=some ⟨gt,0,none⟩∧W.cell? ⟨gt,k,none⟩=some (.slice (some ⟨g,0,none⟩) t.length (t.length+2))∧GRQ W g t
theorem TMK.below {W W':World} {p:Option Addr} {tabs:List (List NE)} (h:TMK W p tabs) (hb:Below W.heap.size W W'):TMK W' p tabs:=fun k t ht=>by
 obtain ⟨gt,g,e,c,q⟩:=h k t ht
 exact ⟨gt,g,e,keepC hb c,q.below hb⟩
theorem GMK.below {W W':World} {p:Option Addr} {grds:List (List NG)} (h:GMK W p grds) (hb:Below W.heap.size W W'):GMK W' p grds:=fun k t ht=>by
 obtain ⟨gt,g,e,c,q⟩:=h k t ht
 exact ⟨gt,g,e,keepC hb c,q.below hb⟩
set_option maxRecDepth 100000 in
set_option maxHeartbeats 16000000 in
theorem mlists_any (bits:Int) (tabs:List (List NE)) (grds:List (List NG)) (np nt ng cp ct cg:Nat) (pp pt pg:Option Addr) (w:World) (hT:TMK w pt tabs) (hG:GMK w pg grds) (htn:tabs.length=nt) (hgn:grds.length=ng) (hnt:nt≤140737488351232) (hng:ng≤140737488351232) (hto:∀ t∈tabs,t.length≤140737488351232) (hgo:∀ t∈grds,t.length≤140737488351232) :
  Calls Tryz.prog 33 #[.agg #[.int .i64 bits,.slice pp np cp,.slice pt nt ct,.slice pg ng cg]] w fun e w'=>e=.returned (.bool true)∧Below w.heap.size w w':=by
 obtain ⟨W1,hW1⟩:∃ W1,w.alloc (Obj.cells #[.int .i64 bits,.slice pp np cp,.slice pt nt ct,.slice pg ng cg] 26)=W1:=⟨_,rfl⟩
 have b1:Below w.heap.size w W1:=by rw [←hW1];exact belAZ (Below.refl _ _) _
 obtain ⟨B,hB⟩:∃ B,w.heap.size=B:=⟨_,rfl⟩
 have k1:W1.heap[B]?=some (.cells #[.int .i64 bits,.slice pp np cp,.slice pt nt ct,.slice pg ng cg] 26 (0,0)):=by rw [←hW1,←hB];exact alloc_getZ _ _
 have HC:Hid (∀ U,Below W1.heap.size W1 U→U.cell? ⟨B,2,none⟩=some (.slice pt nt ct)∧U.cell? ⟨B,3,none⟩=some (.slice pg ng cg)):=fun U hU=>by
  have e1:=(cellsZ (keepZ hU k1)).1
  exact ⟨by rw [e1];rfl,by rw [e1];rfl⟩
 have HT:Hid (∀ U,Below W1.heap.size W1 U→TMK U pt tabs∧GMK U pg grds∧Below w.heap.size w U):=fun U hU=>⟨hT.below (bel0Z b1 hU),hG.below (bel0Z b1 hU),bel0Z b1 hU⟩
 have HN:Hid (tabs.length=nt∧grds.length=ng∧(∀ t∈tabs,t.length≤140737488351232)∧∀ t∈grds,t.length≤140737488351232):=⟨htn,hgn,hto,hgo⟩
 have HB1:=hideL hB
 have HW:=hideL hW1
 clear hT hG htn hgn hto hgo hW1 b1 hB k1
 go_enter Tryz.func33,Tryz.ntmps33
 go_upto_region 1 with fail
 rw [HW.out,HB1.out]
 go_wp2_with fail
 go_loopw [3] (fun vk wr=>∃ i:Nat,vk=.int .i64 (i:Int)∧i≤nt∧Hid (Below W1.heap.size W1 wr)) (fun vk _=>nt - (intOf vk).toNat)
 case atStart=>exact ⟨0,rfl,Nat.zero_le _,Below.refl _ _⟩
 case round=>
  obtain ⟨i,rfl,hi,HBW⟩:=hrel
  obtain ⟨q2,q3⟩:=HC.out wr HBW.out
  by_cases hlt:i < nt
  ·obtain ⟨t,ht⟩:∃ t,tabs[i]?=some t:=⟨_,List.getElem?_eq_getElem (by have:=HN.out.1;omega)⟩
   obtain ⟨gt,g,e9,t0,cs,hg,-,d0,d2,d1,d3⟩:=(HT.out wr HBW.out).1 i t ht
   subst e9
   have hmo:=HN.out.2.2.1 t (List.mem_of_getElem? ht)
   obtain ⟨m,hm⟩:∃ m,t.length=m:=⟨_,rfl⟩
   obtain ⟨m1,hm1⟩:∃ m1,m+1=m1:=⟨_,rfl⟩
   obtain ⟨m2,hm2⟩:∃ m2,m+2=m2:=⟨_,rfl⟩
   rw [hm,hm2] at t0
   have e2:(m:Int)+2=(m2:Int):=by omega
   have e3:IntKind.i64.wrap (m2:Int)=(m2:Int):=by rw [IntKind.wrap_i64];omega
   have e4:(m:Int)+1=(m1:Int):=by omega
   have e5:IntKind.i64.wrap (m1:Int)=(m1:Int):=by rw [IntKind.wrap_i64];omega
   have y0:(0:Int)≤(m:Int):=by omega
   have y1:(0:Int)≤(m2:Int):=by omega
   have y3:(0:Int)≤(m1:Int):=by omega
   have y4:(m1:Int) < (m2:Int):=by omega
   have y5:(m:Int) < (m2:Int):=by omega
   have hcs:=(cellsZ hg).1
   rw [hm] at d0 d1 d2 d3
   rw [hm1] at d1 d3
   rw [←hcs] at d0 d1 d2 d3
   have j0:(0:Int)≤(i:Int):=by omega
   have j1:(i:Int) < (nt:Int):=by omega
   clear ht hm hm1 hm2 hg hcs hmo
   go_wp2_with fail
   go_quiet (fail)
   go_wp2_with fail
   go_roundw
   case rel=>exact ⟨i+1,by go_num,by omega,bel_drewZ nq HBW.out⟩
   case measure=>simp [intOf];omega
  ·obtain rfl:i=nt:=by omega
   have j1:¬(i:Int) < (i:Int):=by omega
   obtain ⟨w3,rfl⟩:∃ w3,w3=wr:=⟨wr,rfl⟩
   go_wp2_with fail
   clear q2 q3
   go_loopw [6] (fun vk wr=>∃ l:Nat,vk=.int .i64 (l:Int)∧l≤ng∧Hid (Below W1.heap.size W1 wr)) (fun vk _=>ng - (intOf vk).toNat)
   case atStart=>exact ⟨0,rfl,Nat.zero_le _,HBW⟩
   case round=>
    clear HBW
    obtain ⟨l,rfl,hl,HBW⟩:=hrel
    obtain ⟨q2,q3⟩:=HC.out wr HBW.out
    by_cases hlt2:l < ng
    ·obtain ⟨t,ht⟩:∃ t,grds[l]?=some t:=⟨_,List.getElem?_eq_getElem (by have:=HN.out.2.1;omega)⟩
     obtain ⟨gt,g,e9,t0,cs,gm1,gm2,hg,-,d0,f1,d1,f2⟩:=(HT.out wr HBW.out).2.1 l t ht
     subst e9
     have hmo:=HN.out.2.2.2 t (List.mem_of_getElem? ht)
     obtain ⟨m,hm⟩:∃ m,t.length=m:=⟨_,rfl⟩
     obtain ⟨m1,hm1⟩:∃ m1,m+1=m1:=⟨_,rfl⟩
     obtain ⟨m2,hm2⟩:∃ m2,m+2=m2:=⟨_,rfl⟩
     rw [hm,hm2] at t0
     have e2:(m:Int)+2=(m2:Int):=by omega
     have e3:IntKind.i64.wrap (m2:Int)=(m2:Int):=by rw [IntKind.wrap_i64];omega
     have e4:(m:Int)+1=(m1:Int):=by omega
     have e5:IntKind.i64.wrap (m1:Int)=(m1:Int):=by rw [IntKind.wrap_i64];omega
     have y0:(0:Int)≤(m:Int):=by omega
     have y1:(0:Int)≤(m2:Int):=by omega
     have y3:(0:Int)≤(m1:Int):=by omega
     have y4:(m1:Int) < (m2:Int):=by omega
     have y5:(m:Int) < (m2:Int):=by omega
     have hcs:=(cellsZ hg).1
     rw [hm] at d0 d1
     rw [hm1] at d1
     rw [←hcs] at d0 d1
     have u1:wr.cell? ⟨gm1,0,none⟩=some (.string ⟨#[98,101,104,105,110,100,32,116,104,101,32,101,110,100]⟩):=by rw [(cellsZ f1).1];rfl
     have u2:wr.cell? ⟨gm2,0,none⟩=some (.string ⟨#[98,101,104,105,110,100,32,116,104,101,32,101,110,100,50]⟩):=by rw [(cellsZ f2).1];rfl
     have j2:(0:Int)≤(l:Int):=by omega
     have j3:(l:Int) < (ng:Int):=by omega
     clear ht hm hm1 hm2 hg hcs hmo f1 f2
     go_wp2_with fail
     go_roundw
     case rel=>exact ⟨l+1,by go_num,by omega,HBW⟩
     case measure=>simp [intOf];omega
    ·obtain rfl:l=ng:=by omega
     have j3:¬(l:Int) < (l:Int):=by omega
     have HFF:=hideL (HT.out wr HBW.out).2.2
     go_wp2_with fail
     go_ret
     exact ⟨rfl,HFF.out⟩
end Go.Proofs.YtciffggmobblpaaGreatDoor.Nt
namespace Go.Proofs.YtciffggmobblpaaGreatDoor.Nt
open Go.RowKit Go.Shelf
theorem list_choose {α β:Type}:∀ (L:List α) (P:Nat→α→β→Prop),(∀ (k:Nat) (x:α),L[k]?=some x→∃ r,P k x r)→∃ R:List β,R.length=L.length∧∀ (k:Nat) (x:α) (r:β),L[k]?=some x→R[k]?=some r→P k x r
 | [],_,_=>⟨[],rfl,fun k x r hx=>by simp at hx⟩
 | a :: L,P,h=>by
  obtain ⟨r0,h0⟩:=h 0 a rfl
  obtain ⟨R,hl,hR⟩:=list_choose L (fun k=>P (k+1)) (fun k x hx=>h (k+1) x (by simpa using hx))
  refine ⟨r0 :: R,by simp [hl],fun k x r hx hr=>?_⟩
  cases k with
  | zero=>
   obtain rfl:a=x:=by simpa using hx
   obtain rfl:r0=r:=by simpa using hr
   exact h0
  | succ k=>exact hR k x r (by simpa using hx) (by simpa using hr)
def ME (W:World) (p:Option Addr) (L:List NE):Prop:=∀ (k:Nat) (x:NE),L[k]?=some x→∃ g o gi gc go,p=some ⟨g,o,none⟩∧W.cell? ⟨g,o+k*5,none⟩=some (.string ⟨x.nm.toArray⟩)∧W.cell? ⟨g,o+k*5+1,none⟩=some (.slice (some ⟨gi,0,none⟩) x.ins.length (x.ins.length+2))∧W.cell? ⟨g,o+k*5+2,none⟩=some (.slice (some ⟨gc,0,none⟩) x.cubes.length (x.cubes.length+2))∧W.cell? ⟨g,o+k*5+3,none⟩=some (.string ⟨x.wr.toArray⟩)∧W.cell? ⟨g,o+k*5+4,none⟩=some (.slice (some ⟨go,0,none⟩) x.outs.length (x.outs.length+2))∧W.heap[gi]?=some (.cells (vA (x.ins.length+2) (riF x.ins)) 3 (0,0))∧W.heap[gc]?=some (.cells (vA (x.cubes.length+2) (rsF x.cubes)) 9 (0,0))∧W.heap[go]?=some (.cells (vA (x.outs.length+2) (riF x.outs)) 3 (0,0))
def MG (W:World) (p:Option Addr) (L:List NG):Prop:=∀ (k:Nat) (x:NG),L[k]?=some x→∃ g o gc,p=some ⟨g,o,none⟩∧W.cell? ⟨g,o+k*2,none⟩=some (.bool x.pm)∧W.cell? ⟨g,o+k*2+1,none⟩=some (.slice (some ⟨gc,0,none⟩) x.cubes.length (x.cubes.length+2))∧W.heap[gc]?=some (.cells (vA (x.cubes.length+2) (rsF x.cubes)) 9 (0,0))
def MET (W:World) (p:Option Addr) (tabs:List (List NE)):Prop:=∀ (k:Nat) (t:List NE),tabs[k]?=some t→∃ g o q c,p=some ⟨g,o,none⟩∧W.cell? ⟨g,o+k,none⟩=some (.slice q t.length c)∧ME W q t∧t.length≤c
def MGT (W:World) (p:Option Addr) (grds:List (List NG)):Prop:=∀ (k:Nat) (t:List NG),grds[k]?=some t→∃ g o q c,p=some ⟨g,o,none⟩∧W.cell? ⟨g,o+k,none⟩=some (.slice q t.length c)∧MG W q t∧t.length≤c
section
variable {W W':World} {p:Option Addr}
theorem ME.below {L:List NE} (h:ME W p L) (hb:Below W.heap.size W W'):ME W' p L:=fun k x hx=>by
 obtain ⟨g,o,gi,gc,go,e,a0,a1,a2,a3,a4,d1,d2,d3⟩:=h k x hx
 exact ⟨g,o,gi,gc,go,e,keepC hb a0,keepC hb a1,keepC hb a2,keepC hb a3,keepC hb a4,keepZ hb d1,keepZ hb d2,keepZ hb d3⟩
theorem MG.below {L:List NG} (h:MG W p L) (hb:Below W.heap.size W W'):MG W' p L:=fun k x hx=>by
 obtain ⟨g,o,gc,e,a0,a1,d1⟩:=h k x hx
 exact ⟨g,o,gc,e,keepC hb a0,keepC hb a1,keepZ hb d1⟩
theorem MET.below {L:List (List NE)} (h:MET W p L) (hb:Below W.heap.size W W'):MET W' p L:=fun k x hx=>by
 obtain ⟨g,o,q,c,e,a0,a1,a2⟩:=h k x hx
 exact ⟨g,o,q,c,e,keepC hb a0,a1.below hb,a2⟩
theorem MGT.below {L:List (List NG)} (h:MGT W p L) (hb:Below W.heap.size W W'):MGT W' p L:=fun k x hx=>by
 obtain ⟨g,o,q,c,e,a0,a1,a2⟩:=h k x hx
 exact ⟨g,o,q,c,e,keepC hb a0,a1.below hb,a2⟩
theorem ME.le {L:List NE} (h:ME W p L):LE W p L:=fun k x hx=>by
 obtain ⟨g,o,gi,gc,go,e,a0,a1,a2,a3,a4,d1,d2,d3⟩:=h k x hx
 exact ⟨g,o,_,_,_,_,_,_,e,a0,a1,a2,a3,a4,vA_li d1 rfl,by omega,vA_ls d2 rfl,by omega,vA_li d3 rfl,by omega⟩
theorem MG.lg {L:List NG} (h:MG W p L):LG W p L:=fun k x hx=>by
 obtain ⟨g,o,gc,e,a0,a1,d1⟩:=h k x hx
 exact ⟨g,o,_,_,e,a0,a1,vA_ls d1 rfl,by omega⟩
theorem MET.lt {L:List (List NE)} (h:MET W p L):LT W p L:=fun k x hx=>by
 obtain ⟨g,o,q,c,e,a0,a1,a2⟩:=h k x hx
 exact ⟨g,o,q,c,e,a0,a1.le,a2⟩
theorem MGT.lgs {L:List (List NG)} (h:MGT W p L):LGS W p L:=fun k x hx=>by
 obtain ⟨g,o,q,c,e,a0,a1,a2⟩:=h k x hx
 exact ⟨g,o,q,c,e,a0,a1.lg,a2⟩
theorem TMK.lt {L:List (List NE)} (h:TMK W p L):LT W p L:=fun k x hx=>by
 obtain ⟨gt,g,e,a0,a1⟩:=h k x hx
 exact ⟨gt,0,_,_,e,by rw [Nat.zero_add];exact a0,a1.le,by omega⟩
theorem GMK.lgs {L:List (List NG)} (h:GMK W p L):LGS W p L:=fun k x hx=>by
 obtain ⟨gt,g,e,a0,a1⟩:=h k x hx
 exact ⟨gt,0,_,_,e,by rw [Nat.zero_add];exact a0,a1.lg,by omega⟩
theorem rowL_lp {L:List NP} (h:RowL 4 npC W p L):LP W p L:=fun k x hx=>by
 obtain ⟨g,o,e,hc⟩:=h k x hx
 exact ⟨g,o,e,hc 0 _ rfl,hc 1 _ rfl,hc 2 _ rfl,hc 3 _ rfl⟩
end
theorem lp_rowL {W:World} {p:Option Addr} {L:List NP} (h:LP W p L):RowL 4 npC W p L:=fun k x hx=>by
 obtain ⟨g,o,e,c0,c1,c2,c3⟩:=h k x hx
 refine ⟨g,o,e,fun j v hv=>?_⟩
 match j,hv with
 | 0,hv=>obtain rfl:=Option.some.inj hv;exact c0
 | 1,hv=>obtain rfl:=Option.some.inj hv;exact c1
 | 2,hv=>obtain rfl:=Option.some.inj hv;exact c2
 | 3,hv=>obtain rfl:=Option.some.inj hv;exact c3
 | n+4,hv=>simp [npC] at hv
def RGM (W:World) (x:NG) (r:RG):Prop:=r.pm=x.pm∧r.nc=x.cubes.length∧r.cc=r.nc+2∧∃ gc,r.pc=some ⟨gc,0,none⟩∧W.heap[gc]?=some (.cells (vA (x.cubes.length+2) (rsF x.cubes)) 9 (0,0))
theorem RGM.below {W W':World} {x:NG} {r:RG} (h:RGM W x r) (hb:Below W.heap.size W W'):RGM W' x r:=by
 obtain ⟨a1,a2,a3,gc,b1,d1⟩:=h
 exact ⟨a1,a2,a3,gc,b1,keepZ hb d1⟩
theorem erq_raw {W:World} {g:Nat} {L:List NE} (h:ERQ W g L):∃ R:List RE,R.length=L.length∧RowL 5 reC W (some ⟨g,0,none⟩) R∧∀ (k:Nat) (x:NE) (r:RE),L[k]?=some x→R[k]?=some r→REM W x r:=by
 obtain ⟨cs,hg,hr,-⟩:=h
 obtain ⟨R,hl,hR⟩:=list_choose (β:=RE) L (fun k x r=>REM W x r∧∀ (j:Nat) (v:Value),(reC r)[j]?=some v→W.cell? ⟨g,0+k*5+j,none⟩=some v) (fun k x hx=>by
  obtain ⟨gi,gc,go,-,a0,a1,a2,a3,a4,d1,d2,d3⟩:=hr k x hx
  refine ⟨⟨x.nm,some ⟨gi,0,none⟩,x.ins.length,x.ins.length+2,some ⟨gc,0,none⟩,x.cubes.length,x.cubes.length+2,x.wr,some ⟨go,0,none⟩,x.outs.length,x.outs.length+2⟩,⟨rfl,rfl,rfl,rfl,rfl,rfl,rfl,rfl,gi,gc,go,rfl,rfl,rfl,d1,d2,d3⟩,fun j v hv=>?_⟩
  rw [(cellsZ hg).1,Nat.zero_add]
  match j,hv with
  | 0,hv=>obtain rfl:=Option.some.inj hv;exact a0
  | 1,hv=>obtain rfl:=Option.some.inj hv;exact a1
  | 2,hv=>obtain rfl:=Option.some.inj hv;exact a2
  | 3,hv=>obtain rfl:=Option.some.inj hv;exact a3
  | 4,hv=>obtain rfl:=Option.some.inj hv;exact a4
  | n+5,hv=>simp [reC] at hv)
 refine ⟨R,hl,fun k r hr9=>⟨g,0,rfl,?_⟩,fun k x r hx hr9=>(hR k x r hx hr9).1⟩
 have hk:=(List.getElem?_eq_some_iff.1 hr9).1
 obtain ⟨x,hx⟩:∃ x,L[k]?=some x:=⟨_,List.getElem?_eq_getElem (by omega)⟩
 exact (hR k x r hx hr9).2
theorem grq_raw {W:World} {g:Nat} {L:List NG} (h:GRQ W g L):∃ R:List RG,R.length=L.length∧RowL 2 rgC W (some ⟨g,0,none⟩) R∧∀ (k:Nat) (x:NG) (r:RG),L[k]?=some x→R[k]?=some r→RGM W x r:=by
 obtain ⟨cs,_,_,hg,hr,-⟩:=h
 obtain ⟨R,hl,hR⟩:=list_choose (β:=RG) L (fun k x r=>RGM W x r∧∀ (j:Nat) (v:Value),(rgC r)[j]?=some v→W.cell? ⟨g,0+k*2+j,none⟩=some v) (fun k x hx=>by
  obtain ⟨gc,-,a0,a1,d1⟩:=hr k x hx
  refine ⟨⟨x.pm,some ⟨gc,0,none⟩,x.cubes.length,x.cubes.length+2⟩,⟨rfl,rfl,rfl,gc,rfl,d1⟩,fun j v hv=>?_⟩
  rw [(cellsZ hg).1,Nat.zero_add]
  match j,hv with
  | 0,hv=>obtain rfl:=Option.some.inj hv;exact a0
  | 1,hv=>obtain rfl:=Option.some.inj hv;exact a1
  | n+2,hv=>simp [rgC] at hv)
 refine ⟨R,hl,fun k r hr9=>⟨g,0,rfl,?_⟩,fun k x r hx hr9=>(hR k x r hx hr9).1⟩
 have hk:=(List.getElem?_eq_some_iff.1 hr9).1
 obtain ⟨x,hx⟩:∃ x,L[k]?=some x:=⟨_,List.getElem?_eq_getElem (by omega)⟩
 exact (hR k x r hx hr9).2
theorem tmk_raw {W:World} {p:Option Addr} {L:List (List NE)} (h:TMK W p L):∃ tb:List (List RE),tb.length=L.length∧RRL 5 reC W p tb∧∀ (k:Nat) (t:List NE) (R:List RE),L[k]?=some t→tb[k]?=some R→R.length=t.length∧∀ (i:Nat) (x:NE) (r:RE),t[i]?=some x→R[i]?=some r→REM W x r:=by
 obtain ⟨tb,hl,hR⟩:=list_choose (β:=List RE) L (fun k t R=>(R.length=t.length∧∀ (i:Nat) (x:NE) (r:RE),t[i]?=some x→R[i]?=some r→REM W x r)∧∃ g o q c,p=some ⟨g,o,none⟩∧W.cell? ⟨g,o+k,none⟩=some (.slice q R.length c)∧RowL 5 reC W q R∧R.length≤c) (fun k t ht=>by
  obtain ⟨gt,g,e,a0,a1⟩:=h k t ht
  obtain ⟨R,r1,r2,r3⟩:=erq_raw a1
  exact ⟨R,⟨r1,r3⟩,gt,0,some ⟨g,0,none⟩,t.length+2,e,by rw [Nat.zero_add,r1];exact a0,r2,by omega⟩)
 refine ⟨tb,hl,fun k R hR9=>?_,fun k t R ht hR9=>(hR k t R ht hR9).1⟩
 have hk:=(List.getElem?_eq_some_iff.1 hR9).1
 obtain ⟨t,ht⟩:∃ t,L[k]?=some t:=⟨_,List.getElem?_eq_getElem (by omega)⟩
 exact (hR k t R ht hR9).2
theorem gmk_raw {W:World} {p:Option Addr} {L:List (List NG)} (h:GMK W p L):∃ tb:List (List RG),tb.length=L.length∧RRL 2 rgC W p tb∧∀ (k:Nat) (t:List NG) (R:List RG),L[k]?=some t→tb[k]?=some R→R.length=t.length∧∀ (i:Nat) (x:NG) (r:RG),t[i]?=some x→R[i]?=some r→RGM W x r:=by
 obtain ⟨tb,hl,hR⟩:=list_choose (β:=List RG) L (fun k t R=>(R.length=t.length∧∀ (i:Nat) (x:NG) (r:RG),t[i]?=some x→R[i]?=some r→RGM W x r)∧∃ g o q c,p=some ⟨g,o,none⟩∧W.cell? ⟨g,o+k,none⟩=some (.slice q R.length c)∧RowL 2 rgC W q R∧R.length≤c) (fun k t ht=>by
  obtain ⟨gt,g,e,a0,a1⟩:=h k t ht
  obtain ⟨R,r1,r2,r3⟩:=grq_raw a1
  exact ⟨R,⟨r1,r3⟩,gt,0,some ⟨g,0,none⟩,t.length+2,e,by rw [Nat.zero_add,r1];exact a0,r2,by omega⟩)
 refine ⟨tb,hl,fun k R hR9=>?_,fun k t R ht hR9=>(hR k t R ht hR9).1⟩
 have hk:=(List.getElem?_eq_some_iff.1 hR9).1
 obtain ⟨t,ht⟩:∃ t,L[k]?=some t:=⟨_,List.getElem?_eq_getElem (by omega)⟩
 exact (hR k t R ht hR9).2
theorem me_of {W:World} {p:Option Addr} {L:List NE} {R:List RE} (h:RowL 5 reC W p R) (hl:R.length=L.length) (hm:∀ (k:Nat) (x:NE) (r:RE),L[k]?=some x→R[k]?=some r→REM W x r):ME W p L:=fun k x hx=>by
 have hk:=(List.getElem?_eq_some_iff.1 hx).1
 obtain ⟨r,hr⟩:∃ r,R[k]?=some r:=⟨_,List.getElem?_eq_getElem (by omega)⟩
 obtain ⟨g,o,rfl,hc⟩:=h k r hr
 obtain ⟨a1,a2,a3,a4,a5,a6,a7,a8,gi,gc,go,b1,b2,b3,d1,d2,d3⟩:=hm k x r hx hr
 refine ⟨g,o,gi,gc,go,rfl,?_,?_,?_,?_,?_,d1,d2,d3⟩
 ·rw [←a1];exact hc 0 _ rfl
 ·rw [←a3,←b1,←a6];exact hc 1 _ rfl
 ·rw [←a4,←b2,←a7];exact hc 2 _ rfl
 ·rw [←a2];exact hc 3 _ rfl
 ·rw [←a5,←b3,←a8];exact hc 4 _ rfl
theorem mg_of {W:World} {p:Option Addr} {L:List NG} {R:List RG} (h:RowL 2 rgC W p R) (hl:R.length=L.length) (hm:∀ (k:Nat) (x:NG) (r:RG),L[k]?=some x→R[k]?=some r→RGM W x r):MG W p L:=fun k x hx=>by
 have hk:=(List.getElem?_eq_some_iff.1 hx).1
 obtain ⟨r,hr⟩:∃ r,R[k]?=some r:=⟨_,List.getElem?_eq_getElem (by omega)⟩
 obtain ⟨g,o,rfl,hc⟩:=h k r hr
 obtain ⟨a1,a2,a3,gc,b1,d1⟩:=hm k x r hx hr
 refine ⟨g,o,gc,rfl,?_,?_,d1⟩
 ·rw [←a1];exact hc 0 _ rfl
 ·rw [←a2,←b1,←a3];exact hc 1 _ rfl
theorem met_of {W:World} {p:Option Addr} {L:List (List NE)} {tb:List (List RE)} (h:RRL 5 reC W p tb) (hl:tb.length=L.length) (hm:∀ (k:Nat) (t:List NE) (R:List RE),L[k]?=some t→tb[k]?=some R→R.length=t.length∧∀ (i:Nat) (x:NE) (r:RE),t[i]?=some x→R[i]?=some r→REM W x r):MET W p L:=fun k t ht=>by
 have hk:=(List.getElem?_eq_some_iff.1 ht).1
 obtain ⟨R,hR⟩:∃ R,tb[k]?=some R:=⟨_,List.getElem?_eq_getElem (by omega)⟩
 obtain ⟨g,o,q,c,e,c0,hr,hc⟩:=h k R hR
 obtain ⟨r1,r2⟩:=hm k t R ht hR
 exact ⟨g,o,q,c,e,by rw [←r1];exact c0,me_of hr r1 r2,by omega⟩
theorem mgt_of {W:World} {p:Option Addr} {L:List (List NG)} {tb:List (List RG)} (h:RRL 2 rgC W p tb) (hl:tb.length=L.length) (hm:∀ (k:Nat) (t:List NG) (R:List RG),L[k]?=some t→tb[k]?=some R→R.length=t.length∧∀ (i:Nat) (x:NG) (r:RG),t[i]?=some x→R[i]?=some r→RGM W x r):MGT W p L:=fun k t ht=>by
 have hk:=(List.getElem?_eq_some_iff.1 ht).1
 obtain ⟨R,hR⟩:∃ R,tb[k]?=some R:=⟨_,List.getElem?_eq_getElem (by omega)⟩
 obtain ⟨g,o,q,c,e,c0,hr,hc⟩:=h k R hR
 obtain ⟨r1,r2⟩:=hm k t R ht hR
 exact ⟨g,o,q,c,e,by rw [←r1];exact c0,mg_of hr r1 r2,by omega⟩
def PF (W:World) (g:Nat) (ports:List NP):Prop:=∃ cs,W.heap[g]?=some (.cells cs 36 (0,0))∧(∀ (i:Nat) (x:NP),ports[i]?=some x→∀ (j:Nat) (v:Value),(npC x)[j]?=some v→cs[i*4+j]?=some v)∧cs[ports.length*4]?=some (.string ⟨#[98,101,104,105,110,100,32,116,104,101,32,101,110,100]⟩)
def TF (W:World) (g:Nat) (tabs:List (List NE)):Prop:=∃ cs,W.heap[g]?=some (.cells cs 37 (0,0))∧(∀ (i:Nat) (t:List NE),tabs[i]?=some t→∃ gt,cs[i]?=some (.slice (some ⟨gt,0,none⟩) t.length (t.length+2))∧ERQ W gt t)∧∃ gm,cs[tabs.length]?=some (.slice (some ⟨gm,0,none⟩) 1 1)∧W.heap[gm]?=some (.cells #[.string ⟨#[98,101,104,105,110,100,32,116,104,101,32,101,110,100]⟩,.slice none 0 0,.slice none 0 0,.string ⟨#[]⟩,.slice none 0 0] 41 (0,0))
def GF (W:World) (g:Nat) (grds:List (List NG)):Prop:=∃ cs,W.heap[g]?=some (.cells cs 43 (0,0))∧(∀ (i:Nat) (t:List NG),grds[i]?=some t→∃ gt,cs[i]?=some (.slice (some ⟨gt,0,none⟩) t.length (t.length+2))∧GRQ W gt t)∧∃ gm gs,cs[grds.length]?=some (.slice (some ⟨gm,0,none⟩) 1 1)∧W.heap[gm]?=some (.cells #[.bool false,.slice (some ⟨gs,0,none⟩) 1 1] 81 (0,0))∧W.heap[gs]?=some (.cells #[.string ⟨#[98,101,104,105,110,100,32,116,104,101,32,101,110,100]⟩] 9 (0,0))
theorem PF.below {W W':World} {g:Nat} {L:List NP} (h:PF W g L) (hb:Below W.heap.size W W'):PF W' g L:=by
 obtain ⟨cs,a,b⟩:=h
 exact ⟨cs,keepZ hb a,b⟩
theorem TF.below {W W':World} {g:Nat} {L:List (List NE)} (h:TF W g L) (hb:Below W.heap.size W W'):TF W' g L:=by
 obtain ⟨cs,a,b,gm,c,d⟩:=h
 exact ⟨cs,keepZ hb a,fun i t ht=>by
  obtain ⟨gt,e1,e2⟩:=b i t ht
  exact ⟨gt,e1,e2.below hb⟩,gm,c,keepZ hb d⟩
theorem GF.below {W W':World} {g:Nat} {L:List (List NG)} (h:GF W g L) (hb:Below W.heap.size W W'):GF W' g L:=by
 obtain ⟨cs,a,b,gm,gs,c,d,f⟩:=h
 exact ⟨cs,keepZ hb a,fun i t ht=>by
  obtain ⟨gt,e1,e2⟩:=b i t ht
  exact ⟨gt,e1,e2.below hb⟩,gm,gs,c,keepZ hb d,keepZ hb f⟩
theorem PF.rowL {W:World} {g:Nat} {L:List NP} (h:PF W g L):RowL 4 npC W (some ⟨g,0,none⟩) L:=fun k x hx=>by
 obtain ⟨cs,a,b,-⟩:=h
 refine ⟨g,0,rfl,fun j v hv=>?_⟩
 rw [(cellsZ a).1,Nat.zero_add]
 exact b k x hx j v hv
theorem TF.tmk {W:World} {g:Nat} {L:List (List NE)} (h:TF W g L):TMK W (some ⟨g,0,none⟩) L:=fun k t ht=>by
 obtain ⟨cs,a,b,-⟩:=h
 obtain ⟨gt,e1,e2⟩:=b k t ht
 exact ⟨g,gt,rfl,by rw [(cellsZ a).1];exact e1,e2⟩
theorem GF.gmk {W:World} {g:Nat} {L:List (List NG)} (h:GF W g L):GMK W (some ⟨g,0,none⟩) L:=fun k t ht=>by
 obtain ⟨cs,a,b,-⟩:=h
 obtain ⟨gt,e1,e2⟩:=b k t ht
 exact ⟨g,gt,rfl,by rw [(cellsZ a).1];exact e1,e2⟩
def GVN (W:World) (n:NN) (v:NV):Prop:=∃ gP gT gG,v=⟨some ⟨gP,0,none⟩,n.ports.length+1,some ⟨gT,0,none⟩,n.tabs.length+1,some ⟨gG,0,none⟩,n.grds.length+1⟩∧PF W gP n.ports∧TF W gT n.tabs∧GF W gG n.grds
def KPN (W:World) (n:NN) (v:NV):Prop:=RowL 4 npC W v.pp n.ports∧n.ports.length≤v.cp∧MET W v.pt n.tabs∧n.tabs.length≤v.ct∧MGT W v.pg n.grds∧n.grds.length≤v.cg
theorem GVN.below {W W':World} {n:NN} {v:NV} (h:GVN W n v) (hb:Below W.heap.size W W'):GVN W' n v:=by
 obtain ⟨gP,gT,gG,e,a,b,c⟩:=h
 exact ⟨gP,gT,gG,e,a.below hb,b.below hb,c.below hb⟩
theorem KPN.below {W W':World} {n:NN} {v:NV} (h:KPN W n v) (hb:Below W.heap.size W W'):KPN W' n v:=
 ⟨h.1.below hb,h.2.1,h.2.2.1.below hb,h.2.2.2.1,h.2.2.2.2.1.below hb,h.2.2.2.2.2⟩
theorem GVN.ln {W:World} {n:NN} {v:NV} (h:GVN W n v):LN W n v:=by
 obtain ⟨gP,gT,gG,rfl,a,b,c⟩:=h
 exact ⟨rowL_lp a.rowL,Nat.le_succ _,b.tmk.lt,Nat.le_succ _,c.gmk.lgs,Nat.le_succ _⟩
theorem KPN.ln {W:World} {n:NN} {v:NV} (h:KPN W n v):LN W n v:=⟨rowL_lp h.1,h.2.1,h.2.2.1.lt,h.2.2.2.1,h.2.2.2.2.1.lgs,h.2.2.2.2.2⟩
end Go.Proofs.YtciffggmobblpaaGreatDoor.Nt
