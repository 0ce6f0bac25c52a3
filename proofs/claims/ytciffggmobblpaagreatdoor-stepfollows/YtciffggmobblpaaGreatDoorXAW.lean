import Derived.Test.YtciffggmobblpaaGreatDoorXAV
namespace Go.Proofs.YtciffggmobblpaaGreatDoor.Nt
open Go.RowKit Go.Shelf
def REA (W:World) (B:Nat) (cs:Array Value) (i:Nat) (x:NE):Prop:=∃ gi gc go,(B < gi∧B < gc∧B < go)∧cs[i*5]?=some (.string ⟨x.nm.toArray⟩)∧cs[i*5+1]?=some (.slice (some ⟨gi,0,none⟩) x.ins.length (x.ins.length+2))∧cs[i*5+2]?=some (.slice (some ⟨gc,0,none⟩) x.cubes.length (x.cubes.length+2))∧cs[i*5+3]?=some (.string ⟨x.wr.toArray⟩)∧cs[i*5+4]?=some (.slice (some ⟨go,0,none⟩) x.outs.length (x.outs.length+2))∧W.heap[gi]?=some (.cells (vA (x.ins.length+2) (riF x.ins)) 3 (0,0))∧W.heap[gc]?=some (.cells (vA (x.cubes.length+2) (rsF x.cubes)) 9 (0,0))∧W.heap[go]?=some (.cells (vA (x.outs.length+2) (riF x.outs)) 3 (0,0))
theorem REA.keep {W W':World} {B i:Nat} {cs cs':Array Value} {x:NE} (h:REA W B cs i x) (hw:∀ b o,B < b→W.heap[b]?=some o→W'.heap[b]?=some o) (hc:∀ j,j < 5→cs'[i*5+j]?=cs[i*5+j]?):REA W' B cs' i x:=by
 obtain ⟨gi,gc,go,⟨a1,a2,a3⟩,b0,b1,b2,b3,b4,d1,d2,d3⟩:=h
 exact ⟨gi,gc,go,⟨a1,a2,a3⟩,(hc 0 (by omega)).trans b0,(hc 1 (by omega)).trans b1,(hc 2 (by omega)).trans b2,(hc 3 (by omega)).trans b3,(hc 4 (by omega)).trans b4,hw _ _ a1 d1,hw _ _ a2 d2,hw _ _ a3 d3⟩
def EI (w wr:World) (B m:Nat) (L:List NE) (k:Nat) (cs:Array Value):Prop:=wr.heap[B]?=some (.cells cs 41 (0,0))∧cs.size=m*5∧(∀ i x,i < k→L[i]?=some x→REA wr B cs i x)∧Below B w wr
theorem far1 (W:World) (B a b:Nat) (v:Value) (h:b≠B):(W.setCell ⟨B,a,none⟩ v).heap[b]?=W.heap[b]?:=heap_setCell_other _ ⟨B,a,none⟩ b v (fun e=>h (by simpa using e))
theorem put5f (W:World) (B a b:Nat) (v0 v1 v2 v3 v4:Value) (h:b≠B):(((((W.setCell ⟨B,a,none⟩ (v0)).setCell ⟨B,a+1,none⟩ (v1)).setCell ⟨B,a+2,none⟩ (v2)).setCell ⟨B,a+3,none⟩ (v3)).setCell ⟨B,a+4,none⟩ (v4)).heap[b]?=W.heap[b]?:=by rw [far1 _ _ _ _ _ h,far1 _ _ _ _ _ h,far1 _ _ _ _ _ h,far1 _ _ _ _ _ h,far1 _ _ _ _ _ h]
theorem EI.put {w wr W7:World} {B m k j:Nat} {L:List NE} {cs:Array Value} (h:EI w wr B m L k cs) (hkj:k≤j) (h7:Below wr.heap.size wr W7) (v0 v1 v2 v3 v4:Value) :
  EI w (((((W7.setCell ⟨B,j*5,none⟩ (v0)).setCell ⟨B,j*5+1,none⟩ (v1)).setCell ⟨B,j*5+2,none⟩ (v2)).setCell ⟨B,j*5+3,none⟩ (v3)).setCell ⟨B,j*5+4,none⟩ (v4)) B m L k (((((cs.setIfInBounds (j*5) (v0)).setIfInBounds (j*5+1) (v1)).setIfInBounds (j*5+2) (v2)).setIfInBounds (j*5+3) (v3)).setIfInBounds (j*5+4) (v4)):=by
 obtain ⟨h1,h2,h3,h4⟩:=h
 refine ⟨set_getZ v4 (set_getZ v3 (set_getZ v2 (set_getZ v1 (set_getZ v0 (keepZ h7 h1))))),by simpa using h2,fun i x hi hx=>?_,?_⟩
 ·refine (h3 i x hi hx).keep (fun b o hb ho=>?_) (fun j9 hj9=>?_)
  ·rw [put5f _ _ _ _ _ _ _ _ _ (by omega)]
   exact keepZ h7 ho
  ·rw [sA_ne (by omega),sA_ne (by omega),sA_ne (by omega),sA_ne (by omega),sA_ne (by omega)]
 ·have hb:=lt_getZ h1
  exact (((((h4.trans (h7.mono (by omega))).setCell (Nat.le_refl _) _).setCell (Nat.le_refl _) _).setCell (Nat.le_refl _) _).setCell (Nat.le_refl _) _).setCell (Nat.le_refl _) _
theorem EI.snoc {w W:World} {B m k:Nat} {L:List NE} {cs:Array Value} {x:NE} (h:EI w W B m L k cs) (hx:L[k]?=some x) (hr:REA W B cs k x):EI w W B m L (k+1) cs:=
 ⟨h.1,h.2.1,fun i y hi hy=>by
  rcases Nat.lt_or_ge i k with h1 | h1
  ·exact h.2.2.1 i y h1 hy
  ·obtain rfl:i=k:=by omega
   rw [hx] at hy
   obtain rfl:=Option.some.inj hy
   exact hr,h.2.2.2⟩
theorem info_entry:(Tryz.prog.info? 41).map (fun i=>(i.zero,i.size,i.bytes))=some (some (.agg #[.string ⟨#[]⟩,.slice none 0 0,.slice none 0 0,.string ⟨#[]⟩,.slice none 0 0]),5,104):=by kernel_rfl
def mkE (K:Nat):Array Value:=madeCells (Value.cells (.agg #[.string ⟨#[]⟩,.slice none 0 0,.slice none 0 0,.string ⟨#[]⟩,.slice none 0 0])) (K*5)
theorem make_entries (K:Nat) (hK:K*104≤281474976710656) (w:World):(Instr.makeSlice 37 (.int .i64 (K:Int)) (.int .i64 (K:Int))).run Tryz.prog w=.ok (.slice (some ⟨w.heap.size,0,none⟩) K K) (w.alloc (.cells (mkE K) 41)):=by
 obtain ⟨i0,hi,hz0,hz1,hz2⟩:=info_parts info_entry
 have h:=run_make (P:=Tryz.prog) w 37 41 i0 _ Tryz.underlying37 hi hz0 .i64 .i64 (K:Int) (K:Int) (by omega) (Int.le_refl _) (by rw [hz2];omega) (by omega)
 rw [Int.toNat_natCast,hz1] at h
 exact h
def ERQ (W:World) (g:Nat) (L:List NE):Prop:=∃ cs,W.heap[g]?=some (.cells cs 41 (0,0))∧(∀ i x,L[i]?=some x→REA W g cs i x)∧cs[L.length*5]?=some (.string ⟨#[98,101,104,105,110,100,32,116,104,101,32,101,110,100]⟩)∧cs[L.length*5+2]?=some (.slice none 0 0)∧cs[(L.length+1)*5]?=some (.string ⟨#[98,101,104,105,110,100,32,116,104,101,32,101,110,100,50]⟩)∧cs[(L.length+1)*5+2]?=some (.slice none 0 0)
theorem ERQ.below {W W':World} {g:Nat} {L:List NE} (h:ERQ W g L) (hb:Below W.heap.size W W'):ERQ W' g L:=by
 obtain ⟨cs,a,b,c⟩:=h
 exact ⟨cs,keepZ hb a,fun i x hx=>(b i x hx).keep (fun _ _ _ ho=>keepZ hb ho) (fun _ _=>rfl),c⟩
set_option maxRecDepth 100000 in
set_option maxHeartbeats 8000000 in
theorem rtable_any (L:List NE) (p:Option Addr) (n m c:Nat) (w:World) (hn:L.length=n) (hm:n+2=m) (hL:LE w p L) (hO:okTab L) :
  Calls Tryz.prog 27 #[.slice p n c] w fun e w'=>∃ g,e=.returned (.slice (some ⟨g,0,none⟩) n m)∧w.heap.size≤g∧ERQ w' g L∧Below w.heap.size w w':=by
 have hO1:n*104≤140737488351232:=by have:=hO.1;omega
 have hmk:=make_entries m (by omega)
 have HN:Hid (L.length=n∧LE w p L∧n+2=m∧okTab L):=⟨hn,hL,hm,hO⟩
 obtain ⟨B,hB⟩:∃ B,w.heap.size=B:=⟨_,rfl⟩
 have HB:=hideL hB
 have H0:Hid (EI w (w.alloc (.cells (mkE m) 41)) B m L 0 (mkE m)):=by
  rw [←hB]
  exact ⟨alloc_getZ _ _,size_madeCells _ _,fun i x hi=>by omega,belAZ (Below.refl _ _) _⟩
 have e2:(n:Int)+2=(m:Int):=by omega
 have e3:IntKind.i64.wrap (m:Int)=(m:Int):=by rw [IntKind.wrap_i64];omega
 have y0:(0:Int)≤(n:Int):=by omega
 have y1:(n:Int)≤(m:Int):=by omega
 have y2:n < m:=by omega
 obtain ⟨n1,hn1⟩:∃ n1,n+1=n1:=⟨_,rfl⟩
 have e4:(n:Int)+1=(n1:Int):=by omega
 have e5:IntKind.i64.wrap (n1:Int)=(n1:Int):=by rw [IntKind.wrap_i64];omega
 have y3:(0:Int)≤(n1:Int):=by omega
 have y4:(n1:Int) < (m:Int):=by omega
 have y5:(n:Int) < (m:Int):=by omega
 have HN1:Hid (n+1=n1∧n1+1=m):=⟨hn1,by omega⟩
 clear hn hm hL hB hn1 hO
 go_enter Tryz.func27,Tryz.ntmps27
 go_wp2_with fail
 rw [HB.out]
 go_loopw [4] (fun vk wr=>∃ (k:Nat) (cs:Array Value),vk=.int .i64 (k:Int)∧k≤n∧Hid (EI w wr B m L k cs)) (fun vk _=>n - (intOf vk).toNat)
 case atStart=>exact ⟨0,_,rfl,Nat.zero_le _,H0⟩
 case round=>
  clear H0
  obtain ⟨k,cs,rfl,hk,HG⟩:=hrel
  by_cases hlt:k < n
  ·obtain ⟨x,hx⟩:∃ x,L[k]?=some x:=⟨_,List.getElem?_eq_getElem (by have:=HN.out.1;omega)⟩
   have hLG:LE wr p L:=HN.out.2.1.below (by have:=HG.out.2.2.2;rwa [←HB.out] at this)
   obtain ⟨g,o,pi,ci,pc,cc,po,co,rfl,c0,c1,c2,c3,c4,hl⟩:=hLG k x hx
   obtain ⟨ni,hni⟩:∃ ni,x.ins.length=ni:=⟨_,rfl⟩
   obtain ⟨ni2,hni2⟩:∃ ni2,ni+2=ni2:=⟨_,rfl⟩
   obtain ⟨nc,hnc⟩:∃ nc,x.cubes.length=nc:=⟨_,rfl⟩
   obtain ⟨nc2,hnc2⟩:∃ nc2,nc+2=nc2:=⟨_,rfl⟩
   obtain ⟨no,hno⟩:∃ no,x.outs.length=no:=⟨_,rfl⟩
   obtain ⟨no2,hno2⟩:∃ no2,no+2=no2:=⟨_,rfl⟩
   rw [hni] at c1
   rw [hnc] at c2
   rw [hno] at c4
   have hgB:g≠B:=by
    obtain ⟨g9,o9,_,_,_,_,_,_,e9,c9,-⟩:=HN.out.2.1 k x hx
    have e9:=Option.some.inj e9
    injection e9 with e91 e92
    subst e91
    have:=World.block_lt_of_cell? w _ c9
    have:=HB.out
    simp only at *
    omega
   have hok:=HN.out.2.2.2.2 x (List.mem_of_getElem? hx)
   have HC1:Hid (∀ U,Below wr.heap.size wr U→Calls Tryz.prog 48 #[.slice pi ni ci] U fun e U'=>∃ gi,e=.returned (.slice (some ⟨gi,0,none⟩) ni ni2)∧U.heap.size≤gi∧U'.heap[gi]?=some (.cells (vA ni2 (riF x.ins)) 3 (0,0))∧Below U.heap.size U U'):=fun U hU=>rints_q x.ins pi ni ni2 ci U hni hni2 (hl.1.below hU) (by have:=hok.2.1;unfold okI at this;omega)
   have HC2:Hid (∀ U,Below wr.heap.size wr U→Calls Tryz.prog 49 #[.slice pc nc cc] U fun e U'=>∃ gc,e=.returned (.slice (some ⟨gc,0,none⟩) nc nc2)∧U.heap.size≤gc∧U'.heap[gc]?=some (.cells (vA nc2 (rsF x.cubes)) 9 (0,0))∧Below U.heap.size U U'):=fun U hU=>rtexts_q x.cubes pc nc nc2 cc U hnc hnc2 (hl.2.2.1.below hU) (by have:=hok.2.2.1.1;omega)
   have HC3:Hid (∀ U,Below wr.heap.size wr U→Calls Tryz.prog 48 #[.slice po no co] U fun e U'=>∃ go,e=.returned (.slice (some ⟨go,0,none⟩) no no2)∧U.heap.size≤go∧U'.heap[go]?=some (.cells (vA no2 (riF x.outs)) 3 (0,0))∧Below U.heap.size U U'):=fun U hU=>rints_q x.outs po no no2 co U hno hno2 (hl.2.2.2.2.1.below hU) (by have:=hok.2.2.2.2;unfold okI at this;omega)
   have HS:Hid (∀ U,Below wr.heap.size wr U→U.cell? ⟨g,o+k*5,none⟩=some (.string ⟨x.nm.toArray⟩)∧U.cell? ⟨g,o+k*5+1,none⟩=some (.slice pi ni ci)∧U.cell? ⟨g,o+k*5+2,none⟩=some (.slice pc nc cc)∧U.cell? ⟨g,o+k*5+3,none⟩=some (.string ⟨x.wr.toArray⟩)∧U.cell? ⟨g,o+k*5+4,none⟩=some (.slice po no co)):=fun U hU=>⟨keepC hU c0,keepC hU c1,keepC hU c2,keepC hU c3,keepC hU c4⟩
   have HPT:Hid (∀ W7,Below wr.heap.size wr W7→∀ gi gc go,wr.heap.size≤gi→wr.heap.size≤gc→wr.heap.size≤go→W7.heap[gi]?=some (.cells (vA ni2 (riF x.ins)) 3 (0,0))→W7.heap[gc]?=some (.cells (vA nc2 (rsF x.cubes)) 9 (0,0))→W7.heap[go]?=some (.cells (vA no2 (riF x.outs)) 3 (0,0))→EI w (((((W7.setCell ⟨B,k*5,none⟩ (.string ⟨x.nm.toArray⟩)).setCell ⟨B,k*5+1,none⟩ (.slice (some ⟨gi,0,none⟩) ni ni2)).setCell ⟨B,k*5+2,none⟩ (.slice (some ⟨gc,0,none⟩) nc nc2)).setCell ⟨B,k*5+3,none⟩ (.string ⟨x.wr.toArray⟩)).setCell ⟨B,k*5+4,none⟩ (.slice (some ⟨go,0,none⟩) no no2)) B m L (k+1) (((((cs.setIfInBounds (k*5) (.string ⟨x.nm.toArray⟩)).setIfInBounds (k*5+1) (.slice (some ⟨gi,0,none⟩) ni ni2)).setIfInBounds (k*5+2) (.slice (some ⟨gc,0,none⟩) nc nc2)).setIfInBounds (k*5+3) (.string ⟨x.wr.toArray⟩)).setIfInBounds (k*5+4) (.slice (some ⟨go,0,none⟩) no no2))):=fun W7 h7 gi gc go z1 z2 z3 k1 k2 k3=>by
    have hb:=lt_getZ HG.out.1
    have hsz:=HG.out.2.1
    refine (HG.out.put (Nat.le_refl k) h7 _ _ _ _ _).snoc hx ⟨gi,gc,go,⟨by omega,by omega,by omega⟩,?_,?_,?_,?_,?_,?_,?_,?_⟩
    ·rw [sA_ne (by omega),sA_ne (by omega),sA_ne (by omega),sA_ne (by omega),sA_eq (by omega)]
    ·rw [sA_ne (by omega),sA_ne (by omega),sA_ne (by omega),sA_eq (by simp;omega),hni,hni2]
    ·rw [sA_ne (by omega),sA_ne (by omega),sA_eq (by simp;omega),hnc,hnc2]
    ·rw [sA_ne (by omega),sA_eq (by simp;omega)]
    ·rw [sA_eq (by simp;omega),hno,hno2]
    ·rw [put5f _ _ _ _ _ _ _ _ _ (by omega),k1,hni,hni2]
    ·rw [put5f _ _ _ _ _ _ _ _ _ (by omega),k2,hnc,hnc2]
    ·rw [put5f _ _ _ _ _ _ _ _ _ (by omega),k3,hno,hno2]
   have HFT:Hid (∀ W7,Below wr.heap.size wr W7→∀ gi gc go,(∃ u,W7.cell? ⟨B,k*5,none⟩=some u)∧(∃ u,W7.cell? ⟨B,k*5+1,none⟩=some u)∧(∃ u,W7.cell? ⟨B,k*5+2,none⟩=some u)∧(∃ u,W7.cell? ⟨B,k*5+3,none⟩=some u)∧(∃ u,W7.cell? ⟨B,k*5+4,none⟩=some u)∧W7.frozen? ⟨B,k*5,none⟩=false∧W7.frozen? ⟨B,k*5+1,none⟩=false∧W7.frozen? ⟨B,k*5+2,none⟩=false∧W7.frozen? ⟨B,k*5+3,none⟩=false∧W7.frozen? ⟨B,k*5+4,none⟩=false∧(((((W7.setCell ⟨B,k*5,none⟩ (.string ⟨x.nm.toArray⟩)).setCell ⟨B,k*5+1,none⟩ (.slice (some ⟨gi,0,none⟩) ni ni2)).setCell ⟨B,k*5+2,none⟩ (.slice (some ⟨gc,0,none⟩) nc nc2)).setCell ⟨B,k*5+3,none⟩ (.string ⟨x.wr.toArray⟩)).setCell ⟨B,k*5+4,none⟩ (.slice (some ⟨go,0,none⟩) no no2)).cell? ⟨g,o+k*5,none⟩=some (.string ⟨x.nm.toArray⟩)∧(((((W7.setCell ⟨B,k*5,none⟩ (.string ⟨x.nm.toArray⟩)).setCell ⟨B,k*5+1,none⟩ (.slice (some ⟨gi,0,none⟩) ni ni2)).setCell ⟨B,k*5+2,none⟩ (.slice (some ⟨gc,0,none⟩) nc nc2)).setCell ⟨B,k*5+3,none⟩ (.string ⟨x.wr.toArray⟩)).setCell ⟨B,k*5+4,none⟩ (.slice (some ⟨go,0,none⟩) no no2)).cell? ⟨g,o+k*5+1,none⟩=some (.slice pi ni ci)∧(((((W7.setCell ⟨B,k*5,none⟩ (.string ⟨x.nm.toArray⟩)).setCell ⟨B,k*5+1,none⟩ (.slice (some ⟨gi,0,none⟩) ni ni2)).setCell ⟨B,k*5+2,none⟩ (.slice (some ⟨gc,0,none⟩) nc nc2)).setCell ⟨B,k*5+3,none⟩ (.string ⟨x.wr.toArray⟩)).setCell ⟨B,k*5+4,none⟩ (.slice (some ⟨go,0,none⟩) no no2)).cell? ⟨g,o+k*5+2,none⟩=some (.slice pc nc cc)∧(((((W7.setCell ⟨B,k*5,none⟩ (.string ⟨x.nm.toArray⟩)).setCell ⟨B,k*5+1,none⟩ (.slice (some ⟨gi,0,none⟩) ni ni2)).setCell ⟨B,k*5+2,none⟩ (.slice (some ⟨gc,0,none⟩) nc nc2)).setCell ⟨B,k*5+3,none⟩ (.string ⟨x.wr.toArray⟩)).setCell ⟨B,k*5+4,none⟩ (.slice (some ⟨go,0,none⟩) no no2)).cell? ⟨g,o+k*5+3,none⟩=some (.string ⟨x.wr.toArray⟩)∧(((((W7.setCell ⟨B,k*5,none⟩ (.string ⟨x.nm.toArray⟩)).setCell ⟨B,k*5+1,none⟩ (.slice (some ⟨gi,0,none⟩) ni ni2)).setCell ⟨B,k*5+2,none⟩ (.slice (some ⟨gc,0,none⟩) nc nc2)).setCell ⟨B,k*5+3,none⟩ (.string ⟨x.wr.toArray⟩)).setCell ⟨B,k*5+4,none⟩ (.slice (some ⟨go,0,none⟩) no no2)).cell? ⟨g,o+k*5+4,none⟩=some (.slice po no co)):=fun W7 h7 gi gc go=>by
    have h:=cellsZ (keepZ h7 HG.out.1)
    have hsz:=HG.out.2.1
    have hS7:=HS.out W7 h7
    have hfar:∀ j v,W7.cell? ⟨g,j,none⟩=some v→(((((W7.setCell ⟨B,k*5,none⟩ (.string ⟨x.nm.toArray⟩)).setCell ⟨B,k*5+1,none⟩ (.slice (some ⟨gi,0,none⟩) ni ni2)).setCell ⟨B,k*5+2,none⟩ (.slice (some ⟨gc,0,none⟩) nc nc2)).setCell ⟨B,k*5+3,none⟩ (.string ⟨x.wr.toArray⟩)).setCell ⟨B,k*5+4,none⟩ (.slice (some ⟨go,0,none⟩) no no2)).cell? ⟨g,j,none⟩=some v:=fun j v hv=>by unfold World.cell?;rw [put5f _ _ _ _ _ _ _ _ _ hgB];exact hv
    refine ⟨?_,?_,?_,?_,?_,h.2 _,h.2 _,h.2 _,h.2 _,h.2 _,hfar _ _ hS7.1,hfar _ _ hS7.2.1,hfar _ _ hS7.2.2.1,hfar _ _ hS7.2.2.2.1,hfar _ _ hS7.2.2.2.2⟩
    ·rw [h.1];exact aget (by omega)
    ·rw [h.1];exact aget (by omega)
    ·rw [h.1];exact aget (by omega)
    ·rw [h.1];exact aget (by omega)
    ·rw [h.1];exact aget (by omega)
   have hs0:wr.drew.cell? ⟨g,o+k*5,none⟩=some (.string ⟨x.nm.toArray⟩)∧wr.drew.cell? ⟨g,o+k*5+1,none⟩=some (.slice pi ni ci)∧wr.drew.cell? ⟨g,o+k*5+2,none⟩=some (.slice pc nc cc)∧wr.drew.cell? ⟨g,o+k*5+3,none⟩=some (.string ⟨x.wr.toArray⟩)∧wr.drew.cell? ⟨g,o+k*5+4,none⟩=some (.slice po no co):=HS.out wr.drew (Below.refl _ _).drew
   have j0:(0:Int)≤(k:Int):=by omega
   have j1:(k:Int) < (n:Int):=by omega
   have j2:(k:Int) < (m:Int):=by omega
   clear hx hl hok hni hni2 hnc hnc2 hno hno2 hLG hgB
   go_wp2_with fail
   refine wp_region_held_drew (S:=fun U=>U.cell? ⟨g,o+k*5,none⟩=some (.string ⟨x.nm.toArray⟩)∧U.cell? ⟨g,o+k*5+1,none⟩=some (.slice pi ni ci)∧U.cell? ⟨g,o+k*5+2,none⟩=some (.slice pc nc cc)∧U.cell? ⟨g,o+k*5+3,none⟩=some (.string ⟨x.wr.toArray⟩)∧U.cell? ⟨g,o+k*5+4,none⟩=some (.slice po no co)) (by kernel_rfl) hs0 (fun _=>?_)
   refine wpAnyH_take (i:=0) (v:=.slice (some ⟨B,0,none⟩) m m) rfl (by kernel_rfl) (by kernel_rfl) (by kernel_rfl) (fun _ _ _ h=>h) (Or.inl ⟨by rfl,?_⟩) hs0 ?_
   ·rintro w ⟨q0,q1,q2,q3,q4⟩;go_simp
   refine wpAnyH_take (i:=1) (v:=.int .i64 (k:Int)) rfl (by kernel_rfl) (by kernel_rfl) (by kernel_rfl) (fun _ _ _ h=>h) (Or.inl ⟨by rfl,?_⟩) hs0 ?_
   ·rintro w ⟨q0,q1,q2,q3,q4⟩;go_simp
   refine wpAnyH_take (i:=2) (v:=.slice (some ⟨g,o,none⟩) n c) rfl (by kernel_rfl) (by kernel_rfl) (by kernel_rfl) (fun _ _ _ h=>h) (Or.inl ⟨by rfl,?_⟩) hs0 ?_
   ·rintro w ⟨q0,q1,q2,q3,q4⟩;go_simp
   refine wpAnyH_take (i:=3) (v:=.int .i64 (k:Int)) rfl (by kernel_rfl) (by kernel_rfl) (by kernel_rfl) (fun _ _ _ h=>h) (Or.inl ⟨by rfl,?_⟩) hs0 ?_
   ·rintro w ⟨q0,q1,q2,q3,q4⟩;go_simp
   refine wpAnyH_take (i:=4) (v:=.pointer (some ⟨g,o+k*5,none⟩)) rfl (by kernel_rfl) (by kernel_rfl) (by kernel_rfl) (fun _ _ _ h=>h) (Or.inl ⟨by rfl,?_⟩) hs0 ?_
   ·rintro w ⟨q0,q1,q2,q3,q4⟩;go_simp
   refine wpAnyH_take (i:=5) (v:=.pointer (some ⟨g,o+k*5,none⟩)) rfl (by kernel_rfl) (by kernel_rfl) (by kernel_rfl) (fun _ _ _ h=>h) (Or.inl ⟨by rfl,?_⟩) hs0 ?_
   ·rintro w ⟨q0,q1,q2,q3,q4⟩;go_simp
   refine wpAnyH_take (i:=6) (v:=.string ⟨x.nm.toArray⟩) rfl (by kernel_rfl) (by kernel_rfl) (by kernel_rfl) (fun _ _ _ h=>h) (Or.inl ⟨by rfl,?_⟩) hs0 ?_
   ·rintro w ⟨q0,q1,q2,q3,q4⟩;go_simp
   refine wpAnyH_take (i:=7) (v:=.slice (some ⟨g,o,none⟩) n c) rfl (by kernel_rfl) (by kernel_rfl) (by kernel_rfl) (fun _ _ _ h=>h) (Or.inl ⟨by rfl,?_⟩) hs0 ?_
   ·rintro w ⟨q0,q1,q2,q3,q4⟩;go_simp
   refine wpAnyH_take (i:=8) (v:=.int .i64 (k:Int)) rfl (by kernel_rfl) (by kernel_rfl) (by kernel_rfl) (fun _ _ _ h=>h) (Or.inl ⟨by rfl,?_⟩) hs0 ?_
   ·rintro w ⟨q0,q1,q2,q3,q4⟩;go_simp
   refine wpAnyH_take (i:=9) (v:=.pointer (some ⟨g,o+k*5,none⟩)) rfl (by kernel_rfl) (by kernel_rfl) (by kernel_rfl) (fun _ _ _ h=>h) (Or.inl ⟨by rfl,?_⟩) hs0 ?_
   ·rintro w ⟨q0,q1,q2,q3,q4⟩;go_simp
   refine wpAnyH_take (i:=10) (v:=.pointer (some ⟨g,o+k*5+1,none⟩)) rfl (by kernel_rfl) (by kernel_rfl) (by kernel_rfl) (fun _ _ _ h=>h) (Or.inl ⟨by rfl,?_⟩) hs0 ?_
   ·rintro w ⟨q0,q1,q2,q3,q4⟩;go_simp
   refine wpAnyH_take (i:=11) (v:=.slice pi ni ci) rfl (by kernel_rfl) (by kernel_rfl) (by kernel_rfl) (fun _ _ _ h=>h) (Or.inl ⟨by rfl,?_⟩) hs0 ?_
   ·rintro w ⟨q0,q1,q2,q3,q4⟩;go_simp
   refine wpAnyH_take (i:=13) (v:=.slice (some ⟨g,o,none⟩) n c) rfl (by kernel_rfl) (by kernel_rfl) (by kernel_rfl) (fun _ _ _ h=>h) (Or.inl ⟨by rfl,?_⟩) hs0 ?_
   ·rintro w ⟨q0,q1,q2,q3,q4⟩;go_simp
   refine wpAnyH_take (i:=14) (v:=.int .i64 (k:Int)) rfl (by kernel_rfl) (by kernel_rfl) (by kernel_rfl) (fun _ _ _ h=>h) (Or.inl ⟨by rfl,?_⟩) hs0 ?_
   ·rintro w ⟨q0,q1,q2,q3,q4⟩;go_simp
   refine wpAnyH_take (i:=15) (v:=.pointer (some ⟨g,o+k*5,none⟩)) rfl (by kernel_rfl) (by kernel_rfl) (by kernel_rfl) (fun _ _ _ h=>h) (Or.inl ⟨by rfl,?_⟩) hs0 ?_
   ·rintro w ⟨q0,q1,q2,q3,q4⟩;go_simp
   refine wpAnyH_take (i:=16) (v:=.pointer (some ⟨g,o+k*5+2,none⟩)) rfl (by kernel_rfl) (by kernel_rfl) (by kernel_rfl) (fun _ _ _ h=>h) (Or.inl ⟨by rfl,?_⟩) hs0 ?_
   ·rintro w ⟨q0,q1,q2,q3,q4⟩;go_simp
   refine wpAnyH_take (i:=17) (v:=.slice pc nc cc) rfl (by kernel_rfl) (by kernel_rfl) (by kernel_rfl) (fun _ _ _ h=>h) (Or.inl ⟨by rfl,?_⟩) hs0 ?_
   ·rintro w ⟨q0,q1,q2,q3,q4⟩;go_simp
   refine wpAnyH_take (i:=19) (v:=.slice (some ⟨g,o,none⟩) n c) rfl (by kernel_rfl) (by kernel_rfl) (by kernel_rfl) (fun _ _ _ h=>h) (Or.inl ⟨by rfl,?_⟩) hs0 ?_
   ·rintro w ⟨q0,q1,q2,q3,q4⟩;go_simp
   refine wpAnyH_take (i:=20) (v:=.int .i64 (k:Int)) rfl (by kernel_rfl) (by kernel_rfl) (by kernel_rfl) (fun _ _ _ h=>h) (Or.inl ⟨by rfl,?_⟩) hs0 ?_
   ·rintro w ⟨q0,q1,q2,q3,q4⟩;go_simp
   refine wpAnyH_take (i:=21) (v:=.pointer (some ⟨g,o+k*5,none⟩)) rfl (by kernel_rfl) (by kernel_rfl) (by kernel_rfl) (fun _ _ _ h=>h) (Or.inl ⟨by rfl,?_⟩) hs0 ?_
   ·rintro w ⟨q0,q1,q2,q3,q4⟩;go_simp
   refine wpAnyH_take (i:=22) (v:=.pointer (some ⟨g,o+k*5+3,none⟩)) rfl (by kernel_rfl) (by kernel_rfl) (by kernel_rfl) (fun _ _ _ h=>h) (Or.inl ⟨by rfl,?_⟩) hs0 ?_
   ·rintro w ⟨q0,q1,q2,q3,q4⟩;go_simp
   refine wpAnyH_take (i:=23) (v:=.string ⟨x.wr.toArray⟩) rfl (by kernel_rfl) (by kernel_rfl) (by kernel_rfl) (fun _ _ _ h=>h) (Or.inl ⟨by rfl,?_⟩) hs0 ?_
   ·rintro w ⟨q0,q1,q2,q3,q4⟩;go_simp
   refine wpAnyH_take (i:=24) (v:=.slice (some ⟨g,o,none⟩) n c) rfl (by kernel_rfl) (by kernel_rfl) (by kernel_rfl) (fun _ _ _ h=>h) (Or.inl ⟨by rfl,?_⟩) hs0 ?_
   ·rintro w ⟨q0,q1,q2,q3,q4⟩;go_simp
   refine wpAnyH_take (i:=25) (v:=.int .i64 (k:Int)) rfl (by kernel_rfl) (by kernel_rfl) (by kernel_rfl) (fun _ _ _ h=>h) (Or.inl ⟨by rfl,?_⟩) hs0 ?_
   ·rintro w ⟨q0,q1,q2,q3,q4⟩;go_simp
   refine wpAnyH_take (i:=26) (v:=.pointer (some ⟨g,o+k*5,none⟩)) rfl (by kernel_rfl) (by kernel_rfl) (by kernel_rfl) (fun _ _ _ h=>h) (Or.inl ⟨by rfl,?_⟩) hs0 ?_
   ·rintro w ⟨q0,q1,q2,q3,q4⟩;go_simp
   refine wpAnyH_take (i:=27) (v:=.pointer (some ⟨g,o+k*5+4,none⟩)) rfl (by kernel_rfl) (by kernel_rfl) (by kernel_rfl) (fun _ _ _ h=>h) (Or.inl ⟨by rfl,?_⟩) hs0 ?_
   ·rintro w ⟨q0,q1,q2,q3,q4⟩;go_simp
   refine wpAnyH_take (i:=28) (v:=.slice po no co) rfl (by kernel_rfl) (by kernel_rfl) (by kernel_rfl) (fun _ _ _ h=>h) (Or.inl ⟨by rfl,?_⟩) hs0 ?_
   ·rintro w ⟨q0,q1,q2,q3,q4⟩;go_simp
   refine wpAnyH_ready (rs:=[12]) (by kernel_rfl) (by simp) ?_
   refine AllReadyH.cons rfl (fun KK hKK=>?_) AllReadyH.nil
   go_simp
   refine (HC1.out _ ((Below.refl _ _).drew)).mono ?_
   rintro en W5 ⟨gi,rfl,hgi,kgi,bW5⟩
   have cW5:Below wr.heap.size wr W5:=bel0Z ((Below.refl _ _).drew) bW5
   have hsW5:=HS.out W5 cW5
   have zgi:wr.heap.size≤gi:=hgi
   go_simp
   refine hKK.out _ _ hsW5 (fun _=>?_)
   clear hKK KK
   refine wpAnyH_ready (rs:=[18]) (by kernel_rfl) (by simp) ?_
   refine AllReadyH.cons rfl (fun KK hKK=>?_) AllReadyH.nil
   go_simp
   refine (HC2.out _ (cW5)).mono ?_
   rintro en W6 ⟨gc,rfl,hgc,kgc,bW6⟩
   have cW6:Below wr.heap.size wr W6:=bel0Z (cW5) bW6
   have hsW6:=HS.out W6 cW6
   have zgc:wr.heap.size≤gc:=Nat.le_trans cW5.size hgc
   go_simp
   refine hKK.out _ _ hsW6 (fun _=>?_)
   clear hKK KK
   refine wpAnyH_ready (rs:=[29]) (by kernel_rfl) (by simp) ?_
   refine AllReadyH.cons rfl (fun KK hKK=>?_) AllReadyH.nil
   go_simp
   refine (HC3.out _ (cW6)).mono ?_
   rintro en W7 ⟨go,rfl,hgo,kgo,bW7⟩
   have cW7:Below wr.heap.size wr W7:=bel0Z (cW6) bW7
   have hsW7:=HS.out W7 cW7
   have zgo:wr.heap.size≤go:=Nat.le_trans cW6.size hgo
   go_simp
   refine hKK.out _ _ hsW7 (fun _=>?_)
   clear hKK KK
   refine wpAnyH_take (i:=30) (v:=.agg #[.string ⟨x.nm.toArray⟩,.slice (some ⟨gi,0,none⟩) ni ni2,.slice (some ⟨gc,0,none⟩) nc nc2,.string ⟨x.wr.toArray⟩,.slice (some ⟨go,0,none⟩) no no2]) rfl (by kernel_rfl) (by kernel_rfl) (by kernel_rfl) (fun _ _ _ h=>h) (Or.inl ⟨by rfl,?_⟩) hsW7 ?_
   ·rintro w ⟨q0,q1,q2,q3,q4⟩;go_simp
   refine wpAnyH_take (i:=31) (v:=.pointer (some ⟨B,k*5,none⟩)) rfl (by kernel_rfl) (by kernel_rfl) (by kernel_rfl) (fun _ _ _ h=>h) (Or.inl ⟨by rfl,?_⟩) hsW7 ?_
   ·rintro w ⟨q0,q1,q2,q3,q4⟩;go_simp
   have HP:=hideL (HPT.out W7 cW7 gi gc go zgi zgc zgo (keepZ bW7 (keepZ bW6 kgi)) (keepZ bW7 kgc) kgo)
   obtain ⟨⟨u0,d0⟩,⟨u1,d1⟩,⟨u2,d2⟩,⟨u3,d3⟩,⟨u4,d4⟩,f0,f1,f2,f3,f4,hs8⟩:=HFT.out W7 cW7 gi gc go
   refine wpAnyH_ready (rs:=[32]) (by kernel_rfl) (by simp) ?_
   refine AllReadyH.cons rfl (fun KK hKK=>?_) AllReadyH.nil
   go_simp
   refine hKK.out _ _ hs8 (fun _=>?_)
   clear hKK KK
   refine wpAnyH_done (by kernel_rfl) ?_ _
   clear d0 d1 d2 d3 d4 f0 f1 f2 f3 f4 hs8 hs0 hsW5 hsW6 hsW7 bW5 bW6 bW7 cW5 cW6 cW7 kgi kgc kgo zgi zgc zgo hgi hgc hgo
   go_wp2_with fail
   go_roundw
   case rel=>exact ⟨k+1,_,by go_num,by omega,HP⟩
   case measure=>simp [intOf];omega
  ·obtain rfl:k=n:=by omega
   have j1:¬(k:Int) < (k:Int):=by omega
   obtain ⟨W2,hW2⟩:∃ W2,(((((wr.setCell ⟨B,k*5,none⟩ (.string ⟨#[98,101,104,105,110,100,32,116,104,101,32,101,110,100]⟩)).setCell ⟨B,k*5+1,none⟩ (.slice none 0 0)).setCell ⟨B,k*5+2,none⟩ (.slice none 0 0)).setCell ⟨B,k*5+3,none⟩ (.string ⟨#[]⟩)).setCell ⟨B,k*5+4,none⟩ (.slice none 0 0))=W2:=⟨_,rfl⟩
   have hG2:=HG.out.put (j:=k) (by have:=HN1.out;omega) (Below.refl _ _) (.string ⟨#[98,101,104,105,110,100,32,116,104,101,32,101,110,100]⟩) (.slice none 0 0) (.slice none 0 0) (.string ⟨#[]⟩) (.slice none 0 0)
   rw [hW2] at hG2
   obtain ⟨cs2,hcs2⟩:∃ cs2,(((((cs.setIfInBounds (k*5) (.string ⟨#[98,101,104,105,110,100,32,116,104,101,32,101,110,100]⟩)).setIfInBounds (k*5+1) (.slice none 0 0)).setIfInBounds (k*5+2) (.slice none 0 0)).setIfInBounds (k*5+3) (.string ⟨#[]⟩)).setIfInBounds (k*5+4) (.slice none 0 0))=cs2:=⟨_,rfl⟩
   rw [hcs2] at hG2
   have HM1:Hid (cs2[k*5]?=some (.string ⟨#[98,101,104,105,110,100,32,116,104,101,32,101,110,100]⟩)∧cs2[k*5+2]?=some (.slice none 0 0)∧∀ j,j < k*5→cs2[j]?=cs[j]?):=by
    have hsz:=HG.out.2.1
    have hh:=HN1.out
    refine ⟨?_,?_,fun j hj=>?_⟩
    ·rw [←hcs2,sA_ne (by omega),sA_ne (by omega),sA_ne (by omega),sA_ne (by omega),sA_eq (by omega)]
    ·rw [←hcs2,sA_ne (by omega),sA_ne (by omega),sA_eq (by simp;omega)]
    ·rw [←hcs2,sA_ne (by omega),sA_ne (by omega),sA_ne (by omega),sA_ne (by omega),sA_ne (by omega)]
   have hf:=cellsZ HG.out.1
   obtain ⟨u0,d0⟩:∃ u,wr.cell? ⟨B,k*5,none⟩=some u:=by rw [hf.1];exact aget (by have:=HG.out.2.1;have:=HN1.out;omega)
   have f0:=hf.2 (k*5)
   obtain ⟨u1,d1⟩:∃ u,wr.cell? ⟨B,k*5+1,none⟩=some u:=by rw [hf.1];exact aget (by have:=HG.out.2.1;have:=HN1.out;omega)
   have f1:=hf.2 (k*5+1)
   obtain ⟨u2,d2⟩:∃ u,wr.cell? ⟨B,k*5+2,none⟩=some u:=by rw [hf.1];exact aget (by have:=HG.out.2.1;have:=HN1.out;omega)
   have f2:=hf.2 (k*5+2)
   obtain ⟨u3,d3⟩:∃ u,wr.cell? ⟨B,k*5+3,none⟩=some u:=by rw [hf.1];exact aget (by have:=HG.out.2.1;have:=HN1.out;omega)
   have f3:=hf.2 (k*5+3)
   obtain ⟨u4,d4⟩:∃ u,wr.cell? ⟨B,k*5+4,none⟩=some u:=by rw [hf.1];exact aget (by have:=HG.out.2.1;have:=HN1.out;omega)
   have f4:=hf.2 (k*5+4)
   have HW2:=hideL hW2
   have HG2:=hideL hG2
   clear hW2 hG2 hf hcs2
   go_upto_region 7 with fail
   rw [HW2.out]
   clear d0 d1 d2 d3 d4 f0 f1 f2 f3 f4 u0 u1 u2 u3 u4
   obtain ⟨W4,hW4⟩:∃ W4,(((((W2.setCell ⟨B,n1*5,none⟩ (.string ⟨#[98,101,104,105,110,100,32,116,104,101,32,101,110,100,50]⟩)).setCell ⟨B,n1*5+1,none⟩ (.slice none 0 0)).setCell ⟨B,n1*5+2,none⟩ (.slice none 0 0)).setCell ⟨B,n1*5+3,none⟩ (.string ⟨#[]⟩)).setCell ⟨B,n1*5+4,none⟩ (.slice none 0 0))=W4:=⟨_,rfl⟩
   have hG2:=HG2.out.put (j:=n1) (by have:=HN1.out;omega) (Below.refl _ _) (.string ⟨#[98,101,104,105,110,100,32,116,104,101,32,101,110,100,50]⟩) (.slice none 0 0) (.slice none 0 0) (.string ⟨#[]⟩) (.slice none 0 0)
   rw [hW4] at hG2
   obtain ⟨cs4,hcs4⟩:∃ cs4,(((((cs2.setIfInBounds (n1*5) (.string ⟨#[98,101,104,105,110,100,32,116,104,101,32,101,110,100,50]⟩)).setIfInBounds (n1*5+1) (.slice none 0 0)).setIfInBounds (n1*5+2) (.slice none 0 0)).setIfInBounds (n1*5+3) (.string ⟨#[]⟩)).setIfInBounds (n1*5+4) (.slice none 0 0))=cs4:=⟨_,rfl⟩
   rw [hcs4] at hG2
   have HM2:Hid (cs4[n1*5]?=some (.string ⟨#[98,101,104,105,110,100,32,116,104,101,32,101,110,100,50]⟩)∧cs4[n1*5+2]?=some (.slice none 0 0)∧∀ j,j < n1*5→cs4[j]?=cs2[j]?):=by
    have hsz:=HG2.out.2.1
    have hh:=HN1.out
    refine ⟨?_,?_,fun j hj=>?_⟩
    ·rw [←hcs4,sA_ne (by omega),sA_ne (by omega),sA_ne (by omega),sA_ne (by omega),sA_eq (by omega)]
    ·rw [←hcs4,sA_ne (by omega),sA_ne (by omega),sA_eq (by simp;omega)]
    ·rw [←hcs4,sA_ne (by omega),sA_ne (by omega),sA_ne (by omega),sA_ne (by omega),sA_ne (by omega)]
   have hf:=cellsZ HG2.out.1
   obtain ⟨u0,d0⟩:∃ u,W2.cell? ⟨B,n1*5,none⟩=some u:=by rw [hf.1];exact aget (by have:=HG2.out.2.1;have:=HN1.out;omega)
   have f0:=hf.2 (n1*5)
   obtain ⟨u1,d1⟩:∃ u,W2.cell? ⟨B,n1*5+1,none⟩=some u:=by rw [hf.1];exact aget (by have:=HG2.out.2.1;have:=HN1.out;omega)
   have f1:=hf.2 (n1*5+1)
   obtain ⟨u2,d2⟩:∃ u,W2.cell? ⟨B,n1*5+2,none⟩=some u:=by rw [hf.1];exact aget (by have:=HG2.out.2.1;have:=HN1.out;omega)
   have f2:=hf.2 (n1*5+2)
   obtain ⟨u3,d3⟩:∃ u,W2.cell? ⟨B,n1*5+3,none⟩=some u:=by rw [hf.1];exact aget (by have:=HG2.out.2.1;have:=HN1.out;omega)
   have f3:=hf.2 (n1*5+3)
   obtain ⟨u4,d4⟩:∃ u,W2.cell? ⟨B,n1*5+4,none⟩=some u:=by rw [hf.1];exact aget (by have:=HG2.out.2.1;have:=HN1.out;omega)
   have f4:=hf.2 (n1*5+4)
   have HW4:=hideL hW4
   have HG4:=hideL hG2
   clear hW4 hG2 hf hcs4
   have HQ:Hid (ERQ W4 B L∧Below w.heap.size w W4):=by
    obtain ⟨a1,a2,a3⟩:=HM1.out
    obtain ⟨z1,z2,z3⟩:=HM2.out
    have hh:=HN1.out
    refine ⟨⟨cs4,HG4.out.1,fun i x hx=>HG4.out.2.2.1 i x ?_ hx,?_,?_,?_,?_⟩,by rw [HB.out];exact HG4.out.2.2.2⟩
    ·have:=(List.getElem?_eq_some_iff.1 hx).1
     have:=HN.out.1
     omega
    ·rw [HN.out.1,z3 _ (by omega)];exact a1
    ·rw [HN.out.1,z3 _ (by omega)];exact a2
    ·rw [HN.out.1,HN1.out.1];exact z1
    ·rw [HN.out.1,HN1.out.1];exact z2
   go_upto_region 8 with fail
   rw [HW4.out]
   clear d0 d1 d2 d3 d4 f0 f1 f2 f3 f4 u0 u1 u2 u3 u4
   go_wp2_with fail
   go_ret
   exact ⟨B,by first | rfl | trivial,by rw [HB.out];exact Nat.le_refl _,HQ.out⟩
end Go.Proofs.YtciffggmobblpaaGreatDoor.Nt
