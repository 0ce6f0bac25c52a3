import Derived.Test.YtciffggmobblpaaGreatDoorXAU
import Derived.Laws.MakeOwn
import Derived.Deep.RegionHeld3
namespace Go.Proofs.YtciffggmobblpaaGreatDoor.Nt
open Go.RowKit Go.Shelf
def vA (N:Nat) (f:Nat→Value):Array Value:=((List.range N).map f).toArray
theorem vA_get {N:Nat} {f:Nat→Value} {j:Nat} (h:j < N):(vA N f)[j]?=some (f j):=by simp [vA,h]
theorem vA_congr {N:Nat} {f g:Nat→Value} (h:∀ j,j < N→f j=g j):vA N f=vA N g:=by
 unfold vA
 exact congrArg List.toArray (List.map_congr_left (fun j hj=>h j (List.mem_range.1 hj)))
theorem vA_set {N k:Nat} {f:Nat→Value} {v:Value}:(vA N f).setIfInBounds k v=vA N (fun j=>if j=k then v else f j):=by
 apply Array.ext
 ·simp [vA]
 ·intro i h1 h2
  rw [Array.getElem_setIfInBounds]
  simp only [vA,List.getElem_toArray,List.getElem_map,List.getElem_range]
  by_cases h:k=i
  ·subst h;simp
  ·rw [if_neg h,if_neg (fun e=>h e.symm)]
  simpa [vA] using h1
theorem made_vA (z:Array Value) (N:Nat):madeCells z N=vA N (fun j=>z[j % z.size]!):=by
 apply Array.ext
 ·simp [madeCells,vA]
 ·intro i h1 h2
  simp [madeCells,vA]
theorem set_alloc (w:World) (a:Array Value) (T:TypeId) (fr:Nat×Nat) (k:Nat) (v:Value):(w.alloc (.cells a T fr)).setCell ⟨w.heap.size,k,none⟩ v=w.alloc (.cells (a.setIfInBounds k v) T fr):=by
 have h:((w.alloc (.cells a T fr)).setCell ⟨w.heap.size,k,none⟩ v).heap=(w.alloc (.cells (a.setIfInBounds k v) T fr)).heap:=by
  apply Array.ext_getElem?
  intro i
  by_cases hi:i=w.heap.size
  ·subst hi
   rw [set_getZ v (alloc_getZ _ _),alloc_getZ]
  ·rw [heap_setCell_other _ ⟨w.heap.size,k,none⟩ i v (fun e=>hi (by simpa using e))]
   show (w.heap.push _)[i]?=(w.heap.push _)[i]?
   rw [Array.getElem?_push,Array.getElem?_push,if_neg hi,if_neg hi]
 show World.mk _ _ _ _ _=World.mk _ _ _ _ _
 exact congrArg (fun H=>World.mk H w.tape w.drawn w.os w.output) h
def beh1:Value:=.string ⟨#[98,101,104,105,110,100,32,116,104,101,32,101,110,100]⟩
def beh2:Value:=.string ⟨#[98,101,104,105,110,100,32,116,104,101,32,101,110,100,50]⟩
theorem info_rints:(Tryz.prog.info? 3).map (fun i=>(i.zero,i.size,i.bytes))=some (some (.int .i64 0),1,8):=by kernel_rfl
theorem make_rints (K:Nat) (hK:K*8≤281474976710656) (w:World):(Instr.makeSlice 38 (.int .i64 (K:Int)) (.int .i64 (K:Int))).run Tryz.prog w=.ok (.slice (some ⟨w.heap.size,0,none⟩) K K) (w.alloc (.cells (vA K (fun _=>(.int .i64 0))) 3)):=by
 obtain ⟨i0,hi,hz0,hz1,hz2⟩:=info_parts info_rints
 have h:=run_make (P:=Tryz.prog) w 38 3 i0 _ Tryz.underlying38 hi hz0 .i64 .i64 (K:Int) (K:Int) (by omega) (Int.le_refl _) (by rw [hz2];omega) (by omega)
 rw [Int.toNat_natCast,hz1,made_vA,Nat.mul_one] at h
 rw [h,vA_congr (g:=fun _=>(.int .i64 0)) (fun j _=>by simp [Value.cells,Nat.mod_one])]
def riF (L:List (Int)) (j:Nat):Value:=match L[j]? with
 | some x=>.int .i64 x
 | none=>if j=L.length then .int .i64 (-4711) else .int .i64 (-4712)
def riFk (L:List (Int)) (k j:Nat):Value:=if j < k then riF L j else (.int .i64 0)
theorem riF_at {L:List (Int)} {j:Nat} {x:Int} (h:L[j]?=some x):riF L j=.int .i64 x:=by unfold riF;rw [h]
theorem riF_m1 {L:List (Int)} {n:Nat} (h:L.length=n):riF L n=.int .i64 (-4711):=by unfold riF;rw [List.getElem?_eq_none (by omega),];simp [h]
theorem riF_m2 {L:List (Int)} {n j:Nat} (h:L.length=n) (hj:n < j):riF L j=.int .i64 (-4712):=by unfold riF;rw [List.getElem?_eq_none (by omega)];simp only;rw [if_neg (by omega)]
theorem riFk_step {L:List (Int)} {N k:Nat} {v:Value} (h:riF L k=v):(vA N (riFk L k)).setIfInBounds k v=vA N (riFk L (k+1)):=by
 rw [vA_set]
 refine vA_congr fun j _=>?_
 unfold riFk
 by_cases e:j=k
 ·subst e
  rw [if_pos rfl,if_pos (by omega),h]
 ·rw [if_neg e]
  by_cases h1:j < k
  ·rw [if_pos h1,if_pos (by omega)]
  ·rw [if_neg h1,if_neg (by omega)]
set_option maxRecDepth 100000 in
set_option maxHeartbeats 8000000 in
theorem rints_any (L:List (Int)) (p:Option Addr) (n m c:Nat) (w:World) (hn:L.length=n) (hm:n+2=m) (hL:LI w p L) (hO:n*8≤140737488351232) :
  Calls Tryz.prog 48 #[.slice p n c] w fun e w'=>e=.returned (.slice (some ⟨w.heap.size,0,none⟩) n m)∧w'=w.alloc (.cells (vA m (riF L)) 3):=by
 have hmk:=make_rints m (by omega)
 have HN:Hid (L.length=n∧LI w p L∧n+2=m):=⟨hn,hL,hm⟩
 obtain ⟨B,hB⟩:∃ B,w.heap.size=B:=⟨_,rfl⟩
 have HB:=hideL hB
 have HST:Hid (∀ (k:Nat) (v:Value),riF L k=v→(w.alloc (.cells (vA m (riFk L k)) 3)).setCell ⟨B,k,none⟩ v=w.alloc (.cells (vA m (riFk L (k+1))) 3)):=fun k v hv=>by rw [←hB,set_alloc,riFk_step hv]
 have HCL:Hid (∀ (k j:Nat),j < m→(w.alloc (.cells (vA m (riFk L k)) 3)).cell? ⟨B,j,none⟩=some (riFk L k j)∧(w.alloc (.cells (vA m (riFk L k)) 3)).frozen? ⟨B,j,none⟩=false):=fun k j hj=>by
  have h:=cellsZ (alloc_getZ w (.cells (vA m (riFk L k)) 3 (0,0)))
  rw [hB] at h
  exact ⟨(h.1 j).trans (vA_get hj),h.2 j⟩
 have e2:(n:Int)+2=(m:Int):=by omega
 have e3:IntKind.i64.wrap (m:Int)=(m:Int):=by rw [IntKind.wrap_i64];omega
 have y0:(0:Int)≤(n:Int):=by omega
 have y1:(n:Int)≤(m:Int):=by omega
 have y2:n < m:=by omega
 obtain ⟨n1,hn1⟩:∃ n1,n+1=n1:=⟨_,rfl⟩
 have e4:(n:Int)+1=(n1:Int):=by omega
 have e5:IntKind.i64.wrap (n1:Int)=(n1:Int):=by rw [IntKind.wrap_i64];omega
 have y3:(0:Int)≤(n1:Int):=by omega
 have y4:(n1:Int) < (m:Int):=by omega
 have y5:(n:Int) < (m:Int):=by omega
 have HN1:Hid (n+1=n1∧n1+1=m):=⟨hn1,by omega⟩
 clear hn hm hL hB hn1
 go_enter Tryz.func48,Tryz.ntmps48
 go_wp2_with fail
 rw [HB.out]
 go_loopw [4] (fun vk wr=>∃ k:Nat,vk=.int .i64 (k:Int)∧k≤n∧Hid (wr=w.alloc (.cells (vA m (riFk L k)) 3))) (fun vk _=>n - (intOf vk).toNat)
 case atStart=>exact ⟨0,rfl,Nat.zero_le _,congrArg (fun a=>w.alloc (.cells a 3)) (vA_congr (fun j _=>by unfold riFk;rw [if_neg (by omega)]))⟩
 case round=>
  obtain ⟨k,rfl,hk,HW⟩:=hrel
  by_cases hlt:k < n
  ·obtain ⟨x,hx⟩:∃ x,L[k]?=some x:=⟨_,List.getElem?_eq_getElem (by have:=HN.out.1;omega)⟩
   obtain ⟨g,o,rfl,c0⟩:=HN.out.2.1 k x hx
   have c1:wr.cell? ⟨g,o+k,none⟩=some (.int .i64 x):=by rw [HW.out];exact keepC (belAZ (Below.refl _ _) _) c0
   obtain ⟨q0,q1⟩:=HCL.out k k (by omega)
   rw [←HW.out] at q0 q1
   have j0:(0:Int)≤(k:Int):=by omega
   have j1:(k:Int) < (n:Int):=by omega
   have j2:(k:Int) < (m:Int):=by omega
   have HX:Hid (wr.setCell ⟨B,k,none⟩ (.int .i64 x)=w.alloc (.cells (vA m (riFk L (k+1))) 3)):=by
    show _=_
    rw [HW.out]
    exact HST.out k _ (riF_at hx)
   clear hx c0
   go_wp2_with fail
   go_roundw
   case rel=>exact ⟨k+1,by go_num,by omega,HX⟩
   case measure=>simp [intOf];omega
  ·obtain rfl:k=n:=by omega
   have j1:¬(k:Int) < (k:Int):=by omega
   obtain ⟨q0,q1⟩:=HCL.out k k (by omega)
   rw [←HW.out] at q0 q1
   obtain ⟨W2,hW2⟩:∃ W2,wr.setCell ⟨B,k,none⟩ (.int .i64 (-4711))=W2:=⟨_,rfl⟩
   have HW2:Hid (W2=w.alloc (.cells (vA m (riFk L (k+1))) 3)):=by
    show _=_
    rw [←hW2,HW.out]
    exact HST.out k _ (riF_m1 HN.out.1)
   have HE2:=hideL hW2
   clear hW2
   go_upto_region 7 with fail
   rw [HE2.out]
   clear q0 q1
   obtain ⟨q0,q1⟩:=HCL.out (k+1) n1 (by omega)
   rw [←HW2.out] at q0 q1
   have HX:Hid (W2.setCell ⟨B,n1,none⟩ (.int .i64 (-4712))=w.alloc (.cells (vA m (riF L)) 3)):=by
    show _=_
    rw [HW2.out,HN1.out.1]
    refine (HST.out n1 _ (riF_m2 HN.out.1 (by have:=HN1.out.1;omega))).trans ?_
    exact congrArg (fun a=>w.alloc (.cells a 3)) (vA_congr (fun j hj=>by unfold riFk;rw [if_pos (by have:=HN1.out.2;omega)]))
   go_wp2_with fail
   go_ret
   exact ⟨by rw [HB.out];rfl,HX.out⟩
theorem info_rtexts:(Tryz.prog.info? 9).map (fun i=>(i.zero,i.size,i.bytes))=some (some (.string ⟨#[]⟩),1,16):=by kernel_rfl
theorem make_rtexts (K:Nat) (hK:K*16≤281474976710656) (w:World):(Instr.makeSlice 39 (.int .i64 (K:Int)) (.int .i64 (K:Int))).run Tryz.prog w=.ok (.slice (some ⟨w.heap.size,0,none⟩) K K) (w.alloc (.cells (vA K (fun _=>(.string ⟨#[]⟩))) 9)):=by
 obtain ⟨i0,hi,hz0,hz1,hz2⟩:=info_parts info_rtexts
 have h:=run_make (P:=Tryz.prog) w 39 9 i0 _ Tryz.underlying39 hi hz0 .i64 .i64 (K:Int) (K:Int) (by omega) (Int.le_refl _) (by rw [hz2];omega) (by omega)
 rw [Int.toNat_natCast,hz1,made_vA,Nat.mul_one] at h
 rw [h,vA_congr (g:=fun _=>(.string ⟨#[]⟩)) (fun j _=>by simp [Value.cells,Nat.mod_one])]
def rsF (L:List (List UInt8)) (j:Nat):Value:=match L[j]? with
 | some x=>.string ⟨x.toArray⟩
 | none=>if j=L.length then beh1 else beh2
def rsFk (L:List (List UInt8)) (k j:Nat):Value:=if j < k then rsF L j else (.string ⟨#[]⟩)
theorem rsF_at {L:List (List UInt8)} {j:Nat} {x:List UInt8} (h:L[j]?=some x):rsF L j=.string ⟨x.toArray⟩:=by unfold rsF;rw [h]
theorem rsF_m1 {L:List (List UInt8)} {n:Nat} (h:L.length=n):rsF L n=beh1:=by unfold rsF;rw [List.getElem?_eq_none (by omega),];simp [h]
theorem rsF_m2 {L:List (List UInt8)} {n j:Nat} (h:L.length=n) (hj:n < j):rsF L j=beh2:=by unfold rsF;rw [List.getElem?_eq_none (by omega)];simp only;rw [if_neg (by omega)]
theorem rsFk_step {L:List (List UInt8)} {N k:Nat} {v:Value} (h:rsF L k=v):(vA N (rsFk L k)).setIfInBounds k v=vA N (rsFk L (k+1)):=by
 rw [vA_set]
 refine vA_congr fun j _=>?_
 unfold rsFk
 by_cases e:j=k
 ·subst e
  rw [if_pos rfl,if_pos (by omega),h]
 ·rw [if_neg e]
  by_cases h1:j < k
  ·rw [if_pos h1,if_pos (by omega)]
  ·rw [if_neg h1,if_neg (by omega)]
set_option maxRecDepth 100000 in
set_option maxHeartbeats 8000000 in
theorem rtexts_any (L:List (List UInt8)) (p:Option Addr) (n m c:Nat) (w:World) (hn:L.length=n) (hm:n+2=m) (hL:LS w p L) (hO:n*16≤140737488351232) :
  Calls Tryz.prog 49 #[.slice p n c] w fun e w'=>e=.returned (.slice (some ⟨w.heap.size,0,none⟩) n m)∧w'=w.alloc (.cells (vA m (rsF L)) 9):=by
 have hmk:=make_rtexts m (by omega)
 have HN:Hid (L.length=n∧LS w p L∧n+2=m):=⟨hn,hL,hm⟩
 obtain ⟨B,hB⟩:∃ B,w.heap.size=B:=⟨_,rfl⟩
 have HB:=hideL hB
 have HST:Hid (∀ (k:Nat) (v:Value),rsF L k=v→(w.alloc (.cells (vA m (rsFk L k)) 9)).setCell ⟨B,k,none⟩ v=w.alloc (.cells (vA m (rsFk L (k+1))) 9)):=fun k v hv=>by rw [←hB,set_alloc,rsFk_step hv]
 have HCL:Hid (∀ (k j:Nat),j < m→(w.alloc (.cells (vA m (rsFk L k)) 9)).cell? ⟨B,j,none⟩=some (rsFk L k j)∧(w.alloc (.cells (vA m (rsFk L k)) 9)).frozen? ⟨B,j,none⟩=false):=fun k j hj=>by
  have h:=cellsZ (alloc_getZ w (.cells (vA m (rsFk L k)) 9 (0,0)))
  rw [hB] at h
  exact ⟨(h.1 j).trans (vA_get hj),h.2 j⟩
 have e2:(n:Int)+2=(m:Int):=by omega
 have e3:IntKind.i64.wrap (m:Int)=(m:Int):=by rw [IntKind.wrap_i64];omega
 have y0:(0:Int)≤(n:Int):=by omega
 have y1:(n:Int)≤(m:Int):=by omega
 have y2:n < m:=by omega
 obtain ⟨n1,hn1⟩:∃ n1,n+1=n1:=⟨_,rfl⟩
 have e4:(n:Int)+1=(n1:Int):=by omega
 have e5:IntKind.i64.wrap (n1:Int)=(n1:Int):=by rw [IntKind.wrap_i64];omega
 have y3:(0:Int)≤(n1:Int):=by omega
 have y4:(n1:Int) < (m:Int):=by omega
 have y5:(n:Int) < (m:Int):=by omega
 have HN1:Hid (n+1=n1∧n1+1=m):=⟨hn1,by omega⟩
 clear hn hm hL hB hn1
 go_enter Tryz.func49,Tryz.ntmps49
 go_wp2_with fail
 rw [HB.out]
 go_loopw [4] (fun vk wr=>∃ k:Nat,vk=.int .i64 (k:Int)∧k≤n∧Hid (wr=w.alloc (.cells (vA m (rsFk L k)) 9))) (fun vk _=>n - (intOf vk).toNat)
 case atStart=>exact ⟨0,rfl,Nat.zero_le _,congrArg (fun a=>w.alloc (.cells a 9)) (vA_congr (fun j _=>by unfold rsFk;rw [if_neg (by omega)]))⟩
 case round=>
  obtain ⟨k,rfl,hk,HW⟩:=hrel
  by_cases hlt:k < n
  ·obtain ⟨x,hx⟩:∃ x,L[k]?=some x:=⟨_,List.getElem?_eq_getElem (by have:=HN.out.1;omega)⟩
   obtain ⟨g,o,rfl,c0⟩:=HN.out.2.1 k x hx
   have c1:wr.cell? ⟨g,o+k,none⟩=some (.string ⟨x.toArray⟩):=by rw [HW.out];exact keepC (belAZ (Below.refl _ _) _) c0
   obtain ⟨q0,q1⟩:=HCL.out k k (by omega)
   rw [←HW.out] at q0 q1
   have j0:(0:Int)≤(k:Int):=by omega
   have j1:(k:Int) < (n:Int):=by omega
   have j2:(k:Int) < (m:Int):=by omega
   have HX:Hid (wr.setCell ⟨B,k,none⟩ (.string ⟨x.toArray⟩)=w.alloc (.cells (vA m (rsFk L (k+1))) 9)):=by
    show _=_
    rw [HW.out]
    exact HST.out k _ (rsF_at hx)
   clear hx c0
   go_wp2_with fail
   go_roundw
   case rel=>exact ⟨k+1,by go_num,by omega,HX⟩
   case measure=>simp [intOf];omega
  ·obtain rfl:k=n:=by omega
   have j1:¬(k:Int) < (k:Int):=by omega
   obtain ⟨q0,q1⟩:=HCL.out k k (by omega)
   rw [←HW.out] at q0 q1
   obtain ⟨W2,hW2⟩:∃ W2,wr.setCell ⟨B,k,none⟩ (.string ⟨#[98,101,104,105,110,100,32,116,104,101,32,101,110,100]⟩)=W2:=⟨_,rfl⟩
   have HW2:Hid (W2=w.alloc (.cells (vA m (rsFk L (k+1))) 9)):=by
    show _=_
    rw [←hW2,HW.out]
    exact HST.out k _ (rsF_m1 HN.out.1)
   have HE2:=hideL hW2
   clear hW2
   go_upto_region 7 with fail
   rw [HE2.out]
   clear q0 q1
   obtain ⟨q0,q1⟩:=HCL.out (k+1) n1 (by omega)
   rw [←HW2.out] at q0 q1
   have HX:Hid (W2.setCell ⟨B,n1,none⟩ (.string ⟨#[98,101,104,105,110,100,32,116,104,101,32,101,110,100,50]⟩)=w.alloc (.cells (vA m (rsF L)) 9)):=by
    show _=_
    rw [HW2.out,HN1.out.1]
    refine (HST.out n1 _ (rsF_m2 HN.out.1 (by have:=HN1.out.1;omega))).trans ?_
    exact congrArg (fun a=>w.alloc (.cells a 9)) (vA_congr (fun j hj=>by unfold rsFk;rw [if_pos (by have:=HN1.out.2;omega)]))
   go_wp2_with fail
   go_ret
   exact ⟨by rw [HB.out];rfl,HX.out⟩
end Go.Proofs.YtciffggmobblpaaGreatDoor.Nt
namespace Go.Proofs.YtciffggmobblpaaGreatDoor.Nt
open Go.RowKit Go.Shelf
set_option maxRecDepth 100000 in
set_option maxHeartbeats 8000000 in
theorem sints_any (L:List (Int)) (p1 p2:Option Addr) (n c1 c2:Nat) (w:World) (hn:L.length=n) (h1:LI w p1 L) (h2:LI w p2 L) (hO:n*8≤140737488351232) :
  Calls Tryz.prog 54 #[.slice p1 n c1,.slice p2 n c2] w fun e w'=>e=.returned (.bool true)∧Below w.heap.size w w':=by
 have HN:Hid (L.length=n∧(∀ U,Below w.heap.size w U→LI U p1 L)∧∀ U,Below w.heap.size w U→LI U p2 L):=⟨hn,fun U hU=>h1.below hU,fun U hU=>h2.below hU⟩
 clear hn h1 h2
 go_enter Tryz.func54,Tryz.ntmps54
 go_wp2_with fail
 go_loopw [5] (fun vk wr=>∃ k:Nat,vk=.int .i64 (k:Int)∧k≤n∧Hid (Below w.heap.size w wr)) (fun vk _=>n - (intOf vk).toNat)
 case atStart=>exact ⟨0,rfl,Nat.zero_le _,Below.refl _ _⟩
 case round=>
  obtain ⟨k,rfl,hk,HB⟩:=hrel
  by_cases hlt:k < n
  ·obtain ⟨x,hx⟩:∃ x,L[k]?=some x:=⟨_,List.getElem?_eq_getElem (by have:=HN.out.1;omega)⟩
   obtain ⟨g1,o1,rfl,a0⟩:=HN.out.2.1 wr HB.out k x hx
   obtain ⟨g2,o2,rfl,b0⟩:=HN.out.2.2 wr HB.out k x hx
   have j0:(0:Int)≤(k:Int):=by omega
   have j1:(k:Int) < (n:Int):=by omega
   clear hx
   go_wp2_with fail
   go_quiet (fail)
   go_wp2_with fail
   go_roundw
   case rel=>exact ⟨k+1,by go_num,by omega,bel_drewZ nq HB.out⟩
   case measure=>simp [intOf];omega
  ·obtain rfl:k=n:=by omega
   have j1:¬(k:Int) < (k:Int):=by omega
   go_wp2_with fail
   go_ret
   exact ⟨rfl,HB.out⟩
set_option maxRecDepth 100000 in
set_option maxHeartbeats 8000000 in
theorem stexts_any (L:List (List UInt8)) (p1 p2:Option Addr) (n c1 c2:Nat) (w:World) (hn:L.length=n) (h1:LS w p1 L) (h2:LS w p2 L) (hO:n*8≤140737488351232) :
  Calls Tryz.prog 55 #[.slice p1 n c1,.slice p2 n c2] w fun e w'=>e=.returned (.bool true)∧Below w.heap.size w w':=by
 have HN:Hid (L.length=n∧(∀ U,Below w.heap.size w U→LS U p1 L)∧∀ U,Below w.heap.size w U→LS U p2 L):=⟨hn,fun U hU=>h1.below hU,fun U hU=>h2.below hU⟩
 clear hn h1 h2
 go_enter Tryz.func55,Tryz.ntmps55
 go_wp2_with fail
 go_loopw [5] (fun vk wr=>∃ k:Nat,vk=.int .i64 (k:Int)∧k≤n∧Hid (Below w.heap.size w wr)) (fun vk _=>n - (intOf vk).toNat)
 case atStart=>exact ⟨0,rfl,Nat.zero_le _,Below.refl _ _⟩
 case round=>
  obtain ⟨k,rfl,hk,HB⟩:=hrel
  by_cases hlt:k < n
  ·obtain ⟨x,hx⟩:∃ x,L[k]?=some x:=⟨_,List.getElem?_eq_getElem (by have:=HN.out.1;omega)⟩
   obtain ⟨g1,o1,rfl,a0⟩:=HN.out.2.1 wr HB.out k x hx
   obtain ⟨g2,o2,rfl,b0⟩:=HN.out.2.2 wr HB.out k x hx
   have j0:(0:Int)≤(k:Int):=by omega
   have j1:(k:Int) < (n:Int):=by omega
   clear hx
   go_wp2_with fail
   go_quiet (fail)
   go_wp2_with fail
   go_roundw
   case rel=>exact ⟨k+1,by go_num,by omega,bel_drewZ nq HB.out⟩
   case measure=>simp [intOf];omega
  ·obtain rfl:k=n:=by omega
   have j1:¬(k:Int) < (k:Int):=by omega
   go_wp2_with fail
   go_ret
   exact ⟨rfl,HB.out⟩
set_option maxRecDepth 100000 in
set_option maxHeartbeats 8000000 in
theorem mints_any (g n n1 m:Nat) (w:World) (hm:n+2=m) (hn1:n+1=n1) (c1:w.cell? ⟨g,n,none⟩=some (.int .i64 (-4711))) (c2:w.cell? ⟨g,n1,none⟩=some (.int .i64 (-4712))) (hO:n*8≤140737488351232) :
  Calls Tryz.prog 34 #[.slice (some ⟨g,0,none⟩) n m] w fun e w'=>e=.returned (.bool true)∧w'=w:=by
 have e2:(n:Int)+2=(m:Int):=by omega
 have e3:IntKind.i64.wrap (m:Int)=(m:Int):=by rw [IntKind.wrap_i64];omega
 have e4:(n:Int)+1=(n1:Int):=by omega
 have e5:IntKind.i64.wrap (n1:Int)=(n1:Int):=by rw [IntKind.wrap_i64];omega
 have y0:(0:Int)≤(n:Int):=by omega
 have y1:(0:Int)≤(m:Int):=by omega
 have y3:(0:Int)≤(n1:Int):=by omega
 have y4:(n1:Int) < (m:Int):=by omega
 have y5:(n:Int) < (m:Int):=by omega
 clear hm hn1
 go_enter Tryz.func34,Tryz.ntmps34
 go_wp2_with fail
 go_ret
 exact ⟨rfl,by first | rfl | trivial⟩
set_option maxRecDepth 100000 in
set_option maxHeartbeats 8000000 in
theorem mtexts_any (g n n1 m:Nat) (w:World) (hm:n+2=m) (hn1:n+1=n1) (c1:w.cell? ⟨g,n,none⟩=some (.string ⟨#[98,101,104,105,110,100,32,116,104,101,32,101,110,100]⟩)) (c2:w.cell? ⟨g,n1,none⟩=some (.string ⟨#[98,101,104,105,110,100,32,116,104,101,32,101,110,100,50]⟩)) (hO:n*8≤140737488351232) :
  Calls Tryz.prog 35 #[.slice (some ⟨g,0,none⟩) n m] w fun e w'=>e=.returned (.bool true)∧w'=w:=by
 have e2:(n:Int)+2=(m:Int):=by omega
 have e3:IntKind.i64.wrap (m:Int)=(m:Int):=by rw [IntKind.wrap_i64];omega
 have e4:(n:Int)+1=(n1:Int):=by omega
 have e5:IntKind.i64.wrap (n1:Int)=(n1:Int):=by rw [IntKind.wrap_i64];omega
 have y0:(0:Int)≤(n:Int):=by omega
 have y1:(0:Int)≤(m:Int):=by omega
 have y3:(0:Int)≤(n1:Int):=by omega
 have y4:(n1:Int) < (m:Int):=by omega
 have y5:(n:Int) < (m:Int):=by omega
 clear hm hn1
 go_enter Tryz.func35,Tryz.ntmps35
 go_wp2_with fail
 go_ret
 exact ⟨rfl,by first | rfl | trivial⟩
end Go.Proofs.YtciffggmobblpaaGreatDoor.Nt
namespace Go.Proofs.YtciffggmobblpaaGreatDoor.Nt
open Go.RowKit Go.Shelf
theorem sA_ne {cs:Array Value} {a j:Nat} {v:Value} (h:a≠j):(cs.setIfInBounds a v)[j]?=cs[j]?:=Array.getElem?_setIfInBounds_ne h
theorem sA_eq {cs:Array Value} {a:Nat} {v:Value} (h:a < cs.size):(cs.setIfInBounds a v)[a]?=some v:=by simp [h]
theorem aget {cs:Array Value} {j:Nat} (h:j < cs.size):∃ u,cs[j]?=some u:=⟨_,Array.getElem?_eq_getElem h⟩
theorem rtexts_q (L:List (List UInt8)) (p:Option Addr) (n m c:Nat) (w:World) (hn:L.length=n) (hm:n+2=m) (hL:LS w p L) (hO:n*16≤140737488351232) :
  Calls Tryz.prog 49 #[.slice p n c] w fun e w'=>∃ g,e=.returned (.slice (some ⟨g,0,none⟩) n m)∧w.heap.size≤g∧w'.heap[g]?=some (.cells (vA m (rsF L)) 9 (0,0))∧Below w.heap.size w w':=
 (rtexts_any L p n m c w hn hm hL hO).mono fun e w' h=>⟨_,h.1,Nat.le_refl _,by rw [h.2];exact alloc_getZ _ _,by rw [h.2];exact belAZ (Below.refl _ _) _⟩
theorem rints_q (L:List Int) (p:Option Addr) (n m c:Nat) (w:World) (hn:L.length=n) (hm:n+2=m) (hL:LI w p L) (hO:n*8≤140737488351232) :
  Calls Tryz.prog 48 #[.slice p n c] w fun e w'=>∃ g,e=.returned (.slice (some ⟨g,0,none⟩) n m)∧w.heap.size≤g∧w'.heap[g]?=some (.cells (vA m (riF L)) 3 (0,0))∧Below w.heap.size w w':=
 (rints_any L p n m c w hn hm hL hO).mono fun e w' h=>⟨_,h.1,Nat.le_refl _,by rw [h.2];exact alloc_getZ _ _,by rw [h.2];exact belAZ (Below.refl _ _) _⟩
def RGA (W:World) (B:Nat) (cs:Array Value) (i:Nat) (x:NG):Prop:=∃ gc,B < gc∧cs[i*2]?=some (.bool x.pm)∧cs[i*2+1]?=some (.slice (some ⟨gc,0,none⟩) x.cubes.length (x.cubes.length+2))∧W.heap[gc]?=some (.cells (vA (x.cubes.length+2) (rsF x.cubes)) 9 (0,0))
theorem RGA.keep {W W':World} {B i:Nat} {cs cs':Array Value} {x:NG} (h:RGA W B cs i x) (hw:∀ b o,B < b→W.heap[b]?=some o→W'.heap[b]?=some o) (h0:cs'[i*2]?=cs[i*2]?) (h1:cs'[i*2+1]?=cs[i*2+1]?):RGA W' B cs' i x:=by
 obtain ⟨gc,a,b,c,d⟩:=h
 exact ⟨gc,a,h0.trans b,h1.trans c,hw _ _ a d⟩
def GI (w wr:World) (B m:Nat) (L:List NG) (k:Nat) (cs:Array Value):Prop:=wr.heap[B]?=some (.cells cs 81 (0,0))∧cs.size=m*2∧(∀ i x,i < k→L[i]?=some x→RGA wr B cs i x)∧Below B w wr
theorem put2f (W:World) (B a b:Nat) (v0 v1:Value) (h:b≠B):((W.setCell ⟨B,a,none⟩ v0).setCell ⟨B,a+1,none⟩ v1).heap[b]?=W.heap[b]?:=
 (heap_setCell_other _ ⟨B,a+1,none⟩ b v1 (fun e=>h (by simpa using e))).trans (heap_setCell_other _ ⟨B,a,none⟩ b v0 (fun e=>h (by simpa using e)))
theorem GI.put {w wr W7:World} {B m k j:Nat} {L:List NG} {cs:Array Value} (h:GI w wr B m L k cs) (hkj:k≤j) (h7:Below wr.heap.size wr W7) (v0 v1:Value) :
  GI w ((W7.setCell ⟨B,j*2,none⟩ v0).setCell ⟨B,j*2+1,none⟩ v1) B m L k ((cs.setIfInBounds (j*2) v0).setIfInBounds (j*2+1) v1):=by
 obtain ⟨h1,h2,h3,h4⟩:=h
 refine ⟨set_getZ v1 (set_getZ v0 (keepZ h7 h1)),by simpa using h2,fun i x hi hx=>?_,?_⟩
 ·refine (h3 i x hi hx).keep (fun b o hb ho=>?_) ?_ ?_
  ·rw [put2f _ _ _ _ _ _ (by omega)]
   exact keepZ h7 ho
  ·rw [sA_ne (by omega),sA_ne (by omega)]
  ·rw [sA_ne (by omega),sA_ne (by omega)]
 ·have hb:=lt_getZ h1
  exact ((h4.trans (h7.mono (by omega))).setCell (Nat.le_refl _) _).setCell (Nat.le_refl _) _
theorem GI.snoc {w W:World} {B m k:Nat} {L:List NG} {cs:Array Value} {x:NG} (h:GI w W B m L k cs) (hx:L[k]?=some x) (hr:RGA W B cs k x):GI w W B m L (k+1) cs:=
 ⟨h.1,h.2.1,fun i y hi hy=>by
  rcases Nat.lt_or_ge i k with h1 | h1
  ·exact h.2.2.1 i y h1 hy
  ·obtain rfl:i=k:=by omega
   rw [hx] at hy
   obtain rfl:=Option.some.inj hy
   exact hr,h.2.2.2⟩
theorem info_guard:(Tryz.prog.info? 81).map (fun i=>(i.zero,i.size,i.bytes))=some (some (.agg #[.bool false,.slice none 0 0]),2,32):=by kernel_rfl
def mkG (K:Nat):Array Value:=madeCells (Value.cells (.agg #[.bool false,.slice none 0 0])) (K*2)
theorem make_guards (K:Nat) (hK:K*32≤281474976710656) (w:World):(Instr.makeSlice 43 (.int .i64 (K:Int)) (.int .i64 (K:Int))).run Tryz.prog w=.ok (.slice (some ⟨w.heap.size,0,none⟩) K K) (w.alloc (.cells (mkG K) 81)):=by
 obtain ⟨i0,hi,hz0,hz1,hz2⟩:=info_parts info_guard
 have h:=run_make (P:=Tryz.prog) w 43 81 i0 _ Tryz.underlying43 hi hz0 .i64 .i64 (K:Int) (K:Int) (by omega) (Int.le_refl _) (by rw [hz2];omega) (by omega)
 rw [Int.toNat_natCast,hz1] at h
 exact h
def GRQ (W:World) (g:Nat) (L:List NG):Prop:=∃ cs gm1 gm2,W.heap[g]?=some (.cells cs 81 (0,0))∧(∀ i x,L[i]?=some x→RGA W g cs i x)∧cs[L.length*2+1]?=some (.slice (some ⟨gm1,0,none⟩) 1 1)∧W.heap[gm1]?=some (.cells #[.string ⟨#[98,101,104,105,110,100,32,116,104,101,32,101,110,100]⟩] 9 (0,0))∧cs[(L.length+1)*2+1]?=some (.slice (some ⟨gm2,0,none⟩) 1 1)∧W.heap[gm2]?=some (.cells #[.string ⟨#[98,101,104,105,110,100,32,116,104,101,32,101,110,100,50]⟩] 9 (0,0))
theorem GRQ.below {W W':World} {g:Nat} {L:List NG} (h:GRQ W g L) (hb:Below W.heap.size W W'):GRQ W' g L:=by
 obtain ⟨cs,g1,g2,a,b,c,d,e,f⟩:=h
 exact ⟨cs,g1,g2,keepZ hb a,fun i x hx=>(b i x hx).keep (fun _ _ _ ho=>keepZ hb ho) rfl rfl,c,keepZ hb d,e,keepZ hb f⟩
set_option maxRecDepth 100000 in
set_option maxHeartbeats 8000000 in
theorem rguard_any (L:List NG) (p:Option Addr) (n m c:Nat) (w:World) (hn:L.length=n) (hm:n+2=m) (hL:LG w p L) (hO:okGl L) :
  Calls Tryz.prog 28 #[.slice p n c] w fun e w'=>∃ g,e=.returned (.slice (some ⟨g,0,none⟩) n m)∧w.heap.size≤g∧GRQ w' g L∧Below w.heap.size w w':=by
 have hO1:n*32≤140737488351232:=by have:=hO.1;omega
 have hmk:=make_guards m (by omega)
 have HN:Hid (L.length=n∧LG w p L∧n+2=m∧okGl L):=⟨hn,hL,hm,hO⟩
 obtain ⟨B,hB⟩:∃ B,w.heap.size=B:=⟨_,rfl⟩
 have HB:=hideL hB
 have H0:Hid (GI w (w.alloc (.cells (mkG m) 81)) B m L 0 (mkG m)):=by
  rw [←hB]
  exact ⟨alloc_getZ _ _,size_madeCells _ _,fun i x hi=>by omega,belAZ (Below.refl _ _) _⟩
 have e2:(n:Int)+2=(m:Int):=by omega
 have e3:IntKind.i64.wrap (m:Int)=(m:Int):=by rw [IntKind.wrap_i64];omega
 have y0:(0:Int)≤(n:Int):=by omega
 have y1:(n:Int)≤(m:Int):=by omega
 have y2:n < m:=by omega
 obtain ⟨n1,hn1⟩:∃ n1,n+1=n1:=⟨_,rfl⟩
 have e4:(n:Int)+1=(n1:Int):=by omega
 have e5:IntKind.i64.wrap (n1:Int)=(n1:Int):=by rw [IntKind.wrap_i64];omega
 have y3:(0:Int)≤(n1:Int):=by omega
 have y4:(n1:Int) < (m:Int):=by omega
 have y5:(n:Int) < (m:Int):=by omega
 have HN1:Hid (n+1=n1∧n1+1=m):=⟨hn1,by omega⟩
 clear hn hm hL hB hn1 hO
 go_enter Tryz.func28,Tryz.ntmps28
 go_wp2_with fail
 rw [HB.out]
 go_loopw [4] (fun vk wr=>∃ (k:Nat) (cs:Array Value),vk=.int .i64 (k:Int)∧k≤n∧Hid (GI w wr B m L k cs)) (fun vk _=>n - (intOf vk).toNat)
 case atStart=>exact ⟨0,_,rfl,Nat.zero_le _,H0⟩
 case round=>
  clear H0
  obtain ⟨k,cs,rfl,hk,HG⟩:=hrel
  by_cases hlt:k < n
  ·obtain ⟨x,hx⟩:∃ x,L[k]?=some x:=⟨_,List.getElem?_eq_getElem (by have:=HN.out.1;omega)⟩
   have hLG:LG wr p L:=HN.out.2.1.below (by have:=HG.out.2.2.2;rwa [←HB.out] at this)
   obtain ⟨g,o,pc,cc,rfl,c0,c1,hl,hcc⟩:=hLG k x hx
   obtain ⟨nc,hnc⟩:∃ nc,x.cubes.length=nc:=⟨_,rfl⟩
   obtain ⟨nc2,hnc2⟩:∃ nc2,nc+2=nc2:=⟨_,rfl⟩
   rw [hnc] at c1 hcc
   have hgB:g≠B:=by
    obtain ⟨g9,o9,pc9,cc9,e9,c9,-⟩:=HN.out.2.1 k x hx
    have e9:=Option.some.inj e9
    injection e9 with e91 e92
    subst e91
    have:=World.block_lt_of_cell? w _ c9
    have:=HB.out
    simp only at *
    omega
   have HCL:Hid (∀ U,Below wr.heap.size wr U→Calls Tryz.prog 49 #[.slice pc nc cc] U fun e U'=>∃ gc,e=.returned (.slice (some ⟨gc,0,none⟩) nc nc2)∧U.heap.size≤gc∧U'.heap[gc]?=some (.cells (vA nc2 (rsF x.cubes)) 9 (0,0))∧Below U.heap.size U U'):=fun U hU=>rtexts_q x.cubes pc nc nc2 cc U hnc hnc2 (hl.below hU) (by have:=(HN.out.2.2.2.2 x (List.mem_of_getElem? hx)).1;omega)
   have HS:Hid (∀ U,Below wr.heap.size wr U→U.cell? ⟨g,o+k*2,none⟩=some (.bool x.pm)∧U.cell? ⟨g,o+k*2+1,none⟩=some (.slice pc nc cc)):=fun U hU=>⟨keepC hU c0,keepC hU c1⟩
   have HPT:Hid (∀ W5,Below wr.heap.size wr W5→∀ gc,wr.heap.size≤gc→W5.heap[gc]?=some (.cells (vA nc2 (rsF x.cubes)) 9 (0,0))→GI w ((W5.setCell ⟨B,k*2,none⟩ (.bool x.pm)).setCell ⟨B,k*2+1,none⟩ (.slice (some ⟨gc,0,none⟩) nc nc2)) B m L (k+1) ((cs.setIfInBounds (k*2) (.bool x.pm)).setIfInBounds (k*2+1) (.slice (some ⟨gc,0,none⟩) nc nc2))):=fun W5 h5 gc hg hc=>by
    have hb:=lt_getZ HG.out.1
    have hsz:=HG.out.2.1
    refine (HG.out.put (Nat.le_refl k) h5 _ _).snoc hx ⟨gc,by omega,?_,?_,?_⟩
    ·rw [sA_ne (by omega),sA_eq (by omega)]
    ·rw [sA_eq (by simp;omega),hnc,hnc2]
    ·rw [put2f _ _ _ _ _ _ (by omega),hc,hnc,hnc2]
   have HFT:Hid (∀ W5,Below wr.heap.size wr W5→∀ gc,(∃ u,W5.cell? ⟨B,k*2,none⟩=some u)∧(∃ u,W5.cell? ⟨B,k*2+1,none⟩=some u)∧W5.frozen? ⟨B,k*2,none⟩=false∧W5.frozen? ⟨B,k*2+1,none⟩=false∧((W5.setCell ⟨B,k*2,none⟩ (.bool x.pm)).setCell ⟨B,k*2+1,none⟩ (.slice (some ⟨gc,0,none⟩) nc nc2)).cell? ⟨g,o+k*2,none⟩=some (.bool x.pm)∧((W5.setCell ⟨B,k*2,none⟩ (.bool x.pm)).setCell ⟨B,k*2+1,none⟩ (.slice (some ⟨gc,0,none⟩) nc nc2)).cell? ⟨g,o+k*2+1,none⟩=some (.slice pc nc cc)):=fun W5 h5 gc=>by
    have h:=cellsZ (keepZ h5 HG.out.1)
    have hsz:=HG.out.2.1
    refine ⟨?_,?_,h.2 _,h.2 _,?_,?_⟩
    ·rw [h.1];exact aget (by omega)
    ·rw [h.1];exact aget (by omega)
    ·unfold World.cell?;rw [put2f _ _ _ _ _ _ hgB];exact (HS.out W5 h5).1
    ·unfold World.cell?;rw [put2f _ _ _ _ _ _ hgB];exact (HS.out W5 h5).2
   have hs0:wr.drew.cell? ⟨g,o+k*2,none⟩=some (.bool x.pm)∧wr.drew.cell? ⟨g,o+k*2+1,none⟩=some (.slice pc nc cc):=HS.out wr.drew (Below.refl _ _).drew
   have j0:(0:Int)≤(k:Int):=by omega
   have j1:(k:Int) < (n:Int):=by omega
   have j2:(k:Int) < (m:Int):=by omega
   clear hx hl hcc hnc hnc2 hLG hgB
   go_wp2_with fail
   refine wp_region_held_drew (S:=fun U=>U.cell? ⟨g,o+k*2,none⟩=some (.bool x.pm)∧U.cell? ⟨g,o+k*2+1,none⟩=some (.slice pc nc cc)) (by kernel_rfl) hs0 (fun _=>?_)
   refine wpAnyH_take (i:=0) (v:=.slice (some ⟨B,0,none⟩) m m) rfl (by kernel_rfl) (by kernel_rfl) (by kernel_rfl) (fun _ _ _ h=>h) (Or.inl ⟨by rfl,?_⟩) hs0 ?_
   ·rintro w ⟨q0,q1⟩;go_simp
   refine wpAnyH_take (i:=1) (v:=.int .i64 (k:Int)) rfl (by kernel_rfl) (by kernel_rfl) (by kernel_rfl) (fun _ _ _ h=>h) (Or.inl ⟨by rfl,?_⟩) hs0 ?_
   ·rintro w ⟨q0,q1⟩;go_simp
   refine wpAnyH_take (i:=2) (v:=.slice (some ⟨g,o,none⟩) n c) rfl (by kernel_rfl) (by kernel_rfl) (by kernel_rfl) (fun _ _ _ h=>h) (Or.inl ⟨by rfl,?_⟩) hs0 ?_
   ·rintro w ⟨q0,q1⟩;go_simp
   refine wpAnyH_take (i:=3) (v:=.int .i64 (k:Int)) rfl (by kernel_rfl) (by kernel_rfl) (by kernel_rfl) (fun _ _ _ h=>h) (Or.inl ⟨by rfl,?_⟩) hs0 ?_
   ·rintro w ⟨q0,q1⟩;go_simp
   refine wpAnyH_take (i:=4) (v:=.pointer (some ⟨g,o+k*2,none⟩)) rfl (by kernel_rfl) (by kernel_rfl) (by kernel_rfl) (fun _ _ _ h=>h) (Or.inl ⟨by rfl,?_⟩) hs0 ?_
   ·rintro w ⟨q0,q1⟩;go_simp
   refine wpAnyH_take (i:=5) (v:=.pointer (some ⟨g,o+k*2,none⟩)) rfl (by kernel_rfl) (by kernel_rfl) (by kernel_rfl) (fun _ _ _ h=>h) (Or.inl ⟨by rfl,?_⟩) hs0 ?_
   ·rintro w ⟨q0,q1⟩;go_simp
   refine wpAnyH_take (i:=6) (v:=.bool x.pm) rfl (by kernel_rfl) (by kernel_rfl) (by kernel_rfl) (fun _ _ _ h=>h) (Or.inl ⟨by rfl,?_⟩) hs0 ?_
   ·rintro w ⟨q0,q1⟩;go_simp
   refine wpAnyH_take (i:=7) (v:=.slice (some ⟨g,o,none⟩) n c) rfl (by kernel_rfl) (by kernel_rfl) (by kernel_rfl) (fun _ _ _ h=>h) (Or.inl ⟨by rfl,?_⟩) hs0 ?_
   ·rintro w ⟨q0,q1⟩;go_simp
   refine wpAnyH_take (i:=8) (v:=.int .i64 (k:Int)) rfl (by kernel_rfl) (by kernel_rfl) (by kernel_rfl) (fun _ _ _ h=>h) (Or.inl ⟨by rfl,?_⟩) hs0 ?_
   ·rintro w ⟨q0,q1⟩;go_simp
   refine wpAnyH_take (i:=9) (v:=.pointer (some ⟨g,o+k*2,none⟩)) rfl (by kernel_rfl) (by kernel_rfl) (by kernel_rfl) (fun _ _ _ h=>h) (Or.inl ⟨by rfl,?_⟩) hs0 ?_
   ·rintro w ⟨q0,q1⟩;go_simp
   refine wpAnyH_take (i:=10) (v:=.pointer (some ⟨g,o+k*2+1,none⟩)) rfl (by kernel_rfl) (by kernel_rfl) (by kernel_rfl) (fun _ _ _ h=>h) (Or.inl ⟨by rfl,?_⟩) hs0 ?_
   ·rintro w ⟨q0,q1⟩;go_simp
   refine wpAnyH_take (i:=11) (v:=.slice pc nc cc) rfl (by kernel_rfl) (by kernel_rfl) (by kernel_rfl) (fun _ _ _ h=>h) (Or.inl ⟨by rfl,?_⟩) hs0 ?_
   ·rintro w ⟨q0,q1⟩;go_simp
   refine wpAnyH_ready (rs:=[12]) (by kernel_rfl) (by simp) ?_
   refine AllReadyH.cons rfl (fun KK hKK=>?_) AllReadyH.nil
   go_simp
   refine (HCL.out _ (Below.refl _ _).drew).mono ?_
   rintro en W5 ⟨gc,rfl,hgc,hk5,b5⟩
   have b5':Below wr.heap.size wr W5:=bel0Z (Below.refl _ _).drew b5
   have hs5:=HS.out W5 b5'
   have hgc':wr.heap.size≤gc:=hgc
   go_simp
   refine hKK.out _ _ hs5 (fun _=>?_)
   clear hKK KK
   refine wpAnyH_take (i:=13) (v:=.agg #[.bool x.pm,.slice (some ⟨gc,0,none⟩) nc nc2]) rfl (by kernel_rfl) (by kernel_rfl) (by kernel_rfl) (fun _ _ _ h=>h) (Or.inl ⟨by rfl,?_⟩) hs5 ?_
   ·rintro w ⟨q0,q1⟩;go_simp
   refine wpAnyH_take (i:=14) (v:=.pointer (some ⟨B,k*2,none⟩)) rfl (by kernel_rfl) (by kernel_rfl) (by kernel_rfl) (fun _ _ _ h=>h) (Or.inl ⟨by rfl,?_⟩) hs5 ?_
   ·rintro w ⟨q0,q1⟩;go_simp
   have HP:=hideL (HPT.out W5 b5' gc hgc' hk5)
   obtain ⟨⟨u0,d0⟩,⟨u1,d1⟩,d2,d3,hs8⟩:=HFT.out W5 b5' gc
   refine wpAnyH_ready (rs:=[15]) (by kernel_rfl) (by simp) ?_
   refine AllReadyH.cons rfl (fun KK hKK=>?_) AllReadyH.nil
   go_simp
   refine hKK.out _ _ hs8 (fun _=>?_)
   clear hKK KK
   refine wpAnyH_done (by kernel_rfl) ?_ _
   clear d0 d1 d2 d3 hs8 hs5 hs0 b5 b5' hk5 hgc hgc'
   go_wp2_with fail
   go_roundw
   case rel=>exact ⟨k+1,_,by go_num,by omega,HP⟩
   case measure=>simp [intOf];omega
  ·obtain rfl:k=n:=by omega
   have j1:¬(k:Int) < (k:Int):=by omega
   have b1:Below wr.heap.size wr (wr.alloc (.cells #[.string ⟨#[98,101,104,105,110,100,32,116,104,101,32,101,110,100]⟩] 9)):=belAZ (Below.refl _ _) _
   obtain ⟨R1,hR1⟩:∃ R1,wr.heap.size=R1:=⟨_,rfl⟩
   have k1:(wr.alloc (.cells #[.string ⟨#[98,101,104,105,110,100,32,116,104,101,32,101,110,100]⟩] 9)).heap[R1]?=some (.cells #[.string ⟨#[98,101,104,105,110,100,32,116,104,101,32,101,110,100]⟩] 9 (0,0)):=by rw [←hR1];exact alloc_getZ _ _
   obtain ⟨W2,hW2⟩:∃ W2,((wr.alloc (.cells #[.string ⟨#[98,101,104,105,110,100,32,116,104,101,32,101,110,100]⟩] 9)).setCell ⟨B,k*2,none⟩ (.bool false)).setCell ⟨B,k*2+1,none⟩ (.slice (some ⟨R1,0,none⟩) 1 1)=W2:=⟨_,rfl⟩
   have hG2:=HG.out.put (j:=k) (by have:=HN1.out;omega) b1 (.bool false) (.slice (some ⟨R1,0,none⟩) 1 1)
   rw [hW2] at hG2
   obtain ⟨cs2,hcs2⟩:∃ cs2,(cs.setIfInBounds (k*2) (.bool false)).setIfInBounds (k*2+1) (.slice (some ⟨R1,0,none⟩) 1 1)=cs2:=⟨_,rfl⟩
   rw [hcs2] at hG2
   have HM1:Hid (cs2[k*2+1]?=some (.slice (some ⟨R1,0,none⟩) 1 1)∧W2.heap[R1]?=some (.cells #[.string ⟨#[98,101,104,105,110,100,32,116,104,101,32,101,110,100]⟩] 9 (0,0))∧B < R1∧(∀ b,b≠B→∀ ob,wr.heap[b]?=some ob→W2.heap[b]?=some ob)∧∀ j,j < k*2→cs2[j]?=cs[j]?):=by
    have hb:=lt_getZ HG.out.1
    have hsz:=HG.out.2.1
    refine ⟨?_,?_,by omega,fun b hb9 ob ho=>?_,fun j hj=>?_⟩
    ·rw [←hcs2,sA_eq (by simp;have:=HN1.out;omega)]
    ·rw [←hW2,put2f _ _ _ _ _ _ (by omega)];exact k1
    ·rw [←hW2,put2f _ _ _ _ _ _ hb9];exact keepZ b1 ho
    ·rw [←hcs2,sA_ne (by omega),sA_ne (by omega)]
   have hf:=cellsZ (keepZ b1 HG.out.1)
   obtain ⟨u0,d0⟩:∃ u,(wr.alloc (.cells #[.string ⟨#[98,101,104,105,110,100,32,116,104,101,32,101,110,100]⟩] 9)).cell? ⟨B,k*2,none⟩=some u:=by rw [hf.1];exact aget (by have:=HG.out.2.1;have:=HN1.out;omega)
   obtain ⟨u1,d1⟩:∃ u,(wr.alloc (.cells #[.string ⟨#[98,101,104,105,110,100,32,116,104,101,32,101,110,100]⟩] 9)).cell? ⟨B,k*2+1,none⟩=some u:=by rw [hf.1];exact aget (by have:=HG.out.2.1;have:=HN1.out;omega)
   have d2:=hf.2 (k*2)
   have d3:=hf.2 (k*2+1)
   have HW2:=hideL hW2
   have HR1:=hideL hR1
   have HG2:=hideL hG2
   clear hW2 hR1 hG2 hf hcs2 b1 k1
   go_upto_region 7 with fail
   rw [HR1.out,HW2.out]
   clear d0 d1 d2 d3 u0 u1
   have b1:Below W2.heap.size W2 (W2.alloc (.cells #[.string ⟨#[98,101,104,105,110,100,32,116,104,101,32,101,110,100,50]⟩] 9)):=belAZ (Below.refl _ _) _
   obtain ⟨R2,hR2⟩:∃ R2,W2.heap.size=R2:=⟨_,rfl⟩
   have k1:(W2.alloc (.cells #[.string ⟨#[98,101,104,105,110,100,32,116,104,101,32,101,110,100,50]⟩] 9)).heap[R2]?=some (.cells #[.string ⟨#[98,101,104,105,110,100,32,116,104,101,32,101,110,100,50]⟩] 9 (0,0)):=by rw [←hR2];exact alloc_getZ _ _
   obtain ⟨W4,hW4⟩:∃ W4,((W2.alloc (.cells #[.string ⟨#[98,101,104,105,110,100,32,116,104,101,32,101,110,100,50]⟩] 9)).setCell ⟨B,n1*2,none⟩ (.bool false)).setCell ⟨B,n1*2+1,none⟩ (.slice (some ⟨R2,0,none⟩) 1 1)=W4:=⟨_,rfl⟩
   have hG2:=HG2.out.put (j:=n1) (by have:=HN1.out;omega) b1 (.bool false) (.slice (some ⟨R2,0,none⟩) 1 1)
   rw [hW4] at hG2
   obtain ⟨cs4,hcs4⟩:∃ cs4,(cs2.setIfInBounds (n1*2) (.bool false)).setIfInBounds (n1*2+1) (.slice (some ⟨R2,0,none⟩) 1 1)=cs4:=⟨_,rfl⟩
   rw [hcs4] at hG2
   have HM2:Hid (cs4[n1*2+1]?=some (.slice (some ⟨R2,0,none⟩) 1 1)∧W4.heap[R2]?=some (.cells #[.string ⟨#[98,101,104,105,110,100,32,116,104,101,32,101,110,100,50]⟩] 9 (0,0))∧B < R2∧(∀ b,b≠B→∀ ob,W2.heap[b]?=some ob→W4.heap[b]?=some ob)∧∀ j,j < n1*2→cs4[j]?=cs2[j]?):=by
    have hb:=lt_getZ HG2.out.1
    have hsz:=HG2.out.2.1
    refine ⟨?_,?_,by omega,fun b hb9 ob ho=>?_,fun j hj=>?_⟩
    ·rw [←hcs4,sA_eq (by simp;have:=HN1.out;omega)]
    ·rw [←hW4,put2f _ _ _ _ _ _ (by omega)];exact k1
    ·rw [←hW4,put2f _ _ _ _ _ _ hb9];exact keepZ b1 ho
    ·rw [←hcs4,sA_ne (by omega),sA_ne (by omega)]
   have hf:=cellsZ (keepZ b1 HG2.out.1)
   obtain ⟨u0,d0⟩:∃ u,(W2.alloc (.cells #[.string ⟨#[98,101,104,105,110,100,32,116,104,101,32,101,110,100,50]⟩] 9)).cell? ⟨B,n1*2,none⟩=some u:=by rw [hf.1];exact aget (by have:=HG2.out.2.1;have:=HN1.out;omega)
   obtain ⟨u1,d1⟩:∃ u,(W2.alloc (.cells #[.string ⟨#[98,101,104,105,110,100,32,116,104,101,32,101,110,100,50]⟩] 9)).cell? ⟨B,n1*2+1,none⟩=some u:=by rw [hf.1];exact aget (by have:=HG2.out.2.1;have:=HN1.out;omega)
   have d2:=hf.2 (n1*2)
   have d3:=hf.2 (n1*2+1)
   have HW4:=hideL hW4
   have HR2:=hideL hR2
   have HG4:=hideL hG2
   clear hW4 hR2 hG2 hf hcs4 b1 k1
   have HQ:Hid (GRQ W4 B L∧Below w.heap.size w W4):=by
    obtain ⟨a1,a2,a3,a4,a5⟩:=HM1.out
    obtain ⟨z1,z2,z3,z4,z5⟩:=HM2.out
    refine ⟨⟨cs4,R1,R2,HG4.out.1,fun i x hx=>HG4.out.2.2.1 i x ?_ hx,?_,?_,?_,z2⟩,by rw [HB.out];exact HG4.out.2.2.2⟩
    ·have:=(List.getElem?_eq_some_iff.1 hx).1
     have:=HN.out.1
     omega
    ·rw [HN.out.1,z5 _ (by have:=HN1.out;omega)];exact a1
    ·exact z4 R1 (by omega) _ a2
    ·rw [HN.out.1,HN1.out.1];exact z1
   go_upto_region 8 with fail
   rw [HR2.out,HW4.out]
   clear d0 d1 d2 d3 u0 u1
   go_wp2_with fail
   go_ret
   exact ⟨B,by first | rfl | trivial,by rw [HB.out];exact Nat.le_refl _,HQ.out⟩
end Go.Proofs.YtciffggmobblpaaGreatDoor.Nt
