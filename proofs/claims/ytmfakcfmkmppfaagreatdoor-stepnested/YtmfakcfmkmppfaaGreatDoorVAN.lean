import Derived.Test.YtmfakcfmkmppfaaGreatDoorVAM
namespace Go.Proofs.YtmfakcfmkmppfaaGreatDoor.Nt
open Go.RowKit Go.Shelf
def IIQ (L:List Int) (z:Int) (w:World) (e:Ending) (w':World):Prop:=∃ i:Int,e=.returned (.int .i64 i)/\((0<=i)↔z∈L)/\w'=w
set_option maxRecDepth 100000 in
set_option maxHeartbeats 8000000 in
theorem znh (L:List Int) (z:Int) (p:Option Addr) (n c:Nat) (w:World) (hn:L.length=n) (hn9:n<=17592186043904) (hL:LI w p L) :
  Calls Tryz.prog 106 #[.slice p n c,.int .i64 z] w (IIQ L z w):=by
 have HN:=zab hn;have HL:=zab hL;clear hn hL
 go_enter Tryz.func106,Tryz.ntmps106
 go_wp2_with fail
 go_loopw [8] (fun vk wr=>∃ k:Nat,vk=.int .i64 (k:Int)/\k<=n/\Hid (∀ c∈L.take k,c≠z)/\wr=w) (fun vk _=>n - (intOf vk).toNat)
 case atStart=>exact ⟨0,rfl,Nat.zero_le _,fun c hc=>by simp at hc,rfl⟩
 case round=>
  obtain ⟨k,rfl,hk,HOK,rfl⟩:=hrel
  by_cases hlt:k < n
  ·obtain ⟨x,hx⟩:∃ x,L[k]?=some x:=⟨_,List.getElem?_eq_getElem (by have:=HN.out;omega)⟩
   obtain ⟨g,o,rfl,c0⟩:=HL.out k x hx;have j1:(k:Int) < (n:Int):=by omega
   have j0:(0:Int)<=(k:Int):=by omega
   have HX:=zab hx;clear hx
   by_cases hz:z=x
   ·have y1:(z==x)=true:=beq_iff_eq.2 hz
    have HQ:Hid (IIQ L z wr (.returned (.int .i64 (k:Int))) wr):=⟨k,rfl,⟨fun _=>by rw [hz];exact List.mem_of_getElem? HX.out,fun _=>j0⟩,rfl⟩;clear HOK HX hz
    go_wp2_with fail
    go_ret
    exact HQ.out
   ·have y1:(z==x)=false:=beq_eq_false_iff_ne.2 hz
    have HN1:Hid (∀ c∈L.take (k+1),c≠z):=zba HX.out HOK.out (fun h=>hz h.symm);clear HOK HX hz
    go_wp2_with fail
    go_roundw
    case rel=>exact ⟨k+1,by go_num,by omega,HN1,by first | rfl | trivial⟩
    case measure=>simp [intOf];omega
  ·obtain rfl:k=n:=by omega
   have j1:¬(k:Int) < (k:Int):=by omega
   have HQ:Hid (IIQ L z wr (.returned (.int .i64 (-1))) wr):=⟨-1,rfl,⟨fun h=>by omega,fun h=>absurd rfl ((by have h1:=HOK.out;rw [List.take_of_length_le (by have:=HN.out;omega)] at h1;exact h1 z h):z≠z)⟩,rfl⟩;clear HOK
   go_wp2_with fail
   go_ret
   exact HQ.out
set_option maxRecDepth 100000 in
set_option maxHeartbeats 8000000 in
theorem zlv (L:List Int) (z:Int) (p:Option Addr) (n c:Nat) (w:World) (hn:L.length=n) (hn9:n<=17592186043904) (hL:LI w p L) :
  Calls Tryz.prog 89 #[.slice p n c,.int .i64 z] w fun e w'=>e=.returned (.bool (pb (z∈L)))/\w'=w:=by
 have H1:=znh L z p n c w hn hn9 hL;obtain ⟨q,hq⟩:=ex (pb (z∈L));have HQ:Hid (∀ i:Int,((0<=i)↔z∈L)->q=decide (0<=i)):=fun i hi=>by
  rw [<-hq]
  by_cases h:0<=i
  ·rw [decide_eq_true h,zck (hi.1 h)]
  ·rw [decide_eq_false h,zfd (fun h9=>h (hi.2 h9))]
 rw [hq];clear hn hn9 hL hq
 go_enter Tryz.func89,Tryz.ntmps89
 go_wp2_with fail
 refine H1.mono ?_;rintro e W1 ⟨i,rfl,hi,hw⟩;obtain rfl:=hw.symm;have HQ1:=zab (HQ.out i hi);clear H1 HQ hi hw
 by_cases h0:(0:Int)<=i
 ·have HQ2:Hid (q=true/\decide (0<=i)=true):=⟨by rw [HQ1.out,decide_eq_true h0],decide_eq_true h0⟩
  go_wp2_with fail
  go_ret
  exact ⟨by rw [HQ2.out.1];rfl,by first | rfl | trivial⟩
 ·have HQ2:Hid (q=false/\decide (0<=i)=false):=⟨by rw [HQ1.out,decide_eq_false h0],decide_eq_false h0⟩
  go_wp2_with fail
  go_ret
  exact ⟨by rw [HQ2.out.1];show Ending.returned (Value.bool (decide (0<=i)))=_;rw [HQ2.out.2],by first | rfl | trivial⟩
set_option maxRecDepth 100000 in
set_option maxHeartbeats 8000000 in
theorem xins_any (n:NN) (v:NV) (box:Int) (L:List Int) (p:Option Addr) (m c:Nat) (w:World) (hN:LN w n v) (hm:L.length=m) (hm9:m<=17592186043904) (hL:LI w p L) :
  Calls Tryz.prog 122 #[.agg (nnA n v),.int .i64 box,.slice p m c] w (BQ (InsP n box L) w):=by
 obtain ⟨pp,cp,pt,ct,pg,cg⟩:=v;unfold nnA;simp only at hN ⊢;obtain ⟨W1,hW1⟩:=ex (w.alloc (Obj.cells #[.int .i64 n.bits,.slice pp n.ports.length cp,.slice pt n.tabs.length ct,.slice pg n.grds.length cg] 26));have b1:Below w.heap.size w W1:=by rw [<-hW1];exact zah (Below.refl _ _) _
 obtain ⟨B,hB⟩:=ex w.heap.size;have k1:W1.heap[B]?=some (.cells #[.int .i64 n.bits,.slice pp n.ports.length cp,.slice pt n.tabs.length ct,.slice pg n.grds.length cg] 26 (0,0)):=by rw [<-hW1,<-hB];exact zaa _ _
 have HC:Hid (∀ U,Below W1.heap.size W1 U->U.cell? ⟨B,0,none⟩=some (.int .i64 n.bits)/\U.cell? ⟨B,1,none⟩=some (.slice pp n.ports.length cp)/\U.cell? ⟨B,2,none⟩=some (.slice pt n.tabs.length ct)/\U.cell? ⟨B,3,none⟩=some (.slice pg n.grds.length cg)):=fun U hU=>by
  have:=(zaf (zae hU k1)).1;exact ⟨by rw [this];rfl,by rw [this];rfl,by rw [this];rfl,by rw [this];rfl⟩
 have HNN:Hid (∀ U,Below W1.heap.size W1 U->LN U n ⟨pp,cp,pt,ct,pg,cg⟩):=fun U hU=>hN.below (zac b1 hU);have HB1:=zab b1;have HBB:=zab hB;have HW:=zab hW1;clear k1 b1 hB hW1 hN;have HM:=zab hm;have HL:Hid (∀ U,Below W1.heap.size W1 U->LI U p L):=fun U hU=>hL.below (zac HB1.out hU);have HQT:Hid (∀ U,Below W1.heap.size W1 U->InsP n box L->BQ (InsP n box L) w (.returned (.bool true)) U):=fun U hU h=>BQ.yes h (zac HB1.out hU);have HQF:Hid (∀ U,Below W1.heap.size W1 U->¬InsP n box L->BQ (InsP n box L) w (.returned (.bool false)) U):=fun U hU h=>BQ.no h (zac HB1.out hU);have HOF:Hid (∀ U (z:Int),Below W1.heap.size W1 U->Calls Tryz.prog 129 #[.agg #[.int .i64 n.bits,.slice pp n.ports.length cp,.slice pt n.tabs.length ct,.slice pg n.grds.length cg],.int .i64 box,.int .i64 z,.bool true] U (BQ (zbt n box z true) U)):=fun U z hU=>zoz n ⟨pp,cp,pt,ct,pg,cg⟩ box z true U (HNN.out U hU);clear hm hL HNN
 go_enter Tryz.func122,Tryz.ntmps122
 go_wp2_with fail
 rw [HW.out,HBB.out]
 go_loopw [7,12] (fun v7 vk wr=>∃ (k:Nat) (l:Int),v7=.int .i64 l/\vk=.int .i64 (k:Int)/\k<=m/\Hid ((k=0/\l=-1)∨(0 < k/\L[k - 1]?=some l))/\Hid ((∀ c∈L.take k,zbt n box c true)/\(L.take k).Pairwise (· < ·))/\Hid (Below W1.heap.size W1 wr)) (fun _ vk _=>m - (intOf vk).toNat)
 case atStart=>exact ⟨0,-1,rfl,rfl,Nat.zero_le _,.inl ⟨rfl,rfl⟩,⟨fun c hc=>by simp at hc,by simp⟩,Below.refl _ _⟩
 case round=>
  obtain ⟨k,l,rfl,rfl,hk,HLA,HOK,HB⟩:=hrel;obtain ⟨q0,q1,q2,q3⟩:=HC.out wr HB.out
  by_cases hlt:k < m
  ·obtain ⟨x,hx⟩:∃ x,L[k]?=some x:=⟨_,List.getElem?_eq_getElem (by have:=HM.out;omega)⟩
   obtain ⟨g,o,rfl,c0⟩:=(HL.out wr HB.out) k x hx;have H1:=HOF.out wr x HB.out;have j1:(k:Int) < (m:Int):=by omega
   have j0:(0:Int)<=(k:Int):=by omega
   have HX:=zab hx;clear hx
   by_cases hle:x<=l
   ·have HQ:=zab (HQF.out wr HB.out (fun h=>by
     rcases HLA.out with ⟨h1,h2⟩ | ⟨h1,h2⟩
     ·have:=(h.1 x (List.mem_of_getElem? HX.out)).1
      omega
     ·have:=pw_bad h.2 h1 h2 HX.out
      omega))
    clear HOK HX HLA HQF HQT
    go_wp2_with fail
    go_ret
    exact HQ.out
   ·cases hp:pb (zbt n box x true) with
    | false=>
     have H1:Calls Tryz.prog 129 #[.agg #[.int .i64 n.bits,.slice pp n.ports.length cp,.slice pt n.tabs.length ct,.slice pg n.grds.length cg],.int .i64 box,.int .i64 x,.bool true] wr fun e w'=>e=.returned (.bool false)/\Below wr.heap.size wr w':=H1.mono fun e w' he=>⟨by rw [he.1,hp],he.2⟩;have HQ:Hid (∀ U,Below wr.heap.size wr U->BQ (InsP n box L) w (.returned (.bool false)) U):=fun U hU=>HQF.out U (zac HB.out hU) (fun h=>za6 hp (h.1 x (List.mem_of_getElem? HX.out)));clear hp HOK HX HLA HQF HQT
     go_wp2_with fail
     refine H1.mono ?_;rintro e W2 ⟨rfl,b2⟩;have HQ1:=zab (HQ.out W2 b2);clear H1 b2 HQ
     go_wp2_with fail
     go_ret
     exact HQ1.out
    | true=>
     have H1:Calls Tryz.prog 129 #[.agg #[.int .i64 n.bits,.slice pp n.ports.length cp,.slice pt n.tabs.length ct,.slice pg n.grds.length cg],.int .i64 box,.int .i64 x,.bool true] wr fun e w'=>e=.returned (.bool true)/\Below wr.heap.size wr w':=H1.mono fun e w' he=>⟨by rw [he.1,hp],he.2⟩;have HN1:Hid ((∀ c∈L.take (k+1),zbt n box c true)/\(L.take (k+1)).Pairwise (· < ·)):=⟨zba HX.out HOK.out.1 (za0.1 hp),zkz HOK.out.2 HX.out (by
      rcases HLA.out with ⟨h1,h2⟩ | ⟨h1,h2⟩
      ·exact .inl h1
      ·exact .inr ⟨l,h2,by omega⟩)⟩
     have HL2:Hid ((k+1=0/\x=-1)∨(0 < k+1/\L[k+1 - 1]?=some x)):=.inr ⟨by omega,HX.out⟩;clear hp HOK HX HLA HQF HQT
     go_wp2_with fail
     refine H1.mono ?_;rintro e W2 ⟨rfl,b2⟩;have HB2:Hid (Below W1.heap.size W1 W2):=zac HB.out b2;clear H1 b2
     go_wp2_with fail
     go_roundw
     case rel=>exact ⟨k+1,x,rfl,by go_num,by omega,HL2,HN1,HB2⟩
     case measure=>simp [intOf];omega
  ·obtain rfl:k=m:=by omega
   have j1:¬(k:Int) < (k:Int):=by omega
   have HQ:=zab (HQT.out wr HB.out (by have h1:=HOK.out;rw [List.take_of_length_le (by have:=HM.out;omega)] at h1;exact h1));clear HOK HLA HQF HQT
   go_wp2_with fail
   go_ret
   exact HQ.out
set_option maxRecDepth 100000 in
set_option maxHeartbeats 8000000 in
theorem zoy (n:NN) (v:NV) (box:Int) (L:List Int) (p:Option Addr) (m c:Nat) (w:World) (hN:LN w n v) (hm:L.length=m) (hmc:m<=c) (hL:LI w p L) :
  Calls Tryz.prog 123 #[.agg (nnA n v),.int .i64 box,.slice p m c] w (BQ (zhg n box L) w):=by
 obtain ⟨pp,cp,pt,ct,pg,cg⟩:=v;unfold nnA;simp only at hN ⊢;obtain ⟨W1,hW1⟩:=ex (w.alloc (Obj.cells #[.int .i64 n.bits,.slice pp n.ports.length cp,.slice pt n.tabs.length ct,.slice pg n.grds.length cg] 26));have b1:Below w.heap.size w W1:=by rw [<-hW1];exact zah (Below.refl _ _) _
 obtain ⟨B,hB⟩:=ex w.heap.size;have k1:W1.heap[B]?=some (.cells #[.int .i64 n.bits,.slice pp n.ports.length cp,.slice pt n.tabs.length ct,.slice pg n.grds.length cg] 26 (0,0)):=by rw [<-hW1,<-hB];exact zaa _ _
 have HC:Hid (∀ U,Below W1.heap.size W1 U->U.cell? ⟨B,0,none⟩=some (.int .i64 n.bits)/\U.cell? ⟨B,1,none⟩=some (.slice pp n.ports.length cp)/\U.cell? ⟨B,2,none⟩=some (.slice pt n.tabs.length ct)/\U.cell? ⟨B,3,none⟩=some (.slice pg n.grds.length cg)):=fun U hU=>by
  have:=(zaf (zae hU k1)).1;exact ⟨by rw [this];rfl,by rw [this];rfl,by rw [this];rfl,by rw [this];rfl⟩
 have HNN:Hid (∀ U,Below W1.heap.size W1 U->LN U n ⟨pp,cp,pt,ct,pg,cg⟩):=fun U hU=>hN.below (zac b1 hU);have HB1:=zab b1;have HBB:=zab hB;have HW:=zab hW1;clear k1 b1 hB hW1 hN;have HM:=zab hm;have HL:Hid (∀ U,Below W1.heap.size W1 U->LI U p L):=fun U hU=>hL.below (zac HB1.out hU);have HQT:Hid (∀ U,Below W1.heap.size W1 U->zhg n box L->BQ (zhg n box L) w (.returned (.bool true)) U):=fun U hU h=>BQ.yes h (zac HB1.out hU);have HQF:Hid (∀ U,Below W1.heap.size W1 U->¬zhg n box L->BQ (zhg n box L) w (.returned (.bool false)) U):=fun U hU h=>BQ.no h (zac HB1.out hU);have HOF:Hid (∀ U (z:Int),Below W1.heap.size W1 U->Calls Tryz.prog 129 #[.agg #[.int .i64 n.bits,.slice pp n.ports.length cp,.slice pt n.tabs.length ct,.slice pg n.grds.length cg],.int .i64 box,.int .i64 z,.bool false] U (BQ (zbt n box z false) U)):=fun U z hU=>zoz n ⟨pp,cp,pt,ct,pg,cg⟩ box z false U (HNN.out U hU);clear hm hL HNN
 by_cases h4:4 < m
 ·have j4:(4:Int) < (m:Int):=by omega
  have HQ:=zab (HQF.out W1 (Below.refl _ _) (fun h=>by have:=h.1;have:=HM.out;omega));clear HQT HQF HOF HL h4
  go_enter Tryz.func123,Tryz.ntmps123
  go_upto_region 1 with fail
  rw [HW.out,HBB.out]
  go_wp2_with fail
  go_ret
  exact HQ.out
 have j4:¬(4:Int) < (m:Int):=by omega
 have hm4:m<=4:=by omega
 go_enter Tryz.func123,Tryz.ntmps123
 go_upto_region 1 with fail
 rw [HW.out,HBB.out]
 go_wp2_with fail
 go_loopw [14] (fun vk wr=>∃ k:Nat,vk=.int .i64 (k:Int)/\k<=m/\Hid ((∀ c∈L.take k,zbt n box c false)/\(L.take k).Nodup)/\Hid (Below W1.heap.size W1 wr)) (fun vk _=>m - (intOf vk).toNat)
 case atStart=>exact ⟨0,rfl,Nat.zero_le _,⟨fun c hc=>by simp at hc,by simp⟩,Below.refl _ _⟩
 case round=>
  obtain ⟨k,rfl,hk,HOK,HB⟩:=hrel;obtain ⟨q0,q1,q2,q3⟩:=HC.out wr HB.out
  by_cases hlt:k < m
  ·obtain ⟨x,hx⟩:∃ x,L[k]?=some x:=⟨_,List.getElem?_eq_getElem (by have:=HM.out;omega)⟩
   obtain ⟨g,o,e5,c0⟩:=(HL.out wr HB.out) k x hx;subst e5;have H1:=HOF.out wr x HB.out;have j1:(k:Int) < (m:Int):=by omega
   have j0:(0:Int)<=(k:Int):=by omega
   have HX:=zab hx;clear hx;cases hp:pb (zbt n box x false) with
   | false=>
    have H1:Calls Tryz.prog 129 #[.agg #[.int .i64 n.bits,.slice pp n.ports.length cp,.slice pt n.tabs.length ct,.slice pg n.grds.length cg],.int .i64 box,.int .i64 x,.bool false] wr fun e w'=>e=.returned (.bool false)/\Below wr.heap.size wr w':=H1.mono fun e w' he=>⟨by rw [he.1,hp],he.2⟩;have HQ:Hid (∀ U,Below wr.heap.size wr U->BQ (zhg n box L) w (.returned (.bool false)) U):=fun U hU=>HQF.out U (zac HB.out hU) (fun h=>za6 hp (h.2.1 x (List.mem_of_getElem? HX.out)));clear hp HOK HX HQF HQT
    go_wp2_with fail
    refine H1.mono ?_;rintro e W2 ⟨rfl,b2⟩;have HQ1:=zab (HQ.out W2 b2);clear H1 b2 HQ
    go_wp2_with fail
    go_ret
    exact HQ1.out
   | true=>
    have H1:Calls Tryz.prog 129 #[.agg #[.int .i64 n.bits,.slice pp n.ports.length cp,.slice pt n.tabs.length ct,.slice pg n.grds.length cg],.int .i64 box,.int .i64 x,.bool false] wr fun e w'=>e=.returned (.bool true)/\Below wr.heap.size wr w':=H1.mono fun e w' he=>⟨by rw [he.1,hp],he.2⟩;have HPX:=zab (za0.1 hp);have HMM:Hid (x∈L.take k↔¬∀ j y,j < k->L[j]?=some y->y≠x):=by
     show _↔_;constructor
     ·intro h9 h8
      obtain ⟨j,hj,he⟩:=List.getElem_of_mem h9;rw [List.length_take] at hj;rw [List.getElem_take] at he;exact h8 j x (by omega) (by rw [<-he];exact List.getElem?_eq_getElem _) rfl
     ·intro h9
      refine Classical.byContradiction (fun h8=>h9 (fun j y hj hy he=>h8 ?_));subst he;exact List.mem_of_getElem? (show (L.take k)[j]?=some y by rw [List.getElem?_take,if_pos hj];exact hy)
    have HHA:Hid (∀ U,Below wr.heap.size wr U->Calls Tryz.prog 89 #[.slice (some ⟨g,o,none⟩) k c,.int .i64 x] U fun e w'=>e=.returned (.bool (pb (x∈L.take k)))/\w'=U):=fun U hU=>zlv (L.take k) x (some ⟨g,o,none⟩) k c U (by rw [List.length_take];have:=HM.out;omega) (by omega) (fun j y hy=>by
     rw [List.getElem?_take] at hy
     by_cases hj:j < k
     ·rw [if_pos hj] at hy
      exact (HL.out U (zac HB.out hU)) j y hy
     ·rw [if_neg hj] at hy
      cases hy)
    have j5:(k:Int)<=(c:Int):=by omega
    have j6:k<=c:=by omega
    clear hp
    go_wp2_with fail
    refine H1.mono ?_;rintro e W2 ⟨rfl,b2⟩;have HB2:Hid (Below W1.heap.size W1 W2):=zac HB.out b2;have HH1:=HHA.out W2 b2;clear H1 b2 HHA;cases hq:pb (x∈L.take k) with
    | true=>
     rw [hq] at HH1;have HQ:=zab (HQF.out W2 HB2.out (fun h=>(HMM.out.1 (za0.1 hq)) (fun j y hj hy he=>zqr h.2.2 hj (he ▸ hy) HX.out)));clear hq HOK HX HQF HQT HMM HPX
     go_wp2_with fail
     refine HH1.mono ?_;rintro e W3 ⟨rfl,hw⟩;obtain rfl:=hw.symm;clear hw HH1
     go_wp2_with fail
     go_ret
     exact HQ.out
    | false=>
     rw [hq] at HH1;have HN1:Hid ((∀ c∈L.take (k+1),zbt n box c false)/\(L.take (k+1)).Nodup):=⟨zba HX.out HOK.out.1 HPX.out,zle HOK.out.2 HX.out (Classical.byContradiction (fun h9=>za6 hq (HMM.out.2 h9)))⟩;clear hq HOK HX HQF HQT HMM HPX
     go_wp2_with fail
     refine HH1.mono ?_;rintro e W3 ⟨rfl,hw⟩;obtain rfl:=hw.symm;clear hw HH1
     go_wp2_with fail
     go_roundw
     case rel=>exact ⟨k+1,by go_num,by omega,HN1,HB2⟩
     case measure=>simp [intOf];omega
  ·obtain rfl:k=m:=by omega
   have j1:¬(k:Int) < (k:Int):=by omega
   have HQ:=zab (HQT.out wr HB.out (by have h1:=HOK.out;rw [List.take_of_length_le (by have:=HM.out;omega)] at h1;exact ⟨by have:=HM.out;omega,h1⟩));clear HOK HQF HQT
   go_wp2_with fail
   go_ret
   exact HQ.out
set_option maxRecDepth 100000 in
set_option maxHeartbeats 16000000 in
theorem zkl (n:NN) (v:NV) (w:World) (hN:LN w n v) (hS:zdn n) (hO:okN n) :
  Calls Tryz.prog 79 #[.agg (nnA n v)] w (BQ ((∀ (k:Nat) (t:List NE),n.tabs[k]?=some t->zg9 n (k:Int) t)/\zhj n<=256) w):=by
 obtain ⟨pp,cp,pt,ct,pg,cg⟩:=v;unfold nnA;simp only at hN ⊢;obtain ⟨W1,hW1⟩:=ex (w.alloc (Obj.cells #[.int .i64 n.bits,.slice pp n.ports.length cp,.slice pt n.tabs.length ct,.slice pg n.grds.length cg] 26));have b1:Below w.heap.size w W1:=by rw [<-hW1];exact zah (Below.refl _ _) _
 obtain ⟨B,hB⟩:=ex w.heap.size;have k1:W1.heap[B]?=some (.cells #[.int .i64 n.bits,.slice pp n.ports.length cp,.slice pt n.tabs.length ct,.slice pg n.grds.length cg] 26 (0,0)):=by rw [<-hW1,<-hB];exact zaa _ _
 have HC:Hid (∀ U,Below W1.heap.size W1 U->U.cell? ⟨B,0,none⟩=some (.int .i64 n.bits)/\U.cell? ⟨B,1,none⟩=some (.slice pp n.ports.length cp)/\U.cell? ⟨B,2,none⟩=some (.slice pt n.tabs.length ct)/\U.cell? ⟨B,3,none⟩=some (.slice pg n.grds.length cg)):=fun U hU=>by
  have:=(zaf (zae hU k1)).1;exact ⟨by rw [this];rfl,by rw [this];rfl,by rw [this];rfl,by rw [this];rfl⟩
 have HNN:Hid (∀ U,Below W1.heap.size W1 U->LN U n ⟨pp,cp,pt,ct,pg,cg⟩):=fun U hU=>hN.below (zac b1 hU);have HB1:=zab b1;have HBB:=zab hB;have HW:=zab hW1;clear k1 b1 hB hW1 hN;obtain ⟨PP,hPP⟩:∃ PP:Prop,((∀ (k:Nat) (t:List NE),n.tabs[k]?=some t->zg9 n (k:Int) t)/\zhj n<=256)=PP:=⟨_,rfl⟩;have HPP:Hid (PP=((∀ (k:Nat) (t:List NE),n.tabs[k]?=some t->zg9 n (k:Int) t)/\zhj n<=256)):=hPP.symm;rw [hPP];have HZ:Hid (zdn n/\okN n):=⟨hS,hO⟩;have HQT:Hid (∀ U,Below W1.heap.size W1 U->PP->BQ PP w (.returned (.bool true)) U):=fun U hU h=>BQ.yes h (zac HB1.out hU);have HQF:Hid (∀ U,Below W1.heap.size W1 U->¬PP->BQ PP w (.returned (.bool false)) U):=fun U hU h=>BQ.no h (zac HB1.out hU);obtain ⟨nt,hnt⟩:=ex n.tabs.length;have hnt16:nt<=16:=by have:=hS.2.2.1;omega
 have HNT:=zab hnt;rw [hnt] at HC HW ⊢;clear hS hO hnt hPP
 go_enter Tryz.func79,Tryz.ntmps79
 go_wp2_with fail
 rw [HW.out,HBB.out]
 go_loopw [3,4] (fun v3 v4 wr=>∃ k t:Nat,v3=.int .i64 (t:Int)/\v4=.int .i64 (k:Int)/\k<=nt/\t<=k*1353245080300/\Hid (((n.tabs.take k).map (·.length)).sum=t/\∀ (j:Nat) (t:List NE),j < k->n.tabs[j]?=some t->zg9 n (j:Int) t)/\Hid (Below W1.heap.size W1 wr)) (fun _ v4 _=>nt - (intOf v4).toNat)
 case atStart=>exact ⟨0,0,rfl,rfl,Nat.zero_le _,Nat.zero_le _,⟨rfl,fun j t h=>by omega⟩,Below.refl _ _⟩
 case round=>
  obtain ⟨wo,rfl⟩:∃ wo,wo=wr:=⟨wr,rfl⟩;obtain ⟨k,t,rfl,rfl,hk,htk,HSO,HB⟩:=hrel;obtain ⟨q0,q1,q2,q3⟩:=HC.out wo HB.out
  by_cases hlt:k < nt
  ·obtain ⟨gl,hx⟩:∃ gl,n.tabs[k]?=some gl:=⟨_,List.getElem?_eq_getElem (by have:=HNT.out;omega)⟩
   have hNw:=HNN.out wo HB.out;obtain ⟨g0,o0,p5,c5,e5,e0,hG,hcl⟩:=hNw.2.2.1 k gl hx;simp only at e5;subst e5;have hok:=HZ.out.2.2.2.2.1 gl (List.mem_of_getElem? hx);obtain ⟨m,hm⟩:=ex gl.length;have hm43:m<=1353245080300:=by have:=hok.1;omega
   rw [hm] at e0;have HX:Hid (n.tabs[k]?=some gl/\gl.length=m/\zla gl):=⟨hx,hm,hok⟩;have HG:Hid (∀ U,Below wo.heap.size wo U->U.cell? ⟨g0,o0+k,none⟩=some (.slice p5 m c5)/\LE U p5 gl/\LN U n ⟨pp,cp,some ⟨g0,o0,none⟩,ct,pg,cg⟩/\(U.cell? ⟨B,0,none⟩=some (.int .i64 n.bits)/\U.cell? ⟨B,1,none⟩=some (.slice pp n.ports.length cp)/\U.cell? ⟨B,2,none⟩=some (.slice (some ⟨g0,o0,none⟩) nt ct)/\U.cell? ⟨B,3,none⟩=some (.slice pg n.grds.length cg))):=fun U hU=>⟨zao hU e0,hG.below hU,hNw.below hU,zao hU q0,zao hU q1,zao hU q2,zao hU q3⟩;have j1:(0:Int)<=(k:Int):=by omega
   have j2:(k:Int) < (nt:Int):=by omega
   clear hx hG hcl hok hm q0 q1 q3 e0 HNN HC hNw
   go_wp2_with fail
   clear q2
   go_loopw [3,5,6] (fun v3 v5 v6 wr=>∃ i a s:Nat,v3=.int .i64 (s:Int)/\v5=.int .i64 (a:Int)/\v6=.int .i64 (i:Int)/\i<=m/\a<=i*64/\s<=21651921284800+i/\Hid (s=t+i)/\Hid (sumE (gl.take i)=a/\∀ e∈gl.take i,za2 n (k:Int) e)/\Hid (Below wo.heap.size wo wr)) (fun _ _ v6 _=>m - (intOf v6).toNat)
   case atStart=>exact ⟨0,0,t,rfl,rfl,rfl,Nat.zero_le _,Nat.zero_le _,by omega,rfl,⟨rfl,fun g hg=>by simp at hg⟩,Below.refl _ _⟩
   case round=>
    obtain ⟨i,a,s,rfl,rfl,rfl,hi,hai,hsi,HS,HSI,HBI⟩:=hrel;obtain ⟨e0,hG,hLN,q0,q1,q2,q3⟩:=HG.out _ HBI.out
    by_cases hlt2:i < m
    ·obtain ⟨x,hl⟩:∃ x,gl[i]?=some x:=⟨_,List.getElem?_eq_getElem (by have:=HX.out.2.1;omega)⟩
     obtain ⟨g2,o2,pi,ci,pc,cc,po,co,e5,e1,e2,e3,e4,e6,hLEL⟩:=hG i x hl;subst e5;have hokl:=HX.out.2.2.2 x (List.mem_of_getElem? hl);obtain ⟨lc,hlc⟩:=ex x.cubes.length;rw [hlc] at e3;have HCK:Hid (∀ U,Below wr.heap.size wr U->U.cell? ⟨B,0,none⟩=some (.int .i64 n.bits)/\U.cell? ⟨B,1,none⟩=some (.slice pp n.ports.length cp)/\U.cell? ⟨B,2,none⟩=some (.slice (some ⟨g0,o0,none⟩) nt ct)/\U.cell? ⟨B,3,none⟩=some (.slice pg n.grds.length cg)):=fun U hU=>⟨zao hU q0,zao hU q1,zao hU q2,zao hU q3⟩;have HEC:Hid (∀ U,Below wr.heap.size wr U->U.cell? ⟨g0,o0+k,none⟩=some (.slice (some ⟨g2,o2,none⟩) m c5)/\U.cell? ⟨g2,o2+i*5,none⟩=some (.string ⟨x.nm.toArray⟩)/\U.cell? ⟨g2,o2+i*5+1,none⟩=some (.slice pi x.ins.length ci)/\U.cell? ⟨g2,o2+i*5+2,none⟩=some (.slice pc lc cc)/\U.cell? ⟨g2,o2+i*5+3,none⟩=some (.string ⟨x.wr.toArray⟩)/\U.cell? ⟨g2,o2+i*5+4,none⟩=some (.slice po x.outs.length co)):=fun U hU=>⟨zao hU e0,zao hU e1,zao hU e2,zao hU e3,zao hU e4,zao hU e6⟩;have HEN:Hid (∀ U,Below wr.heap.size wr U->Calls Tryz.prog 92 #[.agg #[.int .i64 n.bits,.slice pp n.ports.length cp,.slice (some ⟨g0,o0,none⟩) nt ct,.slice pg n.grds.length cg],.int .i64 (k:Int),.agg #[.string ⟨x.nm.toArray⟩,.slice pi x.ins.length ci,.slice pc lc cc,.string ⟨x.wr.toArray⟩,.slice po x.outs.length co]] U (BQ (za2 n (k:Int) x) U)):=fun U hU=>by
      have:=znd n ⟨pp,cp,some ⟨g0,o0,none⟩,ct,pg,cg⟩ (k:Int) x pi ci pc cc po co U (hLN.below hU) (hLEL.below hU) HZ.out.1 hokl;unfold nnA neA at this;simp only at this;rw [HNT.out,hlc] at this;exact this
     have HLL:Hid (gl[i]?=some x/\x.cubes.length=lc):=⟨hl,hlc⟩;have j3:(0:Int)<=(i:Int):=by omega
     have j4:(i:Int) < (m:Int):=by omega
     clear hl hlc hokl hLEL hG hLN HG;clear e1 e2 e3 e4 e6 q0 q1 q3
     go_wp2_with fail
     refine zcg (C:=fun U=>Below wr.heap.size wr U) (by kernel_rfl) (by kernel_rfl) (show Below _ _ _ from (Below.refl _ _).drew) ?_
     go_big_quiet_want
     refine ⟨.agg #[.int .i64 n.bits,.slice pp n.ports.length cp,.slice (some ⟨g0,o0,none⟩) nt ct,.slice pg n.grds.length cg],fun W hW=>?_,?_⟩
     ·obtain ⟨q0,q1,q2,q3⟩:=HCK.out W hW
      go_simp
     go_big_quiet_on
     simp only [Act.put,List.setIfInBounds_toArray,List.set_cons_zero,List.set_cons_succ]
     go_big_quiet_want
     refine ⟨.int .i64 (k:Int),fun W hW=>?_,?_⟩
     ·go_simp
     go_big_quiet_on
     simp only [Act.put,List.setIfInBounds_toArray,List.set_cons_zero,List.set_cons_succ]
     go_big_quiet_want
     refine ⟨.pointer (some ⟨B,2,none⟩),fun W hW=>?_,?_⟩
     ·go_simp
     go_big_quiet_on
     simp only [Act.put,List.setIfInBounds_toArray,List.set_cons_zero,List.set_cons_succ]
     go_big_quiet_want
     refine ⟨.slice (some ⟨g0,o0,none⟩) nt ct,fun W hW=>?_,?_⟩
     ·obtain ⟨q0,q1,q2,q3⟩:=HCK.out W hW
      go_simp
     go_big_quiet_on
     simp only [Act.put,List.setIfInBounds_toArray,List.set_cons_zero,List.set_cons_succ]
     go_big_quiet_want
     refine ⟨.int .i64 (k:Int),fun W hW=>?_,?_⟩
     ·go_simp
     go_big_quiet_on
     simp only [Act.put,List.setIfInBounds_toArray,List.set_cons_zero,List.set_cons_succ]
     go_big_quiet_want
     refine ⟨.pointer (some ⟨g0,o0+k,none⟩),fun W hW=>?_,?_⟩
     ·go_simp
     go_big_quiet_on
     simp only [Act.put,List.setIfInBounds_toArray,List.set_cons_zero,List.set_cons_succ]
     go_big_quiet_want
     refine ⟨.slice (some ⟨g2,o2,none⟩) m c5,fun W hW=>?_,?_⟩
     ·obtain ⟨e1,e2,e3,e4,e5,e6⟩:=HEC.out W hW
      go_simp
     go_big_quiet_on
     simp only [Act.put,List.setIfInBounds_toArray,List.set_cons_zero,List.set_cons_succ]
     go_big_quiet_want
     refine ⟨.int .i64 (i:Int),fun W hW=>?_,?_⟩
     ·go_simp
     go_big_quiet_on
     simp only [Act.put,List.setIfInBounds_toArray,List.set_cons_zero,List.set_cons_succ]
     go_big_quiet_want
     refine ⟨.pointer (some ⟨g2,o2+i*5,none⟩),fun W hW=>?_,?_⟩
     ·go_simp
     go_big_quiet_on
     simp only [Act.put,List.setIfInBounds_toArray,List.set_cons_zero,List.set_cons_succ]
     go_big_quiet_want
     refine ⟨.agg #[.string ⟨x.nm.toArray⟩,.slice pi x.ins.length ci,.slice pc lc cc,.string ⟨x.wr.toArray⟩,.slice po x.outs.length co],fun W hW=>?_,?_⟩
     ·obtain ⟨e1,e2,e3,e4,e5,e6⟩:=HEC.out W hW
      go_simp
     go_big_quiet_on
     simp only [Act.put,List.setIfInBounds_toArray,List.set_cons_zero,List.set_cons_succ]
     go_big_quiet_want
     refine ⟨.bool (pb (za2 n (k:Int) x)),fun W hW=>?_,?_⟩
     ·go_simp
      refine (HEN.out W hW).mono ?_;rintro e w7 ⟨rfl,hb⟩;exact ⟨rfl,zac hW hb⟩
     go_big_quiet_on
     simp only [Act.put,List.setIfInBounds_toArray,List.set_cons_zero,List.set_cons_succ]
     go_big_quiet_want
     go_big_quiet_op
     go_big_quiet_on
     refine wpQuiet_nil ?_;intro W4 hW4;have HB4:Hid (Below W1.heap.size W1 W4):=zac HB.out (zac HBI.out hW4);have HB5:Hid (Below wo.heap.size wo W4):=zac HBI.out hW4;obtain ⟨-,-,q2,-⟩:=HCK.out W4 hW4;obtain ⟨e0,-,-,e3,-,-⟩:=HEC.out W4 hW4;clear hW4;cases hp:pb (za2 n (k:Int) x) with
     | false=>
      have HQ:=zab (HQF.out W4 HB4.out (fun h=>za6 hp (((HPP.out ▸ h).1 k gl HX.out.1).1 x (List.mem_of_getElem? HLL.out.1))));clear hp
      go_wp2_with fail
      go_ret
      exact HQ.out
     | true=>
      have hcp:=za0.1 hp;have hl64:lc<=64:=by have:=hcp.2.2.1.1;have:=HLL.out.2;omega
      have HN1:Hid (sumE (gl.take (i+1))=a+lc/\∀ e∈gl.take (i+1),za2 n (k:Int) e):=⟨by rw [zji HLL.out.1,HSI.out.1,HLL.out.2],zba HLL.out.1 HSI.out.2 hcp⟩;have HS1:Hid (s+1=t+(i+1)):=by have:=HS.out;show _=_;omega
      clear hp hcp HSI HS
      go_wp2_with fail
      go_roundw
      case rel=>exact ⟨i+1,a+lc,s+1,by go_num,by go_num,by go_num,by omega,by omega,by omega,HS1,HN1,HB5⟩
      case measure=>simp [intOf];omega
    ·obtain rfl:i=m:=by omega
     have j4:¬(i:Int) < (i:Int):=by omega
     have HE:Hid (sumE gl=a/\∀ l∈gl,za2 n (k:Int) l):=by
      have h1:=HSI.out;rw [List.take_of_length_le (by have:=HX.out.2.1;omega)] at h1;exact h1
     have HB4:Hid (Below W1.heap.size W1 wr):=zac HB.out HBI.out
     by_cases h512:512 < a
     ·have j5:(512:Int) < (a:Int):=by omega
      have HQ:=zab (HQF.out wr HB4.out (fun h=>by have h9:=((HPP.out ▸ h).1 k gl HX.out.1).2;have:=HE.out.1;omega));clear hG HG HSI HS h512 hLN
      go_wp2_with fail
      go_ret
      exact HQ.out
     ·have j5:¬(512:Int) < (a:Int):=by omega
      have HN1:Hid (((n.tabs.take (k+1)).map (·.length)).sum=s/\∀ (j:Nat) (t:List NE),j < k+1->n.tabs[j]?=some t->zg9 n (j:Int) t):=⟨by rw [zfw HX.out.1,HSO.out.1,HX.out.2.1,HS.out],fun j t hj ht=>by
       rcases Nat.lt_or_ge j k with h1 | h1
       ·exact HSO.out.2 j t h1 ht
       ·obtain rfl:j=k:=by omega
        rw [HX.out.1] at ht;rw [<-Option.some.inj ht];exact ⟨HE.out.2,by have:=HE.out.1;omega⟩⟩
      have hs9:s<=(k+1)*1353245080300:=by have:=HS.out;omega
      clear hG HG HSI HS h512 HE HSO hLN
      go_wp2_with fail
      go_roundw
      case rel=>exact ⟨k+1,s,rfl,by go_num,by omega,hs9,HN1,HB4⟩
      case measure=>simp [intOf];omega
  ·obtain rfl:k=nt:=by omega
   have j2:¬(k:Int) < (k:Int):=by omega
   have HE:Hid (zhj n=t/\∀ (j:Nat) (t:List NE),n.tabs[j]?=some t->zg9 n (j:Int) t):=by
    have h1:=HSO.out;rw [List.take_of_length_le (by have:=HNT.out;omega)] at h1;exact ⟨h1.1,fun j t ht=>h1.2 j t (by have:=(List.getElem?_eq_some_iff.1 ht).1;have:=HNT.out;omega) ht⟩
   by_cases h64:t<=256
   ·have j5:(t:Int)<=256:=by omega
    have HQ:=zab (HQT.out wo HB.out (HPP.out ▸ ⟨HE.out.2,by have:=HE.out.1;omega⟩));clear HSO HE h64 HNN HC
    go_wp2_with fail
    go_ret
    exact HQ.out
   ·have j5:¬(t:Int)<=256:=by omega
    have HQ:=zab (HQF.out wo HB.out (fun h=>by have:=(HPP.out ▸ h).2;have:=HE.out.1;omega));clear HSO HE h64 HNN HC
    go_wp2_with fail
    go_ret
    exact HQ.out
end Go.Proofs.YtmfakcfmkmppfaaGreatDoor.Nt
