import Derived.Test.YtciffggmobblpaaGreatDoorXAO
namespace Go.Proofs.YtciffggmobblpaaGreatDoor.Nt
open Go.RowKit Go.Shelf
def IIQ (L:List Int) (z:Int) (w:World) (e:Ending) (w':World):Prop:=∃ i:Int,e=.returned (.int .i64 i)∧((0≤i)↔z∈L)∧w'=w
set_option maxRecDepth 100000 in
set_option maxHeartbeats 8000000 in
theorem xindex_any (L:List Int) (z:Int) (p:Option Addr) (n c:Nat) (w:World) (hn:L.length=n) (hn9:n≤17592186043904) (hL:LI w p L) :
  Calls Tryz.prog 87 #[.slice p n c,.int .i64 z] w (IIQ L z w):=by
 have HN:=hideL hn
 have HL:=hideL hL
 clear hn hL
 go_enter Tryz.func87,Tryz.ntmps87
 go_wp2_with fail
 go_loopw [8] (fun vk wr=>∃ k:Nat,vk=.int .i64 (k:Int)∧k≤n∧Hid (∀ c∈L.take k,c≠z)∧wr=w) (fun vk _=>n - (intOf vk).toNat)
 case atStart=>exact ⟨0,rfl,Nat.zero_le _,fun c hc=>by simp at hc,rfl⟩
 case round=>
  obtain ⟨k,rfl,hk,HOK,rfl⟩:=hrel
  by_cases hlt:k < n
  ·obtain ⟨x,hx⟩:∃ x,L[k]?=some x:=⟨_,List.getElem?_eq_getElem (by have:=HN.out;omega)⟩
   obtain ⟨g,o,rfl,c0⟩:=HL.out k x hx
   have j1:(k:Int) < (n:Int):=by omega
   have j0:(0:Int)≤(k:Int):=by omega
   have HX:=hideL hx
   clear hx
   by_cases hz:z=x
   ·have y1:(z==x)=true:=beq_iff_eq.2 hz
    have HQ:Hid (IIQ L z wr (.returned (.int .i64 (k:Int))) wr):=⟨k,rfl,⟨fun _=>by rw [hz];exact List.mem_of_getElem? HX.out,fun _=>j0⟩,rfl⟩
    clear HOK HX hz
    go_wp2_with fail
    go_ret
    exact HQ.out
   ·have y1:(z==x)=false:=beq_eq_false_iff_ne.2 hz
    have HN1:Hid (∀ c∈L.take (k+1),c≠z):=all_take HX.out HOK.out (fun h=>hz h.symm)
    clear HOK HX hz
    go_wp2_with fail
    go_roundw
    case rel=>exact ⟨k+1,by go_num,by omega,HN1,by first | rfl | trivial⟩
    case measure=>simp [intOf];omega
  ·obtain rfl:k=n:=by omega
   have j1:¬(k:Int) < (k:Int):=by omega
   have HQ:Hid (IIQ L z wr (.returned (.int .i64 (-1))) wr):=⟨-1,rfl,⟨fun h=>by omega,fun h=>absurd rfl ((by have h1:=HOK.out;rw [List.take_of_length_le (by have:=HN.out;omega)] at h1;exact h1 z h):z≠z)⟩,rfl⟩
   clear HOK
   go_wp2_with fail
   go_ret
   exact HQ.out
set_option maxRecDepth 100000 in
set_option maxHeartbeats 8000000 in
theorem xhas_any (L:List Int) (z:Int) (p:Option Addr) (n c:Nat) (w:World) (hn:L.length=n) (hn9:n≤17592186043904) (hL:LI w p L) :
  Calls Tryz.prog 76 #[.slice p n c,.int .i64 z] w fun e w'=>e=.returned (.bool (pb (z∈L)))∧w'=w:=by
 have H1:=xindex_any L z p n c w hn hn9 hL
 obtain ⟨q,hq⟩:∃ q,pb (z∈L)=q:=⟨_,rfl⟩
 have HQ:Hid (∀ i:Int,((0≤i)↔z∈L)→q=decide (0≤i)):=fun i hi=>by
  rw [←hq]
  by_cases h:0≤i
  ·rw [decide_eq_true h,pb_yes (hi.1 h)]
  ·rw [decide_eq_false h,pb_no (fun h9=>h (hi.2 h9))]
 rw [hq]
 clear hn hn9 hL hq
 go_enter Tryz.func76,Tryz.ntmps76
 go_wp2_with fail
 refine H1.mono ?_
 rintro e W1 ⟨i,rfl,hi,hw⟩
 obtain rfl:=hw.symm
 have HQ1:=hideL (HQ.out i hi)
 clear H1 HQ hi hw
 by_cases h0:(0:Int)≤i
 ·have HQ2:Hid (q=true∧decide (0≤i)=true):=⟨by rw [HQ1.out,decide_eq_true h0],decide_eq_true h0⟩
  go_wp2_with fail
  go_ret
  exact ⟨by rw [HQ2.out.1];rfl,by first | rfl | trivial⟩
 ·have HQ2:Hid (q=false∧decide (0≤i)=false):=⟨by rw [HQ1.out,decide_eq_false h0],decide_eq_false h0⟩
  go_wp2_with fail
  go_ret
  exact ⟨by rw [HQ2.out.1];show Ending.returned (Value.bool (decide (0≤i)))=_;rw [HQ2.out.2],by first | rfl | trivial⟩
set_option maxRecDepth 100000 in
set_option maxHeartbeats 8000000 in
theorem xins_any (n:NN) (v:NV) (box:Int) (L:List Int) (p:Option Addr) (m c:Nat) (w:World) (hN:LN w n v) (hm:L.length=m) (hm9:m≤17592186043904) (hL:LI w p L) :
  Calls Tryz.prog 96 #[.agg (nnA n v),.int .i64 box,.slice p m c] w (BQ (InsP n box L) w):=by
 obtain ⟨pp,cp,pt,ct,pg,cg⟩:=v
 unfold nnA
 simp only at hN ⊢
 obtain ⟨W1,hW1⟩:∃ W1,w.alloc (Obj.cells #[.int .i64 n.bits,.slice pp n.ports.length cp,.slice pt n.tabs.length ct,.slice pg n.grds.length cg] 26)=W1:=⟨_,rfl⟩
 have b1:Below w.heap.size w W1:=by rw [←hW1];exact belAZ (Below.refl _ _) _
 obtain ⟨B,hB⟩:∃ B,w.heap.size=B:=⟨_,rfl⟩
 have k1:W1.heap[B]?=some (.cells #[.int .i64 n.bits,.slice pp n.ports.length cp,.slice pt n.tabs.length ct,.slice pg n.grds.length cg] 26 (0,0)):=by rw [←hW1,←hB];exact alloc_getZ _ _
 have HC:Hid (∀ U,Below W1.heap.size W1 U→U.cell? ⟨B,0,none⟩=some (.int .i64 n.bits)∧U.cell? ⟨B,1,none⟩=some (.slice pp n.ports.length cp)∧U.cell? ⟨B,2,none⟩=some (.slice pt n.tabs.length ct)∧U.cell? ⟨B,3,none⟩=some (.slice pg n.grds.length cg)):=fun U hU=>by
  have:=(cellsZ (keepZ hU k1)).1
  exact ⟨by rw [this];rfl,by rw [this];rfl,by rw [this];rfl,by rw [this];rfl⟩
 have HNN:Hid (∀ U,Below W1.heap.size W1 U→LN U n ⟨pp,cp,pt,ct,pg,cg⟩):=fun U hU=>hN.below (bel0Z b1 hU)
 have HB1:=hideL b1
 have HBB:=hideL hB
 have HW:=hideL hW1
 clear k1 b1 hB hW1 hN
 have HM:=hideL hm
 have HL:Hid (∀ U,Below W1.heap.size W1 U→LI U p L):=fun U hU=>hL.below (bel0Z HB1.out hU)
 have HQT:Hid (∀ U,Below W1.heap.size W1 U→InsP n box L→BQ (InsP n box L) w (.returned (.bool true)) U):=fun U hU h=>BQ.yes h (bel0Z HB1.out hU)
 have HQF:Hid (∀ U,Below W1.heap.size W1 U→¬InsP n box L→BQ (InsP n box L) w (.returned (.bool false)) U):=fun U hU h=>BQ.no h (bel0Z HB1.out hU)
 have HOF:Hid (∀ U (z:Int),Below W1.heap.size W1 U→Calls Tryz.prog 101 #[.agg #[.int .i64 n.bits,.slice pp n.ports.length cp,.slice pt n.tabs.length ct,.slice pg n.grds.length cg],.int .i64 box,.int .i64 z,.bool true] U (BQ (IsOfP n box z true) U)):=fun U z hU=>xof_any n ⟨pp,cp,pt,ct,pg,cg⟩ box z true U (HNN.out U hU)
 clear hm hL HNN
 go_enter Tryz.func96,Tryz.ntmps96
 go_wp2_with fail
 rw [HW.out,HBB.out]
 go_loopw [7,12] (fun v7 vk wr=>∃ (k:Nat) (l:Int),v7=.int .i64 l∧vk=.int .i64 (k:Int)∧k≤m∧Hid ((k=0∧l=-1)∨(0 < k∧L[k - 1]?=some l))∧Hid ((∀ c∈L.take k,IsOfP n box c true)∧(L.take k).Pairwise (· < ·))∧Hid (Below W1.heap.size W1 wr)) (fun _ vk _=>m - (intOf vk).toNat)
 case atStart=>exact ⟨0,-1,rfl,rfl,Nat.zero_le _,.inl ⟨rfl,rfl⟩,⟨fun c hc=>by simp at hc,by simp⟩,Below.refl _ _⟩
 case round=>
  obtain ⟨k,l,rfl,rfl,hk,HLA,HOK,HB⟩:=hrel
  obtain ⟨q0,q1,q2,q3⟩:=HC.out wr HB.out
  by_cases hlt:k < m
  ·obtain ⟨x,hx⟩:∃ x,L[k]?=some x:=⟨_,List.getElem?_eq_getElem (by have:=HM.out;omega)⟩
   obtain ⟨g,o,rfl,c0⟩:=(HL.out wr HB.out) k x hx
   have H1:=HOF.out wr x HB.out
   have j1:(k:Int) < (m:Int):=by omega
   have j0:(0:Int)≤(k:Int):=by omega
   have HX:=hideL hx
   clear hx
   by_cases hle:x≤l
   ·have HQ:=hideL (HQF.out wr HB.out (fun h=>by
     rcases HLA.out with ⟨h1,h2⟩ | ⟨h1,h2⟩
     ·have:=(h.1 x (List.mem_of_getElem? HX.out)).1
      omega
     ·have:=pw_bad h.2 h1 h2 HX.out
      omega))
    clear HOK HX HLA HQF HQT
    go_wp2_with fail
    go_ret
    exact HQ.out
   ·cases hp:pb (IsOfP n box x true) with
    | false=>
     have H1:Calls Tryz.prog 101 #[.agg #[.int .i64 n.bits,.slice pp n.ports.length cp,.slice pt n.tabs.length ct,.slice pg n.grds.length cg],.int .i64 box,.int .i64 x,.bool true] wr fun e w'=>e=.returned (.bool false)∧Below wr.heap.size wr w':=H1.mono fun e w' he=>⟨by rw [he.1,hp],he.2⟩
     have HQ:Hid (∀ U,Below wr.heap.size wr U→BQ (InsP n box L) w (.returned (.bool false)) U):=fun U hU=>HQF.out U (bel0Z HB.out hU) (fun h=>pb_not hp (h.1 x (List.mem_of_getElem? HX.out)))
     clear hp HOK HX HLA HQF HQT
     go_wp2_with fail
     refine H1.mono ?_
     rintro e W2 ⟨rfl,b2⟩
     have HQ1:=hideL (HQ.out W2 b2)
     clear H1 b2 HQ
     go_wp2_with fail
     go_ret
     exact HQ1.out
    | true=>
     have H1:Calls Tryz.prog 101 #[.agg #[.int .i64 n.bits,.slice pp n.ports.length cp,.slice pt n.tabs.length ct,.slice pg n.grds.length cg],.int .i64 box,.int .i64 x,.bool true] wr fun e w'=>e=.returned (.bool true)∧Below wr.heap.size wr w':=H1.mono fun e w' he=>⟨by rw [he.1,hp],he.2⟩
     have HN1:Hid ((∀ c∈L.take (k+1),IsOfP n box c true)∧(L.take (k+1)).Pairwise (· < ·)):=⟨all_take HX.out HOK.out.1 (pb_iff.1 hp),pw_take HOK.out.2 HX.out (by
      rcases HLA.out with ⟨h1,h2⟩ | ⟨h1,h2⟩
      ·exact .inl h1
      ·exact .inr ⟨l,h2,by omega⟩)⟩
     have HL2:Hid ((k+1=0∧x=-1)∨(0 < k+1∧L[k+1 - 1]?=some x)):=.inr ⟨by omega,HX.out⟩
     clear hp HOK HX HLA HQF HQT
     go_wp2_with fail
     refine H1.mono ?_
     rintro e W2 ⟨rfl,b2⟩
     have HB2:Hid (Below W1.heap.size W1 W2):=bel0Z HB.out b2
     clear H1 b2
     go_wp2_with fail
     go_roundw
     case rel=>exact ⟨k+1,x,rfl,by go_num,by omega,HL2,HN1,HB2⟩
     case measure=>simp [intOf];omega
  ·obtain rfl:k=m:=by omega
   have j1:¬(k:Int) < (k:Int):=by omega
   have HQ:=hideL (HQT.out wr HB.out (by have h1:=HOK.out;rw [List.take_of_length_le (by have:=HM.out;omega)] at h1;exact h1))
   clear HOK HLA HQF HQT
   go_wp2_with fail
   go_ret
   exact HQ.out
set_option maxRecDepth 100000 in
set_option maxHeartbeats 8000000 in
theorem xouts_any (n:NN) (v:NV) (box:Int) (L:List Int) (p:Option Addr) (m c:Nat) (w:World) (hN:LN w n v) (hm:L.length=m) (hmc:m≤c) (hL:LI w p L) :
  Calls Tryz.prog 97 #[.agg (nnA n v),.int .i64 box,.slice p m c] w (BQ (OutsP n box L) w):=by
 obtain ⟨pp,cp,pt,ct,pg,cg⟩:=v
 unfold nnA
 simp only at hN ⊢
 obtain ⟨W1,hW1⟩:∃ W1,w.alloc (Obj.cells #[.int .i64 n.bits,.slice pp n.ports.length cp,.slice pt n.tabs.length ct,.slice pg n.grds.length cg] 26)=W1:=⟨_,rfl⟩
 have b1:Below w.heap.size w W1:=by rw [←hW1];exact belAZ (Below.refl _ _) _
 obtain ⟨B,hB⟩:∃ B,w.heap.size=B:=⟨_,rfl⟩
 have k1:W1.heap[B]?=some (.cells #[.int .i64 n.bits,.slice pp n.ports.length cp,.slice pt n.tabs.length ct,.slice pg n.grds.length cg] 26 (0,0)):=by rw [←hW1,←hB];exact alloc_getZ _ _
 have HC:Hid (∀ U,Below W1.heap.size W1 U→U.cell? ⟨B,0,none⟩=some (.int .i64 n.bits)∧U.cell? ⟨B,1,none⟩=some (.slice pp n.ports.length cp)∧U.cell? ⟨B,2,none⟩=some (.slice pt n.tabs.length ct)∧U.cell? ⟨B,3,none⟩=some (.slice pg n.grds.length cg)):=fun U hU=>by
  have:=(cellsZ (keepZ hU k1)).1
  exact ⟨by rw [this];rfl,by rw [this];rfl,by rw [this];rfl,by rw [this];rfl⟩
 have HNN:Hid (∀ U,Below W1.heap.size W1 U→LN U n ⟨pp,cp,pt,ct,pg,cg⟩):=fun U hU=>hN.below (bel0Z b1 hU)
 have HB1:=hideL b1
 have HBB:=hideL hB
 have HW:=hideL hW1
 clear k1 b1 hB hW1 hN
 have HM:=hideL hm
 have HL:Hid (∀ U,Below W1.heap.size W1 U→LI U p L):=fun U hU=>hL.below (bel0Z HB1.out hU)
 have HQT:Hid (∀ U,Below W1.heap.size W1 U→OutsP n box L→BQ (OutsP n box L) w (.returned (.bool true)) U):=fun U hU h=>BQ.yes h (bel0Z HB1.out hU)
 have HQF:Hid (∀ U,Below W1.heap.size W1 U→¬OutsP n box L→BQ (OutsP n box L) w (.returned (.bool false)) U):=fun U hU h=>BQ.no h (bel0Z HB1.out hU)
 have HOF:Hid (∀ U (z:Int),Below W1.heap.size W1 U→Calls Tryz.prog 101 #[.agg #[.int .i64 n.bits,.slice pp n.ports.length cp,.slice pt n.tabs.length ct,.slice pg n.grds.length cg],.int .i64 box,.int .i64 z,.bool false] U (BQ (IsOfP n box z false) U)):=fun U z hU=>xof_any n ⟨pp,cp,pt,ct,pg,cg⟩ box z false U (HNN.out U hU)
 clear hm hL HNN
 by_cases h4:4 < m
 ·have j4:(4:Int) < (m:Int):=by omega
  have HQ:=hideL (HQF.out W1 (Below.refl _ _) (fun h=>by have:=h.1;have:=HM.out;omega))
  clear HQT HQF HOF HL h4
  go_enter Tryz.func97,Tryz.ntmps97
  go_upto_region 1 with fail
  rw [HW.out,HBB.out]
  go_wp2_with fail
  go_ret
  exact HQ.out
 have j4:¬(4:Int) < (m:Int):=by omega
 have hm4:m≤4:=by omega
 go_enter Tryz.func97,Tryz.ntmps97
 go_upto_region 1 with fail
 rw [HW.out,HBB.out]
 go_wp2_with fail
 go_loopw [14] (fun vk wr=>∃ k:Nat,vk=.int .i64 (k:Int)∧k≤m∧Hid ((∀ c∈L.take k,IsOfP n box c false)∧(L.take k).Nodup)∧Hid (Below W1.heap.size W1 wr)) (fun vk _=>m - (intOf vk).toNat)
 case atStart=>exact ⟨0,rfl,Nat.zero_le _,⟨fun c hc=>by simp at hc,by simp⟩,Below.refl _ _⟩
 case round=>
  obtain ⟨k,rfl,hk,HOK,HB⟩:=hrel
  obtain ⟨q0,q1,q2,q3⟩:=HC.out wr HB.out
  by_cases hlt:k < m
  ·obtain ⟨x,hx⟩:∃ x,L[k]?=some x:=⟨_,List.getElem?_eq_getElem (by have:=HM.out;omega)⟩
   obtain ⟨g,o,e5,c0⟩:=(HL.out wr HB.out) k x hx
   subst e5
   have H1:=HOF.out wr x HB.out
   have j1:(k:Int) < (m:Int):=by omega
   have j0:(0:Int)≤(k:Int):=by omega
   have HX:=hideL hx
   clear hx
   cases hp:pb (IsOfP n box x false) with
   | false=>
    have H1:Calls Tryz.prog 101 #[.agg #[.int .i64 n.bits,.slice pp n.ports.length cp,.slice pt n.tabs.length ct,.slice pg n.grds.length cg],.int .i64 box,.int .i64 x,.bool false] wr fun e w'=>e=.returned (.bool false)∧Below wr.heap.size wr w':=H1.mono fun e w' he=>⟨by rw [he.1,hp],he.2⟩
    have HQ:Hid (∀ U,Below wr.heap.size wr U→BQ (OutsP n box L) w (.returned (.bool false)) U):=fun U hU=>HQF.out U (bel0Z HB.out hU) (fun h=>pb_not hp (h.2.1 x (List.mem_of_getElem? HX.out)))
    clear hp HOK HX HQF HQT
    go_wp2_with fail
    refine H1.mono ?_
    rintro e W2 ⟨rfl,b2⟩
    have HQ1:=hideL (HQ.out W2 b2)
    clear H1 b2 HQ
    go_wp2_with fail
    go_ret
    exact HQ1.out
   | true=>
    have H1:Calls Tryz.prog 101 #[.agg #[.int .i64 n.bits,.slice pp n.ports.length cp,.slice pt n.tabs.length ct,.slice pg n.grds.length cg],.int .i64 box,.int .i64 x,.bool false] wr fun e w'=>e=.returned (.bool true)∧Below wr.heap.size wr w':=H1.mono fun e w' he=>⟨by rw [he.1,hp],he.2⟩
    have HPX:=hideL (pb_iff.1 hp)
    have HMM:Hid (x∈L.take k↔¬∀ j y,j < k→L[j]?=some y→y≠x):=by
     show _↔_
     constructor
     ·intro h9 h8
      obtain ⟨j,hj,he⟩:=List.getElem_of_mem h9
      rw [List.length_take] at hj
      rw [List.getElem_take] at he
      exact h8 j x (by omega) (by rw [←he];exact List.getElem?_eq_getElem _) rfl
     ·intro h9
      refine Classical.byContradiction (fun h8=>h9 (fun j y hj hy he=>h8 ?_))
      subst he
      exact List.mem_of_getElem? (show (L.take k)[j]?=some y by rw [List.getElem?_take,if_pos hj];exact hy)
    have HHA:Hid (∀ U,Below wr.heap.size wr U→Calls Tryz.prog 76 #[.slice (some ⟨g,o,none⟩) k c,.int .i64 x] U fun e w'=>e=.returned (.bool (pb (x∈L.take k)))∧w'=U):=fun U hU=>xhas_any (L.take k) x (some ⟨g,o,none⟩) k c U (by rw [List.length_take];have:=HM.out;omega) (by omega) (fun j y hy=>by
     rw [List.getElem?_take] at hy
     by_cases hj:j < k
     ·rw [if_pos hj] at hy
      exact (HL.out U (bel0Z HB.out hU)) j y hy
     ·rw [if_neg hj] at hy
      cases hy)
    have j5:(k:Int)≤(c:Int):=by omega
    have j6:k≤c:=by omega
    clear hp
    go_wp2_with fail
    refine H1.mono ?_
    rintro e W2 ⟨rfl,b2⟩
    have HB2:Hid (Below W1.heap.size W1 W2):=bel0Z HB.out b2
    have HH1:=HHA.out W2 b2
    clear H1 b2 HHA
    cases hq:pb (x∈L.take k) with
    | true=>
     rw [hq] at HH1
     have HQ:=hideL (HQF.out W2 HB2.out (fun h=>(HMM.out.1 (pb_iff.1 hq)) (fun j y hj hy he=>nd_bad h.2.2 hj (he ▸ hy) HX.out)))
     clear hq HOK HX HQF HQT HMM HPX
     go_wp2_with fail
     refine HH1.mono ?_
     rintro e W3 ⟨rfl,hw⟩
     obtain rfl:=hw.symm
     clear hw HH1
     go_wp2_with fail
     go_ret
     exact HQ.out
    | false=>
     rw [hq] at HH1
     have HN1:Hid ((∀ c∈L.take (k+1),IsOfP n box c false)∧(L.take (k+1)).Nodup):=⟨all_take HX.out HOK.out.1 HPX.out,nd_take HOK.out.2 HX.out (Classical.byContradiction (fun h9=>pb_not hq (HMM.out.2 h9)))⟩
     clear hq HOK HX HQF HQT HMM HPX
     go_wp2_with fail
     refine HH1.mono ?_
     rintro e W3 ⟨rfl,hw⟩
     obtain rfl:=hw.symm
     clear hw HH1
     go_wp2_with fail
     go_roundw
     case rel=>exact ⟨k+1,by go_num,by omega,HN1,HB2⟩
     case measure=>simp [intOf];omega
  ·obtain rfl:k=m:=by omega
   have j1:¬(k:Int) < (k:Int):=by omega
   have HQ:=hideL (HQT.out wr HB.out (by have h1:=HOK.out;rw [List.take_of_length_le (by have:=HM.out;omega)] at h1;exact ⟨by have:=HM.out;omega,h1⟩))
   clear HOK HQF HQT
   go_wp2_with fail
   go_ret
   exact HQ.out
end Go.Proofs.YtciffggmobblpaaGreatDoor.Nt
