import Derived.Test.YtbplhianpelmfaaGreatDoorYBJ
namespace Go.Proofs.YtbplhianpelmfaaGreatDoor.Nt
open Go.RowKit Go.Shelf
theorem hasB_rep (k:Nat) (h:List UInt8) (hk:1≤k):Tn.hasB (List.replicate k 120) h=decide (h.length=k∧h.all dig01=true):=by
 unfold Tn.hasB
 have e1:(List.replicate k (120:UInt8)).isEmpty=false:=by
  cases k with
  | zero=>omega
  | succ k=>rfl
 rw [e1,List.length_replicate]
 by_cases hl:h.length=k
 ·subst hl
  simp only [Bool.not_false,Bool.true_and,beq_self_eq_true,true_and]
  rw [Bool.eq_iff_iff,decide_eq_true_eq,Tn.allTo_iff,List.all_eq_true]
  constructor
  ·intro hh b hb
   obtain ⟨j,hj⟩:=List.getElem?_of_mem hb
   have hjl:=(List.getElem?_eq_some_iff.1 hj).1
   have h3:=hh j hjl
   unfold Tn.okH at h3
   rw [List.getElem?_replicate,if_pos hjl,hj] at h3
   simp only [Bool.and_eq_true] at h3
   exact h3.1
  ·intro hh j hj
   unfold Tn.okH
   rw [List.getElem?_replicate,if_pos hj,List.getElem?_eq_getElem hj]
   simp only [Bool.and_eq_true]
   exact ⟨hh _ (List.getElem_mem hj),rfl⟩
 ·have e2:(k==h.length)=false:=by
   simp only [beq_eq_false_iff_ne,ne_eq]
   omega
  rw [e2]
  simp [hl]
theorem pb_st {n:NN} (hb:1≤n.bits∧n.bits≤256) (p:Int) (h:List UInt8):pb (StP n (p,h))=(decide (0≤p∧p < (n.ports.length:Int))&&Tn.hasB (if 1≤n.bits∧n.bits≤256 then List.replicate n.bits.toNat 120 else []) h):=by
 rw [if_pos hb,hasB_rep _ _ (by omega),Bool.eq_iff_iff,Bool.and_eq_true,decide_eq_true_eq,decide_eq_true_eq]
 constructor
 ·intro h9
  by_cases hP:StP n (p,h)
  ·exact ⟨⟨hP.1,hP.2.1⟩,by have:=hP.2.2.1;simp only at this;omega,hP.2.2.2⟩
  ·rw [pb_no hP] at h9;cases h9
 ·rintro ⟨⟨h1,h2⟩,h3,h4⟩
  exact pb_yes ⟨h1,h2,by simp only;omega,h4⟩
set_option maxRecDepth 100000 in
set_option maxHeartbeats 16000000 in
theorem isport_any (bits:Int) (pp:Option Addr) (np cp:Nat) (pt:Option Addr) (nt ct:Nat) (pg:Option Addr) (ng cg:Nat) (p:Int) (w:World) :
  Calls Tryz.prog 33 #[.agg #[.int .i64 bits,.slice pp np cp,.slice pt nt ct,.slice pg ng cg],.int .i64 p] w fun e w'=>e=.returned (.bool (decide (0≤p∧p < (np:Int))))∧Below w.heap.size w w':=by
 obtain ⟨B,hB⟩:∃ B,w.heap.size=B:=⟨_,rfl⟩
 obtain ⟨W1,hW1⟩:∃ W1,w.alloc (.cells #[.int .i64 bits,.slice pp np cp,.slice pt nt ct,.slice pg ng cg] 26)=W1:=⟨_,rfl⟩
 have b1:Below w.heap.size w W1:=by rw [←hW1];exact belAZ (Below.refl _ _) _
 have k1:W1.heap[B]?=some (.cells #[.int .i64 bits,.slice pp np cp,.slice pt nt ct,.slice pg ng cg] 26 (0,0)):=by rw [←hW1,←hB];exact alloc_getZ _ _
 have q1:W1.cell? ⟨B,1,none⟩=some (.slice pp np cp):=by rw [(cellsZ k1).1];rfl
 have HB:=hideL hB
 have HW1:=hideL hW1
 have HBW:=hideL b1
 clear hB hW1 b1 k1
 go_enter Tryz.func33,Tryz.ntmps33
 go_upto_region 1 with fail
 rw [HW1.out,HB.out]
 by_cases h0:p ≥ 0
 ·by_cases h1:p < (np:Int)
  ·go_wp2_with fail
   go_ret
   refine ⟨?_,HBW.out⟩
   have:(0≤p∧p < (np:Int)):=⟨h0,h1⟩
   simp [this]
  ·go_wp2_with fail
   go_ret
   refine ⟨?_,HBW.out⟩
   simp [h1]
 ·go_wp2_with fail
  go_ret
  refine ⟨?_,HBW.out⟩
  have:¬0≤p:=by omega
  simp [this]
set_option maxRecDepth 100000 in
set_option maxHeartbeats 16000000 in
theorem check_any (n:NN) (v:NV) (p:Int) (h:List UInt8) (w:World) (hN:LN w n v) (hO:okN n) (hT:TAB w) (hh:okS h) :
  Calls Tryz.prog 25 #[.agg (nnA n v),.agg #[.int .i64 p,.string ⟨h.toArray⟩]] w fun e w'=>e=.returned (.int .i64 (chkM n (p,h)))∧Below w.heap.size w w':=by
 have hva:=fun (U:World) (hU:Below w.heap.size w U)=>xvalid_any n v U (hN.below hU) hO (hT.at hU)
 obtain ⟨pp,cp,pt,ct,pg,cg⟩:=v
 unfold nnA at hva ⊢
 simp only at hva ⊢
 obtain ⟨np,hnp⟩:∃ k,n.ports.length=k:=⟨_,rfl⟩
 obtain ⟨nt,hnt⟩:∃ k,n.tabs.length=k:=⟨_,rfl⟩
 obtain ⟨ng,hng⟩:∃ k,n.grds.length=k:=⟨_,rfl⟩
 obtain ⟨bits,hbits⟩:∃ b,n.bits=b:=⟨_,rfl⟩
 rw [hnp,hnt,hng,hbits] at hva ⊢
 obtain ⟨vb,hvb⟩:∃ vb,pb (NetP n)=vb:=⟨_,rfl⟩
 rw [hvb] at hva
 obtain ⟨ip,hip⟩:∃ ip,decide (0≤p∧p < (np:Int))=ip:=⟨_,rfl⟩
 obtain ⟨cw,hcw⟩:∃ cw,(if 1≤bits∧bits≤256 then List.replicate bits.toNat (120:UInt8) else [])=cw:=⟨_,rfl⟩
 obtain ⟨hb9,hhb⟩:∃ hb9,Tn.hasB cw h=hb9:=⟨_,rfl⟩
 obtain ⟨R,hR⟩:∃ R,chkM n (p,h)=R:=⟨_,rfl⟩
 rw [hR]
 have HR0:Hid (vb=false→R=90):=fun e=>by rw [←hR,chkM,hvb,e,if_neg Bool.false_ne_true]
 have HR1:Hid (vb=true→R=if (ip&&hb9)=true then 0 else 100):=fun e=>by
  have hP:NetP n:=by
   by_cases hP:NetP n
   ·exact hP
   ·rw [pb_no hP] at hvb;rw [←hvb] at e;cases e
  rw [←hR,chkM,hvb,e,if_pos rfl,pb_st hP.bits,hnp,hip,hbits,hcw,hhb]
 obtain ⟨B,hB⟩:∃ B,w.heap.size=B:=⟨_,rfl⟩
 obtain ⟨b2,hb2⟩:∃ b2,w.heap.size+1=b2:=⟨_,rfl⟩
 obtain ⟨W1,hW1⟩:∃ W1,(w.alloc (.cells #[.int .i64 bits,.slice pp np cp,.slice pt nt ct,.slice pg ng cg] 26)).alloc (.cells #[.int .i64 p,.string ⟨h.toArray⟩] 28)=W1:=⟨_,rfl⟩
 have hz2:(w.alloc (.cells #[.int .i64 bits,.slice pp np cp,.slice pt nt ct,.slice pg ng cg] 26)).heap.size=w.heap.size+1:=Array.size_push _
 have b1:Below w.heap.size w W1:=by rw [←hW1];exact belAZ (belAZ (Below.refl _ _) _) _
 have k1:W1.heap[B]?=some (.cells #[.int .i64 bits,.slice pp np cp,.slice pt nt ct,.slice pg ng cg] 26 (0,0)):=by rw [←hW1,←hB];exact keepZ (belAZ (Below.refl _ _) _) (alloc_getZ _ _)
 have k2:W1.heap[b2]?=some (.cells #[.int .i64 p,.string ⟨h.toArray⟩] 28 (0,0)):=by rw [←hW1,←hb2,←hz2];exact alloc_getZ _ _
 have HC:Hid (∀ U,Below W1.heap.size W1 U→(U.cell? ⟨B,0,none⟩=some (.int .i64 bits)∧U.cell? ⟨B,1,none⟩=some (.slice pp np cp)∧U.cell? ⟨B,2,none⟩=some (.slice pt nt ct)∧U.cell? ⟨B,3,none⟩=some (.slice pg ng cg))∧(U.cell? ⟨b2,0,none⟩=some (.int .i64 p)∧U.cell? ⟨b2,1,none⟩=some (.string ⟨h.toArray⟩))):=fun U hU=>by
  have e1:=(cellsZ (keepZ hU k1)).1
  have e2:=(cellsZ (keepZ hU k2)).1
  exact ⟨⟨by rw [e1];rfl,by rw [e1];rfl,by rw [e1];rfl,by rw [e1];rfl⟩,⟨by rw [e2];rfl,by rw [e2];rfl⟩⟩
 have HVA:Hid (Calls Tryz.prog 37 #[.agg #[.int .i64 bits,.slice pp np cp,.slice pt nt ct,.slice pg ng cg]] W1 fun e w'=>e=.returned (.int .i64 (if vb=true then 0 else 90))∧Below W1.heap.size W1 w'):=hva W1 b1
 have HIP:Hid (∀ U,Calls Tryz.prog 33 #[.agg #[.int .i64 bits,.slice pp np cp,.slice pt nt ct,.slice pg ng cg],.int .i64 p] U fun e w'=>e=.returned (.bool ip)∧Below U.heap.size U w'):=fun U=>by
  have h:=isport_any bits pp np cp pt nt ct pg ng cg p U
  rw [hip] at h
  exact h
 obtain ⟨a0,a1,a2,a3,a4,a5,a6,a7,a8,h9⟩:=c9_ex cw
 have hgd:Tn.good cw=true:=by
  rw [←hcw]
  split
  ·exact Tn.good_replicate _ (by omega)
  ·exact Tn.good_nil
 have HAL:Hid (∀ U,Calls Tryz.prog 38 #[.int .i64 bits] U fun e w'=>e=.returned (.agg #[.int .i64 a0,.int .u64 a1,.int .u64 a2,.int .u64 a3,.int .u64 a4,.int .u64 a5,.int .u64 a6,.int .u64 a7,.int .u64 a8])∧Below U.heap.size U w'):=fun U=>by
  have h:=Tn.all_any bits U
  rw [hcw,h9.agg] at h
  exact h
 have HHA:Hid (∀ U,Calls Tryz.prog 39 #[.agg #[.int .i64 a0,.int .u64 a1,.int .u64 a2,.int .u64 a3,.int .u64 a4,.int .u64 a5,.int .u64 a6,.int .u64 a7,.int .u64 a8],.string ⟨h.toArray⟩] U fun e w'=>e=.returned (.bool hb9)∧Below U.heap.size U w'):=fun U=>by
  have h2:=Tn.has_any cw ⟨h.toArray⟩ U hgd (by show h.toArray.size≤_;unfold okS at hh;unfold maxLen;simp;omega)
  rw [h9.agg,show (⟨h.toArray⟩:ByteArray).data.toList=h from rfl,hhb] at h2
  exact h2
 have HB:=hideL hB
 have HB2:=hideL hb2
 have HW1:=hideL hW1
 have HBW:Hid (∀ U,Below W1.heap.size W1 U→Below w.heap.size w U):=fun U hU=>bel0Z b1 hU
 obtain ⟨⟨q0,q1,q2,q3⟩,⟨r0,r1⟩⟩:=HC.out W1 (Below.refl _ _)
 clear hva hN hO hT hh hnp hnt hng hbits hvb hip hcw hhb hR hB hb2 hW1 hz2 b1 k1 k2 h9 hgd
 go_enter Tryz.func25,Tryz.ntmps25
 go_upto_region 1 with fail
 rw [HW1.out,HB2.out,HB.out]
 go_wp2_with fail
 refine (HVA.out).mono ?_
 rintro e W2 ⟨rfl,c2⟩
 clear q0 q1 q2 q3 r0 r1
 cases vb with
 | false=>
  obtain rfl:=HR0.out rfl
  simp only [Bool.false_eq_true,if_false]
  have HFIN:=hideL (HBW.out W2 c2)
  clear c2
  go_wp2_with fail
  go_ret
  exact ⟨rfl,HFIN.out⟩
 | true=>
  simp only [if_true]
  have HR:=hideL (HR1.out rfl)
  have hs0:(W2.drew.cell? ⟨B,0,none⟩=some (.int .i64 bits)∧W2.drew.cell? ⟨B,1,none⟩=some (.slice pp np cp)∧W2.drew.cell? ⟨B,2,none⟩=some (.slice pt nt ct)∧W2.drew.cell? ⟨B,3,none⟩=some (.slice pg ng cg))∧(W2.drew.cell? ⟨b2,0,none⟩=some (.int .i64 p)∧W2.drew.cell? ⟨b2,1,none⟩=some (.string ⟨h.toArray⟩)):=HC.out W2.drew (bel0Z c2 (Below.refl _ _).drew)
  have HC2:=hideL c2
  clear c2
  go_upto_region 4 with fail
  refine wp_region_held_drew (S:=fun U=>(U.cell? ⟨B,0,none⟩=some (.int .i64 bits)∧U.cell? ⟨B,1,none⟩=some (.slice pp np cp)∧U.cell? ⟨B,2,none⟩=some (.slice pt nt ct)∧U.cell? ⟨B,3,none⟩=some (.slice pg ng cg))∧(U.cell? ⟨b2,0,none⟩=some (.int .i64 p)∧U.cell? ⟨b2,1,none⟩=some (.string ⟨h.toArray⟩))) (by kernel_rfl) hs0 (fun _=>?_)
  refine tk 0 (.agg #[.int .i64 bits,.slice pp np cp,.slice pt nt ct,.slice pg ng cg]) rfl hs0 ?_ ?_
  ·rintro w ⟨⟨q0,q1,q2,q3⟩,⟨r0,r1⟩⟩;go_simp
  refine tk 1 (.pointer (some ⟨b2,0,none⟩)) rfl hs0 ?_ ?_
  ·rintro w ⟨⟨q0,q1,q2,q3⟩,⟨r0,r1⟩⟩;go_simp
  refine tk 2 (.int .i64 p) rfl hs0 ?_ ?_
  ·rintro w ⟨⟨q0,q1,q2,q3⟩,⟨r0,r1⟩⟩;go_simp
  refine rd 3 rfl fun KK hKK=>?_
  go_simp
  refine (HIP.out _).mono ?_
  rintro en W3 ⟨rfl,c3⟩
  replace c3:Below W1.heap.size W1 W3:=bel0Z (bel0Z HC2.out (Below.refl _ _).drew) c3
  have hs3:=HC.out W3 c3
  go_simp
  refine hKK.out _ _ hs3 (fun _=>?_)
  clear hKK KK
  cases ip with
  | false=>
   have hR9:R=100:=HR.out
   subst hR9
   refine tk 4 (.bool true) rfl hs3 ?_ ?_
   ·rintro w ⟨⟨q0,q1,q2,q3⟩,⟨r0,r1⟩⟩;go_simp
   refine tk 5 (.bool true) rfl hs3 ?_ ?_
   ·rintro w ⟨⟨q0,q1,q2,q3⟩,⟨r0,r1⟩⟩;go_simp
   refine tq 6 rfl hs3 ?_
   refine tq 7 rfl hs3 ?_
   refine tq 8 rfl hs3 ?_
   refine tq 9 rfl hs3 ?_
   refine tq 10 rfl hs3 ?_
   refine tq 11 rfl hs3 ?_
   refine tq 12 rfl hs3 ?_
   refine tk 13 (.bool true) rfl hs3 ?_ ?_
   ·rintro w ⟨⟨q0,q1,q2,q3⟩,⟨r0,r1⟩⟩;go_simp
   refine wpAnyH_done (by kernel_rfl) ?_ _
   simp only [List.getElem_toArray,List.getElem_cons_succ,List.getElem_cons_zero,Act.put,List.setIfInBounds_toArray,List.set_cons_zero,List.set_cons_succ]
   have HFIN:=hideL (HBW.out W3 c3)
   clear c3 hs0 hs3
   go_wp2_with fail
   go_ret
   exact ⟨rfl,HFIN.out⟩
  | true=>
   refine tk 4 (.bool false) rfl hs3 ?_ ?_
   ·rintro w ⟨⟨q0,q1,q2,q3⟩,⟨r0,r1⟩⟩;go_simp
   refine tk 5 (.bool false) rfl hs3 ?_ ?_
   ·rintro w ⟨⟨q0,q1,q2,q3⟩,⟨r0,r1⟩⟩;go_simp
   refine tk 6 (.pointer (some ⟨B,0,none⟩)) rfl hs3 ?_ ?_
   ·rintro w ⟨⟨q0,q1,q2,q3⟩,⟨r0,r1⟩⟩;go_simp
   refine tk 7 (.int .i64 bits) rfl hs3 ?_ ?_
   ·rintro w ⟨⟨q0,q1,q2,q3⟩,⟨r0,r1⟩⟩;go_simp
   refine tk 9 (.pointer (some ⟨b2,1,none⟩)) rfl hs3 ?_ ?_
   ·rintro w ⟨⟨q0,q1,q2,q3⟩,⟨r0,r1⟩⟩;go_simp
   refine tk 10 (.string ⟨h.toArray⟩) rfl hs3 ?_ ?_
   ·rintro w ⟨⟨q0,q1,q2,q3⟩,⟨r0,r1⟩⟩;go_simp
   refine rd 8 rfl fun KK hKK=>?_
   go_simp
   refine (HAL.out _).mono ?_
   rintro en W4 ⟨rfl,c4⟩
   replace c4:Below W1.heap.size W1 W4:=bel0Z c3 c4
   have hs4:=HC.out W4 c4
   go_simp
   refine hKK.out _ _ hs4 (fun _=>?_)
   clear hKK KK
   refine rd 11 rfl fun KK hKK=>?_
   go_simp
   refine (HHA.out _).mono ?_
   rintro en W5 ⟨rfl,c5⟩
   replace c5:Below W1.heap.size W1 W5:=bel0Z c4 c5
   have hs5:=HC.out W5 c5
   go_simp
   refine hKK.out _ _ hs5 (fun _=>?_)
   clear hKK KK
   refine tk 12 (.bool (!hb9)) rfl hs5 ?_ ?_
   ·rintro w ⟨⟨q0,q1,q2,q3⟩,⟨r0,r1⟩⟩;go_simp
   refine tk 13 (.bool (!hb9)) rfl hs5 ?_ ?_
   ·rintro w ⟨⟨q0,q1,q2,q3⟩,⟨r0,r1⟩⟩;go_simp
   refine wpAnyH_done (by kernel_rfl) ?_ _
   simp only [List.getElem_toArray,List.getElem_cons_succ,List.getElem_cons_zero,Act.put,List.setIfInBounds_toArray,List.set_cons_zero,List.set_cons_succ]
   have HFIN:=hideL (HBW.out W5 c5)
   clear c3 c4 c5 hs0 hs3 hs4 hs5
   cases hb9 with
   | true=>
    have hR9:R=0:=HR.out
    subst hR9
    go_wp2_with fail
    go_ret
    exact ⟨rfl,HFIN.out⟩
   | false=>
    have hR9:R=100:=HR.out
    subst hR9
    go_wp2_with fail
    go_ret
    exact ⟨rfl,HFIN.out⟩
theorem nxt_st {n:NN} {s:Int×List UInt8} (hV:NetP n) (hs:StP n s):(nxtM n s).2.length≤8∧∀ o∈(nxtM n s).2,StP n o:=by
 obtain ⟨h0,h1,h2⟩:=hs
 have hov:∀ o:Int×List UInt8,StP n o→∀ o'∈ovS n o,StP n o':=fun o ho o' ho'=>by
  unfold ovS at ho'
  split at ho'
  ·obtain rfl:o'=_:=by simpa using ho'
   obtain ⟨-,hx2⟩:=hV.port ho.1 ho.2.1
   rcases hx2.2.2.2 with e | ⟨-,e1,e2,-⟩
   ·rename_i h9;rw [e] at h9;omega
   ·exact ⟨e1,e2,ho.2.2⟩
  ·simp at ho'
 obtain ⟨a1,a2⟩:=apl_st hV h0 h1 h2
 by_cases hi:(portAt n s.1).inn=true
 ·obtain ⟨k0,L0,hkl⟩:∃ k L,aplM n s=(k,L):=⟨_,_,rfl⟩
  rw [hkl] at a1 a2
  simp only at a1 a2
  rw [nx_in hi hkl]
  refine ⟨?_,fun o ho=>?_⟩
  ·have key:∀ L:List (Int×List UInt8),(L.flatMap (nxF n)).length≤2*L.length:=by
    intro L
    induction L with
    | nil=>simp
    | cons o L ih=>
     rw [List.flatMap_cons,List.length_append]
     have:=ov_le n o
     simp only [nxF,List.length_cons]
     omega
   have:=key L0
   show (L0.flatMap (nxF n)).length≤8
   omega
  ·obtain ⟨o2,h3,h4⟩:=List.mem_flatMap.1 ho
   rcases List.mem_cons.1 h4 with e | h5
   ·rw [e];exact a2 o2 h3
   ·exact hov o2 (a2 o2 h3) o h5
 ·rw [nx_out (by simpa using hi)]
  exact ⟨Nat.le_trans (ov_le n s) (by omega),fun o ho=>hov s ⟨h0,h1,h2⟩ o ho⟩
noncomputable def nxE (n:NN) (s:Int×List UInt8):Int:=if chkM n s=0 then (nxtM n s).1 else 0
noncomputable def nxL (n:NN) (s:Int×List UInt8):List (Int×List UInt8):=if chkM n s=0 then (nxtM n s).2 else []
theorem chk_yes {n:NN} {s:Int×List UInt8} (h1:NetP n) (h2:StP n s):chkM n s=0:=by unfold chkM;rw [if_pos (pb_yes h1),if_pos (pb_yes h2)]
theorem chk_no {n:NN} {s:Int×List UInt8} (h:¬(NetP n∧StP n s)):chkM n s≠0:=by
 unfold chkM
 by_cases h1:NetP n
 ·rw [if_pos (pb_yes h1),pb_no (fun h2=>h ⟨h1,h2⟩),if_neg Bool.false_ne_true];decide
 ·rw [pb_no h1,if_neg Bool.false_ne_true];decide
def SNQ (n:NN) (s:Int×List UInt8) (w:World) (e:Ending) (w':World):Prop:=∃ q c,e=.returned (.tuple #[.int .i64 (nxE n s),.slice q (nxL n s).length c,.int .i64 (chkM n s)])∧w'.ownsRow w.heap.size 28 2 (.slice q (nxL n s).length c) (nxL n s).length ((nxL n s).flatMap asC)∧Below w.heap.size w w'
theorem snq_no {n:NN} {s:Int×List UInt8} {w w':World} {R:Int} (h:chkM n s=R) (h0:R≠0) (hb:Below w.heap.size w w'):SNQ n s w (.returned (.tuple #[.int .i64 0,.slice none 0 0,.int .i64 R])) w':=by
 have e1:nxE n s=0:=by unfold nxE;rw [if_neg (by rw [h];exact h0)]
 have e2:nxL n s=[]:=by unfold nxL;rw [if_neg (by rw [h];exact h0)]
 refine ⟨none,0,by rw [e1,e2,h];rfl,?_,hb⟩
 rw [e2]
 exact World.ownsRow_nil _ _ _ _
theorem snq_yes {n:NN} {s:Int×List UInt8} {w w':World} {num:Int} {L:List (Int×List UInt8)} {q:Option Addr} {m c:Nat} (h:chkM n s=0) (hn:nxtM n s=(num,L)) (hm:L.length=m) (ho:w'.ownsRow w.heap.size 28 2 (.slice q m c) m (L.flatMap asC)) (hb:Below w.heap.size w w'):SNQ n s w (.returned (.tuple #[.int .i64 num,.slice q m c,.int .i64 0])) w':=by
 have e1:nxE n s=num:=by unfold nxE;rw [if_pos h,hn]
 have e2:nxL n s=L:=by unfold nxL;rw [if_pos h,hn]
 subst hm
 refine ⟨q,c,by rw [e1,e2,h],?_,hb⟩
 rw [e2]
 exact ho
theorem info_as:(Tryz.prog.info? 28).map (fun i=>(i.zero,i.size,i.bytes))=some (some (.agg #[.int .i64 0,.string ⟨#[]⟩]),2,24):=by kernel_rfl
theorem pushA {W:World} {B:Nat} {p:Option Addr} {n n9 c:Nat} {L:List (Int×List UInt8)} {x:Int} {t:List UInt8} (h:W.ownsRow B 28 2 (.slice p n c) n (L.flatMap asC)) (hB:B≤W.heap.size) (hn:n+1=n9) (hO:n9*24≤140737488355328) :
  ∃ q c9 W9,(Builtin.append_ #[29,29] 29 #[.slice p n c,.slice (some ⟨W.heap.size,0,none⟩) 1 1]).run Tryz.prog (W.alloc (.cells #[.int .i64 x,.string ⟨t.toArray⟩] 28 (0,0)))=.ok (.slice q n9 c9) W9∧W9.ownsRow B 28 2 (.slice q n9 c9) n9 ((L++[(x,t)]).flatMap asC)∧Below B W W9∧(∀ b o,W.heap[b]?=some o→(Value.slice p n c).ownBlock≠some b→W9.heap[b]?=some o)∧(∀ b,(Value.slice q n9 c9).ownBlock=some b→(Value.slice p n c).ownBlock=some b∨W.heap.size≤b):=by
 subst hn
 obtain ⟨i0,hi,hz0,hz1,hz2⟩:=info_parts info_as
 obtain ⟨q,c9,W9,hr,o9,b9,kp,kq⟩:=pushR9 (W:=W) (TS:=29) (cs:=(asC (x,t)).toArray) Tryz.underlying29 hi hz0 hz1 hz2 rfl (by decide) h hB rfl (fun u hu=>asC_one (x,t) u (by simpa using hu)) hO (by omega)
 refine ⟨q,c9,W9,hr,?_,b9,kp,kq⟩
 rw [List.flatMap_append]
 simpa using o9
set_option maxRecDepth 100000 in
set_option maxHeartbeats 16000000 in
theorem snext_any (n:NN) (v:NV) (p:Int) (h:List UInt8) (w:World) (hN:LN w n v) (hO:okN n) (hT:TAB w) (hh:okS h) :
  Calls Tryz.prog 8 #[.agg (nnA n v),.agg (asC (p,h)).toArray] w (SNQ n (p,h) w):=by
 have hck:=fun (U:World) (hU:Below w.heap.size w U)=>check_any n v p h U (hN.below hU) hO (hT.at hU) hh
 have hso:=fun (U:World)=>stateOf_any p h U hh
 have hrd:=fun (hV:NetP n) (U:World) (hU:Below w.heap.size w U)=>read_any n v n.ports.length n.tabs.length n.grds.length U (hN.below hU) hO hV rfl rfl rfl
 have hnx:=fun (hV:NetP n) (hS:StP n (p,h)) (x:NV) (U:World) (hW:NW U n x)=>next_any n x n.ports.length n.tabs.length n.grds.length p h U hW hV hS.1 hS.2.1 hS.2.2 rfl rfl rfl
 rw [show (asC (p,h)).toArray=#[.int .i64 p,.string ⟨h.toArray⟩] from rfl]
 obtain ⟨pp,cp,pt,ct,pg,cg⟩:=v
 unfold nnA at hck ⊢
 simp only at hck hrd ⊢
 obtain ⟨np,hnp⟩:∃ k,n.ports.length=k:=⟨_,rfl⟩
 obtain ⟨nt,hnt⟩:∃ k,n.tabs.length=k:=⟨_,rfl⟩
 obtain ⟨ng,hng⟩:∃ k,n.grds.length=k:=⟨_,rfl⟩
 obtain ⟨bits,hbits⟩:∃ b,n.bits=b:=⟨_,rfl⟩
 rw [hnp,hnt,hng] at hck hrd hnx ⊢
 rw [hbits] at hck hrd ⊢
 obtain ⟨R,hR⟩:∃ R,chkM n (p,h)=R:=⟨_,rfl⟩
 rw [hR] at hck
 obtain ⟨B,hB⟩:∃ B,w.heap.size=B:=⟨_,rfl⟩
 obtain ⟨b2,hb2⟩:∃ b2,w.heap.size+1=b2:=⟨_,rfl⟩
 obtain ⟨W1,hW1⟩:∃ W1,(w.alloc (.cells #[.int .i64 bits,.slice pp np cp,.slice pt nt ct,.slice pg ng cg] 26)).alloc (.cells #[.int .i64 p,.string ⟨h.toArray⟩] 28)=W1:=⟨_,rfl⟩
 have hz2:(w.alloc (.cells #[.int .i64 bits,.slice pp np cp,.slice pt nt ct,.slice pg ng cg] 26)).heap.size=w.heap.size+1:=Array.size_push _
 have b1:Below w.heap.size w W1:=by rw [←hW1];exact belAZ (belAZ (Below.refl _ _) _) _
 have k1:W1.heap[B]?=some (.cells #[.int .i64 bits,.slice pp np cp,.slice pt nt ct,.slice pg ng cg] 26 (0,0)):=by rw [←hW1,←hB];exact keepZ (belAZ (Below.refl _ _) _) (alloc_getZ _ _)
 have k2:W1.heap[b2]?=some (.cells #[.int .i64 p,.string ⟨h.toArray⟩] 28 (0,0)):=by rw [←hW1,←hb2,←hz2];exact alloc_getZ _ _
 have HC:Hid (∀ U,Below W1.heap.size W1 U→(U.cell? ⟨B,0,none⟩=some (.int .i64 bits)∧U.cell? ⟨B,1,none⟩=some (.slice pp np cp)∧U.cell? ⟨B,2,none⟩=some (.slice pt nt ct)∧U.cell? ⟨B,3,none⟩=some (.slice pg ng cg))∧(U.cell? ⟨b2,0,none⟩=some (.int .i64 p)∧U.cell? ⟨b2,1,none⟩=some (.string ⟨h.toArray⟩))):=fun U hU=>by
  have e1:=(cellsZ (keepZ hU k1)).1
  have e2:=(cellsZ (keepZ hU k2)).1
  exact ⟨⟨by rw [e1];rfl,by rw [e1];rfl,by rw [e1];rfl,by rw [e1];rfl⟩,⟨by rw [e2];rfl,by rw [e2];rfl⟩⟩
 have HCK:Hid (Calls Tryz.prog 25 #[.agg #[.int .i64 bits,.slice pp np cp,.slice pt nt ct,.slice pg ng cg],.agg #[.int .i64 p,.string ⟨h.toArray⟩]] W1 fun e w'=>e=.returned (.int .i64 R)∧Below W1.heap.size W1 w'):=hck W1 b1
 have HV:Hid (okN n∧chkM n (p,h)=R):=⟨hO,hR⟩
 have HSO:Hid (∀ U:World,Calls Tryz.prog 28 #[.agg #[.int .i64 p,.string ⟨h.toArray⟩]] U fun e w'=>e=.returned (.agg (stC (p,Tn.cubeT h)).toArray)∧Below U.heap.size U w'):=hso
 have HRD:Hid (NetP n→∀ U,Below W1.heap.size W1 U→Calls Tryz.prog 26 #[.agg #[.int .i64 bits,.slice pp np cp,.slice pt nt ct,.slice pg ng cg]] U (RDQ n np nt ng U)):=fun hV U hU=>hrd hV U (bel0Z b1 hU)
 have HNX:Hid (NetP n→StP n (p,h)→∀ (x:NV) (U:World),NW U n x→Calls Tryz.prog 27 #[.agg #[.slice x.pp np x.cp,.slice x.pt nt x.ct,.slice x.pg ng x.cg],.agg (stC (p,h)).toArray] U (NXQ n (p,h) U)):=hnx
 have HB:=hideL hB
 have HB2:=hideL hb2
 have HW1:=hideL hW1
 have HBW:Hid (∀ U,Below W1.heap.size W1 U→Below w.heap.size w U):=fun U hU=>bel0Z b1 hU
 have HSZ:Hid (w.heap.size≤W1.heap.size):=b1.size
 obtain ⟨⟨q0,q1,q2,q3⟩,⟨r0,r1⟩⟩:=HC.out W1 (Below.refl _ _)
 clear hN hO hT hh hck hso hrd hnx hnp hnt hng hbits hR hB hb2 hW1 hz2 b1 k1 k2
 go_enter Tryz.func8,Tryz.ntmps8
 go_upto_region 1 with fail
 rw [HW1.out,HB2.out,HB.out]
 go_wp2_with fail
 refine (HCK.out).mono ?_
 rintro e W2 ⟨rfl,c2⟩
 clear q0 q1 q2 q3 r0 r1
 by_cases hP:NetP n∧StP n (p,h)
 ·have hR0:R=0:=by rw [←HV.out.2];exact chk_yes hP.1 hP.2
  subst hR0
  obtain ⟨a0,a1,a2,a3,a4,a5,a6,a7,a8,h9⟩:=c9_ex h
  have HST:Hid (∀ U:World,Calls Tryz.prog 28 #[.agg #[.int .i64 p,.string ⟨h.toArray⟩]] U fun e w'=>e=.returned (.agg #[.int .i64 p,.int .i64 a0,.int .u64 a1,.int .u64 a2,.int .u64 a3,.int .u64 a4,.int .u64 a5,.int .u64 a6,.int .u64 a7,.int .u64 a8])∧Below U.heap.size U w'):=fun U=>by
   have hh:=HSO.out U
   rw [cubeP_T (hdP_cube hP.2.2.2) hP.1.bits.1 hP.1.bits.2,stC_arr h9] at hh
   exact hh
  have HRD:=hideL (HRD.out hP.1)
  have HNX:Hid (∀ (x:NV) (U:World),NW U n x→Calls Tryz.prog 27 #[.agg #[.slice x.pp np x.cp,.slice x.pt nt x.ct,.slice x.pg ng x.cg],.agg #[.int .i64 p,.int .i64 a0,.int .u64 a1,.int .u64 a2,.int .u64 a3,.int .u64 a4,.int .u64 a5,.int .u64 a6,.int .u64 a7,.int .u64 a8]] U (NXQ n (p,h) U)):=by
   have hh:=HNX.out hP.1 hP.2
   rw [stC_arr h9] at hh
   exact hh
  obtain ⟨num,L,hNL⟩:∃ num L,nxtM n (p,h)=(num,L):=⟨_,_,rfl⟩
  obtain ⟨N,hN⟩:∃ N,L.length=N:=⟨_,rfl⟩
  obtain ⟨hst1,hst2⟩:=nxt_st hP.1 hP.2
  rw [hNL] at hst1 hst2
  simp only at hst1 hst2
  have HX:Hid (nxtM n (p,h)=(num,L)∧L.length=N∧N≤8∧(∀ o∈L,StP n o)∧NetP n):=⟨hNL,hN,by omega,hst2,hP.1⟩
  have hN7:N≤140737488351232:=by have:=HX.out.2.2.1;omega
  have hs0:=HC.out W2.drew (bel0Z c2 (Below.refl _ _).drew)
  have HC2:=hideL (bel0Z c2 (Below.refl _ _).drew)
  clear HSO hP h9 hNL hN hst1 hst2 c2
  go_upto_region 4 with fail
  go_cut [8,9] from 19 to 26 (fun v8 v9 wx=>∃ (q:Option Addr) (c:Nat),v8=.int .i64 num∧v9=.slice q N c∧Hid (RowL 10 stC wx q L∧Below W1.heap.size W1 wx))
  case first=>
   refine wp_region_held_drew (S:=fun U=>(U.cell? ⟨B,0,none⟩=some (.int .i64 bits)∧U.cell? ⟨B,1,none⟩=some (.slice pp np cp)∧U.cell? ⟨B,2,none⟩=some (.slice pt nt ct)∧U.cell? ⟨B,3,none⟩=some (.slice pg ng cg))∧(U.cell? ⟨b2,0,none⟩=some (.int .i64 p)∧U.cell? ⟨b2,1,none⟩=some (.string ⟨h.toArray⟩))) (by kernel_rfl) hs0 (fun _=>?_)
   refine tk 0 (.agg #[.int .i64 bits,.slice pp np cp,.slice pt nt ct,.slice pg ng cg]) rfl hs0 ?_ ?_
   ·rintro w ⟨⟨q0,q1,q2,q3⟩,⟨r0,r1⟩⟩;go_simp
   refine tk 2 (.agg #[.int .i64 p,.string ⟨h.toArray⟩]) rfl hs0 ?_ ?_
   ·rintro w ⟨⟨q0,q1,q2,q3⟩,⟨r0,r1⟩⟩;go_simp
   refine rd 1 rfl fun KK hKK=>?_
   go_simp
   refine (HRD.out _ HC2.out).mono ?_
   rintro en W3 ⟨p1,c1,p2,c2,p3,c3,rfl,hw3,b3⟩
   have d3:Below W1.heap.size W1 W3:=bel0Z HC2.out b3
   have hs3:=HC.out W3 d3
   go_simp
   refine hKK.out _ _ hs3 (fun _=>?_)
   clear hKK KK
   refine rd 3 rfl fun KK hKK=>?_
   go_simp
   refine (HST.out _).mono ?_
   rintro en W4 ⟨rfl,b4⟩
   have hw4:=hw3.below b4
   have d4:Below W1.heap.size W1 W4:=bel0Z d3 b4
   have hs4:=HC.out W4 d4
   clear hw3 b3 b4 d3
   go_simp
   refine hKK.out _ _ hs4 (fun _=>?_)
   clear hKK KK
   refine rd 4 rfl fun KK hKK=>?_
   go_simp
   refine (HNX.out _ _ hw4).mono ?_
   rintro en W5 ⟨q,c,rfl,ho,b5⟩
   rw [HX.out.1] at ho ⊢
   simp only at ho ⊢
   rw [HX.out.2.1] at ho ⊢
   have d5:Below W1.heap.size W1 W5:=bel0Z d4 b5
   have hs5:=HC.out W5 d5
   have HQ:Hid (RowL 10 stC W5 q L∧Below W1.heap.size W1 W5):=⟨own_rowL stC_len ho HX.out.2.1,d5⟩
   clear ho b5 d5
   go_simp
   refine hKK.out _ _ hs5 (fun _=>?_)
   clear hKK KK
   refine tk 5 (.tuple #[.int .i64 num,.slice q N c]) rfl hs5 ?_ ?_
   ·rintro w ⟨⟨q0,q1,q2,q3⟩,⟨r0,r1⟩⟩;go_simp
   refine tk 6 (.int .i64 num) rfl hs5 ?_ ?_
   ·rintro w ⟨⟨q0,q1,q2,q3⟩,⟨r0,r1⟩⟩;go_simp
   refine tk 7 (.slice q N c) rfl hs5 ?_ ?_
   ·rintro w ⟨⟨q0,q1,q2,q3⟩,⟨r0,r1⟩⟩;go_simp
   refine tk 8 (.int .i64 num) rfl hs5 ?_ ?_
   ·rintro w ⟨⟨q0,q1,q2,q3⟩,⟨r0,r1⟩⟩;go_simp
   refine tk 9 (.slice q N c) rfl hs5 ?_ ?_
   ·rintro w ⟨⟨q0,q1,q2,q3⟩,⟨r0,r1⟩⟩;go_simp
   refine wpAnyH_done (by kernel_rfl) ?_ _
   simp only [List.getElem_toArray,List.getElem_cons_succ,List.getElem_cons_zero,Act.put,List.setIfInBounds_toArray,List.set_cons_zero,List.set_cons_succ]
   clear hs0 hs3 hs4 hs5
   go_wp2_with fail
   go_meet
   exact ⟨q,c,rfl,rfl,HQ⟩
  case rest=>
   obtain ⟨q,c,rfl,rfl,HQ⟩:=hcut
   clear hs0
   go_wp2_with fail
   have HR:Hid (∀ U,Below wc.heap.size wc U→RowL 10 stC U q L∧Below W1.heap.size W1 U):=fun U hU=>⟨HQ.out.1.below hU,bel0Z HQ.out.2 hU⟩
   have HSZ3:Hid (W1.heap.size≤wc.heap.size):=HQ.out.2.size
   clear HQ
   go_loopw [10,29] (fun v10 vk wr=>∃ (k:Nat) (q:Option Addr) (c:Nat),v10=.slice q k c∧vk=.int .i64 (k:Int)∧k≤N∧Hid (wr.ownsRow wc.heap.size 28 2 (.slice q k c) k ((L.take k).flatMap asC)∧Below wc.heap.size wc wr)) (fun _ vk _=>N - (intOf vk).toNat)
   case atStart=>exact ⟨0,none,0,rfl,rfl,Nat.zero_le _,World.ownsRow_nil _ _ _ _,Below.refl _ _⟩
   case round=>
    obtain ⟨k,q5,c5,rfl,rfl,hk,HS⟩:=hrel
    obtain ⟨hrow,hb⟩:=HR.out wr HS.out.2
    by_cases hlt:k < N
    ·obtain ⟨o,hx⟩:∃ o,L[k]?=some o:=⟨_,List.getElem?_eq_getElem (by have:=HX.out.2.1;omega)⟩
     obtain ⟨x,t⟩:=o
     obtain ⟨gr,orr,e9,hcx⟩:=hrow k (x,t) hx
     subst e9
     obtain ⟨d0,d1,d2,d3,d4,d5,d6,d7,d8,h8⟩:=c9_ex t
     have hcx9:∀ (i:Nat) (v:Value),([.int .i64 x,.int .i64 d0,.int .u64 d1,.int .u64 d2,.int .u64 d3,.int .u64 d4,.int .u64 d5,.int .u64 d6,.int .u64 d7,.int .u64 d8]:List Value)[i]?=some v→wr.cell? ⟨gr,orr+k*10+i,none⟩=some v:=fun i v hv=>hcx i v (by unfold stC;rw [show cubC (x,t).2=_ from h8];exact hv)
     have u0:=hcx9 0 _ rfl
     have u1:=hcx9 1 _ rfl
     have u2:=hcx9 2 _ rfl
     have u3:=hcx9 3 _ rfl
     have u4:=hcx9 4 _ rfl
     have u5:=hcx9 5 _ rfl
     have u6:=hcx9 6 _ rfl
     have u7:=hcx9 7 _ rfl
     have u8:=hcx9 8 _ rfl
     have u9:=hcx9 9 _ rfl
     rw [Nat.add_zero] at u0
     have hgt:Tn.good t=true:=cubeP_good (hdP_cube (HX.out.2.2.2.1 (x,t) (List.mem_of_getElem? hx)).2.2) HX.out.2.2.2.2.bits.2
     have HT9:Hid (∀ U:World,Calls Tryz.prog 29 #[.agg #[.int .i64 d0,.int .u64 d1,.int .u64 d2,.int .u64 d3,.int .u64 d4,.int .u64 d5,.int .u64 d6,.int .u64 d7,.int .u64 d8]] U fun e w'=>e=.returned (.string ⟨t.toArray⟩)∧Below U.heap.size U w'):=fun U=>by
      have h9:=Tn.text_any t U hgt
      rw [h8.agg] at h9
      exact h9
     obtain ⟨k9,hk9⟩:∃ k9,k+1=k9:=⟨_,rfl⟩
     obtain ⟨W4,hW4⟩:∃ W4,wr.alloc (Obj.cells #[.int .i64 x,.int .i64 d0,.int .u64 d1,.int .u64 d2,.int .u64 d3,.int .u64 d4,.int .u64 d5,.int .u64 d6,.int .u64 d7,.int .u64 d8] 81)=W4:=⟨_,rfl⟩
     have b4:Below wr.heap.size wr W4:=by rw [←hW4];exact belAZ (Below.refl _ _) _
     obtain ⟨rb,hrb⟩:∃ rb,wr.heap.size=rb:=⟨_,rfl⟩
     have s4:W4.heap[rb]?=some (.cells #[.int .i64 x,.int .i64 d0,.int .u64 d1,.int .u64 d2,.int .u64 d3,.int .u64 d4,.int .u64 d5,.int .u64 d6,.int .u64 d7,.int .u64 d8] 81 (0,0)):=by rw [←hW4,←hrb];exact alloc_getZ _ _
     have HCX:Hid (∀ U:World,U.heap[rb]?=some (.cells #[.int .i64 x,.int .i64 d0,.int .u64 d1,.int .u64 d2,.int .u64 d3,.int .u64 d4,.int .u64 d5,.int .u64 d6,.int .u64 d7,.int .u64 d8] 81 (0,0))→U.cell? ⟨rb,0,none⟩=some (.int .i64 x)∧U.cell? ⟨rb,1,none⟩=some (.int .i64 d0)∧U.cell? ⟨rb,2,none⟩=some (.int .u64 d1)∧U.cell? ⟨rb,3,none⟩=some (.int .u64 d2)∧U.cell? ⟨rb,4,none⟩=some (.int .u64 d3)∧U.cell? ⟨rb,5,none⟩=some (.int .u64 d4)∧U.cell? ⟨rb,6,none⟩=some (.int .u64 d5)∧U.cell? ⟨rb,7,none⟩=some (.int .u64 d6)∧U.cell? ⟨rb,8,none⟩=some (.int .u64 d7)∧U.cell? ⟨rb,9,none⟩=some (.int .u64 d8)):=fun U hU=>by
      have e1:=(cellsZ hU).1
      exact ⟨by rw [e1];rfl,by rw [e1];rfl,by rw [e1];rfl,by rw [e1];rfl,by rw [e1];rfl,by rw [e1];rfl,by rw [e1];rfl,by rw [e1];rfl,by rw [e1];rfl,by rw [e1];rfl⟩
     have hne:∀ kq,(Value.slice q5 k c5).ownBlock=some kq→kq < rb:=fun kq e=>by rw [←hrb];exact (World.ownsRow.lt HS.out.1 kq e).2
     have HN4:Hid (∀ U,Below W4.heap.size W4 U→Below wc.heap.size wc U∧Below wr.heap.size wr U∧U.heap[rb]?=some (.cells #[.int .i64 x,.int .i64 d0,.int .u64 d1,.int .u64 d2,.int .u64 d3,.int .u64 d4,.int .u64 d5,.int .u64 d6,.int .u64 d7,.int .u64 d8] 81 (0,0))):=fun U hU=>⟨bel0Z HS.out.2 (bel0Z b4 hU),bel0Z b4 hU,keepZ hU s4⟩
     have HX7:Hid (L[k]?=some (x,t)∧k+1=k9∧(∀ kq,(Value.slice q5 k c5).ownBlock=some kq→kq < rb)):=⟨hx,hk9,hne⟩
     have hs0:=HCX.out W4.drew (keepZ (Below.refl _ _).drew s4)
     have HW4:=hideL hW4
     have HRB:=hideL hrb
     have j2:(0:Int)≤(k:Int):=by omega
     have j3:(k:Int) < (N:Int):=by omega
     clear hrow hb hx hcx hcx9 h8 hgt hk9 hW4 b4 hrb s4 hne
     go_upto_region 9 with fail
     rw [HW4.out,HRB.out]
     clear u0 u1 u2 u3 u4 u5 u6 u7 u8 u9
     refine wp_region_held_drew (S:=fun U=>U.cell? ⟨rb,0,none⟩=some (.int .i64 x)∧U.cell? ⟨rb,1,none⟩=some (.int .i64 d0)∧U.cell? ⟨rb,2,none⟩=some (.int .u64 d1)∧U.cell? ⟨rb,3,none⟩=some (.int .u64 d2)∧U.cell? ⟨rb,4,none⟩=some (.int .u64 d3)∧U.cell? ⟨rb,5,none⟩=some (.int .u64 d4)∧U.cell? ⟨rb,6,none⟩=some (.int .u64 d5)∧U.cell? ⟨rb,7,none⟩=some (.int .u64 d6)∧U.cell? ⟨rb,8,none⟩=some (.int .u64 d7)∧U.cell? ⟨rb,9,none⟩=some (.int .u64 d8)) (by kernel_rfl) hs0 (fun _=>?_)
     refine tk 0 (.slice q5 k c5) rfl hs0 ?_ ?_
     ·rintro w ⟨x0,x1,x2,x3,x4,x5,x6,x7,x8,x9⟩;go_simp
     refine tk 1 (.pointer (some ⟨rb,0,none⟩)) rfl hs0 ?_ ?_
     ·rintro w ⟨x0,x1,x2,x3,x4,x5,x6,x7,x8,x9⟩;go_simp
     refine tk 2 (.int .i64 x) rfl hs0 ?_ ?_
     ·rintro w ⟨x0,x1,x2,x3,x4,x5,x6,x7,x8,x9⟩;go_simp
     refine tk 3 (.pointer (some ⟨rb,1,none⟩)) rfl hs0 ?_ ?_
     ·rintro w ⟨x0,x1,x2,x3,x4,x5,x6,x7,x8,x9⟩;go_simp
     refine tk 4 (.agg #[.int .i64 d0,.int .u64 d1,.int .u64 d2,.int .u64 d3,.int .u64 d4,.int .u64 d5,.int .u64 d6,.int .u64 d7,.int .u64 d8]) rfl hs0 ?_ ?_
     ·rintro w ⟨x0,x1,x2,x3,x4,x5,x6,x7,x8,x9⟩;go_simp
     refine rd 5 rfl fun KK hKK=>?_
     go_simp
     refine (HT9.out _).mono ?_
     rintro en W5 ⟨rfl,b5⟩
     have dd5:Below W4.heap.size W4 W5:=bel0Z (Below.refl _ _).drew b5
     obtain ⟨c5',e5',s5⟩:=HN4.out W5 dd5
     have hs5:=HCX.out W5 s5
     clear b5
     go_simp
     refine hKK.out _ _ hs5 (fun _=>?_)
     clear hKK KK
     refine tk 6 (.agg #[.int .i64 x,.string ⟨t.toArray⟩]) rfl hs5 ?_ ?_
     ·rintro w ⟨x0,x1,x2,x3,x4,x5,x6,x7,x8,x9⟩;go_simp
     obtain ⟨q7,c7,W7,hr7,o7,b7,kp7,-⟩:=pushA (W:=W5) (x:=x) (t:=t) (own_belZ HS.out.1 e5') c5'.size HX7.out.2.1 (by have:=HX.out.2.2.1;have:=HX7.out.2.1;omega)
     obtain ⟨W6,hW6⟩:∃ W6,W5.alloc (.cells #[.int .i64 x,.string ⟨t.toArray⟩] 28 (0,0))=W6:=⟨_,rfl⟩
     obtain ⟨rs,hrs⟩:∃ rs,W5.heap.size=rs:=⟨_,rfl⟩
     have dd6:Below W4.heap.size W4 W6:=by rw [←hW6];exact belAZ dd5 _
     have hs6:=HCX.out W6 (HN4.out W6 dd6).2.2
     have s7:W7.heap[rb]?=some (.cells #[.int .i64 x,.int .i64 d0,.int .u64 d1,.int .u64 d2,.int .u64 d3,.int .u64 d4,.int .u64 d5,.int .u64 d6,.int .u64 d7,.int .u64 d8] 81 (0,0)):=kp7 rb _ s5 (fun e=>by have:=HX7.out.2.2 _ e;omega)
     have hs7:=HCX.out W7 s7
     rw [hW6,hrs] at hr7
     have HW6:=hideL hW6
     have HRS:=hideL hrs
     have HS9:Hid (W7.ownsRow wc.heap.size 28 2 (.slice q7 k9 c7) k9 ((L.take k9).flatMap asC)∧Below wc.heap.size wc W7):=by
      refine ⟨?_,c5'.trans b7⟩
      rw [←HX7.out.2.1,List.take_add_one,HX7.out.1]
      rw [←HX7.out.2.1] at o7
      exact o7
     clear o7 b7 kp7 hW6 hrs dd5 dd6 c5' e5' s5 s7
     refine rd 7 rfl fun KK hKK=>?_
     go_simp
     rw [HW6.out,HRS.out]
     refine hKK.out _ _ hs6 (fun _=>?_)
     clear hKK KK
     refine rd 8 rfl fun KK hKK=>?_
     refine stepN (by rfl) _ _ _ (by rfl) (by rfl) (by rfl) hr7 ?_
     refine hKK.out _ _ hs7 (fun _=>?_)
     clear hKK KK
     refine tk 9 (.slice q7 k9 c7) rfl hs7 ?_ ?_
     ·rintro w ⟨x0,x1,x2,x3,x4,x5,x6,x7,x8,x9⟩;go_simp
     refine wpAnyH_done (by kernel_rfl) ?_ _
     simp only [List.getElem_toArray,List.getElem_cons_succ,List.getElem_cons_zero,Act.put,List.setIfInBounds_toArray,List.set_cons_zero,List.set_cons_succ]
     clear hs0 hs5 hs6 hs7 hr7
     go_wp2_with fail
     go_roundw
     case rel=>exact ⟨k9,q7,c7,rfl,by rw [←HX7.out.2.1];go_num,by have:=HX7.out.2.1;omega,HS9⟩
     case measure=>have:=HX7.out.2.1;simp [intOf];omega
    ·obtain rfl:k=N:=by omega
     have j3:¬(k:Int) < (k:Int):=by omega
     have HFIN:Hid (SNQ n (p,h) w (.returned (.tuple #[.int .i64 num,.slice q5 k c5,.int .i64 0])) wr):=by
      have h9:=HS.out
      rw [List.take_of_length_le (by have:=HX.out.2.1;omega)] at h9
      exact snq_yes HV.out.2 HX.out.1 HX.out.2.1 (own_baseZ h9.1 (Nat.le_trans HSZ.out HSZ3.out)) (HBW.out wr hb)
     clear hrow hb HS
     go_wp2_with fail
     refine bodyPost_ret (results_tmp3 rfl _ _ _) rfl ?_
     exact HFIN.out
 ·have hR0:R≠0:=by rw [←HV.out.2];exact chk_no hP
  have HFIN:Hid (SNQ n (p,h) w (.returned (.tuple #[.int .i64 0,.slice none 0 0,.int .i64 R])) W2):=snq_no HV.out.2 hR0 (HBW.out W2 c2)
  clear hP c2
  go_wp2_with fail
  refine bodyPost_ret (results_tmp3 rfl _ _ _) rfl ?_
  exact HFIN.out
def IXS (q:Int) (L:List (Int×List UInt8)) (w:World) (e:Ending) (w':World):Prop:=Below w.heap.size w w'∧((e=.returned (.int .i64 (-1))∧L.find? (fun o=>o.1==q)=none)∨∃ (k:Nat) (o:Int×List UInt8),e=.returned (.int .i64 (k:Int))∧L[k]?=some o∧L.find? (fun o=>o.1==q)=some o)
set_option maxRecDepth 100000 in
set_option maxHeartbeats 16000000 in
theorem fol1_any (x:Int) (t:List UInt8) (q:Int) (bv:Nat) (w:World) (hq:w.cell? ⟨bv,0,none⟩=some (.int .i64 q)) :
  Calls Tryz.prog 52 #[.agg (stC (x,t)).toArray,.pointer (some ⟨bv,0,none⟩)] w fun e w'=>e=.returned (.bool (x==q))∧Below w.heap.size w w':=by
 obtain ⟨d0,d1,d2,d3,d4,d5,d6,d7,d8,h9⟩:=c9_ex t
 rw [stC_arr h9]
 obtain ⟨B,hB⟩:∃ B,w.heap.size=B:=⟨_,rfl⟩
 obtain ⟨W1,hW1⟩:∃ W1,w.alloc (.cells #[.int .i64 x,.int .i64 d0,.int .u64 d1,.int .u64 d2,.int .u64 d3,.int .u64 d4,.int .u64 d5,.int .u64 d6,.int .u64 d7,.int .u64 d8] 81)=W1:=⟨_,rfl⟩
 have b1:Below w.heap.size w W1:=by rw [←hW1];exact belAZ (Below.refl _ _) _
 have k1:W1.heap[B]?=some (.cells #[.int .i64 x,.int .i64 d0,.int .u64 d1,.int .u64 d2,.int .u64 d3,.int .u64 d4,.int .u64 d5,.int .u64 d6,.int .u64 d7,.int .u64 d8] 81 (0,0)):=by rw [←hW1,←hB];exact alloc_getZ _ _
 have r0:W1.cell? ⟨B,0,none⟩=some (.int .i64 x):=by rw [(cellsZ k1).1];rfl
 have q0:=keepC b1 hq
 have HFF:=hideL b1
 have HB:=hideL hB
 have HW1:=hideL hW1
 clear h9 hq hB hW1 b1 k1
 go_enter Tryz.func52,Tryz.ntmps52
 go_upto_region 1 with fail
 rw [HW1.out,HB.out]
 go_wp2_with fail
 go_ret
 exact ⟨rfl,HFF.out⟩
set_option maxRecDepth 100000 in
set_option maxHeartbeats 16000000 in
theorem ixs_any (L:List (Int×List UInt8)) (p:Option Addr) (n c:Nat) (q:Int) (bv:Nat) (w:World) (hn:L.length=n) (hL:RowL 10 stC w p L) (hq:w.cell? ⟨bv,0,none⟩=some (.int .i64 q)) (hN:n≤140737488351232) :
  Calls Tryz.prog 51 #[.slice p n c,.func (.func 52) #[] #[.pointer (some ⟨bv,0,none⟩)]] w (IXS q L w):=by
 have HL:Hid (L.length=n∧∀ U,Below w.heap.size w U→RowL 10 stC U p L):=⟨hn,fun U hU=>hL.below hU⟩
 have HF:Hid (∀ (x:Int) (t:List UInt8) (U:World),Below w.heap.size w U→Calls Tryz.prog 52 #[.agg (stC (x,t)).toArray,.pointer (some ⟨bv,0,none⟩)] U fun e w'=>e=.returned (.bool (x==q))∧Below U.heap.size U w'):=fun x t U hU=>fol1_any x t q bv U (keepC hU hq)
 clear hn hL hq
 go_enter Tryz.func51,Tryz.ntmps51
 go_wp2_with fail
 go_loopw [8] (fun vk wr=>∃ k:Nat,vk=.int .i64 (k:Int)∧k≤n∧Hid (Below w.heap.size w wr∧∀ (i:Nat) o,i < k→L[i]?=some o→(o.1==q)=false)) (fun vk _=>n - (intOf vk).toNat)
 case atStart=>exact ⟨0,rfl,Nat.zero_le _,Below.refl _ _,fun i l hi=>by omega⟩
 case round=>
  obtain ⟨k,rfl,hk,HS⟩:=hrel
  by_cases hlt:k < n
  ·obtain ⟨o,hx⟩:∃ o,L[k]?=some o:=⟨_,List.getElem?_eq_getElem (by have:=HL.out.1;omega)⟩
   obtain ⟨x,t⟩:=o
   obtain ⟨g,oo,e9,hcx⟩:=HL.out.2 wr HS.out.1 k _ hx
   subst e9
   obtain ⟨d0,d1,d2,d3,d4,d5,d6,d7,d8,h8⟩:=c9_ex t
   have hcx9:∀ (i:Nat) (v:Value),([.int .i64 x,.int .i64 d0,.int .u64 d1,.int .u64 d2,.int .u64 d3,.int .u64 d4,.int .u64 d5,.int .u64 d6,.int .u64 d7,.int .u64 d8]:List Value)[i]?=some v→wr.cell? ⟨g,oo+k*10+i,none⟩=some v:=fun i v hv=>hcx i v (by unfold stC;rw [show cubC (x,t).2=_ from h8];exact hv)
   have u0:=hcx9 0 _ rfl
   have u1:=hcx9 1 _ rfl
   have u2:=hcx9 2 _ rfl
   have u3:=hcx9 3 _ rfl
   have u4:=hcx9 4 _ rfl
   have u5:=hcx9 5 _ rfl
   have u6:=hcx9 6 _ rfl
   have u7:=hcx9 7 _ rfl
   have u8:=hcx9 8 _ rfl
   have u9:=hcx9 9 _ rfl
   rw [Nat.add_zero] at u0
   have HC:=HF.out x t wr HS.out.1
   rw [stC_arr h8] at HC
   obtain ⟨b,hb⟩:∃ b,(x==q)=b:=⟨_,rfl⟩
   rw [hb] at HC
   have HC:=hideL HC
   have HX:=hideL hx
   have HB:=hideL hb
   have j0:(0:Int)≤(k:Int):=by omega
   have j1:(k:Int) < (n:Int):=by omega
   clear hx hcx hcx9 h8 hb
   go_wp2_with fail
   refine (HC.out).mono ?_
   rintro e W3 ⟨rfl,b3⟩
   have c3:=bel0Z HS.out.1 b3
   clear u0 u1 u2 u3 u4 u5 u6 u7 u8 u9
   cases b with
   | true=>
    have HFIN:Hid (IXS q L w (.returned (.int .i64 (k:Int))) W3):=⟨c3,.inr ⟨k,(x,t),rfl,HX.out,find_hit HX.out HS.out.2 HB.out⟩⟩
    clear b3 c3
    go_wp2_with fail
    go_ret
    exact HFIN.out
   | false=>
    have HS9:Hid (Below w.heap.size w W3∧∀ (i:Nat) o,i < k+1→L[i]?=some o→(o.1==q)=false):=⟨c3,fun i o hi ho=>by
     by_cases e:i=k
     ·subst e;rw [HX.out] at ho;obtain rfl:=Option.some.inj ho;exact HB.out
     ·exact HS.out.2 i o (by omega) ho⟩
    clear b3 c3
    go_wp2_with fail
    go_roundw
    case rel=>exact ⟨k+1,by go_num,by omega,HS9⟩
    case measure=>simp [intOf];omega
  ·obtain rfl:k=n:=by omega
   have j1:¬(k:Int) < (k:Int):=by omega
   have HFIN:Hid (IXS q L w (.returned (.int .i64 (-1))) wr):=⟨HS.out.1,.inl ⟨rfl,find_no (fun i x hx=>HS.out.2 i x (by have:=(List.getElem?_eq_some_iff.1 hx).1;have:=HL.out.1;omega) hx)⟩⟩
   go_wp2_with fail
   go_ret
   exact HFIN.out
def stpS (n:NN) (s:Int×List UInt8):List (Int×List UInt8):=if (portAt n s.1).inn=true then (aplM n s).2 else ovS n s
def folR (n:NN):List Int→Nat→Int×List UInt8→Nat→List UInt8×Int×Int
 | [],_,s,c=>(s.2,(c:Int),0)
 | q :: r,i,s,c=>match (stpS n s).find? (fun o=>o.1==q) with
  | none=>([],(i:Int),101)
  | some o=>folR n r (i+1) o (if (portAt n s.1).inn=true then c+1 else c)
def folM (n:NN) (s:Int×List UInt8) (ports:List Int):List UInt8×Int×Int:=match ports with
 | []=>([],0,101)
 | q :: r=>if q=s.1 then folR n r 1 s 0 else ([],0,101)
theorem stp_in {n:NN} {s:Int×List UInt8} (h:(portAt n s.1).inn=true):stpS n s=(aplM n s).2:=by
 unfold stpS
 rw [if_pos h]
theorem stp_out {n:NN} {s:Int×List UInt8} (h:(portAt n s.1).inn=false):stpS n s=ovS n s:=by
 unfold stpS
 rw [if_neg (by rw [h];exact Bool.false_ne_true)]
theorem fol_step {n:NN} {q:Int} {r:List Int} {i c:Nat} {s:Int×List UInt8} {S:List (Int×List UInt8)} {b:Bool} (hS:stpS n s=S) (hb:(portAt n s.1).inn=b):folR n (q :: r) i s c=(match S.find? (fun o=>o.1==q) with | none=>([],(i:Int),101) | some o=>folR n r (i+1) o (if b=true then c+1 else c)):=by
 subst hS
 subst hb
 rfl
theorem stp_st {n:NN} {s:Int×List UInt8} (hV:NetP n) (hs:StP n s):(stpS n s).length≤4∧∀ o∈stpS n s,StP n o:=by
 unfold stpS
 split
 ·exact apl_st hV hs.1 hs.2.1 hs.2.2
 ·rename_i h9
  have h:=nxt_st hV hs
  rw [nx_out (by simpa using h9)] at h
  exact ⟨Nat.le_trans (ov_le n s) (by omega),h.2⟩
end Go.Proofs.YtbplhianpelmfaaGreatDoor.Nt
