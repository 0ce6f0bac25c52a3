import Derived.Test.YtbplhianpelmfaaGreatDoorYBW
namespace Go.Proofs.YtbplhianpelmfaaGreatDoor.Nt
open Go.RowKit Go.Shelf
theorem cnt_app (n:NN) (L:List Int) (y:Int):cntI n (L++[y])=cntI n L+if (portAt n y).inn=true then 1 else 0:=by
 unfold cntI
 rw [List.filter_append,List.length_append]
 by_cases h:(portAt n y).inn=true
 ·simp [h]
 ·simp [h]
set_option maxRecDepth 100000 in
set_option maxHeartbeats 16000000 in
theorem comes_any (n:NN) (v:NV) (Q:List Int) (p q:Option Addr) (m c m2 c2:Nat) (hd:List UInt8) (x:Int) (w:World) (hP:LP w v.pp n.ports) (hm:Q.length=m) (hl:LI w p Q) (hr:∀ y∈Q,0≤y∧y < (n.ports.length:Int)) (hM:m≤1000) :
  Calls Tryz.prog 21 #[.agg (nnA n v),.agg #[.slice p m c,.slice q m2 c2,.string ⟨hd.toArray⟩],.int .i64 x] w fun e w'=>∃ (a:Int) (k:Nat),COM n Q x a k∧e=.returned (.tuple #[.int .i64 a,.int .i64 (k:Int)])∧Below w.heap.size w w':=by
 obtain ⟨pp,cp,pt,ct,pg,cg⟩:=v
 simp only at hP
 obtain ⟨np,hnp⟩:∃ np,n.ports.length=np:=⟨_,rfl⟩
 obtain ⟨nt,hnt⟩:∃ nt,n.tabs.length=nt:=⟨_,rfl⟩
 obtain ⟨ng,hng⟩:∃ ng,n.grds.length=ng:=⟨_,rfl⟩
 obtain ⟨bits,hbits⟩:∃ bits,n.bits=bits:=⟨_,rfl⟩
 have hE:nnA n ⟨pp,cp,pt,ct,pg,cg⟩=#[.int .i64 bits,.slice pp np cp,.slice pt nt ct,.slice pg ng cg]:=by unfold nnA;rw [hnp,hnt,hng,hbits]
 rw [hE]
 rw [hnp] at hr
 obtain ⟨B,hB⟩:∃ B,w.heap.size=B:=⟨_,rfl⟩
 obtain ⟨b4,hb4⟩:∃ b4,w.heap.size+1=b4:=⟨_,rfl⟩
 obtain ⟨W1,hW1⟩:∃ W1,(w.alloc (.cells #[.int .i64 bits,.slice pp np cp,.slice pt nt ct,.slice pg ng cg] 26)).alloc (.cells #[.slice p m c,.slice q m2 c2,.string ⟨hd.toArray⟩] 52)=W1:=⟨_,rfl⟩
 have hz2:(w.alloc (.cells #[.int .i64 bits,.slice pp np cp,.slice pt nt ct,.slice pg ng cg] 26)).heap.size=w.heap.size+1:=Array.size_push _
 have b1:Below w.heap.size w W1:=by rw [←hW1];exact belAZ (belAZ (Below.refl _ _) _) _
 have k1:W1.heap[B]?=some (.cells #[.int .i64 bits,.slice pp np cp,.slice pt nt ct,.slice pg ng cg] 26 (0,0)):=by rw [←hW1,←hB];exact keepZ (belAZ (Below.refl _ _) _) (alloc_getZ _ _)
 have k2:W1.heap[b4]?=some (.cells #[.slice p m c,.slice q m2 c2,.string ⟨hd.toArray⟩] 52 (0,0)):=by rw [←hW1,←hb4,←hz2];exact alloc_getZ _ _
 have HC:Hid (∀ U,Below W1.heap.size W1 U→(U.cell? ⟨B,1,none⟩=some (.slice pp np cp)∧U.cell? ⟨b4,0,none⟩=some (.slice p m c))∧LI U p Q∧LP U pp n.ports):=fun U hU=>by
  have e1:=(cellsZ (keepZ hU k1)).1
  have e2:=(cellsZ (keepZ hU k2)).1
  exact ⟨⟨by rw [e1];rfl,by rw [e2];rfl⟩,hl.below (bel0Z b1 hU),hP.below (bel0Z b1 hU)⟩
 have HF:Hid (∀ U,Below W1.heap.size W1 U→Below w.heap.size w U):=fun U hU=>bel0Z b1 hU
 have HQ:Hid (Q.length=m∧(∀ y∈Q,0≤y∧y < (np:Int))∧n.ports.length=np):=⟨hm,hr,hnp⟩
 have HB4:=hideL hb4
 have HB1:=hideL hB
 have HW1:=hideL hW1
 clear hP hm hl hr hnp hnt hng hbits hE hB hb4 hW1 hz2 b1 k1 k2
 go_enter Tryz.func21,Tryz.ntmps21
 go_upto_region 1 with fail
 rw [HW1.out,HB4.out,HB1.out]
 obtain ⟨⟨q1,q4⟩,-,-⟩:=HC.out W1 (Below.refl _ _)
 go_wp2_with fail
 clear q1 q4
 go_loopw [8,9] (fun v8 v9 wr=>∃ k e:Nat,v9=.int .i64 (k:Int)∧v8=.int .i64 (e:Int)∧k≤m∧e≤k∧Hid (x ∉ Q.take k∧e=cntI n (Q.take (k - 1))∧Below W1.heap.size W1 wr)) (fun _ v9 _=>m - (intOf v9).toNat)
 case atStart=>exact ⟨0,0,rfl,rfl,Nat.zero_le _,Nat.le_refl _,by simp,rfl,Below.refl _ _⟩
 case round=>
  obtain ⟨k,e,rfl,rfl,hk,he,HB⟩:=hrel
  obtain ⟨⟨q1,q4⟩,hli,hlp⟩:=HC.out wr HB.out.2.2
  by_cases hlt:k < m
  ·obtain ⟨y,hy⟩:∃ y,Q[k]?=some y:=⟨_,List.getElem?_eq_getElem (by have:=HQ.out.1;omega)⟩
   obtain ⟨g1,o1,rfl,a0⟩:=hli k y hy
   have j0:(0:Int)≤(k:Int):=by omega
   have j1:(k:Int) < (m:Int):=by omega
   have HY:=hideL hy
   clear hy
   by_cases hk0:k=0
   ·have HE:Hid (0=cntI n (Q.take k)):=by rw [hk0];rfl
    have j2:¬(k:Int) > 0:=by omega
    have HKZ:Hid (k=0):=hk0
    clear hk0
    obtain rfl:e=0:=by omega
    clear hli hlp
    go_upto_region 5 with fail
    have hs0:wr.drew.cell? ⟨b4,0,none⟩=some (.slice (some ⟨g1,o1,none⟩) m c):=keepC (Below.refl _ _).drew q4
    have a0:=keepC (Below.refl wr.heap.size wr).drew a0
    clear q1 q4
    refine wp_region_held_drew (S:=fun U=>U.cell? ⟨b4,0,none⟩=some (.slice (some ⟨g1,o1,none⟩) m c)) (by kernel_rfl) hs0 (fun _=>?_)
    refine tk 0 (.int .i64 (k:Int)) rfl hs0 ?_ ?_
    ·rintro w q4;go_simp;try exact HKZ.out
    refine tk 1 (.bool false) rfl hs0 ?_ ?_
    ·rintro w q4;go_simp;try exact HKZ.out
    refine tk 2 (.bool false) rfl hs0 ?_ ?_
    ·rintro w q4;go_simp;try exact HKZ.out
    refine tq 3 rfl hs0 ?_
    refine tq 4 rfl hs0 ?_
    refine tq 5 rfl hs0 ?_
    refine tq 6 rfl hs0 ?_
    refine tq 7 rfl hs0 ?_
    refine tq 8 rfl hs0 ?_
    refine tq 9 rfl hs0 ?_
    refine tk 10 (.bool false) rfl hs0 ?_ ?_
    ·rintro w q4;go_simp;try exact HKZ.out
    refine tk 11 (.bool false) rfl hs0 ?_ ?_
    ·rintro w q4;go_simp;try exact HKZ.out
    refine tq 12 rfl hs0 ?_
    refine tq 13 rfl hs0 ?_
    refine tq 14 rfl hs0 ?_
    refine tq 15 rfl hs0 ?_
    refine tq 16 rfl hs0 ?_
    refine tq 17 rfl hs0 ?_
    refine tq 18 rfl hs0 ?_
    refine tq 19 rfl hs0 ?_
    refine tq 20 rfl hs0 ?_
    refine tq 21 rfl hs0 ?_
    refine tk 22 (.bool false) rfl hs0 ?_ ?_
    ·rintro w q4;go_simp;try exact HKZ.out
    refine tk 23 (.bool false) rfl hs0 ?_ ?_
    ·rintro w q4;go_simp;try exact HKZ.out
    refine tq 24 rfl hs0 ?_
    refine tq 25 rfl hs0 ?_
    refine tq 26 rfl hs0 ?_
    refine tq 27 rfl hs0 ?_
    refine tq 28 rfl hs0 ?_
    refine tq 29 rfl hs0 ?_
    refine tq 30 rfl hs0 ?_
    refine tq 31 rfl hs0 ?_
    refine tq 32 rfl hs0 ?_
    refine tq 33 rfl hs0 ?_
    refine tq 34 rfl hs0 ?_
    refine tk 35 (.bool false) rfl hs0 ?_ ?_
    ·rintro w q4;go_simp;try exact HKZ.out
    refine wpAnyH_done (by kernel_rfl) ?_ _
    try simp only [List.getElem_toArray,List.getElem_cons_succ,List.getElem_cons_zero,Act.put,List.setIfInBounds_toArray,List.set_cons_zero,List.set_cons_succ]
    have q4:=hs0
    clear hs0
    have hE9:0≤k+1:=by omega
    by_cases hxy:y=x
    ·have i0:(y==x)=true:=by simpa using hxy
     have HT:Hid (COM n Q x (k:Int) (0)):=.inr ⟨k,rfl,by rw [HY.out,hxy],HB.out.1,HE.out⟩
     clear hxy
     go_wp2_with fail
     refine bodyPost_ret (results_tmp2 rfl _ _ _) rfl ?_
     exact ⟨_,_,HT.out,rfl,HF.out _ (bel0Z HB.out.2.2 (Below.refl _ _).drew)⟩
    ·have i0:(y==x)=false:=by simpa using hxy
     have HT:Hid (x ∉ Q.take (k+1)):=by
      show x ∉ Q.take (k+1)
      rw [List.take_add_one,HY.out]
      intro h9
      rcases List.mem_append.1 h9 with h9 | h9
      ·exact HB.out.1 h9
      ·exact hxy (Eq.symm (by simpa using h9))
     clear hxy
     go_wp2_with fail
     go_roundw
     case rel=>exact ⟨k+1,0,by go_num,by go_num,by omega,hE9,HT.out,HE.out,bel0Z HB.out.2.2 (Below.refl _ _).drew⟩
     case measure=>simp [intOf];omega
   ·obtain ⟨k1,hk1⟩:∃ k1,k=k1+1:=⟨k - 1,by omega⟩
    obtain ⟨y1,hy1⟩:∃ y,Q[k1]?=some y:=⟨_,List.getElem?_eq_getElem (by have:=HQ.out.1;omega)⟩
    obtain ⟨t,rfl,ht⟩:∃ t:Nat,y1=(t:Int)∧t < np:=by
     have:=HQ.out.2.1 _ (List.mem_of_getElem? hy1)
     exact ⟨y1.toNat,by omega,by omega⟩
    obtain ⟨g9,o9,e9,a1⟩:=hli k1 _ hy1
    simp only [Option.some.injEq,Addr.mk.injEq] at e9
    obtain ⟨rfl,rfl,-⟩:=e9
    have HY1:=hideL hy1
    obtain ⟨inn,hinn⟩:∃ b,(portAt n (t:Int)).inn=b:=⟨_,rfl⟩
    have hpt:n.ports[t]?=some (portAt n (t:Int)):=by
     unfold portAt
     rw [Int.toNat_natCast,List.getD_eq_getElem?_getD,List.getElem?_eq_getElem (by have:=HQ.out.2.2;omega)]
     rfl
    obtain ⟨gq,oq,rfl,-,-,a2,-⟩:=hlp t _ hpt
    rw [hinn] at a2
    have j2:(k:Int) > 0:=by omega
    have HKP:Hid (0 < k):=Nat.pos_of_ne_zero hk0
    have j3:(k:Int) - 1=(k1:Int):=by omega
    have j4:(k1:Int) < (m:Int):=by omega
    have j5:(t:Int) ≥ 0:=by omega
    have j6:(t:Int) < (np:Int):=by omega
    have j7:(0:Int)≤(k1:Int):=by omega
    have j8:(0:Int)≤(t:Int):=by omega
    have HI:=hideL hinn
    have HE:Hid (e+(if inn=true then 1 else 0)=cntI n (Q.take k)):=by
     show _=_
     rw [hk1,List.take_add_one,HY1.out,Option.toList_some,cnt_app,HI.out]
     have:=HB.out.2.1
     rw [hk1,Nat.add_sub_cancel] at this
     rw [←this]
    clear hli hlp hy1 hpt hinn hk1
    cases inn
    ·have HE:Hid (e=cntI n (Q.take k)):=HE.out
     go_upto_region 5 with fail
     have hs0:wr.drew.cell? ⟨B,1,none⟩=some (.slice (some ⟨gq,oq,none⟩) np cp)∧wr.drew.cell? ⟨b4,0,none⟩=some (.slice (some ⟨g1,o1,none⟩) m c)∧wr.drew.cell? ⟨g1,o1+k1,none⟩=some (.int .i64 (t:Int))∧wr.drew.cell? ⟨gq,oq+t*4+2,none⟩=some (.bool false):=⟨keepC (Below.refl _ _).drew q1,keepC (Below.refl _ _).drew q4,keepC (Below.refl _ _).drew a1,keepC (Below.refl _ _).drew a2⟩
     have a0:=keepC (Below.refl wr.heap.size wr).drew a0
     clear q1 q4 a1 a2
     refine wp_region_held_drew (S:=fun U=>U.cell? ⟨B,1,none⟩=some (.slice (some ⟨gq,oq,none⟩) np cp)∧U.cell? ⟨b4,0,none⟩=some (.slice (some ⟨g1,o1,none⟩) m c)∧U.cell? ⟨g1,o1+k1,none⟩=some (.int .i64 (t:Int))∧U.cell? ⟨gq,oq+t*4+2,none⟩=some (.bool false)) (by kernel_rfl) hs0 (fun _=>?_)
     refine tk 0 (.int .i64 (k:Int)) rfl hs0 ?_ ?_
     ·rintro w ⟨q1,q4,a1,a2⟩;go_simp;(try exact HKP.out);try (rw [IntKind.wrap_i64];omega)
     refine tk 1 (.bool true) rfl hs0 ?_ ?_
     ·rintro w ⟨q1,q4,a1,a2⟩;go_simp;(try exact HKP.out);try (rw [IntKind.wrap_i64];omega)
     refine tk 2 (.bool true) rfl hs0 ?_ ?_
     ·rintro w ⟨q1,q4,a1,a2⟩;go_simp;(try exact HKP.out);try (rw [IntKind.wrap_i64];omega)
     refine tk 3 (.pointer (some ⟨b4,0,none⟩)) rfl hs0 ?_ ?_
     ·rintro w ⟨q1,q4,a1,a2⟩;go_simp;(try exact HKP.out);try (rw [IntKind.wrap_i64];omega)
     refine tk 4 (.slice (some ⟨g1,o1,none⟩) m c) rfl hs0 ?_ ?_
     ·rintro w ⟨q1,q4,a1,a2⟩;go_simp;(try exact HKP.out);try (rw [IntKind.wrap_i64];omega)
     refine tk 5 (.int .i64 (k:Int)) rfl hs0 ?_ ?_
     ·rintro w ⟨q1,q4,a1,a2⟩;go_simp;(try exact HKP.out);try (rw [IntKind.wrap_i64];omega)
     refine tk 6 (.int .i64 (k1:Int)) rfl hs0 ?_ ?_
     ·rintro w ⟨q1,q4,a1,a2⟩;go_simp;(try exact HKP.out);try (rw [IntKind.wrap_i64];omega)
     refine tk 7 (.pointer (some ⟨g1,o1+k1,none⟩)) rfl hs0 ?_ ?_
     ·rintro w ⟨q1,q4,a1,a2⟩;go_simp;(try exact HKP.out);try (rw [IntKind.wrap_i64];omega)
     refine tk 8 (.int .i64 (t:Int)) rfl hs0 ?_ ?_
     ·rintro w ⟨q1,q4,a1,a2⟩;go_simp;(try exact HKP.out);try (rw [IntKind.wrap_i64];omega)
     refine tk 9 (.bool true) rfl hs0 ?_ ?_
     ·rintro w ⟨q1,q4,a1,a2⟩;go_simp;(try exact HKP.out);try (rw [IntKind.wrap_i64];omega)
     refine tk 10 (.bool true) rfl hs0 ?_ ?_
     ·rintro w ⟨q1,q4,a1,a2⟩;go_simp;(try exact HKP.out);try (rw [IntKind.wrap_i64];omega)
     refine tk 11 (.bool true) rfl hs0 ?_ ?_
     ·rintro w ⟨q1,q4,a1,a2⟩;go_simp;(try exact HKP.out);try (rw [IntKind.wrap_i64];omega)
     refine tk 12 (.pointer (some ⟨b4,0,none⟩)) rfl hs0 ?_ ?_
     ·rintro w ⟨q1,q4,a1,a2⟩;go_simp;(try exact HKP.out);try (rw [IntKind.wrap_i64];omega)
     refine tk 13 (.slice (some ⟨g1,o1,none⟩) m c) rfl hs0 ?_ ?_
     ·rintro w ⟨q1,q4,a1,a2⟩;go_simp;(try exact HKP.out);try (rw [IntKind.wrap_i64];omega)
     refine tk 14 (.int .i64 (k:Int)) rfl hs0 ?_ ?_
     ·rintro w ⟨q1,q4,a1,a2⟩;go_simp;(try exact HKP.out);try (rw [IntKind.wrap_i64];omega)
     refine tk 15 (.int .i64 (k1:Int)) rfl hs0 ?_ ?_
     ·rintro w ⟨q1,q4,a1,a2⟩;go_simp;(try exact HKP.out);try (rw [IntKind.wrap_i64];omega)
     refine tk 16 (.pointer (some ⟨g1,o1+k1,none⟩)) rfl hs0 ?_ ?_
     ·rintro w ⟨q1,q4,a1,a2⟩;go_simp;(try exact HKP.out);try (rw [IntKind.wrap_i64];omega)
     refine tk 17 (.int .i64 (t:Int)) rfl hs0 ?_ ?_
     ·rintro w ⟨q1,q4,a1,a2⟩;go_simp;(try exact HKP.out);try (rw [IntKind.wrap_i64];omega)
     refine tk 18 (.pointer (some ⟨B,1,none⟩)) rfl hs0 ?_ ?_
     ·rintro w ⟨q1,q4,a1,a2⟩;go_simp;(try exact HKP.out);try (rw [IntKind.wrap_i64];omega)
     refine tk 19 (.slice (some ⟨gq,oq,none⟩) np cp) rfl hs0 ?_ ?_
     ·rintro w ⟨q1,q4,a1,a2⟩;go_simp;(try exact HKP.out);try (rw [IntKind.wrap_i64];omega)
     refine tk 20 (.int .i64 (np:Int)) rfl hs0 ?_ ?_
     ·rintro w ⟨q1,q4,a1,a2⟩;go_simp;(try exact HKP.out);try (rw [IntKind.wrap_i64];omega)
     refine tk 21 (.bool true) rfl hs0 ?_ ?_
     ·rintro w ⟨q1,q4,a1,a2⟩;go_simp;(try exact HKP.out);try (rw [IntKind.wrap_i64];omega)
     refine tk 22 (.bool true) rfl hs0 ?_ ?_
     ·rintro w ⟨q1,q4,a1,a2⟩;go_simp;(try exact HKP.out);try (rw [IntKind.wrap_i64];omega)
     refine tk 23 (.bool true) rfl hs0 ?_ ?_
     ·rintro w ⟨q1,q4,a1,a2⟩;go_simp;(try exact HKP.out);try (rw [IntKind.wrap_i64];omega)
     refine tk 24 (.pointer (some ⟨B,1,none⟩)) rfl hs0 ?_ ?_
     ·rintro w ⟨q1,q4,a1,a2⟩;go_simp;(try exact HKP.out);try (rw [IntKind.wrap_i64];omega)
     refine tk 25 (.slice (some ⟨gq,oq,none⟩) np cp) rfl hs0 ?_ ?_
     ·rintro w ⟨q1,q4,a1,a2⟩;go_simp;(try exact HKP.out);try (rw [IntKind.wrap_i64];omega)
     refine tk 26 (.pointer (some ⟨b4,0,none⟩)) rfl hs0 ?_ ?_
     ·rintro w ⟨q1,q4,a1,a2⟩;go_simp;(try exact HKP.out);try (rw [IntKind.wrap_i64];omega)
     refine tk 27 (.slice (some ⟨g1,o1,none⟩) m c) rfl hs0 ?_ ?_
     ·rintro w ⟨q1,q4,a1,a2⟩;go_simp;(try exact HKP.out);try (rw [IntKind.wrap_i64];omega)
     refine tk 28 (.int .i64 (k:Int)) rfl hs0 ?_ ?_
     ·rintro w ⟨q1,q4,a1,a2⟩;go_simp;(try exact HKP.out);try (rw [IntKind.wrap_i64];omega)
     refine tk 29 (.int .i64 (k1:Int)) rfl hs0 ?_ ?_
     ·rintro w ⟨q1,q4,a1,a2⟩;go_simp;(try exact HKP.out);try (rw [IntKind.wrap_i64];omega)
     refine tk 30 (.pointer (some ⟨g1,o1+k1,none⟩)) rfl hs0 ?_ ?_
     ·rintro w ⟨q1,q4,a1,a2⟩;go_simp;(try exact HKP.out);try (rw [IntKind.wrap_i64];omega)
     refine tk 31 (.int .i64 (t:Int)) rfl hs0 ?_ ?_
     ·rintro w ⟨q1,q4,a1,a2⟩;go_simp;(try exact HKP.out);try (rw [IntKind.wrap_i64];omega)
     refine tk 32 (.pointer (some ⟨gq,oq+t*4,none⟩)) rfl hs0 ?_ ?_
     ·rintro w ⟨q1,q4,a1,a2⟩;go_simp;(try exact HKP.out);try (rw [IntKind.wrap_i64];omega)
     refine tk 33 (.pointer (some ⟨gq,oq+t*4+2,none⟩)) rfl hs0 ?_ ?_
     ·rintro w ⟨q1,q4,a1,a2⟩;go_simp;(try exact HKP.out);try (rw [IntKind.wrap_i64];omega)
     refine tk 34 (.bool false) rfl hs0 ?_ ?_
     ·rintro w ⟨q1,q4,a1,a2⟩;go_simp;(try exact HKP.out);try (rw [IntKind.wrap_i64];omega)
     refine tk 35 (.bool false) rfl hs0 ?_ ?_
     ·rintro w ⟨q1,q4,a1,a2⟩;go_simp;(try exact HKP.out);try (rw [IntKind.wrap_i64];omega)
     refine wpAnyH_done (by kernel_rfl) ?_ _
     try simp only [List.getElem_toArray,List.getElem_cons_succ,List.getElem_cons_zero,Act.put,List.setIfInBounds_toArray,List.set_cons_zero,List.set_cons_succ]
     obtain ⟨-,q4,-,-⟩:=hs0
     have hE9:e≤k+1:=by omega
     by_cases hxy:y=x
     ·have i0:(y==x)=true:=by simpa using hxy
      have HT:Hid (COM n Q x (k:Int) (e)):=.inr ⟨k,rfl,by rw [HY.out,hxy],HB.out.1,HE.out⟩
      clear hxy
      go_wp2_with fail
      refine bodyPost_ret (results_tmp2 rfl _ _ _) rfl ?_
      exact ⟨_,_,HT.out,rfl,HF.out _ (bel0Z HB.out.2.2 (Below.refl _ _).drew)⟩
     ·have i0:(y==x)=false:=by simpa using hxy
      have HT:Hid (x ∉ Q.take (k+1)):=by
       show x ∉ Q.take (k+1)
       rw [List.take_add_one,HY.out]
       intro h9
       rcases List.mem_append.1 h9 with h9 | h9
       ·exact HB.out.1 h9
       ·exact hxy (Eq.symm (by simpa using h9))
      clear hxy
      go_wp2_with fail
      go_roundw
      case rel=>exact ⟨k+1,e,by go_num,by go_num,by omega,hE9,HT.out,HE.out,bel0Z HB.out.2.2 (Below.refl _ _).drew⟩
      case measure=>simp [intOf];omega
    ·have HE:Hid (e+1=cntI n (Q.take k)):=HE.out
     go_upto_region 5 with fail
     have hs0:wr.drew.cell? ⟨B,1,none⟩=some (.slice (some ⟨gq,oq,none⟩) np cp)∧wr.drew.cell? ⟨b4,0,none⟩=some (.slice (some ⟨g1,o1,none⟩) m c)∧wr.drew.cell? ⟨g1,o1+k1,none⟩=some (.int .i64 (t:Int))∧wr.drew.cell? ⟨gq,oq+t*4+2,none⟩=some (.bool true):=⟨keepC (Below.refl _ _).drew q1,keepC (Below.refl _ _).drew q4,keepC (Below.refl _ _).drew a1,keepC (Below.refl _ _).drew a2⟩
     have a0:=keepC (Below.refl wr.heap.size wr).drew a0
     clear q1 q4 a1 a2
     refine wp_region_held_drew (S:=fun U=>U.cell? ⟨B,1,none⟩=some (.slice (some ⟨gq,oq,none⟩) np cp)∧U.cell? ⟨b4,0,none⟩=some (.slice (some ⟨g1,o1,none⟩) m c)∧U.cell? ⟨g1,o1+k1,none⟩=some (.int .i64 (t:Int))∧U.cell? ⟨gq,oq+t*4+2,none⟩=some (.bool true)) (by kernel_rfl) hs0 (fun _=>?_)
     refine tk 0 (.int .i64 (k:Int)) rfl hs0 ?_ ?_
     ·rintro w ⟨q1,q4,a1,a2⟩;go_simp;(try exact HKP.out);try (rw [IntKind.wrap_i64];omega)
     refine tk 1 (.bool true) rfl hs0 ?_ ?_
     ·rintro w ⟨q1,q4,a1,a2⟩;go_simp;(try exact HKP.out);try (rw [IntKind.wrap_i64];omega)
     refine tk 2 (.bool true) rfl hs0 ?_ ?_
     ·rintro w ⟨q1,q4,a1,a2⟩;go_simp;(try exact HKP.out);try (rw [IntKind.wrap_i64];omega)
     refine tk 3 (.pointer (some ⟨b4,0,none⟩)) rfl hs0 ?_ ?_
     ·rintro w ⟨q1,q4,a1,a2⟩;go_simp;(try exact HKP.out);try (rw [IntKind.wrap_i64];omega)
     refine tk 4 (.slice (some ⟨g1,o1,none⟩) m c) rfl hs0 ?_ ?_
     ·rintro w ⟨q1,q4,a1,a2⟩;go_simp;(try exact HKP.out);try (rw [IntKind.wrap_i64];omega)
     refine tk 5 (.int .i64 (k:Int)) rfl hs0 ?_ ?_
     ·rintro w ⟨q1,q4,a1,a2⟩;go_simp;(try exact HKP.out);try (rw [IntKind.wrap_i64];omega)
     refine tk 6 (.int .i64 (k1:Int)) rfl hs0 ?_ ?_
     ·rintro w ⟨q1,q4,a1,a2⟩;go_simp;(try exact HKP.out);try (rw [IntKind.wrap_i64];omega)
     refine tk 7 (.pointer (some ⟨g1,o1+k1,none⟩)) rfl hs0 ?_ ?_
     ·rintro w ⟨q1,q4,a1,a2⟩;go_simp;(try exact HKP.out);try (rw [IntKind.wrap_i64];omega)
     refine tk 8 (.int .i64 (t:Int)) rfl hs0 ?_ ?_
     ·rintro w ⟨q1,q4,a1,a2⟩;go_simp;(try exact HKP.out);try (rw [IntKind.wrap_i64];omega)
     refine tk 9 (.bool true) rfl hs0 ?_ ?_
     ·rintro w ⟨q1,q4,a1,a2⟩;go_simp;(try exact HKP.out);try (rw [IntKind.wrap_i64];omega)
     refine tk 10 (.bool true) rfl hs0 ?_ ?_
     ·rintro w ⟨q1,q4,a1,a2⟩;go_simp;(try exact HKP.out);try (rw [IntKind.wrap_i64];omega)
     refine tk 11 (.bool true) rfl hs0 ?_ ?_
     ·rintro w ⟨q1,q4,a1,a2⟩;go_simp;(try exact HKP.out);try (rw [IntKind.wrap_i64];omega)
     refine tk 12 (.pointer (some ⟨b4,0,none⟩)) rfl hs0 ?_ ?_
     ·rintro w ⟨q1,q4,a1,a2⟩;go_simp;(try exact HKP.out);try (rw [IntKind.wrap_i64];omega)
     refine tk 13 (.slice (some ⟨g1,o1,none⟩) m c) rfl hs0 ?_ ?_
     ·rintro w ⟨q1,q4,a1,a2⟩;go_simp;(try exact HKP.out);try (rw [IntKind.wrap_i64];omega)
     refine tk 14 (.int .i64 (k:Int)) rfl hs0 ?_ ?_
     ·rintro w ⟨q1,q4,a1,a2⟩;go_simp;(try exact HKP.out);try (rw [IntKind.wrap_i64];omega)
     refine tk 15 (.int .i64 (k1:Int)) rfl hs0 ?_ ?_
     ·rintro w ⟨q1,q4,a1,a2⟩;go_simp;(try exact HKP.out);try (rw [IntKind.wrap_i64];omega)
     refine tk 16 (.pointer (some ⟨g1,o1+k1,none⟩)) rfl hs0 ?_ ?_
     ·rintro w ⟨q1,q4,a1,a2⟩;go_simp;(try exact HKP.out);try (rw [IntKind.wrap_i64];omega)
     refine tk 17 (.int .i64 (t:Int)) rfl hs0 ?_ ?_
     ·rintro w ⟨q1,q4,a1,a2⟩;go_simp;(try exact HKP.out);try (rw [IntKind.wrap_i64];omega)
     refine tk 18 (.pointer (some ⟨B,1,none⟩)) rfl hs0 ?_ ?_
     ·rintro w ⟨q1,q4,a1,a2⟩;go_simp;(try exact HKP.out);try (rw [IntKind.wrap_i64];omega)
     refine tk 19 (.slice (some ⟨gq,oq,none⟩) np cp) rfl hs0 ?_ ?_
     ·rintro w ⟨q1,q4,a1,a2⟩;go_simp;(try exact HKP.out);try (rw [IntKind.wrap_i64];omega)
     refine tk 20 (.int .i64 (np:Int)) rfl hs0 ?_ ?_
     ·rintro w ⟨q1,q4,a1,a2⟩;go_simp;(try exact HKP.out);try (rw [IntKind.wrap_i64];omega)
     refine tk 21 (.bool true) rfl hs0 ?_ ?_
     ·rintro w ⟨q1,q4,a1,a2⟩;go_simp;(try exact HKP.out);try (rw [IntKind.wrap_i64];omega)
     refine tk 22 (.bool true) rfl hs0 ?_ ?_
     ·rintro w ⟨q1,q4,a1,a2⟩;go_simp;(try exact HKP.out);try (rw [IntKind.wrap_i64];omega)
     refine tk 23 (.bool true) rfl hs0 ?_ ?_
     ·rintro w ⟨q1,q4,a1,a2⟩;go_simp;(try exact HKP.out);try (rw [IntKind.wrap_i64];omega)
     refine tk 24 (.pointer (some ⟨B,1,none⟩)) rfl hs0 ?_ ?_
     ·rintro w ⟨q1,q4,a1,a2⟩;go_simp;(try exact HKP.out);try (rw [IntKind.wrap_i64];omega)
     refine tk 25 (.slice (some ⟨gq,oq,none⟩) np cp) rfl hs0 ?_ ?_
     ·rintro w ⟨q1,q4,a1,a2⟩;go_simp;(try exact HKP.out);try (rw [IntKind.wrap_i64];omega)
     refine tk 26 (.pointer (some ⟨b4,0,none⟩)) rfl hs0 ?_ ?_
     ·rintro w ⟨q1,q4,a1,a2⟩;go_simp;(try exact HKP.out);try (rw [IntKind.wrap_i64];omega)
     refine tk 27 (.slice (some ⟨g1,o1,none⟩) m c) rfl hs0 ?_ ?_
     ·rintro w ⟨q1,q4,a1,a2⟩;go_simp;(try exact HKP.out);try (rw [IntKind.wrap_i64];omega)
     refine tk 28 (.int .i64 (k:Int)) rfl hs0 ?_ ?_
     ·rintro w ⟨q1,q4,a1,a2⟩;go_simp;(try exact HKP.out);try (rw [IntKind.wrap_i64];omega)
     refine tk 29 (.int .i64 (k1:Int)) rfl hs0 ?_ ?_
     ·rintro w ⟨q1,q4,a1,a2⟩;go_simp;(try exact HKP.out);try (rw [IntKind.wrap_i64];omega)
     refine tk 30 (.pointer (some ⟨g1,o1+k1,none⟩)) rfl hs0 ?_ ?_
     ·rintro w ⟨q1,q4,a1,a2⟩;go_simp;(try exact HKP.out);try (rw [IntKind.wrap_i64];omega)
     refine tk 31 (.int .i64 (t:Int)) rfl hs0 ?_ ?_
     ·rintro w ⟨q1,q4,a1,a2⟩;go_simp;(try exact HKP.out);try (rw [IntKind.wrap_i64];omega)
     refine tk 32 (.pointer (some ⟨gq,oq+t*4,none⟩)) rfl hs0 ?_ ?_
     ·rintro w ⟨q1,q4,a1,a2⟩;go_simp;(try exact HKP.out);try (rw [IntKind.wrap_i64];omega)
     refine tk 33 (.pointer (some ⟨gq,oq+t*4+2,none⟩)) rfl hs0 ?_ ?_
     ·rintro w ⟨q1,q4,a1,a2⟩;go_simp;(try exact HKP.out);try (rw [IntKind.wrap_i64];omega)
     refine tk 34 (.bool true) rfl hs0 ?_ ?_
     ·rintro w ⟨q1,q4,a1,a2⟩;go_simp;(try exact HKP.out);try (rw [IntKind.wrap_i64];omega)
     refine tk 35 (.bool true) rfl hs0 ?_ ?_
     ·rintro w ⟨q1,q4,a1,a2⟩;go_simp;(try exact HKP.out);try (rw [IntKind.wrap_i64];omega)
     refine wpAnyH_done (by kernel_rfl) ?_ _
     try simp only [List.getElem_toArray,List.getElem_cons_succ,List.getElem_cons_zero,Act.put,List.setIfInBounds_toArray,List.set_cons_zero,List.set_cons_succ]
     obtain ⟨-,q4,-,-⟩:=hs0
     have hE9:e+1≤k+1:=by omega
     by_cases hxy:y=x
     ·have i0:(y==x)=true:=by simpa using hxy
      have HT:Hid (COM n Q x (k:Int) (e+1)):=.inr ⟨k,rfl,by rw [HY.out,hxy],HB.out.1,HE.out⟩
      clear hxy
      go_wp2_with fail
      refine bodyPost_ret (results_tmp2 rfl _ _ _) rfl ?_
      exact ⟨_,_,HT.out,rfl,HF.out _ (bel0Z HB.out.2.2 (Below.refl _ _).drew)⟩
     ·have i0:(y==x)=false:=by simpa using hxy
      have HT:Hid (x ∉ Q.take (k+1)):=by
       show x ∉ Q.take (k+1)
       rw [List.take_add_one,HY.out]
       intro h9
       rcases List.mem_append.1 h9 with h9 | h9
       ·exact HB.out.1 h9
       ·exact hxy (Eq.symm (by simpa using h9))
      clear hxy
      go_wp2_with fail
      go_roundw
      case rel=>exact ⟨k+1,e+1,by go_num,by go_num,by omega,hE9,HT.out,HE.out,bel0Z HB.out.2.2 (Below.refl _ _).drew⟩
      case measure=>simp [intOf];omega
  ·obtain rfl:k=m:=by omega
   have HT:Hid (COM n Q x (-1) e):=by
    refine .inl ⟨rfl,?_,?_⟩
    ·have h9:=HB.out.1
     rwa [List.take_of_length_le (by rw [HQ.out.1];exact Nat.le_refl _)] at h9
    ·rw [List.dropLast_eq_take,HQ.out.1]
     exact HB.out.2.1
   clear hli hlp
   go_wp2_with fail
   refine bodyPost_ret (results_tmp2 rfl _ _ _) rfl ?_
   exact ⟨_,_,HT.out,rfl,HF.out _ HB.out.2.2⟩
end Go.Proofs.YtbplhianpelmfaaGreatDoor.Nt
