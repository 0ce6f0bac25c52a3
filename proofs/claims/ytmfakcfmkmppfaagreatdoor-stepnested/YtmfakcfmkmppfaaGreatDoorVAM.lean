import Derived.Test.YtmfakcfmkmppfaaGreatDoorVAL
namespace Go.Proofs.YtmfakcfmkmppfaaGreatDoor.Nt
open Go.RowKit Go.Shelf
theorem zkz {L:List Int} {k:Nat} {x:Int} (h:(L.take k).Pairwise (· < ·)) (hx:L[k]?=some x) (hp:k=0∨∃ y,L[k - 1]?=some y/\y < x):(L.take (k+1)).Pairwise (· < ·):=by
 rw [List.take_add_one,hx];refine List.pairwise_append.2 ⟨h,List.pairwise_singleton _ _,fun a ha b hb=>?_⟩;have hb:b=x:=by simpa using hb
 subst hb;obtain ⟨j,hj,rfl⟩:=List.getElem_of_mem ha;rw [List.length_take] at hj;rcases hp with h0 | ⟨y,hy,hlt⟩
 ·omega
 ·rw [List.getElem_take]
  rcases Nat.lt_or_ge j (k - 1) with h1 | h1
  ·have e2:(L.take k)[k - 1]?=some y:=by rw [List.getElem?_take,if_pos (by omega)];exact hy
   obtain ⟨h3,h4⟩:=List.getElem?_eq_some_iff.1 e2;have:=List.pairwise_iff_getElem.1 h j (k - 1) (by rw [List.length_take];omega) h3 h1;rw [List.getElem_take,h4] at this;omega
  ·have:j=k - 1:=by omega
   subst this;obtain ⟨h3,h4⟩:=List.getElem?_eq_some_iff.1 hy;rw [h4];exact hlt
theorem pw_bad {L:List Int} {k:Nat} {x y:Int} (h:L.Pairwise (· < ·)) (h0:0 < k) (hy:L[k - 1]?=some y) (hx:L[k]?=some x):y < x:=by
 obtain ⟨h1,rfl⟩:=List.getElem?_eq_some_iff.1 hx;obtain ⟨h2,rfl⟩:=List.getElem?_eq_some_iff.1 hy;exact List.pairwise_iff_getElem.1 h (k - 1) k h2 h1 (by omega)
theorem zle {α:Type} {L:List α} {i:Nat} {x:α} (h:(L.take i).Nodup) (hx:L[i]?=some x) (hp:∀ j y,j < i->L[j]?=some y->y≠x):(L.take (i+1)).Nodup:=by
 rw [List.take_add_one,hx];refine List.nodup_append.2 ⟨h,by simp,fun a ha b hb=>?_⟩;have hb:b=x:=by simpa using hb
 subst hb;obtain ⟨j,hj,rfl⟩:=List.getElem_of_mem ha;rw [List.length_take] at hj;rw [List.getElem_take];exact hp j _ (by omega) (List.getElem?_eq_getElem (by omega))
theorem zqr {α:Type} {L:List α} {i j:Nat} {x:α} (h:L.Nodup) (hj:j < i) (h1:L[j]?=some x) (h2:L[i]?=some x):False:=by
 obtain ⟨h3,h4⟩:=List.getElem?_eq_some_iff.1 h1;obtain ⟨h5,h6⟩:=List.getElem?_eq_some_iff.1 h2;exact (List.pairwise_iff_getElem.1 h j i h3 h5 hj) (h4.trans h6.symm)
def neA (x:NE) (pi:Option Addr) (ci:Nat) (pc:Option Addr) (cc:Nat) (po:Option Addr) (co:Nat):Array Value:=#[.string ⟨x.nm.toArray⟩,.slice pi x.ins.length ci,.slice pc x.cubes.length cc,.string ⟨x.wr.toArray⟩,.slice po x.outs.length co]
theorem zr6 (w:World) (o:Obj):(w.alloc o).heap.size=w.heap.size+1:=by simp
set_option maxRecDepth 100000 in
set_option maxHeartbeats 16000000 in
theorem znd (n:NN) (v:NV) (box:Int) (x:NE) (pi:Option Addr) (ci:Nat) (pc:Option Addr) (cc:Nat) (po:Option Addr) (co:Nat) (w:World) (hN:LN w n v) (hE:LEL w x pi ci pc cc po co) (hS:zdn n) (hO:okE x) :
  Calls Tryz.prog 92 #[.agg (nnA n v),.int .i64 box,.agg (neA x pi ci pc cc po co)] w (BQ (za2 n box x) w):=by
 obtain ⟨pp,cp,pt,ct,pg,cg⟩:=v;unfold nnA neA;simp only at hN ⊢;obtain ⟨ni,hni⟩:=ex x.ins.length;obtain ⟨nc,hnc⟩:=ex x.cubes.length;obtain ⟨no,hno⟩:=ex x.outs.length;rw [hni,hnc,hno];obtain ⟨W1,hW1⟩:=ex ((w.alloc (Obj.cells #[.int .i64 n.bits,.slice pp n.ports.length cp,.slice pt n.tabs.length ct,.slice pg n.grds.length cg] 26)).alloc (Obj.cells #[.string ⟨x.nm.toArray⟩,.slice pi ni ci,.slice pc nc cc,.string ⟨x.wr.toArray⟩,.slice po no co] 89));have b1:Below w.heap.size w W1:=by rw [<-hW1];exact zah (zah (Below.refl _ _) _) _
 obtain ⟨B,hB⟩:=ex w.heap.size;obtain ⟨E,hEB⟩:=ex (B+1);have k1:W1.heap[B]?=some (.cells #[.int .i64 n.bits,.slice pp n.ports.length cp,.slice pt n.tabs.length ct,.slice pg n.grds.length cg] 26 (0,0)):=by rw [<-hW1,<-hB];exact zae (zah (Below.refl _ _) _) (zaa _ _)
 have k2:W1.heap[E]?=some (.cells #[.string ⟨x.nm.toArray⟩,.slice pi ni ci,.slice pc nc cc,.string ⟨x.wr.toArray⟩,.slice po no co] 89 (0,0)):=by
  have:=zaa (w.alloc (Obj.cells #[.int .i64 n.bits,.slice pp n.ports.length cp,.slice pt n.tabs.length ct,.slice pg n.grds.length cg] 26)) (Obj.cells #[.string ⟨x.nm.toArray⟩,.slice pi ni ci,.slice pc nc cc,.string ⟨x.wr.toArray⟩,.slice po no co] 89);rw [zr6,hB,hEB,hW1] at this;exact this
 have HC:Hid (∀ U,Below W1.heap.size W1 U->U.cell? ⟨B,0,none⟩=some (.int .i64 n.bits)/\U.cell? ⟨B,1,none⟩=some (.slice pp n.ports.length cp)/\U.cell? ⟨B,2,none⟩=some (.slice pt n.tabs.length ct)/\U.cell? ⟨B,3,none⟩=some (.slice pg n.grds.length cg)/\U.cell? ⟨E,0,none⟩=some (.string ⟨x.nm.toArray⟩)/\U.cell? ⟨E,1,none⟩=some (.slice pi ni ci)/\U.cell? ⟨E,2,none⟩=some (.slice pc nc cc)/\U.cell? ⟨E,3,none⟩=some (.string ⟨x.wr.toArray⟩)/\U.cell? ⟨E,4,none⟩=some (.slice po no co)):=fun U hU=>by
  have h1:=(zaf (zae hU k1)).1;have h2:=(zaf (zae hU k2)).1;exact ⟨by rw [h1];rfl,by rw [h1];rfl,by rw [h1];rfl,by rw [h1];rfl,by rw [h2];rfl,by rw [h2];rfl,by rw [h2];rfl,by rw [h2];rfl,by rw [h2];rfl⟩
 have HL:Hid (∀ U,Below W1.heap.size W1 U->LEL U x pi ci pc cc po co):=fun U hU=>hE.below (zac b1 hU);have HSD:Hid (∀ U (z:Int) (b:Bool),Below W1.heap.size W1 U->Calls Tryz.prog 109 #[.agg #[.int .i64 n.bits,.slice pp n.ports.length cp,.slice pt n.tabs.length ct,.slice pg n.grds.length cg],.int .i64 z,.int .i64 box,.bool b] U (BQ (zbt n box z b) U)):=fun U z b hU=>zot n ⟨pp,cp,pt,ct,pg,cg⟩ z box b U (hN.below (zac b1 hU));have HZN:Hid (zdn n/\okE x/\x.ins.length=ni/\x.cubes.length=nc/\x.outs.length=no):=⟨hS,hO,hni,hnc,hno⟩;have HQT:Hid (∀ U,Below W1.heap.size W1 U->za2 n box x->BQ (za2 n box x) w (.returned (.bool true)) U):=fun U hU h=>BQ.yes h (zac b1 hU);have HQF:Hid (∀ U,Below W1.heap.size W1 U->¬za2 n box x->BQ (za2 n box x) w (.returned (.bool false)) U):=fun U hU h=>BQ.no h (zac b1 hU);have hni9:ni<=17592186043904:=by have:=hO.2.1;unfold okI at this;omega
 have hno9:no<=17592186043904:=by have:=hO.2.2.2.2;unfold okI at this;omega
 have HBB:Hid (w.heap.size=B/\B+1=E):=⟨hB,hEB⟩;have HW:=zab hW1;clear k1 k2 b1 hB hEB hW1 hN hE hS hO hni hnc hno;obtain ⟨q0,q1,q2,q3,e0,e1,e2,e3,e4⟩:=HC.out W1 (Below.refl _ _)
 by_cases hnm:256 < x.nm.length
 ·have j0:(256:Int) < (x.nm.length:Int):=by omega
  have HQ:=zab (HQF.out W1 (Below.refl _ _) (fun h=>by have:=h.1;omega));clear HQT HQF HSD HL HZN hnm
  go_enter Tryz.func92,Tryz.ntmps92
  go_upto_region 1 with fail
  rw [HW.out,HBB.out.1,HBB.out.2]
  go_wp2_with fail
  go_ret
  exact HQ.out
 have j0:¬(256:Int) < (x.nm.length:Int):=by omega
 by_cases hn4:4 < no
 ·have j1:(4:Int) < (no:Int):=by omega
  have HQ:=zab (HQF.out W1 (Below.refl _ _) (fun h=>by have:=h.2.2.2.2.1;have:=HZN.out.2.2.2.2;omega));clear HQT HQF HSD HL HZN hn4
  go_enter Tryz.func92,Tryz.ntmps92
  go_upto_region 1 with fail
  rw [HW.out,HBB.out.1,HBB.out.2]
  go_wp2_with fail
  go_ret
  exact HQ.out
 have j1:¬(4:Int) < (no:Int):=by omega
 have HNM:Hid (x.nm.length<=256/\no<=4):=⟨by omega,by omega⟩
 go_enter Tryz.func92,Tryz.ntmps92
 go_upto_region 1 with fail
 rw [HW.out,HBB.out.1,HBB.out.2];clear hnm
 go_wp2_with fail
 clear q0 q1 q2 q3 e0 e1 e2 e3 e4
 go_loopw [7] (fun v7 wr=>∃ k:Nat,v7=.int .i64 (k:Int)/\k<=ni/\Hid ((∀ p∈x.ins.take k,zbt n box p true)/\(x.ins.take k).Pairwise (· < ·))/\Hid (Below W1.heap.size W1 wr)) (fun v7 _=>ni - (intOf v7).toNat)
 case atStart=>exact ⟨0,rfl,Nat.zero_le _,⟨fun p hp=>by simp at hp,by simp⟩,Below.refl _ _⟩
 case round=>
  obtain ⟨k,rfl,hk,HIN,HBW⟩:=hrel;obtain ⟨q0,q1,q2,q3,e0,e1,e2,e3,e4⟩:=HC.out wr HBW.out
  by_cases hlt:k < ni
  ·obtain ⟨z,hz⟩:∃ z,x.ins[k]?=some z:=⟨_,List.getElem?_eq_getElem (by have:=HZN.out.2.2.1;omega)⟩
   obtain ⟨gi,oi,rfl,i0⟩:=(HL.out wr HBW.out).1 k z hz;have HZ:Hid (∀ U,Below W1.heap.size W1 U->U.cell? ⟨gi,oi+k,none⟩=some (.int .i64 z)):=fun U hU=>by
    obtain ⟨g9,o9,e9,c9⟩:=(HL.out U hU).1 k z hz;have e9:=Option.some.inj e9;injection e9 with e91 e92;subst e91 e92;exact c9
   have j2:(0:Int)<=(k:Int):=by omega
   have j3:(k:Int) < (ni:Int):=by omega
   have HX:=zab hz;clear hz
   go_wp2_with fail
   refine zcg (C:=fun U=>Below wr.heap.size wr U) (by kernel_rfl) (by kernel_rfl) (show Below _ _ _ from (Below.refl _ _).drew) ?_
   go_big_quiet_want
   refine ⟨.agg #[.int .i64 n.bits,.slice pp n.ports.length cp,.slice pt n.tabs.length ct,.slice pg n.grds.length cg],fun W hW=>?_,?_⟩
   ·obtain ⟨q0,q1,q2,q3,e0,e1,e2,e3,e4⟩:=HC.out W (zac HBW.out hW)
    go_simp
   go_big_quiet_on
   simp only [Act.put,List.setIfInBounds_toArray,List.set_cons_zero,List.set_cons_succ]
   go_big_quiet_want
   refine ⟨.pointer (some ⟨E,1,none⟩),fun W hW=>?_,?_⟩
   ·go_simp
   go_big_quiet_on
   simp only [Act.put,List.setIfInBounds_toArray,List.set_cons_zero,List.set_cons_succ]
   go_big_quiet_want
   refine ⟨.slice (some ⟨gi,oi,none⟩) ni ci,fun W hW=>?_,?_⟩
   ·obtain ⟨q0,q1,q2,q3,e0,e1,e2,e3,e4⟩:=HC.out W (zac HBW.out hW)
    go_simp
   go_big_quiet_on
   simp only [Act.put,List.setIfInBounds_toArray,List.set_cons_zero,List.set_cons_succ]
   go_big_quiet_want
   refine ⟨.int .i64 (k:Int),fun W hW=>?_,?_⟩
   ·go_simp
   go_big_quiet_on
   simp only [Act.put,List.setIfInBounds_toArray,List.set_cons_zero,List.set_cons_succ]
   go_big_quiet_want
   refine ⟨.pointer (some ⟨gi,oi+k,none⟩),fun W hW=>?_,?_⟩
   ·go_simp
   go_big_quiet_on
   simp only [Act.put,List.setIfInBounds_toArray,List.set_cons_zero,List.set_cons_succ]
   go_big_quiet_want
   refine ⟨.int .i64 z,fun W hW=>?_,?_⟩
   ·have i0:=HZ.out W (zac HBW.out hW)
    go_simp
   go_big_quiet_on
   simp only [Act.put,List.setIfInBounds_toArray,List.set_cons_zero,List.set_cons_succ]
   go_big_quiet_want
   refine ⟨.int .i64 box,fun W hW=>?_,?_⟩
   ·go_simp
   go_big_quiet_on
   simp only [Act.put,List.setIfInBounds_toArray,List.set_cons_zero,List.set_cons_succ]
   go_big_quiet_want
   refine ⟨.bool (pb (zbt n box z true)),fun W hW=>?_,?_⟩
   ·go_simp
    refine (HSD.out W z true (zac HBW.out hW)).mono ?_;rintro e w7 ⟨rfl,hb⟩;exact ⟨rfl,zac hW hb⟩
   go_big_quiet_on
   simp only [Act.put,List.setIfInBounds_toArray,List.set_cons_zero,List.set_cons_succ]
   go_big_quiet_want
   go_big_quiet_op
   go_big_quiet_on
   refine wpQuiet_nil ?_;intro W5 hW5;have HB5:Hid (Below W1.heap.size W1 W5):=zac HBW.out hW5;clear q0 q1 q2 q3 e0 e1 e2 e3 e4 i0 hW5;obtain ⟨q0,q1,q2,q3,e0,e1,e2,e3,e4⟩:=HC.out W5 HB5.out;have i0:=HZ.out W5 HB5.out;cases hp:pb (zbt n box z true) with
   | false=>
    have HQ:=zab (HQF.out W5 HB5.out (fun h=>za6 hp (h.2.1.1 z (List.mem_of_getElem? HX.out))));clear hp HIN HQT HQF HX
    go_wp2_with fail
    go_quiet (fail)
    go_wp2_with fail
    go_ret
    exact ⟨HQ.out.1,za1 nq HQ.out.2⟩
   | true=>
    have HP1:=zab (za0.1 hp);clear hp;rcases Nat.eq_zero_or_pos k with hk0 | hk0
    ·subst hk0
     have HN1:Hid ((∀ p∈x.ins.take (0+1),zbt n box p true)/\(x.ins.take (0+1)).Pairwise (· < ·)):=⟨zba HX.out HIN.out.1 HP1.out,zkz HIN.out.2 HX.out (.inl rfl)⟩;clear HIN HP1 HQT HQF
     go_wp2_with fail
     go_quiet (fail)
     go_wp2_with fail
     go_roundw
     case rel=>exact ⟨0+1,by go_num,by omega,HN1,za1 nq HB5.out⟩
     case measure=>simp [intOf];omega
    ·obtain ⟨m,hk9⟩:∃ m,k=m+1:=⟨k - 1,by omega⟩
     obtain ⟨z2,hz2⟩:∃ z2,x.ins[m]?=some z2:=⟨_,List.getElem?_eq_getElem (by have:=HZN.out.2.2.1;omega)⟩;obtain ⟨g9,o9,e9,i1⟩:=(HL.out W5 HB5.out).1 m z2 hz2;have e9:=Option.some.inj e9;injection e9 with e91 e92;subst e91 e92;have y1:IntKind.i64.wrap ((k:Int) - 1)=(m:Int):=by rw [IntKind.wrap_i64];omega
     have j4:(0:Int) < (k:Int):=by omega
     have j5:(0:Int)<=(m:Int):=by omega
     have j6:(m:Int) < (ni:Int):=by omega
     by_cases hle:z<=z2
     ·have HQ:=zab (HQF.out W5 HB5.out (fun h=>by have:=pw_bad h.2.1.2 (show 0 < k by omega) (by rw [show k - 1=m by omega];exact hz2) HX.out;omega))
      clear HIN HP1 HQT HQF HX hk9 hz2
      go_wp2_with fail
      go_quiet (fail)
      go_wp2_with fail
      go_ret
      exact ⟨HQ.out.1,za1 nq HQ.out.2⟩
     ·have HN1:Hid ((∀ p∈x.ins.take (k+1),zbt n box p true)/\(x.ins.take (k+1)).Pairwise (· < ·)):=⟨zba HX.out HIN.out.1 HP1.out,zkz HIN.out.2 HX.out (.inr ⟨z2,by rw [show k - 1=m by omega];exact hz2,by omega⟩)⟩
      clear HIN HP1 HQT HQF HX hk9 hz2
      go_wp2_with fail
      go_quiet (fail)
      go_wp2_with fail
      go_roundw
      case rel=>exact ⟨k+1,by go_num,by omega,HN1,za1 nq HB5.out⟩
      case measure=>simp [intOf];omega
  ·obtain rfl:k=ni:=by omega
   have j3:¬(k:Int) < (k:Int):=by omega
   have HIN:Hid (InsP n box x.ins):=by
    have h1:=HIN.out;rw [List.take_of_length_le (by have:=HZN.out.2.2.1;omega)] at h1;exact h1
   obtain ⟨wo,rfl⟩:∃ wo,wo=wr:=⟨wr,rfl⟩
   go_wp2_with fail
   clear q0 q1 q2 q3 e0 e1 e2 e3 e4
   go_loopw [9] (fun v9 wr=>∃ i:Nat,v9=.int .i64 (i:Int)/\i<=no/\Hid ((∀ p∈x.outs.take i,zbt n box p false)/\(x.outs.take i).Nodup)/\Hid (Below W1.heap.size W1 wr)) (fun v9 _=>no - (intOf v9).toNat)
   case atStart=>exact ⟨0,rfl,Nat.zero_le _,⟨fun p hp=>by simp at hp,by simp⟩,HBW⟩
   case round=>
    clear HBW;obtain ⟨i,rfl,hi,HOU,HBW⟩:=hrel;obtain ⟨q0,q1,q2,q3,e0,e1,e2,e3,e4⟩:=HC.out wr HBW.out
    by_cases hlt2:i < no
    ·obtain ⟨z,hz⟩:∃ z,x.outs[i]?=some z:=⟨_,List.getElem?_eq_getElem (by have:=HZN.out.2.2.2.2;omega)⟩
     obtain ⟨gi,oi,rfl,i0⟩:=(HL.out wr HBW.out).2.2.2.2.1 i z hz;have HZ:Hid (∀ U,Below W1.heap.size W1 U->U.cell? ⟨gi,oi+i,none⟩=some (.int .i64 z)):=fun U hU=>by
      obtain ⟨g9,o9,e9,c9⟩:=(HL.out U hU).2.2.2.2.1 i z hz;have e9:=Option.some.inj e9;injection e9 with e91 e92;subst e91 e92;exact c9
     have j2:(0:Int)<=(i:Int):=by omega
     have j4:(i:Int) < (no:Int):=by omega
     have HX:=zab hz;clear hz
     go_wp2_with fail
     refine zcg (C:=fun U=>Below wr.heap.size wr U) (by kernel_rfl) (by kernel_rfl) (show Below _ _ _ from (Below.refl _ _).drew) ?_
     go_big_quiet_want
     refine ⟨.agg #[.int .i64 n.bits,.slice pp n.ports.length cp,.slice pt n.tabs.length ct,.slice pg n.grds.length cg],fun W hW=>?_,?_⟩
     ·obtain ⟨q0,q1,q2,q3,e0,e1,e2,e3,e4⟩:=HC.out W (zac HBW.out hW)
      go_simp
     go_big_quiet_on
     simp only [Act.put,List.setIfInBounds_toArray,List.set_cons_zero,List.set_cons_succ]
     go_big_quiet_want
     refine ⟨.pointer (some ⟨E,4,none⟩),fun W hW=>?_,?_⟩
     ·go_simp
     go_big_quiet_on
     simp only [Act.put,List.setIfInBounds_toArray,List.set_cons_zero,List.set_cons_succ]
     go_big_quiet_want
     refine ⟨.slice (some ⟨gi,oi,none⟩) no co,fun W hW=>?_,?_⟩
     ·obtain ⟨q0,q1,q2,q3,e0,e1,e2,e3,e4⟩:=HC.out W (zac HBW.out hW)
      go_simp
     go_big_quiet_on
     simp only [Act.put,List.setIfInBounds_toArray,List.set_cons_zero,List.set_cons_succ]
     go_big_quiet_want
     refine ⟨.int .i64 (i:Int),fun W hW=>?_,?_⟩
     ·go_simp
     go_big_quiet_on
     simp only [Act.put,List.setIfInBounds_toArray,List.set_cons_zero,List.set_cons_succ]
     go_big_quiet_want
     refine ⟨.pointer (some ⟨gi,oi+i,none⟩),fun W hW=>?_,?_⟩
     ·go_simp
     go_big_quiet_on
     simp only [Act.put,List.setIfInBounds_toArray,List.set_cons_zero,List.set_cons_succ]
     go_big_quiet_want
     refine ⟨.int .i64 z,fun W hW=>?_,?_⟩
     ·have i0:=HZ.out W (zac HBW.out hW)
      go_simp
     go_big_quiet_on
     simp only [Act.put,List.setIfInBounds_toArray,List.set_cons_zero,List.set_cons_succ]
     go_big_quiet_want
     refine ⟨.int .i64 box,fun W hW=>?_,?_⟩
     ·go_simp
     go_big_quiet_on
     simp only [Act.put,List.setIfInBounds_toArray,List.set_cons_zero,List.set_cons_succ]
     go_big_quiet_want
     refine ⟨.bool (pb (zbt n box z false)),fun W hW=>?_,?_⟩
     ·go_simp
      refine (HSD.out W z false (zac HBW.out hW)).mono ?_;rintro e w7 ⟨rfl,hb⟩;exact ⟨rfl,zac hW hb⟩
     go_big_quiet_on
     simp only [Act.put,List.setIfInBounds_toArray,List.set_cons_zero,List.set_cons_succ]
     go_big_quiet_want
     go_big_quiet_op
     go_big_quiet_on
     refine wpQuiet_nil ?_;intro W5 hW5;have HB5:Hid (Below W1.heap.size W1 W5):=zac HBW.out hW5;clear q0 q1 q2 q3 e0 e1 e2 e3 e4 i0 hW5;cases hp:pb (zbt n box z false) with
     | false=>
      have HQ:=zab (HQF.out W5 HB5.out (fun h=>za6 hp (h.2.2.2.2.2.1 z (List.mem_of_getElem? HX.out))));clear hp HIN HQT HQF HX
      go_wp2_with fail
      go_ret
      exact HQ.out
     | true=>
      have HP1:=zab (za0.1 hp);clear hp;obtain ⟨w5,rfl⟩:∃ w5,w5=W5:=⟨W5,rfl⟩
      go_wp2_with fail
      go_loopw [11] (fun v11 wr=>∃ j:Nat,v11=.int .i64 (j:Int)/\j<=i/\Hid (∀ j9 y,j9 < j->x.outs[j9]?=some y->y≠z)/\Hid (Below W1.heap.size W1 wr)) (fun v11 _=>i - (intOf v11).toNat)
      case atStart=>exact ⟨0,rfl,Nat.zero_le _,fun j9 y h9=>by omega,HB5⟩
      case round=>
       clear HB5 HBW;obtain ⟨j,rfl,hj,HDJ,HBW⟩:=hrel;obtain ⟨q0,q1,q2,q3,e0,e1,e2,e3,e4⟩:=HC.out wr HBW.out
       by_cases hlt3:j < i
       ·obtain ⟨z2,hz2⟩:∃ z2,x.outs[j]?=some z2:=⟨_,List.getElem?_eq_getElem (by have:=HZN.out.2.2.2.2;omega)⟩
        obtain ⟨g9,o9,e9,i1⟩:=(HL.out wr HBW.out).2.2.2.2.1 j z2 hz2;have e9:=Option.some.inj e9;injection e9 with e91 e92;subst e91 e92;have i0:=HZ.out wr HBW.out;have j5:(0:Int)<=(j:Int):=by omega
        have j6:(j:Int) < (i:Int):=by omega
        have j7:(j:Int) < (no:Int):=by omega
        by_cases heq:z2=z
        ·have y1:(z2==z)=true:=beq_iff_eq.2 heq
         have HQ:=zab (HQF.out wr HBW.out (fun h=>zqr h.2.2.2.2.2.2 hlt3 (heq ▸ hz2) HX.out));clear HDJ HQT HQF HX hz2 heq HP1 HOU HIN
         go_wp2_with fail
         go_quiet (fail)
         go_wp2_with fail
         go_ret
         exact ⟨HQ.out.1,za1 nq HQ.out.2⟩
        ·have y1:(z2==z)=false:=beq_eq_false_iff_ne.2 heq
         have HN1:Hid (∀ j9 y,j9 < j+1->x.outs[j9]?=some y->y≠z):=fun j9 y h9 hy=>by
          rcases Nat.lt_or_ge j9 j with h1 | h1
          ·exact HDJ.out j9 y h1 hy
          ·obtain rfl:j9=j:=by omega
           rw [hz2] at hy;rw [<-Option.some.inj hy];exact heq
         clear HDJ HQT HQF HX hz2 heq HP1 HOU HIN
         go_wp2_with fail
         go_quiet (fail)
         go_wp2_with fail
         go_roundw
         case rel=>exact ⟨j+1,by go_num,by omega,HN1,za1 nq HBW.out⟩
         case measure=>simp [intOf];omega
       ·obtain rfl:j=i:=by omega
        have j6:¬(j:Int) < (j:Int):=by omega
        have HN1:Hid ((∀ p∈x.outs.take (j+1),zbt n box p false)/\(x.outs.take (j+1)).Nodup):=⟨zba HX.out HOU.out.1 HP1.out,zle HOU.out.2 HX.out HDJ.out⟩;clear HDJ HQT HQF HX HP1 HOU HIN
        go_wp2_with fail
        go_roundw
        case rel=>exact ⟨j+1,by go_num,by omega,HN1,HBW⟩
        case measure=>simp [intOf];omega
    ·obtain rfl:i=no:=by omega
     have j4:¬(i:Int) < (i:Int):=by omega
     have HOU:Hid (zhg n box x.outs):=by
      have h1:=HOU.out;rw [List.take_of_length_le (by have:=HZN.out.2.2.2.2;omega)] at h1;exact ⟨by have:=HNM.out.2;have:=HZN.out.2.2.2.2;omega,h1.1,h1.2⟩
     obtain ⟨W6,hW6⟩:=ex (wr.alloc (Obj.cells #[.string ⟨x.wr.toArray⟩] 9));have b6:Below wr.heap.size wr W6:=by rw [<-hW6];exact zah (Below.refl _ _) _
     have hls:LS W6 (some ⟨wr.heap.size,0,none⟩) [x.wr]:=fun k y hy=>by
      have hk0:k=0:=by have:=(List.getElem?_eq_some_iff.1 hy).1;simpa using this
      subst hk0;have:y=x.wr:=by simpa using hy.symm
      subst this;refine ⟨wr.heap.size,0,rfl,?_⟩;rw [<-hW6,(zaf (zaa wr _)).1];rfl
     have HCW:=ze6 n.bits [x.wr] (some ⟨wr.heap.size,0,none⟩) 1 1 1 W6 rfl hls ⟨HZN.out.1.1,HZN.out.1.2.1⟩ ⟨by simp,fun y hy=>by (have h9:y=x.wr:=(by simpa using hy));rw [h9];exact HZN.out.2.1.2.2.2.1⟩;have HW6:=zab hW6;have HB6:Hid (Below W1.heap.size W1 W6):=zac HBW.out b6;clear hW6 b6 hls
     go_wp2_with fail
     rw [HW6.out];refine HCW.mono ?_;rintro en W7 ⟨rfl,b7⟩;have HB7:Hid (Below W1.heap.size W1 W7):=zac HB6.out b7;clear q0 q1 q2 q3 e0 e1 e2 e3 e4 b7 HCW;obtain ⟨q0,q1,q2,q3,e0,e1,e2,e3,e4⟩:=HC.out W7 HB7.out;cases hp:pb ([x.wr].length<=1/\∀ c∈[x.wr],za4 n.bits c) with
     | false=>
      have HQ:=zab (HQF.out W7 HB7.out (fun h=>za6 hp ⟨by simp,fun c hc=>by (have h9:c=x.wr:=(by simpa using hc));rw [h9];exact h.2.2.2.1⟩));clear hp HQT HQF HIN HOU
      go_wp2_with fail
      go_ret
      exact HQ.out
     | true=>
      have hwr:=(za0.1 hp).2 x.wr (by simp);have HPB:Hid (pb (x.cubes.length<=64/\∀ c∈x.cubes,za4 n.bits c)=pb (za2 n box x)):=by
       show pb _=pb _;cases h9:pb (x.cubes.length<=64/\∀ c∈x.cubes,za4 n.bits c) with
       | true=>exact (zck ⟨HNM.out.1,HIN.out,za0.1 h9,hwr,HOU.out⟩).symm
       | false=>exact (zfd (fun h=>za6 h9 h.2.2.1)).symm
      have HCC:Calls Tryz.prog 91 #[.int .i64 n.bits,.slice pc nc cc,.int .i64 64] W7 fun e w'=>e=.returned (.bool (pb (za2 n box x)))/\Below W7.heap.size W7 w':=by
       rw [<-HPB.out];exact ze6 n.bits x.cubes pc nc cc 64 W7 HZN.out.2.2.2.1 (HL.out W7 HB7.out).2.2.1 ⟨HZN.out.1.1,HZN.out.1.2.1⟩ HZN.out.2.1.2.2.1
      have HBF:Hid (∀ U,Below W7.heap.size W7 U->Below w.heap.size w U):=fun U hU=>(HQF.out U (zac HB7.out hU)) |> fun f=>by
       by_cases h9:za2 n box x
       ·exact (HQT.out U (zac HB7.out hU) h9).2
       ·exact (f h9).2
      clear hp HQT HQF HIN HOU hwr
      go_wp2_with fail
      refine HCC.mono ?_;rintro en W8 ⟨rfl,b8⟩;have HB8:=zab (HBF.out W8 b8);clear HCC b8
      go_wp2_with fail
      go_ret
      exact ⟨rfl,HB8.out⟩
set_option maxRecDepth 100000 in
set_option maxHeartbeats 8000000 in
theorem zjc (bits:Int) (c:List UInt8) (w:World) (hb:bits<=256):Calls Tryz.prog 121 #[.int .i64 bits,.string ⟨c.toArray⟩] w (BQ (za4 bits c) w):=by
 by_cases hl:(c.length:Int)=bits
 ·have y1:((c.length:Int)==bits)=true:=beq_iff_eq.2 hl
  have HT:=zl3 c w (by omega);have HTN:=zab (zl2 c);obtain ⟨T,hT⟩:=ex (Lib.trimS c [48,49,120]);rw [hT] at HT HTN;cases T with
  | nil=>
   have HQ:Hid (∀ U,Below w.heap.size w U->BQ (za4 bits c) w (.returned (.bool true)) U):=fun U hU=>BQ.yes ⟨hl,HTN.out.1 rfl⟩ hU;clear hT HTN hl
   go_enter Tryz.func121,Tryz.ntmps121
   go_wp2_with fail
   refine HT.mono ?_;rintro e W1 ⟨rfl,b1⟩;have HQ1:=zab (HQ.out W1 b1);clear HT b1 HQ
   go_wp2_with fail
   go_ret
   exact HQ1.out
  | cons t r=>
   have HQ:Hid (∀ U,Below w.heap.size w U->BQ (za4 bits c) w (.returned (.bool false)) U):=fun U hU=>BQ.no (fun h=>by have:=HTN.out.2 h.2;cases this) hU;clear hT HTN hl
   go_enter Tryz.func121,Tryz.ntmps121
   go_wp2_with fail
   refine HT.mono ?_;rintro e W1 ⟨rfl,b1⟩;have HQ1:=zab (HQ.out W1 b1);clear HT b1 HQ
   go_wp2_with fail
   go_ret
   exact HQ1.out
 ·have y1:((c.length:Int)==bits)=false:=beq_eq_false_iff_ne.2 hl
  have HQ:Hid (BQ (za4 bits c) w (.returned (.bool false)) w):=BQ.no (fun h=>hl h.1) (Below.refl _ _);clear hl
  go_enter Tryz.func121,Tryz.ntmps121
  go_wp2_with fail
  go_ret
  exact HQ.out
set_option maxRecDepth 100000 in
set_option maxHeartbeats 8000000 in
theorem znj (bits:Int) (c:List UInt8) (b:Nat) (w:World) (hb:bits<=256) (hc:w.cell? ⟨b,0,none⟩=some (.int .i64 bits)):Calls Tryz.prog 120 #[.string ⟨c.toArray⟩,.pointer (some ⟨b,0,none⟩)] w fun e w'=>e=.returned (.bool (!pb (za4 bits c)))/\Below w.heap.size w w':=by
 have HT:=zjc bits c w hb;obtain ⟨q,hq⟩:=ex (pb (za4 bits c));have HT:Calls Tryz.prog 121 #[.int .i64 bits,.string ⟨c.toArray⟩] w fun e w'=>e=.returned (.bool q)/\Below w.heap.size w w':=by rw [<-hq];exact HT
 rw [hq];clear hb hq
 go_enter Tryz.func120,Tryz.ntmps120
 go_wp2_with fail
 refine HT.mono ?_;rintro e W1 ⟨rfl,b1⟩;have HB1:=zab b1;clear HT b1
 go_wp2_with fail
 go_ret
 exact ⟨rfl,HB1.out⟩
def NumP (n:NN) (p:Int):Prop:=0<=p/\p < (n.ports.length:Int)
def IXQ (bits:Int) (L:List (List UInt8)) (w:World) (e:Ending) (w':World):Prop:=∃ z:Int,e=.returned (.int .i64 z)/\((0<=z)↔¬∀ c∈L,za4 bits c)/\Below w.heap.size w w'
set_option maxRecDepth 100000 in
set_option maxHeartbeats 8000000 in
theorem xidx_any (bits:Int) (L:List (List UInt8)) (p:Option Addr) (n c b:Nat) (w:World) (hb:bits<=256) (hn:L.length=n) (hn9:n<=17592186043904) (hL:LS w p L) (hc:w.cell? ⟨b,0,none⟩=some (.int .i64 bits)) :
  Calls Tryz.prog 127 #[.slice p n c,.func (.func 120) #[] #[.pointer (some ⟨b,0,none⟩)]] w (IXQ bits L w):=by
 have HN:Hid (L.length=n/\bits<=256):=⟨hn,hb⟩;have HL:Hid (∀ U,Below w.heap.size w U->LS U p L/\U.cell? ⟨b,0,none⟩=some (.int .i64 bits)):=fun U hU=>⟨hL.below hU,zao hU hc⟩;clear hb hn hL hc
 go_enter Tryz.func127,Tryz.ntmps127
 go_wp2_with fail
 go_loopw [8] (fun vk wr=>∃ k:Nat,vk=.int .i64 (k:Int)/\k<=n/\Hid (∀ c∈L.take k,za4 bits c)/\Hid (Below w.heap.size w wr)) (fun vk _=>n - (intOf vk).toNat)
 case atStart=>exact ⟨0,rfl,Nat.zero_le _,fun c hc=>by simp at hc,Below.refl _ _⟩
 case round=>
  obtain ⟨k,rfl,hk,HOK,HB⟩:=hrel
  by_cases hlt:k < n
  ·obtain ⟨x,hx⟩:∃ x,L[k]?=some x:=⟨_,List.getElem?_eq_getElem (by have:=HN.out.1;omega)⟩
   obtain ⟨g,o,rfl,c0⟩:=(HL.out wr HB.out).1 k x hx;have H1:=znj bits x b wr HN.out.2 (HL.out wr HB.out).2;have j1:(k:Int) < (n:Int):=by omega
   have j0:(0:Int)<=(k:Int):=by omega
   have HX:=zab hx;clear hx;cases hp:pb (za4 bits x) with
   | false=>
    rw [hp] at H1;have HQ:Hid (∀ U,Below wr.heap.size wr U->IXQ bits L w (.returned (.int .i64 (k:Int))) U):=fun U hU=>⟨k,rfl,⟨fun _ h=>za6 hp (h x (List.mem_of_getElem? HX.out)),fun _=>j0⟩,zac HB.out hU⟩;clear hp HOK HX
    go_wp2_with fail
    refine H1.mono ?_;rintro e W1 ⟨rfl,b1⟩;have HQ1:=zab (HQ.out W1 b1);clear H1 b1 HQ
    go_wp2_with fail
    go_ret
    exact HQ1.out
   | true=>
    rw [hp] at H1;have HN1:Hid (∀ c∈L.take (k+1),za4 bits c):=zba HX.out HOK.out (za0.1 hp);clear hp HOK HX
    go_wp2_with fail
    refine H1.mono ?_;rintro e W1 ⟨rfl,b1⟩;have HB1:Hid (Below w.heap.size w W1):=zac HB.out b1;clear H1 b1
    go_wp2_with fail
    go_roundw
    case rel=>exact ⟨k+1,by go_num,by omega,HN1,HB1⟩
    case measure=>simp [intOf];omega
  ·obtain rfl:k=n:=by omega
   have j1:¬(k:Int) < (k:Int):=by omega
   have HQ:Hid (IXQ bits L w (.returned (.int .i64 (-1))) wr):=⟨-1,rfl,⟨fun h=>by omega,fun h=>absurd (by have h1:=HOK.out;rw [List.take_of_length_le (by have:=HN.out.1;omega)] at h1;exact h1) h⟩,HB.out⟩;clear HOK
   go_wp2_with fail
   go_ret
   exact HQ.out
set_option maxRecDepth 100000 in
set_option maxHeartbeats 8000000 in
theorem zo0 (bits:Int) (L:List (List UInt8)) (p:Option Addr) (n c b:Nat) (w:World) (hb:bits<=256) (hn:L.length=n) (hn9:n<=17592186043904) (hL:LS w p L) (hc:w.cell? ⟨b,0,none⟩=some (.int .i64 bits)) :
  Calls Tryz.prog 119 #[.slice p n c,.func (.func 120) #[] #[.pointer (some ⟨b,0,none⟩)]] w fun e w'=>e=.returned (.bool (!pb (∀ c∈L,za4 bits c)))/\Below w.heap.size w w':=by
 have H1:=xidx_any bits L p n c b w hb hn hn9 hL hc;obtain ⟨q,hq⟩:=ex ((!pb (∀ c∈L,za4 bits c)));have HQ:Hid (∀ z:Int,((0<=z)↔¬∀ c∈L,za4 bits c)->q=decide (0<=z)):=fun z hz=>by
  rw [<-hq]
  by_cases h:0<=z
  ·rw [decide_eq_true h,zfd (hz.1 h)];rfl
  ·rw [decide_eq_false h,zck (Classical.byContradiction (fun h9=>h (hz.2 h9)))];rfl
 rw [hq];clear hb hn hn9 hL hc hq
 go_enter Tryz.func119,Tryz.ntmps119
 go_wp2_with fail
 refine H1.mono ?_;rintro e W1 ⟨z,rfl,hz,b1⟩;have HB1:=zab b1;have HQ1:=zab (HQ.out z hz);clear H1 b1 HQ hz
 by_cases h0:(0:Int)<=z
 ·go_wp2_with fail
  go_ret
  exact ⟨by rw [HQ1.out,decide_eq_true h0];rfl,HB1.out⟩
 ·have HQ2:Hid (q=false/\decide (0<=z)=false):=⟨by rw [HQ1.out,decide_eq_false h0],decide_eq_false h0⟩
  go_wp2_with fail
  go_ret
  exact ⟨by rw [HQ2.out.1];show Ending.returned (Value.bool (decide (0<=z)))=_;rw [HQ2.out.2],HB1.out⟩
set_option maxRecDepth 100000 in
set_option maxHeartbeats 8000000 in
theorem zhh (bits:Int) (L:List (List UInt8)) (p:Option Addr) (n c:Nat) (w:World) (hb:bits<=256) (hn:L.length=n) (hn9:n<=17592186043904) (hL:LS w p L) :
  Calls Tryz.prog 111 #[.int .i64 bits,.slice p n c] w (BQ (zb1 bits L) w):=by
 obtain ⟨W1,hW1⟩:=ex (w.alloc (Obj.cells #[.int .i64 bits] 3));have b1:Below w.heap.size w W1:=by rw [<-hW1];exact zah (Below.refl _ _) _
 obtain ⟨B,hB⟩:=ex w.heap.size;have k1:W1.cell? ⟨B,0,none⟩=some (.int .i64 bits):=by rw [<-hW1,<-hB,(zaf (zaa w _)).1];rfl
 have HW:=zab hW1;have HBB:=zab hB
 by_cases h64:64 < n
 ·have j0:(64:Int) < (n:Int):=by omega
  have HQ:Hid (BQ (zb1 bits L) w (.returned (.bool false)) W1):=BQ.no (fun h=>by have:=h.1;omega) b1;clear hb hn hn9 hL b1 k1 hW1 hB h64
  go_enter Tryz.func111,Tryz.ntmps111
  go_upto_region 1 with fail
  rw [HW.out,HBB.out]
  go_wp2_with fail
  go_ret
  exact HQ.out
 ·have j0:¬(64:Int) < (n:Int):=by omega
  have HC:=zo0 bits L p n c B W1 hb hn hn9 (hL.below b1) k1;have HPB:Hid (pb (∀ c∈L,za4 bits c)=pb (zb1 bits L)):=by
   show pb _=pb _;cases h9:pb (∀ c∈L,za4 bits c) with
   | true=>exact (zck ⟨by omega,za0.1 h9⟩).symm
   | false=>exact (zfd (fun h=>za6 h9 h.2)).symm
  have HB1:=zab b1;rw [HPB.out] at HC;clear hb hn hn9 hL b1 k1 hW1 hB h64 HPB
  go_enter Tryz.func111,Tryz.ntmps111
  go_upto_region 1 with fail
  rw [HW.out,HBB.out]
  go_wp2_with fail
  refine HC.mono ?_;rintro e W2 ⟨rfl,b2⟩;have HB2:Hid (Below w.heap.size w W2):=zac HB1.out b2;clear HC b2;cases hp:pb (zb1 bits L) with
  | true=>
   have HQ:=zab (BQ.yes (za0.1 hp) HB2.out);clear hp
   go_wp2_with fail
   go_ret
   exact HQ.out
  | false=>
   have HQ:=zab (BQ.no (za6 hp) HB2.out);clear hp
   go_wp2_with fail
   go_ret
   exact HQ.out
set_option maxRecDepth 100000 in
set_option maxHeartbeats 8000000 in
theorem zlu (n:NN) (v:NV) (p:Int) (w:World) (hN:LN w n v) :
  Calls Tryz.prog 118 #[.agg (nnA n v),.int .i64 p] w (BQ (NumP n p) w):=by
 obtain ⟨pp,cp,pt,ct,pg,cg⟩:=v;unfold nnA;simp only at hN ⊢;obtain ⟨W1,hW1⟩:=ex (w.alloc (Obj.cells #[.int .i64 n.bits,.slice pp n.ports.length cp,.slice pt n.tabs.length ct,.slice pg n.grds.length cg] 26));have b1:Below w.heap.size w W1:=by rw [<-hW1];exact zah (Below.refl _ _) _
 obtain ⟨B,hB⟩:=ex w.heap.size;have k1:W1.heap[B]?=some (.cells #[.int .i64 n.bits,.slice pp n.ports.length cp,.slice pt n.tabs.length ct,.slice pg n.grds.length cg] 26 (0,0)):=by rw [<-hW1,<-hB];exact zaa _ _
 have HC:Hid (∀ U,Below W1.heap.size W1 U->U.cell? ⟨B,0,none⟩=some (.int .i64 n.bits)/\U.cell? ⟨B,1,none⟩=some (.slice pp n.ports.length cp)/\U.cell? ⟨B,2,none⟩=some (.slice pt n.tabs.length ct)/\U.cell? ⟨B,3,none⟩=some (.slice pg n.grds.length cg)):=fun U hU=>by
  have:=(zaf (zae hU k1)).1;exact ⟨by rw [this];rfl,by rw [this];rfl,by rw [this];rfl,by rw [this];rfl⟩
 have HNN:Hid (∀ U,Below W1.heap.size W1 U->LN U n ⟨pp,cp,pt,ct,pg,cg⟩):=fun U hU=>hN.below (zac b1 hU);have HB1:=zab b1;have HBB:=zab hB;have HW:=zab hW1;clear k1 b1 hB hW1 hN;obtain ⟨q0,q1,q2,q3⟩:=HC.out W1 (Below.refl _ _)
 by_cases h0:(0:Int)<=p
 ·by_cases h1:p < (n.ports.length:Int)
  ·have HQ:=zab (BQ.yes (P:=NumP n p) ⟨h0,h1⟩ HB1.out)
   clear HNN HC
   go_enter Tryz.func118,Tryz.ntmps118
   go_upto_region 1 with fail
   rw [HW.out,HBB.out]
   go_wp2_with fail
   go_ret
   exact HQ.out
  ·have HQ:=zab (BQ.no (P:=NumP n p) (fun h=>h1 h.2) HB1.out)
   clear HNN HC
   go_enter Tryz.func118,Tryz.ntmps118
   go_upto_region 1 with fail
   rw [HW.out,HBB.out]
   go_wp2_with fail
   go_ret
   exact HQ.out
 ·have HQ:=zab (BQ.no (P:=NumP n p) (fun h=>h0 h.1) HB1.out)
  clear HNN HC
  go_enter Tryz.func118,Tryz.ntmps118
  go_upto_region 1 with fail
  rw [HW.out,HBB.out]
  go_wp2_with fail
  go_ret
  exact HQ.out
set_option maxRecDepth 100000 in
set_option maxHeartbeats 8000000 in
theorem zoz (n:NN) (v:NV) (box p:Int) (b:Bool) (w:World) (hN:LN w n v) :
  Calls Tryz.prog 129 #[.agg (nnA n v),.int .i64 box,.int .i64 p,.bool b] w (BQ (zbt n box p b) w):=by
 obtain ⟨pp,cp,pt,ct,pg,cg⟩:=v;unfold nnA;simp only at hN ⊢;obtain ⟨W1,hW1⟩:=ex (w.alloc (Obj.cells #[.int .i64 n.bits,.slice pp n.ports.length cp,.slice pt n.tabs.length ct,.slice pg n.grds.length cg] 26));have b1:Below w.heap.size w W1:=by rw [<-hW1];exact zah (Below.refl _ _) _
 obtain ⟨B,hB⟩:=ex w.heap.size;have k1:W1.heap[B]?=some (.cells #[.int .i64 n.bits,.slice pp n.ports.length cp,.slice pt n.tabs.length ct,.slice pg n.grds.length cg] 26 (0,0)):=by rw [<-hW1,<-hB];exact zaa _ _
 have HC:Hid (∀ U,Below W1.heap.size W1 U->U.cell? ⟨B,0,none⟩=some (.int .i64 n.bits)/\U.cell? ⟨B,1,none⟩=some (.slice pp n.ports.length cp)/\U.cell? ⟨B,2,none⟩=some (.slice pt n.tabs.length ct)/\U.cell? ⟨B,3,none⟩=some (.slice pg n.grds.length cg)):=fun U hU=>by
  have:=(zaf (zae hU k1)).1;exact ⟨by rw [this];rfl,by rw [this];rfl,by rw [this];rfl,by rw [this];rfl⟩
 have HNN:Hid (∀ U,Below W1.heap.size W1 U->LN U n ⟨pp,cp,pt,ct,pg,cg⟩):=fun U hU=>hN.below (zac b1 hU);have HB1:=zab b1;have HBB:=zab hB;have HW:=zab hW1;clear k1 b1 hB hW1 hN;have HNU:Calls Tryz.prog 118 #[.agg #[.int .i64 n.bits,.slice pp n.ports.length cp,.slice pt n.tabs.length ct,.slice pg n.grds.length cg],.int .i64 p] W1 (BQ (NumP n p) W1):=zlu n ⟨pp,cp,pt,ct,pg,cg⟩ p W1 (HNN.out W1 (Below.refl _ _));obtain ⟨q0,q1,q2,q3⟩:=HC.out W1 (Below.refl _ _)
 go_enter Tryz.func129,Tryz.ntmps129
 go_upto_region 1 with fail
 rw [HW.out,HBB.out]
 go_wp2_with fail
 refine HNU.mono ?_;rintro e W2 ⟨rfl,b2⟩;have HB2:Hid (Below w.heap.size w W2):=zac HB1.out b2;have hP:=(HNN.out W2 b2).1;clear HNU q0 q1 q2 q3;obtain ⟨q0,q1,q2,q3⟩:=HC.out W2 b2;clear b2;cases hp:pb (NumP n p) with
 | false=>
  have HQ:=zab (BQ.no (P:=zbt n box p b) (fun h=>za6 hp ⟨h.1,h.2.1⟩) HB2.out);clear hp hP HNN HC
  go_wp2_with fail
  go_ret
  exact HQ.out
 | true=>
  obtain ⟨h0,h1⟩:=za0.1 hp;obtain ⟨k,rfl⟩:∃ k:Nat,p=(k:Int):=⟨p.toNat,by omega⟩;obtain ⟨x,hx⟩:∃ x,n.ports[k]?=some x:=⟨_,List.getElem?_eq_getElem (by omega)⟩;obtain ⟨g,o,e,c0,c1,c2,c3⟩:=hP k x hx;simp only at e;subst e;have hpa:=zdr hx;have HX:Hid (zbt n box (k:Int) b↔(x.bx=box/\x.inn=b)):=by
   show _↔_;unfold zbt;rw [hpa];exact ⟨fun h=>⟨h.2.2.1,h.2.2.2⟩,fun h=>⟨h0,h1,h.1,h.2⟩⟩
  clear hP hx hpa HNN HC hp
  by_cases hb:x.bx=box
  ·have y1:(x.bx==box)=true:=beq_iff_eq.2 hb
   by_cases hi:x.inn=b
   ·have HQ:=zab (BQ.yes (HX.out.2 ⟨hb,hi⟩) HB2.out)
    clear HX hb;rw [hi] at c2;clear hi
    go_wp2_with fail
    go_ret
    exact HQ.out
   ·have HQ:=zab (BQ.no (fun h=>hi (HX.out.1 h).2) HB2.out)
    have hnb:x.inn=!b:=by cases hh:x.inn <;> cases b <;> simp_all
    clear HX hb hi;rw [hnb] at c2;clear hnb;cases b with
    | false=>
     go_wp2_with fail
     go_ret
     exact HQ.out
    | true=>
     go_wp2_with fail
     go_ret
     exact HQ.out
  ·have y1:(x.bx==box)=false:=beq_eq_false_iff_ne.2 hb
   have HQ:=zab (BQ.no (fun h=>hb (HX.out.1 h).1) HB2.out);clear HX hb
   go_wp2_with fail
   go_ret
   exact HQ.out
end Go.Proofs.YtmfakcfmkmppfaaGreatDoor.Nt
