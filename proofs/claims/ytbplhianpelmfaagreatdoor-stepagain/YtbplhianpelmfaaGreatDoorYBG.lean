import Derived.Test.YtbplhianpelmfaaGreatDoorYBF
namespace Go.Proofs.YtbplhianpelmfaaGreatDoor.Nt
open Go.RowKit Go.Shelf
theorem within_q {bits:Int} {h c:List UInt8} (hh:HdP bits h) (hc:CubeP bits c) (h1:1≤bits) (h2:bits≤256) (w:World):Calls Tryz.prog 75 #[Tn.cubeV h,Tn.cubeV c] w fun e w'=>e=.returned (.bool (Tn.hasB c h))∧Below w.heap.size w w':=by
 have h9:=Tn.within_any h c w (cubeP_good (hdP_cube hh) h2) (cubeP_good hc h2)
 rw [wi_has hh hc h1] at h9
 exact h9
set_option maxRecDepth 100000 in
set_option maxHeartbeats 16000000 in
theorem letsBy_any (n:NN) (v:NV) (np nt ng:Nat) (p:Int) (h:List UInt8) (w:World) (hW:NW w n v) (hV:NetP n) (hp0:0≤p) (hp1:p < (n.ports.length:Int)) (hh:HdP n.bits h) (hng:n.grds.length=ng) :
  Calls Tryz.prog 62 #[.agg #[.slice v.pp np v.cp,.slice v.pt nt v.ct,.slice v.pg ng v.cg],.int .i64 p,Tn.cubeV h] w fun e w'=>e=.returned (.bool (lets (grdAt n p) h))∧Below w.heap.size w w':=by
 obtain ⟨pp,cp,pt,ct,pg,cg⟩:=v
 simp only at hW ⊢
 obtain ⟨a0,a1,a2,a3,a4,a5,a6,a7,a8,h9⟩:=c9_ex h
 rw [h9.agg]
 obtain ⟨hg1,hg2⟩:=hV.grd hp0 hp1
 obtain ⟨pk,hpk⟩:∃ pk:Nat,p=(pk:Int):=⟨p.toNat,by omega⟩
 subst hpk
 rw [Int.toNat_natCast] at hg1
 obtain ⟨G,hG⟩:∃ G,grdAt n (pk:Int)=G:=⟨_,rfl⟩
 rw [hG] at hg1 hg2 ⊢
 obtain ⟨g,o,q,c,e9,k0,hlx⟩:=hW.2.2 pk G hg1
 simp only at e9
 subst e9
 obtain ⟨m,hm⟩:∃ m,G.length=m:=⟨_,rfl⟩
 rw [hm] at k0
 have hpg:pk < ng:=by rw [←hng];exact (List.getElem?_eq_some_iff.1 hg1).1
 have hmo:m≤64:=by
  have h1:=hV.2.1
  have h2:G.length≤totG n:=le_sum_mem (List.mem_map.2 ⟨G,List.mem_of_getElem? hg1,rfl⟩)
  omega
 obtain ⟨B,hB⟩:∃ B,w.heap.size=B:=⟨_,rfl⟩
 obtain ⟨b2,hb2⟩:∃ b2,w.heap.size+1=b2:=⟨_,rfl⟩
 obtain ⟨W1,hW1⟩:∃ W1,(w.alloc (.cells #[.slice pp np cp,.slice pt nt ct,.slice (some ⟨g,o,none⟩) ng cg] 72)).alloc (.cells #[.int .i64 a0,.int .u64 a1,.int .u64 a2,.int .u64 a3,.int .u64 a4,.int .u64 a5,.int .u64 a6,.int .u64 a7,.int .u64 a8] 79)=W1:=⟨_,rfl⟩
 have hz2:(w.alloc (.cells #[.slice pp np cp,.slice pt nt ct,.slice (some ⟨g,o,none⟩) ng cg] 72)).heap.size=w.heap.size+1:=Array.size_push _
 have b1:Below w.heap.size w W1:=by rw [←hW1];exact belAZ (belAZ (Below.refl _ _) _) _
 have k1:W1.heap[B]?=some (.cells #[.slice pp np cp,.slice pt nt ct,.slice (some ⟨g,o,none⟩) ng cg] 72 (0,0)):=by rw [←hW1,←hB];exact keepZ (belAZ (Below.refl _ _) _) (alloc_getZ _ _)
 have k2:W1.heap[b2]?=some (.cells #[.int .i64 a0,.int .u64 a1,.int .u64 a2,.int .u64 a3,.int .u64 a4,.int .u64 a5,.int .u64 a6,.int .u64 a7,.int .u64 a8] 79 (0,0)):=by rw [←hW1,←hb2,←hz2];exact alloc_getZ _ _
 have HC:Hid (∀ U,Below W1.heap.size W1 U→(U.cell? ⟨B,0,none⟩=some (.slice pp np cp)∧U.cell? ⟨B,1,none⟩=some (.slice pt nt ct)∧U.cell? ⟨B,2,none⟩=some (.slice (some ⟨g,o,none⟩) ng cg))∧(U.cell? ⟨b2,0,none⟩=some (.int .i64 a0)∧U.cell? ⟨b2,1,none⟩=some (.int .u64 a1)∧U.cell? ⟨b2,2,none⟩=some (.int .u64 a2)∧U.cell? ⟨b2,3,none⟩=some (.int .u64 a3)∧U.cell? ⟨b2,4,none⟩=some (.int .u64 a4)∧U.cell? ⟨b2,5,none⟩=some (.int .u64 a5)∧U.cell? ⟨b2,6,none⟩=some (.int .u64 a6)∧U.cell? ⟨b2,7,none⟩=some (.int .u64 a7)∧U.cell? ⟨b2,8,none⟩=some (.int .u64 a8))∧U.cell? ⟨g,o+pk,none⟩=some (.slice q m c)):=fun U hU=>by
  have e1:=(cellsZ (keepZ hU k1)).1
  have e2:=(cellsZ (keepZ hU k2)).1
  exact ⟨⟨by rw [e1];rfl,by rw [e1];rfl,by rw [e1];rfl⟩,⟨by rw [e2];rfl,by rw [e2];rfl,by rw [e2];rfl,by rw [e2];rfl,by rw [e2];rfl,by rw [e2];rfl,by rw [e2];rfl,by rw [e2];rfl,by rw [e2];rfl⟩,keepC (bel0Z b1 hU) k0⟩
 have HL:Hid (∀ U,Below W1.heap.size W1 U→LXL U q G∧Below w.heap.size w U):=fun U hU=>⟨hlx.below (bel0Z b1 hU),bel0Z b1 hU⟩
 have HN:Hid (G.length=m∧LinesP n.bits G∧HdP n.bits h∧1≤n.bits∧n.bits≤256∧m≤64):=⟨hm,hg2,hh,hV.bits.1,hV.bits.2,hmo⟩
 have H9:Hid (C9 h a0 a1 a2 a3 a4 a5 a6 a7 a8):=h9
 have HB:=hideL hB
 have HB2:=hideL hb2
 have HW1:=hideL hW1
 have j0:(0:Int)≤(pk:Int):=by omega
 have j1:(pk:Int) < (ng:Int):=by omega
 have hm7:m≤140737488351232:=by omega
 obtain ⟨bz,hbz⟩:∃ bz,((m:Int)==0)=bz:=⟨_,rfl⟩
 have HBZ:Hid (G.isEmpty=bz):=by
  rw [←hbz,←hm]
  cases G with
  | nil=>rfl
  | cons x G=>
   show false=(((x :: G).length:Int)==0)
   rw [List.length_cons]
   symm
   rw [beq_eq_false_iff_ne]
   omega
 clear h9 hW hV hp0 hp1 hh hng hg1 hg2 hG hm hpg hmo hB hb2 hW1 hz2 b1 k1 k2 k0 hlx
 obtain ⟨⟨q0,q1,q2⟩,⟨r0,r1,r2,r3,r4,r5,r6,r7,r8⟩,k0⟩:=HC.out W1 (Below.refl _ _)
 go_enter Tryz.func62,Tryz.ntmps62
 go_upto_region 1 with fail
 rw [HW1.out,HB2.out,HB.out]
 refine wp_scope_straight ?_
 go_wp2_with fail
 refine wp_label ?_
 go_wp2_with fail
 clear q0 q1 q2 k0
 clear r0 r1 r2 r3 r4 r5 r6 r7 r8
 go_loopw [8,23] (fun v8 vk wr=>∃ k:Nat,v8=.bool bz∧vk=.int .i64 (k:Int)∧k≤m∧Hid (Below W1.heap.size W1 wr∧∀ (i:Nat) l,i < k→G[i]?=some l→hasAny l.cubes h=false)) (fun _ vk _=>m - (intOf vk).toNat)
 case atStart=>exact ⟨0,rfl,rfl,Nat.zero_le _,Below.refl _ _,fun i l hi=>by omega⟩
 case round=>
  obtain ⟨k,rfl,rfl,hk,HS⟩:=hrel
  obtain ⟨⟨q0,q1,q2⟩,⟨r0,r1,r2,r3,r4,r5,r6,r7,r8⟩,k0⟩:=HC.out wr HS.out.1
  by_cases hlt:k < m
  ·obtain ⟨x,hx⟩:∃ x,G[k]?=some x:=⟨_,List.getElem?_eq_getElem (by have:=HN.out.1;omega)⟩
   obtain ⟨gl,ol,pc,cc,e9,u0,u1,hrow⟩:=(HL.out wr HS.out.1).1 k x hx
   subst e9
   obtain ⟨nc,hnc⟩:∃ nc,x.cubes.length=nc:=⟨_,rfl⟩
   rw [hnc] at u1
   have hx2:=HN.out.2.1.1 x (List.mem_of_getElem? hx)
   obtain ⟨W4,hW4⟩:∃ W4,wr.alloc (Obj.cells #[.bool x.pm,.slice pc nc cc] 109)=W4:=⟨_,rfl⟩
   have b4:Below wr.heap.size wr W4:=by rw [←hW4];exact belAZ (Below.refl _ _) _
   obtain ⟨rb,hrb⟩:∃ rb,wr.heap.size=rb:=⟨_,rfl⟩
   have s4:W4.heap[rb]?=some (.cells #[.bool x.pm,.slice pc nc cc] 109 (0,0)):=by rw [←hW4,←hrb];exact alloc_getZ _ _
   have HD:Hid (∀ U,Below W4.heap.size W4 U→U.cell? ⟨rb,0,none⟩=some (.bool x.pm)∧U.cell? ⟨rb,1,none⟩=some (.slice pc nc cc)∧RowL 9 cubC U pc x.cubes∧Below W1.heap.size W1 U):=fun U hU=>by
    have e1:=(cellsZ (keepZ hU s4)).1
    exact ⟨by rw [e1];rfl,by rw [e1];rfl,hrow.below (bel0Z b4 hU),bel0Z HS.out.1 (bel0Z b4 hU)⟩
   have HX:=hideL hx
   have HXC:Hid (x.cubes.length=nc∧CubesP n.bits x.cubes):=⟨hnc,hx2⟩
   have hnc7:nc≤140737488351232:=by have:=hx2.1;omega
   have HW4:=hideL hW4
   have HRB:=hideL hrb
   have j2:(0:Int)≤(k:Int):=by omega
   have j3:(k:Int) < (m:Int):=by omega
   clear hx hnc hx2 hW4 b4 hrb s4 hrow
   go_upto_region 6 with fail
   rw [HW4.out,HRB.out]
   clear q0 q1 q2 k0 u0 u1
   clear r0 r1 r2 r3 r4 r5 r6 r7 r8
   obtain ⟨v0,v1,-,-⟩:=HD.out W4 (Below.refl _ _)
   obtain ⟨⟨q0,q1,q2⟩,⟨r0,r1,r2,r3,r4,r5,r6,r7,r8⟩,k0⟩:=HC.out W4 (HD.out W4 (Below.refl _ _)).2.2.2
   go_wp2_with fail
   clear q0 q1 q2 k0 v0 v1
   clear r0 r1 r2 r3 r4 r5 r6 r7 r8
   go_loopw [8,30] (fun v8 vj wr=>∃ j:Nat,v8=.bool bz∧vj=.int .i64 (j:Int)∧j≤nc∧Hid (Below W4.heap.size W4 wr∧∀ (i:Nat) c,i < j→x.cubes[i]?=some c→Tn.hasB c h=false)) (fun _ vj _=>nc - (intOf vj).toNat)
   case atStart=>exact ⟨0,rfl,rfl,Nat.zero_le _,Below.refl _ _,fun i l hi=>by omega⟩
   case round=>
    obtain ⟨j,rfl,rfl,hj,HJ⟩:=hrel
    obtain ⟨v0,v1,hrow,hb1⟩:=HD.out wr HJ.out.1
    obtain ⟨⟨q0,q1,q2⟩,⟨r0,r1,r2,r3,r4,r5,r6,r7,r8⟩,k0⟩:=HC.out wr hb1
    by_cases hlt2:j < nc
    ·obtain ⟨y,hy⟩:∃ y,x.cubes[j]?=some y:=⟨_,List.getElem?_eq_getElem (by have:=HXC.out.1;omega)⟩
     obtain ⟨gy,oy,e9,hcy⟩:=hrow j y hy
     subst e9
     obtain ⟨d0,d1,d2,d3,d4,d5,d6,d7,d8,h8⟩:=c9_ex y
     have hcy9:∀ (i:Nat) (v:Value),([.int .i64 d0,.int .u64 d1,.int .u64 d2,.int .u64 d3,.int .u64 d4,.int .u64 d5,.int .u64 d6,.int .u64 d7,.int .u64 d8]:List Value)[i]?=some v→wr.cell? ⟨gy,oy+j*9+i,none⟩=some v:=fun i v hv=>hcy i v (by rw [show cubC y=_ from h8];exact hv)
     have y0:=hcy9 0 _ rfl
     have y1:=hcy9 1 _ rfl
     have y2:=hcy9 2 _ rfl
     have y3:=hcy9 3 _ rfl
     have y4:=hcy9 4 _ rfl
     have y5:=hcy9 5 _ rfl
     have y6:=hcy9 6 _ rfl
     have y7:=hcy9 7 _ rfl
     have y8:=hcy9 8 _ rfl
     rw [Nat.add_zero] at y0
     obtain ⟨W5,hW5⟩:∃ W5,wr.alloc (Obj.cells #[.int .i64 d0,.int .u64 d1,.int .u64 d2,.int .u64 d3,.int .u64 d4,.int .u64 d5,.int .u64 d6,.int .u64 d7,.int .u64 d8] 79)=W5:=⟨_,rfl⟩
     have b5:Below wr.heap.size wr W5:=by rw [←hW5];exact belAZ (Below.refl _ _) _
     obtain ⟨rc,hrc⟩:∃ rc,wr.heap.size=rc:=⟨_,rfl⟩
     have s5:W5.heap[rc]?=some (.cells #[.int .i64 d0,.int .u64 d1,.int .u64 d2,.int .u64 d3,.int .u64 d4,.int .u64 d5,.int .u64 d6,.int .u64 d7,.int .u64 d8] 79 (0,0)):=by rw [←hW5,←hrc];exact alloc_getZ _ _
     have HCC:Hid (W5.cell? ⟨rc,0,none⟩=some (.int .i64 d0)∧W5.cell? ⟨rc,1,none⟩=some (.int .u64 d1)∧W5.cell? ⟨rc,2,none⟩=some (.int .u64 d2)∧W5.cell? ⟨rc,3,none⟩=some (.int .u64 d3)∧W5.cell? ⟨rc,4,none⟩=some (.int .u64 d4)∧W5.cell? ⟨rc,5,none⟩=some (.int .u64 d5)∧W5.cell? ⟨rc,6,none⟩=some (.int .u64 d6)∧W5.cell? ⟨rc,7,none⟩=some (.int .u64 d7)∧W5.cell? ⟨rc,8,none⟩=some (.int .u64 d8)):=by
      have e1:=(cellsZ s5).1
      exact ⟨by rw [e1];rfl,by rw [e1];rfl,by rw [e1];rfl,by rw [e1];rfl,by rw [e1];rfl,by rw [e1];rfl,by rw [e1];rfl,by rw [e1];rfl,by rw [e1];rfl⟩
     obtain ⟨bq,hbq⟩:∃ bq,Tn.hasB y h=bq:=⟨_,rfl⟩
     have HWI:Hid (Calls Tryz.prog 75 #[.agg #[.int .i64 a0,.int .u64 a1,.int .u64 a2,.int .u64 a3,.int .u64 a4,.int .u64 a5,.int .u64 a6,.int .u64 a7,.int .u64 a8],.agg #[.int .i64 d0,.int .u64 d1,.int .u64 d2,.int .u64 d3,.int .u64 d4,.int .u64 d5,.int .u64 d6,.int .u64 d7,.int .u64 d8]] W5 fun e w'=>e=.returned (.bool bq)∧Below W5.heap.size W5 w'):=by
      have hh:=within_q HN.out.2.2.1 (HXC.out.2.2 y (List.mem_of_getElem? hy)) HN.out.2.2.2.1 HN.out.2.2.2.2.1 W5
      rw [H9.out.agg,h8.agg,hbq] at hh
      exact hh
     have HB5:Hid (Below W4.heap.size W4 W5):=bel0Z HJ.out.1 b5
     have HY:=hideL hy
     have HBQ:=hideL hbq
     have HW5:=hideL hW5
     have HRC:=hideL hrc
     have j4:(0:Int)≤(j:Int):=by omega
     have j5:(j:Int) < (nc:Int):=by omega
     clear hy hcy hcy9 h8 hW5 b5 hrc s5 hbq hrow hb1
     go_upto_region 9 with fail
     rw [HW5.out,HRC.out]
     clear q0 q1 q2 k0 v0 v1
     clear r0 r1 r2 r3 r4 r5 r6 r7 r8
     clear y0 y1 y2 y3 y4 y5 y6 y7 y8
     obtain ⟨w0,w1,-,hb5⟩:=HD.out W5 HB5.out
     obtain ⟨⟨q0,q1,q2⟩,⟨r0,r1,r2,r3,r4,r5,r6,r7,r8⟩,k0⟩:=HC.out W5 hb5
     obtain ⟨y0,y1,y2,y3,y4,y5,y6,y7,y8⟩:=HCC.out
     clear hb5
     go_wp2_with fail
     refine (HWI.out).mono ?_
     rintro e W6 ⟨rfl,b6⟩
     have HB6:Hid (Below W4.heap.size W4 W6):=bel0Z HB5.out b6
     clear q0 q1 q2 k0 w0 w1 b6
     clear r0 r1 r2 r3 r4 r5 r6 r7 r8
     clear y0 y1 y2 y3 y4 y5 y6 y7 y8
     cases bq with
     | true=>
      obtain ⟨w0,w1,-,hb6⟩:=HD.out W6 HB6.out
      have HFIN:Hid (Below w.heap.size w W6∧x.pm=lets G h):=by
       refine ⟨(HL.out W6 hb6).2,?_⟩
       unfold lets
       rw [find_hit (f:=fun l=>hasAny l.cubes h) HX.out (fun i l hi hl=>HS.out.2 i l hi hl) (any_hit HY.out HBQ.out)]
      clear hb6
      go_wp2_with fail
      simp only [Exit.noGoto]
      go_ret
      exact ⟨by rw [←HFIN.out.2];rfl,HFIN.out.1⟩
     | false=>
      have HR:Hid (Below W4.heap.size W4 W6∧∀ (i:Nat) c,i < j+1→x.cubes[i]?=some c→Tn.hasB c h=false):=by
       refine ⟨HB6.out,fun i c hi hc=>?_⟩
       rcases Nat.lt_or_ge i j with h1 | h1
       ·exact HJ.out.2 i c h1 hc
       ·obtain rfl:i=j:=by omega
        rw [HY.out] at hc
        obtain rfl:=Option.some.inj hc
        exact HBQ.out
      go_wp2_with fail
      go_roundw
      case rel=>exact ⟨j+1,rfl,by go_num,by omega,HR⟩
      case measure=>simp [intOf];omega
    ·obtain rfl:j=nc:=by omega
     have j5:¬(j:Int) < (j:Int):=by omega
     have HR:Hid (Below W1.heap.size W1 wr∧∀ (i:Nat) l,i < k+1→G[i]?=some l→hasAny l.cubes h=false):=by
      refine ⟨hb1,fun i l hi hl=>?_⟩
      rcases Nat.lt_or_ge i k with h1 | h1
      ·exact HS.out.2 i l h1 hl
      ·obtain rfl:i=k:=by omega
       rw [HX.out] at hl
       obtain rfl:=Option.some.inj hl
       exact any_no (fun i9 c hc=>HJ.out.2 i9 c (by have:=(List.getElem?_eq_some_iff.1 hc).1;have:=HXC.out.1;omega) hc)
     clear hrow hb1
     go_wp2_with fail
     go_roundw
     case rel=>exact ⟨k+1,rfl,by go_num,by omega,HR⟩
     case measure=>simp [intOf];omega
  ·obtain rfl:k=m:=by omega
   have j3:¬(k:Int) < (k:Int):=by omega
   have HFIN:Hid (Below w.heap.size w wr∧bz=lets G h):=by
    refine ⟨(HL.out wr HS.out.1).2,?_⟩
    unfold lets
    rw [find_no (f:=fun l=>hasAny l.cubes h) (fun i l hl=>HS.out.2 i l (by have:=(List.getElem?_eq_some_iff.1 hl).1;have:=HN.out.1;omega) hl)]
    exact HBZ.out.symm
   go_wp2_with fail
   go_ret
   exact ⟨by rw [←HFIN.out.2];rfl,HFIN.out.1⟩
end Go.Proofs.YtbplhianpelmfaaGreatDoor.Nt
