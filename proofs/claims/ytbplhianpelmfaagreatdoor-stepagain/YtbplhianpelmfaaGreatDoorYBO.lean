import Derived.Test.YtbplhianpelmfaaGreatDoorYBN
namespace Go.Proofs.YtbplhianpelmfaaGreatDoor.Nt
open Go.RowKit Go.Shelf
theorem il_one {W:World} {r:Nat} {x:Int} (h:W.heap[r]?=some (.cells #[.int .i64 x] 3 (0,0))):IL W (some ⟨r,0,none⟩) 1 1 [x]:=by
 refine ⟨rfl,fun k y hy=>?_,fun e=>(by cases e),fun a e=>(by obtain rfl:=Option.some.inj e;exact ⟨_,_,h⟩)⟩
 cases k with
 | zero=>
  obtain rfl:x=y:=by simpa using hy
  refine ⟨r,0,rfl,?_⟩
  rw [(cellsZ h).1]
  rfl
 | succ k=>simp at hy
theorem IL.far {W U:World} {b:Nat} {p:Option Addr} {n c:Nat} {L:List Int} (h:IL W p n c L) (hf:∀ c,c≠b→U.heap[c]?=W.heap[c]?) (hp:∀ a,p=some a→a.block≠b):IL U p n c L:=by
 refine ⟨h.1,fun k x hx=>?_,h.2.2.1,fun a e=>(by obtain ⟨cs,fr,h9⟩:=h.2.2.2 a e;exact ⟨cs,fr,(hf _ (hp a e)).trans h9⟩)⟩
 obtain ⟨g,o,e,hc⟩:=h.2.1 k x hx
 refine ⟨g,o,e,?_⟩
 have h9:=hp _ e
 unfold World.cell? at hc ⊢
 simp only [hf g h9]
 exact hc
theorem own_blkA {W:World} {B T s k n c:Nat} {p:Option Addr} {xs:List Value} (h:W.ownsRow B T s (.slice p n c) k xs):∀ a,p=some a→B≤a.block:=fun a e=>by
 rcases h.2 with ⟨e9,-⟩ | ⟨g,cap,cur,e9,hb,-⟩
 ·injection e9 with e1
  rw [e] at e1
  cases e1
 ·injection e9 with e1
  rw [e] at e1
  obtain rfl:=Option.some.inj e1
  exact hb
set_option maxRecDepth 100000 in
set_option maxHeartbeats 16000000 in
theorem alone_any (y:Int×List UInt8) (w:World) :
  Calls Tryz.prog 48 #[.agg (stC y).toArray] w fun e w'=>∃ v:WV,e=.returned (.agg (wyC (alnM y,v)).toArray)∧WL w' (alnM y,v)∧Below w.heap.size w w':=by
 obtain ⟨p,h⟩:=y
 obtain ⟨a0,a1,a2,a3,a4,a5,a6,a7,a8,h9⟩:=c9_ex h
 rw [stC_arr h9]
 obtain ⟨b,hb⟩:∃ b,w.heap.size=b:=⟨_,rfl⟩
 obtain ⟨b2,hb2⟩:∃ b2,w.heap.size+1=b2:=⟨_,rfl⟩
 obtain ⟨W1,hW1⟩:∃ W1,(w.alloc (.cells #[.int .i64 p,.int .i64 a0,.int .u64 a1,.int .u64 a2,.int .u64 a3,.int .u64 a4,.int .u64 a5,.int .u64 a6,.int .u64 a7,.int .u64 a8] 81)).alloc (.cells #[.slice none 0 0,.slice none 0 0,.int .i64 0,.int .u64 0,.int .u64 0,.int .u64 0,.int .u64 0,.int .u64 0,.int .u64 0,.int .u64 0,.int .u64 0] 114)=W1:=⟨_,rfl⟩
 have hz1:(w.alloc (.cells #[.int .i64 p,.int .i64 a0,.int .u64 a1,.int .u64 a2,.int .u64 a3,.int .u64 a4,.int .u64 a5,.int .u64 a6,.int .u64 a7,.int .u64 a8] 81)).heap.size=w.heap.size+1:=Array.size_push _
 have b1:Below w.heap.size w W1:=by rw [←hW1];exact belAZ (belAZ (Below.refl _ _) _) _
 have kb:W1.heap[b]?=some (.cells #[.int .i64 p,.int .i64 a0,.int .u64 a1,.int .u64 a2,.int .u64 a3,.int .u64 a4,.int .u64 a5,.int .u64 a6,.int .u64 a7,.int .u64 a8] 81 (0,0)):=by rw [←hW1,←hb];exact keepZ (belAZ (Below.refl _ _) _) (alloc_getZ _ _)
 have kb2:W1.heap[b2]?=some (.cells #[.slice none 0 0,.slice none 0 0,.int .i64 0,.int .u64 0,.int .u64 0,.int .u64 0,.int .u64 0,.int .u64 0,.int .u64 0,.int .u64 0,.int .u64 0] 114 (0,0)):=by rw [←hW1,←hb2,←hz1];exact alloc_getZ _ _
 obtain ⟨r,hr⟩:∃ r,W1.heap.size=r:=⟨_,rfl⟩
 have hlt:b2 < W1.heap.size:=lt_getZ kb2
 have e1:=(cellsZ kb).1
 have r0:W1.cell? ⟨b,0,none⟩=some (.int .i64 p):=by rw [e1];rfl
 have r1:W1.cell? ⟨b,1,none⟩=some (.int .i64 a0):=by rw [e1];rfl
 have r2:W1.cell? ⟨b,2,none⟩=some (.int .u64 a1):=by rw [e1];rfl
 have r3:W1.cell? ⟨b,3,none⟩=some (.int .u64 a2):=by rw [e1];rfl
 have r4:W1.cell? ⟨b,4,none⟩=some (.int .u64 a3):=by rw [e1];rfl
 have r5:W1.cell? ⟨b,5,none⟩=some (.int .u64 a4):=by rw [e1];rfl
 have r6:W1.cell? ⟨b,6,none⟩=some (.int .u64 a5):=by rw [e1];rfl
 have r7:W1.cell? ⟨b,7,none⟩=some (.int .u64 a6):=by rw [e1];rfl
 have r8:W1.cell? ⟨b,8,none⟩=some (.int .u64 a7):=by rw [e1];rfl
 have r9:W1.cell? ⟨b,9,none⟩=some (.int .u64 a8):=by rw [e1];rfl
 have bl:Below W1.heap.size W1 (W1.alloc (.cells #[.int .i64 p] 3 (0,0))):=belAZ (Below.refl _ _) _
 have kl:(W1.alloc (.cells #[.int .i64 p] 3 (0,0))).heap[b2]?=some (.cells #[.slice none 0 0,.slice none 0 0,.int .i64 0,.int .u64 0,.int .u64 0,.int .u64 0,.int .u64 0,.int .u64 0,.int .u64 0,.int .u64 0,.int .u64 0] 114 (0,0)):=keepZ bl kb2
 have km:(W1.alloc (.cells #[.int .i64 p] 3 (0,0))).heap[r]?=some (.cells #[.int .i64 p] 3 (0,0)):=by rw [←hr];exact alloc_getZ _ _
 have hz:=cellsZ kl
 have em:=(cellsZ (keepZ bl kb)).1
 have z0:(W1.alloc (.cells #[.int .i64 p] 3 (0,0))).cell? ⟨b2,0,none⟩=some (.slice none 0 0):=by rw [hz.1];rfl
 have f0:=hz.2 0
 have z1:(W1.alloc (.cells #[.int .i64 p] 3 (0,0))).cell? ⟨b2,1,none⟩=some (.slice none 0 0):=by rw [hz.1];rfl
 have f1:=hz.2 1
 have z2:(W1.alloc (.cells #[.int .i64 p] 3 (0,0))).cell? ⟨b2,2,none⟩=some (.int .i64 0):=by rw [hz.1];rfl
 have f2:=hz.2 2
 have z3:(W1.alloc (.cells #[.int .i64 p] 3 (0,0))).cell? ⟨b2,3,none⟩=some (.int .u64 0):=by rw [hz.1];rfl
 have f3:=hz.2 3
 have z4:(W1.alloc (.cells #[.int .i64 p] 3 (0,0))).cell? ⟨b2,4,none⟩=some (.int .u64 0):=by rw [hz.1];rfl
 have f4:=hz.2 4
 have z5:(W1.alloc (.cells #[.int .i64 p] 3 (0,0))).cell? ⟨b2,5,none⟩=some (.int .u64 0):=by rw [hz.1];rfl
 have f5:=hz.2 5
 have z6:(W1.alloc (.cells #[.int .i64 p] 3 (0,0))).cell? ⟨b2,6,none⟩=some (.int .u64 0):=by rw [hz.1];rfl
 have f6:=hz.2 6
 have z7:(W1.alloc (.cells #[.int .i64 p] 3 (0,0))).cell? ⟨b2,7,none⟩=some (.int .u64 0):=by rw [hz.1];rfl
 have f7:=hz.2 7
 have z8:(W1.alloc (.cells #[.int .i64 p] 3 (0,0))).cell? ⟨b2,8,none⟩=some (.int .u64 0):=by rw [hz.1];rfl
 have f8:=hz.2 8
 have z9:(W1.alloc (.cells #[.int .i64 p] 3 (0,0))).cell? ⟨b2,9,none⟩=some (.int .u64 0):=by rw [hz.1];rfl
 have f9:=hz.2 9
 have z10:(W1.alloc (.cells #[.int .i64 p] 3 (0,0))).cell? ⟨b2,10,none⟩=some (.int .u64 0):=by rw [hz.1];rfl
 have f10:=hz.2 10
 have m0:(W1.alloc (.cells #[.int .i64 p] 3 (0,0))).cell? ⟨b,0,none⟩=some (.int .i64 p):=by rw [em];rfl
 have m1:(W1.alloc (.cells #[.int .i64 p] 3 (0,0))).cell? ⟨b,1,none⟩=some (.int .i64 a0):=by rw [em];rfl
 have m2:(W1.alloc (.cells #[.int .i64 p] 3 (0,0))).cell? ⟨b,2,none⟩=some (.int .u64 a1):=by rw [em];rfl
 have m3:(W1.alloc (.cells #[.int .i64 p] 3 (0,0))).cell? ⟨b,3,none⟩=some (.int .u64 a2):=by rw [em];rfl
 have m4:(W1.alloc (.cells #[.int .i64 p] 3 (0,0))).cell? ⟨b,4,none⟩=some (.int .u64 a3):=by rw [em];rfl
 have m5:(W1.alloc (.cells #[.int .i64 p] 3 (0,0))).cell? ⟨b,5,none⟩=some (.int .u64 a4):=by rw [em];rfl
 have m6:(W1.alloc (.cells #[.int .i64 p] 3 (0,0))).cell? ⟨b,6,none⟩=some (.int .u64 a5):=by rw [em];rfl
 have m7:(W1.alloc (.cells #[.int .i64 p] 3 (0,0))).cell? ⟨b,7,none⟩=some (.int .u64 a6):=by rw [em];rfl
 have m8:(W1.alloc (.cells #[.int .i64 p] 3 (0,0))).cell? ⟨b,8,none⟩=some (.int .u64 a7):=by rw [em];rfl
 have m9:(W1.alloc (.cells #[.int .i64 p] 3 (0,0))).cell? ⟨b,9,none⟩=some (.int .u64 a8):=by rw [em];rfl
 obtain ⟨W9,hW9⟩:∃ W,(((((((((((W1.alloc (.cells #[.int .i64 p] 3 (0,0))).setCell ⟨b2,0,none⟩ (.slice (some ⟨r,0,none⟩) 1 1)).setCell ⟨b2,1,none⟩ (.slice none 0 0)).setCell ⟨b2,2,none⟩ (.int .i64 a0)).setCell ⟨b2,3,none⟩ (.int .u64 a1)).setCell ⟨b2,4,none⟩ (.int .u64 a2)).setCell ⟨b2,5,none⟩ (.int .u64 a3)).setCell ⟨b2,6,none⟩ (.int .u64 a4)).setCell ⟨b2,7,none⟩ (.int .u64 a5)).setCell ⟨b2,8,none⟩ (.int .u64 a6)).setCell ⟨b2,9,none⟩ (.int .u64 a7)).setCell ⟨b2,10,none⟩ (.int .u64 a8)=W:=⟨_,rfl⟩
 have HRES:Hid (W9.heap[b2]?=some (.cells #[.slice (some ⟨r,0,none⟩) 1 1,.slice none 0 0,.int .i64 a0,.int .u64 a1,.int .u64 a2,.int .u64 a3,.int .u64 a4,.int .u64 a5,.int .u64 a6,.int .u64 a7,.int .u64 a8] 114 (0,0))):=by
  rw [←hW9]
  exact put11 (.slice (some ⟨r,0,none⟩) 1 1) (.slice none 0 0) (.int .i64 a0) (.int .u64 a1) (.int .u64 a2) (.int .u64 a3) (.int .u64 a4) (.int .u64 a5) (.int .u64 a6) (.int .u64 a7) (.int .u64 a8) kl
 have HFIN:Hid (∃ v:WV,Ending.returned (.agg #[.slice (some ⟨r,0,none⟩) 1 1,.slice none 0 0,.int .i64 a0,.int .u64 a1,.int .u64 a2,.int .u64 a3,.int .u64 a4,.int .u64 a5,.int .u64 a6,.int .u64 a7,.int .u64 a8])=.returned (.agg (wyC (alnM (p,h),v)).toArray)∧WL W9 (alnM (p,h),v)∧Below w.heap.size w W9):=by
  refine ⟨⟨some ⟨r,0,none⟩,1,none,0⟩,?_,⟨il_one ?_,IL.nil _,Nat.le_refl _⟩,?_⟩
  ·have e9:(wyC (alnM (p,h),⟨some ⟨r,0,none⟩,1,none,0⟩)).toArray=#[.slice (some ⟨r,0,none⟩) 1 1,.slice none 0 0,.int .i64 a0,.int .u64 a1,.int .u64 a2,.int .u64 a3,.int .u64 a4,.int .u64 a5,.int .u64 a6,.int .u64 a7,.int .u64 a8]:=wyC_arr (ps:=[p]) (es:=[]) (hd:=h) h9 rfl rfl
   rw [e9]
  ·rw [←hW9,put11f (.slice (some ⟨r,0,none⟩) 1 1) (.slice none 0 0) (.int .i64 a0) (.int .u64 a1) (.int .u64 a2) (.int .u64 a3) (.int .u64 a4) (.int .u64 a5) (.int .u64 a6) (.int .u64 a7) (.int .u64 a8) (by omega:r≠b2)]
   exact km
  ·rw [←hW9]
   exact put11b (.slice (some ⟨r,0,none⟩) 1 1) (.slice none 0 0) (.int .i64 a0) (.int .u64 a1) (.int .u64 a2) (.int .u64 a3) (.int .u64 a4) (.int .u64 a5) (.int .u64 a6) (.int .u64 a7) (.int .u64 a8) (bel0Z b1 bl) (by omega)
 have HB:=hideL hb
 have HB2:=hideL hb2
 have HW:=hideL hW1
 have HB1:=hideL b1
 have HR:=hideL hr
 have HW9:=hideL hW9
 clear hW1 b1 hb kb hb2 kb2 hz1 h9 hr hlt e1 bl kl km hz em hW9
 go_enter Tryz.func48,Tryz.ntmps48
 go_upto_region 1 with fail
 rw [HW.out,HB2.out,HB.out]
 go_wp2_with fail
 try rw [HR.out]
 rw [HW9.out]
 refine bodyPost_ret (res_alone _ _ b2 _ _ _ _ _ _ _ _ _ _ _ _ _ _ _ rfl HRES.out) rfl ?_
 exact HFIN.out
def TOQ (y:WY) (t:Int×List UInt8) (E:List Int) (w:World) (e:Ending) (w':World):Prop:=∃ v:WV,e=.returned (.agg (wyC (y.to t E,v)).toArray)∧WL w' (y.to t E,v)∧Below w.heap.size w w'
set_option maxRecDepth 100000 in
set_option maxHeartbeats 16000000 in
theorem to_any (y:WY×WV) (t:Int×List UInt8) (E:List Int) (qp:Option Addr) (me ce9:Nat) (w:World) (hL:WL w y) (hE:IL w qp me ce9 E) (hN1:y.1.ps.length≤500) (hN2:y.1.es.length≤500) (hN3:me≤500) :
  Calls Tryz.prog 77 #[.agg (wyC y).toArray,.agg (stC t).toArray,.slice qp me ce9] w (TOQ y.1 t E w):=by
 obtain ⟨⟨ps,es,hd⟩,⟨pp,cp,pe,ce⟩⟩:=y
 obtain ⟨x,h⟩:=t
 obtain ⟨a0,a1,a2,a3,a4,a5,a6,a7,a8,h9⟩:=c9_ex hd
 obtain ⟨d0,d1,d2,d3,d4,d5,d6,d7,d8,h8⟩:=c9_ex h
 obtain ⟨np,hnp⟩:∃ k,ps.length=k:=⟨_,rfl⟩
 obtain ⟨ne,hne9⟩:∃ k,es.length=k:=⟨_,rfl⟩
 obtain ⟨n6,hn6⟩:∃ k,np+1=k:=⟨_,rfl⟩
 obtain ⟨n11,hn11⟩:∃ k,ne+me=k:=⟨_,rfl⟩
 rw [wyC_arr h9 hnp hne9,stC_arr h8]
 simp only at hN1 hN2 hL ⊢
 have hL1:IL w pp np cp ps:=by have:=hL.1;rw [←hnp];exact this
 have hL2:IL w pe ne ce es:=by have:=hL.2.1;rw [←hne9];exact this
 obtain ⟨b,hb⟩:∃ b,w.heap.size=b:=⟨_,rfl⟩
 obtain ⟨b2,hb2⟩:∃ b2,w.heap.size+1=b2:=⟨_,rfl⟩
 obtain ⟨b3,hb3⟩:∃ b3,w.heap.size+1+1=b3:=⟨_,rfl⟩
 obtain ⟨W1,hW1⟩:∃ W1,((w.alloc (.cells #[.slice pp np cp,.slice pe ne ce,.int .i64 a0,.int .u64 a1,.int .u64 a2,.int .u64 a3,.int .u64 a4,.int .u64 a5,.int .u64 a6,.int .u64 a7,.int .u64 a8] 114)).alloc (.cells #[.int .i64 x,.int .i64 d0,.int .u64 d1,.int .u64 d2,.int .u64 d3,.int .u64 d4,.int .u64 d5,.int .u64 d6,.int .u64 d7,.int .u64 d8] 81)).alloc (.cells #[.slice none 0 0,.slice none 0 0,.int .i64 0,.int .u64 0,.int .u64 0,.int .u64 0,.int .u64 0,.int .u64 0,.int .u64 0,.int .u64 0,.int .u64 0] 114)=W1:=⟨_,rfl⟩
 have hz1:(w.alloc (.cells #[.slice pp np cp,.slice pe ne ce,.int .i64 a0,.int .u64 a1,.int .u64 a2,.int .u64 a3,.int .u64 a4,.int .u64 a5,.int .u64 a6,.int .u64 a7,.int .u64 a8] 114)).heap.size=w.heap.size+1:=Array.size_push _
 have hz2:((w.alloc (.cells #[.slice pp np cp,.slice pe ne ce,.int .i64 a0,.int .u64 a1,.int .u64 a2,.int .u64 a3,.int .u64 a4,.int .u64 a5,.int .u64 a6,.int .u64 a7,.int .u64 a8] 114)).alloc (.cells #[.int .i64 x,.int .i64 d0,.int .u64 d1,.int .u64 d2,.int .u64 d3,.int .u64 d4,.int .u64 d5,.int .u64 d6,.int .u64 d7,.int .u64 d8] 81)).heap.size=w.heap.size+1+1:=(Array.size_push _).trans (by rw [show (w.alloc (.cells #[.slice pp np cp,.slice pe ne ce,.int .i64 a0,.int .u64 a1,.int .u64 a2,.int .u64 a3,.int .u64 a4,.int .u64 a5,.int .u64 a6,.int .u64 a7,.int .u64 a8] 114)).heap.size=_ from hz1])
 have b1:Below w.heap.size w W1:=by rw [←hW1];exact belAZ (belAZ (belAZ (Below.refl _ _) _) _) _
 have kb:W1.heap[b]?=some (.cells #[.slice pp np cp,.slice pe ne ce,.int .i64 a0,.int .u64 a1,.int .u64 a2,.int .u64 a3,.int .u64 a4,.int .u64 a5,.int .u64 a6,.int .u64 a7,.int .u64 a8] 114 (0,0)):=by rw [←hW1,←hb];exact keepZ (belAZ (belAZ (Below.refl _ _) _) _) (alloc_getZ _ _)
 have kb2:W1.heap[b2]?=some (.cells #[.int .i64 x,.int .i64 d0,.int .u64 d1,.int .u64 d2,.int .u64 d3,.int .u64 d4,.int .u64 d5,.int .u64 d6,.int .u64 d7,.int .u64 d8] 81 (0,0)):=by rw [←hW1,←hb2,←hz1];exact keepZ (belAZ (Below.refl _ _) _) (alloc_getZ _ _)
 have kb3:W1.heap[b3]?=some (.cells #[.slice none 0 0,.slice none 0 0,.int .i64 0,.int .u64 0,.int .u64 0,.int .u64 0,.int .u64 0,.int .u64 0,.int .u64 0,.int .u64 0,.int .u64 0] 114 (0,0)):=by rw [←hW1,←hb3,←hz2];exact alloc_getZ _ _
 have HS:Hid (∀ U,Below W1.heap.size W1 U→(U.cell? ⟨b,0,none⟩=some (.slice pp np cp)∧U.cell? ⟨b,1,none⟩=some (.slice pe ne ce)∧U.cell? ⟨b,2,none⟩=some (.int .i64 a0)∧U.cell? ⟨b,3,none⟩=some (.int .u64 a1)∧U.cell? ⟨b,4,none⟩=some (.int .u64 a2)∧U.cell? ⟨b,5,none⟩=some (.int .u64 a3)∧U.cell? ⟨b,6,none⟩=some (.int .u64 a4)∧U.cell? ⟨b,7,none⟩=some (.int .u64 a5)∧U.cell? ⟨b,8,none⟩=some (.int .u64 a6)∧U.cell? ⟨b,9,none⟩=some (.int .u64 a7)∧U.cell? ⟨b,10,none⟩=some (.int .u64 a8))∧(U.cell? ⟨b2,0,none⟩=some (.int .i64 x)∧U.cell? ⟨b2,1,none⟩=some (.int .i64 d0)∧U.cell? ⟨b2,2,none⟩=some (.int .u64 d1)∧U.cell? ⟨b2,3,none⟩=some (.int .u64 d2)∧U.cell? ⟨b2,4,none⟩=some (.int .u64 d3)∧U.cell? ⟨b2,5,none⟩=some (.int .u64 d4)∧U.cell? ⟨b2,6,none⟩=some (.int .u64 d5)∧U.cell? ⟨b2,7,none⟩=some (.int .u64 d6)∧U.cell? ⟨b2,8,none⟩=some (.int .u64 d7)∧U.cell? ⟨b2,9,none⟩=some (.int .u64 d8))):=fun U hU=>by
  have e1:=(cellsZ (keepZ hU kb)).1
  have e2:=(cellsZ (keepZ hU kb2)).1
  exact ⟨⟨by rw [e1];rfl,by rw [e1];rfl,by rw [e1];rfl,by rw [e1];rfl,by rw [e1];rfl,by rw [e1];rfl,by rw [e1];rfl,by rw [e1];rfl,by rw [e1];rfl,by rw [e1];rfl,by rw [e1];rfl⟩,⟨by rw [e2];rfl,by rw [e2];rfl,by rw [e2];rfl,by rw [e2];rfl,by rw [e2];rfl,by rw [e2];rfl,by rw [e2];rfl,by rw [e2];rfl,by rw [e2];rfl,by rw [e2];rfl⟩⟩
 have HK:Hid ((∀ U,Below W1.heap.size W1 U→U.heap[b3]?=some (.cells #[.slice none 0 0,.slice none 0 0,.int .i64 0,.int .u64 0,.int .u64 0,.int .u64 0,.int .u64 0,.int .u64 0,.int .u64 0,.int .u64 0,.int .u64 0] 114 (0,0))∧Below w.heap.size w U)∧w.heap.size≤b3∧b≠b3∧b2≠b3∧b3 < W1.heap.size):=⟨fun U hU=>⟨keepZ hU kb3,bel0Z b1 hU⟩,by omega,by omega,by omega,lt_getZ kb3⟩
 have HCC:Hid (∀ (U:World) (r r':Nat),Below W1.heap.size W1 U→U.heap[r]?=some (.cells #[.int .i64 x] 3 (0,0))→U.heap[r']?=some (.cells #[.slice pp np cp,.slice (some ⟨r,0,none⟩) 1 1] 38 (0,0))→Calls Tryz.prog 84 #[.slice (some ⟨r',0,none⟩) 2 2] U fun e w'=>∃ q c,e=.returned (.slice q n6 c)∧(w'.ownsRow U.heap.size 3 1 (.slice q n6 c) n6 (inZ (ps++[x])))∧Below U.heap.size U w'):=fun U r r' hU h1 h2=>concat_i ps [x] pp _ np cp 1 1 n6 r' U (hL1.below (bel0Z b1 hU)) (il_one h1) (by omega) (by omega) hn6 h2
 have HCE:Hid (∀ (U:World) (r':Nat),Below W1.heap.size W1 U→U.heap[r']?=some (.cells #[.slice pe ne ce,.slice qp me ce9] 38 (0,0))→Calls Tryz.prog 84 #[.slice (some ⟨r',0,none⟩) 2 2] U fun e w'=>∃ q c,e=.returned (.slice q n11 c)∧(w'.ownsRow U.heap.size 3 1 (.slice q n11 c) n11 (inZ (es++E)))∧Below U.heap.size U w'):=fun U r' hU h2=>concat_i es E pe qp ne ce me ce9 n11 r' U (hL2.below (bel0Z b1 hU)) (hE.below (bel0Z b1 hU)) (by omega) (by omega) hn11 h2
 have HN6:Hid ((ps++[x]).length=n6∧(es++E).length=n11):=⟨by rw [List.length_append,hnp];exact hn6,by rw [List.length_append,hne9,hE.1];exact hn11⟩
 have HFI:Hid (∀ (U:World) (q6 q11:Option Addr) (c6 c11:Nat),IL U q6 n6 c6 (ps++[x])→IL U q11 n11 c11 (es++E)→n6≤c6→Below w.heap.size w U→TOQ ⟨ps,es,hd⟩ (x,h) E w (.returned (.agg #[.slice q6 n6 c6,.slice q11 n11 c11,.int .i64 d0,.int .u64 d1,.int .u64 d2,.int .u64 d3,.int .u64 d4,.int .u64 d5,.int .u64 d6,.int .u64 d7,.int .u64 d8])) U):=fun U q6 q11 c6 c11 i6 i11 m1 hb=>by
  refine ⟨⟨q6,c6,q11,c11⟩,?_,⟨?_,?_,?_⟩,hb⟩
  ·have e9:(wyC (WY.to ⟨ps,es,hd⟩ (x,h) E,⟨q6,c6,q11,c11⟩)).toArray=#[.slice q6 n6 c6,.slice q11 n11 c11,.int .i64 d0,.int .u64 d1,.int .u64 d2,.int .u64 d3,.int .u64 d4,.int .u64 d5,.int .u64 d6,.int .u64 d7,.int .u64 d8]:=wyC_arr (ps:=ps++[x]) (es:=es++E) (hd:=h) h8 (by rw [List.length_append,hnp];exact hn6) (by rw [List.length_append,hne9,hE.1];exact hn11)
   rw [e9]
  ·show IL U q6 (ps++[x]).length c6 (ps++[x])
   rw [i6.1];exact i6
  ·show IL U q11 (es++E).length c11 (es++E)
   rw [i11.1];exact i11
  ·show (ps++[x]).length≤c6
   rw [i6.1];exact m1
 have HB:=hideL hb
 have HB2:=hideL hb2
 have HB3:=hideL hb3
 have HW:=hideL hW1
 have HB1:=hideL b1
 have hs0:=HS.out W1.drew (Below.refl _ _).drew
 clear hW1 b1 hb kb hb2 kb2 hb3 kb3 hz1 hz2 hL hE hN1 hN2 hN3 h9 h8 hnp hne9 hn6 hn11 hL1 hL2
 go_enter Tryz.func77,Tryz.ntmps77
 go_upto_region 1 with fail
 rw [HW.out,HB3.out,HB2.out,HB.out]
 refine wp_region_held_drew (S:=fun U=>(U.cell? ⟨b,0,none⟩=some (.slice pp np cp)∧U.cell? ⟨b,1,none⟩=some (.slice pe ne ce)∧U.cell? ⟨b,2,none⟩=some (.int .i64 a0)∧U.cell? ⟨b,3,none⟩=some (.int .u64 a1)∧U.cell? ⟨b,4,none⟩=some (.int .u64 a2)∧U.cell? ⟨b,5,none⟩=some (.int .u64 a3)∧U.cell? ⟨b,6,none⟩=some (.int .u64 a4)∧U.cell? ⟨b,7,none⟩=some (.int .u64 a5)∧U.cell? ⟨b,8,none⟩=some (.int .u64 a6)∧U.cell? ⟨b,9,none⟩=some (.int .u64 a7)∧U.cell? ⟨b,10,none⟩=some (.int .u64 a8))∧(U.cell? ⟨b2,0,none⟩=some (.int .i64 x)∧U.cell? ⟨b2,1,none⟩=some (.int .i64 d0)∧U.cell? ⟨b2,2,none⟩=some (.int .u64 d1)∧U.cell? ⟨b2,3,none⟩=some (.int .u64 d2)∧U.cell? ⟨b2,4,none⟩=some (.int .u64 d3)∧U.cell? ⟨b2,5,none⟩=some (.int .u64 d4)∧U.cell? ⟨b2,6,none⟩=some (.int .u64 d5)∧U.cell? ⟨b2,7,none⟩=some (.int .u64 d6)∧U.cell? ⟨b2,8,none⟩=some (.int .u64 d7)∧U.cell? ⟨b2,9,none⟩=some (.int .u64 d8))) (by kernel_rfl) hs0 (fun _=>?_)
 obtain ⟨D,hD⟩:∃ D,W1.drew=D:=⟨_,rfl⟩
 rw [hD] at hs0 ⊢
 have hSD:Below W1.heap.size W1 D:=by rw [←hD];exact (Below.refl _ _).drew
 clear hD
 refine tk 0 (.pointer (some ⟨b,0,none⟩)) rfl hs0 ?_ ?_
 ·rintro U ⟨⟨r0,r1,r2,r3,r4,r5,r6,r7,r8,r9,r10⟩,⟨s0,s1,s2,s3,s4,s5,s6,s7,s8,s9⟩⟩;go_simp
 refine tk 1 (.slice pp np cp) rfl hs0 ?_ ?_
 ·rintro U ⟨⟨r0,r1,r2,r3,r4,r5,r6,r7,r8,r9,r10⟩,⟨s0,s1,s2,s3,s4,s5,s6,s7,s8,s9⟩⟩;go_simp
 refine tk 2 (.pointer (some ⟨b2,0,none⟩)) rfl hs0 ?_ ?_
 ·rintro U ⟨⟨r0,r1,r2,r3,r4,r5,r6,r7,r8,r9,r10⟩,⟨s0,s1,s2,s3,s4,s5,s6,s7,s8,s9⟩⟩;go_simp
 refine tk 3 (.int .i64 x) rfl hs0 ?_ ?_
 ·rintro U ⟨⟨r0,r1,r2,r3,r4,r5,r6,r7,r8,r9,r10⟩,⟨s0,s1,s2,s3,s4,s5,s6,s7,s8,s9⟩⟩;go_simp
 refine tk 7 (.pointer (some ⟨b,1,none⟩)) rfl hs0 ?_ ?_
 ·rintro U ⟨⟨r0,r1,r2,r3,r4,r5,r6,r7,r8,r9,r10⟩,⟨s0,s1,s2,s3,s4,s5,s6,s7,s8,s9⟩⟩;go_simp
 refine tk 8 (.slice pe ne ce) rfl hs0 ?_ ?_
 ·rintro U ⟨⟨r0,r1,r2,r3,r4,r5,r6,r7,r8,r9,r10⟩,⟨s0,s1,s2,s3,s4,s5,s6,s7,s8,s9⟩⟩;go_simp
 refine tk 9 (.slice qp me ce9) rfl hs0 ?_ ?_
 ·rintro U ⟨⟨r0,r1,r2,r3,r4,r5,r6,r7,r8,r9,r10⟩,⟨s0,s1,s2,s3,s4,s5,s6,s7,s8,s9⟩⟩;go_simp
 refine tk 12 (.pointer (some ⟨b2,1,none⟩)) rfl hs0 ?_ ?_
 ·rintro U ⟨⟨r0,r1,r2,r3,r4,r5,r6,r7,r8,r9,r10⟩,⟨s0,s1,s2,s3,s4,s5,s6,s7,s8,s9⟩⟩;go_simp
 refine tk 13 (.agg #[.int .i64 d0,.int .u64 d1,.int .u64 d2,.int .u64 d3,.int .u64 d4,.int .u64 d5,.int .u64 d6,.int .u64 d7,.int .u64 d8]) rfl hs0 ?_ ?_
 ·rintro U ⟨⟨r0,r1,r2,r3,r4,r5,r6,r7,r8,r9,r10⟩,⟨s0,s1,s2,s3,s4,s5,s6,s7,s8,s9⟩⟩;go_simp
 refine wpAnyH_ready (rs:=[4,10]) (by kernel_rfl) (by simp) ?_
 refine AllReadyH.cons rfl (fun KK hKK=>?_) (AllReadyH.cons rfl (fun KK hKK=>?_) (AllReadyH.nil))
 ·obtain ⟨r4,hr4⟩:∃ r,D.heap.size=r:=⟨_,rfl⟩
  obtain ⟨D1,hD1⟩:∃ W,D.alloc (.cells #[.int .i64 x] 3 (0,0))=W:=⟨_,rfl⟩
  have m4:D1.heap[r4]?=some (.cells #[.int .i64 x] 3 (0,0)):=by rw [←hD1,←hr4];exact alloc_getZ _ _
  have bD:Below D.heap.size D D1:=by rw [←hD1];exact belAZ (Below.refl _ _) _
  go_simp
  try rw [hD1]
  try rw [hr4]
  clear hD1 hr4
  have hSE:=bel0Z hSD bD
  have hs1:=HS.out D1 hSE
  refine hKK.out _ _ hs1 (fun _=>?_)
  clear hKK KK hs0 hSD bD
  have hs0:=hs1
  have hSD:=hSE
  clear hs1 hSE
  refine wpAnyH_ready (rs:=[5,10]) (by kernel_rfl) (by simp) ?_
  refine AllReadyH.cons rfl (fun KK hKK=>?_) (AllReadyH.cons rfl (fun KK hKK=>?_) (AllReadyH.nil))
  ·obtain ⟨r5,hr5⟩:∃ r,D1.heap.size=r:=⟨_,rfl⟩
   obtain ⟨D2,hD2⟩:∃ W,D1.alloc (.cells #[.slice pp np cp,.slice (some ⟨r4,0,none⟩) 1 1] 38 (0,0))=W:=⟨_,rfl⟩
   have m5:D2.heap[r5]?=some (.cells #[.slice pp np cp,.slice (some ⟨r4,0,none⟩) 1 1] 38 (0,0)):=by rw [←hD2,←hr5];exact alloc_getZ _ _
   have bD:Below D1.heap.size D1 D2:=by rw [←hD2];exact belAZ (Below.refl _ _) _
   go_simp
   try rw [hD2]
   try rw [hr5]
   clear hD2 hr5
   have hSE:=bel0Z hSD bD
   have m4:=keepZ bD m4
   have hs1:=HS.out D2 hSE
   refine hKK.out _ _ hs1 (fun _=>?_)
   clear hKK KK hs0 hSD bD
   have hs0:=hs1
   have hSD:=hSE
   clear hs1 hSE
   refine wpAnyH_ready (rs:=[6,10]) (by kernel_rfl) (by simp) ?_
   refine AllReadyH.cons rfl (fun KK hKK=>?_) (AllReadyH.cons rfl (fun KK hKK=>?_) (AllReadyH.nil))
   ·go_simp
    refine (HCC.out D2 r4 r5 hSD m4 m5).mono ?_
    rintro en D3 ⟨q6,c6,rfl,o6,bD⟩
    have i6:=own_il o6 (HN6.out.1)
    have ycap6:=own_cap o6
    have p6:∀ a,q6=some a→a.block≠b3:=fun a e=>by
     have y1:=own_blkA o6 a e
     have y2:=hSD.size
     have y3:=HK.out.2.2.2.2
     omega
    have hSE:=bel0Z hSD bD
    clear o6
    have m4:=keepZ bD m4
    have m5:=keepZ bD m5
    go_simp
    have hs1:=HS.out D3 hSE
    refine hKK.out _ _ hs1 (fun _=>?_)
    clear hKK KK hs0 hSD bD
    have hs0:=hs1
    have hSD:=hSE
    clear hs1 hSE
    refine wpAnyH_ready (rs:=[10]) (by kernel_rfl) (by simp) ?_
    refine AllReadyH.cons rfl (fun KK hKK=>?_) (AllReadyH.nil)
    obtain ⟨r10,hr10⟩:∃ r,D3.heap.size=r:=⟨_,rfl⟩
    obtain ⟨D4,hD4⟩:∃ W,D3.alloc (.cells #[.slice pe ne ce,.slice qp me ce9] 38 (0,0))=W:=⟨_,rfl⟩
    have m10:D4.heap[r10]?=some (.cells #[.slice pe ne ce,.slice qp me ce9] 38 (0,0)):=by rw [←hD4,←hr10];exact alloc_getZ _ _
    have bD:Below D3.heap.size D3 D4:=by rw [←hD4];exact belAZ (Below.refl _ _) _
    go_simp
    try rw [hD4]
    try rw [hr10]
    clear hD4 hr10
    have hSE:=bel0Z hSD bD
    have m4:=keepZ bD m4
    have m5:=keepZ bD m5
    have i6:=i6.below bD
    have hs1:=HS.out D4 hSE
    refine hKK.out _ _ hs1 (fun _=>?_)
    clear hKK KK hs0 hSD bD
    have hs0:=hs1
    have hSD:=hSE
    clear hs1 hSE
    refine wpAnyH_ready (rs:=[11]) (by kernel_rfl) (by simp) ?_
    refine AllReadyH.cons rfl (fun KK hKK=>?_) (AllReadyH.nil)
    go_simp
    refine (HCE.out D4 r10 hSD m10).mono ?_
    rintro en D5 ⟨q11,c11,rfl,o11,bD⟩
    have i11:=own_il o11 (HN6.out.2)
    have ycap11:=own_cap o11
    have p11:∀ a,q11=some a→a.block≠b3:=fun a e=>by
     have y1:=own_blkA o11 a e
     have y2:=hSD.size
     have y3:=HK.out.2.2.2.2
     omega
    have hSE:=bel0Z hSD bD
    clear o11
    have m4:=keepZ bD m4
    have m5:=keepZ bD m5
    have i6:=i6.below bD
    have m10:=keepZ bD m10
    go_simp
    have hs1:=HS.out D5 hSE
    refine hKK.out _ _ hs1 (fun _=>?_)
    clear hKK KK hs0 hSD bD
    have hs0:=hs1
    have hSD:=hSE
    clear hs1 hSE
    refine tk 14 (.agg #[.slice q6 n6 c6,.slice q11 n11 c11,.int .i64 d0,.int .u64 d1,.int .u64 d2,.int .u64 d3,.int .u64 d4,.int .u64 d5,.int .u64 d6,.int .u64 d7,.int .u64 d8]) rfl hs0 ?_ ?_
    ·rintro U ⟨⟨r0,r1,r2,r3,r4,r5,r6,r7,r8,r9,r10⟩,⟨s0,s1,s2,s3,s4,s5,s6,s7,s8,s9⟩⟩;go_simp
    have kb3:=(HK.out.1 D5 hSD).1
    have hz:=cellsZ kb3
    have z0:D5.cell? ⟨b3,0,none⟩=some (.slice none 0 0):=by rw [hz.1];rfl
    have f0:=hz.2 0
    have z1:D5.cell? ⟨b3,1,none⟩=some (.slice none 0 0):=by rw [hz.1];rfl
    have f1:=hz.2 1
    have z2:D5.cell? ⟨b3,2,none⟩=some (.int .i64 0):=by rw [hz.1];rfl
    have f2:=hz.2 2
    have z3:D5.cell? ⟨b3,3,none⟩=some (.int .u64 0):=by rw [hz.1];rfl
    have f3:=hz.2 3
    have z4:D5.cell? ⟨b3,4,none⟩=some (.int .u64 0):=by rw [hz.1];rfl
    have f4:=hz.2 4
    have z5:D5.cell? ⟨b3,5,none⟩=some (.int .u64 0):=by rw [hz.1];rfl
    have f5:=hz.2 5
    have z6:D5.cell? ⟨b3,6,none⟩=some (.int .u64 0):=by rw [hz.1];rfl
    have f6:=hz.2 6
    have z7:D5.cell? ⟨b3,7,none⟩=some (.int .u64 0):=by rw [hz.1];rfl
    have f7:=hz.2 7
    have z8:D5.cell? ⟨b3,8,none⟩=some (.int .u64 0):=by rw [hz.1];rfl
    have f8:=hz.2 8
    have z9:D5.cell? ⟨b3,9,none⟩=some (.int .u64 0):=by rw [hz.1];rfl
    have f9:=hz.2 9
    have z10:D5.cell? ⟨b3,10,none⟩=some (.int .u64 0):=by rw [hz.1];rfl
    have f10:=hz.2 10
    obtain ⟨W9,hW9⟩:∃ W,((((((((((D5.setCell ⟨b3,0,none⟩ (.slice q6 n6 c6)).setCell ⟨b3,1,none⟩ (.slice q11 n11 c11)).setCell ⟨b3,2,none⟩ (.int .i64 d0)).setCell ⟨b3,3,none⟩ (.int .u64 d1)).setCell ⟨b3,4,none⟩ (.int .u64 d2)).setCell ⟨b3,5,none⟩ (.int .u64 d3)).setCell ⟨b3,6,none⟩ (.int .u64 d4)).setCell ⟨b3,7,none⟩ (.int .u64 d5)).setCell ⟨b3,8,none⟩ (.int .u64 d6)).setCell ⟨b3,9,none⟩ (.int .u64 d7)).setCell ⟨b3,10,none⟩ (.int .u64 d8)=W:=⟨_,rfl⟩
    have HRES:Hid (W9.heap[b3]?=some (.cells #[.slice q6 n6 c6,.slice q11 n11 c11,.int .i64 d0,.int .u64 d1,.int .u64 d2,.int .u64 d3,.int .u64 d4,.int .u64 d5,.int .u64 d6,.int .u64 d7,.int .u64 d8] 114 (0,0))):=by
     rw [←hW9]
     exact put11 (.slice q6 n6 c6) (.slice q11 n11 c11) (.int .i64 d0) (.int .u64 d1) (.int .u64 d2) (.int .u64 d3) (.int .u64 d4) (.int .u64 d5) (.int .u64 d6) (.int .u64 d7) (.int .u64 d8) kb3
    have hfar:∀ c,c≠b3→W9.heap[c]?=D5.heap[c]?:=fun c hc=>by
     rw [←hW9]
     exact put11f (.slice q6 n6 c6) (.slice q11 n11 c11) (.int .i64 d0) (.int .u64 d1) (.int .u64 d2) (.int .u64 d3) (.int .u64 d4) (.int .u64 d5) (.int .u64 d6) (.int .u64 d7) (.int .u64 d8) hc
    have HFIN:Hid (TOQ ⟨ps,es,hd⟩ (x,h) E w (.returned (.agg #[.slice q6 n6 c6,.slice q11 n11 c11,.int .i64 d0,.int .u64 d1,.int .u64 d2,.int .u64 d3,.int .u64 d4,.int .u64 d5,.int .u64 d6,.int .u64 d7,.int .u64 d8])) W9):=HFI.out W9 q6 q11 c6 c11 (i6.far hfar p6) (i11.far hfar p11) ycap6 (by rw [←hW9];exact put11b (.slice q6 n6 c6) (.slice q11 n11 c11) (.int .i64 d0) (.int .u64 d1) (.int .u64 d2) (.int .u64 d3) (.int .u64 d4) (.int .u64 d5) (.int .u64 d6) (.int .u64 d7) (.int .u64 d8) (HK.out.1 D5 hSD).2 HK.out.2.1)
    have hs9:(W9.cell? ⟨b,0,none⟩=some (.slice pp np cp)∧W9.cell? ⟨b,1,none⟩=some (.slice pe ne ce)∧W9.cell? ⟨b,2,none⟩=some (.int .i64 a0)∧W9.cell? ⟨b,3,none⟩=some (.int .u64 a1)∧W9.cell? ⟨b,4,none⟩=some (.int .u64 a2)∧W9.cell? ⟨b,5,none⟩=some (.int .u64 a3)∧W9.cell? ⟨b,6,none⟩=some (.int .u64 a4)∧W9.cell? ⟨b,7,none⟩=some (.int .u64 a5)∧W9.cell? ⟨b,8,none⟩=some (.int .u64 a6)∧W9.cell? ⟨b,9,none⟩=some (.int .u64 a7)∧W9.cell? ⟨b,10,none⟩=some (.int .u64 a8))∧(W9.cell? ⟨b2,0,none⟩=some (.int .i64 x)∧W9.cell? ⟨b2,1,none⟩=some (.int .i64 d0)∧W9.cell? ⟨b2,2,none⟩=some (.int .u64 d1)∧W9.cell? ⟨b2,3,none⟩=some (.int .u64 d2)∧W9.cell? ⟨b2,4,none⟩=some (.int .u64 d3)∧W9.cell? ⟨b2,5,none⟩=some (.int .u64 d4)∧W9.cell? ⟨b2,6,none⟩=some (.int .u64 d5)∧W9.cell? ⟨b2,7,none⟩=some (.int .u64 d6)∧W9.cell? ⟨b2,8,none⟩=some (.int .u64 d7)∧W9.cell? ⟨b2,9,none⟩=some (.int .u64 d8)):=by
     have kp:∀ c j,c≠b3→W9.cell? ⟨c,j,none⟩=D5.cell? ⟨c,j,none⟩:=fun c j hc=>by
      unfold World.cell?
      simp only [hfar c hc]
     obtain ⟨⟨r0,r1,r2,r3,r4,r5,r6,r7,r8,r9,r10⟩,⟨s0,s1,s2,s3,s4,s5,s6,s7,s8,s9⟩⟩:=hs0
     exact ⟨⟨(kp _ _ HK.out.2.2.1).trans r0,(kp _ _ HK.out.2.2.1).trans r1,(kp _ _ HK.out.2.2.1).trans r2,(kp _ _ HK.out.2.2.1).trans r3,(kp _ _ HK.out.2.2.1).trans r4,(kp _ _ HK.out.2.2.1).trans r5,(kp _ _ HK.out.2.2.1).trans r6,(kp _ _ HK.out.2.2.1).trans r7,(kp _ _ HK.out.2.2.1).trans r8,(kp _ _ HK.out.2.2.1).trans r9,(kp _ _ HK.out.2.2.1).trans r10⟩,⟨(kp _ _ HK.out.2.2.2.1).trans s0,(kp _ _ HK.out.2.2.2.1).trans s1,(kp _ _ HK.out.2.2.2.1).trans s2,(kp _ _ HK.out.2.2.2.1).trans s3,(kp _ _ HK.out.2.2.2.1).trans s4,(kp _ _ HK.out.2.2.2.1).trans s5,(kp _ _ HK.out.2.2.2.1).trans s6,(kp _ _ HK.out.2.2.2.1).trans s7,(kp _ _ HK.out.2.2.2.1).trans s8,(kp _ _ HK.out.2.2.2.1).trans s9⟩⟩
    have HW9:=hideL hW9
    clear hW9 hz hfar kb3
    refine rd 15 rfl fun KK hKK=>?_
    go_simp
    rw [HW9.out]
    refine hKK.out _ _ hs9 (fun _=>?_)
    clear hKK KK
    refine wpAnyH_done (by kernel_rfl) ?_ _
    try simp only [List.getElem_toArray,List.getElem_cons_succ,List.getElem_cons_zero,Act.put,List.setIfInBounds_toArray,List.set_cons_zero,List.set_cons_succ]
    clear hs0 hs9
    go_wp2_with fail
    refine bodyPost_ret (res_to _ _ b3 _ _ _ _ _ _ _ _ _ _ _ _ _ _ _ rfl HRES.out) rfl ?_
    exact HFIN.out
   ·obtain ⟨r10,hr10⟩:∃ r,D2.heap.size=r:=⟨_,rfl⟩
    obtain ⟨D6,hD6⟩:∃ W,D2.alloc (.cells #[.slice pe ne ce,.slice qp me ce9] 38 (0,0))=W:=⟨_,rfl⟩
    have m10:D6.heap[r10]?=some (.cells #[.slice pe ne ce,.slice qp me ce9] 38 (0,0)):=by rw [←hD6,←hr10];exact alloc_getZ _ _
    have bD:Below D2.heap.size D2 D6:=by rw [←hD6];exact belAZ (Below.refl _ _) _
    go_simp
    try rw [hD6]
    try rw [hr10]
    clear hD6 hr10
    have hSE:=bel0Z hSD bD
    have m4:=keepZ bD m4
    have m5:=keepZ bD m5
    have hs1:=HS.out D6 hSE
    refine hKK.out _ _ hs1 (fun _=>?_)
    clear hKK KK hs0 hSD bD
    have hs0:=hs1
    have hSD:=hSE
    clear hs1 hSE
    refine wpAnyH_ready (rs:=[6]) (by kernel_rfl) (by simp) ?_
    refine AllReadyH.cons rfl (fun KK hKK=>?_) (AllReadyH.nil)
    go_simp
    refine (HCC.out D6 r4 r5 hSD m4 m5).mono ?_
    rintro en D7 ⟨q6,c6,rfl,o6,bD⟩
    have i6:=own_il o6 (HN6.out.1)
    have ycap6:=own_cap o6
    have p6:∀ a,q6=some a→a.block≠b3:=fun a e=>by
     have y1:=own_blkA o6 a e
     have y2:=hSD.size
     have y3:=HK.out.2.2.2.2
     omega
    have hSE:=bel0Z hSD bD
    clear o6
    have m4:=keepZ bD m4
    have m5:=keepZ bD m5
    have m10:=keepZ bD m10
    go_simp
    have hs1:=HS.out D7 hSE
    refine hKK.out _ _ hs1 (fun _=>?_)
    clear hKK KK hs0 hSD bD
    have hs0:=hs1
    have hSD:=hSE
    clear hs1 hSE
    refine wpAnyH_ready (rs:=[11]) (by kernel_rfl) (by simp) ?_
    refine AllReadyH.cons rfl (fun KK hKK=>?_) (AllReadyH.nil)
    go_simp
    refine (HCE.out D7 r10 hSD m10).mono ?_
    rintro en D8 ⟨q11,c11,rfl,o11,bD⟩
    have i11:=own_il o11 (HN6.out.2)
    have ycap11:=own_cap o11
    have p11:∀ a,q11=some a→a.block≠b3:=fun a e=>by
     have y1:=own_blkA o11 a e
     have y2:=hSD.size
     have y3:=HK.out.2.2.2.2
     omega
    have hSE:=bel0Z hSD bD
    clear o11
    have m4:=keepZ bD m4
    have m5:=keepZ bD m5
    have m10:=keepZ bD m10
    have i6:=i6.below bD
    go_simp
    have hs1:=HS.out D8 hSE
    refine hKK.out _ _ hs1 (fun _=>?_)
    clear hKK KK hs0 hSD bD
    have hs0:=hs1
    have hSD:=hSE
    clear hs1 hSE
    refine tk 14 (.agg #[.slice q6 n6 c6,.slice q11 n11 c11,.int .i64 d0,.int .u64 d1,.int .u64 d2,.int .u64 d3,.int .u64 d4,.int .u64 d5,.int .u64 d6,.int .u64 d7,.int .u64 d8]) rfl hs0 ?_ ?_
    ·rintro U ⟨⟨r0,r1,r2,r3,r4,r5,r6,r7,r8,r9,r10⟩,⟨s0,s1,s2,s3,s4,s5,s6,s7,s8,s9⟩⟩;go_simp
    have kb3:=(HK.out.1 D8 hSD).1
    have hz:=cellsZ kb3
    have z0:D8.cell? ⟨b3,0,none⟩=some (.slice none 0 0):=by rw [hz.1];rfl
    have f0:=hz.2 0
    have z1:D8.cell? ⟨b3,1,none⟩=some (.slice none 0 0):=by rw [hz.1];rfl
    have f1:=hz.2 1
    have z2:D8.cell? ⟨b3,2,none⟩=some (.int .i64 0):=by rw [hz.1];rfl
    have f2:=hz.2 2
    have z3:D8.cell? ⟨b3,3,none⟩=some (.int .u64 0):=by rw [hz.1];rfl
    have f3:=hz.2 3
    have z4:D8.cell? ⟨b3,4,none⟩=some (.int .u64 0):=by rw [hz.1];rfl
    have f4:=hz.2 4
    have z5:D8.cell? ⟨b3,5,none⟩=some (.int .u64 0):=by rw [hz.1];rfl
    have f5:=hz.2 5
    have z6:D8.cell? ⟨b3,6,none⟩=some (.int .u64 0):=by rw [hz.1];rfl
    have f6:=hz.2 6
    have z7:D8.cell? ⟨b3,7,none⟩=some (.int .u64 0):=by rw [hz.1];rfl
    have f7:=hz.2 7
    have z8:D8.cell? ⟨b3,8,none⟩=some (.int .u64 0):=by rw [hz.1];rfl
    have f8:=hz.2 8
    have z9:D8.cell? ⟨b3,9,none⟩=some (.int .u64 0):=by rw [hz.1];rfl
    have f9:=hz.2 9
    have z10:D8.cell? ⟨b3,10,none⟩=some (.int .u64 0):=by rw [hz.1];rfl
    have f10:=hz.2 10
    obtain ⟨W9,hW9⟩:∃ W,((((((((((D8.setCell ⟨b3,0,none⟩ (.slice q6 n6 c6)).setCell ⟨b3,1,none⟩ (.slice q11 n11 c11)).setCell ⟨b3,2,none⟩ (.int .i64 d0)).setCell ⟨b3,3,none⟩ (.int .u64 d1)).setCell ⟨b3,4,none⟩ (.int .u64 d2)).setCell ⟨b3,5,none⟩ (.int .u64 d3)).setCell ⟨b3,6,none⟩ (.int .u64 d4)).setCell ⟨b3,7,none⟩ (.int .u64 d5)).setCell ⟨b3,8,none⟩ (.int .u64 d6)).setCell ⟨b3,9,none⟩ (.int .u64 d7)).setCell ⟨b3,10,none⟩ (.int .u64 d8)=W:=⟨_,rfl⟩
    have HRES:Hid (W9.heap[b3]?=some (.cells #[.slice q6 n6 c6,.slice q11 n11 c11,.int .i64 d0,.int .u64 d1,.int .u64 d2,.int .u64 d3,.int .u64 d4,.int .u64 d5,.int .u64 d6,.int .u64 d7,.int .u64 d8] 114 (0,0))):=by
     rw [←hW9]
     exact put11 (.slice q6 n6 c6) (.slice q11 n11 c11) (.int .i64 d0) (.int .u64 d1) (.int .u64 d2) (.int .u64 d3) (.int .u64 d4) (.int .u64 d5) (.int .u64 d6) (.int .u64 d7) (.int .u64 d8) kb3
    have hfar:∀ c,c≠b3→W9.heap[c]?=D8.heap[c]?:=fun c hc=>by
     rw [←hW9]
     exact put11f (.slice q6 n6 c6) (.slice q11 n11 c11) (.int .i64 d0) (.int .u64 d1) (.int .u64 d2) (.int .u64 d3) (.int .u64 d4) (.int .u64 d5) (.int .u64 d6) (.int .u64 d7) (.int .u64 d8) hc
    have HFIN:Hid (TOQ ⟨ps,es,hd⟩ (x,h) E w (.returned (.agg #[.slice q6 n6 c6,.slice q11 n11 c11,.int .i64 d0,.int .u64 d1,.int .u64 d2,.int .u64 d3,.int .u64 d4,.int .u64 d5,.int .u64 d6,.int .u64 d7,.int .u64 d8])) W9):=HFI.out W9 q6 q11 c6 c11 (i6.far hfar p6) (i11.far hfar p11) ycap6 (by rw [←hW9];exact put11b (.slice q6 n6 c6) (.slice q11 n11 c11) (.int .i64 d0) (.int .u64 d1) (.int .u64 d2) (.int .u64 d3) (.int .u64 d4) (.int .u64 d5) (.int .u64 d6) (.int .u64 d7) (.int .u64 d8) (HK.out.1 D8 hSD).2 HK.out.2.1)
    have hs9:(W9.cell? ⟨b,0,none⟩=some (.slice pp np cp)∧W9.cell? ⟨b,1,none⟩=some (.slice pe ne ce)∧W9.cell? ⟨b,2,none⟩=some (.int .i64 a0)∧W9.cell? ⟨b,3,none⟩=some (.int .u64 a1)∧W9.cell? ⟨b,4,none⟩=some (.int .u64 a2)∧W9.cell? ⟨b,5,none⟩=some (.int .u64 a3)∧W9.cell? ⟨b,6,none⟩=some (.int .u64 a4)∧W9.cell? ⟨b,7,none⟩=some (.int .u64 a5)∧W9.cell? ⟨b,8,none⟩=some (.int .u64 a6)∧W9.cell? ⟨b,9,none⟩=some (.int .u64 a7)∧W9.cell? ⟨b,10,none⟩=some (.int .u64 a8))∧(W9.cell? ⟨b2,0,none⟩=some (.int .i64 x)∧W9.cell? ⟨b2,1,none⟩=some (.int .i64 d0)∧W9.cell? ⟨b2,2,none⟩=some (.int .u64 d1)∧W9.cell? ⟨b2,3,none⟩=some (.int .u64 d2)∧W9.cell? ⟨b2,4,none⟩=some (.int .u64 d3)∧W9.cell? ⟨b2,5,none⟩=some (.int .u64 d4)∧W9.cell? ⟨b2,6,none⟩=some (.int .u64 d5)∧W9.cell? ⟨b2,7,none⟩=some (.int .u64 d6)∧W9.cell? ⟨b2,8,none⟩=some (.int .u64 d7)∧W9.cell? ⟨b2,9,none⟩=some (.int .u64 d8)):=by
     have kp:∀ c j,c≠b3→W9.cell? ⟨c,j,none⟩=D8.cell? ⟨c,j,none⟩:=fun c j hc=>by
      unfold World.cell?
      simp only [hfar c hc]
     obtain ⟨⟨r0,r1,r2,r3,r4,r5,r6,r7,r8,r9,r10⟩,⟨s0,s1,s2,s3,s4,s5,s6,s7,s8,s9⟩⟩:=hs0
     exact ⟨⟨(kp _ _ HK.out.2.2.1).trans r0,(kp _ _ HK.out.2.2.1).trans r1,(kp _ _ HK.out.2.2.1).trans r2,(kp _ _ HK.out.2.2.1).trans r3,(kp _ _ HK.out.2.2.1).trans r4,(kp _ _ HK.out.2.2.1).trans r5,(kp _ _ HK.out.2.2.1).trans r6,(kp _ _ HK.out.2.2.1).trans r7,(kp _ _ HK.out.2.2.1).trans r8,(kp _ _ HK.out.2.2.1).trans r9,(kp _ _ HK.out.2.2.1).trans r10⟩,⟨(kp _ _ HK.out.2.2.2.1).trans s0,(kp _ _ HK.out.2.2.2.1).trans s1,(kp _ _ HK.out.2.2.2.1).trans s2,(kp _ _ HK.out.2.2.2.1).trans s3,(kp _ _ HK.out.2.2.2.1).trans s4,(kp _ _ HK.out.2.2.2.1).trans s5,(kp _ _ HK.out.2.2.2.1).trans s6,(kp _ _ HK.out.2.2.2.1).trans s7,(kp _ _ HK.out.2.2.2.1).trans s8,(kp _ _ HK.out.2.2.2.1).trans s9⟩⟩
    have HW9:=hideL hW9
    clear hW9 hz hfar kb3
    refine rd 15 rfl fun KK hKK=>?_
    go_simp
    rw [HW9.out]
    refine hKK.out _ _ hs9 (fun _=>?_)
    clear hKK KK
    refine wpAnyH_done (by kernel_rfl) ?_ _
    try simp only [List.getElem_toArray,List.getElem_cons_succ,List.getElem_cons_zero,Act.put,List.setIfInBounds_toArray,List.set_cons_zero,List.set_cons_succ]
    clear hs0 hs9
    go_wp2_with fail
    refine bodyPost_ret (res_to _ _ b3 _ _ _ _ _ _ _ _ _ _ _ _ _ _ _ rfl HRES.out) rfl ?_
    exact HFIN.out
  ·obtain ⟨r10,hr10⟩:∃ r,D1.heap.size=r:=⟨_,rfl⟩
   obtain ⟨D9,hD9⟩:∃ W,D1.alloc (.cells #[.slice pe ne ce,.slice qp me ce9] 38 (0,0))=W:=⟨_,rfl⟩
   have m10:D9.heap[r10]?=some (.cells #[.slice pe ne ce,.slice qp me ce9] 38 (0,0)):=by rw [←hD9,←hr10];exact alloc_getZ _ _
   have bD:Below D1.heap.size D1 D9:=by rw [←hD9];exact belAZ (Below.refl _ _) _
   go_simp
   try rw [hD9]
   try rw [hr10]
   clear hD9 hr10
   have hSE:=bel0Z hSD bD
   have m4:=keepZ bD m4
   have hs1:=HS.out D9 hSE
   refine hKK.out _ _ hs1 (fun _=>?_)
   clear hKK KK hs0 hSD bD
   have hs0:=hs1
   have hSD:=hSE
   clear hs1 hSE
   refine wpAnyH_ready (rs:=[5]) (by kernel_rfl) (by simp) ?_
   refine AllReadyH.cons rfl (fun KK hKK=>?_) (AllReadyH.nil)
   obtain ⟨r5,hr5⟩:∃ r,D9.heap.size=r:=⟨_,rfl⟩
   obtain ⟨D10,hD10⟩:∃ W,D9.alloc (.cells #[.slice pp np cp,.slice (some ⟨r4,0,none⟩) 1 1] 38 (0,0))=W:=⟨_,rfl⟩
   have m5:D10.heap[r5]?=some (.cells #[.slice pp np cp,.slice (some ⟨r4,0,none⟩) 1 1] 38 (0,0)):=by rw [←hD10,←hr5];exact alloc_getZ _ _
   have bD:Below D9.heap.size D9 D10:=by rw [←hD10];exact belAZ (Below.refl _ _) _
   go_simp
   try rw [hD10]
   try rw [hr5]
   clear hD10 hr5
   have hSE:=bel0Z hSD bD
   have m4:=keepZ bD m4
   have m10:=keepZ bD m10
   have hs1:=HS.out D10 hSE
   refine hKK.out _ _ hs1 (fun _=>?_)
   clear hKK KK hs0 hSD bD
   have hs0:=hs1
   have hSD:=hSE
   clear hs1 hSE
   refine wpAnyH_ready (rs:=[6]) (by kernel_rfl) (by simp) ?_
   refine AllReadyH.cons rfl (fun KK hKK=>?_) (AllReadyH.nil)
   go_simp
   refine (HCC.out D10 r4 r5 hSD m4 m5).mono ?_
   rintro en D11 ⟨q6,c6,rfl,o6,bD⟩
   have i6:=own_il o6 (HN6.out.1)
   have ycap6:=own_cap o6
   have p6:∀ a,q6=some a→a.block≠b3:=fun a e=>by
    have y1:=own_blkA o6 a e
    have y2:=hSD.size
    have y3:=HK.out.2.2.2.2
    omega
   have hSE:=bel0Z hSD bD
   clear o6
   have m4:=keepZ bD m4
   have m10:=keepZ bD m10
   have m5:=keepZ bD m5
   go_simp
   have hs1:=HS.out D11 hSE
   refine hKK.out _ _ hs1 (fun _=>?_)
   clear hKK KK hs0 hSD bD
   have hs0:=hs1
   have hSD:=hSE
   clear hs1 hSE
   refine wpAnyH_ready (rs:=[11]) (by kernel_rfl) (by simp) ?_
   refine AllReadyH.cons rfl (fun KK hKK=>?_) (AllReadyH.nil)
   go_simp
   refine (HCE.out D11 r10 hSD m10).mono ?_
   rintro en D12 ⟨q11,c11,rfl,o11,bD⟩
   have i11:=own_il o11 (HN6.out.2)
   have ycap11:=own_cap o11
   have p11:∀ a,q11=some a→a.block≠b3:=fun a e=>by
    have y1:=own_blkA o11 a e
    have y2:=hSD.size
    have y3:=HK.out.2.2.2.2
    omega
   have hSE:=bel0Z hSD bD
   clear o11
   have m4:=keepZ bD m4
   have m10:=keepZ bD m10
   have m5:=keepZ bD m5
   have i6:=i6.below bD
   go_simp
   have hs1:=HS.out D12 hSE
   refine hKK.out _ _ hs1 (fun _=>?_)
   clear hKK KK hs0 hSD bD
   have hs0:=hs1
   have hSD:=hSE
   clear hs1 hSE
   refine tk 14 (.agg #[.slice q6 n6 c6,.slice q11 n11 c11,.int .i64 d0,.int .u64 d1,.int .u64 d2,.int .u64 d3,.int .u64 d4,.int .u64 d5,.int .u64 d6,.int .u64 d7,.int .u64 d8]) rfl hs0 ?_ ?_
   ·rintro U ⟨⟨r0,r1,r2,r3,r4,r5,r6,r7,r8,r9,r10⟩,⟨s0,s1,s2,s3,s4,s5,s6,s7,s8,s9⟩⟩;go_simp
   have kb3:=(HK.out.1 D12 hSD).1
   have hz:=cellsZ kb3
   have z0:D12.cell? ⟨b3,0,none⟩=some (.slice none 0 0):=by rw [hz.1];rfl
   have f0:=hz.2 0
   have z1:D12.cell? ⟨b3,1,none⟩=some (.slice none 0 0):=by rw [hz.1];rfl
   have f1:=hz.2 1
   have z2:D12.cell? ⟨b3,2,none⟩=some (.int .i64 0):=by rw [hz.1];rfl
   have f2:=hz.2 2
   have z3:D12.cell? ⟨b3,3,none⟩=some (.int .u64 0):=by rw [hz.1];rfl
   have f3:=hz.2 3
   have z4:D12.cell? ⟨b3,4,none⟩=some (.int .u64 0):=by rw [hz.1];rfl
   have f4:=hz.2 4
   have z5:D12.cell? ⟨b3,5,none⟩=some (.int .u64 0):=by rw [hz.1];rfl
   have f5:=hz.2 5
   have z6:D12.cell? ⟨b3,6,none⟩=some (.int .u64 0):=by rw [hz.1];rfl
   have f6:=hz.2 6
   have z7:D12.cell? ⟨b3,7,none⟩=some (.int .u64 0):=by rw [hz.1];rfl
   have f7:=hz.2 7
   have z8:D12.cell? ⟨b3,8,none⟩=some (.int .u64 0):=by rw [hz.1];rfl
   have f8:=hz.2 8
   have z9:D12.cell? ⟨b3,9,none⟩=some (.int .u64 0):=by rw [hz.1];rfl
   have f9:=hz.2 9
   have z10:D12.cell? ⟨b3,10,none⟩=some (.int .u64 0):=by rw [hz.1];rfl
   have f10:=hz.2 10
   obtain ⟨W9,hW9⟩:∃ W,((((((((((D12.setCell ⟨b3,0,none⟩ (.slice q6 n6 c6)).setCell ⟨b3,1,none⟩ (.slice q11 n11 c11)).setCell ⟨b3,2,none⟩ (.int .i64 d0)).setCell ⟨b3,3,none⟩ (.int .u64 d1)).setCell ⟨b3,4,none⟩ (.int .u64 d2)).setCell ⟨b3,5,none⟩ (.int .u64 d3)).setCell ⟨b3,6,none⟩ (.int .u64 d4)).setCell ⟨b3,7,none⟩ (.int .u64 d5)).setCell ⟨b3,8,none⟩ (.int .u64 d6)).setCell ⟨b3,9,none⟩ (.int .u64 d7)).setCell ⟨b3,10,none⟩ (.int .u64 d8)=W:=⟨_,rfl⟩
   have HRES:Hid (W9.heap[b3]?=some (.cells #[.slice q6 n6 c6,.slice q11 n11 c11,.int .i64 d0,.int .u64 d1,.int .u64 d2,.int .u64 d3,.int .u64 d4,.int .u64 d5,.int .u64 d6,.int .u64 d7,.int .u64 d8] 114 (0,0))):=by
    rw [←hW9]
    exact put11 (.slice q6 n6 c6) (.slice q11 n11 c11) (.int .i64 d0) (.int .u64 d1) (.int .u64 d2) (.int .u64 d3) (.int .u64 d4) (.int .u64 d5) (.int .u64 d6) (.int .u64 d7) (.int .u64 d8) kb3
   have hfar:∀ c,c≠b3→W9.heap[c]?=D12.heap[c]?:=fun c hc=>by
    rw [←hW9]
    exact put11f (.slice q6 n6 c6) (.slice q11 n11 c11) (.int .i64 d0) (.int .u64 d1) (.int .u64 d2) (.int .u64 d3) (.int .u64 d4) (.int .u64 d5) (.int .u64 d6) (.int .u64 d7) (.int .u64 d8) hc
   have HFIN:Hid (TOQ ⟨ps,es,hd⟩ (x,h) E w (.returned (.agg #[.slice q6 n6 c6,.slice q11 n11 c11,.int .i64 d0,.int .u64 d1,.int .u64 d2,.int .u64 d3,.int .u64 d4,.int .u64 d5,.int .u64 d6,.int .u64 d7,.int .u64 d8])) W9):=HFI.out W9 q6 q11 c6 c11 (i6.far hfar p6) (i11.far hfar p11) ycap6 (by rw [←hW9];exact put11b (.slice q6 n6 c6) (.slice q11 n11 c11) (.int .i64 d0) (.int .u64 d1) (.int .u64 d2) (.int .u64 d3) (.int .u64 d4) (.int .u64 d5) (.int .u64 d6) (.int .u64 d7) (.int .u64 d8) (HK.out.1 D12 hSD).2 HK.out.2.1)
   have hs9:(W9.cell? ⟨b,0,none⟩=some (.slice pp np cp)∧W9.cell? ⟨b,1,none⟩=some (.slice pe ne ce)∧W9.cell? ⟨b,2,none⟩=some (.int .i64 a0)∧W9.cell? ⟨b,3,none⟩=some (.int .u64 a1)∧W9.cell? ⟨b,4,none⟩=some (.int .u64 a2)∧W9.cell? ⟨b,5,none⟩=some (.int .u64 a3)∧W9.cell? ⟨b,6,none⟩=some (.int .u64 a4)∧W9.cell? ⟨b,7,none⟩=some (.int .u64 a5)∧W9.cell? ⟨b,8,none⟩=some (.int .u64 a6)∧W9.cell? ⟨b,9,none⟩=some (.int .u64 a7)∧W9.cell? ⟨b,10,none⟩=some (.int .u64 a8))∧(W9.cell? ⟨b2,0,none⟩=some (.int .i64 x)∧W9.cell? ⟨b2,1,none⟩=some (.int .i64 d0)∧W9.cell? ⟨b2,2,none⟩=some (.int .u64 d1)∧W9.cell? ⟨b2,3,none⟩=some (.int .u64 d2)∧W9.cell? ⟨b2,4,none⟩=some (.int .u64 d3)∧W9.cell? ⟨b2,5,none⟩=some (.int .u64 d4)∧W9.cell? ⟨b2,6,none⟩=some (.int .u64 d5)∧W9.cell? ⟨b2,7,none⟩=some (.int .u64 d6)∧W9.cell? ⟨b2,8,none⟩=some (.int .u64 d7)∧W9.cell? ⟨b2,9,none⟩=some (.int .u64 d8)):=by
    have kp:∀ c j,c≠b3→W9.cell? ⟨c,j,none⟩=D12.cell? ⟨c,j,none⟩:=fun c j hc=>by
     unfold World.cell?
     simp only [hfar c hc]
    obtain ⟨⟨r0,r1,r2,r3,r4,r5,r6,r7,r8,r9,r10⟩,⟨s0,s1,s2,s3,s4,s5,s6,s7,s8,s9⟩⟩:=hs0
    exact ⟨⟨(kp _ _ HK.out.2.2.1).trans r0,(kp _ _ HK.out.2.2.1).trans r1,(kp _ _ HK.out.2.2.1).trans r2,(kp _ _ HK.out.2.2.1).trans r3,(kp _ _ HK.out.2.2.1).trans r4,(kp _ _ HK.out.2.2.1).trans r5,(kp _ _ HK.out.2.2.1).trans r6,(kp _ _ HK.out.2.2.1).trans r7,(kp _ _ HK.out.2.2.1).trans r8,(kp _ _ HK.out.2.2.1).trans r9,(kp _ _ HK.out.2.2.1).trans r10⟩,⟨(kp _ _ HK.out.2.2.2.1).trans s0,(kp _ _ HK.out.2.2.2.1).trans s1,(kp _ _ HK.out.2.2.2.1).trans s2,(kp _ _ HK.out.2.2.2.1).trans s3,(kp _ _ HK.out.2.2.2.1).trans s4,(kp _ _ HK.out.2.2.2.1).trans s5,(kp _ _ HK.out.2.2.2.1).trans s6,(kp _ _ HK.out.2.2.2.1).trans s7,(kp _ _ HK.out.2.2.2.1).trans s8,(kp _ _ HK.out.2.2.2.1).trans s9⟩⟩
   have HW9:=hideL hW9
   clear hW9 hz hfar kb3
   refine rd 15 rfl fun KK hKK=>?_
   go_simp
   rw [HW9.out]
   refine hKK.out _ _ hs9 (fun _=>?_)
   clear hKK KK
   refine wpAnyH_done (by kernel_rfl) ?_ _
   try simp only [List.getElem_toArray,List.getElem_cons_succ,List.getElem_cons_zero,Act.put,List.setIfInBounds_toArray,List.set_cons_zero,List.set_cons_succ]
   clear hs0 hs9
   go_wp2_with fail
   refine bodyPost_ret (res_to _ _ b3 _ _ _ _ _ _ _ _ _ _ _ _ _ _ _ rfl HRES.out) rfl ?_
   exact HFIN.out
 ·obtain ⟨r10,hr10⟩:∃ r,D.heap.size=r:=⟨_,rfl⟩
  obtain ⟨D13,hD13⟩:∃ W,D.alloc (.cells #[.slice pe ne ce,.slice qp me ce9] 38 (0,0))=W:=⟨_,rfl⟩
  have m10:D13.heap[r10]?=some (.cells #[.slice pe ne ce,.slice qp me ce9] 38 (0,0)):=by rw [←hD13,←hr10];exact alloc_getZ _ _
  have bD:Below D.heap.size D D13:=by rw [←hD13];exact belAZ (Below.refl _ _) _
  go_simp
  try rw [hD13]
  try rw [hr10]
  clear hD13 hr10
  have hSE:=bel0Z hSD bD
  have hs1:=HS.out D13 hSE
  refine hKK.out _ _ hs1 (fun _=>?_)
  clear hKK KK hs0 hSD bD
  have hs0:=hs1
  have hSD:=hSE
  clear hs1 hSE
  refine wpAnyH_ready (rs:=[4]) (by kernel_rfl) (by simp) ?_
  refine AllReadyH.cons rfl (fun KK hKK=>?_) (AllReadyH.nil)
  obtain ⟨r4,hr4⟩:∃ r,D13.heap.size=r:=⟨_,rfl⟩
  obtain ⟨D14,hD14⟩:∃ W,D13.alloc (.cells #[.int .i64 x] 3 (0,0))=W:=⟨_,rfl⟩
  have m4:D14.heap[r4]?=some (.cells #[.int .i64 x] 3 (0,0)):=by rw [←hD14,←hr4];exact alloc_getZ _ _
  have bD:Below D13.heap.size D13 D14:=by rw [←hD14];exact belAZ (Below.refl _ _) _
  go_simp
  try rw [hD14]
  try rw [hr4]
  clear hD14 hr4
  have hSE:=bel0Z hSD bD
  have m10:=keepZ bD m10
  have hs1:=HS.out D14 hSE
  refine hKK.out _ _ hs1 (fun _=>?_)
  clear hKK KK hs0 hSD bD
  have hs0:=hs1
  have hSD:=hSE
  clear hs1 hSE
  refine wpAnyH_ready (rs:=[5]) (by kernel_rfl) (by simp) ?_
  refine AllReadyH.cons rfl (fun KK hKK=>?_) (AllReadyH.nil)
  obtain ⟨r5,hr5⟩:∃ r,D14.heap.size=r:=⟨_,rfl⟩
  obtain ⟨D15,hD15⟩:∃ W,D14.alloc (.cells #[.slice pp np cp,.slice (some ⟨r4,0,none⟩) 1 1] 38 (0,0))=W:=⟨_,rfl⟩
  have m5:D15.heap[r5]?=some (.cells #[.slice pp np cp,.slice (some ⟨r4,0,none⟩) 1 1] 38 (0,0)):=by rw [←hD15,←hr5];exact alloc_getZ _ _
  have bD:Below D14.heap.size D14 D15:=by rw [←hD15];exact belAZ (Below.refl _ _) _
  go_simp
  try rw [hD15]
  try rw [hr5]
  clear hD15 hr5
  have hSE:=bel0Z hSD bD
  have m10:=keepZ bD m10
  have m4:=keepZ bD m4
  have hs1:=HS.out D15 hSE
  refine hKK.out _ _ hs1 (fun _=>?_)
  clear hKK KK hs0 hSD bD
  have hs0:=hs1
  have hSD:=hSE
  clear hs1 hSE
  refine wpAnyH_ready (rs:=[6]) (by kernel_rfl) (by simp) ?_
  refine AllReadyH.cons rfl (fun KK hKK=>?_) (AllReadyH.nil)
  go_simp
  refine (HCC.out D15 r4 r5 hSD m4 m5).mono ?_
  rintro en D16 ⟨q6,c6,rfl,o6,bD⟩
  have i6:=own_il o6 (HN6.out.1)
  have ycap6:=own_cap o6
  have p6:∀ a,q6=some a→a.block≠b3:=fun a e=>by
   have y1:=own_blkA o6 a e
   have y2:=hSD.size
   have y3:=HK.out.2.2.2.2
   omega
  have hSE:=bel0Z hSD bD
  clear o6
  have m10:=keepZ bD m10
  have m4:=keepZ bD m4
  have m5:=keepZ bD m5
  go_simp
  have hs1:=HS.out D16 hSE
  refine hKK.out _ _ hs1 (fun _=>?_)
  clear hKK KK hs0 hSD bD
  have hs0:=hs1
  have hSD:=hSE
  clear hs1 hSE
  refine wpAnyH_ready (rs:=[11]) (by kernel_rfl) (by simp) ?_
  refine AllReadyH.cons rfl (fun KK hKK=>?_) (AllReadyH.nil)
  go_simp
  refine (HCE.out D16 r10 hSD m10).mono ?_
  rintro en D17 ⟨q11,c11,rfl,o11,bD⟩
  have i11:=own_il o11 (HN6.out.2)
  have ycap11:=own_cap o11
  have p11:∀ a,q11=some a→a.block≠b3:=fun a e=>by
   have y1:=own_blkA o11 a e
   have y2:=hSD.size
   have y3:=HK.out.2.2.2.2
   omega
  have hSE:=bel0Z hSD bD
  clear o11
  have m10:=keepZ bD m10
  have m4:=keepZ bD m4
  have m5:=keepZ bD m5
  have i6:=i6.below bD
  go_simp
  have hs1:=HS.out D17 hSE
  refine hKK.out _ _ hs1 (fun _=>?_)
  clear hKK KK hs0 hSD bD
  have hs0:=hs1
  have hSD:=hSE
  clear hs1 hSE
  refine tk 14 (.agg #[.slice q6 n6 c6,.slice q11 n11 c11,.int .i64 d0,.int .u64 d1,.int .u64 d2,.int .u64 d3,.int .u64 d4,.int .u64 d5,.int .u64 d6,.int .u64 d7,.int .u64 d8]) rfl hs0 ?_ ?_
  ·rintro U ⟨⟨r0,r1,r2,r3,r4,r5,r6,r7,r8,r9,r10⟩,⟨s0,s1,s2,s3,s4,s5,s6,s7,s8,s9⟩⟩;go_simp
  have kb3:=(HK.out.1 D17 hSD).1
  have hz:=cellsZ kb3
  have z0:D17.cell? ⟨b3,0,none⟩=some (.slice none 0 0):=by rw [hz.1];rfl
  have f0:=hz.2 0
  have z1:D17.cell? ⟨b3,1,none⟩=some (.slice none 0 0):=by rw [hz.1];rfl
  have f1:=hz.2 1
  have z2:D17.cell? ⟨b3,2,none⟩=some (.int .i64 0):=by rw [hz.1];rfl
  have f2:=hz.2 2
  have z3:D17.cell? ⟨b3,3,none⟩=some (.int .u64 0):=by rw [hz.1];rfl
  have f3:=hz.2 3
  have z4:D17.cell? ⟨b3,4,none⟩=some (.int .u64 0):=by rw [hz.1];rfl
  have f4:=hz.2 4
  have z5:D17.cell? ⟨b3,5,none⟩=some (.int .u64 0):=by rw [hz.1];rfl
  have f5:=hz.2 5
  have z6:D17.cell? ⟨b3,6,none⟩=some (.int .u64 0):=by rw [hz.1];rfl
  have f6:=hz.2 6
  have z7:D17.cell? ⟨b3,7,none⟩=some (.int .u64 0):=by rw [hz.1];rfl
  have f7:=hz.2 7
  have z8:D17.cell? ⟨b3,8,none⟩=some (.int .u64 0):=by rw [hz.1];rfl
  have f8:=hz.2 8
  have z9:D17.cell? ⟨b3,9,none⟩=some (.int .u64 0):=by rw [hz.1];rfl
  have f9:=hz.2 9
  have z10:D17.cell? ⟨b3,10,none⟩=some (.int .u64 0):=by rw [hz.1];rfl
  have f10:=hz.2 10
  obtain ⟨W9,hW9⟩:∃ W,((((((((((D17.setCell ⟨b3,0,none⟩ (.slice q6 n6 c6)).setCell ⟨b3,1,none⟩ (.slice q11 n11 c11)).setCell ⟨b3,2,none⟩ (.int .i64 d0)).setCell ⟨b3,3,none⟩ (.int .u64 d1)).setCell ⟨b3,4,none⟩ (.int .u64 d2)).setCell ⟨b3,5,none⟩ (.int .u64 d3)).setCell ⟨b3,6,none⟩ (.int .u64 d4)).setCell ⟨b3,7,none⟩ (.int .u64 d5)).setCell ⟨b3,8,none⟩ (.int .u64 d6)).setCell ⟨b3,9,none⟩ (.int .u64 d7)).setCell ⟨b3,10,none⟩ (.int .u64 d8)=W:=⟨_,rfl⟩
  have HRES:Hid (W9.heap[b3]?=some (.cells #[.slice q6 n6 c6,.slice q11 n11 c11,.int .i64 d0,.int .u64 d1,.int .u64 d2,.int .u64 d3,.int .u64 d4,.int .u64 d5,.int .u64 d6,.int .u64 d7,.int .u64 d8] 114 (0,0))):=by
   rw [←hW9]
   exact put11 (.slice q6 n6 c6) (.slice q11 n11 c11) (.int .i64 d0) (.int .u64 d1) (.int .u64 d2) (.int .u64 d3) (.int .u64 d4) (.int .u64 d5) (.int .u64 d6) (.int .u64 d7) (.int .u64 d8) kb3
  have hfar:∀ c,c≠b3→W9.heap[c]?=D17.heap[c]?:=fun c hc=>by
   rw [←hW9]
   exact put11f (.slice q6 n6 c6) (.slice q11 n11 c11) (.int .i64 d0) (.int .u64 d1) (.int .u64 d2) (.int .u64 d3) (.int .u64 d4) (.int .u64 d5) (.int .u64 d6) (.int .u64 d7) (.int .u64 d8) hc
  have HFIN:Hid (TOQ ⟨ps,es,hd⟩ (x,h) E w (.returned (.agg #[.slice q6 n6 c6,.slice q11 n11 c11,.int .i64 d0,.int .u64 d1,.int .u64 d2,.int .u64 d3,.int .u64 d4,.int .u64 d5,.int .u64 d6,.int .u64 d7,.int .u64 d8])) W9):=HFI.out W9 q6 q11 c6 c11 (i6.far hfar p6) (i11.far hfar p11) ycap6 (by rw [←hW9];exact put11b (.slice q6 n6 c6) (.slice q11 n11 c11) (.int .i64 d0) (.int .u64 d1) (.int .u64 d2) (.int .u64 d3) (.int .u64 d4) (.int .u64 d5) (.int .u64 d6) (.int .u64 d7) (.int .u64 d8) (HK.out.1 D17 hSD).2 HK.out.2.1)
  have hs9:(W9.cell? ⟨b,0,none⟩=some (.slice pp np cp)∧W9.cell? ⟨b,1,none⟩=some (.slice pe ne ce)∧W9.cell? ⟨b,2,none⟩=some (.int .i64 a0)∧W9.cell? ⟨b,3,none⟩=some (.int .u64 a1)∧W9.cell? ⟨b,4,none⟩=some (.int .u64 a2)∧W9.cell? ⟨b,5,none⟩=some (.int .u64 a3)∧W9.cell? ⟨b,6,none⟩=some (.int .u64 a4)∧W9.cell? ⟨b,7,none⟩=some (.int .u64 a5)∧W9.cell? ⟨b,8,none⟩=some (.int .u64 a6)∧W9.cell? ⟨b,9,none⟩=some (.int .u64 a7)∧W9.cell? ⟨b,10,none⟩=some (.int .u64 a8))∧(W9.cell? ⟨b2,0,none⟩=some (.int .i64 x)∧W9.cell? ⟨b2,1,none⟩=some (.int .i64 d0)∧W9.cell? ⟨b2,2,none⟩=some (.int .u64 d1)∧W9.cell? ⟨b2,3,none⟩=some (.int .u64 d2)∧W9.cell? ⟨b2,4,none⟩=some (.int .u64 d3)∧W9.cell? ⟨b2,5,none⟩=some (.int .u64 d4)∧W9.cell? ⟨b2,6,none⟩=some (.int .u64 d5)∧W9.cell? ⟨b2,7,none⟩=some (.int .u64 d6)∧W9.cell? ⟨b2,8,none⟩=some (.int .u64 d7)∧W9.cell? ⟨b2,9,none⟩=some (.int .u64 d8)):=by
   have kp:∀ c j,c≠b3→W9.cell? ⟨c,j,none⟩=D17.cell? ⟨c,j,none⟩:=fun c j hc=>by
    unfold World.cell?
    simp only [hfar c hc]
   obtain ⟨⟨r0,r1,r2,r3,r4,r5,r6,r7,r8,r9,r10⟩,⟨s0,s1,s2,s3,s4,s5,s6,s7,s8,s9⟩⟩:=hs0
   exact ⟨⟨(kp _ _ HK.out.2.2.1).trans r0,(kp _ _ HK.out.2.2.1).trans r1,(kp _ _ HK.out.2.2.1).trans r2,(kp _ _ HK.out.2.2.1).trans r3,(kp _ _ HK.out.2.2.1).trans r4,(kp _ _ HK.out.2.2.1).trans r5,(kp _ _ HK.out.2.2.1).trans r6,(kp _ _ HK.out.2.2.1).trans r7,(kp _ _ HK.out.2.2.1).trans r8,(kp _ _ HK.out.2.2.1).trans r9,(kp _ _ HK.out.2.2.1).trans r10⟩,⟨(kp _ _ HK.out.2.2.2.1).trans s0,(kp _ _ HK.out.2.2.2.1).trans s1,(kp _ _ HK.out.2.2.2.1).trans s2,(kp _ _ HK.out.2.2.2.1).trans s3,(kp _ _ HK.out.2.2.2.1).trans s4,(kp _ _ HK.out.2.2.2.1).trans s5,(kp _ _ HK.out.2.2.2.1).trans s6,(kp _ _ HK.out.2.2.2.1).trans s7,(kp _ _ HK.out.2.2.2.1).trans s8,(kp _ _ HK.out.2.2.2.1).trans s9⟩⟩
  have HW9:=hideL hW9
  clear hW9 hz hfar kb3
  refine rd 15 rfl fun KK hKK=>?_
  go_simp
  rw [HW9.out]
  refine hKK.out _ _ hs9 (fun _=>?_)
  clear hKK KK
  refine wpAnyH_done (by kernel_rfl) ?_ _
  try simp only [List.getElem_toArray,List.getElem_cons_succ,List.getElem_cons_zero,Act.put,List.setIfInBounds_toArray,List.set_cons_zero,List.set_cons_succ]
  clear hs0 hs9
  go_wp2_with fail
  refine bodyPost_ret (res_to _ _ b3 _ _ _ _ _ _ _ _ _ _ _ _ _ _ _ rfl HRES.out) rfl ?_
  exact HFIN.out
structure PV where
 pp:Option Addr
 cp:Nat
 pe:Option Addr
 ce:Nat
def paC (x:WY×PV):List Value:=[.slice x.2.pp x.1.ps.length x.2.cp,.slice x.2.pe x.1.es.length x.2.ce,.string ⟨x.1.hd.toArray⟩]
theorem paC_len (x:WY×PV):(paC x).length=3:=rfl
def PL (W:World) (x:WY×PV):Prop:=IL W x.2.pp x.1.ps.length x.2.cp x.1.ps∧IL W x.2.pe x.1.es.length x.2.ce x.1.es∧x.1.ps.length≤x.2.cp∧x.1.es.length≤x.2.ce
theorem PL.below {W U:World} {x:WY×PV} (h:PL W x) (hb:Below W.heap.size W U):PL U x:=⟨h.1.below hb,h.2.1.below hb,h.2.2⟩
def PAQ (y:WY) (w:World) (e:Ending) (w':World):Prop:=∃ v:PV,e=.returned (.agg (paC (y,v)).toArray)∧PL w' (y,v)∧Below w.heap.size w w'
set_option maxRecDepth 100000 in
set_option maxHeartbeats 16000000 in
theorem path_any (y:WY×WV) (w:World) (hL:WL w y) (hN1:y.1.ps.length≤500) (hN2:y.1.es.length≤500) (hg:Tn.good y.1.hd=true) :
  Calls Tryz.prog 68 #[.agg (wyC y).toArray] w (PAQ y.1 w):=by
 obtain ⟨⟨ps,es,hd⟩,⟨pp,cp,pe,ce⟩⟩:=y
 obtain ⟨a0,a1,a2,a3,a4,a5,a6,a7,a8,h9⟩:=c9_ex hd
 obtain ⟨np,hnp⟩:∃ k,ps.length=k:=⟨_,rfl⟩
 obtain ⟨ne,hne9⟩:∃ k,es.length=k:=⟨_,rfl⟩
 rw [wyC_arr h9 hnp hne9]
 simp only at hN1 hN2 hL hg ⊢
 have hL1:IL w pp np cp ps:=by have:=hL.1;rw [←hnp];exact this
 have hL2:IL w pe ne ce es:=by have:=hL.2.1;rw [←hne9];exact this
 obtain ⟨b,hb⟩:∃ b,w.heap.size=b:=⟨_,rfl⟩
 obtain ⟨b2,hb2⟩:∃ b2,w.heap.size+1=b2:=⟨_,rfl⟩
 obtain ⟨W1,hW1⟩:∃ W1,(w.alloc (.cells #[.slice pp np cp,.slice pe ne ce,.int .i64 a0,.int .u64 a1,.int .u64 a2,.int .u64 a3,.int .u64 a4,.int .u64 a5,.int .u64 a6,.int .u64 a7,.int .u64 a8] 114)).alloc (.cells #[.slice none 0 0,.slice none 0 0,.string ⟨#[]⟩] 52)=W1:=⟨_,rfl⟩
 have hz1:(w.alloc (.cells #[.slice pp np cp,.slice pe ne ce,.int .i64 a0,.int .u64 a1,.int .u64 a2,.int .u64 a3,.int .u64 a4,.int .u64 a5,.int .u64 a6,.int .u64 a7,.int .u64 a8] 114)).heap.size=w.heap.size+1:=Array.size_push _
 have b1:Below w.heap.size w W1:=by rw [←hW1];exact belAZ (belAZ (Below.refl _ _) _) _
 have kb:W1.heap[b]?=some (.cells #[.slice pp np cp,.slice pe ne ce,.int .i64 a0,.int .u64 a1,.int .u64 a2,.int .u64 a3,.int .u64 a4,.int .u64 a5,.int .u64 a6,.int .u64 a7,.int .u64 a8] 114 (0,0)):=by rw [←hW1,←hb];exact keepZ (belAZ (Below.refl _ _) _) (alloc_getZ _ _)
 have kb2:W1.heap[b2]?=some (.cells #[.slice none 0 0,.slice none 0 0,.string ⟨#[]⟩] 52 (0,0)):=by rw [←hW1,←hb2,←hz1];exact alloc_getZ _ _
 have HS:Hid (∀ U,Below W1.heap.size W1 U→U.cell? ⟨b,0,none⟩=some (.slice pp np cp)∧U.cell? ⟨b,1,none⟩=some (.slice pe ne ce)∧U.cell? ⟨b,2,none⟩=some (.int .i64 a0)∧U.cell? ⟨b,3,none⟩=some (.int .u64 a1)∧U.cell? ⟨b,4,none⟩=some (.int .u64 a2)∧U.cell? ⟨b,5,none⟩=some (.int .u64 a3)∧U.cell? ⟨b,6,none⟩=some (.int .u64 a4)∧U.cell? ⟨b,7,none⟩=some (.int .u64 a5)∧U.cell? ⟨b,8,none⟩=some (.int .u64 a6)∧U.cell? ⟨b,9,none⟩=some (.int .u64 a7)∧U.cell? ⟨b,10,none⟩=some (.int .u64 a8)):=fun U hU=>by
  have e1:=(cellsZ (keepZ hU kb)).1
  exact ⟨by rw [e1];rfl,by rw [e1];rfl,by rw [e1];rfl,by rw [e1];rfl,by rw [e1];rfl,by rw [e1];rfl,by rw [e1];rfl,by rw [e1];rfl,by rw [e1];rfl,by rw [e1];rfl,by rw [e1];rfl⟩
 have HK:Hid ((∀ U,Below W1.heap.size W1 U→U.heap[b2]?=some (.cells #[.slice none 0 0,.slice none 0 0,.string ⟨#[]⟩] 52 (0,0))∧Below w.heap.size w U)∧w.heap.size≤b2∧b≠b2∧b2 < W1.heap.size):=⟨fun U hU=>⟨keepZ hU kb2,bel0Z b1 hU⟩,by omega,by omega,lt_getZ kb2⟩
 have HC1:Hid (∀ U,Below W1.heap.size W1 U→Calls Tryz.prog 41 #[.slice pp np cp] U fun e w'=>∃ q c,e=.returned (.slice q np c)∧w'.ownsRow U.heap.size 3 1 (.slice q np c) np (inZ ps)∧Below U.heap.size U w'):=fun U hU=>by
  have h:=clone_i ps pp np cp U hnp (by omega) (li_rowL ((hL1.below (bel0Z b1 hU)).2.1))
  rw [inZ_flat] at h
  exact h
 have HC2:Hid (∀ U,Below W1.heap.size W1 U→Calls Tryz.prog 41 #[.slice pe ne ce] U fun e w'=>∃ q c,e=.returned (.slice q ne c)∧w'.ownsRow U.heap.size 3 1 (.slice q ne c) ne (inZ es)∧Below U.heap.size U w'):=fun U hU=>by
  have h:=clone_i es pe ne ce U hne9 (by omega) (li_rowL ((hL2.below (bel0Z b1 hU)).2.1))
  rw [inZ_flat] at h
  exact h
 have HTX:Hid (∀ U:World,Calls Tryz.prog 29 #[.agg #[.int .i64 a0,.int .u64 a1,.int .u64 a2,.int .u64 a3,.int .u64 a4,.int .u64 a5,.int .u64 a6,.int .u64 a7,.int .u64 a8]] U fun e w'=>e=.returned (.string ⟨hd.toArray⟩)∧Below U.heap.size U w'):=fun U=>by
  have h:=Tn.text_any hd U hg
  rw [h9.agg] at h
  exact h
 have HN:Hid (ps.length=np∧es.length=ne):=⟨hnp,hne9⟩
 have HFI:Hid (∀ (U:World) (q2 q5:Option Addr) (c2 c5:Nat),IL U q2 np c2 ps→IL U q5 ne c5 es→np≤c2→ne≤c5→Below w.heap.size w U→PAQ ⟨ps,es,hd⟩ w (.returned (.agg #[.slice q2 np c2,.slice q5 ne c5,.string ⟨hd.toArray⟩])) U):=fun U q2 q5 c2 c5 i6 i11 m1 m2 hb=>by
  refine ⟨⟨q2,c2,q5,c5⟩,?_,⟨?_,?_,?_,?_⟩,hb⟩
  ·show _=Ending.returned (.agg #[.slice q2 ps.length c2,.slice q5 es.length c5,.string ⟨hd.toArray⟩])
   rw [hnp,hne9]
  ·show IL U q2 ps.length c2 ps
   rw [hnp];exact i6
  ·show IL U q5 es.length c5 es
   rw [hne9];exact i11
  ·show ps.length≤c2
   rw [hnp];exact m1
  ·show es.length≤c5
   rw [hne9];exact m2
 have HB:=hideL hb
 have HB2:=hideL hb2
 have HW:=hideL hW1
 have HB1:=hideL b1
 have hs0:=HS.out W1.drew (Below.refl _ _).drew
 clear hW1 b1 hb kb hb2 kb2 hz1 hL hN1 hN2 h9 hnp hne9 hL1 hL2 hg
 go_enter Tryz.func68,Tryz.ntmps68
 go_upto_region 1 with fail
 rw [HW.out,HB2.out,HB.out]
 refine wp_region_held_drew (S:=fun U=>U.cell? ⟨b,0,none⟩=some (.slice pp np cp)∧U.cell? ⟨b,1,none⟩=some (.slice pe ne ce)∧U.cell? ⟨b,2,none⟩=some (.int .i64 a0)∧U.cell? ⟨b,3,none⟩=some (.int .u64 a1)∧U.cell? ⟨b,4,none⟩=some (.int .u64 a2)∧U.cell? ⟨b,5,none⟩=some (.int .u64 a3)∧U.cell? ⟨b,6,none⟩=some (.int .u64 a4)∧U.cell? ⟨b,7,none⟩=some (.int .u64 a5)∧U.cell? ⟨b,8,none⟩=some (.int .u64 a6)∧U.cell? ⟨b,9,none⟩=some (.int .u64 a7)∧U.cell? ⟨b,10,none⟩=some (.int .u64 a8)) (by kernel_rfl) hs0 (fun _=>?_)
 obtain ⟨D,hD⟩:∃ D,W1.drew=D:=⟨_,rfl⟩
 rw [hD] at hs0 ⊢
 have hSD:Below W1.heap.size W1 D:=by rw [←hD];exact (Below.refl _ _).drew
 clear hD
 refine tk 0 (.pointer (some ⟨b,0,none⟩)) rfl hs0 ?_ ?_
 ·rintro U ⟨r0,r1,r2,r3,r4,r5,r6,r7,r8,r9,r10⟩;go_simp
 refine tk 1 (.slice pp np cp) rfl hs0 ?_ ?_
 ·rintro U ⟨r0,r1,r2,r3,r4,r5,r6,r7,r8,r9,r10⟩;go_simp
 refine tk 3 (.pointer (some ⟨b,1,none⟩)) rfl hs0 ?_ ?_
 ·rintro U ⟨r0,r1,r2,r3,r4,r5,r6,r7,r8,r9,r10⟩;go_simp
 refine tk 4 (.slice pe ne ce) rfl hs0 ?_ ?_
 ·rintro U ⟨r0,r1,r2,r3,r4,r5,r6,r7,r8,r9,r10⟩;go_simp
 refine tk 6 (.pointer (some ⟨b,2,none⟩)) rfl hs0 ?_ ?_
 ·rintro U ⟨r0,r1,r2,r3,r4,r5,r6,r7,r8,r9,r10⟩;go_simp
 refine tk 7 (.agg #[.int .i64 a0,.int .u64 a1,.int .u64 a2,.int .u64 a3,.int .u64 a4,.int .u64 a5,.int .u64 a6,.int .u64 a7,.int .u64 a8]) rfl hs0 ?_ ?_
 ·rintro U ⟨r0,r1,r2,r3,r4,r5,r6,r7,r8,r9,r10⟩;go_simp
 refine rd 2 rfl fun KK hKK=>?_
 go_simp
 refine (HC1.out D hSD).mono ?_
 rintro en D1 ⟨q2,c2,rfl,o2,bD⟩
 have hSE:=bel0Z hSD bD
 have i2:=own_il o2 HN.out.1
 have ycap2:=own_cap o2
 have p2:∀ a,q2=some a→a.block≠b2:=fun a e=>by
  have y1:=own_blkA o2 a e
  have y2:=hSD.size
  have y3:=HK.out.2.2.2
  omega
 clear o2
 have hs1:=HS.out D1 hSE
 go_simp
 refine hKK.out _ _ hs1 (fun _=>?_)
 clear hKK KK hs0 hSD bD
 have hs0:=hs1
 have hSD:=hSE
 clear hs1 hSE
 refine rd 5 rfl fun KK hKK=>?_
 go_simp
 refine (HC2.out D1 hSD).mono ?_
 rintro en D2 ⟨q5,c5,rfl,o5,bD⟩
 have hSE:=bel0Z hSD bD
 have i5:=own_il o5 HN.out.2
 have ycap5:=own_cap o5
 have p5:∀ a,q5=some a→a.block≠b2:=fun a e=>by
  have y1:=own_blkA o5 a e
  have y2:=hSD.size
  have y3:=HK.out.2.2.2
  omega
 clear o5
 have i2:=i2.below bD
 have hs1:=HS.out D2 hSE
 go_simp
 refine hKK.out _ _ hs1 (fun _=>?_)
 clear hKK KK hs0 hSD bD
 have hs0:=hs1
 have hSD:=hSE
 clear hs1 hSE
 refine rd 8 rfl fun KK hKK=>?_
 go_simp
 refine (HTX.out D2).mono ?_
 rintro en D3 ⟨rfl,bD⟩
 have hSE:=bel0Z hSD bD
 have i2:=i2.below bD
 have i5:=i5.below bD
 have hs1:=HS.out D3 hSE
 go_simp
 refine hKK.out _ _ hs1 (fun _=>?_)
 clear hKK KK hs0 hSD bD
 have hs0:=hs1
 have hSD:=hSE
 clear hs1 hSE
 refine tk 9 (.agg #[.slice q2 np c2,.slice q5 ne c5,.string ⟨hd.toArray⟩]) rfl hs0 ?_ ?_
 ·rintro U ⟨r0,r1,r2,r3,r4,r5,r6,r7,r8,r9,r10⟩;go_simp
 have kb3:=(HK.out.1 D3 hSD).1
 have hz:=cellsZ kb3
 have z0:D3.cell? ⟨b2,0,none⟩=some (.slice none 0 0):=by rw [hz.1];rfl
 have f0:=hz.2 0
 have z1:D3.cell? ⟨b2,1,none⟩=some (.slice none 0 0):=by rw [hz.1];rfl
 have f1:=hz.2 1
 have z2:D3.cell? ⟨b2,2,none⟩=some (.string ⟨#[]⟩):=by rw [hz.1];rfl
 have f2:=hz.2 2
 obtain ⟨W9,hW9⟩:∃ W,((D3.setCell ⟨b2,0,none⟩ (.slice q2 np c2)).setCell ⟨b2,1,none⟩ (.slice q5 ne c5)).setCell ⟨b2,2,none⟩ (.string ⟨hd.toArray⟩)=W:=⟨_,rfl⟩
 have HRES:Hid (W9.heap[b2]?=some (.cells #[.slice q2 np c2,.slice q5 ne c5,.string ⟨hd.toArray⟩] 52 (0,0))):=by
  rw [←hW9]
  exact put3 (.slice q2 np c2) (.slice q5 ne c5) (.string ⟨hd.toArray⟩) kb3
 have hfar:∀ c,c≠b2→W9.heap[c]?=D3.heap[c]?:=fun c hc=>by
  rw [←hW9]
  exact put3f (.slice q2 np c2) (.slice q5 ne c5) (.string ⟨hd.toArray⟩) hc
 have HFIN:Hid (PAQ ⟨ps,es,hd⟩ w (.returned (.agg #[.slice q2 np c2,.slice q5 ne c5,.string ⟨hd.toArray⟩])) W9):=HFI.out W9 q2 q5 c2 c5 (i2.far hfar p2) (i5.far hfar p5) ycap2 ycap5 (by rw [←hW9];exact put3b (.slice q2 np c2) (.slice q5 ne c5) (.string ⟨hd.toArray⟩) (HK.out.1 D3 hSD).2 HK.out.2.1)
 have hs9:W9.cell? ⟨b,0,none⟩=some (.slice pp np cp)∧W9.cell? ⟨b,1,none⟩=some (.slice pe ne ce)∧W9.cell? ⟨b,2,none⟩=some (.int .i64 a0)∧W9.cell? ⟨b,3,none⟩=some (.int .u64 a1)∧W9.cell? ⟨b,4,none⟩=some (.int .u64 a2)∧W9.cell? ⟨b,5,none⟩=some (.int .u64 a3)∧W9.cell? ⟨b,6,none⟩=some (.int .u64 a4)∧W9.cell? ⟨b,7,none⟩=some (.int .u64 a5)∧W9.cell? ⟨b,8,none⟩=some (.int .u64 a6)∧W9.cell? ⟨b,9,none⟩=some (.int .u64 a7)∧W9.cell? ⟨b,10,none⟩=some (.int .u64 a8):=by
  have kp:∀ c j,c≠b2→W9.cell? ⟨c,j,none⟩=D3.cell? ⟨c,j,none⟩:=fun c j hc=>by
   unfold World.cell?
   simp only [hfar c hc]
  obtain ⟨r0,r1,r2,r3,r4,r5,r6,r7,r8,r9,r10⟩:=hs0
  exact ⟨(kp _ _ HK.out.2.2.1).trans r0,(kp _ _ HK.out.2.2.1).trans r1,(kp _ _ HK.out.2.2.1).trans r2,(kp _ _ HK.out.2.2.1).trans r3,(kp _ _ HK.out.2.2.1).trans r4,(kp _ _ HK.out.2.2.1).trans r5,(kp _ _ HK.out.2.2.1).trans r6,(kp _ _ HK.out.2.2.1).trans r7,(kp _ _ HK.out.2.2.1).trans r8,(kp _ _ HK.out.2.2.1).trans r9,(kp _ _ HK.out.2.2.1).trans r10⟩
 have HW9:=hideL hW9
 clear hW9 hz hfar kb3
 refine rd 10 rfl fun KK hKK=>?_
 go_simp
 rw [HW9.out]
 refine hKK.out _ _ hs9 (fun _=>?_)
 clear hKK KK
 refine wpAnyH_done (by kernel_rfl) ?_ _
 try simp only [List.getElem_toArray,List.getElem_cons_succ,List.getElem_cons_zero,Act.put,List.setIfInBounds_toArray,List.set_cons_zero,List.set_cons_succ]
 clear hs0 hs9
 go_wp2_with fail
 refine bodyPost_ret (res_path _ _ b2 _ _ _ _ _ _ _ rfl HRES.out) rfl ?_
 exact HFIN.out
end Go.Proofs.YtbplhianpelmfaaGreatDoor.Nt
