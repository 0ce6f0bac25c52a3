import Derived.Test.YtmfakcfmkmppfaaGreatDoorVBA
namespace Go.Proofs.YtmfakcfmkmppfaaGreatDoor.Nt
open Go.RowKit Go.Shelf
theorem zjz {W:World} {r:Nat} {x:Int} (h:W.heap[r]?=some (.cells #[.int .i64 x] 3 (0,0))):IL W (some ⟨r,0,none⟩) 1 1 [x]:=by
 refine ⟨rfl,fun k y hy=>?_,fun e=>(by cases e),fun a e=>(by obtain rfl:=Option.some.inj e;exact ⟨_,_,h⟩)⟩;cases k with
 | zero=>
  obtain rfl:x=y:=by simpa using hy
  refine ⟨r,0,rfl,?_⟩;rw [(zaf h).1];rfl
 | succ k=>simp at hy
theorem IL.far {W U:World} {b:Nat} {p:Option Addr} {n c:Nat} {L:List Int} (h:IL W p n c L) (hf:∀ c,c≠b->U.heap[c]?=W.heap[c]?) (hp:∀ a,p=some a->a.block≠b):IL U p n c L:=by
 refine ⟨h.1,fun k x hx=>?_,h.2.2.1,fun a e=>(by obtain ⟨cs,fr,h9⟩:=h.2.2.2 a e;exact ⟨cs,fr,(hf _ (hp a e)).trans h9⟩)⟩;obtain ⟨g,o,e,hc⟩:=h.2.1 k x hx;refine ⟨g,o,e,?_⟩;have h9:=hp _ e;unfold World.cell? at hc ⊢;simp only [hf g h9];exact hc
theorem zb5 {W:World} {B T s k n c:Nat} {p:Option Addr} {xs:List Value} (h:W.ownsRow B T s (.slice p n c) k xs):∀ a,p=some a->B<=a.block:=fun a e=>by
 rcases h.2 with ⟨e9,-⟩ | ⟨g,cap,cur,e9,hb,-⟩
 ·injection e9 with e1
  rw [e] at e1;cases e1
 ·injection e9 with e1
  rw [e] at e1;obtain rfl:=Option.some.inj e1;exact hb
set_option maxRecDepth 100000 in
set_option maxHeartbeats 16000000 in
theorem zr5 (y:Int×List UInt8) (w:World) :
  Calls Tryz.prog 28 #[.agg (stC y).toArray] w fun e w'=>∃ v:WV,e=.returned (.agg (wyC (zd4 y,v)).toArray)/\WL w' (zd4 y,v)/\Below w.heap.size w w':=by
 obtain ⟨p,h⟩:=y;obtain ⟨a0,a1,a2,a3,a4,a5,a6,a7,a8,h9⟩:=zbz h;rw [zbf h9];obtain ⟨b,hb⟩:=ex w.heap.size;obtain ⟨b2,hb2⟩:=ex (w.heap.size+1);obtain ⟨W1,hW1⟩:=ex ((w.alloc (.cells #[.int .i64 p,.int .i64 a0,.int .u64 a1,.int .u64 a2,.int .u64 a3,.int .u64 a4,.int .u64 a5,.int .u64 a6,.int .u64 a7,.int .u64 a8] 75)).alloc (.cells #[.slice none 0 0,.slice none 0 0,.int .i64 0,.int .u64 0,.int .u64 0,.int .u64 0,.int .u64 0,.int .u64 0,.int .u64 0,.int .u64 0,.int .u64 0] 72));have hz1:(w.alloc (.cells #[.int .i64 p,.int .i64 a0,.int .u64 a1,.int .u64 a2,.int .u64 a3,.int .u64 a4,.int .u64 a5,.int .u64 a6,.int .u64 a7,.int .u64 a8] 75)).heap.size=w.heap.size+1:=Array.size_push _;have b1:Below w.heap.size w W1:=by rw [<-hW1];exact zah (zah (Below.refl _ _) _) _
 have kb:W1.heap[b]?=some (.cells #[.int .i64 p,.int .i64 a0,.int .u64 a1,.int .u64 a2,.int .u64 a3,.int .u64 a4,.int .u64 a5,.int .u64 a6,.int .u64 a7,.int .u64 a8] 75 (0,0)):=by rw [<-hW1,<-hb];exact zae (zah (Below.refl _ _) _) (zaa _ _)
 have kb2:W1.heap[b2]?=some (.cells #[.slice none 0 0,.slice none 0 0,.int .i64 0,.int .u64 0,.int .u64 0,.int .u64 0,.int .u64 0,.int .u64 0,.int .u64 0,.int .u64 0,.int .u64 0] 72 (0,0)):=by rw [<-hW1,<-hb2,<-hz1];exact zaa _ _
 obtain ⟨r,hr⟩:=ex W1.heap.size;have hlt:b2 < W1.heap.size:=zap kb2;have e1:=(zaf kb).1;have r0:W1.cell? ⟨b,0,none⟩=some (.int .i64 p):=by rw [e1];rfl
 have r1:W1.cell? ⟨b,1,none⟩=some (.int .i64 a0):=by rw [e1];rfl
 have r2:W1.cell? ⟨b,2,none⟩=some (.int .u64 a1):=by rw [e1];rfl
 have r3:W1.cell? ⟨b,3,none⟩=some (.int .u64 a2):=by rw [e1];rfl
 have r4:W1.cell? ⟨b,4,none⟩=some (.int .u64 a3):=by rw [e1];rfl
 have r5:W1.cell? ⟨b,5,none⟩=some (.int .u64 a4):=by rw [e1];rfl
 have r6:W1.cell? ⟨b,6,none⟩=some (.int .u64 a5):=by rw [e1];rfl
 have r7:W1.cell? ⟨b,7,none⟩=some (.int .u64 a6):=by rw [e1];rfl
 have r8:W1.cell? ⟨b,8,none⟩=some (.int .u64 a7):=by rw [e1];rfl
 have r9:W1.cell? ⟨b,9,none⟩=some (.int .u64 a8):=by rw [e1];rfl
 have bl:Below W1.heap.size W1 (W1.alloc (.cells #[.int .i64 p] 3 (0,0))):=zah (Below.refl _ _) _;have kl:(W1.alloc (.cells #[.int .i64 p] 3 (0,0))).heap[b2]?=some (.cells #[.slice none 0 0,.slice none 0 0,.int .i64 0,.int .u64 0,.int .u64 0,.int .u64 0,.int .u64 0,.int .u64 0,.int .u64 0,.int .u64 0,.int .u64 0] 72 (0,0)):=zae bl kb2;have km:(W1.alloc (.cells #[.int .i64 p] 3 (0,0))).heap[r]?=some (.cells #[.int .i64 p] 3 (0,0)):=by rw [<-hr];exact zaa _ _
 have hz:=zaf kl;have em:=(zaf (zae bl kb)).1;have z0:(W1.alloc (.cells #[.int .i64 p] 3 (0,0))).cell? ⟨b2,0,none⟩=some (.slice none 0 0):=by rw [hz.1];rfl
 have f0:=hz.2 0;have z1:(W1.alloc (.cells #[.int .i64 p] 3 (0,0))).cell? ⟨b2,1,none⟩=some (.slice none 0 0):=by rw [hz.1];rfl
 have f1:=hz.2 1;have z2:(W1.alloc (.cells #[.int .i64 p] 3 (0,0))).cell? ⟨b2,2,none⟩=some (.int .i64 0):=by rw [hz.1];rfl
 have f2:=hz.2 2;have z3:(W1.alloc (.cells #[.int .i64 p] 3 (0,0))).cell? ⟨b2,3,none⟩=some (.int .u64 0):=by rw [hz.1];rfl
 have f3:=hz.2 3;have z4:(W1.alloc (.cells #[.int .i64 p] 3 (0,0))).cell? ⟨b2,4,none⟩=some (.int .u64 0):=by rw [hz.1];rfl
 have f4:=hz.2 4;have z5:(W1.alloc (.cells #[.int .i64 p] 3 (0,0))).cell? ⟨b2,5,none⟩=some (.int .u64 0):=by rw [hz.1];rfl
 have f5:=hz.2 5;have z6:(W1.alloc (.cells #[.int .i64 p] 3 (0,0))).cell? ⟨b2,6,none⟩=some (.int .u64 0):=by rw [hz.1];rfl
 have f6:=hz.2 6;have z7:(W1.alloc (.cells #[.int .i64 p] 3 (0,0))).cell? ⟨b2,7,none⟩=some (.int .u64 0):=by rw [hz.1];rfl
 have f7:=hz.2 7;have z8:(W1.alloc (.cells #[.int .i64 p] 3 (0,0))).cell? ⟨b2,8,none⟩=some (.int .u64 0):=by rw [hz.1];rfl
 have f8:=hz.2 8;have z9:(W1.alloc (.cells #[.int .i64 p] 3 (0,0))).cell? ⟨b2,9,none⟩=some (.int .u64 0):=by rw [hz.1];rfl
 have f9:=hz.2 9;have z10:(W1.alloc (.cells #[.int .i64 p] 3 (0,0))).cell? ⟨b2,10,none⟩=some (.int .u64 0):=by rw [hz.1];rfl
 have f10:=hz.2 10;have m0:(W1.alloc (.cells #[.int .i64 p] 3 (0,0))).cell? ⟨b,0,none⟩=some (.int .i64 p):=by rw [em];rfl
 have m1:(W1.alloc (.cells #[.int .i64 p] 3 (0,0))).cell? ⟨b,1,none⟩=some (.int .i64 a0):=by rw [em];rfl
 have m2:(W1.alloc (.cells #[.int .i64 p] 3 (0,0))).cell? ⟨b,2,none⟩=some (.int .u64 a1):=by rw [em];rfl
 have m3:(W1.alloc (.cells #[.int .i64 p] 3 (0,0))).cell? ⟨b,3,none⟩=some (.int .u64 a2):=by rw [em];rfl
 have m4:(W1.alloc (.cells #[.int .i64 p] 3 (0,0))).cell? ⟨b,4,none⟩=some (.int .u64 a3):=by rw [em];rfl
 have m5:(W1.alloc (.cells #[.int .i64 p] 3 (0,0))).cell? ⟨b,5,none⟩=some (.int .u64 a4):=by rw [em];rfl
 have m6:(W1.alloc (.cells #[.int .i64 p] 3 (0,0))).cell? ⟨b,6,none⟩=some (.int .u64 a5):=by rw [em];rfl
 have m7:(W1.alloc (.cells #[.int .i64 p] 3 (0,0))).cell? ⟨b,7,none⟩=some (.int .u64 a6):=by rw [em];rfl
 have m8:(W1.alloc (.cells #[.int .i64 p] 3 (0,0))).cell? ⟨b,8,none⟩=some (.int .u64 a7):=by rw [em];rfl
 have m9:(W1.alloc (.cells #[.int .i64 p] 3 (0,0))).cell? ⟨b,9,none⟩=some (.int .u64 a8):=by rw [em];rfl
 obtain ⟨W9,hW9⟩:=ex ((((((((((((W1.alloc (.cells #[.int .i64 p] 3 (0,0))).setCell ⟨b2,0,none⟩ (.slice (some ⟨r,0,none⟩) 1 1)).setCell ⟨b2,1,none⟩ (.slice none 0 0)).setCell ⟨b2,2,none⟩ (.int .i64 a0)).setCell ⟨b2,3,none⟩ (.int .u64 a1)).setCell ⟨b2,4,none⟩ (.int .u64 a2)).setCell ⟨b2,5,none⟩ (.int .u64 a3)).setCell ⟨b2,6,none⟩ (.int .u64 a4)).setCell ⟨b2,7,none⟩ (.int .u64 a5)).setCell ⟨b2,8,none⟩ (.int .u64 a6)).setCell ⟨b2,9,none⟩ (.int .u64 a7)).setCell ⟨b2,10,none⟩ (.int .u64 a8));have HRES:Hid (W9.heap[b2]?=some (.cells #[.slice (some ⟨r,0,none⟩) 1 1,.slice none 0 0,.int .i64 a0,.int .u64 a1,.int .u64 a2,.int .u64 a3,.int .u64 a4,.int .u64 a5,.int .u64 a6,.int .u64 a7,.int .u64 a8] 72 (0,0))):=by
  rw [<-hW9];exact put11 (.slice (some ⟨r,0,none⟩) 1 1) (.slice none 0 0) (.int .i64 a0) (.int .u64 a1) (.int .u64 a2) (.int .u64 a3) (.int .u64 a4) (.int .u64 a5) (.int .u64 a6) (.int .u64 a7) (.int .u64 a8) kl
 have HFIN:Hid (∃ v:WV,Ending.returned (.agg #[.slice (some ⟨r,0,none⟩) 1 1,.slice none 0 0,.int .i64 a0,.int .u64 a1,.int .u64 a2,.int .u64 a3,.int .u64 a4,.int .u64 a5,.int .u64 a6,.int .u64 a7,.int .u64 a8])=.returned (.agg (wyC (zd4 (p,h),v)).toArray)/\WL W9 (zd4 (p,h),v)/\Below w.heap.size w W9):=by
  refine ⟨⟨some ⟨r,0,none⟩,1,none,0⟩,?_,⟨zjz ?_,IL.nil _,Nat.le_refl _⟩,?_⟩
  ·have e9:(wyC (zd4 (p,h),⟨some ⟨r,0,none⟩,1,none,0⟩)).toArray=#[.slice (some ⟨r,0,none⟩) 1 1,.slice none 0 0,.int .i64 a0,.int .u64 a1,.int .u64 a2,.int .u64 a3,.int .u64 a4,.int .u64 a5,.int .u64 a6,.int .u64 a7,.int .u64 a8]:=za9 (ps:=[p]) (es:=[]) (hd:=h) h9 rfl rfl
   rw [e9]
  ·rw [<-hW9,zmc (.slice (some ⟨r,0,none⟩) 1 1) (.slice none 0 0) (.int .i64 a0) (.int .u64 a1) (.int .u64 a2) (.int .u64 a3) (.int .u64 a4) (.int .u64 a5) (.int .u64 a6) (.int .u64 a7) (.int .u64 a8) (by omega:r≠b2)]
   exact km
  ·rw [<-hW9]
   exact zmd (.slice (some ⟨r,0,none⟩) 1 1) (.slice none 0 0) (.int .i64 a0) (.int .u64 a1) (.int .u64 a2) (.int .u64 a3) (.int .u64 a4) (.int .u64 a5) (.int .u64 a6) (.int .u64 a7) (.int .u64 a8) (zac b1 bl) (by omega)
 have HB:=zab hb;have HB2:=zab hb2;have HW:=zab hW1;have HB1:=zab b1;have HR:=zab hr;have HW9:=zab hW9;clear hW1 b1 hb kb hb2 kb2 hz1 h9 hr hlt e1 bl kl km hz em hW9
 go_enter Tryz.func28,Tryz.ntmps28
 go_upto_region 1 with fail
 rw [HW.out,HB2.out,HB.out]
 go_wp2_with fail
 try rw [HR.out]
 rw [HW9.out];refine bodyPost_ret (zpv _ _ b2 _ _ _ _ _ _ _ _ _ _ _ _ _ _ _ rfl HRES.out) rfl ?_;exact HFIN.out
def FRW (w:World) (v:WV):Prop:=(∀ a,v.pp=some a->w.heap.size<=a.block)/\∀ a,v.pe=some a->w.heap.size<=a.block
theorem FRW.up {w U:World} {v:WV} (h:FRW U v) (hb:Below w.heap.size w U):FRW w v:=⟨fun a e=>Nat.le_trans hb.size (h.1 a e),fun a e=>Nat.le_trans hb.size (h.2 a e)⟩
def TOQ (y:WY) (t:Int×List UInt8) (E:List Int) (w:World) (e:Ending) (w':World):Prop:=∃ v:WV,e=.returned (.agg (wyC (y.to t E,v)).toArray)/\(WL w' (y.to t E,v)/\FRW w v)/\Below w.heap.size w w'
set_option maxRecDepth 100000 in
set_option maxHeartbeats 16000000 in
theorem to_any (y:WY×WV) (t:Int×List UInt8) (E:List Int) (qp:Option Addr) (me ce9:Nat) (w:World) (hL:WL w y) (hE:IL w qp me ce9 E) (hN1:y.1.ps.length<=500) (hN2:y.1.es.length<=500) (hN3:me<=500) :
  Calls Tryz.prog 84 #[.agg (wyC y).toArray,.agg (stC t).toArray,.slice qp me ce9] w (TOQ y.1 t E w):=by
 obtain ⟨⟨ps,es,hd⟩,⟨pp,cp,pe,ce⟩⟩:=y;obtain ⟨x,h⟩:=t;obtain ⟨a0,a1,a2,a3,a4,a5,a6,a7,a8,h9⟩:=zbz hd;obtain ⟨d0,d1,d2,d3,d4,d5,d6,d7,d8,h8⟩:=zbz h;obtain ⟨np,hnp⟩:=ex ps.length;obtain ⟨ne,hne9⟩:=ex es.length;obtain ⟨n6,hn6⟩:=ex (np+1);obtain ⟨n11,hn11⟩:=ex (ne+me);rw [za9 h9 hnp hne9,zbf h8];simp only at hN1 hN2 hL ⊢;have hL1:IL w pp np cp ps:=by have:=hL.1;rw [<-hnp];exact this
 have hL2:IL w pe ne ce es:=by have:=hL.2.1;rw [<-hne9];exact this
 obtain ⟨b,hb⟩:=ex w.heap.size;obtain ⟨b2,hb2⟩:=ex (w.heap.size+1);obtain ⟨b3,hb3⟩:=ex (w.heap.size+1+1);obtain ⟨W1,hW1⟩:=ex (((w.alloc (.cells #[.slice pp np cp,.slice pe ne ce,.int .i64 a0,.int .u64 a1,.int .u64 a2,.int .u64 a3,.int .u64 a4,.int .u64 a5,.int .u64 a6,.int .u64 a7,.int .u64 a8] 72)).alloc (.cells #[.int .i64 x,.int .i64 d0,.int .u64 d1,.int .u64 d2,.int .u64 d3,.int .u64 d4,.int .u64 d5,.int .u64 d6,.int .u64 d7,.int .u64 d8] 75)).alloc (.cells #[.slice none 0 0,.slice none 0 0,.int .i64 0,.int .u64 0,.int .u64 0,.int .u64 0,.int .u64 0,.int .u64 0,.int .u64 0,.int .u64 0,.int .u64 0] 72));have hz1:(w.alloc (.cells #[.slice pp np cp,.slice pe ne ce,.int .i64 a0,.int .u64 a1,.int .u64 a2,.int .u64 a3,.int .u64 a4,.int .u64 a5,.int .u64 a6,.int .u64 a7,.int .u64 a8] 72)).heap.size=w.heap.size+1:=Array.size_push _;have hz2:((w.alloc (.cells #[.slice pp np cp,.slice pe ne ce,.int .i64 a0,.int .u64 a1,.int .u64 a2,.int .u64 a3,.int .u64 a4,.int .u64 a5,.int .u64 a6,.int .u64 a7,.int .u64 a8] 72)).alloc (.cells #[.int .i64 x,.int .i64 d0,.int .u64 d1,.int .u64 d2,.int .u64 d3,.int .u64 d4,.int .u64 d5,.int .u64 d6,.int .u64 d7,.int .u64 d8] 75)).heap.size=w.heap.size+1+1:=(Array.size_push _).trans (by rw [show (w.alloc (.cells #[.slice pp np cp,.slice pe ne ce,.int .i64 a0,.int .u64 a1,.int .u64 a2,.int .u64 a3,.int .u64 a4,.int .u64 a5,.int .u64 a6,.int .u64 a7,.int .u64 a8] 72)).heap.size=_ from hz1]);have b1:Below w.heap.size w W1:=by rw [<-hW1];exact zah (zah (zah (Below.refl _ _) _) _) _
 have kb:W1.heap[b]?=some (.cells #[.slice pp np cp,.slice pe ne ce,.int .i64 a0,.int .u64 a1,.int .u64 a2,.int .u64 a3,.int .u64 a4,.int .u64 a5,.int .u64 a6,.int .u64 a7,.int .u64 a8] 72 (0,0)):=by rw [<-hW1,<-hb];exact zae (zah (zah (Below.refl _ _) _) _) (zaa _ _)
 have kb2:W1.heap[b2]?=some (.cells #[.int .i64 x,.int .i64 d0,.int .u64 d1,.int .u64 d2,.int .u64 d3,.int .u64 d4,.int .u64 d5,.int .u64 d6,.int .u64 d7,.int .u64 d8] 75 (0,0)):=by rw [<-hW1,<-hb2,<-hz1];exact zae (zah (Below.refl _ _) _) (zaa _ _)
 have kb3:W1.heap[b3]?=some (.cells #[.slice none 0 0,.slice none 0 0,.int .i64 0,.int .u64 0,.int .u64 0,.int .u64 0,.int .u64 0,.int .u64 0,.int .u64 0,.int .u64 0,.int .u64 0] 72 (0,0)):=by rw [<-hW1,<-hb3,<-hz2];exact zaa _ _
 have HS:Hid (∀ U,Below W1.heap.size W1 U->(U.cell? ⟨b,0,none⟩=some (.slice pp np cp)/\U.cell? ⟨b,1,none⟩=some (.slice pe ne ce)/\U.cell? ⟨b,2,none⟩=some (.int .i64 a0)/\U.cell? ⟨b,3,none⟩=some (.int .u64 a1)/\U.cell? ⟨b,4,none⟩=some (.int .u64 a2)/\U.cell? ⟨b,5,none⟩=some (.int .u64 a3)/\U.cell? ⟨b,6,none⟩=some (.int .u64 a4)/\U.cell? ⟨b,7,none⟩=some (.int .u64 a5)/\U.cell? ⟨b,8,none⟩=some (.int .u64 a6)/\U.cell? ⟨b,9,none⟩=some (.int .u64 a7)/\U.cell? ⟨b,10,none⟩=some (.int .u64 a8))/\(U.cell? ⟨b2,0,none⟩=some (.int .i64 x)/\U.cell? ⟨b2,1,none⟩=some (.int .i64 d0)/\U.cell? ⟨b2,2,none⟩=some (.int .u64 d1)/\U.cell? ⟨b2,3,none⟩=some (.int .u64 d2)/\U.cell? ⟨b2,4,none⟩=some (.int .u64 d3)/\U.cell? ⟨b2,5,none⟩=some (.int .u64 d4)/\U.cell? ⟨b2,6,none⟩=some (.int .u64 d5)/\U.cell? ⟨b2,7,none⟩=some (.int .u64 d6)/\U.cell? ⟨b2,8,none⟩=some (.int .u64 d7)/\U.cell? ⟨b2,9,none⟩=some (.int .u64 d8))):=fun U hU=>by
  have e1:=(zaf (zae hU kb)).1;have e2:=(zaf (zae hU kb2)).1;exact ⟨⟨by rw [e1];rfl,by rw [e1];rfl,by rw [e1];rfl,by rw [e1];rfl,by rw [e1];rfl,by rw [e1];rfl,by rw [e1];rfl,by rw [e1];rfl,by rw [e1];rfl,by rw [e1];rfl,by rw [e1];rfl⟩,⟨by rw [e2];rfl,by rw [e2];rfl,by rw [e2];rfl,by rw [e2];rfl,by rw [e2];rfl,by rw [e2];rfl,by rw [e2];rfl,by rw [e2];rfl,by rw [e2];rfl,by rw [e2];rfl⟩⟩
 have HK:Hid ((∀ U,Below W1.heap.size W1 U->U.heap[b3]?=some (.cells #[.slice none 0 0,.slice none 0 0,.int .i64 0,.int .u64 0,.int .u64 0,.int .u64 0,.int .u64 0,.int .u64 0,.int .u64 0,.int .u64 0,.int .u64 0] 72 (0,0))/\Below w.heap.size w U)/\w.heap.size<=b3/\b≠b3/\b2≠b3/\b3 < W1.heap.size):=⟨fun U hU=>⟨zae hU kb3,zac b1 hU⟩,by omega,by omega,by omega,zap kb3⟩;have HCC:Hid (∀ (U:World) (r r':Nat),Below W1.heap.size W1 U->U.heap[r]?=some (.cells #[.int .i64 x] 3 (0,0))->U.heap[r']?=some (.cells #[.slice pp np cp,.slice (some ⟨r,0,none⟩) 1 1] 35 (0,0))->Calls Tryz.prog 99 #[.slice (some ⟨r',0,none⟩) 2 2] U fun e w'=>∃ q c,e=.returned (.slice q n6 c)/\(w'.ownsRow U.heap.size 3 1 (.slice q n6 c) n6 (inZ (ps++[x])))/\Below U.heap.size U w'):=fun U r r' hU h1 h2=>zm2 ps [x] pp _ np cp 1 1 n6 r' U (hL1.below (zac b1 hU)) (zjz h1) (by omega) (by omega) hn6 h2;have HCE:Hid (∀ (U:World) (r':Nat),Below W1.heap.size W1 U->U.heap[r']?=some (.cells #[.slice pe ne ce,.slice qp me ce9] 35 (0,0))->Calls Tryz.prog 99 #[.slice (some ⟨r',0,none⟩) 2 2] U fun e w'=>∃ q c,e=.returned (.slice q n11 c)/\(w'.ownsRow U.heap.size 3 1 (.slice q n11 c) n11 (inZ (es++E)))/\Below U.heap.size U w'):=fun U r' hU h2=>zm2 es E pe qp ne ce me ce9 n11 r' U (hL2.below (zac b1 hU)) (hE.below (zac b1 hU)) (by omega) (by omega) hn11 h2;have HN6:Hid ((ps++[x]).length=n6/\(es++E).length=n11):=⟨by rw [List.length_append,hnp];exact hn6,by rw [List.length_append,hne9,hE.1];exact hn11⟩;have HFI:Hid (∀ (U:World) (q6 q11:Option Addr) (c6 c11:Nat),IL U q6 n6 c6 (ps++[x])->IL U q11 n11 c11 (es++E)->n6<=c6->Below w.heap.size w U->(∀ a,q6=some a->b3 < a.block)->(∀ a,q11=some a->b3 < a.block)->TOQ ⟨ps,es,hd⟩ (x,h) E w (.returned (.agg #[.slice q6 n6 c6,.slice q11 n11 c11,.int .i64 d0,.int .u64 d1,.int .u64 d2,.int .u64 d3,.int .u64 d4,.int .u64 d5,.int .u64 d6,.int .u64 d7,.int .u64 d8])) U):=fun U q6 q11 c6 c11 i6 i11 m1 hb f6 f11=>by
  refine ⟨⟨q6,c6,q11,c11⟩,?_,⟨⟨?_,?_,?_⟩,fun a e=>Nat.le_trans HK.out.2.1 (Nat.le_of_lt (f6 a e)),fun a e=>Nat.le_trans HK.out.2.1 (Nat.le_of_lt (f11 a e))⟩,hb⟩
  ·have e9:(wyC (WY.to ⟨ps,es,hd⟩ (x,h) E,⟨q6,c6,q11,c11⟩)).toArray=#[.slice q6 n6 c6,.slice q11 n11 c11,.int .i64 d0,.int .u64 d1,.int .u64 d2,.int .u64 d3,.int .u64 d4,.int .u64 d5,.int .u64 d6,.int .u64 d7,.int .u64 d8]:=za9 (ps:=ps++[x]) (es:=es++E) (hd:=h) h8 (by rw [List.length_append,hnp];exact hn6) (by rw [List.length_append,hne9,hE.1];exact hn11)
   rw [e9]
  ·show IL U q6 (ps++[x]).length c6 (ps++[x])
   rw [i6.1];exact i6
  ·show IL U q11 (es++E).length c11 (es++E)
   rw [i11.1];exact i11
  ·show (ps++[x]).length<=c6
   rw [i6.1];exact m1
 have HB:=zab hb;have HB2:=zab hb2;have HB3:=zab hb3;have HW:=zab hW1;have HB1:=zab b1;have hs0:=HS.out W1.drew (Below.refl _ _).drew;clear hW1 b1 hb kb hb2 kb2 hb3 kb3 hz1 hz2 hL hE hN1 hN2 hN3 h9 h8 hnp hne9 hn6 hn11 hL1 hL2
 go_enter Tryz.func84,Tryz.ntmps84
 go_upto_region 1 with fail
 rw [HW.out,HB3.out,HB2.out,HB.out];refine wp_region_held_drew (S:=fun U=>(U.cell? ⟨b,0,none⟩=some (.slice pp np cp)/\U.cell? ⟨b,1,none⟩=some (.slice pe ne ce)/\U.cell? ⟨b,2,none⟩=some (.int .i64 a0)/\U.cell? ⟨b,3,none⟩=some (.int .u64 a1)/\U.cell? ⟨b,4,none⟩=some (.int .u64 a2)/\U.cell? ⟨b,5,none⟩=some (.int .u64 a3)/\U.cell? ⟨b,6,none⟩=some (.int .u64 a4)/\U.cell? ⟨b,7,none⟩=some (.int .u64 a5)/\U.cell? ⟨b,8,none⟩=some (.int .u64 a6)/\U.cell? ⟨b,9,none⟩=some (.int .u64 a7)/\U.cell? ⟨b,10,none⟩=some (.int .u64 a8))/\(U.cell? ⟨b2,0,none⟩=some (.int .i64 x)/\U.cell? ⟨b2,1,none⟩=some (.int .i64 d0)/\U.cell? ⟨b2,2,none⟩=some (.int .u64 d1)/\U.cell? ⟨b2,3,none⟩=some (.int .u64 d2)/\U.cell? ⟨b2,4,none⟩=some (.int .u64 d3)/\U.cell? ⟨b2,5,none⟩=some (.int .u64 d4)/\U.cell? ⟨b2,6,none⟩=some (.int .u64 d5)/\U.cell? ⟨b2,7,none⟩=some (.int .u64 d6)/\U.cell? ⟨b2,8,none⟩=some (.int .u64 d7)/\U.cell? ⟨b2,9,none⟩=some (.int .u64 d8))) (by kernel_rfl) hs0 (fun _=>?_);obtain ⟨D,hD⟩:=ex W1.drew;rw [hD] at hs0 ⊢;have hSD:Below W1.heap.size W1 D:=by rw [<-hD];exact (Below.refl _ _).drew
 clear hD;refine tk 0 (.pointer (some ⟨b,0,none⟩)) rfl hs0 ?_ ?_
 ·rintro U ⟨⟨r0,r1,r2,r3,r4,r5,r6,r7,r8,r9,r10⟩,⟨s0,s1,s2,s3,s4,s5,s6,s7,s8,s9⟩⟩;go_simp
 refine tk 1 (.slice pp np cp) rfl hs0 ?_ ?_
 ·rintro U ⟨⟨r0,r1,r2,r3,r4,r5,r6,r7,r8,r9,r10⟩,⟨s0,s1,s2,s3,s4,s5,s6,s7,s8,s9⟩⟩;go_simp
 refine tk 2 (.pointer (some ⟨b2,0,none⟩)) rfl hs0 ?_ ?_
 ·rintro U ⟨⟨r0,r1,r2,r3,r4,r5,r6,r7,r8,r9,r10⟩,⟨s0,s1,s2,s3,s4,s5,s6,s7,s8,s9⟩⟩;go_simp
 refine tk 3 (.int .i64 x) rfl hs0 ?_ ?_
 ·rintro U ⟨⟨r0,r1,r2,r3,r4,r5,r6,r7,r8,r9,r10⟩,⟨s0,s1,s2,s3,s4,s5,s6,s7,s8,s9⟩⟩;go_simp
 refine tk 7 (.pointer (some ⟨b,1,none⟩)) rfl hs0 ?_ ?_
 ·rintro U ⟨⟨r0,r1,r2,r3,r4,r5,r6,r7,r8,r9,r10⟩,⟨s0,s1,s2,s3,s4,s5,s6,s7,s8,s9⟩⟩;go_simp
 refine tk 8 (.slice pe ne ce) rfl hs0 ?_ ?_
 ·rintro U ⟨⟨r0,r1,r2,r3,r4,r5,r6,r7,r8,r9,r10⟩,⟨s0,s1,s2,s3,s4,s5,s6,s7,s8,s9⟩⟩;go_simp
 refine tk 9 (.slice qp me ce9) rfl hs0 ?_ ?_
 ·rintro U ⟨⟨r0,r1,r2,r3,r4,r5,r6,r7,r8,r9,r10⟩,⟨s0,s1,s2,s3,s4,s5,s6,s7,s8,s9⟩⟩;go_simp
 refine tk 12 (.pointer (some ⟨b2,1,none⟩)) rfl hs0 ?_ ?_
 ·rintro U ⟨⟨r0,r1,r2,r3,r4,r5,r6,r7,r8,r9,r10⟩,⟨s0,s1,s2,s3,s4,s5,s6,s7,s8,s9⟩⟩;go_simp
 refine tk 13 (.agg #[.int .i64 d0,.int .u64 d1,.int .u64 d2,.int .u64 d3,.int .u64 d4,.int .u64 d5,.int .u64 d6,.int .u64 d7,.int .u64 d8]) rfl hs0 ?_ ?_
 ·rintro U ⟨⟨r0,r1,r2,r3,r4,r5,r6,r7,r8,r9,r10⟩,⟨s0,s1,s2,s3,s4,s5,s6,s7,s8,s9⟩⟩;go_simp
 refine wpAnyH_ready (rs:=[4,10]) (by kernel_rfl) (by simp) ?_;refine AllReadyH.cons rfl (fun KK hKK=>?o1) (AllReadyH.cons rfl (fun KK hKK=>?o2) (AllReadyH.nil))
 case' o1=>
  obtain ⟨r4,hr4⟩:=ex D.heap.size;obtain ⟨D1,hD1⟩:=ex (D.alloc (.cells #[.int .i64 x] 3 (0,0)));have m4:D1.heap[r4]?=some (.cells #[.int .i64 x] 3 (0,0)):=by rw [<-hD1,<-hr4];exact zaa _ _
  have bD:Below D.heap.size D D1:=by rw [<-hD1];exact zah (Below.refl _ _) _
  go_simp
  try rw [hD1]
  try rw [hr4]
  clear hD1 hr4;have hSE:=zac hSD bD;have hs1:=HS.out D1 hSE;refine hKK.out _ _ hs1 (fun _=>?_);clear hKK KK hs0 hSD bD;have hs0:=hs1;have hSD:=hSE;clear hs1 hSE;refine wpAnyH_ready (rs:=[5,10]) (by kernel_rfl) (by simp) ?_;refine AllReadyH.cons rfl (fun KK hKK=>?o3) (AllReadyH.cons rfl (fun KK hKK=>?o4) (AllReadyH.nil))
  case' o3=>
   obtain ⟨r5,hr5⟩:=ex D1.heap.size;obtain ⟨D2,hD2⟩:=ex (D1.alloc (.cells #[.slice pp np cp,.slice (some ⟨r4,0,none⟩) 1 1] 35 (0,0)));have m5:D2.heap[r5]?=some (.cells #[.slice pp np cp,.slice (some ⟨r4,0,none⟩) 1 1] 35 (0,0)):=by rw [<-hD2,<-hr5];exact zaa _ _
   have bD:Below D1.heap.size D1 D2:=by rw [<-hD2];exact zah (Below.refl _ _) _
   go_simp
   try rw [hD2]
   try rw [hr5]
   clear hD2 hr5;have hSE:=zac hSD bD;have m4:=zae bD m4;have hs1:=HS.out D2 hSE;refine hKK.out _ _ hs1 (fun _=>?_);clear hKK KK hs0 hSD bD;have hs0:=hs1;have hSD:=hSE;clear hs1 hSE;refine wpAnyH_ready (rs:=[6,10]) (by kernel_rfl) (by simp) ?_;refine AllReadyH.cons rfl (fun KK hKK=>?o5) (AllReadyH.cons rfl (fun KK hKK=>?o6) (AllReadyH.nil))
   case' o5=>
    go_simp
    refine (HCC.out D2 r4 r5 hSD m4 m5).mono ?_;rintro en D3 ⟨q6,c6,rfl,o6,bD⟩;have i6:=zcb o6 (HN6.out.1);have ycap6:=zbh o6;have p6:∀ a,q6=some a->b3 < a.block:=fun a e=>by
     have y1:=zb5 o6 a e;have y2:=hSD.size;have y3:=HK.out.2.2.2.2;omega
    have hSE:=zac hSD bD;clear o6;have m4:=zae bD m4;have m5:=zae bD m5
    go_simp
    have hs1:=HS.out D3 hSE;refine hKK.out _ _ hs1 (fun _=>?_);clear hKK KK hs0 hSD bD;have hs0:=hs1;have hSD:=hSE;clear hs1 hSE;refine wpAnyH_ready (rs:=[10]) (by kernel_rfl) (by simp) ?_;refine AllReadyH.cons rfl (fun KK hKK=>?_) (AllReadyH.nil);obtain ⟨r10,hr10⟩:=ex D3.heap.size;obtain ⟨D4,hD4⟩:=ex (D3.alloc (.cells #[.slice pe ne ce,.slice qp me ce9] 35 (0,0)));have m10:D4.heap[r10]?=some (.cells #[.slice pe ne ce,.slice qp me ce9] 35 (0,0)):=by rw [<-hD4,<-hr10];exact zaa _ _
    have bD:Below D3.heap.size D3 D4:=by rw [<-hD4];exact zah (Below.refl _ _) _
    go_simp
    try rw [hD4]
    try rw [hr10]
    clear hD4 hr10;have hSE:=zac hSD bD;have m4:=zae bD m4;have m5:=zae bD m5;have i6:=i6.below bD;have hs1:=HS.out D4 hSE;refine hKK.out _ _ hs1 (fun _=>?_);clear hKK KK hs0 hSD bD;have hs0:=hs1;have hSD:=hSE;clear hs1 hSE;refine wpAnyH_ready (rs:=[11]) (by kernel_rfl) (by simp) ?_;refine AllReadyH.cons rfl (fun KK hKK=>?_) (AllReadyH.nil)
    go_simp
    refine (HCE.out D4 r10 hSD m10).mono ?_;rintro en D5 ⟨q11,c11,rfl,o11,bD⟩;have i11:=zcb o11 (HN6.out.2);have ycap11:=zbh o11;have p11:∀ a,q11=some a->b3 < a.block:=fun a e=>by
     have y1:=zb5 o11 a e;have y2:=hSD.size;have y3:=HK.out.2.2.2.2;omega
    have hSE:=zac hSD bD;clear o11;have m4:=zae bD m4;have m5:=zae bD m5;have i6:=i6.below bD;have m10:=zae bD m10
    go_simp
   case' o6=>
    obtain ⟨r10,hr10⟩:=ex D2.heap.size;obtain ⟨D6,hD6⟩:=ex (D2.alloc (.cells #[.slice pe ne ce,.slice qp me ce9] 35 (0,0)));have m10:D6.heap[r10]?=some (.cells #[.slice pe ne ce,.slice qp me ce9] 35 (0,0)):=by rw [<-hD6,<-hr10];exact zaa _ _
    have bD:Below D2.heap.size D2 D6:=by rw [<-hD6];exact zah (Below.refl _ _) _
    go_simp
    try rw [hD6]
    try rw [hr10]
    clear hD6 hr10;have hSE:=zac hSD bD;have m4:=zae bD m4;have m5:=zae bD m5;have hs1:=HS.out D6 hSE;refine hKK.out _ _ hs1 (fun _=>?_);clear hKK KK hs0 hSD bD;have hs0:=hs1;have hSD:=hSE;clear hs1 hSE;refine wpAnyH_ready (rs:=[6]) (by kernel_rfl) (by simp) ?_;refine AllReadyH.cons rfl (fun KK hKK=>?_) (AllReadyH.nil)
    go_simp
    refine (HCC.out D6 r4 r5 hSD m4 m5).mono ?_;rintro en D7 ⟨q6,c6,rfl,o6,bD⟩;have i6:=zcb o6 (HN6.out.1);have ycap6:=zbh o6;have p6:∀ a,q6=some a->b3 < a.block:=fun a e=>by
     have y1:=zb5 o6 a e;have y2:=hSD.size;have y3:=HK.out.2.2.2.2;omega
    have hSE:=zac hSD bD;clear o6;have m4:=zae bD m4;have m5:=zae bD m5;have m10:=zae bD m10
    go_simp
    have hs1:=HS.out D7 hSE;refine hKK.out _ _ hs1 (fun _=>?_);clear hKK KK hs0 hSD bD;have hs0:=hs1;have hSD:=hSE;clear hs1 hSE;refine wpAnyH_ready (rs:=[11]) (by kernel_rfl) (by simp) ?_;refine AllReadyH.cons rfl (fun KK hKK=>?_) (AllReadyH.nil)
    go_simp
    refine (HCE.out D7 r10 hSD m10).mono ?_;rintro en D5 ⟨q11,c11,rfl,o11,bD⟩;have i11:=zcb o11 (HN6.out.2);have ycap11:=zbh o11;have p11:∀ a,q11=some a->b3 < a.block:=fun a e=>by
     have y1:=zb5 o11 a e;have y2:=hSD.size;have y3:=HK.out.2.2.2.2;omega
    have hSE:=zac hSD bD;clear o11;have m4:=zae bD m4;have m5:=zae bD m5;have m10:=zae bD m10;have i6:=i6.below bD
    go_simp
  case' o4=>
   obtain ⟨r10,hr10⟩:=ex D1.heap.size;obtain ⟨D9,hD9⟩:=ex (D1.alloc (.cells #[.slice pe ne ce,.slice qp me ce9] 35 (0,0)));have m10:D9.heap[r10]?=some (.cells #[.slice pe ne ce,.slice qp me ce9] 35 (0,0)):=by rw [<-hD9,<-hr10];exact zaa _ _
   have bD:Below D1.heap.size D1 D9:=by rw [<-hD9];exact zah (Below.refl _ _) _
   go_simp
   try rw [hD9]
   try rw [hr10]
   clear hD9 hr10;have hSE:=zac hSD bD;have m4:=zae bD m4;have hs1:=HS.out D9 hSE;refine hKK.out _ _ hs1 (fun _=>?_);clear hKK KK hs0 hSD bD;have hs0:=hs1;have hSD:=hSE;clear hs1 hSE;refine wpAnyH_ready (rs:=[5]) (by kernel_rfl) (by simp) ?_;refine AllReadyH.cons rfl (fun KK hKK=>?_) (AllReadyH.nil);obtain ⟨r5,hr5⟩:=ex D9.heap.size;obtain ⟨D10,hD10⟩:=ex (D9.alloc (.cells #[.slice pp np cp,.slice (some ⟨r4,0,none⟩) 1 1] 35 (0,0)));have m5:D10.heap[r5]?=some (.cells #[.slice pp np cp,.slice (some ⟨r4,0,none⟩) 1 1] 35 (0,0)):=by rw [<-hD10,<-hr5];exact zaa _ _
   have bD:Below D9.heap.size D9 D10:=by rw [<-hD10];exact zah (Below.refl _ _) _
   go_simp
   try rw [hD10]
   try rw [hr5]
   clear hD10 hr5;have hSE:=zac hSD bD;have m4:=zae bD m4;have m10:=zae bD m10;have hs1:=HS.out D10 hSE;refine hKK.out _ _ hs1 (fun _=>?_);clear hKK KK hs0 hSD bD;have hs0:=hs1;have hSD:=hSE;clear hs1 hSE;refine wpAnyH_ready (rs:=[6]) (by kernel_rfl) (by simp) ?_;refine AllReadyH.cons rfl (fun KK hKK=>?_) (AllReadyH.nil)
   go_simp
   refine (HCC.out D10 r4 r5 hSD m4 m5).mono ?_;rintro en D11 ⟨q6,c6,rfl,o6,bD⟩;have i6:=zcb o6 (HN6.out.1);have ycap6:=zbh o6;have p6:∀ a,q6=some a->b3 < a.block:=fun a e=>by
    have y1:=zb5 o6 a e;have y2:=hSD.size;have y3:=HK.out.2.2.2.2;omega
   have hSE:=zac hSD bD;clear o6;have m4:=zae bD m4;have m10:=zae bD m10;have m5:=zae bD m5
   go_simp
   have hs1:=HS.out D11 hSE;refine hKK.out _ _ hs1 (fun _=>?_);clear hKK KK hs0 hSD bD;have hs0:=hs1;have hSD:=hSE;clear hs1 hSE;refine wpAnyH_ready (rs:=[11]) (by kernel_rfl) (by simp) ?_;refine AllReadyH.cons rfl (fun KK hKK=>?_) (AllReadyH.nil)
   go_simp
   refine (HCE.out D11 r10 hSD m10).mono ?_;rintro en D5 ⟨q11,c11,rfl,o11,bD⟩;have i11:=zcb o11 (HN6.out.2);have ycap11:=zbh o11;have p11:∀ a,q11=some a->b3 < a.block:=fun a e=>by
    have y1:=zb5 o11 a e;have y2:=hSD.size;have y3:=HK.out.2.2.2.2;omega
   have hSE:=zac hSD bD;clear o11;have m4:=zae bD m4;have m10:=zae bD m10;have m5:=zae bD m5;have i6:=i6.below bD
   go_simp
 case' o2=>
  obtain ⟨r10,hr10⟩:=ex D.heap.size;obtain ⟨D13,hD13⟩:=ex (D.alloc (.cells #[.slice pe ne ce,.slice qp me ce9] 35 (0,0)));have m10:D13.heap[r10]?=some (.cells #[.slice pe ne ce,.slice qp me ce9] 35 (0,0)):=by rw [<-hD13,<-hr10];exact zaa _ _
  have bD:Below D.heap.size D D13:=by rw [<-hD13];exact zah (Below.refl _ _) _
  go_simp
  try rw [hD13]
  try rw [hr10]
  clear hD13 hr10;have hSE:=zac hSD bD;have hs1:=HS.out D13 hSE;refine hKK.out _ _ hs1 (fun _=>?_);clear hKK KK hs0 hSD bD;have hs0:=hs1;have hSD:=hSE;clear hs1 hSE;refine wpAnyH_ready (rs:=[4]) (by kernel_rfl) (by simp) ?_;refine AllReadyH.cons rfl (fun KK hKK=>?_) (AllReadyH.nil);obtain ⟨r4,hr4⟩:=ex D13.heap.size;obtain ⟨D14,hD14⟩:=ex (D13.alloc (.cells #[.int .i64 x] 3 (0,0)));have m4:D14.heap[r4]?=some (.cells #[.int .i64 x] 3 (0,0)):=by rw [<-hD14,<-hr4];exact zaa _ _
  have bD:Below D13.heap.size D13 D14:=by rw [<-hD14];exact zah (Below.refl _ _) _
  go_simp
  try rw [hD14]
  try rw [hr4]
  clear hD14 hr4;have hSE:=zac hSD bD;have m10:=zae bD m10;have hs1:=HS.out D14 hSE;refine hKK.out _ _ hs1 (fun _=>?_);clear hKK KK hs0 hSD bD;have hs0:=hs1;have hSD:=hSE;clear hs1 hSE;refine wpAnyH_ready (rs:=[5]) (by kernel_rfl) (by simp) ?_;refine AllReadyH.cons rfl (fun KK hKK=>?_) (AllReadyH.nil);obtain ⟨r5,hr5⟩:=ex D14.heap.size;obtain ⟨D15,hD15⟩:=ex (D14.alloc (.cells #[.slice pp np cp,.slice (some ⟨r4,0,none⟩) 1 1] 35 (0,0)));have m5:D15.heap[r5]?=some (.cells #[.slice pp np cp,.slice (some ⟨r4,0,none⟩) 1 1] 35 (0,0)):=by rw [<-hD15,<-hr5];exact zaa _ _
  have bD:Below D14.heap.size D14 D15:=by rw [<-hD15];exact zah (Below.refl _ _) _
  go_simp
  try rw [hD15]
  try rw [hr5]
  clear hD15 hr5;have hSE:=zac hSD bD;have m10:=zae bD m10;have m4:=zae bD m4;have hs1:=HS.out D15 hSE;refine hKK.out _ _ hs1 (fun _=>?_);clear hKK KK hs0 hSD bD;have hs0:=hs1;have hSD:=hSE;clear hs1 hSE;refine wpAnyH_ready (rs:=[6]) (by kernel_rfl) (by simp) ?_;refine AllReadyH.cons rfl (fun KK hKK=>?_) (AllReadyH.nil)
  go_simp
  refine (HCC.out D15 r4 r5 hSD m4 m5).mono ?_;rintro en D16 ⟨q6,c6,rfl,o6,bD⟩;have i6:=zcb o6 (HN6.out.1);have ycap6:=zbh o6;have p6:∀ a,q6=some a->b3 < a.block:=fun a e=>by
   have y1:=zb5 o6 a e;have y2:=hSD.size;have y3:=HK.out.2.2.2.2;omega
  have hSE:=zac hSD bD;clear o6;have m10:=zae bD m10;have m4:=zae bD m4;have m5:=zae bD m5
  go_simp
  have hs1:=HS.out D16 hSE;refine hKK.out _ _ hs1 (fun _=>?_);clear hKK KK hs0 hSD bD;have hs0:=hs1;have hSD:=hSE;clear hs1 hSE;refine wpAnyH_ready (rs:=[11]) (by kernel_rfl) (by simp) ?_;refine AllReadyH.cons rfl (fun KK hKK=>?_) (AllReadyH.nil)
  go_simp
  refine (HCE.out D16 r10 hSD m10).mono ?_;rintro en D5 ⟨q11,c11,rfl,o11,bD⟩;have i11:=zcb o11 (HN6.out.2);have ycap11:=zbh o11;have p11:∀ a,q11=some a->b3 < a.block:=fun a e=>by
   have y1:=zb5 o11 a e;have y2:=hSD.size;have y3:=HK.out.2.2.2.2;omega
  have hSE:=zac hSD bD;clear o11;have m10:=zae bD m10;have m4:=zae bD m4;have m5:=zae bD m5;have i6:=i6.below bD
  go_simp
 all_goals
  have hs1:=HS.out D5 hSE;refine hKK.out _ _ hs1 (fun _=>?_);clear hKK KK hs0 hSD bD;have hs0:=hs1;have hSD:=hSE;clear hs1 hSE;refine tk 14 (.agg #[.slice q6 n6 c6,.slice q11 n11 c11,.int .i64 d0,.int .u64 d1,.int .u64 d2,.int .u64 d3,.int .u64 d4,.int .u64 d5,.int .u64 d6,.int .u64 d7,.int .u64 d8]) rfl hs0 ?_ ?_
  ·rintro U ⟨⟨r0,r1,r2,r3,r4,r5,r6,r7,r8,r9,r10⟩,⟨s0,s1,s2,s3,s4,s5,s6,s7,s8,s9⟩⟩;go_simp
  have kb3:=(HK.out.1 D5 hSD).1;have hz:=zaf kb3;have z0:D5.cell? ⟨b3,0,none⟩=some (.slice none 0 0):=by rw [hz.1];rfl
  have f0:=hz.2 0;have z1:D5.cell? ⟨b3,1,none⟩=some (.slice none 0 0):=by rw [hz.1];rfl
  have f1:=hz.2 1;have z2:D5.cell? ⟨b3,2,none⟩=some (.int .i64 0):=by rw [hz.1];rfl
  have f2:=hz.2 2;have z3:D5.cell? ⟨b3,3,none⟩=some (.int .u64 0):=by rw [hz.1];rfl
  have f3:=hz.2 3;have z4:D5.cell? ⟨b3,4,none⟩=some (.int .u64 0):=by rw [hz.1];rfl
  have f4:=hz.2 4;have z5:D5.cell? ⟨b3,5,none⟩=some (.int .u64 0):=by rw [hz.1];rfl
  have f5:=hz.2 5;have z6:D5.cell? ⟨b3,6,none⟩=some (.int .u64 0):=by rw [hz.1];rfl
  have f6:=hz.2 6;have z7:D5.cell? ⟨b3,7,none⟩=some (.int .u64 0):=by rw [hz.1];rfl
  have f7:=hz.2 7;have z8:D5.cell? ⟨b3,8,none⟩=some (.int .u64 0):=by rw [hz.1];rfl
  have f8:=hz.2 8;have z9:D5.cell? ⟨b3,9,none⟩=some (.int .u64 0):=by rw [hz.1];rfl
  have f9:=hz.2 9;have z10:D5.cell? ⟨b3,10,none⟩=some (.int .u64 0):=by rw [hz.1];rfl
  have f10:=hz.2 10;obtain ⟨W9,hW9⟩:=ex (((((((((((D5.setCell ⟨b3,0,none⟩ (.slice q6 n6 c6)).setCell ⟨b3,1,none⟩ (.slice q11 n11 c11)).setCell ⟨b3,2,none⟩ (.int .i64 d0)).setCell ⟨b3,3,none⟩ (.int .u64 d1)).setCell ⟨b3,4,none⟩ (.int .u64 d2)).setCell ⟨b3,5,none⟩ (.int .u64 d3)).setCell ⟨b3,6,none⟩ (.int .u64 d4)).setCell ⟨b3,7,none⟩ (.int .u64 d5)).setCell ⟨b3,8,none⟩ (.int .u64 d6)).setCell ⟨b3,9,none⟩ (.int .u64 d7)).setCell ⟨b3,10,none⟩ (.int .u64 d8));have HRES:Hid (W9.heap[b3]?=some (.cells #[.slice q6 n6 c6,.slice q11 n11 c11,.int .i64 d0,.int .u64 d1,.int .u64 d2,.int .u64 d3,.int .u64 d4,.int .u64 d5,.int .u64 d6,.int .u64 d7,.int .u64 d8] 72 (0,0))):=by
   rw [<-hW9];exact put11 (.slice q6 n6 c6) (.slice q11 n11 c11) (.int .i64 d0) (.int .u64 d1) (.int .u64 d2) (.int .u64 d3) (.int .u64 d4) (.int .u64 d5) (.int .u64 d6) (.int .u64 d7) (.int .u64 d8) kb3
  have hfar:∀ c,c≠b3->W9.heap[c]?=D5.heap[c]?:=fun c hc=>by
   rw [<-hW9];exact zmc (.slice q6 n6 c6) (.slice q11 n11 c11) (.int .i64 d0) (.int .u64 d1) (.int .u64 d2) (.int .u64 d3) (.int .u64 d4) (.int .u64 d5) (.int .u64 d6) (.int .u64 d7) (.int .u64 d8) hc
  have HFIN:Hid (TOQ ⟨ps,es,hd⟩ (x,h) E w (.returned (.agg #[.slice q6 n6 c6,.slice q11 n11 c11,.int .i64 d0,.int .u64 d1,.int .u64 d2,.int .u64 d3,.int .u64 d4,.int .u64 d5,.int .u64 d6,.int .u64 d7,.int .u64 d8])) W9):=HFI.out W9 q6 q11 c6 c11 (i6.far hfar (fun a e=>Nat.ne_of_gt (p6 a e))) (i11.far hfar (fun a e=>Nat.ne_of_gt (p11 a e))) ycap6 (by rw [<-hW9];exact zmd (.slice q6 n6 c6) (.slice q11 n11 c11) (.int .i64 d0) (.int .u64 d1) (.int .u64 d2) (.int .u64 d3) (.int .u64 d4) (.int .u64 d5) (.int .u64 d6) (.int .u64 d7) (.int .u64 d8) (HK.out.1 D5 hSD).2 HK.out.2.1) p6 p11;have hs9:(W9.cell? ⟨b,0,none⟩=some (.slice pp np cp)/\W9.cell? ⟨b,1,none⟩=some (.slice pe ne ce)/\W9.cell? ⟨b,2,none⟩=some (.int .i64 a0)/\W9.cell? ⟨b,3,none⟩=some (.int .u64 a1)/\W9.cell? ⟨b,4,none⟩=some (.int .u64 a2)/\W9.cell? ⟨b,5,none⟩=some (.int .u64 a3)/\W9.cell? ⟨b,6,none⟩=some (.int .u64 a4)/\W9.cell? ⟨b,7,none⟩=some (.int .u64 a5)/\W9.cell? ⟨b,8,none⟩=some (.int .u64 a6)/\W9.cell? ⟨b,9,none⟩=some (.int .u64 a7)/\W9.cell? ⟨b,10,none⟩=some (.int .u64 a8))/\(W9.cell? ⟨b2,0,none⟩=some (.int .i64 x)/\W9.cell? ⟨b2,1,none⟩=some (.int .i64 d0)/\W9.cell? ⟨b2,2,none⟩=some (.int .u64 d1)/\W9.cell? ⟨b2,3,none⟩=some (.int .u64 d2)/\W9.cell? ⟨b2,4,none⟩=some (.int .u64 d3)/\W9.cell? ⟨b2,5,none⟩=some (.int .u64 d4)/\W9.cell? ⟨b2,6,none⟩=some (.int .u64 d5)/\W9.cell? ⟨b2,7,none⟩=some (.int .u64 d6)/\W9.cell? ⟨b2,8,none⟩=some (.int .u64 d7)/\W9.cell? ⟨b2,9,none⟩=some (.int .u64 d8)):=by
   have kp:∀ c j,c≠b3->W9.cell? ⟨c,j,none⟩=D5.cell? ⟨c,j,none⟩:=fun c j hc=>by
    unfold World.cell?;simp only [hfar c hc]
   obtain ⟨⟨r0,r1,r2,r3,r4,r5,r6,r7,r8,r9,r10⟩,⟨s0,s1,s2,s3,s4,s5,s6,s7,s8,s9⟩⟩:=hs0;exact ⟨⟨(kp _ _ HK.out.2.2.1).trans r0,(kp _ _ HK.out.2.2.1).trans r1,(kp _ _ HK.out.2.2.1).trans r2,(kp _ _ HK.out.2.2.1).trans r3,(kp _ _ HK.out.2.2.1).trans r4,(kp _ _ HK.out.2.2.1).trans r5,(kp _ _ HK.out.2.2.1).trans r6,(kp _ _ HK.out.2.2.1).trans r7,(kp _ _ HK.out.2.2.1).trans r8,(kp _ _ HK.out.2.2.1).trans r9,(kp _ _ HK.out.2.2.1).trans r10⟩,⟨(kp _ _ HK.out.2.2.2.1).trans s0,(kp _ _ HK.out.2.2.2.1).trans s1,(kp _ _ HK.out.2.2.2.1).trans s2,(kp _ _ HK.out.2.2.2.1).trans s3,(kp _ _ HK.out.2.2.2.1).trans s4,(kp _ _ HK.out.2.2.2.1).trans s5,(kp _ _ HK.out.2.2.2.1).trans s6,(kp _ _ HK.out.2.2.2.1).trans s7,(kp _ _ HK.out.2.2.2.1).trans s8,(kp _ _ HK.out.2.2.2.1).trans s9⟩⟩
  have HW9:=zab hW9;clear hW9 hz hfar kb3;refine rd 15 rfl fun KK hKK=>?_
  go_simp
  rw [HW9.out];refine hKK.out _ _ hs9 (fun _=>?_);clear hKK KK;refine wpAnyH_done (by kernel_rfl) ?_ _
  try simp only [List.getElem_toArray,List.getElem_cons_succ,List.getElem_cons_zero,Act.put,List.setIfInBounds_toArray,List.set_cons_zero,List.set_cons_succ]
  clear hs0 hs9
  go_wp2_with fail
  refine bodyPost_ret (res_to _ _ b3 _ _ _ _ _ _ _ _ _ _ _ _ _ _ _ rfl HRES.out) rfl ?_;exact HFIN.out
structure PV where
 pp:Option Addr
 cp:Nat
 pe:Option Addr
 ce:Nat
def paC (x:WY×PV):List Value:=[.slice x.2.pp x.1.ps.length x.2.cp,.slice x.2.pe x.1.es.length x.2.ce,.string ⟨x.1.hd.toArray⟩]
theorem zqf (x:WY×PV):(paC x).length=3:=rfl
def PL (W:World) (x:WY×PV):Prop:=IL W x.2.pp x.1.ps.length x.2.cp x.1.ps/\IL W x.2.pe x.1.es.length x.2.ce x.1.es/\x.1.ps.length<=x.2.cp/\x.1.es.length<=x.2.ce
theorem PL.below {W U:World} {x:WY×PV} (h:PL W x) (hb:Below W.heap.size W U):PL U x:=⟨h.1.below hb,h.2.1.below hb,h.2.2⟩
def PAQ (y:WY) (w:World) (e:Ending) (w':World):Prop:=∃ v:PV,e=.returned (.agg (paC (y,v)).toArray)/\PL w' (y,v)/\Below w.heap.size w w'
set_option maxRecDepth 100000 in
set_option maxHeartbeats 16000000 in
theorem path_any (y:WY×WV) (w:World) (hL:WL w y) (hN1:y.1.ps.length<=500) (hN2:y.1.es.length<=500) (hg:Tn.good y.1.hd=true) :
  Calls Tryz.prog 61 #[.agg (wyC y).toArray] w (PAQ y.1 w):=by
 obtain ⟨⟨ps,es,hd⟩,⟨pp,cp,pe,ce⟩⟩:=y;obtain ⟨a0,a1,a2,a3,a4,a5,a6,a7,a8,h9⟩:=zbz hd;obtain ⟨np,hnp⟩:=ex ps.length;obtain ⟨ne,hne9⟩:=ex es.length;rw [za9 h9 hnp hne9];simp only at hN1 hN2 hL hg ⊢;have hL1:IL w pp np cp ps:=by have:=hL.1;rw [<-hnp];exact this
 have hL2:IL w pe ne ce es:=by have:=hL.2.1;rw [<-hne9];exact this
 obtain ⟨b,hb⟩:=ex w.heap.size;obtain ⟨b2,hb2⟩:=ex (w.heap.size+1);obtain ⟨W1,hW1⟩:=ex ((w.alloc (.cells #[.slice pp np cp,.slice pe ne ce,.int .i64 a0,.int .u64 a1,.int .u64 a2,.int .u64 a3,.int .u64 a4,.int .u64 a5,.int .u64 a6,.int .u64 a7,.int .u64 a8] 72)).alloc (.cells #[.slice none 0 0,.slice none 0 0,.string ⟨#[]⟩] 37));have hz1:(w.alloc (.cells #[.slice pp np cp,.slice pe ne ce,.int .i64 a0,.int .u64 a1,.int .u64 a2,.int .u64 a3,.int .u64 a4,.int .u64 a5,.int .u64 a6,.int .u64 a7,.int .u64 a8] 72)).heap.size=w.heap.size+1:=Array.size_push _;have b1:Below w.heap.size w W1:=by rw [<-hW1];exact zah (zah (Below.refl _ _) _) _
 have kb:W1.heap[b]?=some (.cells #[.slice pp np cp,.slice pe ne ce,.int .i64 a0,.int .u64 a1,.int .u64 a2,.int .u64 a3,.int .u64 a4,.int .u64 a5,.int .u64 a6,.int .u64 a7,.int .u64 a8] 72 (0,0)):=by rw [<-hW1,<-hb];exact zae (zah (Below.refl _ _) _) (zaa _ _)
 have kb2:W1.heap[b2]?=some (.cells #[.slice none 0 0,.slice none 0 0,.string ⟨#[]⟩] 37 (0,0)):=by rw [<-hW1,<-hb2,<-hz1];exact zaa _ _
 have HS:Hid (∀ U,Below W1.heap.size W1 U->U.cell? ⟨b,0,none⟩=some (.slice pp np cp)/\U.cell? ⟨b,1,none⟩=some (.slice pe ne ce)/\U.cell? ⟨b,2,none⟩=some (.int .i64 a0)/\U.cell? ⟨b,3,none⟩=some (.int .u64 a1)/\U.cell? ⟨b,4,none⟩=some (.int .u64 a2)/\U.cell? ⟨b,5,none⟩=some (.int .u64 a3)/\U.cell? ⟨b,6,none⟩=some (.int .u64 a4)/\U.cell? ⟨b,7,none⟩=some (.int .u64 a5)/\U.cell? ⟨b,8,none⟩=some (.int .u64 a6)/\U.cell? ⟨b,9,none⟩=some (.int .u64 a7)/\U.cell? ⟨b,10,none⟩=some (.int .u64 a8)):=fun U hU=>by
  have e1:=(zaf (zae hU kb)).1;exact ⟨by rw [e1];rfl,by rw [e1];rfl,by rw [e1];rfl,by rw [e1];rfl,by rw [e1];rfl,by rw [e1];rfl,by rw [e1];rfl,by rw [e1];rfl,by rw [e1];rfl,by rw [e1];rfl,by rw [e1];rfl⟩
 have HK:Hid ((∀ U,Below W1.heap.size W1 U->U.heap[b2]?=some (.cells #[.slice none 0 0,.slice none 0 0,.string ⟨#[]⟩] 37 (0,0))/\Below w.heap.size w U)/\w.heap.size<=b2/\b≠b2/\b2 < W1.heap.size):=⟨fun U hU=>⟨zae hU kb2,zac b1 hU⟩,by omega,by omega,zap kb2⟩;have HC1:Hid (∀ U,Below W1.heap.size W1 U->Calls Tryz.prog 56 #[.slice pp np cp] U fun e w'=>∃ q c,e=.returned (.slice q np c)/\w'.ownsRow U.heap.size 3 1 (.slice q np c) np (inZ ps)/\Below U.heap.size U w'):=fun U hU=>by
  have h:=zix ps pp np cp U hnp (by omega) (zgq ((hL1.below (zac b1 hU)).2.1));rw [zew] at h;exact h
 have HC2:Hid (∀ U,Below W1.heap.size W1 U->Calls Tryz.prog 56 #[.slice pe ne ce] U fun e w'=>∃ q c,e=.returned (.slice q ne c)/\w'.ownsRow U.heap.size 3 1 (.slice q ne c) ne (inZ es)/\Below U.heap.size U w'):=fun U hU=>by
  have h:=zix es pe ne ce U hne9 (by omega) (zgq ((hL2.below (zac b1 hU)).2.1));rw [zew] at h;exact h
 have HTX:Hid (∀ U:World,Calls Tryz.prog 63 #[.agg #[.int .i64 a0,.int .u64 a1,.int .u64 a2,.int .u64 a3,.int .u64 a4,.int .u64 a5,.int .u64 a6,.int .u64 a7,.int .u64 a8]] U fun e w'=>e=.returned (.string ⟨hd.toArray⟩)/\Below U.heap.size U w'):=fun U=>by
  have h:=Tn.text_any hd U hg;rw [h9.agg] at h;exact h
 have HN:Hid (ps.length=np/\es.length=ne):=⟨hnp,hne9⟩;have HFI:Hid (∀ (U:World) (q2 q5:Option Addr) (c2 c5:Nat),IL U q2 np c2 ps->IL U q5 ne c5 es->np<=c2->ne<=c5->Below w.heap.size w U->PAQ ⟨ps,es,hd⟩ w (.returned (.agg #[.slice q2 np c2,.slice q5 ne c5,.string ⟨hd.toArray⟩])) U):=fun U q2 q5 c2 c5 i6 i11 m1 m2 hb=>by
  refine ⟨⟨q2,c2,q5,c5⟩,?_,⟨?_,?_,?_,?_⟩,hb⟩
  ·show _=Ending.returned (.agg #[.slice q2 ps.length c2,.slice q5 es.length c5,.string ⟨hd.toArray⟩])
   rw [hnp,hne9]
  ·show IL U q2 ps.length c2 ps
   rw [hnp];exact i6
  ·show IL U q5 es.length c5 es
   rw [hne9];exact i11
  ·show ps.length<=c2
   rw [hnp];exact m1
  ·show es.length<=c5
   rw [hne9];exact m2
 have HB:=zab hb;have HB2:=zab hb2;have HW:=zab hW1;have HB1:=zab b1;have hs0:=HS.out W1.drew (Below.refl _ _).drew;clear hW1 b1 hb kb hb2 kb2 hz1 hL hN1 hN2 h9 hnp hne9 hL1 hL2 hg
 go_enter Tryz.func61,Tryz.ntmps61
 go_upto_region 1 with fail
 rw [HW.out,HB2.out,HB.out];refine wp_region_held_drew (S:=fun U=>U.cell? ⟨b,0,none⟩=some (.slice pp np cp)/\U.cell? ⟨b,1,none⟩=some (.slice pe ne ce)/\U.cell? ⟨b,2,none⟩=some (.int .i64 a0)/\U.cell? ⟨b,3,none⟩=some (.int .u64 a1)/\U.cell? ⟨b,4,none⟩=some (.int .u64 a2)/\U.cell? ⟨b,5,none⟩=some (.int .u64 a3)/\U.cell? ⟨b,6,none⟩=some (.int .u64 a4)/\U.cell? ⟨b,7,none⟩=some (.int .u64 a5)/\U.cell? ⟨b,8,none⟩=some (.int .u64 a6)/\U.cell? ⟨b,9,none⟩=some (.int .u64 a7)/\U.cell? ⟨b,10,none⟩=some (.int .u64 a8)) (by kernel_rfl) hs0 (fun _=>?_);obtain ⟨D,hD⟩:=ex W1.drew;rw [hD] at hs0 ⊢;have hSD:Below W1.heap.size W1 D:=by rw [<-hD];exact (Below.refl _ _).drew
 clear hD;refine tk 0 (.pointer (some ⟨b,0,none⟩)) rfl hs0 ?_ ?_
 ·rintro U ⟨r0,r1,r2,r3,r4,r5,r6,r7,r8,r9,r10⟩;go_simp
 refine tk 1 (.slice pp np cp) rfl hs0 ?_ ?_
 ·rintro U ⟨r0,r1,r2,r3,r4,r5,r6,r7,r8,r9,r10⟩;go_simp
 refine tk 3 (.pointer (some ⟨b,1,none⟩)) rfl hs0 ?_ ?_
 ·rintro U ⟨r0,r1,r2,r3,r4,r5,r6,r7,r8,r9,r10⟩;go_simp
 refine tk 4 (.slice pe ne ce) rfl hs0 ?_ ?_
 ·rintro U ⟨r0,r1,r2,r3,r4,r5,r6,r7,r8,r9,r10⟩;go_simp
 refine tk 6 (.pointer (some ⟨b,2,none⟩)) rfl hs0 ?_ ?_
 ·rintro U ⟨r0,r1,r2,r3,r4,r5,r6,r7,r8,r9,r10⟩;go_simp
 refine tk 7 (.agg #[.int .i64 a0,.int .u64 a1,.int .u64 a2,.int .u64 a3,.int .u64 a4,.int .u64 a5,.int .u64 a6,.int .u64 a7,.int .u64 a8]) rfl hs0 ?_ ?_
 ·rintro U ⟨r0,r1,r2,r3,r4,r5,r6,r7,r8,r9,r10⟩;go_simp
 refine rd 2 rfl fun KK hKK=>?_
 go_simp
 refine (HC1.out D hSD).mono ?_;rintro en D1 ⟨q2,c2,rfl,o2,bD⟩;have hSE:=zac hSD bD;have i2:=zcb o2 HN.out.1;have ycap2:=zbh o2;have p2:∀ a,q2=some a->a.block≠b2:=fun a e=>by
  have y1:=zb5 o2 a e;have y2:=hSD.size;have y3:=HK.out.2.2.2;omega
 clear o2;have hs1:=HS.out D1 hSE
 go_simp
 refine hKK.out _ _ hs1 (fun _=>?_);clear hKK KK hs0 hSD bD;have hs0:=hs1;have hSD:=hSE;clear hs1 hSE;refine rd 5 rfl fun KK hKK=>?_
 go_simp
 refine (HC2.out D1 hSD).mono ?_;rintro en D2 ⟨q5,c5,rfl,o5,bD⟩;have hSE:=zac hSD bD;have i5:=zcb o5 HN.out.2;have ycap5:=zbh o5;have p5:∀ a,q5=some a->a.block≠b2:=fun a e=>by
  have y1:=zb5 o5 a e;have y2:=hSD.size;have y3:=HK.out.2.2.2;omega
 clear o5;have i2:=i2.below bD;have hs1:=HS.out D2 hSE
 go_simp
 refine hKK.out _ _ hs1 (fun _=>?_);clear hKK KK hs0 hSD bD;have hs0:=hs1;have hSD:=hSE;clear hs1 hSE;refine rd 8 rfl fun KK hKK=>?_
 go_simp
 refine (HTX.out D2).mono ?_;rintro en D3 ⟨rfl,bD⟩;have hSE:=zac hSD bD;have i2:=i2.below bD;have i5:=i5.below bD;have hs1:=HS.out D3 hSE
 go_simp
 refine hKK.out _ _ hs1 (fun _=>?_);clear hKK KK hs0 hSD bD;have hs0:=hs1;have hSD:=hSE;clear hs1 hSE;refine tk 9 (.agg #[.slice q2 np c2,.slice q5 ne c5,.string ⟨hd.toArray⟩]) rfl hs0 ?_ ?_
 ·rintro U ⟨r0,r1,r2,r3,r4,r5,r6,r7,r8,r9,r10⟩;go_simp
 have kb3:=(HK.out.1 D3 hSD).1;have hz:=zaf kb3;have z0:D3.cell? ⟨b2,0,none⟩=some (.slice none 0 0):=by rw [hz.1];rfl
 have f0:=hz.2 0;have z1:D3.cell? ⟨b2,1,none⟩=some (.slice none 0 0):=by rw [hz.1];rfl
 have f1:=hz.2 1;have z2:D3.cell? ⟨b2,2,none⟩=some (.string ⟨#[]⟩):=by rw [hz.1];rfl
 have f2:=hz.2 2;obtain ⟨W9,hW9⟩:=ex (((D3.setCell ⟨b2,0,none⟩ (.slice q2 np c2)).setCell ⟨b2,1,none⟩ (.slice q5 ne c5)).setCell ⟨b2,2,none⟩ (.string ⟨hd.toArray⟩));have HRES:Hid (W9.heap[b2]?=some (.cells #[.slice q2 np c2,.slice q5 ne c5,.string ⟨hd.toArray⟩] 37 (0,0))):=by
  rw [<-hW9];exact put3 (.slice q2 np c2) (.slice q5 ne c5) (.string ⟨hd.toArray⟩) kb3
 have hfar:∀ c,c≠b2->W9.heap[c]?=D3.heap[c]?:=fun c hc=>by
  rw [<-hW9];exact put3f (.slice q2 np c2) (.slice q5 ne c5) (.string ⟨hd.toArray⟩) hc
 have HFIN:Hid (PAQ ⟨ps,es,hd⟩ w (.returned (.agg #[.slice q2 np c2,.slice q5 ne c5,.string ⟨hd.toArray⟩])) W9):=HFI.out W9 q2 q5 c2 c5 (i2.far hfar p2) (i5.far hfar p5) ycap2 ycap5 (by rw [<-hW9];exact zk0 (.slice q2 np c2) (.slice q5 ne c5) (.string ⟨hd.toArray⟩) (HK.out.1 D3 hSD).2 HK.out.2.1);have hs9:W9.cell? ⟨b,0,none⟩=some (.slice pp np cp)/\W9.cell? ⟨b,1,none⟩=some (.slice pe ne ce)/\W9.cell? ⟨b,2,none⟩=some (.int .i64 a0)/\W9.cell? ⟨b,3,none⟩=some (.int .u64 a1)/\W9.cell? ⟨b,4,none⟩=some (.int .u64 a2)/\W9.cell? ⟨b,5,none⟩=some (.int .u64 a3)/\W9.cell? ⟨b,6,none⟩=some (.int .u64 a4)/\W9.cell? ⟨b,7,none⟩=some (.int .u64 a5)/\W9.cell? ⟨b,8,none⟩=some (.int .u64 a6)/\W9.cell? ⟨b,9,none⟩=some (.int .u64 a7)/\W9.cell? ⟨b,10,none⟩=some (.int .u64 a8):=by
  have kp:∀ c j,c≠b2->W9.cell? ⟨c,j,none⟩=D3.cell? ⟨c,j,none⟩:=fun c j hc=>by
   unfold World.cell?;simp only [hfar c hc]
  obtain ⟨r0,r1,r2,r3,r4,r5,r6,r7,r8,r9,r10⟩:=hs0;exact ⟨(kp _ _ HK.out.2.2.1).trans r0,(kp _ _ HK.out.2.2.1).trans r1,(kp _ _ HK.out.2.2.1).trans r2,(kp _ _ HK.out.2.2.1).trans r3,(kp _ _ HK.out.2.2.1).trans r4,(kp _ _ HK.out.2.2.1).trans r5,(kp _ _ HK.out.2.2.1).trans r6,(kp _ _ HK.out.2.2.1).trans r7,(kp _ _ HK.out.2.2.1).trans r8,(kp _ _ HK.out.2.2.1).trans r9,(kp _ _ HK.out.2.2.1).trans r10⟩
 have HW9:=zab hW9;clear hW9 hz hfar kb3;refine rd 10 rfl fun KK hKK=>?_
 go_simp
 rw [HW9.out];refine hKK.out _ _ hs9 (fun _=>?_);clear hKK KK;refine wpAnyH_done (by kernel_rfl) ?_ _
 try simp only [List.getElem_toArray,List.getElem_cons_succ,List.getElem_cons_zero,Act.put,List.setIfInBounds_toArray,List.set_cons_zero,List.set_cons_succ]
 clear hs0 hs9
 go_wp2_with fail
 refine bodyPost_ret (res_path _ _ b2 _ _ _ _ _ _ _ rfl HRES.out) rfl ?_;exact HFIN.out
end Go.Proofs.YtmfakcfmkmppfaaGreatDoor.Nt
