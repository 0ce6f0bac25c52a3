import Derived.Lib.SmallJoins
import Derived.Deep.Slices
import Derived.SizedLaws
import Derived.Test.YtmfakcfmkmppfaaGreatDoorVAZ
namespace Go.Proofs.YtmfakcfmkmppfaaGreatDoor.Nt
open Go.RowKit
def WT {H:Type} (t:TypeId) (d:DataW H):Prop:=∀ n∈DataW.weights Tryz.prog t d,n<=reachBytes
theorem reachB:reachBytes=140737488351232:=by decide
theorem zo1 {H:Type} {e:TypeId}:∀ {l:List (DataW H)} {d:DataW H},d∈l->∀ n∈DataW.weights Tryz.prog e d,n∈DataW.weightsAll Tryz.prog e l
 | x :: l,d,hd,n,hn=>by
  rw [DataW.weightsAll];rcases List.mem_cons.1 hd with rfl | h
  ·exact List.mem_append_left _ hn
  ·exact List.mem_append_right _ (zo1 h n hn)
theorem wt_slice {H:Type} {tS e:TypeId} {l sp:List (DataW H)} (hu:Tryz.prog.underlying tS=some (.slice e)) (h:WT tS (.slice l sp)):l.length*Tryz.prog.bytesOf e<=reachBytes/\∀ d∈l,WT e d:=by
 have hw:DataW.weights Tryz.prog tS (.slice l sp)=(l.length+sp.length)*Tryz.prog.bytesOf e :: (DataW.weightsAll Tryz.prog e l++DataW.weightsAll Tryz.prog e sp):=by
  simp only [DataW.weights,hu]
 refine ⟨?_,fun d hd n hn=>h n ?_⟩
 ·have h1:=h ((l.length+sp.length)*Tryz.prog.bytesOf e) (by rw [hw];exact List.mem_cons_self)
  exact Nat.le_trans (Nat.mul_le_mul_right _ (Nat.le_add_right _ _)) h1
 ·rw [hw]
  exact List.mem_cons_of_mem _ (List.mem_append_left _ (zo1 hd n hn))
theorem zbe {H:Type} {t:TypeId} {fs:Array Field} {ps:List (DataW H)} (hu:Tryz.prog.underlying t=some (.struct fs)) (h:WT t (.agg ps)) {j:Nat} {f:Field} {d:DataW H} (hf:fs[j]?=some f) (hd:ps[j]?=some d):WT f.type d:=fun n hn=>by
 have hw:DataW.weights Tryz.prog t (.agg ps)=DataW.weightsEach Tryz.prog (fs.toList.map (·.type)) ps:=by
  simp only [DataW.weights,hu]
 refine h n ?_;rw [hw];exact DataW.weights_mem_each (by rw [List.getElem?_map,Array.getElem?_toList,hf];rfl) hd n hn
theorem zdo {H:Type} {t:TypeId} {b:List UInt8} (h:WT t (.lit (.string b):DataW H)):b.length<=140737488351232:=by
 have:=h b.length (by simp [DataW.weights])
 rwa [reachB] at this
theorem spotN {w:World} {a:Addr} {v:Value} (h:w.cell? a=some v):a.spot=none:=by
 unfold World.cell? at h
 split at h
 ·split at h
  ·cases h
  ·rename_i hs
   cases hh:a.spot with
   | none=>rfl
   | some s=>rw [hh] at hs;simp at hs
 ·cases h
theorem addN {a:Addr} (h:a.spot=none) (m:Nat):a.add m=⟨a.block,a.off+m,none⟩:=by
 unfold Addr.add
 split
 ·rename_i h0
  subst h0;obtain ⟨b,o,s⟩:=a;simp only at h;subst h;rfl
 ·rfl
section
variable {H:Type} {enc:TypeId×Value->H} {w:World} {sp:Nat->Bool} {held:Bool}
theorem zdd {α:Type} {tS e:TypeId} {sz by_:Nat} (x0:α) (E:α->List Value->Prop) (hu:Tryz.prog.underlying tS=some (.slice e)) (hc:Tryz.prog.cellsOf e=sz) (hb:Tryz.prog.bytesOf e=by_) (hsz:0 < sz)
  (hE:∀ (fuel:Nat) (cs:List Value) (x:DataW H×List MemPlace),DataW.trod enc Tryz.prog w 0 sp held fuel e cs=some x->WT e x.1->∃ y,E y cs)
  {fuel:Nat} {cs:List Value} {x:DataW H×List MemPlace} (hf:DataW.trod enc Tryz.prog w 0 sp held fuel tS cs=some x) (hw:WT tS x.1) :
  ∃ (p:Option Addr) (c:Nat) (L:List α),cs=[.slice p L.length c]/\L.length<=c/\L.length*by_<=140737488351232/\∀ (k:Nat) (y:α),L[k]?=some y->∃ g o cs',p=some ⟨g,o,none⟩/\E y cs'/\∀ (j:Nat) (v:Value),cs'[j]?=some v->w.cell? ⟨g,o+k*sz+j,none⟩=some v:=by
 rcases Deep.open_slice hu hf with ⟨rfl,rfl⟩ | ⟨a,len,cap,m,n,D,Pl,hcs,_,hlc,_,hm,hx,hD⟩
 ·exact ⟨none,0,[],rfl,Nat.le_refl _,by simp,fun k y hy=>by simp at hy⟩
 ·rw [hc] at hD
  have hlm:len<=m:=by rw [hm];split <;> omega
  rw [hx] at hw;obtain ⟨w1,w2⟩:=wt_slice hu hw;rw [hb,List.length_map,List.length_range,reachB] at w1;have hex:∀ i,∃ y:α,i < len->∃ cs',w.cells? 0 (a.add (i*sz)) sz=some cs'/\E y cs':=fun i=>by
   by_cases hi:i < len
   ·obtain ⟨cs',h1,h2⟩:=hD i (by omega)
    obtain ⟨y,hy⟩:=hE _ _ _ h2 (w2 (D i) (List.mem_map.2 ⟨i,List.mem_range.2 hi,rfl⟩));exact ⟨y,fun _=>⟨cs',h1,hy⟩⟩
   ·exact ⟨x0,fun h=>absurd h hi⟩
  obtain ⟨F,hF⟩:=Classical.axiomOfChoice hex;refine ⟨some a,cap,(List.range len).map F,by rw [hcs];simp,by simpa using hlc,by simpa using w1,fun k y hy=>?_⟩;rw [List.getElem?_map] at hy
  by_cases hk:k < len
  ·rw [List.getElem?_range hk] at hy
   obtain rfl:=Option.some.inj hy;have cell:∀ (i:Nat) (cs':List Value),w.cells? 0 (a.add (i*sz)) sz=some cs'->∀ (j:Nat) (v:Value),cs'[j]?=some v->w.cell? ((a.add (i*sz)).add j)=some v:=fun i cs' h1 j v hv=>by
    unfold World.cells? at h1;rw [if_pos (Nat.zero_le _)] at h1;have hl:=Lib.mapM_length h1;have hj:=(List.getElem?_eq_some_iff.1 hv).1;rw [List.length_range] at hl;obtain ⟨b,hb9,hc9⟩:=Lib.mapM_at h1 j j (List.getElem?_range (by omega));rw [hv] at hb9;rw [Option.some.inj hb9];exact hc9
   obtain ⟨cs0,h0,-⟩:=hF 0 (by omega);have hl0:cs0.length=sz:=by
    have h1:=h0;unfold World.cells? at h1;rw [if_pos (Nat.zero_le _)] at h1;have:=Lib.mapM_length h1;rw [List.length_range] at this;exact this
   obtain ⟨v0,hv0⟩:∃ v0,cs0[0]?=some v0:=⟨_,List.getElem?_eq_getElem (by omega)⟩;have h00:=cell 0 cs0 h0 0 v0 hv0;have hs:a.spot=none:=by
    have e9:(a.add (0*sz)).add 0=a:=by rw [Nat.zero_mul];rfl
    rw [e9] at h00;exact spotN h00
   obtain ⟨g,o0,s⟩:=a;simp only at hs;subst hs;obtain ⟨cs',h1,h2⟩:=hF k hk;refine ⟨g,o0,cs',rfl,h2,fun j v hv=>?_⟩;have h3:=cell k cs' h1 j v hv;rw [addN (a:=⟨g,o0,none⟩) rfl (k*sz),addN rfl j] at h3;exact h3
  ·rw [List.getElem?_eq_none (by simp;omega)] at hy
   cases hy
theorem cN0:Tryz.prog.cellsOf 3=1:=by kernel_rfl
theorem cN1:Tryz.prog.cellsOf 9=1:=by kernel_rfl
theorem cN2:Tryz.prog.cellsOf 4=1:=by kernel_rfl
theorem cN3:Tryz.prog.cellsOf 87=1:=by kernel_rfl
theorem cN4:Tryz.prog.cellsOf 35=1:=by kernel_rfl
theorem cN5:Tryz.prog.cellsOf 22=1:=by kernel_rfl
theorem cN6:Tryz.prog.cellsOf 85=1:=by kernel_rfl
theorem cN7:Tryz.prog.cellsOf 90=1:=by kernel_rfl
theorem cN8:Tryz.prog.cellsOf 23=1:=by kernel_rfl
theorem cN9:Tryz.prog.cellsOf 24=1:=by kernel_rfl
theorem cNA:Tryz.prog.cellsOf 84=4:=by kernel_rfl
theorem cNB:Tryz.prog.cellsOf 89=5:=by kernel_rfl
theorem cNC:Tryz.prog.cellsOf 93=2:=by kernel_rfl
theorem cND:Tryz.prog.cellsOf 26=4:=by kernel_rfl
theorem bN0:Tryz.prog.bytesOf 3=8:=by kernel_rfl
theorem bN1:Tryz.prog.bytesOf 9=16:=by kernel_rfl
theorem bN6:Tryz.prog.bytesOf 85=24:=by kernel_rfl
theorem bN7:Tryz.prog.bytesOf 90=24:=by kernel_rfl
theorem bNA:Tryz.prog.bytesOf 84=40:=by kernel_rfl
theorem bNB:Tryz.prog.bytesOf 89=104:=by kernel_rfl
theorem bNC:Tryz.prog.bytesOf 93=32:=by kernel_rfl
theorem zhp {fuel:Nat} {cs:List Value} {x:DataW H×List MemPlace} (hf:DataW.trod enc Tryz.prog w 0 sp held fuel 35 cs=some x) (hw:WT 35 x.1):∃ (p:Option Addr) (c:Nat) (L:List Int),cs=[.slice p L.length c]/\L.length<=c/\LI w p L/\okI L:=by
 obtain ⟨p,c,L,e,h1,h2,h3⟩:=zdd (0:Int) (fun y cs=>cs=[.int .i64 y]) Tryz.underlying35 cN0 bN0 (by decide) (fun fuel cs x hx _=>by
  obtain ⟨z,a,b,_⟩:=DataW.trod_int Tryz.underlying3 hx;exact ⟨z,a⟩) hf hw
 refine ⟨p,c,L,e,h1,fun k y hy=>?_,h2⟩;obtain ⟨g,o,cs',e1,e2,e3⟩:=h3 k y hy;subst e2;have:=e3 0 _ rfl;rw [Nat.mul_one] at this;exact ⟨g,o,e1,this⟩
theorem zgn {fuel:Nat} {cs:List Value} {x:DataW H×List MemPlace} (hf:DataW.trod enc Tryz.prog w 0 sp held fuel 87 cs=some x) (hw:WT 87 x.1):∃ (p:Option Addr) (c:Nat) (L:List (List UInt8)),cs=[.slice p L.length c]/\L.length<=c/\LS w p L/\okLs L:=by
 obtain ⟨p,c,L,e,h1,h2,h3⟩:=zdd ([]:List UInt8) (fun y cs=>cs=[.string ⟨y.toArray⟩]/\okS y) Tryz.underlying87 cN1 bN1 (by decide) (fun fuel cs x hx hwx=>by
  obtain ⟨z,a,b,_⟩:=DataW.trod_string Tryz.underlying9 hx;refine ⟨z.data.toList,a,?_⟩;have e:=congrArg Prod.fst b;simp only at e;rw [e] at hwx;exact zdo hwx) hf hw
 refine ⟨p,c,L,e,h1,fun k y hy=>?_,h2,fun y hy=>?_⟩
 ·obtain ⟨g,o,cs',e1,⟨e2,-⟩,e3⟩:=h3 k y hy
  subst e2;have:=e3 0 _ rfl;rw [Nat.mul_one] at this;exact ⟨g,o,e1,this⟩
 ·obtain ⟨k,hk⟩:=List.getElem?_of_mem hy
  obtain ⟨g,o,cs',e1,⟨e2,e4⟩,e3⟩:=h3 k y hk;exact e4
set_option maxRecDepth 100000 in
theorem zn1 {fuel:Nat} {cs:List Value} {x:DataW H×List MemPlace} (h:DataW.trod enc Tryz.prog w 0 sp held fuel 84 cs=some x) (hw:WT 84 x.1):∃ y:NP,cs=npC y/\okS y.nm:=by
 obtain ⟨xs,n,_,rfl,hl,hlen,hf⟩:=DataW.trod_struct Tryz.underlying84 h;rw [cNA] at hl
 match xs,hlen with
 | [y0,y1,y2,y3],_=>
  have g0:=hf 0 _ rfl;have g1:=hf 1 _ rfl;have g2:=hf 2 _ rfl;have g3:=hf 3 _ rfl;obtain ⟨z0,a0,b0,_⟩:=DataW.trod_string Tryz.underlying9 g0;obtain ⟨z1,a1,_,_⟩:=DataW.trod_int Tryz.underlying3 g1;obtain ⟨z2,a2,_⟩:=DataW.trod_bool Tryz.underlying4 g2;obtain ⟨z3,a3,_,_⟩:=DataW.trod_int Tryz.underlying3 g3;have w0:WT 9 y0.1:=zbe Tryz.underlying84 hw (j:=0) rfl rfl
  replace a0:(cs.drop 0).take (Tryz.prog.cellsOf 9)=[.string z0]:=a0
  replace a1:(cs.drop 1).take (Tryz.prog.cellsOf 3)=[.int .i64 z1]:=a1
  replace a2:(cs.drop 2).take (Tryz.prog.cellsOf 4)=[.bool z2]:=a2
  replace a3:(cs.drop 3).take (Tryz.prog.cellsOf 3)=[.int .i64 z3]:=a3
  rw [cN1] at a0;rw [cN0] at a1 a3;rw [cN2] at a2;clear g0 g1 g2 g3 h hf;refine ⟨⟨z0.data.toList,z1,z2,z3⟩,?_,?_⟩
  ·match cs,hl with
   | [d0,d1,d2,d3],_=>
    have e0:d0=.string z0:=by simpa using a0
    have e1:d1=.int .i64 z1:=by simpa using a1
    have e2:d2=.bool z2:=by simpa using a2
    have e3:d3=.int .i64 z3:=by simpa using a3
    rw [e0,e1,e2,e3];rfl
  ·have e:=congrArg Prod.fst b0
   simp only at e;rw [e] at w0;exact zdo w0
set_option maxRecDepth 100000 in
theorem zk9 {fuel:Nat} {cs:List Value} {x:DataW H×List MemPlace} (h:DataW.trod enc Tryz.prog w 0 sp held fuel 89 cs=some x) (hw:WT 89 x.1):∃ y:NE,(∃ pi ci pc cc po co,cs=[.string ⟨y.nm.toArray⟩,.slice pi y.ins.length ci,.slice pc y.cubes.length cc,.string ⟨y.wr.toArray⟩,.slice po y.outs.length co]/\LEL w y pi ci pc cc po co)/\okE y:=by
 obtain ⟨xs,n,_,rfl,hl,hlen,hf⟩:=DataW.trod_struct Tryz.underlying89 h;rw [cNB] at hl
 match xs,hlen with
 | [y0,y1,y2,y3,y4],_=>
  have g0:=hf 0 _ rfl;have g1:=hf 1 _ rfl;have g2:=hf 2 _ rfl;have g3:=hf 3 _ rfl;have g4:=hf 4 _ rfl;have w0:WT 9 y0.1:=zbe Tryz.underlying89 hw (j:=0) rfl rfl;have w1:WT 35 y1.1:=zbe Tryz.underlying89 hw (j:=1) rfl rfl;have w2:WT 87 y2.1:=zbe Tryz.underlying89 hw (j:=2) rfl rfl;have w3:WT 9 y3.1:=zbe Tryz.underlying89 hw (j:=3) rfl rfl;have w4:WT 35 y4.1:=zbe Tryz.underlying89 hw (j:=4) rfl rfl;obtain ⟨z0,a0,b0,_⟩:=DataW.trod_string Tryz.underlying9 g0;obtain ⟨p1,c1,L1,a1,q1,r1,o1⟩:=zhp g1 w1;obtain ⟨p2,c2,L2,a2,q2,r2,o2⟩:=zgn g2 w2;obtain ⟨z3,a3,b3,_⟩:=DataW.trod_string Tryz.underlying9 g3;obtain ⟨p4,c4,L4,a4,q4,r4,o4⟩:=zhp g4 w4
  replace a0:(cs.drop 0).take (Tryz.prog.cellsOf 9)=[.string z0]:=a0
  replace a1:(cs.drop 1).take (Tryz.prog.cellsOf 35)=[.slice p1 L1.length c1]:=a1
  replace a2:(cs.drop 2).take (Tryz.prog.cellsOf 87)=[.slice p2 L2.length c2]:=a2
  replace a3:(cs.drop 3).take (Tryz.prog.cellsOf 9)=[.string z3]:=a3
  replace a4:(cs.drop 4).take (Tryz.prog.cellsOf 35)=[.slice p4 L4.length c4]:=a4
  rw [cN1] at a0 a3;rw [cN4] at a1 a4;rw [cN3] at a2;clear g0 g1 g2 g3 g4 h hf;refine ⟨⟨z0.data.toList,L1,L2,z3.data.toList,L4⟩,⟨p1,c1,p2,c2,p4,c4,?_,r1,q1,r2,q2,r4,q4⟩,?_,o1,o2,?_,o4⟩
  ·match cs,hl with
   | [d0,d1,d2,d3,d4],_=>
    have e0:d0=.string z0:=by simpa using a0
    have e1:d1=.slice p1 L1.length c1:=by simpa using a1
    have e2:d2=.slice p2 L2.length c2:=by simpa using a2
    have e3:d3=.string z3:=by simpa using a3
    have e4:d4=.slice p4 L4.length c4:=by simpa using a4
    rw [e0,e1,e2,e3,e4]
  ·have e:=congrArg Prod.fst b0
   simp only at e;rw [e] at w0;exact zdo w0
  ·have e:=congrArg Prod.fst b3
   simp only at e;rw [e] at w3;exact zdo w3
set_option maxRecDepth 100000 in
theorem zk8 {fuel:Nat} {cs:List Value} {x:DataW H×List MemPlace} (h:DataW.trod enc Tryz.prog w 0 sp held fuel 93 cs=some x) (hw:WT 93 x.1):∃ y:NG,(∃ pc cc,cs=[.bool y.pm,.slice pc y.cubes.length cc]/\LS w pc y.cubes/\y.cubes.length<=cc)/\okLs y.cubes:=by
 obtain ⟨xs,n,_,rfl,hl,hlen,hf⟩:=DataW.trod_struct Tryz.underlying93 h;rw [cNC] at hl
 match xs,hlen with
 | [y0,y1],_=>
  have g0:=hf 0 _ rfl;have g1:=hf 1 _ rfl;have w1:WT 87 y1.1:=zbe Tryz.underlying93 hw (j:=1) rfl rfl;obtain ⟨z0,a0,_⟩:=DataW.trod_bool Tryz.underlying4 g0;obtain ⟨p1,c1,L1,a1,q1,r1,o1⟩:=zgn g1 w1
  replace a0:(cs.drop 0).take (Tryz.prog.cellsOf 4)=[.bool z0]:=a0
  replace a1:(cs.drop 1).take (Tryz.prog.cellsOf 87)=[.slice p1 L1.length c1]:=a1
  rw [cN2] at a0;rw [cN3] at a1;clear g0 g1 h hf;refine ⟨⟨z0,L1⟩,⟨p1,c1,?_,r1,q1⟩,o1⟩
  match cs,hl with
  | [d0,d1],_=>
   have e0:d0=.bool z0:=by simpa using a0
   have e1:d1=.slice p1 L1.length c1:=by simpa using a1
   rw [e0,e1]
theorem zk7 {fuel:Nat} {cs:List Value} {x:DataW H×List MemPlace} (hf:DataW.trod enc Tryz.prog w 0 sp held fuel 22 cs=some x) (hw:WT 22 x.1):∃ (p:Option Addr) (c:Nat) (L:List NP),cs=[.slice p L.length c]/\L.length<=c/\LP w p L/\L.length*40<=140737488351232/\∀ y∈L,okS y.nm:=by
 obtain ⟨p,c,L,e,h1,h2,h3⟩:=zdd np0 (fun y cs=>cs=npC y/\okS y.nm) Tryz.underlying22 cNA bNA (by decide) (fun fuel cs x hx hwx=>zn1 hx hwx) hf hw;refine ⟨p,c,L,e,h1,fun k y hy=>?_,h2,fun y hy=>?_⟩
 ·obtain ⟨g,o,cs',e1,⟨e2,-⟩,e3⟩:=h3 k y hy
  subst e2;exact ⟨g,o,e1,e3 0 _ rfl,e3 1 _ rfl,e3 2 _ rfl,e3 3 _ rfl⟩
 ·obtain ⟨k,hk⟩:=List.getElem?_of_mem hy
  obtain ⟨g,o,cs',e1,⟨e2,e4⟩,e3⟩:=h3 k y hk;exact e4
theorem zk6 {fuel:Nat} {cs:List Value} {x:DataW H×List MemPlace} (hf:DataW.trod enc Tryz.prog w 0 sp held fuel 85 cs=some x) (hw:WT 85 x.1):∃ L:List NE,(∃ p c,cs=[.slice p L.length c]/\L.length<=c/\LE w p L)/\zla L:=by
 obtain ⟨p,c,L,e,h1,h2,h3⟩:=zdd (⟨[],[],[],[],[]⟩:NE) (fun y cs=>(∃ pi ci pc cc po co,cs=[.string ⟨y.nm.toArray⟩,.slice pi y.ins.length ci,.slice pc y.cubes.length cc,.string ⟨y.wr.toArray⟩,.slice po y.outs.length co]/\LEL w y pi ci pc cc po co)/\okE y) Tryz.underlying85 cNB bNB (by decide) (fun fuel cs x hx hwx=>zk9 hx hwx) hf hw;refine ⟨L,⟨p,c,e,h1,fun k y hy=>?_⟩,h2,fun y hy=>?_⟩
 ·obtain ⟨g,o,cs',e1,⟨⟨pi,ci,pc,cc,po,co,e2,e5⟩,-⟩,e3⟩:=h3 k y hy
  subst e2;exact ⟨g,o,pi,ci,pc,cc,po,co,e1,e3 0 _ rfl,e3 1 _ rfl,e3 2 _ rfl,e3 3 _ rfl,e3 4 _ rfl,e5⟩
 ·obtain ⟨k,hk⟩:=List.getElem?_of_mem hy
  obtain ⟨g,o,cs',e1,⟨e2,e4⟩,e3⟩:=h3 k y hk;exact e4
theorem zqk {fuel:Nat} {cs:List Value} {x:DataW H×List MemPlace} (hf:DataW.trod enc Tryz.prog w 0 sp held fuel 90 cs=some x) (hw:WT 90 x.1):∃ L:List NG,(∃ p c,cs=[.slice p L.length c]/\L.length<=c/\LG w p L)/\okGl L:=by
 obtain ⟨p,c,L,e,h1,h2,h3⟩:=zdd (⟨false,[]⟩:NG) (fun y cs=>(∃ pc cc,cs=[.bool y.pm,.slice pc y.cubes.length cc]/\LS w pc y.cubes/\y.cubes.length<=cc)/\okLs y.cubes) Tryz.underlying90 cNC bNC (by decide) (fun fuel cs x hx hwx=>zk8 hx hwx) hf hw;refine ⟨L,⟨p,c,e,h1,fun k y hy=>?_⟩,h2,fun y hy=>?_⟩
 ·obtain ⟨g,o,cs',e1,⟨⟨pc,cc,e2,e5⟩,-⟩,e3⟩:=h3 k y hy
  subst e2;exact ⟨g,o,pc,cc,e1,e3 0 _ rfl,e3 1 _ rfl,e5⟩
 ·obtain ⟨k,hk⟩:=List.getElem?_of_mem hy
  obtain ⟨g,o,cs',e1,⟨e2,e4⟩,e3⟩:=h3 k y hk;exact e4
theorem zn0 {fuel:Nat} {cs:List Value} {x:DataW H×List MemPlace} (hf:DataW.trod enc Tryz.prog w 0 sp held fuel 23 cs=some x) (hw:WT 23 x.1):∃ (p:Option Addr) (c:Nat) (L:List (List NE)),cs=[.slice p L.length c]/\L.length<=c/\LT w p L/\L.length*24<=140737488351232/\∀ y∈L,zla y:=by
 obtain ⟨p,c,L,e,h1,h2,h3⟩:=zdd ([]:List NE) (fun y cs=>(∃ p c,cs=[.slice p y.length c]/\y.length<=c/\LE w p y)/\zla y) Tryz.underlying23 cN6 bN6 (by decide) (fun fuel cs x hx hwx=>zk6 hx hwx) hf hw;refine ⟨p,c,L,e,h1,fun k y hy=>?_,h2,fun y hy=>?_⟩
 ·obtain ⟨g,o,cs',e1,⟨⟨q,d,e2,e5,e6⟩,-⟩,e3⟩:=h3 k y hy
  subst e2;have:=e3 0 _ rfl;rw [Nat.mul_one] at this;exact ⟨g,o,q,d,e1,this,e6,e5⟩
 ·obtain ⟨k,hk⟩:=List.getElem?_of_mem hy
  obtain ⟨g,o,cs',e1,⟨e2,e4⟩,e3⟩:=h3 k y hk;exact e4
theorem zn2 {fuel:Nat} {cs:List Value} {x:DataW H×List MemPlace} (hf:DataW.trod enc Tryz.prog w 0 sp held fuel 24 cs=some x) (hw:WT 24 x.1):∃ (p:Option Addr) (c:Nat) (L:List (List NG)),cs=[.slice p L.length c]/\L.length<=c/\LGS w p L/\L.length*24<=140737488351232/\∀ y∈L,okGl y:=by
 obtain ⟨p,c,L,e,h1,h2,h3⟩:=zdd ([]:List NG) (fun y cs=>(∃ p c,cs=[.slice p y.length c]/\y.length<=c/\LG w p y)/\okGl y) Tryz.underlying24 cN7 bN7 (by decide) (fun fuel cs x hx hwx=>zqk hx hwx) hf hw;refine ⟨p,c,L,e,h1,fun k y hy=>?_,h2,fun y hy=>?_⟩
 ·obtain ⟨g,o,cs',e1,⟨⟨q,d,e2,e5,e6⟩,-⟩,e3⟩:=h3 k y hy
  subst e2;have:=e3 0 _ rfl;rw [Nat.mul_one] at this;exact ⟨g,o,q,d,e1,this,e6,e5⟩
 ·obtain ⟨k,hk⟩:=List.getElem?_of_mem hy
  obtain ⟨g,o,cs',e1,⟨e2,e4⟩,e3⟩:=h3 k y hk;exact e4
set_option maxRecDepth 100000 in
theorem open_net9 {fuel:Nat} {cs:List Value} {x:DataW H×List MemPlace} (h:DataW.trod enc Tryz.prog w 0 sp held fuel 26 cs=some x) (hw:WT 26 x.1):∃ (n:NN) (v:NV),cs=(nnA n v).toList/\LN w n v/\okN n:=by
 obtain ⟨xs,m,_,rfl,hl,hlen,hf⟩:=DataW.trod_struct Tryz.underlying26 h;rw [cND] at hl
 match xs,hlen with
 | [y0,y1,y2,y3],_=>
  have g0:=hf 0 _ rfl;have g1:=hf 1 _ rfl;have g2:=hf 2 _ rfl;have g3:=hf 3 _ rfl;have w1:WT 22 y1.1:=zbe Tryz.underlying26 hw (j:=1) rfl rfl;have w2:WT 23 y2.1:=zbe Tryz.underlying26 hw (j:=2) rfl rfl;have w3:WT 24 y3.1:=zbe Tryz.underlying26 hw (j:=3) rfl rfl;obtain ⟨z0,a0,_,_⟩:=DataW.trod_int Tryz.underlying3 g0;obtain ⟨p1,c1,L1,a1,q1,r1,o1,s1⟩:=zk7 g1 w1;obtain ⟨p2,c2,L2,a2,q2,r2,o2,s2⟩:=zn0 g2 w2;obtain ⟨p3,c3,L3,a3,q3,r3,o3,s3⟩:=zn2 g3 w3
  replace a0:(cs.drop 0).take (Tryz.prog.cellsOf 3)=[.int .i64 z0]:=a0
  replace a1:(cs.drop 1).take (Tryz.prog.cellsOf 22)=[.slice p1 L1.length c1]:=a1
  replace a2:(cs.drop 2).take (Tryz.prog.cellsOf 23)=[.slice p2 L2.length c2]:=a2
  replace a3:(cs.drop 3).take (Tryz.prog.cellsOf 24)=[.slice p3 L3.length c3]:=a3
  rw [cN0] at a0;rw [cN5] at a1;rw [cN8] at a2;rw [cN9] at a3;clear g0 g1 g2 g3 h hf;refine ⟨⟨z0,L1,L2,L3⟩,⟨p1,c1,p2,c2,p3,c3⟩,?_,⟨r1,q1,r2,q2,r3,q3⟩,o1,s1,o2,s2,o3,s3⟩
  match cs,hl with
  | [d0,d1,d2,d3],_=>
   have e0:d0=.int .i64 z0:=by simpa using a0
   have e1:d1=.slice p1 L1.length c1:=by simpa using a1
   have e2:d2=.slice p2 L2.length c2:=by simpa using a2
   have e3:d3=.slice p3 L3.length c3:=by simpa using a3
   rw [e0,e1,e2,e3];rfl
end
theorem cNS:Tryz.prog.cellsOf 28=2:=by kernel_rfl
section
variable {H:Type} {enc:TypeId×Value->H} {w:World} {sp:Nat->Bool} {held:Bool}
set_option maxRecDepth 100000 in
theorem open_state9 {fuel:Nat} {cs:List Value} {x:DataW H×List MemPlace} (h:DataW.trod enc Tryz.prog w 0 sp held fuel 28 cs=some x) (hw:WT 28 x.1):∃ s:Int×List UInt8,cs=[.int .i64 s.1,.string ⟨s.2.toArray⟩]/\okS s.2:=by
 obtain ⟨xs,n,_,rfl,hl,hlen,hf⟩:=DataW.trod_struct Tryz.underlying28 h;rw [cNS] at hl
 match xs,hlen with
 | [y0,y1],_=>
  have g0:=hf 0 _ rfl;have g1:=hf 1 _ rfl;obtain ⟨z0,a0,_,_⟩:=DataW.trod_int Tryz.underlying3 g0;obtain ⟨z1,a1,b1,_⟩:=DataW.trod_string Tryz.underlying9 g1;have w1:WT 9 y1.1:=zbe Tryz.underlying28 hw (j:=1) rfl rfl
  replace a0:(cs.drop 0).take (Tryz.prog.cellsOf 3)=[.int .i64 z0]:=a0
  replace a1:(cs.drop 1).take (Tryz.prog.cellsOf 9)=[.string z1]:=a1
  rw [cN0] at a0;rw [cN1] at a1;clear g0 g1 h hf;refine ⟨(z0,z1.data.toList),?_,?_⟩
  ·match cs,hl with
   | [d0,d1],_=>
    have e0:d0=.int .i64 z0:=by simpa using a0
    have e1:d1=.string z1:=by simpa using a1
    rw [e0,e1]
  ·have e:=congrArg Prod.fst b1
   simp only at e;rw [e] at w1;exact zdo w1
end
end Go.Proofs.YtmfakcfmkmppfaaGreatDoor.Nt
namespace Go.Proofs.YtmfakcfmkmppfaaGreatDoor
open Go.RowKit
def zh7 {H:Type} (zs:List (List UInt8)):DataW H:=.agg (zs.map fun z=>.lit (.string z))
theorem zi1 {H:Type} {enc:TypeId×Value->H} {P:Program} {w:World} {base:Nat} {sp:Nat->Bool} {held:Bool} {fuel:Nat} {t e:TypeId} {n:Nat} {cs:List Value} {zs:List (List UInt8)} {p:List MemPlace}
  (ht:P.underlying t=some (.array n e)) (he:P.underlying e=some .string) (hce:P.cellsOf e=1) (hct:P.cellsOf t=n)
  (h:DataW.trod enc P w base sp held fuel t cs=some (zh7 zs,p)):cs=zs.map fun z=>Value.string ⟨z.toArray⟩:=by
 cases fuel with
 | zero=>simp [DataW.trod] at h
 | succ fuel=>
  simp only [DataW.trod,ht,hce,hct,Nat.mul_one] at h
  split at h
  ·rename_i hl
   obtain ⟨xs,hm,hx⟩:=Option.map_eq_some_iff.1 h;have hxs:xs.map (·.1)=zs.map fun z=>(DataW.lit (.string z):DataW H):=by
    have:=congrArg Prod.fst hx
    simpa [zh7] using this
   have hxl:xs.length=n:=by simpa using Lib.mapM_length hm
   have hzl:zs.length=n:=by
    have:=congrArg List.length hxs;simp at this;omega
   apply List.ext_getElem?;intro i
   by_cases hi:i < n
   ·obtain ⟨b,hb,hf⟩:=Lib.mapM_at hm i i (by simp [hi])
    obtain ⟨z,hc,rfl,_⟩:=DataW.trod_string he hf;have h1:cs[i]?=some (.string z):=by
     have:=congrArg (·[0]?) hc
     simpa [List.getElem?_take,List.getElem?_drop] using this
    have h2:(xs.map (·.1))[i]?=some (DataW.lit (.string z.data.toList):DataW H):=by simp [hb]
    rw [hxs] at h2;simp only [List.getElem?_map,Option.map_eq_some_iff,DataW.lit.injEq,Lit.string.injEq] at h2;obtain ⟨z',hz',rfl⟩:=h2;simp [h1,hz']
   ·rw [List.getElem?_eq_none (by omega),List.getElem?_eq_none (by simp;omega)]
  ·cases h
theorem zjj {P:Program} {W:World} {name:String} {zs:List (List UInt8)} {rest:List (String×DataW Unit)} {g:Nat} {t e:TypeId} {n:Nat}
  (hg:P.globalNamed name=some g) (hty:(P.globals[g]?).map (·.type)=some t) (ht:P.underlying t=some (.array n e)) (he:P.underlying e=some .string) (hce:P.cellsOf e=1) (hct:P.cellsOf t=n)
  (h:laidMet P ((name,zh7 zs) :: rest) W):W.var? P name=some (zs.map fun z=>Value.string ⟨z.toArray⟩).toArray:=by
 obtain ⟨ps,⟨g',t',cs,fuel,p,q,hg',ht',hvar,hd,_,_⟩,_⟩:=h;obtain rfl:=Option.some.inj (hg.symm.trans hg');obtain rfl:=Option.some.inj (hty.symm.trans ht');rw [hvar,<-zi1 ht he hce hct hd]
end Go.Proofs.YtmfakcfmkmppfaaGreatDoor
