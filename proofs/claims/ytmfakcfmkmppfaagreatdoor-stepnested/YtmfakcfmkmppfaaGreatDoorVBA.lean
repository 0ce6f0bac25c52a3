import Derived.Test.YtmfakcfmkmppfaaGreatDoorVAZ
namespace Go.Proofs.YtmfakcfmkmppfaaGreatDoor.Nt
open Go.RowKit Go.Shelf
def IL (W:World) (p:Option Addr) (n c:Nat) (L:List Int):Prop:=L.length=n/\LI W p L/\(p=none->c=0)/\∀ a,p=some a->∃ cs fr,W.heap[a.block]?=some (.cells cs 3 fr)
theorem IL.below {W U:World} {p:Option Addr} {n c:Nat} {L:List Int} (h:IL W p n c L) (hb:Below W.heap.size W U):IL U p n c L:=⟨h.1,h.2.1.below hb,h.2.2.1,fun a e=>by obtain ⟨cs,fr,h9⟩:=h.2.2.2 a e;exact ⟨cs,fr,zae hb h9⟩⟩
theorem zcb {W:World} {B n c:Nat} {p:Option Addr} {L:List Int} (h:W.ownsRow B 3 1 (.slice p n c) n (inZ L)) (hn:L.length=n):IL W p n c L:=by
 refine ⟨hn,zk5 h hn,?_,?_⟩
 ·rcases h.2 with ⟨e,-⟩ | ⟨g,cap,cur,e,-⟩
  ·intro _
   injection e
  ·intro e9
   injection e with e1;rw [e9] at e1;cases e1
 ·intro a ea
  rcases h.2 with ⟨e,-⟩ | ⟨g,cap,cur,e,-,hg,-⟩
  ·injection e with e1
   rw [ea] at e1;cases e1
  ·injection e with e1
   rw [ea] at e1;obtain rfl:=Option.some.inj e1;exact ⟨cur,(0,0),hg⟩
theorem IL.nil (W:World):IL W none 0 0 []:=⟨rfl,fun k x hx=>by simp at hx,fun _=>rfl,fun a e=>by cases e⟩
theorem zqh {W:World} {B b T T2 s n k c:Nat} {p:Option Addr} {xs:List Value} {cs:Array Value} {fr:Nat×Nat} (h:W.ownsRow B T s (.slice p n c) k xs) (hb:W.heap[b]?=some (.cells cs T2 fr)) (hne:T≠T2):(Value.slice p n c).ownBlock≠some b:=by
 rcases h.2 with ⟨e,-⟩ | ⟨g,cap,cur,e,-,hg,-⟩
 ·rw [e];simp [Value.ownBlock]
 ·rw [e]
  intro e9;obtain rfl:g=b:=by simpa [Value.ownBlock] using e9
  rw [hg] at hb;simp only [Option.some.injEq,Obj.cells.injEq] at hb;exact hne hb.2.1
theorem IL.kp {W U:World} {p:Option Addr} {n c:Nat} {L:List Int} (h:IL W p n c L) (hk:∀ (b:Nat) (cs:Array Value) (fr:Nat×Nat),W.heap[b]?=some (.cells cs 3 fr)->U.heap[b]?=some (.cells cs 3 fr)):IL U p n c L:=by
 refine ⟨h.1,fun k x hx=>?_,h.2.2.1,fun a e=>?_⟩
 ·obtain ⟨g,o,e,hc⟩:=h.2.1 k x hx
  obtain ⟨cs,fr,h9⟩:=h.2.2.2 _ e;refine ⟨g,o,e,?_⟩;have h8:=hk _ _ _ h9;unfold World.cell? at hc ⊢;rw [show U.heap[(⟨g,o+k,none⟩:Addr).block]?=_ from h8];rw [show W.heap[(⟨g,o+k,none⟩:Addr).block]?=_ from h9] at hc;exact hc
 ·obtain ⟨cs,fr,h9⟩:=h.2.2.2 a e
  exact ⟨cs,fr,hk _ _ _ h9⟩
theorem zq5 (A B:List Int):inZ (A++B)=inZ A++inZ B:=by unfold inZ;rw [List.map_append]
theorem inZ_len (A:List Int):(inZ A).length=A.length:=by unfold inZ;rw [List.length_map]
theorem inZ_one (A:List Int):∀ u∈inZ A,u.oneCell'=true:=fun u hu=>by
 unfold inZ at hu;obtain ⟨x,-,rfl⟩:=List.mem_map.1 hu;rfl
theorem grow_i (n:Nat) (w:World) (hn:n<=1000000):Calls Tryz.prog 113 #[.slice none 0 0,.int .i64 (n:Int)] w fun e w'=>∃ q c,e=.returned (.slice q 0 c)/\w'.ownsRow w.heap.size 3 1 (.slice q 0 c) 0 []/\Below w.heap.size w w':=by
 have key:Calls Tryz.prog 113 #[.slice none 0 0,.int .i64 (n:Int)] w fun e w'=>∃ v,e=.returned v/\w'.ownsRow w.heap.size 3 1 v 0 []/\Below w.heap.size w w':=by
  by_cases h0:n=0
  ·subst h0
   refine Calls.mono (Any8.slices_Grow_room Tryz.lgr none 0 0 0 w (Nat.le_refl _) (by omega) (by omega) (by omega)) ?_;rintro e w' ⟨rfl,rfl⟩;exact ⟨_,rfl,World.ownsRow_nil _ _ _ _,Below.refl _ _⟩
  ·obtain ⟨i1,hi1,hy0,hy1,hy2⟩:=info_parts zdz
   have hb:=hy2;refine Calls.mono (Any8.slices_Grow_grow Tryz.lgr i1 _ hi1 hy0 (by rw [hy1];decide) none 0 0 n [] w (Nat.le_refl _) (by omega) (by rw [hy2];omega) (by omega) (by simp) (fun _=>rfl) (fun a h=>by cases h)) ?_;rintro e w' ⟨rfl,rfl⟩;have hG:=grownCap_ge w (0+n) 0 3;refine ⟨_,rfl,?_,(zah (Below.refl _ _).drew _)⟩;have hm:grownCap w (0+n) 0 3<=maxLen:=grownCap_le_maxLen w (0+n) 0 3 (by unfold maxLen;omega);refine World.ownsRow_made (e:=3) (base:=w.heap.size) (size:=1) w.drew _ _ (Nat.le_refl _) hm ?_;obtain ⟨G,hGG⟩:=ex (grownCap w (0+n) 0 3);rw [hGG] at hG hm;have hzc:(Value.cells (.int .i64 0)).size=1:=rfl;show ((#[]:Array Value)++Builtin.zeroCells (Value.cells (.int .i64 0)) (0+n - 0)++Builtin.zeroCells (Value.cells (.int .i64 0)) (grownCap w (0+n) 0 3 - (0+n))).size=grownCap w (0+n) 0 3*1;rw [hGG,Array.size_append,Array.size_append,size_zeroCells,size_zeroCells,hzc];show 0+(0+n - 0)*1+(G - (0+n))*1=G*1;omega
 refine key.mono ?_;rintro e w' ⟨v,rfl,ho,hb⟩;obtain ⟨q,c,rfl⟩:∃ q c,v=.slice q 0 c:=zec ho;exact ⟨q,c,rfl,ho,hb⟩
set_option maxRecDepth 100000 in
set_option maxHeartbeats 16000000 in
theorem zm2 (L1 L2:List Int) (p1 p2:Option Addr) (n1 c1 n2 c2 n9 g:Nat) (w:World) (h1:IL w p1 n1 c1 L1) (h2:IL w p2 n2 c2 L2) (hN1:n1<=1000) (hN2:n2<=1000) (h9:n1+n2=n9) (hg:w.heap[g]?=some (.cells #[.slice p1 n1 c1,.slice p2 n2 c2] 35 (0,0))) :
  Calls Tryz.prog 99 #[.slice (some ⟨g,0,none⟩) 2 2] w fun e w'=>∃ q c,e=.returned (.slice q n9 c)/\w'.ownsRow w.heap.size 3 1 (.slice q n9 c) n9 (inZ (L1++L2))/\Below w.heap.size w w':=by
 obtain ⟨i0,hi,hz0,hz1,hz2⟩:=info_parts zdz;have HI:Hid (∀ U,Below w.heap.size w U->IL U p1 n1 c1 L1/\IL U p2 n2 c2 L2/\U.cell? ⟨g,0,none⟩=some (.slice p1 n1 c1)/\U.cell? ⟨g,1,none⟩=some (.slice p2 n2 c2)):=fun U hU=>by
  have e1:=(zaf (zae hU hg)).1;exact ⟨h1.below hU,h2.below hU,by rw [e1];rfl,by rw [e1];rfl⟩
 have HG:Hid (∀ U,Calls Tryz.prog 113 #[.slice none 0 0,.int .i64 ((n1:Int)+(n2:Int))] U fun e w'=>∃ q c,e=.returned (.slice q 0 c)/\w'.ownsRow U.heap.size 3 1 (.slice q 0 c) 0 []/\Below U.heap.size U w'):=fun U=>by
  have h:=grow_i (n1+n2) U (by omega);rw [show ((n1+n2:Nat):Int)=(n1:Int)+(n2:Int) by omega] at h;exact h
 have H9:Hid (n1+n2=n9):=h9;have app:∀ (U:World) (q:Option Addr) (m c m9:Nat) (X L:List Int) (p:Option Addr) (k d:Nat),U.ownsRow w.heap.size 3 1 (.slice q m c) m (inZ X)->Below w.heap.size w U->IL U p k d L->m+k=m9->m9<=2000->
   ∃ q9 c9 W9,(Builtin.append_ #[35,35] 35 #[.slice q m c,.slice p k d]).run Tryz.prog U=.ok (.slice q9 m9 c9) W9/\W9.ownsRow w.heap.size 3 1 (.slice q9 m9 c9) m9 (inZ (X++L))/\Below w.heap.size w W9:=fun U q m c m9 X L p k d ho hb hl e hm=>by
  obtain ⟨q9,c9,W9,hr,o9,b9,-⟩:=appS (W:=U) (T:=3) (TS:=35) (news:=inZ L) (p2:=p) (m:=k) (c2:=d) Tryz.underlying35 hi hz0 hz1 hz2 rfl (by decide) ho hb.size (fun ad e9 j u hu=>by
   subst e9;rw [<-zew] at hu;exact RowL.news zlj (by decide) (zgq hl.2.1) j u hu) (fun e9=>by
   subst e9;have hz:L=[]:=by
    cases hc:L with
    | nil=>rfl
    | cons t l=>
     obtain ⟨g,o0,e,-⟩:=hl.2.1 0 t (by rw [hc];rfl);cases e
   have hk:=hl.1;rw [hz] at hk;exact ⟨hk.symm,hl.2.2.1 rfl,by rw [hz];rfl⟩) (by rw [inZ_len,hl.1,Nat.mul_one]) (inZ_one L) e (by omega) (by omega)
  refine ⟨q9,c9,W9,hr,?_,hb.trans b9⟩;rw [zq5];exact o9
 have HA:=zab app;clear h1 h2 hg app h9;have f1:¬((n1:Int) < 0):=by omega
 have f2:¬((n1:Int)+(n2:Int) < 0):=by omega
 go_enter Tryz.func99,Tryz.ntmps99
 go_wp2_with fail
 go_loopw [3,11] (fun v3 v11 wr=>∃ k:Nat,v3=.int .i64 (match k with | 0=>0 | 1=>(n1:Int) | _=>(n1:Int)+(n2:Int))/\v11=.int .i64 k/\k<=2/\w=wr) (fun _ v11 _=>2 - (intOf v11).toNat)
 case atStart=>exact ⟨0,rfl,rfl,by omega,rfl⟩
 case round=>
  obtain ⟨k,rfl,rfl,hk,rfl⟩:=hrel;obtain ⟨-,-,q1,q2⟩:=HI.out w (Below.refl _ _);rcases (show k=0∨k=1∨k=2 by omega) with rfl | rfl | rfl
  ·go_wp2_with fail
   go_roundw
   case rel=>exact ⟨1,by go_num,by go_num,by omega,trivial⟩
   case measure=>simp [intOf]
  ·go_wp2_with fail
   go_roundw
   case rel=>exact ⟨2,by go_num,by go_num,by omega,trivial⟩
   case measure=>simp [intOf]
  ·go_wp2_with fail
   refine (HG.out _).mono ?_;rintro e w4 ⟨q4,c4,rfl,o4,hb4⟩;have HO4:Hid (w4.ownsRow w.heap.size 3 1 (.slice q4 0 c4) 0 (inZ [])/\Below w.heap.size w w4):=⟨o4,hb4⟩;clear o4 hb4 q1 q2
   go_wp2_with fail
   go_loopw [6,27] (fun v6 v27 wr=>∃ (k m c:Nat) (q:Option Addr),v6=.slice q m c/\v27=.int .i64 k/\k<=2/\Hid (m=(match k with | 0=>0 | 1=>n1 | _=>n1+n2)/\wr.ownsRow w.heap.size 3 1 (.slice q m c) m (inZ (match k with | 0=>[] | 1=>L1 | _=>L1++L2))/\Below w.heap.size w wr)) (fun _ v27 _=>2 - (intOf v27).toNat)
   case atStart=>exact ⟨0,0,c4,q4,rfl,rfl,by omega,rfl,HO4.out⟩
   case round=>
    clear HO4;obtain ⟨k,m,c,q,rfl,rfl,hk,hO⟩:=hrel;obtain ⟨i1,i2,k1,k2⟩:=HI.out wr hO.out.2.2;rcases (show k=0∨k=1∨k=2 by omega) with rfl | rfl | rfl
    ·obtain ⟨q9,c9,W9,hr9,o9,b9⟩:=HA.out wr q m c n1 [] L1 p1 n1 c1 hO.out.2.1 hO.out.2.2 i1 (by have h1:=hO.out.1;simp only at h1;omega) (by omega)
     have HO2:Hid (n1=n1/\W9.ownsRow w.heap.size 3 1 (.slice q9 n1 c9) n1 (inZ L1)/\Below w.heap.size w W9):=⟨rfl,o9,b9⟩;clear i1 i2 hO o9 b9 k2
     go_wp2_with (at_builtin;refine za3 rfl _ _ _ rfl rfl rfl hr9 ?_)
     go_roundw
     case rel=>exact ⟨1,n1,c9,q9,rfl,by go_num,by omega,HO2⟩
     case measure=>simp [intOf]
    ·obtain ⟨q9,c9,W9,hr9,o9,b9⟩:=HA.out wr q m c n9 L1 L2 p2 n2 c2 hO.out.2.1 hO.out.2.2 i2 (by have h1:=hO.out.1;have h2:=H9.out;simp only at h1;omega) (by have:=H9.out;omega)
     have HO2:Hid (n9=n1+n2/\W9.ownsRow w.heap.size 3 1 (.slice q9 n9 c9) n9 (inZ (L1++L2))/\Below w.heap.size w W9):=⟨H9.out.symm,o9,b9⟩;clear i1 i2 hO o9 b9 k1
     go_wp2_with (at_builtin;refine za3 rfl _ _ _ rfl rfl rfl hr9 ?_)
     go_roundw
     case rel=>exact ⟨2,n9,c9,q9,rfl,by go_num,by omega,HO2⟩
     case measure=>simp [intOf]
    ·have HO2:Hid (m=n9/\wr.ownsRow w.heap.size 3 1 (.slice q m c) m (inZ (L1++L2))/\Below w.heap.size w wr):=⟨hO.out.1.trans H9.out,hO.out.2⟩
     clear i1 i2 hO k1 k2
     go_wp2_with fail
     go_ret
     obtain ⟨rfl,h9⟩:=HO2.out;exact ⟨q,c,rfl,h9⟩
theorem zmn {L:List Int} {k:Nat} (h:L.length=k+1):L[k]?=some (L.getLastD 0):=by
 rw [List.getLastD_eq_getLast?,List.getLast?_eq_getElem?,h,Nat.add_sub_cancel];cases hc:L[k]? with
 | none=>rw [List.getElem?_eq_none_iff] at hc;omega
 | some x=>rfl
structure WV where
 pp:Option Addr
 cp:Nat
 pe:Option Addr
 ce:Nat
def wyC (x:WY×WV):List Value:=.slice x.2.pp x.1.ps.length x.2.cp :: .slice x.2.pe x.1.es.length x.2.ce :: zcp x.1.hd
theorem wyC_len (x:WY×WV):(wyC x).length=11:=rfl
theorem wyC_one (x:WY×WV):∀ u∈wyC x,u.oneCell'=true:=fun u hu=>by
 unfold wyC at hu;rcases List.mem_cons.1 hu with rfl | hu
 ·rfl
 rcases List.mem_cons.1 hu with rfl | hu
 ·rfl
 exact zf5 _ u hu
def WL (W:World) (x:WY×WV):Prop:=IL W x.2.pp x.1.ps.length x.2.cp x.1.ps/\IL W x.2.pe x.1.es.length x.2.ce x.1.es/\x.1.ps.length<=x.2.cp
theorem WL.below {W U:World} {x:WY×WV} (h:WL W x) (hb:Below W.heap.size W U):WL U x:=⟨h.1.below hb,h.2.1.below hb,h.2.2⟩
theorem zbh {W:World} {B T s n c:Nat} {p:Option Addr} {xs:List Value} (h:W.ownsRow B T s (.slice p n c) n xs):n<=c:=by
 rcases h.2 with ⟨e,-⟩ | ⟨g,cap,cur,e,-,-,hn,-⟩
 ·injection e with e1 e2 e3
  omega
 ·injection e with e1 e2 e3
  omega
theorem za9 {ps es:List Int} {hd:List UInt8} {pp pe:Option Addr} {cp ce np ne:Nat} {a0 a1 a2 a3 a4 a5 a6 a7 a8:Int} (h9:C9 hd a0 a1 a2 a3 a4 a5 a6 a7 a8) (hp:ps.length=np) (he:es.length=ne):(wyC (⟨ps,es,hd⟩,⟨pp,cp,pe,ce⟩)).toArray=#[.slice pp np cp,.slice pe ne ce,.int .i64 a0,.int .u64 a1,.int .u64 a2,.int .u64 a3,.int .u64 a4,.int .u64 a5,.int .u64 a6,.int .u64 a7,.int .u64 a8]:=by
 show (Value.slice pp ps.length cp :: Value.slice pe es.length ce :: zcp hd).toArray=_;rw [show zcp hd=_ from h9,hp,he]
theorem put11 {W:World} {b T:Nat} {u0 u1 u2 u3 u4 u5 u6 u7 u8 u9 u10:Value} {m:Nat×Nat} (v0 v1 v2 v3 v4 v5 v6 v7 v8 v9 v10:Value) (h:W.heap[b]?=some (.cells #[u0,u1,u2,u3,u4,u5,u6,u7,u8,u9,u10] T m)):(((((((((((W.setCell ⟨b,0,none⟩ (v0)).setCell ⟨b,1,none⟩ (v1)).setCell ⟨b,2,none⟩ (v2)).setCell ⟨b,3,none⟩ (v3)).setCell ⟨b,4,none⟩ (v4)).setCell ⟨b,5,none⟩ (v5)).setCell ⟨b,6,none⟩ (v6)).setCell ⟨b,7,none⟩ (v7)).setCell ⟨b,8,none⟩ (v8)).setCell ⟨b,9,none⟩ (v9)).setCell ⟨b,10,none⟩ (v10)).heap[b]?=some (.cells #[v0,v1,v2,v3,v4,v5,v6,v7,v8,v9,v10] T m):=
 ((zag _ (zag _ (zag _ (zag _ (zag _ (zag _ (zag _ (zag _ (zag _ (zag _ (zag _ h)))))))))))).trans (by simp)
theorem zmd {w W:World} {b:Nat} (v0 v1 v2 v3 v4 v5 v6 v7 v8 v9 v10:Value) (h0:Below w.heap.size w W) (hle:w.heap.size<=b):Below w.heap.size w (((((((((((W.setCell ⟨b,0,none⟩ (v0)).setCell ⟨b,1,none⟩ (v1)).setCell ⟨b,2,none⟩ (v2)).setCell ⟨b,3,none⟩ (v3)).setCell ⟨b,4,none⟩ (v4)).setCell ⟨b,5,none⟩ (v5)).setCell ⟨b,6,none⟩ (v6)).setCell ⟨b,7,none⟩ (v7)).setCell ⟨b,8,none⟩ (v8)).setCell ⟨b,9,none⟩ (v9)).setCell ⟨b,10,none⟩ (v10)):=
 (((((((((((h0.setCell hle _).setCell hle _).setCell hle _).setCell hle _).setCell hle _).setCell hle _).setCell hle _).setCell hle _).setCell hle _).setCell hle _).setCell hle _)
theorem zmc {W:World} {b b':Nat} (v0 v1 v2 v3 v4 v5 v6 v7 v8 v9 v10:Value) (h:b'≠b):(((((((((((W.setCell ⟨b,0,none⟩ (v0)).setCell ⟨b,1,none⟩ (v1)).setCell ⟨b,2,none⟩ (v2)).setCell ⟨b,3,none⟩ (v3)).setCell ⟨b,4,none⟩ (v4)).setCell ⟨b,5,none⟩ (v5)).setCell ⟨b,6,none⟩ (v6)).setCell ⟨b,7,none⟩ (v7)).setCell ⟨b,8,none⟩ (v8)).setCell ⟨b,9,none⟩ (v9)).setCell ⟨b,10,none⟩ (v10)).heap[b']?=W.heap[b']?:=by
 rw [zby _ _ _ _ _ h,zby _ _ _ _ _ h,zby _ _ _ _ _ h,zby _ _ _ _ _ h,zby _ _ _ _ _ h,zby _ _ _ _ _ h,zby _ _ _ _ _ h,zby _ _ _ _ _ h,zby _ _ _ _ _ h,zby _ _ _ _ _ h,zby _ _ _ _ _ h]
theorem put3 {W:World} {b T:Nat} {u0 u1 u2:Value} {m:Nat×Nat} (v0 v1 v2:Value) (h:W.heap[b]?=some (.cells #[u0,u1,u2] T m)):(((W.setCell ⟨b,0,none⟩ (v0)).setCell ⟨b,1,none⟩ (v1)).setCell ⟨b,2,none⟩ (v2)).heap[b]?=some (.cells #[v0,v1,v2] T m):=
 ((zag _ (zag _ (zag _ h)))).trans (by simp)
theorem zk0 {w W:World} {b:Nat} (v0 v1 v2:Value) (h0:Below w.heap.size w W) (hle:w.heap.size<=b):Below w.heap.size w (((W.setCell ⟨b,0,none⟩ (v0)).setCell ⟨b,1,none⟩ (v1)).setCell ⟨b,2,none⟩ (v2)):=
 (((h0.setCell hle _).setCell hle _).setCell hle _)
theorem put3f {W:World} {b b':Nat} (v0 v1 v2:Value) (h:b'≠b):(((W.setCell ⟨b,0,none⟩ (v0)).setCell ⟨b,1,none⟩ (v1)).setCell ⟨b,2,none⟩ (v2)).heap[b']?=W.heap[b']?:=by
 rw [zby _ _ _ _ _ h,zby _ _ _ _ _ h,zby _ _ _ _ _ h]
theorem res_last (tmps:Array Value) (W:World) (b:Nat) (p a0 a1 a2 a3 a4 a5 a6 a7 a8:Int) (h:tmps[2]?.getD undef=.pointer (some ⟨b,0,none⟩)) (hb:W.heap[b]?=some (.cells #[.int .i64 p,.int .i64 a0,.int .u64 a1,.int .u64 a2,.int .u64 a3,.int .u64 a4,.int .u64 a5,.int .u64 a6,.int .u64 a7,.int .u64 a8] 75 (0,0))) :
  (results Tryz.f75 tmps).run Tryz.prog W=.ok (.agg #[.int .i64 p,.int .i64 a0,.int .u64 a1,.int .u64 a2,.int .u64 a3,.int .u64 a4,.int .u64 a5,.int .u64 a6,.int .u64 a7,.int .u64 a8]) W:=by
 have h1:=(zaf hb).1;have c0:=h1 0;have c1:=h1 1;have c2:=h1 2;have c3:=h1 3;have c4:=h1 4;have c5:=h1 5;have c6:=h1 6;have c7:=h1 7;have c8:=h1 8;have c9:=h1 9;simp at c0 c1 c2 c3 c4 c5 c6 c7 c8 c9;simp [results,h,c0,c1,c2,c3,c4,c5,c6,c7,c8,c9,go_sem]
theorem zpv (tmps:Array Value) (W:World) (b:Nat) (pp pe:Option Addr) (np cp ne ce:Nat) (a0 a1 a2 a3 a4 a5 a6 a7 a8:Int) (h:tmps[2]?.getD undef=.pointer (some ⟨b,0,none⟩)) (hb:W.heap[b]?=some (.cells #[.slice pp np cp,.slice pe ne ce,.int .i64 a0,.int .u64 a1,.int .u64 a2,.int .u64 a3,.int .u64 a4,.int .u64 a5,.int .u64 a6,.int .u64 a7,.int .u64 a8] 72 (0,0))) :
  (results Tryz.f28 tmps).run Tryz.prog W=.ok (.agg #[.slice pp np cp,.slice pe ne ce,.int .i64 a0,.int .u64 a1,.int .u64 a2,.int .u64 a3,.int .u64 a4,.int .u64 a5,.int .u64 a6,.int .u64 a7,.int .u64 a8]) W:=by
 have h1:=(zaf hb).1;have c0:=h1 0;have c1:=h1 1;have c2:=h1 2;have c3:=h1 3;have c4:=h1 4;have c5:=h1 5;have c6:=h1 6;have c7:=h1 7;have c8:=h1 8;have c9:=h1 9;have c10:=h1 10;simp at c0 c1 c2 c3 c4 c5 c6 c7 c8 c9 c10;simp [results,h,c0,c1,c2,c3,c4,c5,c6,c7,c8,c9,c10,go_sem]
theorem res_to (tmps:Array Value) (W:World) (b:Nat) (pp pe:Option Addr) (np cp ne ce:Nat) (a0 a1 a2 a3 a4 a5 a6 a7 a8:Int) (h:tmps[6]?.getD undef=.pointer (some ⟨b,0,none⟩)) (hb:W.heap[b]?=some (.cells #[.slice pp np cp,.slice pe ne ce,.int .i64 a0,.int .u64 a1,.int .u64 a2,.int .u64 a3,.int .u64 a4,.int .u64 a5,.int .u64 a6,.int .u64 a7,.int .u64 a8] 72 (0,0))) :
  (results Tryz.f84 tmps).run Tryz.prog W=.ok (.agg #[.slice pp np cp,.slice pe ne ce,.int .i64 a0,.int .u64 a1,.int .u64 a2,.int .u64 a3,.int .u64 a4,.int .u64 a5,.int .u64 a6,.int .u64 a7,.int .u64 a8]) W:=by
 have h1:=(zaf hb).1;have c0:=h1 0;have c1:=h1 1;have c2:=h1 2;have c3:=h1 3;have c4:=h1 4;have c5:=h1 5;have c6:=h1 6;have c7:=h1 7;have c8:=h1 8;have c9:=h1 9;have c10:=h1 10;simp at c0 c1 c2 c3 c4 c5 c6 c7 c8 c9 c10;simp [results,h,c0,c1,c2,c3,c4,c5,c6,c7,c8,c9,c10,go_sem]
theorem res_path (tmps:Array Value) (W:World) (b:Nat) (p q:Option Addr) (np cp ne ce:Nat) (t:List UInt8) (h:tmps[2]?.getD undef=.pointer (some ⟨b,0,none⟩)) (hb:W.heap[b]?=some (.cells #[.slice p np cp,.slice q ne ce,.string ⟨t.toArray⟩] 37 (0,0))) :
  (results Tryz.f61 tmps).run Tryz.prog W=.ok (.agg #[.slice p np cp,.slice q ne ce,.string ⟨t.toArray⟩]) W:=by
 have h1:=(zaf hb).1;have c0:=h1 0;have c1:=h1 1;have c2:=h1 2;simp at c0 c1 c2;simp [results,h,c0,c1,c2,go_sem]
set_option maxRecDepth 100000 in
set_option maxHeartbeats 16000000 in
theorem zmo (x:WY×WV) (w:World) (hL:WL w x) (hne:x.1.ps≠[]) (hN:x.1.ps.length<=1000) :
  Calls Tryz.prog 75 #[.agg (wyC x).toArray] w fun e w'=>e=.returned (.agg (stC x.1.last).toArray)/\Below w.heap.size w w':=by
 obtain ⟨⟨ps,es,hd⟩,⟨pp,cp,pe,ce⟩⟩:=x;obtain ⟨a0,a1,a2,a3,a4,a5,a6,a7,a8,h9⟩:=zbz hd;obtain ⟨np,hnp⟩:=ex ps.length;obtain ⟨ne,hne9⟩:=ex es.length;rw [za9 h9 hnp hne9];simp only at hne hN;obtain ⟨p,hp⟩:=ex (ps.getLastD 0);have hst:(stC (WY.last ⟨ps,es,hd⟩)).toArray=#[.int .i64 p,.int .i64 a0,.int .u64 a1,.int .u64 a2,.int .u64 a3,.int .u64 a4,.int .u64 a5,.int .u64 a6,.int .u64 a7,.int .u64 a8]:=by
  show (stC (ps.getLastD 0,hd)).toArray=_;rw [zbf h9,hp]
 show Calls _ _ _ _ fun e w'=>e=.returned (.agg (stC (WY.last ⟨ps,es,hd⟩)).toArray)/\_;rw [hst];obtain ⟨k,hk⟩:∃ k,np=k+1:=by
  cases hc:ps with
  | nil=>exact absurd hc hne
  | cons a l=>exact ⟨l.length,by rw [<-hnp,hc];rfl⟩
 have hpk:ps[k]?=some p:=by
  rw [<-hp];exact zmn (by rw [hnp,hk])
 obtain ⟨g,o,e0,cl⟩:=hL.1.2.1 k p hpk;simp only at e0;subst e0;have hgw:g < w.heap.size:=World.block_lt_of_cell? w _ cl;obtain ⟨b,hb⟩:=ex w.heap.size;obtain ⟨b2,hb2⟩:=ex (w.heap.size+1);obtain ⟨W1,hW1⟩:=ex ((w.alloc (.cells #[.slice (some ⟨g,o,none⟩) np cp,.slice pe ne ce,.int .i64 a0,.int .u64 a1,.int .u64 a2,.int .u64 a3,.int .u64 a4,.int .u64 a5,.int .u64 a6,.int .u64 a7,.int .u64 a8] 72)).alloc (.cells #[.int .i64 0,.int .i64 0,.int .u64 0,.int .u64 0,.int .u64 0,.int .u64 0,.int .u64 0,.int .u64 0,.int .u64 0,.int .u64 0] 75));have hz1:(w.alloc (.cells #[.slice (some ⟨g,o,none⟩) np cp,.slice pe ne ce,.int .i64 a0,.int .u64 a1,.int .u64 a2,.int .u64 a3,.int .u64 a4,.int .u64 a5,.int .u64 a6,.int .u64 a7,.int .u64 a8] 72)).heap.size=w.heap.size+1:=Array.size_push _;have b1:Below w.heap.size w W1:=by rw [<-hW1];exact zah (zah (Below.refl _ _) _) _
 have kb:W1.heap[b]?=some (.cells #[.slice (some ⟨g,o,none⟩) np cp,.slice pe ne ce,.int .i64 a0,.int .u64 a1,.int .u64 a2,.int .u64 a3,.int .u64 a4,.int .u64 a5,.int .u64 a6,.int .u64 a7,.int .u64 a8] 72 (0,0)):=by rw [<-hW1,<-hb];exact zae (zah (Below.refl _ _) _) (zaa _ _)
 have kb2:W1.heap[b2]?=some (.cells #[.int .i64 0,.int .i64 0,.int .u64 0,.int .u64 0,.int .u64 0,.int .u64 0,.int .u64 0,.int .u64 0,.int .u64 0,.int .u64 0] 75 (0,0)):=by rw [<-hW1,<-hb2,<-hz1];exact zaa _ _
 have HS:Hid (∀ U,Below W1.heap.size W1 U->(U.cell? ⟨b,0,none⟩=some (.slice (some ⟨g,o,none⟩) np cp)/\U.cell? ⟨b,1,none⟩=some (.slice pe ne ce)/\U.cell? ⟨b,2,none⟩=some (.int .i64 a0)/\U.cell? ⟨b,3,none⟩=some (.int .u64 a1)/\U.cell? ⟨b,4,none⟩=some (.int .u64 a2)/\U.cell? ⟨b,5,none⟩=some (.int .u64 a3)/\U.cell? ⟨b,6,none⟩=some (.int .u64 a4)/\U.cell? ⟨b,7,none⟩=some (.int .u64 a5)/\U.cell? ⟨b,8,none⟩=some (.int .u64 a6)/\U.cell? ⟨b,9,none⟩=some (.int .u64 a7)/\U.cell? ⟨b,10,none⟩=some (.int .u64 a8))/\U.cell? ⟨g,o+k,none⟩=some (.int .i64 p)):=fun U hU=>by
  have e1:=(zaf (zae hU kb)).1;exact ⟨⟨by rw [e1];rfl,by rw [e1];rfl,by rw [e1];rfl,by rw [e1];rfl,by rw [e1];rfl,by rw [e1];rfl,by rw [e1];rfl,by rw [e1];rfl,by rw [e1];rfl,by rw [e1];rfl,by rw [e1];rfl⟩,zao (zac b1 hU) cl⟩
 have HK:Hid (W1.drew.heap[b2]?=some (.cells #[.int .i64 0,.int .i64 0,.int .u64 0,.int .u64 0,.int .u64 0,.int .u64 0,.int .u64 0,.int .u64 0,.int .u64 0,.int .u64 0] 75 (0,0))/\Below w.heap.size w W1.drew/\w.heap.size<=b2/\b≠b2/\g≠b2):=⟨zae (Below.refl _ _).drew kb2,b1.drew,by omega,by omega,by omega⟩;have HB:=zab hb;have HB2:=zab hb2;have HW:=zab hW1;have HB1:=zab b1;have ek:IntKind.i64.wrap ((np:Int) - 1)=(k:Int):=by rw [IntKind.wrap_i64];omega
 have j0:(0:Int)<=(k:Int):=by omega
 have j1:(k:Int) < (np:Int):=by omega
 have hs0:=HS.out W1.drew (Below.refl _ _).drew;clear hW1 b1 hb kb hb2 kb2 hz1 hL hne hN h9 hnp hne9 hp hst hpk cl hk hgw
 go_enter Tryz.func75,Tryz.ntmps75
 go_upto_region 1 with fail
 rw [HW.out,HB2.out,HB.out];refine wp_region_held_drew (S:=fun U=>(U.cell? ⟨b,0,none⟩=some (.slice (some ⟨g,o,none⟩) np cp)/\U.cell? ⟨b,1,none⟩=some (.slice pe ne ce)/\U.cell? ⟨b,2,none⟩=some (.int .i64 a0)/\U.cell? ⟨b,3,none⟩=some (.int .u64 a1)/\U.cell? ⟨b,4,none⟩=some (.int .u64 a2)/\U.cell? ⟨b,5,none⟩=some (.int .u64 a3)/\U.cell? ⟨b,6,none⟩=some (.int .u64 a4)/\U.cell? ⟨b,7,none⟩=some (.int .u64 a5)/\U.cell? ⟨b,8,none⟩=some (.int .u64 a6)/\U.cell? ⟨b,9,none⟩=some (.int .u64 a7)/\U.cell? ⟨b,10,none⟩=some (.int .u64 a8))/\U.cell? ⟨g,o+k,none⟩=some (.int .i64 p)) (by kernel_rfl) hs0 (fun _=>?_);obtain ⟨D,hD⟩:=ex W1.drew;rw [hD] at hs0 ⊢;have HKD:=HK.out;rw [hD] at HKD;clear hD;refine tk 0 (.pointer (some ⟨b,0,none⟩)) rfl hs0 ?_ ?_
 ·rintro U ⟨⟨r0,r1,r2,r3,r4,r5,r6,r7,r8,r9,r10⟩,rl⟩;go_simp
 refine tk 1 (.slice (some ⟨g,o,none⟩) np cp) rfl hs0 ?_ ?_
 ·rintro U ⟨⟨r0,r1,r2,r3,r4,r5,r6,r7,r8,r9,r10⟩,rl⟩;go_simp
 refine tk 2 (.pointer (some ⟨b,0,none⟩)) rfl hs0 ?_ ?_
 ·rintro U ⟨⟨r0,r1,r2,r3,r4,r5,r6,r7,r8,r9,r10⟩,rl⟩;go_simp
 refine tk 3 (.slice (some ⟨g,o,none⟩) np cp) rfl hs0 ?_ ?_
 ·rintro U ⟨⟨r0,r1,r2,r3,r4,r5,r6,r7,r8,r9,r10⟩,rl⟩;go_simp
 refine tk 4 (.int .i64 (np:Int)) rfl hs0 ?_ ?_
 ·rintro U ⟨⟨r0,r1,r2,r3,r4,r5,r6,r7,r8,r9,r10⟩,rl⟩;go_simp
 refine tk 5 (.int .i64 (k:Int)) rfl hs0 ?_ ?_
 ·rintro U ⟨⟨r0,r1,r2,r3,r4,r5,r6,r7,r8,r9,r10⟩,rl⟩;go_simp
 refine tk 6 (.pointer (some ⟨g,o+k,none⟩)) rfl hs0 ?_ ?_
 ·rintro U ⟨⟨r0,r1,r2,r3,r4,r5,r6,r7,r8,r9,r10⟩,rl⟩;go_simp
 refine tk 7 (.int .i64 p) rfl hs0 ?_ ?_
 ·rintro U ⟨⟨r0,r1,r2,r3,r4,r5,r6,r7,r8,r9,r10⟩,rl⟩;go_simp
 refine tk 8 (.pointer (some ⟨b,2,none⟩)) rfl hs0 ?_ ?_
 ·rintro U ⟨⟨r0,r1,r2,r3,r4,r5,r6,r7,r8,r9,r10⟩,rl⟩;go_simp
 refine tk 9 (.agg #[.int .i64 a0,.int .u64 a1,.int .u64 a2,.int .u64 a3,.int .u64 a4,.int .u64 a5,.int .u64 a6,.int .u64 a7,.int .u64 a8]) rfl hs0 ?_ ?_
 ·rintro U ⟨⟨r0,r1,r2,r3,r4,r5,r6,r7,r8,r9,r10⟩,rl⟩;go_simp
 refine tk 10 (.agg #[.int .i64 p,.int .i64 a0,.int .u64 a1,.int .u64 a2,.int .u64 a3,.int .u64 a4,.int .u64 a5,.int .u64 a6,.int .u64 a7,.int .u64 a8]) rfl hs0 ?_ ?_
 ·rintro U ⟨⟨r0,r1,r2,r3,r4,r5,r6,r7,r8,r9,r10⟩,rl⟩;go_simp
 have hz:=zaf HKD.1;have z0:D.cell? ⟨b2,0,none⟩=some (.int .i64 0):=by rw [hz.1];rfl
 have f0:=hz.2 0;have z1:D.cell? ⟨b2,1,none⟩=some (.int .i64 0):=by rw [hz.1];rfl
 have f1:=hz.2 1;have z2:D.cell? ⟨b2,2,none⟩=some (.int .u64 0):=by rw [hz.1];rfl
 have f2:=hz.2 2;have z3:D.cell? ⟨b2,3,none⟩=some (.int .u64 0):=by rw [hz.1];rfl
 have f3:=hz.2 3;have z4:D.cell? ⟨b2,4,none⟩=some (.int .u64 0):=by rw [hz.1];rfl
 have f4:=hz.2 4;have z5:D.cell? ⟨b2,5,none⟩=some (.int .u64 0):=by rw [hz.1];rfl
 have f5:=hz.2 5;have z6:D.cell? ⟨b2,6,none⟩=some (.int .u64 0):=by rw [hz.1];rfl
 have f6:=hz.2 6;have z7:D.cell? ⟨b2,7,none⟩=some (.int .u64 0):=by rw [hz.1];rfl
 have f7:=hz.2 7;have z8:D.cell? ⟨b2,8,none⟩=some (.int .u64 0):=by rw [hz.1];rfl
 have f8:=hz.2 8;have z9:D.cell? ⟨b2,9,none⟩=some (.int .u64 0):=by rw [hz.1];rfl
 have f9:=hz.2 9;obtain ⟨W9,hW9⟩:=ex ((((((((((D.setCell ⟨b2,0,none⟩ (.int .i64 p)).setCell ⟨b2,1,none⟩ (.int .i64 a0)).setCell ⟨b2,2,none⟩ (.int .u64 a1)).setCell ⟨b2,3,none⟩ (.int .u64 a2)).setCell ⟨b2,4,none⟩ (.int .u64 a3)).setCell ⟨b2,5,none⟩ (.int .u64 a4)).setCell ⟨b2,6,none⟩ (.int .u64 a5)).setCell ⟨b2,7,none⟩ (.int .u64 a6)).setCell ⟨b2,8,none⟩ (.int .u64 a7)).setCell ⟨b2,9,none⟩ (.int .u64 a8));have HRES:Hid (W9.heap[b2]?=some (.cells #[.int .i64 p,.int .i64 a0,.int .u64 a1,.int .u64 a2,.int .u64 a3,.int .u64 a4,.int .u64 a5,.int .u64 a6,.int .u64 a7,.int .u64 a8] 75 (0,0))):=by
  rw [<-hW9];exact put10 (.int .i64 p) (.int .i64 a0) (.int .u64 a1) (.int .u64 a2) (.int .u64 a3) (.int .u64 a4) (.int .u64 a5) (.int .u64 a6) (.int .u64 a7) (.int .u64 a8) HKD.1
 have HFIN:Hid (Below w.heap.size w W9):=by
  rw [<-hW9];exact put10b (.int .i64 p) (.int .i64 a0) (.int .u64 a1) (.int .u64 a2) (.int .u64 a3) (.int .u64 a4) (.int .u64 a5) (.int .u64 a6) (.int .u64 a7) (.int .u64 a8) HKD.2.1 HKD.2.2.1
 have kp:∀ c j,c≠b2->W9.cell? ⟨c,j,none⟩=D.cell? ⟨c,j,none⟩:=fun c j hc=>by
  unfold World.cell?;rw [<-hW9];simp only [put10f (.int .i64 p) (.int .i64 a0) (.int .u64 a1) (.int .u64 a2) (.int .u64 a3) (.int .u64 a4) (.int .u64 a5) (.int .u64 a6) (.int .u64 a7) (.int .u64 a8) hc]
 have hs9:(W9.cell? ⟨b,0,none⟩=some (.slice (some ⟨g,o,none⟩) np cp)/\W9.cell? ⟨b,1,none⟩=some (.slice pe ne ce)/\W9.cell? ⟨b,2,none⟩=some (.int .i64 a0)/\W9.cell? ⟨b,3,none⟩=some (.int .u64 a1)/\W9.cell? ⟨b,4,none⟩=some (.int .u64 a2)/\W9.cell? ⟨b,5,none⟩=some (.int .u64 a3)/\W9.cell? ⟨b,6,none⟩=some (.int .u64 a4)/\W9.cell? ⟨b,7,none⟩=some (.int .u64 a5)/\W9.cell? ⟨b,8,none⟩=some (.int .u64 a6)/\W9.cell? ⟨b,9,none⟩=some (.int .u64 a7)/\W9.cell? ⟨b,10,none⟩=some (.int .u64 a8))/\W9.cell? ⟨g,o+k,none⟩=some (.int .i64 p):=by
  obtain ⟨⟨r0,r1,r2,r3,r4,r5,r6,r7,r8,r9,r10⟩,rl⟩:=hs0;exact ⟨⟨(kp _ _ HK.out.2.2.2.1).trans r0,(kp _ _ HK.out.2.2.2.1).trans r1,(kp _ _ HK.out.2.2.2.1).trans r2,(kp _ _ HK.out.2.2.2.1).trans r3,(kp _ _ HK.out.2.2.2.1).trans r4,(kp _ _ HK.out.2.2.2.1).trans r5,(kp _ _ HK.out.2.2.2.1).trans r6,(kp _ _ HK.out.2.2.2.1).trans r7,(kp _ _ HK.out.2.2.2.1).trans r8,(kp _ _ HK.out.2.2.2.1).trans r9,(kp _ _ HK.out.2.2.2.1).trans r10⟩,(kp _ _ HK.out.2.2.2.2).trans rl⟩
 have HW9:=zab hW9;clear hW9 hz kp HKD;refine rd 11 rfl fun KK hKK=>?_
 go_simp
 rw [HW9.out];refine hKK.out _ _ hs9 (fun _=>?_);clear hKK KK;refine wpAnyH_done (by kernel_rfl) ?_ _
 try simp only [List.getElem_toArray,List.getElem_cons_succ,List.getElem_cons_zero,Act.put,List.setIfInBounds_toArray,List.set_cons_zero,List.set_cons_succ]
 clear hs0 hs9
 go_wp2_with fail
 refine bodyPost_ret (res_last _ _ b2 _ _ _ _ _ _ _ _ _ _ rfl HRES.out) rfl ?_;exact ⟨rfl,HFIN.out⟩
end Go.Proofs.YtmfakcfmkmppfaaGreatDoor.Nt
