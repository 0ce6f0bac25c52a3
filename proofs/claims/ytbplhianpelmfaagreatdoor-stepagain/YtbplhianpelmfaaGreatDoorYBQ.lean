import Derived.Test.YtbplhianpelmfaaGreatDoorYBP
import Derived.RangeFuncSeq
namespace Go.Proofs.YtbplhianpelmfaaGreatDoor.Nt
open Go.RowKit Go.Shelf
def cls (w:WY):Bool:=decide (w.last.1∈w.ps.dropLast)
inductive SR where
 | go (G:List WY)
 | hit (w:WY)
 | full
def prc (n:NN) (goal:WY→Bool):List WY→List WY→SR
 | [],G=>.go G
 | w :: r,G=>if goal w=true then .hit w else if (portAt n w.last.1).inn=false then prc n goal r G else if G.length=4096 then .full else prc n goal r (G++[w])
def src (n:NN) (hops:Int) (goal:WY→Bool):Nat→List WY→List WY→Nat→SR
 | 0,_,_,_=>.full
 | f+1,C,G,a=>match prc n goal (C.flatMap (stgM n)) G with
  | .go G1=>match G1[a]? with
   | some g=>src n hops goal f (onwM n hops g) G1 (a+1)
   | none=>.go G1
  | .hit w=>.hit w
  | .full=>.full
inductive RW (n:NN) (hops:Int) (s:Int×List UInt8):WY→Prop
 | start:RW n hops s (alnM s)
 | link {w:WY} {o:Int×List UInt8}:RW n hops s w→o∈ovS n w.last→RW n hops s (w.to o [])
 | entry {w x:WY}:RW n hops s w→x∈onwM n hops w→RW n hops s x
theorem ov_mem {n:NN} {t o:Int×List UInt8} (h:o∈ovS n t):0≤(portAt n t.1).lk∧o=((portAt n t.1).lk,t.2):=by
 unfold ovS at h
 split at h
 ·rename_i hl
  exact ⟨hl,List.mem_singleton.1 h⟩
 ·cases h
theorem mem_stg {n:NN} {c y:WY}:y∈stgM n c↔y=c∨∃ o∈ovS n c.last,y=c.to o []:=by
 unfold stgM
 rw [List.mem_cons,List.mem_map]
 constructor
 ·rintro (h | ⟨o,h1,h2⟩)
  ·exact .inl h
  ·exact .inr ⟨o,h1,h2.symm⟩
 ·rintro (h | ⟨o,h1,h2⟩)
  ·exact .inl h
  ·exact .inr ⟨o,h1,h2.symm⟩
def RWP (n:NN) (hops:Int) (s:Int×List UInt8) (w:WY):Prop:=WYP n hops 1 w∧FLD n s w∧((portAt n w.last.1).inn=false→WYP n hops 0 w)∧(w.es.length:Nat)=(w.ps.dropLast.filter (fun p=>(portAt n p).inn)).length
theorem link_out {n:NN} {t o:Int×List UInt8} (hV:NetP n) (ht:StP n t) (h:o∈ovS n t):(portAt n t.1).inn=false∧(portAt n o.1).inn=true∧0≤o.1∧o.1 < (n.ports.length:Int):=by
 obtain ⟨hl,rfl⟩:=ov_mem h
 obtain ⟨-,hx⟩:=hV.port ht.1 ht.2.1
 rcases hx.2.2.2 with h9 | h9
 ·omega
 ·exact ⟨h9.1,h9.2.2.2,h9.2.1,h9.2.2.1⟩
theorem drop_to (w:WY) (o:Int×List UInt8) (e:List Int):(w.to o e).ps.dropLast=w.ps:=by
 show (w.ps++[o.1]).dropLast=w.ps
 simp
theorem ps_last {n:NN} {hops:Int} {k:Nat} {w:WY} (h:WYP n hops k w):w.ps=w.ps.dropLast++[w.last.1]:=by
 have h1:w.ps≠[]:=h.1
 have h2:=List.dropLast_concat_getLast h1
 have h3:w.last.1=w.ps.getLast h1:=by
  show w.ps.getLastD 0=_
  generalize hq:w.ps=q at h1
  cases q with
  | nil=>exact absurd rfl h1
  | cons a l=>rw [List.getLastD_cons,←List.getLast_eq_getLastD (h:=by simp)]
 rw [h3]
 exact h2.symm
theorem wyp_up {n:NN} {hops:Int} {w:WY} (h:WYP n hops 0 w):WYP n hops 1 w:=⟨h.1,h.2.1,h.2.2.1,h.2.2.2.1,by have:=h.2.2.2.2.1;omega,h.2.2.2.2.2⟩
theorem rwp_start {n:NN} {hops:Int} {s:Int×List UInt8} (hs:StP n s) (h0:0≤hops):RWP n hops s (alnM s):=by
 have h:=wyp_aln hs h0
 exact ⟨wyp_up h,fld_aln n s,fun _=>h,by simp [alnM]⟩
theorem rwp_link {n:NN} {hops:Int} {s o:Int×List UInt8} {w:WY} (hV:NetP n) (h:RWP n hops s w) (ho:o∈ovS n w.last):RWP n hops s (w.to o [])∧(portAt n (w.to o []).last.1).inn=true:=by
 obtain ⟨h1,h2,h3,h4⟩:=h
 obtain ⟨hi,hj,-⟩:=link_out hV h1.st ho
 have h5:=h3 hi
 obtain ⟨hl,rfl⟩:=ov_mem ho
 have e:w.to ((portAt n w.last.1).lk,w.last.2) []=endM n w:=by
  unfold endM
  rw [if_pos hl]
  rfl
 rw [to_last]
 refine ⟨⟨?_,?_,?_,?_⟩,hj⟩
 ·rw [e];exact (wyp_end hV h5).1
 ·rw [e];exact fld_end hV h5 h2
 ·rw [to_last]
  intro h9
  rw [h9] at hj
  cases hj
 ·rw [drop_to]
  show (w.es++[]).length=_
  rw [List.append_nil,h4]
  conv=>rhs;rw [ps_last h1]
  rw [List.filter_append,List.length_append]
  simp [hi]
theorem rwp_entry {n:NN} {hops:Int} {s:Int×List UInt8} {w x:WY} (hV:NetP n) (h:RWP n hops s w) (hx:x∈onwM n hops w):RWP n hops s x∧x.es.length=w.es.length+1∧(portAt n w.last.1).inn=true∧∃ o e,x=w.to o e:=by
 obtain ⟨h1,h2,h3,h4⟩:=h
 obtain ⟨h5,h6⟩:=wyp_onw hV h1 hx
 have h7:=fld_onw h2 hx
 have h8:(portAt n w.last.1).inn=true∧∃ o e,x=w.to o e:=by
  unfold onwM at hx
  split at hx
  ·rename_i hc
   obtain ⟨o,-,rfl⟩:=List.mem_map.1 hx
   exact ⟨hc.1,o,_,rfl⟩
  ·cases hx
 refine ⟨⟨wyp_up h5,h7,fun _=>h5,?_⟩,h6,h8⟩
 obtain ⟨hi,o,e,rfl⟩:=h8
 rw [h6,drop_to]
 conv=>rhs;rw [ps_last h1]
 rw [List.filter_append,List.length_append,←h4]
 simp [hi]
theorem rw_rwp {n:NN} {hops:Int} {s:Int×List UInt8} (hV:NetP n) (hs:StP n s) (h0:0≤hops) {w:WY} (h:RW n hops s w):RWP n hops s w:=by
 induction h with
 | start=>exact rwp_start hs h0
 | link _ ho ih=>exact (rwp_link hV ih ho).1
 | entry _ hx ih=>exact (rwp_entry hV ih hx).1
theorem wlk_beg {n:NN} {hops:Int} {s:Int×List UInt8}:∀ (f:Nat) (w x:WY),RW n hops s w→x∈wlkM n hops f w→∀ k,w.ps.length≤k→k≤x.ps.length→∃ y,RW n hops s y∧y.ps=x.ps.take k:=by
 have hend:∀ (w x:WY),RW n hops s w→(endM n w).ps <+: x.ps→RW n hops s (endM n w)∧∀ k,w.ps.length≤k→k≤(endM n w).ps.length→∃ y,RW n hops s y∧y.ps=x.ps.take k:=by
  intro w x hw hp
  have hwp:w.ps=x.ps.take w.ps.length:=(List.prefix_iff_eq_take.1 ((end_pre n w).trans hp))
  by_cases hl:0≤(portAt n w.last.1).lk
  ·have e:endM n w=w.to ((portAt n w.last.1).lk,w.last.2) []:=by
    unfold endM
    rw [if_pos hl]
    rfl
   have ho:((portAt n w.last.1).lk,w.last.2)∈ovS n w.last:=by
    unfold ovS
    rw [if_pos hl]
    exact List.mem_singleton.2 rfl
   have hr:RW n hops s (endM n w):=by rw [e];exact .link hw ho
   refine ⟨hr,fun k h1 h2=>?_⟩
   have h3:(endM n w).ps.length=w.ps.length+1:=by rw [e];simp [WY.to]
   rcases (show k=w.ps.length∨k=w.ps.length+1 by omega) with rfl | rfl
   ·exact ⟨w,hw,hwp⟩
   ·exact ⟨endM n w,hr,by rw [←h3];exact List.prefix_iff_eq_take.1 hp⟩
  ·have e:endM n w=w:=by
    unfold endM
    rw [if_neg hl]
   rw [e]
   refine ⟨hw,fun k h1 h2=>⟨w,hw,?_⟩⟩
   obtain rfl:k=w.ps.length:=by omega
   exact hwp
 intro f
 induction f with
 | zero=>
  intro w x hw hx k h1 h2
  obtain rfl:x=endM n w:=by simpa [wlkM] using hx
  exact (hend w _ hw (List.prefix_refl _)).2 k h1 h2
 | succ f ih=>
  intro w x hw hx k h1 h2
  have hpx:(endM n w).ps <+: x.ps:=by
   unfold wlkM at hx
   split at hx
   ·obtain rfl:x=endM n w:=by simpa using hx
    exact List.prefix_refl _
   ·obtain ⟨y,hy,hxy⟩:=List.mem_flatMap.1 hx
    have h3:(endM n w).ps <+: y.ps:=by
     unfold onwM at hy
     split at hy
     ·obtain ⟨o,-,rfl⟩:=List.mem_map.1 hy
      exact ⟨_,rfl⟩
     ·cases hy
    exact h3.trans (wlk_pre f y x hxy)
  obtain ⟨hr,hk⟩:=hend w x hw hpx
  by_cases hke:k≤(endM n w).ps.length
  ·exact hk k h1 hke
  ·unfold wlkM at hx
   split at hx
   ·obtain rfl:x=endM n w:=by simpa using hx
    omega
   ·obtain ⟨y,hy,hxy⟩:=List.mem_flatMap.1 hx
    have h4:y.ps.length=(endM n w).ps.length+1:=by
     unfold onwM at hy
     split at hy
     ·obtain ⟨o,-,rfl⟩:=List.mem_map.1 hy
      simp [WY.to]
     ·cases hy
    exact ih y x (.entry hr hy) hxy k (by omega) h2
theorem prc_go {n:NN} {goal:WY→Bool}:∀ (L G G1:List WY),prc n goal L G=.go G1→(∀ w∈L,goal w=false)∧G1=G++L.filter (fun w=>(portAt n w.last.1).inn)
 | [],G,G1,e=>by
  unfold prc at e
  injection e with e
  subst e
  exact ⟨fun w hw=>(by cases hw),by simp⟩
 | w :: r,G,G1,e=>by
  unfold prc at e
  split at e
  ·cases e
  ·rename_i hg
   split at e
   ·rename_i hi
    obtain ⟨h1,h2⟩:=prc_go r G G1 e
    refine ⟨fun x hx=>?_,by rw [h2];simp [hi]⟩
    rcases List.mem_cons.1 hx with rfl | hx
    ·simpa using hg
    ·exact h1 x hx
   ·rename_i hi
    split at e
    ·cases e
    ·obtain ⟨h1,h2⟩:=prc_go r (G++[w]) G1 e
     refine ⟨fun x hx=>?_,?_⟩
     ·rcases List.mem_cons.1 hx with rfl | hx
      ·simpa using hg
      ·exact h1 x hx
     ·have hi':(portAt n w.last.1).inn=true:=by simpa using hi
      rw [h2,List.filter_cons,if_pos hi',List.append_assoc]
      rfl
theorem prc_hit {n:NN} {goal:WY→Bool}:∀ (L G:List WY) (w:WY),prc n goal L G=.hit w→∃ A B,L=A++w :: B∧goal w=true∧∀ x∈A,goal x=false
 | [],G,w,e=>by
  unfold prc at e
  cases e
 | x :: r,G,w,e=>by
  unfold prc at e
  split at e
  ·rename_i hg
   injection e with e
   subst e
   exact ⟨[],r,rfl,hg,fun x hx=>(by cases hx)⟩
  ·rename_i hg
   have hgf:goal x=false:=by simpa using hg
   have key:∀ G',prc n goal r G'=.hit w→∃ A B,x :: r=A++w :: B∧goal w=true∧∀ y∈A,goal y=false:=fun G' e'=>by
    obtain ⟨A,B,h1,h2,h3⟩:=prc_hit r G' w e'
    refine ⟨x :: A,B,by rw [h1];rfl,h2,fun y hy=>?_⟩
    rcases List.mem_cons.1 hy with rfl | hy
    ·exact hgf
    ·exact h3 y hy
   split at e
   ·exact key _ e
   ·split at e
    ·cases e
    ·exact key _ e
def PRV (n:NN) (P G:List WY):Prop:=∀ c∈P,∀ y∈stgM n c,cls y=false∧((portAt n y.last.1).inn=true→y∈G)
def KPT (n:NN) (hops:Int) (s:Int×List UInt8) (G:List WY):Prop:=∀ w∈G,RW n hops s w∧(portAt n w.last.1).inn=true∧w.ps.Nodup
def INV (n:NN) (hops:Int) (s:Int×List UInt8) (C G:List WY) (a:Nat):Prop:=
 (a=0∧C=[alnM s]∧G=[])∨∃ b g,a=b+1∧G[b]?=some g∧C=onwM n hops g∧PRV n (alnM s :: (G.take b).flatMap (onwM n hops)) G∧KPT n hops s G∧G.Pairwise (fun x y=>x.es.length≤y.es.length)∧∀ w∈G,w.es.length≤g.es.length+1
theorem cls_nd {w:WY} {o:Int×List UInt8} {e:List Int} (hw:w.ps.Nodup) (h:cls (w.to o e)=false):(w.to o e).ps.Nodup:=by
 unfold cls at h
 rw [drop_to,to_last] at h
 have h1:o.1 ∉ w.ps:=by simpa using h
 show (w.ps++[o.1]).Nodup
 rw [List.nodup_append]
 refine ⟨hw,by simp,fun x hx y hy e=>?_⟩
 have:y=o.1:=by simpa using hy
 subst this
 subst e
 exact h1 hx
theorem aln_nd (s:Int×List UInt8):(alnM s).ps.Nodup:=by simp [alnM]
theorem pw_all {e:Nat}:∀ {L:List WY},(∀ x∈L,x.es.length=e)→L.Pairwise (fun x y=>x.es.length≤y.es.length)
 | [],_=>List.Pairwise.nil
 | x :: L,h=>List.pairwise_cons.2 ⟨fun y hy=>by rw [h x List.mem_cons_self,h y (List.mem_cons_of_mem _ hy)];exact Nat.le_refl _,pw_all (fun y hy=>h y (List.mem_cons_of_mem _ hy))⟩
theorem inv_C {n:NN} {hops:Int} {s:Int×List UInt8} {C G:List WY} {a:Nat} (hV:NetP n) (hs:StP n s) (h0:0≤hops) (h:INV n hops s C G a):∃ e,(∀ c∈C,RW n hops s c∧c.es.length=e∧(cls c=false→c.ps.Nodup)∧c.ps.dropLast.Nodup)∧(∀ w∈G,w.es.length≤e)∧((a=0∧e=0)∨∃ b g,a=b+1∧G[b]?=some g∧e=g.es.length+1):=by
 rcases h with ⟨ha,rfl,rfl⟩ | ⟨b,g,ha,hg,rfl,-,hK,-,hB⟩
 ·refine ⟨0,fun c hc=>?_,fun w hw=>(by cases hw),.inl ⟨ha,rfl⟩⟩
  obtain rfl:=List.mem_singleton.1 hc
  exact ⟨.start,rfl,fun _=>aln_nd s,by simp [alnM]⟩
 ·obtain ⟨h1,h2,h3⟩:=hK g (List.mem_of_getElem? hg)
  refine ⟨g.es.length+1,fun c hc=>?_,hB,.inr ⟨b,g,ha,hg,rfl⟩⟩
  have hw:=hc
  obtain ⟨-,h4,-,o,e,rfl⟩:=rwp_entry hV (rw_rwp hV hs h0 h1) hc
  exact ⟨.entry h1 hw,h4,fun h9=>cls_nd h3 h9,by rw [drop_to];exact h3⟩
theorem stg_rw {n:NN} {hops:Int} {s:Int×List UInt8} {c y:WY} (hc:RW n hops s c) (hy:y∈stgM n c):RW n hops s y∧y.es.length=c.es.length:=by
 rcases mem_stg.1 hy with rfl | ⟨o,ho,rfl⟩
 ·exact ⟨hc,rfl⟩
 ·exact ⟨.link hc ho,by show (c.es++[]).length=_;rw [List.append_nil]⟩
theorem inv_step {n:NN} {hops:Int} {s:Int×List UInt8} {C G G1:List WY} {a:Nat} (hV:NetP n) (hs:StP n s) (h0:0≤hops) (h:INV n hops s C G a) (hp:prc n cls (C.flatMap (stgM n)) G=.go G1):PRV n (alnM s :: (G1.take a).flatMap (onwM n hops)) G1∧KPT n hops s G1∧a≤G1.length∧(∀ g1,G1[a]?=some g1→INV n hops s (onwM n hops g1) G1 (a+1)):=by
 obtain ⟨e,hC,hes0,hea⟩:=inv_C hV hs h0 h
 obtain ⟨p1,p2⟩:=prc_go _ _ _ hp
 have hnew:∀ y∈C.flatMap (stgM n),RW n hops s y∧y.es.length=e∧y.ps.Nodup:=by
  intro y hy
  obtain ⟨c,hc,hyc⟩:=List.mem_flatMap.1 hy
  obtain ⟨c1,c2,c3,-⟩:=hC c hc
  obtain ⟨d1,d2⟩:=stg_rw c1 hyc
  have hcc:c∈C.flatMap (stgM n):=List.mem_flatMap.2 ⟨c,hc,mem_stg.2 (.inl rfl)⟩
  have hcn:=c3 (p1 c hcc)
  refine ⟨d1,by rw [d2,c2],?_⟩
  rcases mem_stg.1 hyc with rfl | ⟨o,ho,rfl⟩
  ·exact hcn
  ·exact cls_nd hcn (p1 _ hy)
 have hcur:PRV n C G1:=fun c hc y hy=>by
  have hm:y∈C.flatMap (stgM n):=List.mem_flatMap.2 ⟨c,hc,hy⟩
  refine ⟨p1 y hm,fun hi=>?_⟩
  rw [p2]
  exact List.mem_append_right _ (List.mem_filter.2 ⟨hm,hi⟩)
 have hK0:KPT n hops s G:=by
  rcases h with ⟨-,-,rfl⟩ | ⟨b,g,-,-,-,-,hK,-⟩
  ·intro w hw;cases hw
  ·exact hK
 have hK1:KPT n hops s G1:=fun w hw=>by
  rw [p2] at hw
  rcases List.mem_append.1 hw with hw | hw
  ·exact hK0 w hw
  ·obtain ⟨h1,h2⟩:=List.mem_filter.1 hw
   obtain ⟨q1,-,q3⟩:=hnew w h1
   exact ⟨q1,h2,q3⟩
 have hP1:PRV n (alnM s :: (G1.take a).flatMap (onwM n hops)) G1:=by
  rcases h with ⟨rfl,rfl,-⟩ | ⟨b,g,rfl,hg,rfl,hP,-,-⟩
  ·intro c hc
   simp only [List.take_zero,List.flatMap_nil] at hc
   exact hcur c hc
  ·intro c hc y hy
   have hb:=(List.getElem?_eq_some_iff.1 hg).1
   have ht:G1.take (b+1)=G.take b++[g]:=by
    rw [p2,List.take_append_of_le_length (by omega),List.take_add_one,hg]
    rfl
   rw [ht,List.flatMap_append] at hc
   rcases List.mem_cons.1 hc with rfl | hc
   ·obtain ⟨q1,q2⟩:=hP _ List.mem_cons_self y hy
    exact ⟨q1,fun hi=>by rw [p2];exact List.mem_append_left _ (q2 hi)⟩
   ·rcases List.mem_append.1 hc with hc | hc
    ·obtain ⟨q1,q2⟩:=hP c (List.mem_cons_of_mem _ hc) y hy
     exact ⟨q1,fun hi=>by rw [p2];exact List.mem_append_left _ (q2 hi)⟩
    ·exact hcur c (by simpa using hc) y hy
 have hes:∀ w∈G1,w.es.length≤e:=fun w hw=>by
  rw [p2] at hw
  rcases List.mem_append.1 hw with hw | hw
  ·exact hes0 w hw
  ·rw [(hnew w (List.mem_filter.1 hw).1).2.1]
   exact Nat.le_refl _
 have hpw:G1.Pairwise (fun x y=>x.es.length≤y.es.length):=by
  rw [p2,List.pairwise_append]
  refine ⟨?_,pw_all (e:=e) (fun y hy=>(hnew y (List.mem_filter.1 hy).1).2.1),fun x hx y hy=>?_⟩
  ·rcases h with ⟨-,-,rfl⟩ | ⟨b,g,-,-,-,-,-,hS,-⟩
   ·exact List.Pairwise.nil
   ·exact hS
  ·rw [(hnew y (List.mem_filter.1 hy).1).2.1]
   exact hes0 x hx
 have hle:a≤G1.length:=by
  rw [p2,List.length_append]
  rcases h with ⟨rfl,-,-⟩ | ⟨b,g,rfl,hg,-⟩
  ·omega
  ·have:=(List.getElem?_eq_some_iff.1 hg).1
   omega
 refine ⟨hP1,hK1,hle,fun g1 hg1=>.inr ⟨a,g1,rfl,hg1,rfl,hP1,hK1,hpw,fun w hw=>?_⟩⟩
 have h1:=hes w hw
 rcases hea with ⟨-,h2⟩ | ⟨b,g,rfl,hg,h2⟩
 ·omega
 ·have h3:G1[b]?=some g:=by rw [p2,List.getElem?_append_left (List.getElem?_eq_some_iff.1 hg).1];exact hg
  obtain ⟨x1,x2⟩:=List.getElem?_eq_some_iff.1 h3
  obtain ⟨y1,y2⟩:=List.getElem?_eq_some_iff.1 hg1
  have h4:=(List.pairwise_iff_getElem.1 hpw) b (b+1) x1 y1 (by omega)
  rw [x2,y2] at h4
  omega
theorem rw_seen {n:NN} {hops:Int} {s:Int×List UInt8} (hV:NetP n) (hs:StP n s) (h0:0≤hops) {P G:List WY} (hP:PRV n P G) (hPr:∀ c∈P,RW n hops s c) (ha:alnM s∈P) (m:Nat) (hm:∀ w∈G,w.es.length < m→∀ x∈onwM n hops w,x∈P) {y:WY} (hy:RW n hops s y):y.es.length≤m→∃ c∈P,y∈stgM n c:=by
 induction hy with
 | start=>exact fun _=>⟨_,ha,mem_stg.2 (.inl rfl)⟩
 | @link w o hw ho ih=>
  intro hl
  have h9:(w.to o []).es.length=w.es.length:=by show (w.es++[]).length=_;rw [List.append_nil]
  obtain ⟨c,hc,hwc⟩:=ih (by omega)
  rcases mem_stg.1 hwc with rfl | ⟨o2,ho2,rfl⟩
  ·exact ⟨w,hc,mem_stg.2 (.inr ⟨o,ho,rfl⟩)⟩
  ·exfalso
   obtain ⟨-,h2⟩:=rwp_link hV (rw_rwp hV hs h0 (hPr c hc)) ho2
   obtain ⟨h3,-⟩:=link_out hV (rw_rwp hV hs h0 hw).1.st ho
   rw [h3] at h2
   cases h2
 | @entry w x hw hx ih=>
  intro hl
  obtain ⟨-,h4,h5,-⟩:=rwp_entry hV (rw_rwp hV hs h0 hw) hx
  obtain ⟨c,hc,hwc⟩:=ih (by omega)
  have hG:=(hP c hc w hwc).2 h5
  exact ⟨x,hm w hG (by omega) x hx,mem_stg.2 (.inl rfl)⟩
theorem flat_split {n:NN} {w:WY}:∀ (C A B:List WY),C.flatMap (stgM n)=A++w :: B→∃ c A1 B1,c∈C∧stgM n c=A1++w :: B1∧∀ x∈A1,x∈A
 | [],A,B,e=>by
  have:=congrArg List.length e
  simp at this
 | c :: C,A,B,e=>by
  rw [List.flatMap_cons] at e
  rcases List.append_eq_append_iff.1 e with ⟨A',h1,h2⟩ | ⟨B',h1,h2⟩
  ·obtain ⟨c',A1,B1,q1,q2,q3⟩:=flat_split C A' B h2
   exact ⟨c',A1,B1,List.mem_cons_of_mem _ q1,q2,fun x hx=>by rw [h1];exact List.mem_append_right _ (q3 x hx)⟩
  ·cases B' with
   | nil=>
    rw [List.nil_append] at h2
    obtain ⟨c',A1,B1,q1,q2,q3⟩:=flat_split C [] B h2.symm
    exact ⟨c',A1,B1,List.mem_cons_of_mem _ q1,q2,fun x hx=>by cases q3 x hx⟩
   | cons b B'=>
    rw [List.cons_append] at h2
    injection h2 with h3 h4
    subst h3
    exact ⟨c,A,B',List.mem_cons_self,h1,fun x hx=>hx⟩
theorem src_go {n:NN} {hops:Int} {s:Int×List UInt8} (hV:NetP n) (hs:StP n s) (h0:0≤hops):∀ (f:Nat) (C G:List WY) (a:Nat) (G1:List WY),INV n hops s C G a→src n hops cls f C G a=.go G1→PRV n (alnM s :: G1.flatMap (onwM n hops)) G1∧KPT n hops s G1
 | 0,C,G,a,G1,_,e=>by
  unfold src at e
  cases e
 | f+1,C,G,a,G1,h,e=>by
  unfold src at e
  cases hp:prc n cls (C.flatMap (stgM n)) G with
  | go G2=>
   rw [hp] at e
   simp only at e
   obtain ⟨h1,h2,h3,h4⟩:=inv_step hV hs h0 h hp
   cases hg:G2[a]? with
   | some g=>
    rw [hg] at e
    exact src_go hV hs h0 f _ G2 (a+1) G1 (h4 g hg) e
   | none=>
    rw [hg] at e
    injection e with e
    subst e
    rw [List.getElem?_eq_none_iff] at hg
    rw [List.take_of_length_le (by omega)] at h1
    exact ⟨h1,h2⟩
  | hit w=>rw [hp] at e;cases e
  | full=>rw [hp] at e;cases e
theorem src_hit {n:NN} {hops:Int} {s:Int×List UInt8} (hV:NetP n) (hs:StP n s) (h0:0≤hops):∀ (f:Nat) (C G:List WY) (a:Nat) (w:WY),INV n hops s C G a→src n hops cls f C G a=.hit w→RW n hops s w∧cls w=true∧w.ps.dropLast.Nodup∧∀ y,RW n hops s y→cls y=true→w.es.length≤y.es.length
 | 0,C,G,a,w,_,e=>by
  unfold src at e
  cases e
 | f+1,C,G,a,w,h,e=>by
  unfold src at e
  cases hp:prc n cls (C.flatMap (stgM n)) G with
  | go G2=>
   rw [hp] at e
   simp only at e
   obtain ⟨-,-,-,h4⟩:=inv_step hV hs h0 h hp
   cases hg:G2[a]? with
   | some g=>
    rw [hg] at e
    exact src_hit hV hs h0 f _ G2 (a+1) w (h4 g hg) e
   | none=>rw [hg] at e;cases e
  | full=>rw [hp] at e;cases e
  | hit w2=>
   rw [hp] at e
   injection e with e
   subst e
   obtain ⟨A,B,h1,h2,h3⟩:=prc_hit _ _ _ hp
   obtain ⟨c,A1,B1,hc,hst,hA1⟩:=flat_split C A B h1
   obtain ⟨e0,hC,-,hea⟩:=inv_C hV hs h0 h
   obtain ⟨c1,c2,c3,c4⟩:=hC c hc
   have hwc:w2∈stgM n c:=by rw [hst];simp
   obtain ⟨d1,d2⟩:=stg_rw c1 hwc
   refine ⟨d1,h2,?_,fun y hy hcy=>?_⟩
   ·cases A1 with
    | nil=>
     have h5:w2=c:=by
      unfold stgM at hst
      rw [List.nil_append] at hst
      injection hst with h5
      exact h5.symm
     rw [h5]
     exact c4
    | cons z A1=>
     have h5:z=c∧w2∈(ovS n c.last).map (fun s=>c.to s []):=by
      unfold stgM at hst
      rw [List.cons_append] at hst
      injection hst with h5 h6
      exact ⟨h5.symm,by rw [h6];simp⟩
     obtain ⟨rfl,h6⟩:=h5
     obtain ⟨o,-,rfl⟩:=List.mem_map.1 h6
     rw [drop_to]
     exact c3 (h3 _ (hA1 _ List.mem_cons_self))
   ·refine Classical.byContradiction fun hlt=>?_
    rcases h with ⟨-,rfl,rfl⟩ | ⟨b,g,rfl,hg,rfl,hP,hK,hS,-⟩
    ·obtain rfl:=List.mem_singleton.1 hc
     have:(alnM s).es.length=0:=rfl
     omega
    ·obtain ⟨g1,g2,g3⟩:=hK g (List.mem_of_getElem? hg)
     obtain ⟨-,h4,-⟩:=rwp_entry hV (rw_rwp hV hs h0 g1) hc
     obtain ⟨c9,hc9,hy9⟩:=rw_seen hV hs h0 hP (fun c hc=>by
      rcases List.mem_cons.1 hc with rfl | hc
      ·exact .start
      ·obtain ⟨z,hz,hcz⟩:=List.mem_flatMap.1 hc
       exact .entry (hK z (List.mem_of_mem_take hz)).1 hcz) List.mem_cons_self g.es.length (fun w hw hwl x hx=>by
      obtain ⟨i,hi,hgi⟩:=List.getElem_of_mem hw
      obtain ⟨x1,x2⟩:=List.getElem?_eq_some_iff.1 hg
      have hib:i < b:=by
       refine Classical.byContradiction fun hge=>?_
       rcases (show i=b∨b < i by omega) with rfl | hbi
       ·rw [x2] at hgi
        rw [←hgi] at hwl
        omega
       ·have h5:=(List.pairwise_iff_getElem.1 hS) b i x1 hi hbi
        rw [x2,hgi] at h5
        omega
      refine List.mem_cons_of_mem _ (List.mem_flatMap.2 ⟨w,?_,hx⟩)
      rw [←hgi]
      exact List.mem_take_iff_getElem.2 ⟨i,by omega,rfl⟩) hy (by omega)
     have h9:=(hP c9 hc9 y hy9).1
     rw [hcy] at h9
     cases h9
theorem src_none {n:NN} {hops:Int} {s:Int×List UInt8} (hV:NetP n) (hs:StP n s) (h0:0≤hops) {G:List WY} (hP:PRV n (alnM s :: G.flatMap (onwM n hops)) G) (hK:KPT n hops s G) {y:WY} (hy:RW n hops s y):y.ps.Nodup:=by
 have key:∀ z,RW n hops s z→cls z=false:=fun z hz=>by
  obtain ⟨c,hc,hzc⟩:=rw_seen hV hs h0 hP (fun c hc=>by
   rcases List.mem_cons.1 hc with rfl | hc
   ·exact .start
   ·obtain ⟨w,hw,hcw⟩:=List.mem_flatMap.1 hc
    exact .entry (hK w hw).1 hcw) List.mem_cons_self z.es.length (fun w hw _ x hx=>List.mem_cons_of_mem _ (List.mem_flatMap.2 ⟨w,hw,hx⟩)) hz (Nat.le_refl _)
  exact (hP c hc z hzc).1
 induction hy with
 | start=>exact aln_nd s
 | @link w o hw ho ih=>exact cls_nd ih (key _ (.link hw ho))
 | @entry w x hw hx ih=>
  have h9:=key _ (.entry hw hx)
  obtain ⟨-,-,-,o,e,rfl⟩:=rwp_entry hV (rw_rwp hV hs h0 hw) hx
  exact cls_nd ih h9
structure JW (J:List WY→World→Prop) (Jx:World→Prop):Prop where
 below:∀ o W W',J o W→Below W.heap.size W W'→J o W'
 belowx:∀ W W',Jx W→Below W.heap.size W W'→Jx W'
def YLW (A:List WY) (J:List WY→World→Prop) (Jx:World→Prop) (l m:Nat):Prop:=∀ (o:List WY) (W:World) (x:WY) (v:PV),J o W→PL W (x,v)→(o++[x]) <+: A→YieldAt Fence.wide m Tryz.prog l #[.agg (paC (x,v)).toArray] W fun e W'=>(KQ KTY W W'∧W.heap.size≤W'.heap.size)∧((e=.returned (.bool true)∧J (o++[x]) W')∨(e=.returned (.bool false)∧Jx W'))
def WKQ (J:List WY→World→Prop) (Jx:World→Prop) (o R:List WY) (W:World) (e:Ending) (W':World):Prop:=(KQ KTY W W'∧W.heap.size≤W'.heap.size)∧((e=.returned (.bool true)∧J (o++R) W')∨(e=.returned (.bool false)∧Jx W'))
theorem kq_int {W U:World} (h:KQ KTY W U):∀ (b:Nat) (cs:Array Value) (fr:Nat×Nat),W.heap[b]?=some (.cells cs 3 fr)→U.heap[b]?=some (.cells cs 3 fr):=fun b cs fr hb=>h b 3 cs fr (by decide) hb
theorem kq_nty {W U:World} (h:KQ KTY W U):KQ NTY W U:=h.less (fun _ hT=>List.mem_cons_of_mem _ (List.mem_cons_of_mem _ hT))
theorem pre_take {o A:List WY} {X:List WY} {sub:WY→List WY} {k:Nat} {x:WY} (h:(o++X.flatMap sub) <+: A) (hx:X[k]?=some x):((o++(X.take k).flatMap sub)++sub x) <+: A:=by
 refine List.IsPrefix.trans ?_ h
 have e:X.flatMap sub=((X.take k).flatMap sub++sub x)++(X.drop (k+1)).flatMap sub:=by
  have h1:X=X.take (k+1)++X.drop (k+1):=(List.take_append_drop _ _).symm
  conv=>lhs;rw [h1]
  rw [List.flatMap_append,List.take_add_one,hx,List.flatMap_append]
  simp
 rw [e]
 exact ⟨(X.drop (k+1)).flatMap sub,by simp only [List.append_assoc]⟩
theorem flat_next {X:List WY} {sub:WY→List WY} {k:Nat} {x:WY} (o:List WY) (hx:X[k]?=some x):(o++(X.take k).flatMap sub)++sub x=o++(X.take (k+1)).flatMap sub:=by
 rw [List.take_add_one,hx,List.flatMap_append]
 simp
end Go.Proofs.YtbplhianpelmfaaGreatDoor.Nt
