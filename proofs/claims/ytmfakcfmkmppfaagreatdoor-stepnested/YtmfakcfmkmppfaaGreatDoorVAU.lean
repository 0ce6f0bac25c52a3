import Derived.Test.YtmfakcfmkmppfaaGreatDoorVAT
namespace Go.Proofs.YtmfakcfmkmppfaaGreatDoor.Nt
open Go.RowKit Go.Shelf
structure XE where
 num:Int
 pi:Option Addr
 ni:Nat
 ci:Nat
 po:Option Addr
 no:Nat
 co:Nat
 pc:Option Addr
 nc:Nat
 cc:Nat
 wr:List UInt8
structure XL where
 pm:Bool
 pc:Option Addr
 nc:Nat
 cc:Nat
def xeC (x:XE):List Value:=.int .i64 x.num :: .slice x.pi x.ni x.ci :: .slice x.po x.no x.co :: .slice x.pc x.nc x.cc :: zcp x.wr
def xlC (x:XL):List Value:=[.bool x.pm,.slice x.pc x.nc x.cc]
theorem xeC_len (x:XE):(xeC x).length=13:=rfl
theorem xlC_len (x:XL):(xlC x).length=2:=rfl
theorem xeC_one (x:XE):∀ u∈(xeC x).toArray.toList,u.oneCell'=true:=by
 intro u hu;have hu:u∈xeC x:=by simpa using hu
 unfold xeC at hu;rcases List.mem_cons.1 hu with rfl | hu
 ·rfl
 rcases List.mem_cons.1 hu with rfl | hu
 ·rfl
 rcases List.mem_cons.1 hu with rfl | hu
 ·rfl
 rcases List.mem_cons.1 hu with rfl | hu
 ·rfl
 exact zf5 x.wr u hu
theorem xlC_one (x:XL):∀ u∈(xlC x).toArray.toList,u.oneCell'=true:=by
 intro u hu;simp only [xlC,List.mem_cons,List.not_mem_nil,or_false] at hu;rcases hu with rfl | rfl <;> rfl
theorem info_xe:(Tryz.prog.info? 119).map (fun i=>(i.zero,i.size,i.bytes))=some (some (.agg #[.int .i64 0,.slice none 0 0,.slice none 0 0,.slice none 0 0,.int .i64 0,.int .u64 0,.int .u64 0,.int .u64 0,.int .u64 0,.int .u64 0,.int .u64 0,.int .u64 0,.int .u64 0]),13,152):=by kernel_rfl
theorem info_xl:(Tryz.prog.info? 122).map (fun i=>(i.zero,i.size,i.bytes))=some (some (.agg #[.bool false,.slice none 0 0]),2,32):=by kernel_rfl
theorem info_xes:(Tryz.prog.info? 113).map (fun i=>(i.zero,i.size,i.bytes))=some (some (.slice none 0 0),1,24):=by kernel_rfl
theorem info_xls:(Tryz.prog.info? 120).map (fun i=>(i.zero,i.size,i.bytes))=some (some (.slice none 0 0),1,24):=by kernel_rfl
def LXE (W:World) (p:Option Addr) (b:Nat) (t:List NE):Prop:=∀ (i:Nat) (e:NE),t[i]?=some e->∃ g o pi ci po co pc cc,p=some ⟨g,o,none⟩/\W.cell? ⟨g,o+i*13,none⟩=some (.int .i64 ((b+i:Nat):Int))/\W.cell? ⟨g,o+i*13+1,none⟩=some (.slice pi e.ins.length ci)/\W.cell? ⟨g,o+i*13+2,none⟩=some (.slice po e.outs.length co)/\W.cell? ⟨g,o+i*13+3,none⟩=some (.slice pc e.cubes.length cc)/\(∀ (j:Nat) (v:Value),(zcp e.wr)[j]?=some v->W.cell? ⟨g,o+i*13+4+j,none⟩=some v)/\LI W pi e.ins/\LI W po e.outs/\RowL 9 zcp W pc e.cubes
def LXL (W:World) (p:Option Addr) (g:List NG):Prop:=∀ (i:Nat) (l:NG),g[i]?=some l->∃ b o pc cc,p=some ⟨b,o,none⟩/\W.cell? ⟨b,o+i*2,none⟩=some (.bool l.pm)/\W.cell? ⟨b,o+i*2+1,none⟩=some (.slice pc l.cubes.length cc)/\RowL 9 zcp W pc l.cubes
def LXT (W:World) (p:Option Addr) (n:NN):Prop:=∀ (k:Nat) (t:List NE),n.tabs[k]?=some t->∃ g o q c,p=some ⟨g,o,none⟩/\W.cell? ⟨g,o+k,none⟩=some (.slice q t.length c)/\LXE W q (zd8 n k) t
def LXG (W:World) (p:Option Addr) (n:NN):Prop:=∀ (k:Nat) (t:List NG),n.grds[k]?=some t->∃ g o q c,p=some ⟨g,o,none⟩/\W.cell? ⟨g,o+k,none⟩=some (.slice q t.length c)/\LXL W q t
def NW (W:World) (n:NN) (v:NV):Prop:=LP W v.pp n.ports/\LXT W v.pt n/\LXG W v.pg n
theorem LXE.below {W W':World} {p:Option Addr} {b:Nat} {t:List NE} (h:LXE W p b t) (hb:Below W.heap.size W W'):LXE W' p b t:=fun i e he=>by
 obtain ⟨g,o,pi,ci,po,co,pc,cc,e0,a0,a1,a2,a3,a4,l1,l2,l3⟩:=h i e he;exact ⟨g,o,pi,ci,po,co,pc,cc,e0,zao hb a0,zao hb a1,zao hb a2,zao hb a3,fun j v hv=>zao hb (a4 j v hv),l1.below hb,l2.below hb,l3.below hb⟩
theorem LXL.below {W W':World} {p:Option Addr} {t:List NG} (h:LXL W p t) (hb:Below W.heap.size W W'):LXL W' p t:=fun i e he=>by
 obtain ⟨g,o,pc,cc,e0,a0,a1,l3⟩:=h i e he;exact ⟨g,o,pc,cc,e0,zao hb a0,zao hb a1,l3.below hb⟩
theorem LXT.below {W W':World} {p:Option Addr} {n:NN} (h:LXT W p n) (hb:Below W.heap.size W W'):LXT W' p n:=fun k t ht=>by
 obtain ⟨g,o,q,c,e0,a0,l⟩:=h k t ht;exact ⟨g,o,q,c,e0,zao hb a0,l.below hb⟩
theorem LXG.below {W W':World} {p:Option Addr} {n:NN} (h:LXG W p n) (hb:Below W.heap.size W W'):LXG W' p n:=fun k t ht=>by
 obtain ⟨g,o,q,c,e0,a0,l⟩:=h k t ht;exact ⟨g,o,q,c,e0,zao hb a0,l.below hb⟩
theorem NW.below {W W':World} {n:NN} {v:NV} (h:NW W n v) (hb:Below W.heap.size W W'):NW W' n v:=⟨h.1.below hb,h.2.1.below hb,h.2.2.below hb⟩
def KP (bad:TypeId) (W W':World):Prop:=∀ (b:Nat) (T:TypeId) (cur:Array Value),T≠bad->W.heap[b]?=some (Obj.cells cur T (0,0))->W'.heap[b]?=some (Obj.cells cur T (0,0))
theorem zjx {W:World} {b a:Nat} {v:Value} {cs:Array Value} {T:TypeId} (h:W.heap[b]?=some (.cells cs T (0,0))):KP T W (W.setCell ⟨b,a,none⟩ v):=fun b9 T9 cur hne h9=>by
 rw [zby _ _ _ _ _ (ne_ty h9 h hne)];exact h9
theorem zij {W W9:World} {B n s:Nat} {T:TypeId} {v:Value} {xs:List Value} (h:W.ownsRow B T s v n xs) (hk:∀ b o,W.heap[b]?=some o->v.ownBlock≠some b->W9.heap[b]?=some o):KP T W W9:=fun b T9 cur hne h9=>hk b _ h9 (fun e=>by
 obtain ⟨cur2,hc2⟩:=own_blk h e;exact ne_ty h9 hc2 hne rfl)
theorem KP.own {bad:TypeId} {W W':World} (hk:KP bad W W') {B:Nat} {T:TypeId} {s n:Nat} {v:Value} {xs:List Value} (h:W.ownsRow B T s v n xs) (hT:T≠bad):W'.ownsRow B T s v n xs:=zfz h (fun b cur hh=>hk b T cur hT hh)
def XEM (W:World) (B:Nat) (e:NE) (k:Nat) (r:XE):Prop:=r.num=(k:Int)/\r.ni=e.ins.length/\r.no=e.outs.length/\r.nc=e.cubes.length/\r.wr=e.wr/\W.ownsRow B 3 1 (.slice r.pi r.ni r.ci) r.ni (inZ e.ins)/\W.ownsRow B 3 1 (.slice r.po r.no r.co) r.no (inZ e.outs)/\W.ownsRow B 70 9 (.slice r.pc r.nc r.cc) r.nc (e.cubes.flatMap zcp)
def XLM (W:World) (B:Nat) (e:NG) (r:XL):Prop:=r.pm=e.pm/\r.nc=e.cubes.length/\W.ownsRow B 70 9 (.slice r.pc r.nc r.cc) r.nc (e.cubes.flatMap zcp)
theorem XEM.kp {bad:TypeId} {W W':World} {B k:Nat} {e:NE} {r:XE} (h:XEM W B e k r) (hk:KP bad W W') (h1:3≠bad) (h2:70≠bad):XEM W' B e k r:=by
 obtain ⟨a1,a2,a3,a4,a5,o1,o2,o3⟩:=h;exact ⟨a1,a2,a3,a4,a5,hk.own o1 h1,hk.own o2 h1,hk.own o3 h2⟩
theorem XEM.base {W:World} {A B k:Nat} {e:NE} {r:XE} (h:XEM W B e k r) (hA:A<=B):XEM W A e k r:=by
 obtain ⟨a1,a2,a3,a4,a5,o1,o2,o3⟩:=h;exact ⟨a1,a2,a3,a4,a5,zav o1 hA,zav o2 hA,zav o3 hA⟩
theorem XEM.below {W W':World} {B k:Nat} {e:NE} {r:XE} (h:XEM W B e k r) (hb:Below W.heap.size W W'):XEM W' B e k r:=by
 obtain ⟨a1,a2,a3,a4,a5,o1,o2,o3⟩:=h;exact ⟨a1,a2,a3,a4,a5,zaq o1 hb,zaq o2 hb,zaq o3 hb⟩
theorem XLM.kp {bad:TypeId} {W W':World} {B:Nat} {e:NG} {r:XL} (h:XLM W B e r) (hk:KP bad W W') (h2:70≠bad):XLM W' B e r:=⟨h.1,h.2.1,hk.own h.2.2 h2⟩
theorem XLM.base {W:World} {A B:Nat} {e:NG} {r:XL} (h:XLM W B e r) (hA:A<=B):XLM W A e r:=⟨h.1,h.2.1,zav h.2.2 hA⟩
theorem XLM.below {W W':World} {B:Nat} {e:NG} {r:XL} (h:XLM W B e r) (hb:Below W.heap.size W W'):XLM W' B e r:=⟨h.1,h.2.1,zaq h.2.2 hb⟩
def IXE (wo W:World) (B1:Nat) (t:List NE) (b j:Nat) (q:Option Addr) (c:Nat):Prop:=∃ R:List XE,R.length=j/\W.ownsRow B1 119 13 (.slice q j c) j (R.flatMap xeC)/\(∀ (i:Nat) (e:NE) (r:XE),t[i]?=some e->R[i]?=some r->XEM W B1 e (b+i) r)/\Below B1 wo W
def IXL (wo W:World) (B1:Nat) (t:List NG) (j:Nat) (q:Option Addr) (c:Nat):Prop:=∃ R:List XL,R.length=j/\W.ownsRow B1 122 2 (.slice q j c) j (R.flatMap xlC)/\(∀ (i:Nat) (e:NG) (r:XL),t[i]?=some e->R[i]?=some r->XLM W B1 e r)/\Below B1 wo W
theorem IXE.step {wo W W5:World} {B1 b j j9 c:Nat} {t:List NE} {q:Option Addr} {e:NE} {r:XE} (h:IXE wo W B1 t b j q c) (h5:Below W.heap.size W W5) (hB:B1<=W.heap.size) (he:t[j]?=some e) (hr:XEM W5 B1 e (b+j) r) (hj:j+1=j9) (hO:j9*152<=140737488355328) :
  ∃ q9 c9 W9,(Builtin.append_ #[113,113] 113 #[.slice q j c,.slice (some ⟨W5.heap.size,0,none⟩) 1 1]).run Tryz.prog (W5.alloc (.cells (xeC r).toArray 119 (0,0)))=.ok (.slice q9 j9 c9) W9/\IXE wo W9 B1 t b j9 q9 c9/\KP 119 W5 W9:=by
 subst hj;obtain ⟨R,h1,h2,h3,h4⟩:=h;have h2':=zaq h2 h5;obtain ⟨i0,hi,hz0,hz1,hz2⟩:=info_parts info_xe;obtain ⟨q9,c9,W9,hrr,o9,b9,kp,hc⟩:=zp3 (W:=W5) (TS:=113) (cs:=(xeC r).toArray) Tryz.underlying113 hi hz0 hz1 hz2 rfl (by decide) h2' (Nat.le_trans hB h5.size) rfl (xeC_one r) hO (by omega);have hk:=zij h2' kp;refine ⟨q9,c9,W9,hrr,⟨R++[r],by simp [h1],?_,fun i e9 r9 he9 hr9=>?_,?_⟩,hk⟩
 ·rw [List.flatMap_append]
  simpa using o9
 ·rcases Nat.lt_or_ge i R.length with hlt | hge
  ·rw [List.getElem?_append_left hlt] at hr9
   exact ((h3 i e9 r9 he9 hr9).below h5).kp hk (by decide) (by decide)
  ·have hi2:i=j:=by
    have:=(List.getElem?_eq_some_iff.1 hr9).1;rw [List.length_append,List.length_singleton] at this;omega
   subst hi2;rw [he] at he9;obtain rfl:=Option.some.inj he9;rw [List.getElem?_append_right hge,h1,Nat.sub_self] at hr9;obtain rfl:r=r9:=by simpa using hr9
   exact hr.kp hk (by decide) (by decide)
 ·exact (h4.trans (h5.mono hB)).trans b9
theorem IXL.step {wo W W5:World} {B1 j j9 c:Nat} {t:List NG} {q:Option Addr} {e:NG} {r:XL} (h:IXL wo W B1 t j q c) (h5:Below W.heap.size W W5) (hB:B1<=W.heap.size) (he:t[j]?=some e) (hr:XLM W5 B1 e r) (hj:j+1=j9) (hO:j9*32<=140737488355328) :
  ∃ q9 c9 W9,(Builtin.append_ #[120,120] 120 #[.slice q j c,.slice (some ⟨W5.heap.size,0,none⟩) 1 1]).run Tryz.prog (W5.alloc (.cells (xlC r).toArray 122 (0,0)))=.ok (.slice q9 j9 c9) W9/\IXL wo W9 B1 t j9 q9 c9/\KP 122 W5 W9:=by
 subst hj;obtain ⟨R,h1,h2,h3,h4⟩:=h;have h2':=zaq h2 h5;obtain ⟨i0,hi,hz0,hz1,hz2⟩:=info_parts info_xl;obtain ⟨q9,c9,W9,hrr,o9,b9,kp,hc⟩:=zp3 (W:=W5) (TS:=120) (cs:=(xlC r).toArray) Tryz.underlying120 hi hz0 hz1 hz2 rfl (by decide) h2' (Nat.le_trans hB h5.size) rfl (xlC_one r) hO (by omega);have hk:=zij h2' kp;refine ⟨q9,c9,W9,hrr,⟨R++[r],by simp [h1],?_,fun i e9 r9 he9 hr9=>?_,?_⟩,hk⟩
 ·rw [List.flatMap_append]
  simpa using o9
 ·rcases Nat.lt_or_ge i R.length with hlt | hge
  ·rw [List.getElem?_append_left hlt] at hr9
   exact ((h3 i e9 r9 he9 hr9).below h5).kp hk (by decide)
  ·have hi2:i=j:=by
    have:=(List.getElem?_eq_some_iff.1 hr9).1;rw [List.length_append,List.length_singleton] at this;omega
   subst hi2;rw [he] at he9;obtain rfl:=Option.some.inj he9;rw [List.getElem?_append_right hge,h1,Nat.sub_self] at hr9;obtain rfl:r=r9:=by simpa using hr9
   exact hr.kp hk (by decide)
 ·exact (h4.trans (h5.mono hB)).trans b9
def TBP (W:World) (B0:Nat) (n:NN) (i:Nat) (q:Option Addr) (c:Nat):Prop:=∃ (vs:List Value) (tb:List (List XE)),W.ownsRow B0 113 1 (.slice q i c) i vs/\TOK W B0 119 13 xeC vs tb/\tb.length=i/\∀ (k:Nat) (t:List NE) (R:List XE),n.tabs[k]?=some t->tb[k]?=some R->R.length=t.length/\∀ (j:Nat) (e:NE) (r:XE),t[j]?=some e->R[j]?=some r->XEM W B0 e (zd8 n k+j) r
def GBP (W:World) (B0:Nat) (n:NN) (i:Nat) (q:Option Addr) (c:Nat):Prop:=∃ (vs:List Value) (tb:List (List XL)),W.ownsRow B0 120 1 (.slice q i c) i vs/\TOK W B0 122 2 xlC vs tb/\tb.length=i/\∀ (k:Nat) (t:List NG) (R:List XL),n.grds[k]?=some t->tb[k]?=some R->R.length=t.length/\∀ (j:Nat) (e:NG) (r:XL),t[j]?=some e->R[j]?=some r->XLM W B0 e r
theorem TBP.kp {bad:TypeId} {W W':World} {B0 i c:Nat} {n:NN} {q:Option Addr} (h:TBP W B0 n i q c) (hk:KP bad W W') (h1:3≠bad) (h2:70≠bad) (h3:119≠bad) (h4:113≠bad):TBP W' B0 n i q c:=by
 obtain ⟨vs,tb,o1,o2,o3,o4⟩:=h;exact ⟨vs,tb,hk.own o1 h4,o2.keep (fun b cur hh=>hk b _ cur h3 hh),o3,fun k t R ht hR=>⟨(o4 k t R ht hR).1,fun j e r he hr=>((o4 k t R ht hR).2 j e r he hr).kp hk h1 h2⟩⟩
theorem GBP.kp {bad:TypeId} {W W':World} {B0 i c:Nat} {n:NN} {q:Option Addr} (h:GBP W B0 n i q c) (hk:KP bad W W') (h2:70≠bad) (h3:122≠bad) (h4:120≠bad):GBP W' B0 n i q c:=by
 obtain ⟨vs,tb,o1,o2,o3,o4⟩:=h;exact ⟨vs,tb,hk.own o1 h4,o2.keep (fun b cur hh=>hk b _ cur h3 hh),o3,fun k t R ht hR=>⟨(o4 k t R ht hR).1,fun j e r he hr=>((o4 k t R ht hR).2 j e r he hr).kp hk h2⟩⟩
theorem TBP.below {W W':World} {B0 i c:Nat} {n:NN} {q:Option Addr} (h:TBP W B0 n i q c) (hb:Below W.heap.size W W'):TBP W' B0 n i q c:=by
 obtain ⟨vs,tb,o1,o2,o3,o4⟩:=h;exact ⟨vs,tb,zaq o1 hb,o2.keep (fun b cur hh=>zae hb hh),o3,fun k t R ht hR=>⟨(o4 k t R ht hR).1,fun j e r he hr=>((o4 k t R ht hR).2 j e r he hr).below hb⟩⟩
theorem GBP.below {W W':World} {B0 i c:Nat} {n:NN} {q:Option Addr} (h:GBP W B0 n i q c) (hb:Below W.heap.size W W'):GBP W' B0 n i q c:=by
 obtain ⟨vs,tb,o1,o2,o3,o4⟩:=h;exact ⟨vs,tb,zaq o1 hb,o2.keep (fun b cur hh=>zae hb hh),o3,fun k t R ht hR=>⟨(o4 k t R ht hR).1,fun j e r he hr=>((o4 k t R ht hR).2 j e r he hr).below hb⟩⟩
def HRP (w W:World) (B b2 b3 B0:Nat) (N:Array Value) (n:NN) (pP:Option Addr) (np cP i:Nat) (q2:Option Addr) (c2 l:Nat) (q3:Option Addr) (c3:Nat):Prop:=
 (W.heap[B]?=some (.cells N 26 (0,0))/\W.heap[b2]?=some (.cells #[.slice none 0 0,.slice none 0 0,.slice none 0 0] 64 (0,0))/\W.heap[b3]?=some (.cells #[.slice pP np cP,.slice q2 i c2,.slice q3 l c3] 64 (0,0)))/\W.ownsRow 0 84 4 (.slice pP np cP) np (n.ports.flatMap npC)/\TBP W B0 n i q2 c2/\GBP W B0 n l q3 c3/\Below B w W/\B0<=W.heap.size
theorem HRP.stepT {w wo W:World} {B b2 b3 B0 np cP i l c2 c3 m c i9:Nat} {N:Array Value} {n:NN} {pP q2 q3 q:Option Addr} {t:List NE} (h:HRP w wo B b2 b3 B0 N n pP np cP i q2 c2 l q3 c3) (hb:B < b2/\b2 < b3/\b3 < B0) (hr:IXE wo W wo.heap.size t (zd8 n i) m q c) (hm:t.length=m) (hx:n.tabs[i]?=some t) (hk:i+1=i9) (hO:i9*24<=140737488355328) :
  ∃ q9 c9 W9,(Builtin.append_ #[61,61] 61 #[.slice q2 i c2,.slice (some ⟨W.heap.size,0,none⟩) 1 1]).run Tryz.prog (W.alloc (.cells #[.slice q m c] 113 (0,0)))=.ok (.slice q9 i9 c9) W9/\HRP w (W9.setCell ⟨b3,1,none⟩ (.slice q9 i9 c9)) B b2 b3 B0 N n pP np cP i9 q9 c9 l q3 c3/\W9.cell? ⟨b3,1,none⟩=some (.slice q2 i c2)/\W9.frozen? ⟨b3,1,none⟩=false:=by
 subst hk;obtain ⟨⟨h1,h2,h3⟩,hP,hT,hG,h5,h6⟩:=h;obtain ⟨R,r1,r2,r3,hr2⟩:=hr
 replace h1:=zae hr2 h1
 replace h2:=zae hr2 h2
 replace h3:=zae hr2 h3
 replace hP:=zaq hP hr2
 replace hT:=hT.below hr2
 replace hG:=hG.below hr2
 have hw6:B0<=W.heap.size:=Nat.le_trans h6 hr2.size;obtain ⟨vs,tb,o1,o2,o3,o4⟩:=hT;obtain ⟨i0,hi,hz0,hz1,hz2⟩:=info_parts info_xes;obtain ⟨q9,c9,W9,hrr,o9,b9,kp,hc⟩:=zp3 (W:=W) (TS:=61) (cs:=#[.slice q m c]) Tryz.underlying61 hi hz0 hz1 hz2 rfl (by decide) o1 hw6 rfl (sl_one q m c) hO (by omega);have hk:=zij o1 kp;have hlt:∀ b,b < B0->(Value.slice q2 i c2).ownBlock≠some b:=fun b hb9 e=>by
  have:=(World.ownsRow.lt o1 b e).1;omega
 have k1:W9.heap[B]?=_:=kp B _ h1 (hlt B (by omega));have k2:W9.heap[b2]?=_:=kp b2 _ h2 (hlt b2 (by omega));have k3:W9.heap[b3]?=_:=kp b3 _ h3 (hlt b3 (by omega));have hks:KP 64 W9 (W9.setCell ⟨b3,1,none⟩ (.slice q9 (i+1) c9)):=zjx k3;have hnew:W.ownsRow B0 119 13 (.slice q m c) R.length (R.flatMap xeC):=by
  rw [r1];exact zav r2 h6
 refine ⟨q9,c9,W9,hrr,⟨⟨?_,?_,?_⟩,hks.own (hk.own hP (by decide)) (by decide),?_,?_,?_,?_⟩,?_,(zaf k3).2 1⟩
 ·rw [zby _ _ _ _ _ (by omega)];exact k1
 ·rw [zby _ _ _ _ _ (by omega)];exact k2
 ·rw [zag _ k3];simp
 ·refine ⟨vs++[.slice q m c],tb++[R],hks.own o9 (by decide),((o2.snoc hnew).keep (fun b cur hh=>hk b _ cur (by decide) hh)).keep (fun b cur hh=>hks b _ cur (by decide) hh),by simp [o3],fun k t9 R9 ht9 hR9=>?_⟩
  have hst:∀ (e:NE) (kk:Nat) (r:XE),XEM W B0 e kk r->XEM (W9.setCell ⟨b3,1,none⟩ (.slice q9 (i+1) c9)) B0 e kk r:=fun e kk r he=>(he.kp hk (by decide) (by decide)).kp hks (by decide) (by decide);rcases Nat.lt_or_ge k tb.length with hlt9 | hge
  ·rw [List.getElem?_append_left hlt9] at hR9
   obtain ⟨p1,p2⟩:=o4 k t9 R9 ht9 hR9;exact ⟨p1,fun j e r he hr=>hst _ _ _ (p2 j e r he hr)⟩
  ·have hi2:k=i:=by
    have:=(List.getElem?_eq_some_iff.1 hR9).1;rw [List.length_append,List.length_singleton] at this;omega
   subst hi2;rw [hx] at ht9;obtain rfl:=Option.some.inj ht9;rw [List.getElem?_append_right hge,o3,Nat.sub_self] at hR9;obtain rfl:R=R9:=by simpa using hR9
   exact ⟨by omega,fun j e r he hr=>hst _ _ _ ((r3 j e r he hr).base h6)⟩
 ·exact (hG.kp hk (by decide) (by decide) (by decide)).kp hks (by decide) (by decide) (by decide)
 ·exact ((h5.trans (hr2.mono (by have:=zap h3;omega))).trans (b9.mono (by omega))).setCell (by show B<=b3;omega) _
 ·have:=b9.size
  simp;omega
 ·rw [(zaf k3).1];rfl
theorem HRP.stepG {w wo W:World} {B b2 b3 B0 np cP i l c2 c3 m c i9:Nat} {N:Array Value} {n:NN} {pP q2 q3 q:Option Addr} {t:List NG} (h:HRP w wo B b2 b3 B0 N n pP np cP i q2 c2 l q3 c3) (hb:B < b2/\b2 < b3/\b3 < B0) (hr:IXL wo W wo.heap.size t m q c) (hm:t.length=m) (hx:n.grds[l]?=some t) (hk:l+1=i9) (hO:i9*24<=140737488355328) :
  ∃ q9 c9 W9,(Builtin.append_ #[62,62] 62 #[.slice q3 l c3,.slice (some ⟨W.heap.size,0,none⟩) 1 1]).run Tryz.prog (W.alloc (.cells #[.slice q m c] 120 (0,0)))=.ok (.slice q9 i9 c9) W9/\HRP w (W9.setCell ⟨b3,2,none⟩ (.slice q9 i9 c9)) B b2 b3 B0 N n pP np cP i q2 c2 i9 q9 c9/\W9.cell? ⟨b3,2,none⟩=some (.slice q3 l c3)/\W9.frozen? ⟨b3,2,none⟩=false:=by
 subst hk;obtain ⟨⟨h1,h2,h3⟩,hP,hT,hG,h5,h6⟩:=h;obtain ⟨R,r1,r2,r3,hr2⟩:=hr
 replace h1:=zae hr2 h1
 replace h2:=zae hr2 h2
 replace h3:=zae hr2 h3
 replace hP:=zaq hP hr2
 replace hT:=hT.below hr2
 replace hG:=hG.below hr2
 have hw6:B0<=W.heap.size:=Nat.le_trans h6 hr2.size;obtain ⟨vs,tb,o1,o2,o3,o4⟩:=hG;obtain ⟨i0,hi,hz0,hz1,hz2⟩:=info_parts info_xls;obtain ⟨q9,c9,W9,hrr,o9,b9,kp,hc⟩:=zp3 (W:=W) (TS:=62) (cs:=#[.slice q m c]) Tryz.underlying62 hi hz0 hz1 hz2 rfl (by decide) o1 hw6 rfl (sl_one q m c) hO (by omega);have hk:=zij o1 kp;have hlt:∀ b,b < B0->(Value.slice q3 l c3).ownBlock≠some b:=fun b hb9 e=>by
  have:=(World.ownsRow.lt o1 b e).1;omega
 have k1:W9.heap[B]?=_:=kp B _ h1 (hlt B (by omega));have k2:W9.heap[b2]?=_:=kp b2 _ h2 (hlt b2 (by omega));have k3:W9.heap[b3]?=_:=kp b3 _ h3 (hlt b3 (by omega));have hks:KP 64 W9 (W9.setCell ⟨b3,2,none⟩ (.slice q9 (l+1) c9)):=zjx k3;have hnew:W.ownsRow B0 122 2 (.slice q m c) R.length (R.flatMap xlC):=by
  rw [r1];exact zav r2 h6
 refine ⟨q9,c9,W9,hrr,⟨⟨?_,?_,?_⟩,hks.own (hk.own hP (by decide)) (by decide),?_,?_,?_,?_⟩,?_,(zaf k3).2 2⟩
 ·rw [zby _ _ _ _ _ (by omega)];exact k1
 ·rw [zby _ _ _ _ _ (by omega)];exact k2
 ·rw [zag _ k3];simp
 ·exact (hT.kp hk (by decide) (by decide) (by decide) (by decide)).kp hks (by decide) (by decide) (by decide) (by decide)
 ·refine ⟨vs++[.slice q m c],tb++[R],hks.own o9 (by decide),((o2.snoc hnew).keep (fun b cur hh=>hk b _ cur (by decide) hh)).keep (fun b cur hh=>hks b _ cur (by decide) hh),by simp [o3],fun k t9 R9 ht9 hR9=>?_⟩
  have hst:∀ (e:NG) (r:XL),XLM W B0 e r->XLM (W9.setCell ⟨b3,2,none⟩ (.slice q9 (l+1) c9)) B0 e r:=fun e r he=>(he.kp hk (by decide)).kp hks (by decide);rcases Nat.lt_or_ge k tb.length with hlt9 | hge
  ·rw [List.getElem?_append_left hlt9] at hR9
   obtain ⟨p1,p2⟩:=o4 k t9 R9 ht9 hR9;exact ⟨p1,fun j e r he hr=>hst _ _ (p2 j e r he hr)⟩
  ·have hi2:k=l:=by
    have:=(List.getElem?_eq_some_iff.1 hR9).1;rw [List.length_append,List.length_singleton] at this;omega
   subst hi2;rw [hx] at ht9;obtain rfl:=Option.some.inj ht9;rw [List.getElem?_append_right hge,o3,Nat.sub_self] at hR9;obtain rfl:R=R9:=by simpa using hR9
   exact ⟨by omega,fun j e r he hr=>hst _ _ ((r3 j e r he hr).base h6)⟩
 ·exact ((h5.trans (hr2.mono (by have:=zap h3;omega))).trans (b9.mono (by omega))).setCell (by show B<=b3;omega) _
 ·have:=b9.size
  simp;omega
 ·rw [(zaf k3).1];rfl
theorem zk5 {W:World} {B n c:Nat} {p:Option Addr} {L:List Int} (h:W.ownsRow B 3 1 (.slice p n c) n (inZ L)) (hn:L.length=n):LI W p L:=fun k x hx=>by
 have hk:=(List.getElem?_eq_some_iff.1 hx).1;obtain ⟨g,rfl⟩:=zds h (by omega);exact ⟨g,0,rfl,by rw [Nat.zero_add];exact zgm h (by simp [inZ,hx])⟩
theorem zjq {W:World} {B n c:Nat} {p:Option Addr} {L:List (List UInt8)} (h:W.ownsRow B 70 9 (.slice p n c) n (L.flatMap zcp)) (hn:L.length=n):RowL 9 zcp W p L:=zbm cubC_len h hn
theorem TBP.lxt {W:World} {B0 i c:Nat} {n:NN} {q:Option Addr} (h:TBP W B0 n i q c) (hn:n.tabs.length=i):LXT W q n:=fun k t ht=>by
 obtain ⟨vs,tb,o1,o2,o3,o4⟩:=h;have hk:=(List.getElem?_eq_some_iff.1 ht).1;obtain ⟨R,hR⟩:∃ R,tb[k]?=some R:=⟨_,List.getElem?_eq_getElem (by omega)⟩;obtain ⟨g,o,q9,c9,e9,a0,hrow,-⟩:=zpd xeC_len o1 o3 o2 k R hR;obtain ⟨p1,p2⟩:=o4 k t R ht hR;refine ⟨g,o,q9,c9,e9,by rw [<-p1];exact a0,fun j e he=>?_⟩;have hj:=(List.getElem?_eq_some_iff.1 he).1;obtain ⟨r,hr⟩:∃ r,R[j]?=some r:=⟨_,List.getElem?_eq_getElem (by omega)⟩;obtain ⟨g2,o2',e2,hc⟩:=hrow j r hr;obtain ⟨x1,x2,x3,x4,x5,y1,y2,y3⟩:=p2 j e r he hr;refine ⟨g2,o2',r.pi,r.ci,r.po,r.co,r.pc,r.cc,e2,?_,?_,?_,?_,fun m v hv=>?_,zk5 y1 x2.symm,zk5 y2 x3.symm,zjq y3 x4.symm⟩
 ·rw [<-x1];exact hc 0 _ rfl
 ·rw [<-x2];exact hc 1 _ rfl
 ·rw [<-x3];exact hc 2 _ rfl
 ·rw [<-x4];exact hc 3 _ rfl
 ·rw [<-x5] at hv
  rw [show o2'+j*13+4+m=o2'+j*13+(m+4) by omega];exact hc (m+4) v hv
theorem GBP.lxg {W:World} {B0 i c:Nat} {n:NN} {q:Option Addr} (h:GBP W B0 n i q c) (hn:n.grds.length=i):LXG W q n:=fun k t ht=>by
 obtain ⟨vs,tb,o1,o2,o3,o4⟩:=h;have hk:=(List.getElem?_eq_some_iff.1 ht).1;obtain ⟨R,hR⟩:∃ R,tb[k]?=some R:=⟨_,List.getElem?_eq_getElem (by omega)⟩;obtain ⟨g,o,q9,c9,e9,a0,hrow,-⟩:=zpd xlC_len o1 o3 o2 k R hR;obtain ⟨p1,p2⟩:=o4 k t R ht hR;refine ⟨g,o,q9,c9,e9,by rw [<-p1];exact a0,fun j e he=>?_⟩;have hj:=(List.getElem?_eq_some_iff.1 he).1;obtain ⟨r,hr⟩:∃ r,R[j]?=some r:=⟨_,List.getElem?_eq_getElem (by omega)⟩;obtain ⟨g2,o2',e2,hc⟩:=hrow j r hr;obtain ⟨x1,x4,y3⟩:=p2 j e r he hr;refine ⟨g2,o2',r.pc,r.cc,e2,?_,?_,zjq y3 x4.symm⟩
 ·rw [<-x1];exact hc 0 _ rfl
 ·rw [<-x4];exact hc 1 _ rfl
def KQ (L:List TypeId) (W W':World):Prop:=∀ (b:Nat) (T:TypeId) (cur:Array Value) (fr:Nat×Nat),T∈L->W.heap[b]?=some (Obj.cells cur T fr)->W'.heap[b]?=some (Obj.cells cur T fr)
theorem KQ.refl (L:List TypeId) (W:World):KQ L W W:=fun _ _ _ _ _ h=>h
theorem KQ.trans {L:List TypeId} {W W' W'':World} (h:KQ L W W') (g:KQ L W' W''):KQ L W W'':=fun b T cur fr hT hb=>g b T cur fr hT (h b T cur fr hT hb)
theorem KQ.below {L:List TypeId} {W W':World} (h:Below W.heap.size W W'):KQ L W W':=fun _ _ _ _ _ hb=>zae h hb
theorem KQ.own {L:List TypeId} {W W':World} (hk:KQ L W W') {B:Nat} {T:TypeId} {s n:Nat} {v:Value} {xs:List Value} (h:W.ownsRow B T s v n xs) (hT:T∈L):W'.ownsRow B T s v n xs:=zfz h (fun b cur hh=>hk b T cur _ hT hh)
theorem XEM.kq {L:List TypeId} {W W':World} {B k:Nat} {e:NE} {r:XE} (h:XEM W B e k r) (hk:KQ L W W') (h1:3∈L) (h2:70∈L):XEM W' B e k r:=by
 obtain ⟨a1,a2,a3,a4,a5,o1,o2,o3⟩:=h;exact ⟨a1,a2,a3,a4,a5,hk.own o1 h1,hk.own o2 h1,hk.own o3 h2⟩
theorem XLM.kq {L:List TypeId} {W W':World} {B:Nat} {e:NG} {r:XL} (h:XLM W B e r) (hk:KQ L W W') (h2:70∈L):XLM W' B e r:=⟨h.1,h.2.1,hk.own h.2.2 h2⟩
theorem TBP.kq {L:List TypeId} {W W':World} {B0 i c:Nat} {n:NN} {q:Option Addr} (h:TBP W B0 n i q c) (hk:KQ L W W') (h1:3∈L) (h2:70∈L) (h3:119∈L) (h4:113∈L):TBP W' B0 n i q c:=by
 obtain ⟨vs,tb,o1,o2,o3,o4⟩:=h;exact ⟨vs,tb,hk.own o1 h4,o2.keep (fun b cur hh=>hk b _ cur _ h3 hh),o3,fun k t R ht hR=>⟨(o4 k t R ht hR).1,fun j e r he hr=>((o4 k t R ht hR).2 j e r he hr).kq hk h1 h2⟩⟩
theorem GBP.kq {L:List TypeId} {W W':World} {B0 i c:Nat} {n:NN} {q:Option Addr} (h:GBP W B0 n i q c) (hk:KQ L W W') (h2:70∈L) (h3:122∈L) (h4:120∈L):GBP W' B0 n i q c:=by
 obtain ⟨vs,tb,o1,o2,o3,o4⟩:=h;exact ⟨vs,tb,hk.own o1 h4,o2.keep (fun b cur hh=>hk b _ cur _ h3 hh),o3,fun k t R ht hR=>⟨(o4 k t R ht hR).1,fun j e r he hr=>((o4 k t R ht hR).2 j e r he hr).kq hk h2⟩⟩
def NTY:List TypeId:=[84,3,70,119,113,122,120]
def NK (W:World) (n:NN) (v:NV):Prop:=∀ U,KQ NTY W U->NW U n v
theorem NK.nw {W:World} {n:NN} {v:NV} (h:NK W n v):NW W n v:=h W (KQ.refl _ _)
theorem NK.kq {W U:World} {n:NN} {v:NV} (h:NK W n v) (hk:KQ NTY W U):NK U n v:=fun V hV=>h V (hk.trans hV)
theorem NK.below {W U:World} {n:NN} {v:NV} (h:NK W n v) (hb:Below W.heap.size W U):NK U n v:=h.kq (KQ.below hb)
theorem HRP.fin2 {w W:World} {B b2 b3 B0 np nt ng cP c2 c3:Nat} {N:Array Value} {n:NN} {pP q2 q3:Option Addr} (h:HRP w W B b2 b3 B0 N n pP np cP nt q2 c2 ng q3 c3) (hb:B < b2/\b2 < b3/\b3 < B0) (h1:n.ports.length=np) (h2:n.tabs.length=nt) (h3:n.grds.length=ng) :
  NK (((W.setCell ⟨b2,0,none⟩ (.slice pP np cP)).setCell ⟨b2,1,none⟩ (.slice q2 nt c2)).setCell ⟨b2,2,none⟩ (.slice q3 ng c3)) n ⟨pP,cP,q2,c2,q3,c3⟩/\Below B w (((W.setCell ⟨b2,0,none⟩ (.slice pP np cP)).setCell ⟨b2,1,none⟩ (.slice q2 nt c2)).setCell ⟨b2,2,none⟩ (.slice q3 ng c3)):=by
 obtain ⟨⟨k1,k2,k3⟩,hP,hT,hG,h5,h6⟩:=h;have z0:=zag (j:=0) (.slice pP np cP) k2;have z1:=zag (j:=1) (.slice q2 nt c2) z0;have g0:KP 64 W _:=zjx (a:=0) (v:=.slice pP np cP) k2;have g1:KP 64 _ _:=zjx (a:=1) (v:=.slice q2 nt c2) z0;have g2:KP 64 _ _:=zjx (a:=2) (v:=.slice q3 ng c3) z1;have hk:KP 64 W (((W.setCell ⟨b2,0,none⟩ (.slice pP np cP)).setCell ⟨b2,1,none⟩ (.slice q2 nt c2)).setCell ⟨b2,2,none⟩ (.slice q3 ng c3)):=fun b T cur hT9 hh=>g2 b T cur hT9 (g1 b T cur hT9 (g0 b T cur hT9 hh));have p1:=hk.own hP (by decide);have p2:=hT.kp hk (by decide) (by decide) (by decide) (by decide);have p3:=hG.kp hk (by decide) (by decide) (by decide);refine ⟨fun U hU=>⟨rowL_lp (zbm zlc (hU.own p1 (by decide)) h1),(p2.kq hU (by decide) (by decide) (by decide) (by decide)).lxt h2,(p3.kq hU (by decide) (by decide) (by decide)).lxg h3⟩,?_⟩;exact ((h5.setCell (by show B<=b2;omega) _).setCell (by show B<=b2;omega) _).setCell (by show B<=b2;omega) _
end Go.Proofs.YtmfakcfmkmppfaaGreatDoor.Nt
