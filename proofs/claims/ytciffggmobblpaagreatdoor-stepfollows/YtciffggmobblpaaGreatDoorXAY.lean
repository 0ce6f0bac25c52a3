import Derived.Test.YtciffggmobblpaaGreatDoorXAX
namespace Go.Proofs.YtciffggmobblpaaGreatDoor.Nt
open Go.RowKit Go.Shelf
def RRL {α:Type} (sz:Nat) (f:α→List Value) (W:World) (p:Option Addr) (tb:List (List α)):Prop:=∀ (k:Nat) (t:List α),tb[k]?=some t→∃ g o q c,p=some ⟨g,o,none⟩∧W.cell? ⟨g,o+k,none⟩=some (.slice q t.length c)∧RowL sz f W q t∧t.length≤c
def BXS (W:World) (B b2 b3:Nat) (N M:Array Value):Prop:=W.heap[B]?=some (.cells N 26 (0,0))∧W.heap[b2]?=some (.cells #[.int .i64 0,.slice none 0 0,.slice none 0 0,.slice none 0 0] 26 (0,0))∧W.heap[b3]?=some (.cells M 26 (0,0))
def HS0 (w W:World) (B b2 b3 B0:Nat) (N:Array Value) (bits:Int) (ports:List NP) (k:Nat) (p:Option Addr) (c:Nat):Prop:=BXS W B b2 b3 N #[.int .i64 bits,.slice p k c,.slice none 0 0,.slice none 0 0]∧W.ownsRow B0 36 4 (.slice p k c) k ((ports.take k).flatMap npC)∧Below B w W∧B0≤W.heap.size
theorem npC_one (x:NP):∀ u∈(npC x).toArray.toList,u.oneCell'=true:=by
 intro u hu
 simp only [npC,List.mem_cons,List.not_mem_nil,or_false] at hu
 rcases hu with rfl | rfl | rfl | rfl <;> rfl
theorem HS0.step {w W:World} {B b2 b3 B0 k k9:Nat} {N:Array Value} {bits:Int} {ports:List NP} {p:Option Addr} {c:Nat} {x:NP} (h:HS0 w W B b2 b3 B0 N bits ports k p c) (hb:B < b2∧b2 < b3∧b3 < B0) (hx:ports[k]?=some x) (hk:k+1=k9) (hO:k9*40≤140737488355328) :
  ∃ q c9 W9,(Builtin.append_ #[22,22] 22 #[.slice p k c,.slice (some ⟨W.heap.size,0,none⟩) 1 1]).run Tryz.prog (W.drew.alloc (.cells #[.string ⟨x.nm.toArray⟩,.int .i64 x.bx,.bool x.inn,.int .i64 x.lk] 36 (0,0)))=.ok (.slice q k9 c9) W9∧HS0 w (W9.setCell ⟨b3,1,none⟩ (.slice q k9 c9)) B b2 b3 B0 N bits ports k9 q c9∧W9.cell? ⟨b3,1,none⟩=some (.slice p k c)∧W9.frozen? ⟨b3,1,none⟩=false∧Below B0 W W9:=by
 subst hk
 obtain ⟨⟨h1,h2,h3⟩,h4,h5,h6⟩:=h
 obtain ⟨i0,hi,hz0,hz1,hz2⟩:=info_parts info_port
 obtain ⟨q,c9,W9,hr,o9,b9,kp,hc⟩:=pushR (W:=W.drew) (TS:=22) (cs:=(npC x).toArray) Tryz.underlying22 hi hz0 hz1 hz2 rfl (by decide) (own_belZ h4 (Below.refl _ _).drew) h6 rfl (npC_one x) hO (by omega)
 replace b9:Below B0 W W9:=(Below.refl B0 W).drew.trans b9
 have hlt:∀ b,b < B0→(Value.slice p k c).ownBlock≠some b:=fun b hb9 e=>by
  have:=(World.ownsRow.lt h4 b e).1
  omega
 have k1:W9.heap[B]?=_:=kp B _ h1 (hlt B (by omega))
 have k2:W9.heap[b2]?=_:=kp b2 _ h2 (hlt b2 (by omega))
 have k3:W9.heap[b3]?=_:=kp b3 _ h3 (hlt b3 (by omega))
 have o9':W9.ownsRow B0 36 4 (.slice q (k+1) c9) (k+1) ((ports.take (k+1)).flatMap npC):=by
  rw [rflat_snoc hx]
  simpa using o9
 refine ⟨q,c9,W9,hr,⟨⟨?_,?_,?_⟩,?_,?_,?_⟩,?_,(cellsZ k3).2 1,b9⟩
 ·rw [far1 _ _ _ _ _ (by omega)];exact k1
 ·rw [far1 _ _ _ _ _ (by omega)];exact k2
 ·rw [set_getZ _ k3];simp
 ·exact World.ownsRow.kept o9' (gr_setZ _ _ _ _) (.inr (fun e=>by have:=(World.ownsRow.lt o9' b3 (by first | exact e | exact e.symm)).1;omega))
 ·exact (h5.trans (b9.mono (by omega))).setCell (by show B≤b3;omega) _
 ·have:=b9.size
  simp
  omega
 ·rw [(cellsZ k3).1];rfl
theorem sl_one (q:Option Addr) (m c:Nat):∀ u∈(#[Value.slice q m c]:Array Value).toList,u.oneCell'=true:=by
 intro u hu
 have hu:u=.slice q m c:=by simpa using hu
 rw [hu]
 rfl
theorem own_blk {W:World} {B:Nat} {T:TypeId} {s n g:Nat} {v:Value} {xs:List Value} (h:W.ownsRow B T s v n xs) (e:v.ownBlock=some g):∃ cur,W.heap[g]?=some (Obj.cells cur T (0,0)):=by
 obtain ⟨_,⟨rfl,_⟩ | ⟨g2,c,cur,rfl,_,hg,_⟩⟩:=h
 ·cases e
 ·obtain rfl:g2=g:=by simpa [Value.ownBlock] using e
  exact ⟨cur,hg⟩
theorem own_keep {W W':World} {B:Nat} {T:TypeId} {s n:Nat} {v:Value} {xs:List Value} (h:W.ownsRow B T s v n xs) (hw:∀ (b:Nat) (cur:Array Value),W.heap[b]?=some (Obj.cells cur T (0,0))→W'.heap[b]?=some (Obj.cells cur T (0,0))):W'.ownsRow B T s v n xs:=by
 obtain ⟨hx,h0 | ⟨g,c,cur,e,hB,hg,r⟩⟩:=h
 ·exact ⟨hx,.inl h0⟩
 ·exact ⟨hx,.inr ⟨g,c,cur,e,hB,hw g cur hg,r⟩⟩
def HSG (w W:World) (B b2 b3 B0:Nat) (N:Array Value) (bits:Int) (ports:List NP) (np:Nat) (p1:Option Addr) (c1:Nat) (tb:List (List RE)) (i:Nat) (q2:Option Addr) (c2:Nat) (gd:List (List RG)) (l:Nat) (q3:Option Addr) (c3:Nat):Prop:=
 BXS W B b2 b3 N #[.int .i64 bits,.slice p1 np c1,.slice q2 i c2,.slice q3 l c3]∧W.ownsRow B0 36 4 (.slice p1 np c1) np (ports.flatMap npC)∧(∃ vs,W.ownsRow B0 37 1 (.slice q2 i c2) i vs∧TOK W B0 41 5 reC vs (tb.take i))∧(∃ vs,W.ownsRow B0 43 1 (.slice q3 l c3) l vs∧TOK W B0 81 2 rgC vs (gd.take l))∧Below B w W∧B0≤W.heap.size
theorem HS0.toG {w W:World} {B b2 b3 B0 np:Nat} {N:Array Value} {bits:Int} {ports:List NP} {p:Option Addr} {c:Nat} (h:HS0 w W B b2 b3 B0 N bits ports np p c) (hn:ports.length=np) (tb:List (List RE)) (gd:List (List RG)):HSG w W B b2 b3 B0 N bits ports np p c tb 0 none 0 gd 0 none 0:=by
 obtain ⟨h1,h2,h3,h4⟩:=h
 rw [List.take_of_length_le (by omega)] at h2
 exact ⟨h1,h2,⟨[],World.ownsRow_nil _ _ _ _,rfl,fun i v t hv=>by simp at hv⟩,⟨[],World.ownsRow_nil _ _ _ _,rfl,fun i v t hv=>by simp at hv⟩,h3,h4⟩
def IR {α:Type} (wo W:World) (B1:Nat) (T:TypeId) (sz:Nat) (f:α→List Value) (t:List α) (j:Nat) (q:Option Addr) (c:Nat):Prop:=W.ownsRow B1 T sz (.slice q j c) j ((t.take j).flatMap f)∧Below B1 wo W
theorem reC_one (x:RE):∀ u∈(reC x).toArray.toList,u.oneCell'=true:=by
 intro u hu
 simp only [reC,List.mem_cons,List.not_mem_nil,or_false] at hu
 rcases hu with rfl | rfl | rfl | rfl | rfl <;> rfl
theorem rgC_one (x:RG):∀ u∈(rgC x).toArray.toList,u.oneCell'=true:=by
 intro u hu
 simp only [rgC,List.mem_cons,List.not_mem_nil,or_false] at hu
 rcases hu with rfl | rfl <;> rfl
theorem ir_entry {wo W:World} {j j9:Nat} {t:List RE} {q:Option Addr} {c:Nat} {x:RE} (h:IR wo W wo.heap.size 41 5 reC t j q c) (hx:t[j]?=some x) (hk:j+1=j9) (hO:j9*104≤140737488355328) :
  ∃ q9 c9 W9,(Builtin.append_ #[37,37] 37 #[.slice q j c,.slice (some ⟨W.heap.size,0,none⟩) 1 1]).run Tryz.prog (W.alloc (.cells #[.string ⟨x.nm.toArray⟩,.slice x.pi x.ni x.ci,.slice x.pc x.nc x.cc,.string ⟨x.wr.toArray⟩,.slice x.po x.no x.co] 41 (0,0)))=.ok (.slice q9 j9 c9) W9∧IR wo W9 wo.heap.size 41 5 reC t j9 q9 c9:=by
 subst hk
 obtain ⟨h1,h2⟩:=h
 obtain ⟨i0,hi,hz0,hz1,hz2⟩:=info_parts info_entry
 obtain ⟨q9,c9,W9,hr,o9,b9,kp,hc⟩:=pushR (W:=W) (TS:=37) (cs:=(reC x).toArray) Tryz.underlying37 hi hz0 hz1 hz2 rfl (by decide) h1 h2.size rfl (reC_one x) hO (by omega)
 refine ⟨q9,c9,W9,hr,?_,h2.trans b9⟩
 rw [rflat_snoc hx]
 simpa using o9
theorem ir_guard {wo W:World} {j j9:Nat} {t:List RG} {q:Option Addr} {c:Nat} {x:RG} (h:IR wo W wo.heap.size 81 2 rgC t j q c) (hx:t[j]?=some x) (hk:j+1=j9) (hO:j9*32≤140737488355328) :
  ∃ q9 c9 W9,(Builtin.append_ #[43,43] 43 #[.slice q j c,.slice (some ⟨W.heap.size,0,none⟩) 1 1]).run Tryz.prog (W.alloc (.cells #[.bool x.pm,.slice x.pc x.nc x.cc] 81 (0,0)))=.ok (.slice q9 j9 c9) W9∧IR wo W9 wo.heap.size 81 2 rgC t j9 q9 c9:=by
 subst hk
 obtain ⟨h1,h2⟩:=h
 obtain ⟨i0,hi,hz0,hz1,hz2⟩:=info_parts info_guard
 obtain ⟨q9,c9,W9,hr,o9,b9,kp,hc⟩:=pushR (W:=W) (TS:=43) (cs:=(rgC x).toArray) Tryz.underlying43 hi hz0 hz1 hz2 rfl (by decide) h1 h2.size rfl (rgC_one x) hO (by omega)
 refine ⟨q9,c9,W9,hr,?_,h2.trans b9⟩
 rw [rflat_snoc hx]
 simpa using o9
theorem HSG.stepT {w wo W:World} {B b2 b3 B0 np i i9 l m:Nat} {N:Array Value} {bits:Int} {ports:List NP} {tb:List (List RE)} {gd:List (List RG)} {p1 q2 q3 q:Option Addr} {c1 c2 c3 c:Nat} {t:List RE} (h:HSG w wo B b2 b3 B0 N bits ports np p1 c1 tb i q2 c2 gd l q3 c3) (hb:B < b2∧b2 < b3∧b3 < B0) (hr:IR wo W wo.heap.size 41 5 reC t m q c) (hm:t.length=m) (hx:tb[i]?=some t) (hk:i+1=i9) (hO:i9*24≤140737488355328) :
  ∃ q9 c9 W9,(Builtin.append_ #[23,23] 23 #[.slice q2 i c2,.slice (some ⟨W.heap.size,0,none⟩) 1 1]).run Tryz.prog (W.alloc (.cells #[.slice q m c] 37 (0,0)))=.ok (.slice q9 i9 c9) W9∧HSG w (W9.setCell ⟨b3,2,none⟩ (.slice q9 i9 c9)) B b2 b3 B0 N bits ports np p1 c1 tb i9 q9 c9 gd l q3 c3∧W9.cell? ⟨b3,2,none⟩=some (.slice q2 i c2)∧W9.frozen? ⟨b3,2,none⟩=false:=by
 subst hk
 obtain ⟨⟨h1,h2,h3⟩,hP,⟨vT,hT,hTK⟩,⟨vG,hG,hGK⟩,h5,h6⟩:=h
 obtain ⟨hr1,hr2⟩:=hr
 replace h1:=keepZ hr2 h1
 replace h2:=keepZ hr2 h2
 replace h3:=keepZ hr2 h3
 replace hP:=own_belZ hP hr2
 replace hT:=own_belZ hT hr2
 replace hG:=own_belZ hG hr2
 replace hTK:=hTK.keep (fun b cur hh=>keepZ hr2 hh)
 replace hGK:=hGK.keep (fun b cur hh=>keepZ hr2 hh)
 have hw6:B0≤W.heap.size:=Nat.le_trans h6 hr2.size
 obtain ⟨i0,hi,hz0,hz1,hz2⟩:=info_parts info_tab
 obtain ⟨q9,c9,W9,hrr,o9,b9,kp,hc⟩:=pushR (W:=W) (TS:=23) (cs:=#[.slice q m c]) Tryz.underlying23 hi hz0 hz1 hz2 rfl (by decide) hT hw6 rfl (sl_one q m c) hO (by omega)
 have hlt:∀ b,b < B0→(Value.slice q2 i c2).ownBlock≠some b:=fun b hb9 e=>by
  have:=(World.ownsRow.lt hT b e).1
  omega
 have hty:∀ (T:TypeId),T≠37→∀ (b:Nat) (cur:Array Value),W.heap[b]?=some (Obj.cells cur T (0,0))→W9.heap[b]?=some (Obj.cells cur T (0,0)):=fun T hne b cur hh=>kp b _ hh (fun e=>by
  obtain ⟨cur2,hc2⟩:=own_blk hT e
  rw [hc2] at hh
  injection hh with hh
  injection hh with _ e2 _
  exact hne e2.symm)
 have k1:W9.heap[B]?=_:=kp B _ h1 (hlt B (by omega))
 have k2:W9.heap[b2]?=_:=kp b2 _ h2 (hlt b2 (by omega))
 have k3:W9.heap[b3]?=_:=kp b3 _ h3 (hlt b3 (by omega))
 have hst:∀ (T:TypeId),T≠26→∀ (b:Nat) (cur:Array Value),W9.heap[b]?=some (Obj.cells cur T (0,0))→(W9.setCell ⟨b3,2,none⟩ (.slice q9 (i+1) c9)).heap[b]?=some (Obj.cells cur T (0,0)):=fun T hne b cur hh=>by
  rw [far1 _ _ _ _ _ (fun e=>by
   subst e
   rw [k3] at hh
   injection hh with hh
   injection hh with _ e2 _
   exact hne e2.symm)]
  exact hh
 have hnew:W.ownsRow B0 41 5 (.slice q m c) t.length (t.flatMap reC):=by
  have:=own_baseZ hr1 h6
  rw [List.take_of_length_le (by omega)] at this
  rw [hm]
  exact this
 refine ⟨q9,c9,W9,hrr,⟨⟨?_,?_,?_⟩,?_,?_,?_,?_,?_⟩,?_,(cellsZ k3).2 2⟩
 ·rw [far1 _ _ _ _ _ (by omega)];exact k1
 ·rw [far1 _ _ _ _ _ (by omega)];exact k2
 ·rw [set_getZ _ k3];simp
 ·exact own_keep hP (fun b cur hh=>hst _ (by decide) b cur (hty _ (by decide) b cur hh))
 ·refine ⟨vT++[.slice q m c],own_keep o9 (fun b cur hh=>hst _ (by decide) b cur hh),?_⟩
  rw [show tb.take (i+1)=tb.take i++[t] by rw [List.take_add_one,hx];rfl]
  exact (hTK.snoc hnew).keep (fun b cur hh=>hst _ (by decide) b cur (hty _ (by decide) b cur hh))
 ·exact ⟨vG,own_keep hG (fun b cur hh=>hst _ (by decide) b cur (hty _ (by decide) b cur hh)),hGK.keep (fun b cur hh=>hst _ (by decide) b cur (hty _ (by decide) b cur hh))⟩
 ·exact ((h5.trans (hr2.mono (by have:=lt_getZ h3;omega))).trans (b9.mono (by omega))).setCell (by show B≤b3;omega) _
 ·have:=b9.size
  simp
  omega
 ·rw [(cellsZ k3).1];rfl
theorem HSG.stepG {w wo W:World} {B b2 b3 B0 np i i9 l m:Nat} {N:Array Value} {bits:Int} {ports:List NP} {tb:List (List RE)} {gd:List (List RG)} {p1 q2 q3 q:Option Addr} {c1 c2 c3 c:Nat} {t:List RG} (h:HSG w wo B b2 b3 B0 N bits ports np p1 c1 tb i q2 c2 gd l q3 c3) (hb:B < b2∧b2 < b3∧b3 < B0) (hr:IR wo W wo.heap.size 81 2 rgC t m q c) (hm:t.length=m) (hx:gd[l]?=some t) (hk:l+1=i9) (hO:i9*24≤140737488355328) :
  ∃ q9 c9 W9,(Builtin.append_ #[24,24] 24 #[.slice q3 l c3,.slice (some ⟨W.heap.size,0,none⟩) 1 1]).run Tryz.prog (W.alloc (.cells #[.slice q m c] 43 (0,0)))=.ok (.slice q9 i9 c9) W9∧HSG w (W9.setCell ⟨b3,3,none⟩ (.slice q9 i9 c9)) B b2 b3 B0 N bits ports np p1 c1 tb i q2 c2 gd i9 q9 c9∧W9.cell? ⟨b3,3,none⟩=some (.slice q3 l c3)∧W9.frozen? ⟨b3,3,none⟩=false:=by
 subst hk
 obtain ⟨⟨h1,h2,h3⟩,hP,⟨vT,hT,hTK⟩,⟨vG,hG,hGK⟩,h5,h6⟩:=h
 obtain ⟨hr1,hr2⟩:=hr
 replace h1:=keepZ hr2 h1
 replace h2:=keepZ hr2 h2
 replace h3:=keepZ hr2 h3
 replace hP:=own_belZ hP hr2
 replace hT:=own_belZ hT hr2
 replace hG:=own_belZ hG hr2
 replace hTK:=hTK.keep (fun b cur hh=>keepZ hr2 hh)
 replace hGK:=hGK.keep (fun b cur hh=>keepZ hr2 hh)
 have hw6:B0≤W.heap.size:=Nat.le_trans h6 hr2.size
 obtain ⟨i0,hi,hz0,hz1,hz2⟩:=info_parts info_gds
 obtain ⟨q9,c9,W9,hrr,o9,b9,kp,hc⟩:=pushR (W:=W) (TS:=24) (cs:=#[.slice q m c]) Tryz.underlying24 hi hz0 hz1 hz2 rfl (by decide) hG hw6 rfl (sl_one q m c) hO (by omega)
 have hlt:∀ b,b < B0→(Value.slice q3 l c3).ownBlock≠some b:=fun b hb9 e=>by
  have:=(World.ownsRow.lt hG b e).1
  omega
 have hty:∀ (T:TypeId),T≠43→∀ (b:Nat) (cur:Array Value),W.heap[b]?=some (Obj.cells cur T (0,0))→W9.heap[b]?=some (Obj.cells cur T (0,0)):=fun T hne b cur hh=>kp b _ hh (fun e=>by
  obtain ⟨cur2,hc2⟩:=own_blk hG e
  rw [hc2] at hh
  injection hh with hh
  injection hh with _ e2 _
  exact hne e2.symm)
 have k1:W9.heap[B]?=_:=kp B _ h1 (hlt B (by omega))
 have k2:W9.heap[b2]?=_:=kp b2 _ h2 (hlt b2 (by omega))
 have k3:W9.heap[b3]?=_:=kp b3 _ h3 (hlt b3 (by omega))
 have hst:∀ (T:TypeId),T≠26→∀ (b:Nat) (cur:Array Value),W9.heap[b]?=some (Obj.cells cur T (0,0))→(W9.setCell ⟨b3,3,none⟩ (.slice q9 (l+1) c9)).heap[b]?=some (Obj.cells cur T (0,0)):=fun T hne b cur hh=>by
  rw [far1 _ _ _ _ _ (fun e=>by
   subst e
   rw [k3] at hh
   injection hh with hh
   injection hh with _ e2 _
   exact hne e2.symm)]
  exact hh
 have hnew:W.ownsRow B0 81 2 (.slice q m c) t.length (t.flatMap rgC):=by
  have:=own_baseZ hr1 h6
  rw [List.take_of_length_le (by omega)] at this
  rw [hm]
  exact this
 refine ⟨q9,c9,W9,hrr,⟨⟨?_,?_,?_⟩,?_,?_,?_,?_,?_⟩,?_,(cellsZ k3).2 3⟩
 ·rw [far1 _ _ _ _ _ (by omega)];exact k1
 ·rw [far1 _ _ _ _ _ (by omega)];exact k2
 ·rw [set_getZ _ k3];simp
 ·exact own_keep hP (fun b cur hh=>hst _ (by decide) b cur (hty _ (by decide) b cur hh))
 ·exact ⟨vT,own_keep hT (fun b cur hh=>hst _ (by decide) b cur (hty _ (by decide) b cur hh)),hTK.keep (fun b cur hh=>hst _ (by decide) b cur (hty _ (by decide) b cur hh))⟩
 ·refine ⟨vG++[.slice q m c],own_keep o9 (fun b cur hh=>hst _ (by decide) b cur hh),?_⟩
  rw [show gd.take (l+1)=gd.take l++[t] by rw [List.take_add_one,hx];rfl]
  exact (hGK.snoc hnew).keep (fun b cur hh=>hst _ (by decide) b cur (hty _ (by decide) b cur hh))
 ·exact ((h5.trans (hr2.mono (by have:=lt_getZ h3;omega))).trans (b9.mono (by omega))).setCell (by show B≤b3;omega) _
 ·have:=b9.size
  simp
  omega
 ·rw [(cellsZ k3).1];rfl
end Go.Proofs.YtciffggmobblpaaGreatDoor.Nt
