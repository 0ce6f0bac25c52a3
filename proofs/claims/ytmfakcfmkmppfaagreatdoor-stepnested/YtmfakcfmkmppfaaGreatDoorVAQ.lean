import Derived.Test.YtmfakcfmkmppfaaGreatDoorVAP
import Derived.Test.YtmfakcfmkmppfaaGreatDoorRows
import Derived.WalkSpells
import Derived.WalkLawsBesides
namespace Go.Proofs.YtmfakcfmkmppfaaGreatDoor.Nt
open Go.RowKit Go.Shelf
theorem zd6 {P:Program} {ops:Array Oper} {o:Oper} {a:Act} {w w':World} {K:Act->World->Prop} {Q:Exit->Act->World->Prop} {E:Prop} {v u v':Value} (hgd:o.guard=none) (s x:Operand) (t:TypeId) (ho:o.op=.call { callee:=.builtin .append,args:=#[s,x],argTypes:=#[t,t] }) (hs:a.eval s=v) (hx:a.eval x=u) (hr:(Builtin.append_ #[t,t] o.type #[v,u]).run P w=.ok v' w') (h:K (a.put o.dst v') w'):if Region.wanted o (yielded ops a.tmps)=true then Oper.wp P o a w K Q else E:=by
 have hw:Region.wanted o (yielded ops a.tmps)=true:=by simp [Region.wanted,hgd]
 rw [if_pos hw];unfold Oper.wp execOp;simp only [ho,resolve,invoke,builtin,Sem.run_bind,Sem.run_pure,Result.andThen_ok,List.map_toArray,List.map_cons,List.map_nil,hs,hx,hr];exact h
theorem zp3 {T TS:TypeId} {i0:TypeInfo} {z:Value} {s by_:Nat} {W:World} {B:Nat} {p:Option Addr} {n c:Nat} {xs:List Value} {cs:Array Value} (hu:Tryz.prog.underlying TS=some (.slice T)) (hi:Tryz.prog.info? T=some i0) (hz0:i0.zero=some z) (hz1:i0.size=s) (hz2:i0.bytes=by_) (hzc:z.cells.size=s) (hs:0 < s) (h:W.ownsRow B T s (.slice p n c) n xs) (hB:B<=W.heap.size) (hcs:cs.size=s) (hone:∀ u∈cs.toList,u.oneCell'=true) (hb1:(n+1)*by_<=140737488355328) (hb2:n+1<=140737488355328) :
  ∃ q c9 W9,(Builtin.append_ #[TS,TS] TS #[.slice p n c,.slice (some ⟨W.heap.size,0,none⟩) 1 1]).run Tryz.prog (W.alloc (.cells cs T (0,0)))=.ok (.slice q (n+1) c9) W9/\W9.ownsRow B T s (.slice q (n+1) c9) (n+1) (xs++cs.toList)/\Below B W W9/\(∀ b o,W.heap[b]?=some o->(Value.slice p n c).ownBlock≠some b->W9.heap[b]?=some o)/\n+1<=c9:=by
 obtain ⟨W2,hW2⟩:=ex (W.alloc (.cells cs T (0,0)));have b2:Below W.heap.size W W2:=by rw [<-hW2];exact zah (Below.refl _ _) _
 have hnb:W2.heap[W.heap.size]?=some (.cells cs T (0,0)):=by rw [<-hW2];exact zaa _ _
 have k2:=zaq h b2;obtain ⟨v',W3,hr,o3,g3,n3⟩:=run_append_own_at (P:=Tryz.prog) W2 B TS TS T i0 z s by_ hu hi hz0 hz1 hz2 hzc hs (.slice p n c) n xs k2 ⟨W.heap.size,0,none⟩ 1 1 cs.toList (by rw [Nat.one_mul,<-hcs];simp) (World.news_of_block hnb) hone (by unfold maxLen;omega) hb1 (Nat.le_trans hB b2.size);obtain ⟨q9,c9,hv9⟩:∃ q9 c9,v'=.slice q9 (n+1) c9:=zec o3;subst hv9;have hown:∀ k,(Value.slice p n c).ownBlock=some k->B<=k:=fun k e=>(World.ownsRow.lt k2 k e).1;refine ⟨q9,c9,W3,by rw [hW2];exact hr,o3,?_,?_,?_⟩
 ·exact (b2.mono hB).grown g3 (Nat.le_trans hB b2.size) hown
 ·intro b o ho hne
  have h2:=zae b2 ho;exact (g3.block b (zap h2) (fun e=>hne (by first | exact e | exact e.symm))).trans h2
 ·obtain ⟨g9,rfl⟩:=zds o3 (by omega)
  exact own_capZ o3
def RowL {α:Type} (sz:Nat) (f:α->List Value) (W:World) (p:Option Addr) (L:List α):Prop:=∀ (k:Nat) (x:α),L[k]?=some x->∃ g o,p=some ⟨g,o,none⟩/\∀ (j:Nat) (v:Value),(f x)[j]?=some v->W.cell? ⟨g,o+k*sz+j,none⟩=some v
theorem RowL.below {α:Type} {sz:Nat} {f:α->List Value} {W W':World} {p:Option Addr} {L:List α} (h:RowL sz f W p L) (hb:Below W.heap.size W W'):RowL sz f W' p L:=fun k x hx=>by
 obtain ⟨g,o,e,hc⟩:=h k x hx;exact ⟨g,o,e,fun j v hv=>zao hb (hc j v hv)⟩
theorem zgj {α:Type} {sz:Nat} {f:α->List Value} (hf:∀ x,(f x).length=sz) (L:List α):(L.flatMap f).length=L.length*sz:=by
 induction L with
 | nil=>simp
 | cons a L ih=>rw [List.flatMap_cons,List.length_append,ih,hf,List.length_cons,Nat.succ_mul];omega
theorem zma {α:Type} {sz:Nat} {f:α->List Value} (hf:∀ x,(f x).length=sz):∀ (L:List α) (k j:Nat) (x:α) (v:Value),L[k]?=some x->(f x)[j]?=some v->(L.flatMap f)[k*sz+j]?=some v
 | [],k,j,x,v,hx,_=>by simp at hx
 | a :: L,0,j,x,v,hx,hv=>by
  have:a=x:=by simpa using hx
  subst this;rw [List.flatMap_cons,Nat.zero_mul,Nat.zero_add,List.getElem?_append_left (by have:=(List.getElem?_eq_some_iff.1 hv).1;exact this)];exact hv
 | a :: L,k+1,j,x,v,hx,hv=>by
  rw [List.flatMap_cons,List.getElem?_append_right (by rw [hf,Nat.succ_mul];omega),hf,show (k+1)*sz+j - sz=k*sz+j by rw [Nat.succ_mul];omega];exact zma hf L k j x v (by simpa using hx) hv
theorem zbm {α:Type} {sz:Nat} {f:α->List Value} (hf:∀ x,(f x).length=sz) {W:World} {B n c:Nat} {T:TypeId} {p:Option Addr} {L:List α} (h:W.ownsRow B T sz (.slice p n c) n (L.flatMap f)) (hn:L.length=n):RowL sz f W p L:=fun k x hx=>by
 have hk:=(List.getElem?_eq_some_iff.1 hx).1;obtain ⟨g,rfl⟩:=zds h (by omega);refine ⟨g,0,rfl,fun j v hv=>?_⟩;rw [Nat.zero_add];exact zgm h (zma hf L k j x v hx hv)
def npC (x:NP):List Value:=[.string ⟨x.nm.toArray⟩,.int .i64 x.bx,.bool x.inn,.int .i64 x.lk]
theorem zlc (x:NP):(npC x).length=4:=rfl
theorem zq1:(Tryz.prog.info? 84).map (fun i=>(i.zero,i.size,i.bytes))=some (some (.agg #[.string ⟨#[]⟩,.int .i64 0,.bool false,.int .i64 0]),4,40):=by kernel_rfl
def TOK {α:Type} (W:World) (B:Nat) (T:TypeId) (sz:Nat) (f:α->List Value) (vs:List Value) (tb:List (List α)):Prop:=vs.length=tb.length/\∀ (i:Nat) (v:Value) (t:List α),vs[i]?=some v->tb[i]?=some t->W.ownsRow B T sz v t.length (t.flatMap f)
theorem TOK.snoc {α:Type} {W:World} {B:Nat} {T:TypeId} {sz:Nat} {f:α->List Value} {vs:List Value} {tb:List (List α)} {v:Value} {t:List α} (h:TOK W B T sz f vs tb) (hv:W.ownsRow B T sz v t.length (t.flatMap f)):TOK W B T sz f (vs++[v]) (tb++[t]):=by
 obtain ⟨hl,h⟩:=h;refine ⟨by simp [hl],fun i v9 t9 h1 h2=>?_⟩;rcases Nat.lt_or_ge i vs.length with hi | hi
 ·rw [List.getElem?_append_left hi] at h1
  rw [List.getElem?_append_left (by omega)] at h2;exact h i v9 t9 h1 h2
 ·have hi2:i=vs.length:=by
   have:=(List.getElem?_eq_some_iff.1 h1).1;rw [List.length_append,List.length_singleton] at this;omega
  subst hi2;rw [List.getElem?_append_right (Nat.le_refl _),Nat.sub_self] at h1;rw [List.getElem?_append_right (by omega),hl,Nat.sub_self] at h2;obtain rfl:v=v9:=by simpa using h1
  obtain rfl:t=t9:=by simpa using h2
  exact hv
theorem TOK.keep {α:Type} {W W':World} {B:Nat} {T:TypeId} {sz:Nat} {f:α->List Value} {vs:List Value} {tb:List (List α)} (h:TOK W B T sz f vs tb) (hw:∀ (b:Nat) (cur:Array Value),W.heap[b]?=some (Obj.cells cur T (0,0))->W'.heap[b]?=some (Obj.cells cur T (0,0))):TOK W' B T sz f vs tb:=
 ⟨h.1,fun i v t h1 h2=>by
  obtain ⟨hx,h0 | ⟨g,c,cur,e,hB,hg,r⟩⟩:=h.2 i v t h1 h2
  ·exact ⟨hx,.inl h0⟩
  ·exact ⟨hx,.inr ⟨g,c,cur,e,hB,hw g cur hg,r⟩⟩⟩
def RRL {α:Type} (sz:Nat) (f:α->List Value) (W:World) (p:Option Addr) (tb:List (List α)):Prop:=∀ (k:Nat) (t:List α),tb[k]?=some t->∃ g o q c,p=some ⟨g,o,none⟩/\W.cell? ⟨g,o+k,none⟩=some (.slice q t.length c)/\RowL sz f W q t/\t.length<=c
theorem npC_one (x:NP):∀ u∈(npC x).toArray.toList,u.oneCell'=true:=by
 intro u hu;simp only [npC,List.mem_cons,List.not_mem_nil,or_false] at hu;rcases hu with rfl | rfl | rfl | rfl <;> rfl
theorem sl_one (q:Option Addr) (m c:Nat):∀ u∈(#[Value.slice q m c]:Array Value).toList,u.oneCell'=true:=by
 intro u hu;have hu:u=.slice q m c:=by simpa using hu
 rw [hu];rfl
theorem own_blk {W:World} {B:Nat} {T:TypeId} {s n g:Nat} {v:Value} {xs:List Value} (h:W.ownsRow B T s v n xs) (e:v.ownBlock=some g):∃ cur,W.heap[g]?=some (Obj.cells cur T (0,0)):=by
 obtain ⟨_,⟨rfl,_⟩ | ⟨g2,c,cur,rfl,_,hg,_⟩⟩:=h
 ·cases e
 ·obtain rfl:g2=g:=by simpa [Value.ownBlock] using e
  exact ⟨cur,hg⟩
theorem zfz {W W':World} {B:Nat} {T:TypeId} {s n:Nat} {v:Value} {xs:List Value} (h:W.ownsRow B T s v n xs) (hw:∀ (b:Nat) (cur:Array Value),W.heap[b]?=some (Obj.cells cur T (0,0))->W'.heap[b]?=some (Obj.cells cur T (0,0))):W'.ownsRow B T s v n xs:=by
 obtain ⟨hx,h0 | ⟨g,c,cur,e,hB,hg,r⟩⟩:=h
 ·exact ⟨hx,.inl h0⟩
 ·exact ⟨hx,.inr ⟨g,c,cur,e,hB,hw g cur hg,r⟩⟩
theorem zpd {α:Type} {W:World} {B n c:Nat} {T TS:TypeId} {sz:Nat} {f:α->List Value} (hf:∀ x,(f x).length=sz) {p:Option Addr} {vs:List Value} {tb:List (List α)} (h:W.ownsRow B TS 1 (.slice p n c) n vs) (hn:tb.length=n) (hk:TOK W B T sz f vs tb):RRL sz f W p tb:=fun k t ht=>by
 have hlt:=(List.getElem?_eq_some_iff.1 ht).1;obtain ⟨g,rfl⟩:=zds h (by omega);obtain ⟨v,hv⟩:∃ v,vs[k]?=some v:=⟨_,List.getElem?_eq_getElem (by rw [hk.1];exact hlt)⟩;have ho:=hk.2 k v t hv ht;obtain ⟨q,c9,rfl⟩:=zec ho;refine ⟨g,0,q,c9,rfl,?_,zbm hf ho rfl,?_⟩
 ·rw [Nat.zero_add];exact zgm h hv
 ·rcases ho.2 with ⟨e,h0⟩ | ⟨g2,c2,cur,e,_,_,h3,_⟩
  ·omega
  ·injection e with _ _ e3
   omega
section
variable {W W':World} {p:Option Addr}
theorem rowL_lp {L:List NP} (h:RowL 4 npC W p L):LP W p L:=fun k x hx=>by
 obtain ⟨g,o,e,hc⟩:=h k x hx;exact ⟨g,o,e,hc 0 _ rfl,hc 1 _ rfl,hc 2 _ rfl,hc 3 _ rfl⟩
end
theorem lp_rowL {W:World} {p:Option Addr} {L:List NP} (h:LP W p L):RowL 4 npC W p L:=fun k x hx=>by
 obtain ⟨g,o,e,c0,c1,c2,c3⟩:=h k x hx;refine ⟨g,o,e,fun j v hv=>?_⟩
 match j,hv with
 | 0,hv=>obtain rfl:=Option.some.inj hv;exact c0
 | 1,hv=>obtain rfl:=Option.some.inj hv;exact c1
 | 2,hv=>obtain rfl:=Option.some.inj hv;exact c2
 | 3,hv=>obtain rfl:=Option.some.inj hv;exact c3
 | n+4,hv=>simp [npC] at hv
theorem ne_ty {W:World} {a b:Nat} {c1 c2:Array Value} {T1 T2:TypeId} {f1 f2:Nat×Nat} (h1:W.heap[a]?=some (.cells c1 T1 f1)) (h2:W.heap[b]?=some (.cells c2 T2 f2)) (hT:T1≠T2):a≠b:=fun e=>by
 subst e;rw [h1] at h2;injection h2 with h2;injection h2 with _ e2 _;exact hT e2
end Go.Proofs.YtmfakcfmkmppfaaGreatDoor.Nt
namespace Go.Proofs.YtmfakcfmkmppfaaGreatDoor.Tn
open Go.RowKit

def cv (n a b c d e f g h:Int):Value:=.agg #[.int .i64 n,.int .u64 a,.int .u64 b,.int .u64 c,.int .u64 d,.int .u64 e,.int .u64 f,.int .u64 g,.int .u64 h]

theorem bcell {W w1:World} (hb:Below W.heap.size W w1):(∀ b o,b < W.heap.size->w1.cell? ⟨b,o,none⟩=W.cell? ⟨b,o,none⟩)/\(∀ b o,b < W.heap.size->w1.frozen? ⟨b,o,none⟩=W.frozen? ⟨b,o,none⟩):=
 ⟨fun b o h=>hb.cell (p:=⟨b,o,none⟩) h,fun b o h=>hb.frozen (p:=⟨b,o,none⟩) h⟩

theorem zai (B n:Nat) (w:World):Below B w (w.drewN n):=by
 induction n with
 | zero=>exact Below.refl _ _
 | succ n ih=>exact ⟨ih.os,ih.tape,ih.output,ih.size,ih.block⟩

set_option maxHeartbeats 400000 in
theorem zr7 (n:Int) (w:World) (h1:1<=n) (h2:n<=256) :
  Calls Tryz.prog 53 #[.int .i64 n] w fun e w'=>e=.returned (cv n 0 0 0 0 0 0 0 0)/\Below w.heap.size w w':=by
 go_enter Tryz.func53,Tryz.ntmps53
 go_wp2
 exact bodyPost_ret (v:=cv n 0 0 0 0 0 0 0 0) (by simp [results,Tryz.results53,go_sem,cv]) rfl ⟨rfl,(Below.refl _ _).alloc (Nat.le_refl _) _⟩

set_option maxHeartbeats 400000 in
theorem all_no (n:Int) (w:World) (h:n < 1∨256 < n) :
  Calls Tryz.prog 53 #[.int .i64 n] w fun e w'=>e=.returned (cv 0 0 0 0 0 0 0 0 0)/\Below w.heap.size w w':=by
 rcases h with h | h
 ·go_enter Tryz.func53,Tryz.ntmps53
  go_wp2
  exact bodyPost_ret (v:=cv 0 0 0 0 0 0 0 0 0) (by simp [results,Tryz.results53,go_sem,cv]) rfl ⟨rfl,(Below.refl _ _).alloc (Nat.le_refl _) _⟩
 ·have h':¬n < 1:=by omega
  go_enter Tryz.func53,Tryz.ntmps53
  go_wp2
  exact bodyPost_ret (v:=cv 0 0 0 0 0 0 0 0 0) (by simp [results,Tryz.results53,go_sem,cv]) rfl ⟨rfl,(Below.refl _ _).alloc (Nat.le_refl _) _⟩

theorem wrap_pow (r:Nat) (h:r < 64):IntKind.u64.wrap ((2:Int) ^ r)=((2 ^ r:Nat):Int):=by
 rw [IntKind.wrap_u64];have h1:2 ^ r < 2 ^ 64:=Nat.pow_lt_pow_right (by omega) h;have h2:((2:Int) ^ r)=((2 ^ r:Nat):Int):=by simp
 rw [h2];generalize 2 ^ r=x at h1 ⊢;omega

set_option maxHeartbeats 400000 in
theorem spot_raw (p:Int) (w:World) (h1:0<=p) (h2:p < 256) :
  Calls Tryz.prog 98 #[.int .i64 p] w fun e w'=>e=.returned (.tuple #[.int .i64 (p / 64),.int .u64 ((2 ^ (p % 64).toNat:Nat):Int)])/\∃ n,w'=w.drewN n:=by
 have hm:0<=p % 64/\p % 64 < 64:=by omega
 go_enter Tryz.func98,Tryz.ntmps98
 go_wp2
 go_quiet (fail)
 go_wp2
 go_ret2
 exact ⟨by rw [wrap_pow _ (by omega)];rfl,_,rfl⟩

theorem zgf (p:Int) (k r:Nat) (w:World) (hk:k < 4) (hr:r < 64) (hp:p=((64*k+r:Nat):Int)) :
  Calls Tryz.prog 98 #[.int .i64 p] w fun e w'=>e=.returned (.tuple #[.int .i64 k,.int .u64 ((2 ^ r:Nat):Int)])/\∃ n,w'=w.drewN n:=by
 refine (spot_raw p w (by omega) (by omega)).mono ?_;rintro e w' ⟨rfl,h⟩;have e1:p / 64=(k:Int):=by omega
 have e2:(p % 64).toNat=r:=by omega
 rw [e1,e2];exact ⟨rfl,h⟩

set_option maxHeartbeats 400000 in
theorem at_0 (n a b c d e f g h p:Int) (r:Nat) (w:World) (hr:r < 64) (hp:p=((64*0+r:Nat):Int)) :
  Calls Tryz.prog 81 #[cv n a b c d e f g h,.int .i64 p] w fun e' w'=>e'=.returned (.int .u8 (if (bits .and .u64 a ((2 ^ r:Nat):Int)==0)=true then 120 else if (bits .and .u64 e ((2 ^ r:Nat):Int)==0)=true then 48 else 49))/\Below w.heap.size w w':=by
 have HP:Hid (p=((64*0+r:Nat):Int)):=hp;clear hp;unfold cv;generalize hX:(2 ^ r:Nat)=X;have HX:Hid ((2 ^ r:Nat)=X):=hX;clear hX
 go_enter Tryz.func81,Tryz.ntmps81
 go_wp2_with (go_at_call 98;refine (zgf p 0 r _ (by decide) hr HP.out).mono ?_;rintro e w' ⟨rfl,nq,rfl⟩;rw [HX.out])
 all_goals go_ret
 all_goals exact ⟨by simp_all,((Below.refl _ _).alloc (Nat.le_refl _) _).trans (zai _ _ _)⟩

set_option maxHeartbeats 400000 in
theorem at_1 (n a b c d e f g h p:Int) (r:Nat) (w:World) (hr:r < 64) (hp:p=((64*1+r:Nat):Int)) :
  Calls Tryz.prog 81 #[cv n a b c d e f g h,.int .i64 p] w fun e' w'=>e'=.returned (.int .u8 (if (bits .and .u64 b ((2 ^ r:Nat):Int)==0)=true then 120 else if (bits .and .u64 f ((2 ^ r:Nat):Int)==0)=true then 48 else 49))/\Below w.heap.size w w':=by
 have HP:Hid (p=((64*1+r:Nat):Int)):=hp;clear hp;unfold cv;generalize hX:(2 ^ r:Nat)=X;have HX:Hid ((2 ^ r:Nat)=X):=hX;clear hX
 go_enter Tryz.func81,Tryz.ntmps81
 go_wp2_with (go_at_call 98;refine (zgf p 1 r _ (by decide) hr HP.out).mono ?_;rintro e w' ⟨rfl,nq,rfl⟩;rw [HX.out])
 all_goals go_ret
 all_goals exact ⟨by simp_all,((Below.refl _ _).alloc (Nat.le_refl _) _).trans (zai _ _ _)⟩

set_option maxHeartbeats 400000 in
theorem at_2 (n a b c d e f g h p:Int) (r:Nat) (w:World) (hr:r < 64) (hp:p=((64*2+r:Nat):Int)) :
  Calls Tryz.prog 81 #[cv n a b c d e f g h,.int .i64 p] w fun e' w'=>e'=.returned (.int .u8 (if (bits .and .u64 c ((2 ^ r:Nat):Int)==0)=true then 120 else if (bits .and .u64 g ((2 ^ r:Nat):Int)==0)=true then 48 else 49))/\Below w.heap.size w w':=by
 have HP:Hid (p=((64*2+r:Nat):Int)):=hp;clear hp;unfold cv;generalize hX:(2 ^ r:Nat)=X;have HX:Hid ((2 ^ r:Nat)=X):=hX;clear hX
 go_enter Tryz.func81,Tryz.ntmps81
 go_wp2_with (go_at_call 98;refine (zgf p 2 r _ (by decide) hr HP.out).mono ?_;rintro e w' ⟨rfl,nq,rfl⟩;rw [HX.out])
 all_goals go_ret
 all_goals exact ⟨by simp_all,((Below.refl _ _).alloc (Nat.le_refl _) _).trans (zai _ _ _)⟩

set_option maxHeartbeats 400000 in
theorem at_3 (n a b c d e f g h p:Int) (r:Nat) (w:World) (hr:r < 64) (hp:p=((64*3+r:Nat):Int)) :
  Calls Tryz.prog 81 #[cv n a b c d e f g h,.int .i64 p] w fun e' w'=>e'=.returned (.int .u8 (if (bits .and .u64 d ((2 ^ r:Nat):Int)==0)=true then 120 else if (bits .and .u64 h ((2 ^ r:Nat):Int)==0)=true then 48 else 49))/\Below w.heap.size w w':=by
 have HP:Hid (p=((64*3+r:Nat):Int)):=hp;clear hp;unfold cv;generalize hX:(2 ^ r:Nat)=X;have HX:Hid ((2 ^ r:Nat)=X):=hX;clear hX
 go_enter Tryz.func81,Tryz.ntmps81
 go_wp2_with (go_at_call 98;refine (zgf p 3 r _ (by decide) hr HP.out).mono ?_;rintro e w' ⟨rfl,nq,rfl⟩;rw [HX.out])
 all_goals go_ret
 all_goals exact ⟨by simp_all,((Below.refl _ _).alloc (Nat.le_refl _) _).trans (zai _ _ _)⟩
end Go.Proofs.YtmfakcfmkmppfaaGreatDoor.Tn
namespace Go.Proofs.YtmfakcfmkmppfaaGreatDoor.Tn

def wd (p:Nat->Bool):Nat->Nat
 | 0=>0
 | n+1=>wd p n ||| (if p n then 2 ^ n else 0)

theorem wd_lt (p:Nat->Bool) (n:Nat):wd p n < 2 ^ n:=by
 induction n with
 | zero=>simp [wd]
 | succ n ih=>
  have h1:2 ^ n < 2 ^ (n+1):=Nat.pow_lt_pow_right (by omega) (by omega);unfold wd;refine Nat.or_lt_two_pow (by omega) ?_
  split
  ·exact h1
  ·omega

theorem zjd (p:Nat->Bool) (n i:Nat):(wd p n).testBit i=(decide (i < n)&&p i):=by
 induction n with
 | zero=>simp [wd]
 | succ n ih=>
  unfold wd;rw [Nat.testBit_or,ih]
  by_cases h:i=n
  ·subst h
   cases p i <;> simp
  ·have h2:(if p n then 2 ^ n else 0).testBit i=false:=by
    cases p n <;> simp [Nat.testBit_two_pow]
    omega
   rw [h2,Bool.or_false]
   congr 1
   simp;omega

theorem zlz (p q:Nat->Bool) (n:Nat) (h:∀ i,i < n->p i=q i):wd p n=wd q n:=by
 apply Nat.eq_of_testBit_eq;intro i;rw [zjd,zjd]
 by_cases hi:i < n
 ·rw [h i hi]
 ·simp [hi]

theorem zo6 (p:Nat->Bool) (n:Nat) (h:∀ i,i < n->p i=false):wd p n=0:=by
 apply Nat.eq_of_testBit_eq;intro i;rw [zjd]
 by_cases hi:i < n
 ·simp [h i hi]
 ·simp [hi]

def fx (t:List UInt8) (k:Nat):Bool:=match t[k]? with | some b=>b != 120 | none=>false
def on (t:List UInt8) (k:Nat):Bool:=match t[k]? with | some b=>b==49 | none=>false
def FW (t:List UInt8) (w:Nat):Nat:=wd (fun i=>fx t (64*w+i)) 64
def OW (t:List UInt8) (w:Nat):Nat:=wd (fun i=>on t (64*w+i)) 64

theorem ze5 (t:List UInt8) (w:Nat):FW t w < 18446744073709551616:=wd_lt _ 64
theorem zfv (t:List UInt8) (w:Nat):OW t w < 18446744073709551616:=wd_lt _ 64
theorem zcd (t:List UInt8) (w i:Nat):(FW t w).testBit i=(decide (i < 64)&&fx t (64*w+i)):=zjd _ _ _
theorem zc8 (t:List UInt8) (w i:Nat):(OW t w).testBit i=(decide (i < 64)&&on t (64*w+i)):=zjd _ _ _

def tri (b:UInt8):Bool:=b==48 || b==49 || b==120
def good (t:List UInt8):Bool:=decide (t.length<=256)&&t.all tri

theorem zdf {t:List UInt8} (h:good t=true):t.length<=256:=by
 simp [good] at h;exact h.1
theorem zde {t:List UInt8} (h:good t=true) (k:Nat) (hk:k < t.length):tri t[k]=true:=by
 simp [good] at h;exact h.2 _ (List.getElem_mem hk)

theorem zdc (r:Nat) (h:r < 64):2 ^ r < 18446744073709551616:=by
 have:2 ^ r < 2 ^ 64:=Nat.pow_lt_pow_right (by omega) h;exact this

theorem and_bit (x r:Nat):(x &&& 2 ^ r==0)=!x.testBit r:=by
 rw [nat_bit,<-Nat.shiftRight_eq_div_pow];have hp:0 < 2 ^ r:=Nat.two_pow_pos r;have h:x.testBit r=decide (x >>> r % 2=1):=Nat.testBit_eq_decide_div_mod_eq ▸ by rw [Nat.shiftRight_eq_div_pow]
 rw [h];rcases Nat.mod_two_eq_zero_or_one (x >>> r) with e | e
 ·simp [e]
 ·simp [e]

theorem zfq (x r:Nat) (hx:x < 18446744073709551616) (hr:r < 64):(bits .and .u64 (x:Int) ((2 ^ r:Nat):Int)==0)=!x.testBit r:=by
 rw [u64_and_nat x (2 ^ r) hx (zdc r hr),<-and_bit x r];rw [Bool.eq_iff_iff];simp only [beq_iff_eq];omega

theorem FW_at (t:List UInt8) (k r:Nat) (hr:r < 64):(bits .and .u64 (FW t k:Int) ((2 ^ r:Nat):Int)==0)=!fx t (64*k+r):=by
 rw [zfq _ _ (ze5 _ _) hr,zcd];simp [hr]
theorem OW_at (t:List UInt8) (k r:Nat) (hr:r < 64):(bits .and .u64 (OW t k:Int) ((2 ^ r:Nat):Int)==0)=!on t (64*k+r):=by
 rw [zfq _ _ (zfv _ _) hr,zc8];simp [hr]

theorem at_eq (t:List UInt8) (p:Nat) (hp:p < t.length) (ht:tri t[p]=true) :
  (if (!fx t p)=true then (120:Int) else if (!on t p)=true then 48 else 49)=(t[p].toNat:Int):=by
 have h0:t[p]?=some t[p]:=List.getElem?_eq_getElem hp;simp only [fx,on,h0];generalize t[p]=b at *;simp [tri] at ht;rcases ht with (rfl | rfl) | rfl <;> simp

theorem fx_set (t:List UInt8) (p j:Nat) (b:UInt8) (hb:b≠120) (hp:p < t.length):fx (t.set p b) j=(fx t j || decide (j=p)):=by
 unfold fx
 by_cases h:j=p
 ·subst h
  simp [List.getElem?_set_self hp,hb]
 ·rw [List.getElem?_set_ne (by omega)];simp [h]

theorem on_set (t:List UInt8) (p j:Nat) (b:UInt8) (hp:p < t.length) (hx:t[p]=120):on (t.set p b) j=(on t j || (decide (j=p)&&(b==49))):=by
 unfold on
 by_cases h:j=p
 ·subst h
  simp [List.getElem?_set_self hp,List.getElem?_eq_getElem hp,hx]
 ·rw [List.getElem?_set_ne (by omega)];simp [h]

theorem zki (t:List UInt8) (k j r:Nat) (b:UInt8) (hr:r < 64) (hb:b≠120) (hp:64*k+r < t.length) (hj:j≠k):FW (t.set (64*k+r) b) j=FW t j:=by
 apply zlz;intro i hi;rw [fx_set _ _ _ _ hb hp];have:64*j+i≠64*k+r:=by omega
 simp [this]

theorem zkh (t:List UInt8) (k j r:Nat) (b:UInt8) (hr:r < 64) (hp:64*k+r < t.length) (hx:t[64*k+r]=120) (hj:j≠k):OW (t.set (64*k+r) b) j=OW t j:=by
 apply zlz;intro i hi;rw [on_set _ _ _ _ hp hx];have:64*j+i≠64*k+r:=by omega
 simp [this]

theorem FW_set (t:List UInt8) (k r:Nat) (b:UInt8) (hr:r < 64) (hb:b≠120) (hp:64*k+r < t.length) :
  bits .or .u64 (FW t k:Int) ((2 ^ r:Nat):Int)=(FW (t.set (64*k+r) b) k:Nat):=by
 rw [u64_or_nat _ _ (ze5 _ _) (zdc r hr)]
 congr 1
 apply Nat.eq_of_testBit_eq;intro i;rw [Nat.testBit_or,zcd,zcd,Nat.testBit_two_pow,fx_set _ _ _ _ hb hp]
 by_cases hi:i < 64
 ·by_cases h:r=i
  ·subst h;simp [hi]
  ·have h2:¬i=r:=by omega
   simp [hi,h,h2]
 ·have:¬r=i:=by omega
  simp [hi,this]

def dg (D r:Nat):UInt8:=if D.testBit r then 49 else 48
theorem dg_49 (D r:Nat):(dg D r==49)=D.testBit r:=by unfold dg;cases D.testBit r <;> simp

theorem OW_set (t:List UInt8) (k r D:Nat) (hr:r < 64) (hD:D < 18446744073709551616) (hp:64*k+r < t.length) (hx:t[64*k+r]=120) :
  bits .or .u64 (OW t k:Int) (bits .and .u64 ((2 ^ r:Nat):Int) (D:Int))=(OW (t.set (64*k+r) (dg D r)) k:Nat):=by
 have hand:2 ^ r &&& D < 18446744073709551616:=Nat.lt_of_le_of_lt Nat.and_le_right hD;rw [u64_and_nat _ _ (zdc r hr) hD,u64_or_nat _ _ (zfv _ _) hand]
 congr 1
 apply Nat.eq_of_testBit_eq;intro i;rw [Nat.testBit_or,Nat.testBit_and,zc8,zc8,Nat.testBit_two_pow,on_set _ _ _ _ hp hx,dg_49]
 by_cases hi:i < 64
 ·by_cases h:r=i
  ·subst h;simp [hi]
  ·have h2:¬i=r:=by omega
   simp [hi,h,h2]
 ·have:¬r=i:=by omega
  simp [hi,this]

theorem FW_all (n w:Nat):FW (List.replicate n 120) w=0:=by
 apply zo6;intro i _;unfold fx;rw [List.getElem?_replicate]
 split <;> simp_all
theorem OW_all (n w:Nat):OW (List.replicate n 120) w=0:=by
 apply zo6;intro i _;unfold on;rw [List.getElem?_replicate]
 by_cases h:64*w+i < n <;> simp [h]

def st (t:List UInt8) (k:Nat):List UInt8:=t.take k++List.replicate (t.length - k) 120
theorem zl7 (t:List UInt8) (k:Nat) (h:k<=t.length):(st t k).length=t.length:=by simp [st];omega
theorem st_zero (t:List UInt8):st t 0=List.replicate t.length 120:=by simp [st]
theorem st_all (t:List UInt8):st t t.length=t:=by simp [st]
theorem zpi (t:List UInt8) (k:Nat) (h:k < t.length):(st t k)[k]'(by rw [zl7 _ _ (by omega)];exact h)=120:=by
 unfold st;rw [List.getElem_append_right (by simp;omega)];simp
theorem zkv (t:List UInt8) (k:Nat) (h:k < t.length):(st t k).set k t[k]=st t (k+1):=by
 apply List.ext_getElem?;intro i
 by_cases hi:i=k
 ·subst hi
  rw [List.getElem?_set_self (by rw [zl7 _ _ (by omega)];exact h)];unfold st;rw [List.getElem?_append_left (by simp;omega),List.getElem?_take_of_lt (by omega),List.getElem?_eq_getElem h]
 ·rw [List.getElem?_set_ne (by omega)]
  unfold st;rw [List.getElem?_append,List.getElem?_append];simp only [List.length_take,List.getElem?_take,List.getElem?_replicate]
  repeat' split
  all_goals first | rfl | omega | skip
theorem st_skip (t:List UInt8) (k:Nat) (h:k < t.length) (hx:t[k]=120):st t (k+1)=st t k:=by
 rw [<-zkv t k h,hx];have:=zpi t k h;rw [<-this];exact List.set_getElem_self _

theorem zll (a b:List UInt8) (ha:good a=true) (hb:good b=true) (hl:a.length=b.length)
  (hf:∀ w,w < 4->FW a w=FW b w) (ho:∀ w,w < 4->OW a w=OW b w):a=b:=by
 apply List.ext_getElem hl;intro i h1 h2;have l1:=zdf ha;have hw:i / 64 < 4:=by omega
 have e1:(FW a (i / 64)).testBit (i % 64)=(FW b (i / 64)).testBit (i % 64):=by rw [hf _ hw]
 have e2:(OW a (i / 64)).testBit (i % 64)=(OW b (i / 64)).testBit (i % 64):=by rw [ho _ hw]
 rw [zcd,zcd] at e1;rw [zc8,zc8] at e2;have hi:64*(i / 64)+i % 64=i:=by omega
 have hlt:i % 64 < 64:=by omega
 rw [hi] at e1 e2;simp only [hlt,decide_true,Bool.true_and] at e1 e2;simp only [fx,on,List.getElem?_eq_getElem h1,List.getElem?_eq_getElem h2] at e1 e2;have ta:=zde ha i h1;have tb:=zde hb i h2;generalize a[i]=x at *;generalize b[i]=y at *;simp [tri] at ta tb;rcases ta with (rfl | rfl) | rfl <;> rcases tb with (rfl | rfl) | rfl <;> simp_all

def zkp (a b:List UInt8):Bool:=((a.length:Int)==(b.length:Int))&&((FW a 0:Int)==(FW b 0:Int))&&((FW a 1:Int)==(FW b 1:Int))&&((FW a 2:Int)==(FW b 2:Int))&&((FW a 3:Int)==(FW b 3:Int))&&((OW a 0:Int)==(OW b 0:Int))&&((OW a 1:Int)==(OW b 1:Int))&&((OW a 2:Int)==(OW b 2:Int))&&((OW a 3:Int)==(OW b 3:Int))

theorem znk (a b:List UInt8) (ha:good a=true) (hb:good b=true):zkp a b=(a==b):=by
 rw [Bool.eq_iff_iff];constructor
 ·intro h
  simp only [zkp,Bool.and_eq_true,beq_iff_eq] at h;obtain ⟨⟨⟨⟨⟨⟨⟨⟨h0,h1⟩,h2⟩,h3⟩,h4⟩,h5⟩,h6⟩,h7⟩,h8⟩:=h;have:a=b:=by
   apply zll a b ha hb (by omega)
   ·intro w hw
    match w,hw with
    | 0,_=>omega
    | 1,_=>omega
    | 2,_=>omega
    | 3,_=>omega
   ·intro w hw
    match w,hw with
    | 0,_=>omega
    | 1,_=>omega
    | 2,_=>omega
    | 3,_=>omega
  subst this;simp
 ·intro h
  have:a=b:=by simpa using h
  subst this;simp [zkp]

def refP (t:List UInt8):Int:=if 256 < t.length then 2 else if t=[] then 10 else if t.all tri=true then 0 else 10
def cubeT (t:List UInt8):List UInt8:=if refP t=0 then t else []

theorem zpw (t:List UInt8):refP t=0↔(t≠[]/\good t=true):=by
 unfold refP good
 by_cases h1:256 < t.length
 ·simp [h1];omega
 ·by_cases h2:t=[]
  ·simp [h2]
  ·by_cases h3:t.all tri=true
   ·simp [h1,h2,h3];omega
   ·simp [h1,h2,h3]

theorem good_nil:good []=true:=by decide
theorem ze3 (t:List UInt8) (h:refP t≠0):cubeT t=[]:=by unfold cubeT;rw [if_neg h]
theorem zok (t:List UInt8) (h:refP t=0):cubeT t=t:=by unfold cubeT;rw [if_pos h]
theorem good_replicate (n:Nat) (h:n<=256):good (List.replicate n 120)=true:=by
 simp [good,h,tri]

end Go.Proofs.YtmfakcfmkmppfaaGreatDoor.Tn
namespace Go.Proofs.YtmfakcfmkmppfaaGreatDoor.Tn
open Go.RowKit

def cubeV (t:List UInt8):Value:=cv t.length (FW t 0) (FW t 1) (FW t 2) (FW t 3) (OW t 0) (OW t 1) (OW t 2) (OW t 3)

theorem ze2 (n:Nat):cubeV (List.replicate n 120)=cv n 0 0 0 0 0 0 0 0:=by
 unfold cubeV;simp only [FW_all,OW_all,List.length_replicate];rfl

theorem all_any (n:Int) (w:World):Calls Tryz.prog 53 #[.int .i64 n] w fun e w'=>e=.returned (cubeV (if 1<=n/\n<=256 then List.replicate n.toNat 120 else []))/\Below w.heap.size w w':=by
 by_cases h:1<=n/\n<=256
 ·rw [if_pos h]
  refine (zr7 n w h.1 h.2).mono ?_;rintro e w' ⟨rfl,hb⟩;refine ⟨?_,hb⟩;rw [ze2];have:((n.toNat:Nat):Int)=n:=by omega
  rw [this]
 ·rw [if_neg h]
  refine (all_no n w (by omega)).mono ?_;rintro e w' ⟨rfl,hb⟩;refine ⟨?_,hb⟩;have:=ze2 0;rw [List.replicate_zero] at this;rw [this];rfl

theorem at_any (t:List UInt8) (p:Int) (q:Nat) (w:World) (hg:good t=true) (hp:p=(q:Int)) (hq:q < t.length) :
  Calls Tryz.prog 81 #[cubeV t,.int .i64 p] w fun e w'=>e=.returned (.int .u8 (t[q].toNat:Int))/\Below w.heap.size w w':=by
 have hl:=zdf hg;have ht:=zde hg q hq;have hkr:∃ k r,k < 4/\r < 64/\q=64*k+r:=⟨q / 64,q % 64,by omega,by omega,by omega⟩;obtain ⟨k,r,hk,hr,rfl⟩:=hkr;have e:=at_eq t (64*k+r) hq ht;rw [<-FW_at t k r hr,<-OW_at t k r hr] at e
 match k,hk with
 | 0,_=>
  refine (at_0 _ _ _ _ _ _ _ _ _ p r w hr hp).mono ?_;rintro e' w' ⟨rfl,hb⟩;exact ⟨by rw [e],hb⟩
 | 1,_=>
  refine (at_1 _ _ _ _ _ _ _ _ _ p r w hr hp).mono ?_;rintro e' w' ⟨rfl,hb⟩;exact ⟨by rw [e],hb⟩
 | 2,_=>
  refine (at_2 _ _ _ _ _ _ _ _ _ p r w hr hp).mono ?_;rintro e' w' ⟨rfl,hb⟩;exact ⟨by rw [e],hb⟩
 | 3,_=>
  refine (at_3 _ _ _ _ _ _ _ _ _ p r w hr hp).mono ?_;rintro e' w' ⟨rfl,hb⟩;exact ⟨by rw [e],hb⟩

theorem zgs:(Tryz.prog.info? 5).map (fun i=>(i.zero,i.size,i.bytes))=some (some (.int .u8 0),1,1):=by kernel_rfl

theorem zcu {w w':World} (h:Below w.heap.size w w') (row:Option Nat):w.grownBy w' row:=
 ⟨h.os,h.tape,h.output,h.size,fun k hk _=>h.block k hk⟩

theorem zho {w w':World} {base:Nat} {e:TypeId} {size:Nat} {v:Value} {n:Nat} {xs:List Value} (h:w.ownsRow base e size v n xs) (hb:Below w.heap.size w w'):w'.ownsRow base e size v n xs:=by
 refine h.kept (zcu hb none) ?_;cases v.ownBlock <;> simp

def bys (t:List UInt8):List Value:=t.map fun b=>.int .u8 (b.toNat:Int)
def zgh (t:List UInt8) (k:Nat):List Value:=bys (t.take k)++List.replicate (t.length - k) (.int .u8 0)

theorem zpq (t:List UInt8):zgh t t.length=bys t:=by simp [zgh]
theorem znq (t:List UInt8):zgh t 0=List.replicate t.length (.int .u8 0):=by simp [zgh,bys]
theorem zpp (t:List UInt8) (k:Nat) (h:k < t.length):(zgh t k)[k]?=some (.int .u8 0):=by
 unfold zgh bys;rw [List.getElem?_append_right (by simp;omega)];have h1:min k t.length=k:=by omega
 have h2:0 < t.length - k:=by omega
 simp [h1,h2]
theorem znr (t:List UInt8) (k:Nat) (h:k < t.length):(zgh t k).set k (.int .u8 (t[k].toNat:Int))=zgh t (k+1):=by
 unfold zgh bys;have hs:t.take (k+1)=t.take k++[t[k]]:=List.take_succ_eq_append_getElem h;have:t.length - k=(t.length - (k+1))+1:=by omega
 rw [this,List.replicate_succ,List.set_append_right _ _ (by simp;omega),hs,List.map_append];simp [Nat.min_eq_left (Nat.le_of_lt h)]

theorem zr9 (b o j:Nat):(⟨b,o,none⟩:Addr).add j=⟨b,o+j,none⟩:=by unfold Addr.add;split <;> simp_all

theorem zhv (W:World) (B g cap:Nat) (t:List UInt8) (hown:W.ownsRow B 5 1 (.slice (some ⟨g,0,none⟩) t.length cap) t.length (bys t)) :
  (convert 145 9 (.slice (some ⟨g,0,none⟩) t.length cap)).run Tryz.prog W=.ok (.string ⟨t.toArray⟩) W:=by
 refine run_convert_bytes_back _ _ _ 5 _ _ t Tryz.underlying145 Tryz.underlying5 Tryz.underlying9 ?_;intro j hj;have:=hown.cellAt j (by omega);rw [zr9,Nat.zero_add,this];simp [bys,List.getElem?_eq_getElem hj]

set_option maxHeartbeats 400000 in
theorem text_any (t:List UInt8) (w:World) (hg:good t=true) :
  Calls Tryz.prog 63 #[cubeV t] w fun e w'=>e=.returned (.string ⟨t.toArray⟩)/\Below w.heap.size w w':=by
 have hl:=zdf hg;obtain ⟨i0,hi,hz0,hz1,hz2⟩:=info_parts zgs;unfold cubeV cv
 go_enter Tryz.func63,Tryz.ntmps63
 go_wp2_with (at_make;refine wpList_make_full _ rfl _ _ 145 rfl (w.heap.size+1) 5 i0 (.int .u8 0) 1 Tryz.underlying145 hi hz0 hz1 .i64 .i64 _ _ t.length rfl rfl rfl rfl (by rw [hz2];omega) (by unfold maxLen;omega) (by simp) ?_;intro w1 hown hgrow)
 have hB:Below (w.heap.size+1) (w.alloc (.cells #[.int .i64 (t.length:Int),.int .u64 (FW t 0:Int),.int .u64 (FW t 1:Int),.int .u64 (FW t 2:Int),.int .u64 (FW t 3:Int),.int .u64 (OW t 0:Int),.int .u64 (OW t 1:Int),.int .u64 (OW t 2:Int),.int .u64 (OW t 3:Int)] 70)) w1:=(Below.refl _ _).grown hgrow (by simp) (fun k h=>by cases h);have hown':w1.ownsRow (w.heap.size+1) 5 1 (.slice (some ⟨w.heap.size+1,0,none⟩) t.length t.length) t.length (zgh t 0):=by
  rw [znq];have h1:(madeCells (Value.int IntKind.u8 0).cells (t.length*1)).toList=List.replicate t.length (.int .u8 0):=by rw [Nat.mul_one];exact toList_madeCells_one _ _
  rw [h1] at hown
  simpa using hown
 clear hown hgrow
 go_loopw [10] (fun i wr=>∃ k:Nat,k<=t.length/\i=.int .i64 k/\wr.ownsRow (w.heap.size+1) 5 1 (.slice (some ⟨w.heap.size+1,0,none⟩) t.length t.length) t.length (zgh t k)/\Below (w.heap.size+1) (w.alloc (.cells #[.int .i64 (t.length:Int),.int .u64 (FW t 0:Int),.int .u64 (FW t 1:Int),.int .u64 (FW t 2:Int),.int .u64 (FW t 3:Int),.int .u64 (OW t 0:Int),.int .u64 (OW t 1:Int),.int .u64 (OW t 2:Int),.int .u64 (OW t 3:Int)] 70)) wr) (fun i _=>t.length - (intOf i).toNat)
 case atStart=>exact ⟨0,Nat.zero_le _,rfl,hown',hB⟩
 case round=>
  clear hB hown';obtain ⟨k,hk,rfl,hown,hB⟩:=hrel;have hc:∀ b o,b < w.heap.size+1->wr.cell? ⟨b,o,none⟩=(w.alloc (.cells #[.int .i64 (t.length:Int),.int .u64 (FW t 0:Int),.int .u64 (FW t 1:Int),.int .u64 (FW t 2:Int),.int .u64 (FW t 3:Int),.int .u64 (OW t 0:Int),.int .u64 (OW t 1:Int),.int .u64 (OW t 2:Int),.int .u64 (OW t 3:Int)] 70)).cell? ⟨b,o,none⟩:=fun b o h=>hB.cell (p:=⟨b,o,none⟩) h;have hsz:w.heap.size+1<=wr.heap.size:=by have:=hB.size;simpa using this
  by_cases hlt:k < t.length
  ·go_wp2_with (go_at_call 81;refine (at_any t _ k _ hg rfl hlt).mono ?_;rintro e w2 ⟨rfl,hb2⟩;have hown2:=zho hown hb2;have hc2:=(hown2.cellAt k (by omega)).trans (zpp t k hlt);have hf2:=hown2.frozenAt k)
   go_roundw
   case rel=>
    refine ⟨k+1,by omega,by go_num,?_,?_⟩
    ·have:=hown2.stored k (.int .u8 (t[k].toNat:Int))
     rw [znr t k hlt] at this;exact this.1
    ·exact (hB.trans (hb2.mono hsz)).setCell (Nat.le_refl _) _
   case measure=>simp [intOf];omega
  ·have hkn:k=t.length:=by omega
   subst hkn;rw [zpq] at hown;have hcv:=zhv wr (w.heap.size+1) (w.heap.size+1) t.length t hown
   go_wp2
   go_ret
   exact ⟨rfl,((Below.refl _ _).alloc (Nat.le_refl _) _).trans (hB.mono (by omega))⟩
end Go.Proofs.YtmfakcfmkmppfaaGreatDoor.Tn
