import Derived.Test.YtbplhianpelmfaaGreatDoorYAS
namespace Go.Proofs.YtbplhianpelmfaaGreatDoor.Nt
open Go.RowKit Go.Shelf
theorem stepN {P:Program} {ops:Array Oper} {o:Oper} {a:Act} {w w':World} {K:Act→World→Prop} {Q:Exit→Act→World→Prop} {E:Prop} {v u v':Value} (hgd:o.guard=none) (s x:Operand) (t:TypeId) (ho:o.op=.call { callee:=.builtin .append,args:=#[s,x],argTypes:=#[t,t] }) (hs:a.eval s=v) (hx:a.eval x=u) (hr:(Builtin.append_ #[t,t] o.type #[v,u]).run P w=.ok v' w') (h:K (a.put o.dst v') w'):if Region.wanted o (yielded ops a.tmps)=true then Oper.wp P o a w K Q else E:=by
 have hw:Region.wanted o (yielded ops a.tmps)=true:=by simp [Region.wanted,hgd]
 rw [if_pos hw]
 unfold Oper.wp execOp
 simp only [ho,resolve,invoke,builtin,Sem.run_bind,Sem.run_pure,Result.andThen_ok,List.map_toArray,List.map_cons,List.map_nil,hs,hx,hr]
 exact h
theorem pushR {T TS:TypeId} {i0:TypeInfo} {z:Value} {s by_:Nat} {W:World} {B:Nat} {p:Option Addr} {n c:Nat} {xs:List Value} {cs:Array Value} (hu:Tryz.prog.underlying TS=some (.slice T)) (hi:Tryz.prog.info? T=some i0) (hz0:i0.zero=some z) (hz1:i0.size=s) (hz2:i0.bytes=by_) (hzc:z.cells.size=s) (hs:0 < s) (h:W.ownsRow B T s (.slice p n c) n xs) (hB:B≤W.heap.size) (hcs:cs.size=s) (hone:∀ u∈cs.toList,u.oneCell'=true) (hb1:(n+1)*by_≤140737488355328) (hb2:n+1≤140737488355328) :
  ∃ q c9 W9,(Builtin.append_ #[TS,TS] TS #[.slice p n c,.slice (some ⟨W.heap.size,0,none⟩) 1 1]).run Tryz.prog (W.alloc (.cells cs T (0,0)))=.ok (.slice q (n+1) c9) W9∧W9.ownsRow B T s (.slice q (n+1) c9) (n+1) (xs++cs.toList)∧Below B W W9∧(∀ b o,W.heap[b]?=some o→(Value.slice p n c).ownBlock≠some b→W9.heap[b]?=some o)∧n+1≤c9:=by
 obtain ⟨W2,hW2⟩:∃ W2,W.alloc (.cells cs T (0,0))=W2:=⟨_,rfl⟩
 have b2:Below W.heap.size W W2:=by rw [←hW2];exact belAZ (Below.refl _ _) _
 have hnb:W2.heap[W.heap.size]?=some (.cells cs T (0,0)):=by rw [←hW2];exact alloc_getZ _ _
 have k2:=own_belZ h b2
 obtain ⟨v',W3,hr,o3,g3,n3⟩:=run_append_own_at (P:=Tryz.prog) W2 B TS TS T i0 z s by_ hu hi hz0 hz1 hz2 hzc hs (.slice p n c) n xs k2 ⟨W.heap.size,0,none⟩ 1 1 cs.toList (by rw [Nat.one_mul,←hcs];simp) (World.news_of_block hnb) hone (by unfold maxLen;omega) hb1 (Nat.le_trans hB b2.size)
 obtain ⟨q9,c9,hv9⟩:∃ q9 c9,v'=.slice q9 (n+1) c9:=shapeZ o3
 subst hv9
 have hown:∀ k,(Value.slice p n c).ownBlock=some k→B≤k:=fun k e=>(World.ownsRow.lt k2 k e).1
 refine ⟨q9,c9,W3,by rw [hW2];exact hr,o3,?_,?_,?_⟩
 ·exact (b2.mono hB).grown g3 (Nat.le_trans hB b2.size) hown
 ·intro b o ho hne
  have h2:=keepZ b2 ho
  exact (g3.block b (lt_getZ h2) (fun e=>hne (by first | exact e | exact e.symm))).trans h2
 ·obtain ⟨g9,rfl⟩:=own_someZ o3 (by omega)
  exact own_capZ o3
def RowL {α:Type} (sz:Nat) (f:α→List Value) (W:World) (p:Option Addr) (L:List α):Prop:=∀ (k:Nat) (x:α),L[k]?=some x→∃ g o,p=some ⟨g,o,none⟩∧∀ (j:Nat) (v:Value),(f x)[j]?=some v→W.cell? ⟨g,o+k*sz+j,none⟩=some v
theorem RowL.below {α:Type} {sz:Nat} {f:α→List Value} {W W':World} {p:Option Addr} {L:List α} (h:RowL sz f W p L) (hb:Below W.heap.size W W'):RowL sz f W' p L:=fun k x hx=>by
 obtain ⟨g,o,e,hc⟩:=h k x hx
 exact ⟨g,o,e,fun j v hv=>keepC hb (hc j v hv)⟩
theorem rflat_len {α:Type} {sz:Nat} {f:α→List Value} (hf:∀ x,(f x).length=sz) (L:List α):(L.flatMap f).length=L.length*sz:=by
 induction L with
 | nil=>simp
 | cons a L ih=>rw [List.flatMap_cons,List.length_append,ih,hf,List.length_cons,Nat.succ_mul];omega
theorem rflat_at {α:Type} {sz:Nat} {f:α→List Value} (hf:∀ x,(f x).length=sz):∀ (L:List α) (k j:Nat) (x:α) (v:Value),L[k]?=some x→(f x)[j]?=some v→(L.flatMap f)[k*sz+j]?=some v
 | [],k,j,x,v,hx,_=>by simp at hx
 | a :: L,0,j,x,v,hx,hv=>by
  have:a=x:=by simpa using hx
  subst this
  rw [List.flatMap_cons,Nat.zero_mul,Nat.zero_add,List.getElem?_append_left (by have:=(List.getElem?_eq_some_iff.1 hv).1;exact this)]
  exact hv
 | a :: L,k+1,j,x,v,hx,hv=>by
  rw [List.flatMap_cons,List.getElem?_append_right (by rw [hf,Nat.succ_mul];omega),hf,show (k+1)*sz+j - sz=k*sz+j by rw [Nat.succ_mul];omega]
  exact rflat_at hf L k j x v (by simpa using hx) hv
theorem own_rowL {α:Type} {sz:Nat} {f:α→List Value} (hf:∀ x,(f x).length=sz) {W:World} {B n c:Nat} {T:TypeId} {p:Option Addr} {L:List α} (h:W.ownsRow B T sz (.slice p n c) n (L.flatMap f)) (hn:L.length=n):RowL sz f W p L:=fun k x hx=>by
 have hk:=(List.getElem?_eq_some_iff.1 hx).1
 obtain ⟨g,rfl⟩:=own_someZ h (by omega)
 refine ⟨g,0,rfl,fun j v hv=>?_⟩
 rw [Nat.zero_add]
 exact own_atZ h (rflat_at hf L k j x v hx hv)
def npC (x:NP):List Value:=[.string ⟨x.nm.toArray⟩,.int .i64 x.bx,.bool x.inn,.int .i64 x.lk]
theorem npC_len (x:NP):(npC x).length=4:=rfl
theorem info_port:(Tryz.prog.info? 36).map (fun i=>(i.zero,i.size,i.bytes))=some (some (.agg #[.string ⟨#[]⟩,.int .i64 0,.bool false,.int .i64 0]),4,40):=by kernel_rfl
def TOK {α:Type} (W:World) (B:Nat) (T:TypeId) (sz:Nat) (f:α→List Value) (vs:List Value) (tb:List (List α)):Prop:=vs.length=tb.length∧∀ (i:Nat) (v:Value) (t:List α),vs[i]?=some v→tb[i]?=some t→W.ownsRow B T sz v t.length (t.flatMap f)
theorem TOK.snoc {α:Type} {W:World} {B:Nat} {T:TypeId} {sz:Nat} {f:α→List Value} {vs:List Value} {tb:List (List α)} {v:Value} {t:List α} (h:TOK W B T sz f vs tb) (hv:W.ownsRow B T sz v t.length (t.flatMap f)):TOK W B T sz f (vs++[v]) (tb++[t]):=by
 obtain ⟨hl,h⟩:=h
 refine ⟨by simp [hl],fun i v9 t9 h1 h2=>?_⟩
 rcases Nat.lt_or_ge i vs.length with hi | hi
 ·rw [List.getElem?_append_left hi] at h1
  rw [List.getElem?_append_left (by omega)] at h2
  exact h i v9 t9 h1 h2
 ·have hi2:i=vs.length:=by
   have:=(List.getElem?_eq_some_iff.1 h1).1
   rw [List.length_append,List.length_singleton] at this
   omega
  subst hi2
  rw [List.getElem?_append_right (Nat.le_refl _),Nat.sub_self] at h1
  rw [List.getElem?_append_right (by omega),hl,Nat.sub_self] at h2
  obtain rfl:v=v9:=by simpa using h1
  obtain rfl:t=t9:=by simpa using h2
  exact hv
theorem TOK.keep {α:Type} {W W':World} {B:Nat} {T:TypeId} {sz:Nat} {f:α→List Value} {vs:List Value} {tb:List (List α)} (h:TOK W B T sz f vs tb) (hw:∀ (b:Nat) (cur:Array Value),W.heap[b]?=some (Obj.cells cur T (0,0))→W'.heap[b]?=some (Obj.cells cur T (0,0))):TOK W' B T sz f vs tb:=
 ⟨h.1,fun i v t h1 h2=>by
  obtain ⟨hx,h0 | ⟨g,c,cur,e,hB,hg,r⟩⟩:=h.2 i v t h1 h2
  ·exact ⟨hx,.inl h0⟩
  ·exact ⟨hx,.inr ⟨g,c,cur,e,hB,hw g cur hg,r⟩⟩⟩
end Go.Proofs.YtbplhianpelmfaaGreatDoor.Nt
