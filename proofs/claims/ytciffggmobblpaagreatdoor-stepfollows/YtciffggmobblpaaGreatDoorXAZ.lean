import Derived.Test.YtciffggmobblpaaGreatDoorXAY
namespace Go.Proofs.YtciffggmobblpaaGreatDoor.Nt
open Go.RowKit Go.Shelf
theorem res_net (tmps:Array Value) (W:World) (b:Nat) (x0:Int) (p1 p2 p3:Option Addr) (n1 d1 n2 d2 n3 d3:Nat) (h:tmps[2]?.getD undef=.pointer (some ⟨b,0,none⟩)) (hb:W.heap[b]?=some (.cells #[.int .i64 x0,.slice p1 n1 d1,.slice p2 n2 d2,.slice p3 n3 d3] 26 (0,0))) :
  (results Tryz.f29 tmps).run Tryz.prog W=.ok (.agg #[.int .i64 x0,.slice p1 n1 d1,.slice p2 n2 d2,.slice p3 n3 d3]) W:=by
 have h1:=(cellsZ hb).1
 have c0:=h1 0
 have c1:=h1 1
 have c2:=h1 2
 have c3:=h1 3
 simp at c0 c1 c2 c3
 simp [results,h,c0,c1,c2,c3,go_sem]
theorem tok_rrl {α:Type} {W:World} {B n c:Nat} {T TS:TypeId} {sz:Nat} {f:α→List Value} (hf:∀ x,(f x).length=sz) {p:Option Addr} {vs:List Value} {tb:List (List α)} (h:W.ownsRow B TS 1 (.slice p n c) n vs) (hn:tb.length=n) (hk:TOK W B T sz f vs tb):RRL sz f W p tb:=fun k t ht=>by
 have hlt:=(List.getElem?_eq_some_iff.1 ht).1
 obtain ⟨g,rfl⟩:=own_someZ h (by omega)
 obtain ⟨v,hv⟩:∃ v,vs[k]?=some v:=⟨_,List.getElem?_eq_getElem (by rw [hk.1];exact hlt)⟩
 have ho:=hk.2 k v t hv ht
 obtain ⟨q,c9,rfl⟩:=shapeZ ho
 refine ⟨g,0,q,c9,rfl,?_,own_rowL hf ho rfl,?_⟩
 ·rw [Nat.zero_add];exact own_atZ h hv
 ·rcases ho.2 with ⟨e,h0⟩ | ⟨g2,c2,cur,e,_,_,h3,_⟩
  ·omega
  ·injection e with _ _ e3
   omega
theorem own_le {W:World} {B n c s:Nat} {T:TypeId} {p:Option Addr} {xs:List Value} (h:W.ownsRow B T s (.slice p n c) n xs):n≤c:=by
 rcases h.2 with ⟨e,h0⟩ | ⟨g2,c2,cur,e,_,_,h3,_⟩
 ·omega
 ·injection e with _ _ e3
  omega
def NewK (B:Nat) (W W':World):Prop:=∀ (b:Nat) (o:Obj),B≤b→W.heap[b]?=some o→W'.heap[b]?=some o
theorem own_new {W W':World} {B:Nat} {T:TypeId} {s n:Nat} {v:Value} {xs:List Value} (h:W.ownsRow B T s v n xs) (hw:NewK B W W'):W'.ownsRow B T s v n xs:=by
 obtain ⟨hx,h0 | ⟨g,c,cur,e,hB,hg,r⟩⟩:=h
 ·exact ⟨hx,.inl h0⟩
 ·exact ⟨hx,.inr ⟨g,c,cur,e,hB,hw g _ hB hg,r⟩⟩
theorem TOK.new {α:Type} {W W':World} {B:Nat} {T:TypeId} {sz:Nat} {f:α→List Value} {vs:List Value} {tb:List (List α)} (h:TOK W B T sz f vs tb) (hw:NewK B W W'):TOK W' B T sz f vs tb:=
 ⟨h.1,fun i v t h1 h2=>own_new (h.2 i v t h1 h2) hw⟩
theorem HSG.fin {w W:World} {B b2 b3 B0 np nt ng:Nat} {N:Array Value} {bits:Int} {ports:List NP} {tb:List (List RE)} {gd:List (List RG)} {p1 q2 q3:Option Addr} {c1 c2 c3:Nat} (h:HSG w W B b2 b3 B0 N bits ports np p1 c1 tb nt q2 c2 gd ng q3 c3) (hb:B < b2∧b2 < b3∧b3 < B0) (h1:ports.length=np) (h2:tb.length=nt) (h3:gd.length=ng) (v0 v1 v2 v3:Value) :
  (∀ Y,NewK B0 ((((W.setCell ⟨b2,0,none⟩ v0).setCell ⟨b2,1,none⟩ v1).setCell ⟨b2,2,none⟩ v2).setCell ⟨b2,3,none⟩ v3) Y→RowL 4 npC Y p1 ports∧RRL 5 reC Y q2 tb∧RRL 2 rgC Y q3 gd)∧np≤c1∧nt≤c2∧ng≤c3∧Below B w ((((W.setCell ⟨b2,0,none⟩ v0).setCell ⟨b2,1,none⟩ v1).setCell ⟨b2,2,none⟩ v2).setCell ⟨b2,3,none⟩ v3):=by
 obtain ⟨⟨k1,k2,k3⟩,hP,⟨vT,hT,hTK⟩,⟨vG,hG,hGK⟩,h5,h6⟩:=h
 obtain ⟨X,hX⟩:∃ X,(((W.setCell ⟨b2,0,none⟩ v0).setCell ⟨b2,1,none⟩ v1).setCell ⟨b2,2,none⟩ v2).setCell ⟨b2,3,none⟩ v3=X:=⟨_,rfl⟩
 have hst:∀ (T:TypeId),T≠26→∀ (b:Nat) (cur:Array Value),W.heap[b]?=some (Obj.cells cur T (0,0))→X.heap[b]?=some (Obj.cells cur T (0,0)):=fun T hne b cur hh=>by
  have hne2:b≠b2:=fun e=>by
   subst e
   rw [k2] at hh
   injection hh with hh
   injection hh with _ e2 _
   exact hne e2.symm
  rw [←hX,far1 _ _ _ _ _ hne2,far1 _ _ _ _ _ hne2,far1 _ _ _ _ _ hne2,far1 _ _ _ _ _ hne2]
  exact hh
 have hB:Below B w X:=by
  rw [←hX]
  exact (((h5.setCell (by show B≤b2;omega) _).setCell (by show B≤b2;omega) _).setCell (by show B≤b2;omega) _).setCell (by show B≤b2;omega) _
 rw [hX]
 rw [List.take_of_length_le (by omega)] at hTK hGK
 have oP:=own_keep hP (fun b cur hh=>hst _ (by decide) b cur hh)
 have oT:=own_keep hT (fun b cur hh=>hst _ (by decide) b cur hh)
 have oG:=own_keep hG (fun b cur hh=>hst _ (by decide) b cur hh)
 have kT:=hTK.keep (fun b cur hh=>hst _ (by decide) b cur hh)
 have kG:=hGK.keep (fun b cur hh=>hst _ (by decide) b cur hh)
 exact ⟨fun Y hY=>⟨own_rowL npC_len (own_new oP hY) h1,tok_rrl reC_len (own_new oT hY) h2 (kT.new hY),tok_rrl rgC_len (own_new oG hY) h3 (kG.new hY)⟩,own_le oP,own_le oT,own_le oG,hB⟩
set_option maxRecDepth 100000 in
set_option maxHeartbeats 8000000 in
theorem held_any (bits:Int) (ports:List NP) (tb:List (List RE)) (gd:List (List RG)) (np nt ng cp ct cg:Nat) (pp pt pg:Option Addr) (w:World) (hP:RowL 4 npC w pp ports) (hpn:ports.length=np) (hpo:np*40≤140737488351232) (hT:RRL 5 reC w pt tb) (htn:tb.length=nt) (hto:nt*24≤140737488351232) (hto2:∀ t∈tb,t.length*104≤140737488351232) (hG:RRL 2 rgC w pg gd) (hgn:gd.length=ng) (hgo:ng*24≤140737488351232) (hgo2:∀ t∈gd,t.length*32≤140737488351232) :
  Calls Tryz.prog 29 #[.agg #[.int .i64 bits,.slice pp np cp,.slice pt nt ct,.slice pg ng cg]] w fun e w'=>∃ p1 c1 p2 c2 p3 c3,e=.returned (.agg #[.int .i64 bits,.slice p1 np c1,.slice p2 nt c2,.slice p3 ng c3])∧(∀ Y,NewK w.heap.size w' Y→RowL 4 npC Y p1 ports∧RRL 5 reC Y p2 tb∧RRL 2 rgC Y p3 gd)∧np≤c1∧nt≤c2∧ng≤c3∧Below w.heap.size w w':=by
 obtain ⟨B,hB⟩:∃ B,w.heap.size=B:=⟨_,rfl⟩
 obtain ⟨b2,hb2⟩:∃ b2,w.heap.size+1=b2:=⟨_,rfl⟩
 obtain ⟨b3,hb3⟩:∃ b3,w.heap.size+1+1=b3:=⟨_,rfl⟩
 obtain ⟨B0,hB0⟩:∃ B0,w.heap.size+1+1+1=B0:=⟨_,rfl⟩
 obtain ⟨W1,hW1⟩:∃ W1,((w.alloc (.cells #[.int .i64 bits,.slice pp np cp,.slice pt nt ct,.slice pg ng cg] 26)).alloc (.cells #[.int .i64 0,.slice none 0 0,.slice none 0 0,.slice none 0 0] 26)).alloc (.cells #[.int .i64 bits,.slice none 0 0,.slice none 0 0,.slice none 0 0] 26)=W1:=⟨_,rfl⟩
 have H1:Hid (HS0 w W1 B b2 b3 B0 #[.int .i64 bits,.slice pp np cp,.slice pt nt ct,.slice pg ng cg] bits ports 0 none 0):=by
  have hz2:(w.alloc (.cells #[.int .i64 bits,.slice pp np cp,.slice pt nt ct,.slice pg ng cg] 26)).heap.size=w.heap.size+1:=Array.size_push _
  have hz3:((w.alloc (.cells #[.int .i64 bits,.slice pp np cp,.slice pt nt ct,.slice pg ng cg] 26)).alloc (.cells #[.int .i64 0,.slice none 0 0,.slice none 0 0,.slice none 0 0] 26)).heap.size=w.heap.size+1+1:=by
   show ((w.heap.push _).push _).size=_
   rw [Array.size_push,Array.size_push]
  refine ⟨⟨?_,?_,?_⟩,?_,?_,?_⟩
  ·rw [←hW1,←hB];exact keepZ (belAZ (belAZ (Below.refl _ _) _) _) (alloc_getZ _ _)
  ·rw [←hW1,←hb2,←hz2];exact keepZ (belAZ (Below.refl _ _) _) (alloc_getZ _ _)
  ·rw [←hW1,←hb3,←hz3];exact alloc_getZ _ _
  ·rw [List.take_zero,List.flatMap_nil];exact World.ownsRow_nil _ _ _ _
  ·rw [←hW1,←hB];exact belAZ (belAZ (belAZ (Below.refl _ _) _) _) _
  ·rw [←hW1,←hB0]
   show _≤(((w.heap.push _).push _).push _).size
   rw [Array.size_push,Array.size_push,Array.size_push]
   exact Nat.le_refl _
 have HB:Hid (w.heap.size=B∧B < b2∧b2 < b3∧b3 < B0):=⟨hB,by omega,by omega,by omega⟩
 have HB1:=hideL hB
 have HB2:=hideL hb2
 have HB3:=hideL hb3
 have HW1:=hideL hW1
 have hnp:np≤140737488351232:=by omega
 have HP:Hid (RowL 4 npC w pp ports∧ports.length=np∧np*40≤140737488351232):=⟨hP,hpn,hpo⟩
 have HT:Hid (RRL 5 reC w pt tb∧tb.length=nt∧nt*24≤140737488351232∧∀ t∈tb,t.length*104≤140737488351232):=⟨hT,htn,hto,hto2⟩
 have HG:Hid (RRL 2 rgC w pg gd∧gd.length=ng∧ng*24≤140737488351232∧∀ t∈gd,t.length*32≤140737488351232):=⟨hG,hgn,hgo,hgo2⟩
 clear hB hb2 hb3 hB0 hW1 hP hpn hpo hT htn hto hto2 hG hgn hgo hgo2
 go_enter Tryz.func29,Tryz.ntmps29
 go_upto_region 2 with fail
 rw [HW1.out,HB3.out,HB2.out,HB1.out]
 go_wp2_with fail
 go_loopw [4] (fun vk wr=>∃ (k:Nat) (p:Option Addr) (c:Nat),vk=.int .i64 (k:Int)∧k≤np∧Hid (HS0 w wr B b2 b3 B0 #[.int .i64 bits,.slice pp np cp,.slice pt nt ct,.slice pg ng cg] bits ports k p c)) (fun vk _=>np - (intOf vk).toNat)
 case atStart=>exact ⟨0,none,0,rfl,Nat.zero_le _,H1⟩
 case round=>
  clear H1
  obtain ⟨k,p,c,rfl,hk,HS⟩:=hrel
  have a0:wr.cell? ⟨B,1,none⟩=some (.slice pp np cp):=by rw [(cellsZ HS.out.1.1).1];rfl
  by_cases hlt:k < np
  ·obtain ⟨x,hx⟩:∃ x,ports[k]?=some x:=⟨_,List.getElem?_eq_getElem (by have:=HP.out.2.1;omega)⟩
   obtain ⟨k9,hk9⟩:∃ k9,k+1=k9:=⟨_,rfl⟩
   have hbw:Below w.heap.size w wr:=by rw [HB1.out];exact HS.out.2.2.1
   obtain ⟨g,o,rfl,hcl⟩:=HP.out.1 k x hx
   have hgB:g < B:=by
    have:=World.block_lt_of_cell? w _ (hcl 0 _ rfl)
    rw [HB1.out] at this
    exact this
   have c0:=keepC hbw (hcl 0 _ rfl)
   have c1:=keepC hbw (hcl 1 _ rfl)
   have c2:=keepC hbw (hcl 2 _ rfl)
   have c3:=keepC hbw (hcl 3 _ rfl)
   rw [Nat.add_zero] at c0
   have HFX:Hid (∀ U,Below B0 wr U→U.cell? ⟨B,1,none⟩=some (.slice (some ⟨g,o,none⟩) np cp)∧U.cell? ⟨g,o+k*4,none⟩=some (.string ⟨x.nm.toArray⟩)∧U.cell? ⟨g,o+k*4+1,none⟩=some (.int .i64 x.bx)∧U.cell? ⟨g,o+k*4+2,none⟩=some (.bool x.inn)∧U.cell? ⟨g,o+k*4+3,none⟩=some (.int .i64 x.lk)):=fun U hU=>by
    have hh:=HB.out
    have kk:∀ (a:Addr) (v:Value),a.block < B0→wr.cell? a=some v→U.cell? a=some v:=fun a v ha h=>(hU.cell ha).trans h
    exact ⟨kk _ _ (by show B < B0;omega) a0,kk _ _ (by show g < B0;omega) c0,kk _ _ (by show g < B0;omega) c1,kk _ _ (by show g < B0;omega) c2,kk _ _ (by show g < B0;omega) c3⟩
   have c30:wr.drew.cell? ⟨b3,1,none⟩=some (.slice p k c):=by
    have:=(cellsZ HS.out.1.2.2).1 1
    exact this
   obtain ⟨q9,c9,W9,hr9,HX9,d9,f9,b9⟩:=HS.out.step HB.out.2 hx hk9 (by have:=HP.out.2.2;omega)
   have hs0:=HFX.out wr.drew (Below.refl _ _).drew
   have hw6:=HS.out.2.2.2
   obtain ⟨W7,hW7⟩:∃ W7,wr.drew.alloc (.cells #[.string ⟨x.nm.toArray⟩,.int .i64 x.bx,.bool x.inn,.int .i64 x.lk] 36 (0,0))=W7:=⟨_,rfl⟩
   have b7:Below wr.drew.heap.size wr.drew W7:=by rw [←hW7];exact belAZ (Below.refl _ _) _
   rw [hW7] at hr9
   have hs7:=HFX.out W7 ((bel0Z (Below.refl _ _).drew b7).mono hw6)
   have c37:W7.cell? ⟨b3,1,none⟩=some (.slice p k c):=keepC b7 c30
   have HW7:Hid ((wr.alloc (.cells #[.string ⟨x.nm.toArray⟩,.int .i64 x.bx,.bool x.inn,.int .i64 x.lk] 36 (0,0))).drew=W7):=hW7
   have hs9:=HFX.out W9 b9
   have hs10:(W9.setCell ⟨b3,1,none⟩ (.slice q9 k9 c9)).cell? ⟨B,1,none⟩=some (.slice (some ⟨g,o,none⟩) np cp)∧(W9.setCell ⟨b3,1,none⟩ (.slice q9 k9 c9)).cell? ⟨g,o+k*4,none⟩=some (.string ⟨x.nm.toArray⟩)∧(W9.setCell ⟨b3,1,none⟩ (.slice q9 k9 c9)).cell? ⟨g,o+k*4+1,none⟩=some (.int .i64 x.bx)∧(W9.setCell ⟨b3,1,none⟩ (.slice q9 k9 c9)).cell? ⟨g,o+k*4+2,none⟩=some (.bool x.inn)∧(W9.setCell ⟨b3,1,none⟩ (.slice q9 k9 c9)).cell? ⟨g,o+k*4+3,none⟩=some (.int .i64 x.lk):=by
    have hh:=HB.out
    have hS9:=HFX.out W9 b9
    have kk:∀ (a:Addr) (v:Value),b3≠a.block→W9.cell? a=some v→(W9.setCell ⟨b3,1,none⟩ (.slice q9 k9 c9)).cell? a=some v:=fun a v ha h=>(World.cell?_setCell_far _ _ _ _ ha).trans h
    exact ⟨kk _ _ (by show b3≠B;omega) hS9.1,kk _ _ (by show b3≠g;omega) hS9.2.1,kk _ _ (by show b3≠g;omega) hS9.2.2.1,kk _ _ (by show b3≠g;omega) hS9.2.2.2.1,kk _ _ (by show b3≠g;omega) hS9.2.2.2.2⟩
   have HX9:=hideL HX9
   have HK9:=hideL hk9
   have j0:(0:Int)≤(k:Int):=by omega
   have j1:(k:Int) < (np:Int):=by omega
   clear hx hcl hbw hgB c0 c1 c2 c3 b9 hw6 hk9 hW7 b7
   go_wp2_with fail
   refine wp_region_held_drew (S:=fun U=>U.cell? ⟨B,1,none⟩=some (.slice (some ⟨g,o,none⟩) np cp)∧U.cell? ⟨g,o+k*4,none⟩=some (.string ⟨x.nm.toArray⟩)∧U.cell? ⟨g,o+k*4+1,none⟩=some (.int .i64 x.bx)∧U.cell? ⟨g,o+k*4+2,none⟩=some (.bool x.inn)∧U.cell? ⟨g,o+k*4+3,none⟩=some (.int .i64 x.lk)) (by kernel_rfl) hs0 (fun _=>?_)
   refine wpAnyH_take (i:=0) (v:=.pointer (some ⟨b3,1,none⟩)) rfl (by kernel_rfl) (by kernel_rfl) (by kernel_rfl) (fun _ _ _ h=>h) (Or.inl ⟨by rfl,?_⟩) hs0 ?_
   ·rintro w ⟨q0,q1,q2,q3,q4⟩;go_simp
   refine wpAnyH_take (i:=2) (v:=.pointer (some ⟨B,1,none⟩)) rfl (by kernel_rfl) (by kernel_rfl) (by kernel_rfl) (fun _ _ _ h=>h) (Or.inl ⟨by rfl,?_⟩) hs0 ?_
   ·rintro w ⟨q0,q1,q2,q3,q4⟩;go_simp
   refine wpAnyH_take (i:=3) (v:=.slice (some ⟨g,o,none⟩) np cp) rfl (by kernel_rfl) (by kernel_rfl) (by kernel_rfl) (fun _ _ _ h=>h) (Or.inl ⟨by rfl,?_⟩) hs0 ?_
   ·rintro w ⟨q0,q1,q2,q3,q4⟩;go_simp
   refine wpAnyH_take (i:=4) (v:=.int .i64 (k:Int)) rfl (by kernel_rfl) (by kernel_rfl) (by kernel_rfl) (fun _ _ _ h=>h) (Or.inl ⟨by rfl,?_⟩) hs0 ?_
   ·rintro w ⟨q0,q1,q2,q3,q4⟩;go_simp
   refine wpAnyH_take (i:=5) (v:=.pointer (some ⟨g,o+k*4,none⟩)) rfl (by kernel_rfl) (by kernel_rfl) (by kernel_rfl) (fun _ _ _ h=>h) (Or.inl ⟨by rfl,?_⟩) hs0 ?_
   ·rintro w ⟨q0,q1,q2,q3,q4⟩;go_simp
   refine wpAnyH_take (i:=6) (v:=.agg #[.string ⟨x.nm.toArray⟩,.int .i64 x.bx,.bool x.inn,.int .i64 x.lk]) rfl (by kernel_rfl) (by kernel_rfl) (by kernel_rfl) (fun _ _ _ h=>h) (Or.inl ⟨by rfl,?_⟩) hs0 ?_
   ·rintro w ⟨q0,q1,q2,q3,q4⟩;go_simp
   refine wpAnyH_ready (rs:=[1,7]) (by kernel_rfl) (by simp) ?_
   refine AllReadyH.cons rfl (fun KK hKK=>?_) (AllReadyH.cons rfl (fun KK hKK=>?_) AllReadyH.nil)
   ·go_simp
    refine hKK.out _ _ hs0 (fun _=>?_)
    clear hKK KK
    refine wpAnyH_ready (rs:=[7]) (by kernel_rfl) (by simp) ?_
    refine AllReadyH.cons rfl (fun KK hKK=>?_) AllReadyH.nil
    go_simp
    rw [HW7.out]
    refine hKK.out _ _ hs7 (fun _=>?_)
    clear hKK KK
    refine wpAnyH_ready (rs:=[8]) (by kernel_rfl) (by simp) ?_
    refine AllReadyH.cons rfl (fun KK hKK=>?_) AllReadyH.nil
    refine stepN (by rfl) _ _ _ (by rfl) (by rfl) (by rfl) hr9 ?_
    refine hKK.out _ _ hs9 (fun _=>?_)
    clear hKK KK
    refine wpAnyH_take (i:=9) (v:=.pointer (some ⟨b3,1,none⟩)) rfl (by kernel_rfl) (by kernel_rfl) (by kernel_rfl) (fun _ _ _ h=>h) (Or.inl ⟨by rfl,?_⟩) hs9 ?_
    ·rintro w ⟨q0,q1,q2,q3,q4⟩;go_simp
    refine wpAnyH_ready (rs:=[10]) (by kernel_rfl) (by simp) ?_
    refine AllReadyH.cons rfl (fun KK hKK=>?_) AllReadyH.nil
    go_simp
    refine hKK.out _ _ hs10 (fun _=>?_)
    clear hKK KK
    refine wpAnyH_done (by kernel_rfl) ?_ _
    clear d9 f9 hs0 hs7 hs9 hs10 hr9 c30 c37
    go_wp2_with fail
    go_roundw
    case rel=>exact ⟨k9,q9,c9,by rw [←HK9.out];go_num,by have:=HK9.out;omega,HX9⟩
    case measure=>have:=HK9.out;simp [intOf];omega
   ·go_simp
    rw [HW7.out]
    refine hKK.out _ _ hs7 (fun _=>?_)
    clear hKK KK
    refine wpAnyH_ready (rs:=[1]) (by kernel_rfl) (by simp) ?_
    refine AllReadyH.cons rfl (fun KK hKK=>?_) AllReadyH.nil
    go_simp
    refine hKK.out _ _ hs7 (fun _=>?_)
    clear hKK KK
    refine wpAnyH_ready (rs:=[8]) (by kernel_rfl) (by simp) ?_
    refine AllReadyH.cons rfl (fun KK hKK=>?_) AllReadyH.nil
    refine stepN (by rfl) _ _ _ (by rfl) (by rfl) (by rfl) hr9 ?_
    refine hKK.out _ _ hs9 (fun _=>?_)
    clear hKK KK
    refine wpAnyH_take (i:=9) (v:=.pointer (some ⟨b3,1,none⟩)) rfl (by kernel_rfl) (by kernel_rfl) (by kernel_rfl) (fun _ _ _ h=>h) (Or.inl ⟨by rfl,?_⟩) hs9 ?_
    ·rintro w ⟨q0,q1,q2,q3,q4⟩;go_simp
    refine wpAnyH_ready (rs:=[10]) (by kernel_rfl) (by simp) ?_
    refine AllReadyH.cons rfl (fun KK hKK=>?_) AllReadyH.nil
    go_simp
    refine hKK.out _ _ hs10 (fun _=>?_)
    clear hKK KK
    refine wpAnyH_done (by kernel_rfl) ?_ _
    clear d9 f9 hs0 hs7 hs9 hs10 hr9 c30 c37
    go_wp2_with fail
    go_roundw
    case rel=>exact ⟨k9,q9,c9,by rw [←HK9.out];go_num,by have:=HK9.out;omega,HX9⟩
    case measure=>have:=HK9.out;simp [intOf];omega
  ·obtain rfl:k=np:=by omega
   have j1:¬(k:Int) < (k:Int):=by omega
   have hnt:nt≤140737488351232:=by have:=HT.out.2.2.1;omega
   have hng:ng≤140737488351232:=by have:=HG.out.2.2.1;omega
   obtain ⟨c9p,rfl⟩:∃ c9p,c=c9p:=⟨_,rfl⟩
   have HQ5:Hid (HSG w wr B b2 b3 B0 #[.int .i64 bits,.slice pp k cp,.slice pt nt ct,.slice pg ng cg] bits ports k p c tb 0 none 0 gd 0 none 0):=HS.out.toG HP.out.2.1 tb gd
   clear HS
   obtain ⟨w5,rfl⟩:∃ w5,w5=wr:=⟨wr,rfl⟩
   go_wp2_with fail
   clear a0
   go_loopw [5] (fun vk wr=>∃ (i:Nat) (qx:Option Addr) (cx:Nat),vk=.int .i64 (i:Int)∧i≤nt∧Hid (HSG w wr B b2 b3 B0 #[.int .i64 bits,.slice pp k cp,.slice pt nt ct,.slice pg ng cg] bits ports k p c tb i qx cx gd 0 none 0)) (fun vk _=>nt - (intOf vk).toNat)
   case atStart=>exact ⟨0,none,0,rfl,Nat.zero_le _,HQ5⟩
   case round=>
    clear HQ5
    obtain ⟨i,q2,c2,rfl,hi,HS⟩:=hrel
    have a2:wr.cell? ⟨B,2,none⟩=some (.slice pt nt ct):=by rw [(cellsZ HS.out.1.1).1];rfl
    by_cases hlt:i < nt
    ·obtain ⟨t,ht⟩:∃ t,tb[i]?=some t:=⟨_,List.getElem?_eq_getElem (by have:=HT.out.2.1;omega)⟩
     obtain ⟨i9,hi9⟩:∃ i9,i+1=i9:=⟨_,rfl⟩
     have hbw:Below w.heap.size w wr:=by rw [HB1.out];exact HS.out.2.2.2.2.1
     obtain ⟨g,o,qt,cq,rfl,t0,hrow,hcq⟩:=HT.out.1 i t ht
     obtain ⟨m,hm⟩:∃ m,t.length=m:=⟨_,rfl⟩
     rw [hm] at t0 hcq
     have hmo:m*104≤140737488351232:=by rw [←hm];exact HT.out.2.2.2 t (List.mem_of_getElem? ht)
     have hm47:m≤140737488351232:=by omega
     have t1:=keepC hbw t0
     have HM:Hid (t.length=m∧RowL 5 reC w qt t∧m*104≤140737488351232):=⟨hm,hrow,hmo⟩
     have HA:Hid (∀ U,Below wr.heap.size wr U→U.cell? ⟨B,2,none⟩=some (.slice (some ⟨g,o,none⟩) nt ct)∧U.cell? ⟨g,o+i,none⟩=some (.slice qt m cq)∧Below w.heap.size w U∧U.cell? ⟨b3,2,none⟩=some (.slice q2 i c2)):=fun U hU=>⟨keepC hU a2,keepC hU t1,bel0Z hbw hU,keepC hU (by rw [(cellsZ HS.out.1.2.2).1];rfl)⟩
     have HI9:Hid (i+1=i9∧i9*24≤140737488355328):=⟨hi9,by have:=HT.out.2.2.1;omega⟩
     have HTT:=hideL ht
     have j0:(0:Int)≤(i:Int):=by omega
     have j1:(i:Int) < (nt:Int):=by omega
     obtain ⟨wo,rfl⟩:∃ wo,wo=wr:=⟨wr,rfl⟩
     clear ht hi9 hbw t0 hrow hcq hm hmo a2 t1
     obtain ⟨a2,t1,-,-⟩:=HA.out wo (Below.refl _ _)
     go_wp2_with fail
     clear a2 t1
     go_loopw [6,7] (fun v6 v7 wr=>∃ (j:Nat) (q:Option Addr) (c:Nat),v6=.slice q j c∧v7=.int .i64 (j:Int)∧j≤m∧Hid (IR wo wr wo.heap.size 41 5 reC t j q c)) (fun _ v7 _=>m - (intOf v7).toNat)
     case atStart=>exact ⟨0,none,0,rfl,rfl,Nat.zero_le _,by
      refine ⟨?_,Below.refl _ _⟩
      rw [List.take_zero,List.flatMap_nil]
      exact World.ownsRow_nil _ _ _ _⟩
     case round=>
      obtain ⟨j,q,c,rfl,rfl,hj,HI⟩:=hrel
      obtain ⟨a2,t1,hbr,d0⟩:=HA.out wr HI.out.2
      by_cases hlt2:j < m
      ·obtain ⟨x,hx⟩:∃ x,t[j]?=some x:=⟨_,List.getElem?_eq_getElem (by have:=HM.out.1;omega)⟩
       obtain ⟨j9,hj9⟩:∃ j9,j+1=j9:=⟨_,rfl⟩
       obtain ⟨ge,oe,rfl,hel⟩:=HM.out.2.1 j x hx
       have e0:=keepC hbr (hel 0 _ rfl)
       have e1:=keepC hbr (hel 1 _ rfl)
       have e2:=keepC hbr (hel 2 _ rfl)
       have e3:=keepC hbr (hel 3 _ rfl)
       have e4:=keepC hbr (hel 4 _ rfl)
       rw [Nat.add_zero] at e0
       obtain ⟨q9,c9,W9,hr9,hI9⟩:=ir_entry HI.out hx hj9 (by have:=HM.out.2.2;omega)
       have HI9':=hideL hI9
       have HJ9:=hideL hj9
       have j2:(0:Int)≤(j:Int):=by omega
       have j3:(j:Int) < (m:Int):=by omega
       clear hx hel hI9 hj9 hbr d0 HI
       go_wp2_with (at_builtin;refine wpList_runZ rfl _ _ _ rfl rfl rfl hr9 ?_)
       clear a2 t1 e0 e1 e2 e3 e4 hr9
       go_wp2_with fail
       go_roundw
       case rel=>exact ⟨j9,q9,c9,rfl,by rw [←HJ9.out];go_num,by have:=HJ9.out;omega,HI9'⟩
       case measure=>have:=HJ9.out;simp [intOf];omega
      ·obtain rfl:j=m:=by omega
       have j3:¬(j:Int) < (j:Int):=by omega
       obtain ⟨q9,c9,W9,hr9,hS9,d9,f9⟩:=HS.out.stepT HB.out.2 HI.out HM.out.1 HTT.out HI9.out.1 HI9.out.2
       have HS9:=hideL hS9
       clear hS9 hbr HI HS
       go_wp2_with (at_builtin;refine wpList_runZ rfl _ _ _ rfl rfl rfl hr9 ?_)
       clear a2 t1 d0 hr9
       go_wp2_with fail
       go_roundw
       case rel=>exact ⟨i9,q9,c9,by rw [←HI9.out.1];go_num,by have:=HI9.out.1;omega,HS9⟩
       case measure=>have:=HI9.out.1;simp [intOf];omega
    ·obtain rfl:i=nt:=by omega
     have j1:¬(i:Int) < (i:Int):=by omega
     have HQ8:Hid (HSG w wr B b2 b3 B0 #[.int .i64 bits,.slice pp k cp,.slice pt i ct,.slice pg ng cg] bits ports k p c tb i q2 c2 gd 0 none 0):=HS
     clear HS
     go_wp2_with fail
     clear a2
     obtain ⟨wz,rfl⟩:∃ wz,wz=wr:=⟨wr,rfl⟩
     go_loopw [8] (fun vk wr=>∃ (l:Nat) (qx:Option Addr) (cx:Nat),vk=.int .i64 (l:Int)∧l≤ng∧Hid (HSG w wr B b2 b3 B0 #[.int .i64 bits,.slice pp k cp,.slice pt i ct,.slice pg ng cg] bits ports k p c tb i q2 c2 gd l qx cx)) (fun vk _=>ng - (intOf vk).toNat)
     case atStart=>exact ⟨0,none,0,rfl,Nat.zero_le _,HQ8⟩
     case round=>
      clear HQ8
      obtain ⟨l,q3,c3,rfl,hl,HS⟩:=hrel
      have a2:wr.cell? ⟨B,3,none⟩=some (.slice pg ng cg):=by rw [(cellsZ HS.out.1.1).1];rfl
      by_cases hlt3:l < ng
      ·obtain ⟨t,ht⟩:∃ t,gd[l]?=some t:=⟨_,List.getElem?_eq_getElem (by have:=HG.out.2.1;omega)⟩
       obtain ⟨l9,hl9⟩:∃ l9,l+1=l9:=⟨_,rfl⟩
       have hbw:Below w.heap.size w wr:=by rw [HB1.out];exact HS.out.2.2.2.2.1
       obtain ⟨g,o,qt,cq,rfl,t0,hrow,hcq⟩:=HG.out.1 l t ht
       obtain ⟨m,hm⟩:∃ m,t.length=m:=⟨_,rfl⟩
       rw [hm] at t0 hcq
       have hmo:m*32≤140737488351232:=by rw [←hm];exact HG.out.2.2.2 t (List.mem_of_getElem? ht)
       have hm47:m≤140737488351232:=by omega
       have t1:=keepC hbw t0
       have HM:Hid (t.length=m∧RowL 2 rgC w qt t∧m*32≤140737488351232):=⟨hm,hrow,hmo⟩
       have HA:Hid (∀ U,Below wr.heap.size wr U→U.cell? ⟨B,3,none⟩=some (.slice (some ⟨g,o,none⟩) ng cg)∧U.cell? ⟨g,o+l,none⟩=some (.slice qt m cq)∧Below w.heap.size w U∧U.cell? ⟨b3,3,none⟩=some (.slice q3 l c3)):=fun U hU=>⟨keepC hU a2,keepC hU t1,bel0Z hbw hU,keepC hU (by rw [(cellsZ HS.out.1.2.2).1];rfl)⟩
       have HL9:Hid (l+1=l9∧l9*24≤140737488355328):=⟨hl9,by have:=HG.out.2.2.1;omega⟩
       have HTT:=hideL ht
       have l0:(0:Int)≤(l:Int):=by omega
       have l1:(l:Int) < (ng:Int):=by omega
       obtain ⟨wo,rfl⟩:∃ wo,wo=wr:=⟨wr,rfl⟩
       clear ht hl9 hbw t0 hrow hcq hm hmo a2 t1
       obtain ⟨a2,t1,-,-⟩:=HA.out wo (Below.refl _ _)
       go_wp2_with fail
       clear a2 t1
       go_loopw [9,10] (fun v6 v7 wr=>∃ (j:Nat) (q:Option Addr) (c:Nat),v6=.slice q j c∧v7=.int .i64 (j:Int)∧j≤m∧Hid (IR wo wr wo.heap.size 81 2 rgC t j q c)) (fun _ v7 _=>m - (intOf v7).toNat)
       case atStart=>exact ⟨0,none,0,rfl,rfl,Nat.zero_le _,by
        refine ⟨?_,Below.refl _ _⟩
        rw [List.take_zero,List.flatMap_nil]
        exact World.ownsRow_nil _ _ _ _⟩
       case round=>
        obtain ⟨j,q,c,rfl,rfl,hj,HI⟩:=hrel
        obtain ⟨a2,t1,hbr,d0⟩:=HA.out wr HI.out.2
        by_cases hlt2:j < m
        ·obtain ⟨x,hx⟩:∃ x,t[j]?=some x:=⟨_,List.getElem?_eq_getElem (by have:=HM.out.1;omega)⟩
         obtain ⟨j9,hj9⟩:∃ j9,j+1=j9:=⟨_,rfl⟩
         obtain ⟨ge,oe,rfl,hel⟩:=HM.out.2.1 j x hx
         have e0:=keepC hbr (hel 0 _ rfl)
         have e1:=keepC hbr (hel 1 _ rfl)
         rw [Nat.add_zero] at e0
         obtain ⟨q9,c9,W9,hr9,hI9⟩:=ir_guard HI.out hx hj9 (by have:=HM.out.2.2;omega)
         have HI9':=hideL hI9
         have HJ9:=hideL hj9
         have j2:(0:Int)≤(j:Int):=by omega
         have j3:(j:Int) < (m:Int):=by omega
         clear hx hel hI9 hj9 hbr d0 HI
         go_wp2_with (at_builtin;refine wpList_runZ rfl _ _ _ rfl rfl rfl hr9 ?_)
         clear a2 t1 e0 e1 hr9
         go_wp2_with fail
         go_roundw
         case rel=>exact ⟨j9,q9,c9,rfl,by rw [←HJ9.out];go_num,by have:=HJ9.out;omega,HI9'⟩
         case measure=>have:=HJ9.out;simp [intOf];omega
        ·obtain rfl:j=m:=by omega
         have j3:¬(j:Int) < (j:Int):=by omega
         obtain ⟨q9,c9,W9,hr9,hS9,d9,f9⟩:=HS.out.stepG HB.out.2 HI.out HM.out.1 HTT.out HL9.out.1 HL9.out.2
         have HS9:=hideL hS9
         clear hS9 hbr HI HS
         go_wp2_with (at_builtin;refine wpList_runZ rfl _ _ _ rfl rfl rfl hr9 ?_)
         clear a2 t1 d0 hr9
         go_wp2_with fail
         go_roundw
         case rel=>exact ⟨l9,q9,c9,by rw [←HL9.out.1];go_num,by have:=HL9.out.1;omega,HS9⟩
         case measure=>have:=HL9.out.1;simp [intOf];omega
      ·obtain rfl:l=ng:=by omega
       have l1:¬(l:Int) < (l:Int):=by omega
       have m0:wr.cell? ⟨b3,0,none⟩=some (.int .i64 bits):=by rw [(cellsZ HS.out.1.2.2).1];rfl
       have m1:wr.cell? ⟨b3,1,none⟩=some (.slice p k c):=by rw [(cellsZ HS.out.1.2.2).1];rfl
       have m2:wr.cell? ⟨b3,2,none⟩=some (.slice q2 i c2):=by rw [(cellsZ HS.out.1.2.2).1];rfl
       have m3:wr.cell? ⟨b3,3,none⟩=some (.slice q3 l c3):=by rw [(cellsZ HS.out.1.2.2).1];rfl
       have n0:wr.cell? ⟨b2,0,none⟩=some (.int .i64 0):=by rw [(cellsZ HS.out.1.2.1).1];rfl
       have n1:wr.cell? ⟨b2,1,none⟩=some (.slice none 0 0):=by rw [(cellsZ HS.out.1.2.1).1];rfl
       have n2:wr.cell? ⟨b2,2,none⟩=some (.slice none 0 0):=by rw [(cellsZ HS.out.1.2.1).1];rfl
       have n3:wr.cell? ⟨b2,3,none⟩=some (.slice none 0 0):=by rw [(cellsZ HS.out.1.2.1).1];rfl
       have f0:=(cellsZ HS.out.1.2.1).2 0
       have f1:=(cellsZ HS.out.1.2.1).2 1
       have f2:=(cellsZ HS.out.1.2.1).2 2
       have f3:=(cellsZ HS.out.1.2.1).2 3
       obtain ⟨W9,hW9⟩:∃ W9,(((wr.setCell ⟨b2,0,none⟩ (.int .i64 bits)).setCell ⟨b2,1,none⟩ (.slice p k c)).setCell ⟨b2,2,none⟩ (.slice q2 i c2)).setCell ⟨b2,3,none⟩ (.slice q3 l c3)=W9:=⟨_,rfl⟩
       have HW9:=hideL hW9
       have HRES:Hid (W9.heap[b2]?=some (.cells #[.int .i64 bits,.slice p k c,.slice q2 i c2,.slice q3 l c3] 26 (0,0))):=by
        rw [←hW9]
        exact (set_getZ _ (set_getZ _ (set_getZ _ (set_getZ _ HS.out.1.2.1)))).trans (by simp)
       have HFIN:Hid ((∀ Y,NewK w.heap.size W9 Y→RowL 4 npC Y p ports∧RRL 5 reC Y q2 tb∧RRL 2 rgC Y q3 gd)∧k≤c∧i≤c2∧l≤c3∧Below w.heap.size w W9):=by
        have h9:=HS.out.fin HB.out.2 HP.out.2.1 HT.out.2.1 HG.out.2.1 (.int .i64 bits) (.slice p k c) (.slice q2 i c2) (.slice q3 l c3)
        rw [hW9] at h9
        exact ⟨fun Y hY=>h9.1 Y (fun b o hb ho=>hY b o (by have:=HB.out;omega) ho),h9.2.1,h9.2.2.1,h9.2.2.2.1,by rw [HB1.out];exact h9.2.2.2.2⟩
       clear hW9 HS
       go_wp2_with fail
       rw [HW9.out]
       refine bodyPost_ret (res_net _ _ b2 _ _ _ _ _ _ _ _ _ _ rfl HRES.out) rfl ?_
       exact ⟨p,c,q2,c2,q3,c3,rfl,HFIN.out⟩
end Go.Proofs.YtciffggmobblpaaGreatDoor.Nt
