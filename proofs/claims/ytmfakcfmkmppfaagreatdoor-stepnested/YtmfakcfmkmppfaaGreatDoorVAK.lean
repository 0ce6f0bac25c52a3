import Derived.Test.YtmfakcfmkmppfaaGreatDoorVAJ
namespace Go.Proofs.YtmfakcfmkmppfaaGreatDoor
open Go.RowKit Go.Shelf
abbrev KT:=Nat×List UInt8
def kt (L:List Tok):List KT:=L.map fun t=>(t.1,t.2.1)
def zrg (Ls:List (List KT)):List KT:=Ls.flatMap fun ln=>ln++[(1,[10])]
def goodL (ln:List KT):Prop:=∀ t∈ln,zj3 t.1 t.2
def zhu (Ls:List (List KT)):Prop:=∀ ln∈Ls,ln≠[]/\goodL ln
def zpb (ln:List KT):Nat:=(ln.map fun t=>t.2.length).sum
def zgc (Ls:List (List KT)):Nat:=(Ls.map zpb).sum
theorem zoc {K:Nat} {X:List UInt8} (h:zj3 K X):K≠1:=fun e=>by
 have h1:(za7 X 0).1≠1:=by
  unfold za7 zek
  repeat' split
  all_goals simp
 rw [h.2.2.2.2.1] at h1;exact h1 e
theorem zj7 (Ls:List (List KT)) (ln:List KT):zrg (Ls++[ln])=zrg Ls++(ln++[(1,[10])]):=by
 unfold zrg;simp
theorem zlg (D:List Tok) (t:Tok):kt (D++[t])=kt D++[(t.1,t.2.1)]:=by
 unfold kt;simp
theorem zqu {D:List Tok} {A:List KT} {u:KT} (h:kt D=A++[u]):∃ t,D.getLast?=some t/\t.1=u.1:=by
 rcases List.eq_nil_or_concat D with rfl | ⟨D0,t,rfl⟩
 ·cases A <;> cases h
 ·rw [List.concat_eq_append,zlg] at h
  have e:=(List.append_inj' h rfl).2;refine ⟨t,by rw [List.concat_eq_append];simp,?_⟩;have:=List.head_eq_of_cons_eq e;rw [<-this]
theorem znm (Ls:List (List KT)) (ln:List KT):zgc (Ls++[ln])=zgc Ls+zpb ln:=by
 unfold zgc;simp
theorem zpa (ln:List KT) (t:KT):zpb (ln++[t])=zpb ln+t.2.length:=by
 unfold zpb;simp
theorem endT_kt {D:List Tok} {Ls:List (List KT)} {cur:List KT} (h:kt D=zrg Ls++cur) (hL:zhu Ls) (hc:goodL cur) (line col:Nat) :
  ∃ Ls',kt (zlm D line col)=zrg Ls'/\zhu Ls'/\zgc Ls'=zgc Ls+zpb cur:=by
 rcases List.eq_nil_or_concat cur with rfl | ⟨c0,u,rfl⟩
 ·refine ⟨Ls,?_,hL,by simp [zpb]⟩
  rw [List.append_nil] at h;rcases List.eq_nil_or_concat Ls with rfl | ⟨L0,ln,rfl⟩
  ·have hD:D=[]:=by
    unfold kt zrg at h
    simpa using h
   subst hD;rfl
  ·rw [List.concat_eq_append] at h ⊢
   have h2:=h;rw [zj7,<-List.append_assoc] at h2;obtain ⟨t,ht1,ht2⟩:=zqu h2;unfold zlm;rw [ht1];simp only;rw [if_pos ht2,h]
 ·rw [List.concat_eq_append] at h hc ⊢
  have h2:=h;rw [<-List.append_assoc] at h2;obtain ⟨t,ht1,ht2⟩:=zqu h2;have hu:u.1≠1:=zoc (hc u (by simp));refine ⟨Ls++[c0++[u]],?_,?_,znm _ _⟩
  ·unfold zlm
   rw [ht1];simp only;rw [if_neg (by rw [ht2];exact hu),zlg,h,zj7,List.append_assoc]
  ·intro ln hln
   rcases List.mem_append.1 hln with e | e
   ·exact hL ln e
   ·rw [List.mem_singleton.1 e]
    exact ⟨by simp,hc⟩
theorem zm5 {l:List UInt8}:∀ (m j:Nat),l.length - j<=m->j<=l.length->zrs l j<=l.length
 | m,j,hm,hj=>by
  by_cases hk:kl l j=1∨kl l j=0
  ·rw [zi0 hk];exact hj
  ·have h1:kl l j≠1:=fun e=>hk (.inl e)
   have h0:kl l j≠0:=fun e=>hk (.inr e);have hlt:j < l.length:=Classical.byContradiction (fun e=>h0 (kl0.2 e));have hp:=zb8 l j;have hle:=ziw l j hlt
   match m,hm with
   | 0,hm=>omega
   | m+1,hm=>rw [zlq h1 h0];exact zm5 m _ (by omega) hle
theorem zl9 (l:List UInt8):∀ (f j line hb:Nat) (D:List Tok) (Ls:List (List KT)) (cur:List KT),l.length - j < f->j<=l.length->kt D=zrg Ls++cur->zhu Ls->goodL cur->(zeo f l j line hb D).2.1=0->∃ Ls',kt (zeo f l j line hb D).1=zrg Ls'/\zhu Ls'/\zgc Ls'<=zgc Ls+zpb cur+(l.length - j)
 | 0,j,line,hb,D,Ls,cur,hf,_,_,_,_,_=>by omega
 | f+1,j,line,hb,D,Ls,cur,hf,hj,hD,hL,hc,h0=>by
  have hend:∀ e,j<=e->e<=l.length->(zdu f l e line hb D).2.1=0->∃ Ls',kt (zdu f l e line hb D).1=zrg Ls'/\zhu Ls'/\zgc Ls'<=zgc Ls+zpb cur+(l.length - j):=fun e he hel h=>by
   obtain ⟨L2,e1,e2,e3⟩:=endT_kt hD hL hc line (ci l e - ci l hb+1);unfold zdu at h ⊢
   by_cases hz:kl l e=0
   ·rw [if_pos hz]
    exact ⟨L2,e1,e2,by omega⟩
   ·have hlt:e < l.length:=Classical.byContradiction (fun h=>hz (kl0.2 h))
    rw [if_neg hz] at h ⊢;obtain ⟨L3,g1,g2,g3⟩:=zl9 l f (e+1) (line+1) (e+1) _ L2 [] (by omega) hlt (by rw [e1,List.append_nil]) e2 (fun t ht=>by cases ht) h;refine ⟨L3,g1,g2,?_⟩;have:zpb []=0:=rfl;omega
  by_cases h10:kl l j=1∨kl l j=0
  ·rw [zeq h10] at h0 ⊢
   exact hend j (Nat.le_refl _) hj h0
  have h1:kl l j≠1:=fun e=>h10 (.inl e);have hz:kl l j≠0:=fun e=>h10 (.inr e);have hlt:j < l.length:=Classical.byContradiction (fun e=>hz (kl0.2 e))
  by_cases h2:kl l j=2
  ·rw [zfa h2] at h0 ⊢
   obtain ⟨L3,g1,g2,g3⟩:=zl9 l f (j+1) line hb D Ls cur (by omega) hlt hD hL hc h0;exact ⟨L3,g1,g2,by omega⟩
  by_cases h8:kl l j=8
  ·rw [zgg h8] at h0 ⊢
   have c1:=zlr (l:=l) _ (j+1) (Nat.le_refl _);have c2:=zm5 (l:=l) _ (j+1) (Nat.le_refl _) hlt;exact hend _ (by omega) c2 h0
  by_cases he:zcy l j=0
  ·obtain ⟨a1,a2⟩:=zks hlt h1 he
   have hsm:=zl4 he;rw [zfx h2 h8 h1 hz he] at h0 ⊢;have hn:zdv l j=j+(zdv l j - j):=by omega
   have hg:=zpe (l:=l) (j:=j) (n:=zdv l j - j) (K:=(za7 l j).1) (by omega) (by omega) h1 h2 h8 (by rw [<-hn,hsm]) he;rw [<-hn] at hg;obtain ⟨L3,g1,g2,g3⟩:=zl9 l f (zdv l j) line hb _ Ls (cur++[((za7 l j).1,zbw l j (za7 l j).2)]) (by omega) a2 (by rw [zlg,hD,List.append_assoc]) hL (fun t ht=>by
    rcases List.mem_append.1 ht with e | e
    ·exact hc t e
    ·rw [List.mem_singleton.1 e,<-hsm]
     exact hg) h0
   refine ⟨L3,g1,g2,?_⟩;rw [zpa] at g3;simp only at g3;rw [<-hsm,ze9 a2] at g3;omega
  ·rw [zib h2 h8 h1 hz he] at h0
   exact absurd h0 he
theorem scan_ls (l:List UInt8) (h:l.length<=16384) (he:(zb4 l).2.1=0):∃ Ls,kt (zb4 l).1=zrg Ls/\zhu Ls/\zgc Ls<=l.length:=by
 unfold zb4 at he ⊢;rw [if_neg (by omega)] at he ⊢;obtain ⟨Ls,g1,g2,g3⟩:=zl9 l (l.length+1) 0 1 0 [] [] [] (by omega) (Nat.zero_le _) rfl (fun ln h=>by cases h) (fun t h=>by cases h) he;exact ⟨Ls,g1,g2,by simpa [zgc,zpb] using g3⟩
end Go.Proofs.YtmfakcfmkmppfaaGreatDoor
namespace Go.Proofs.YtmfakcfmkmppfaaGreatDoor.Nt
open Go.RowKit Go.Shelf
def ofB (k:Nat) (x:List UInt8):Bool:=match (zb4 x).1 with
 | t :: _=>t.1==k&&t.2.1==x
 | []=>false
theorem ofB_len {k:Nat} {x:List UInt8} (h:ofB k x=true):x.length<=16384/\1<=x.length:=by
 unfold ofB at h;constructor
 ·rcases Nat.lt_or_ge 16384 x.length with h1 | h1
  ·unfold zb4 at h
   rw [if_pos h1] at h;cases h
  ·exact h1
 ·cases x with
  | nil=>
   have e:(zb4 []).1=[]:=by rfl
   rw [e] at h;cases h
  | cons c x=>simp
def zct (x:List UInt8):Bool:=decide (0 < x.length)&&(decide (x.length<=24)&&(zcz (bt x 0)&&x.all (fun c=>zcz c.toNat || zdm c.toNat)))
theorem zmq {x:List UInt8} {j:Nat} (hj:j < x.length):inW x j=(zcz (bt x j) || zdm (bt x j)):=by
 unfold inW;rw [zn7 hj,zmm (zg3 x j),digX_cls (zg3 x j)]
theorem zlw {x:List UInt8}:∀ (m j:Nat),x.length - j<=m->j<=x.length->(∀ k,j<=k->k < x.length->inW x k=true)->za8 x j=x.length
 | m,j,hm,hj,h=>by
  rcases Nat.lt_or_ge j x.length with hlt | hge
  ·match m,hm with
   | 0,hm=>omega
   | m+1,hm=>
    rw [zbd (h j (Nat.le_refl _) hlt)];exact zlw m (j+1) (by omega) hlt (fun k h1 h2=>h k (by omega) h2)
  ·have:inW x j=false:=by
    unfold inW;rw [kl0.2 (by omega)];rfl
   rw [zcj this];omega
theorem ofB_good {k:Nat} {x:List UInt8} (h:ofB k x=true) (_hk:k≠1):zj3 k x:=by
 unfold ofB at h;have hl:x.length<=16384:=(ofB_len (k:=k) h).1;cases hD:(zb4 x).1 with
 | nil=>rw [hD] at h;cases h
 | cons a D=>
  rw [hD] at h;simp only at h;rw [Bool.and_eq_true,beq_iff_eq,beq_iff_eq] at h;have he:(zb4 x).2.1=0:=Classical.byContradiction (fun hne=>by
   have h0:(zb4 x).1=[]:=by
    have:=(zep x (x.length+1) 0 1 0 [] (by omega)).2;unfold zb4 at hne ⊢;rw [if_neg (by omega)] at hne ⊢;exact this hne
   rw [h0] at hD;cases hD)
  obtain ⟨Ls,g1,g2,g3⟩:=scan_ls x hl he;rw [hD] at g1;have g4:zrg Ls=(a.1,a.2.1) :: kt D:=g1.symm;cases Ls with
  | nil=>cases g4
  | cons ln Ls=>
   obtain ⟨hne,hgl⟩:=g2 ln (by simp);cases ln with
   | nil=>exact absurd rfl hne
   | cons u ln=>
    have e1:u=(a.1,a.2.1):=List.head_eq_of_cons_eq g4;have hg:=hgl u (by simp);rw [e1,h.1,h.2] at hg;exact hg
theorem good_ofB {k:Nat} {x:List UInt8} (h:zj3 k x) (hl:x.length<=16384):ofB k x=true:=by
 obtain ⟨c,hc⟩:=scan_one h hl;unfold ofB;rw [hc];simp
theorem cls_dot:∀ x:Fin 256,(cls (x.val:Int)=5↔x.val=46):=by decide +kernel
theorem kl_dot {x:List UInt8} {j:Nat} (hj:j < x.length):kl x j=5↔bt x j=46:=by
 rw [zn7 hj];exact cls_dot ⟨bt x j,zg3 x j⟩
theorem zmp {x:List UInt8} {j:Nat} (hj:j < x.length):kl x j=3↔zcz (bt x j)=true:=by
 rw [zn7 hj,zmm (zg3 x j),decide_eq_true_eq]
def zfh (x:List UInt8):Nat:=(x.takeWhile (· != 46)).length
theorem zfg (c:UInt8) (x:List UInt8):zfh (c :: x)=if c=46 then 0 else zfh x+1:=by
 unfold zfh
 by_cases h:c=46
 ·subst h;rfl
 ·rw [if_neg h,List.takeWhile_cons_of_pos (by simp [h]),List.length_cons]
theorem zf4:∀ (x:List UInt8) (i:Nat),(∀ k,k < i->bt x k≠46)->i<=x.length->(i < x.length->bt x i=46)->zfh x=i
 | [],i,_,h,_=>by
  have:i=0:=by simpa using h
  subst this;rfl
 | c :: x,0,_,_,h=>by
  have:bt (c :: x) 0=46:=h (by simp);have e:c=46:=UInt8.toNat_inj.1 this;rw [zfg,if_pos e]
 | c :: x,i+1,hk,hl,h=>by
  have h0:c≠46:=fun e=>hk 0 (by omega) (by subst e;rfl);rw [zfg,if_neg h0,zf4 x i (fun k hki=>by have:=hk (k+1) (by omega);exact this) (by simpa using hl) (fun hi=>by have:=h (by simpa using hi);exact this)]
theorem zof (x:List UInt8):(∀ k,k < zfh x->bt x k≠46)/\(zfh x < x.length->bt x (zfh x)=46):=by
 induction x with
 | nil=>exact ⟨fun k h=>by simp [zfh] at h,fun h=>by simp at h⟩
 | cons c x ih=>
  rw [zfg]
  by_cases h:c=46
  ·rw [if_pos h]
   subst h;exact ⟨fun k hk=>by omega,fun _=>rfl⟩
  ·rw [if_neg h]
   refine ⟨fun k hk=>?_,fun hl=>ih.2 (by simpa using hl)⟩;cases k with
   | zero=>
    intro e;exact h (UInt8.toNat_inj.1 e)
   | succ k=>exact ih.1 k (by omega)
def zcw (x:List UInt8):Bool:=decide (zfh x < x.length)&&(zct (x.take (zfh x))&&zct (x.drop (zfh x+1)))
theorem zi3 {x:List UInt8} {i k:Nat} (h:k < i):bt (x.take i) k=bt x k:=by
 unfold bt;rw [List.getD_eq_getElem?_getD,List.getD_eq_getElem?_getD,List.getElem?_take,if_pos h]
theorem zi4 (x:List UInt8) (i k:Nat):bt (x.drop i) k=bt x (i+k):=by
 unfold bt;rw [List.getD_eq_getElem?_getD,List.getD_eq_getElem?_getD,List.getElem?_drop]
theorem zc5 (x:List UInt8):zct x=true↔0 < x.length/\x.length<=24/\zcz (bt x 0)=true/\∀ k,k < x.length->(zcz (bt x k) || zdm (bt x k))=true:=by
 unfold zct;simp only [Bool.and_eq_true,decide_eq_true_eq,List.all_eq_true];constructor
 ·rintro ⟨h0,h1,h2,h3⟩
  refine ⟨h0,h1,h2,fun k hk=>?_⟩;rw [zdh (List.getElem?_eq_getElem hk)];exact h3 _ (List.getElem_mem hk)
 ·rintro ⟨h0,h1,h2,h3⟩
  refine ⟨h0,h1,h2,fun c hc=>?_⟩;obtain ⟨k,hk,rfl⟩:=List.getElem_of_mem hc;have:=h3 k hk;rw [zdh (List.getElem?_eq_getElem hk)] at this;exact this
theorem zo2 {x:List UInt8}:∀ (m j e:Nat),e - j<=m->j<=e->(∀ k,j<=k->k < e->inW x k=true)->inW x e=false->za8 x j=e
 | m,j,e,hm,hj,h,he=>by
  rcases Nat.lt_or_ge j e with hlt | hge
  ·match m,hm with
   | 0,hm=>omega
   | m+1,hm=>
    rw [zbd (h j (Nat.le_refl _) hlt)];exact zo2 m (j+1) e (by omega) hlt (fun k h1 h2=>h k (by omega) h2) he
  ·have:j=e:=by omega
   subst this;exact zcj he
theorem zrb {x:List UInt8} (h:zj3 3 x):zcw x=true:=by
 obtain ⟨h0,h1,h2,h8,hC,hE⟩:=h;have h3:kl x 0=3:=Classical.byContradiction (fun h3=>by
  unfold za7 zek at hC;rw [if_neg h3] at hC
  by_cases h4:kl x 0=4
  ·rw [if_pos h4,if_neg (by decide),if_neg (by decide),if_pos rfl] at hC
   simp at hC
  ·rw [if_neg h4] at hC
   by_cases h6:kl x 0=6
   ·rw [if_pos h6,if_neg (by decide),if_neg (by decide),if_neg (by decide),if_pos rfl] at hC
    simp at hC
   ·rw [if_neg h6] at hC
    by_cases h7:kl x 0=7
    ·rw [if_pos h7,if_neg (by decide),if_neg (by decide),if_neg (by decide),if_neg (by decide)] at hC
     simp at hC
    ·rw [if_neg h7] at hC
     simp at hC)
 cases hd:zcl x (za8 x 0) 3 with
 | false=>
  obtain ⟨b1,b2,b3,b4,b5⟩:=tok_name h0 h3 rfl hd;rw [hC] at b5;have:=(Prod.mk.inj b5).1;omega
 | true=>
  obtain ⟨p1,p2,p3,p4,p5,p6,p7⟩:=zl5 h0 h3 rfl hd rfl;rw [hC] at p7;have hk:x.length=za8 x (za8 x 0+1):=(Prod.mk.inj p7).2;obtain ⟨j,hj⟩:=ex (za8 x 0);rw [hj] at p1 p2 p3 p4 p5 hk hd;have h24:¬(24 < j - 0∨24 < za8 x (j+1) - j - 1):=fun hh=>by rw [hE,if_pos hh] at p5;cases p5
  unfold zcl at hd;simp only [Bool.and_eq_true,decide_eq_true_eq] at hd;have hj46:=(kl_dot (show j < x.length by omega)).1 hd.1;have hin:∀ k,k < j->inW x k=true:=fun k hk=>ze7 (l:=x) _ 0 (Nat.le_refl _) k (Nat.zero_le _) (by omega);have hin2:∀ k,j+1<=k->k < x.length->inW x k=true:=fun k h1 h2=>ze7 (l:=x) _ (j+1) (Nat.le_refl _) k h1 (by omega);have hda:zfh x=j:=zf4 x j (fun k hk=>zmr (hin k hk)) (by omega) (fun _=>hj46);unfold zcw;rw [hda,decide_eq_true (show j < x.length by omega),Bool.true_and,Bool.and_eq_true,zc5,zc5];have hl1:(x.take j).length=j:=by rw [List.length_take];omega
  have hl2:(x.drop (j+1)).length=x.length - (j+1):=List.length_drop;rw [hl1,hl2];refine ⟨⟨by omega,by omega,?_,fun k hk=>?_⟩,⟨by omega,by omega,?_,fun k hk=>?_⟩⟩
  ·rw [zi3 (by omega)];exact (zmp h0).1 h3
  ·rw [zi3 hk,<-zmq (by omega)];exact hin k hk
  ·rw [zi4];exact (zmp (by omega)).1 hd.2
  ·rw [zi4,<-zmq (by omega)];exact hin2 _ (by omega) (by omega)
theorem zp8 {x:List UInt8} (h:zcw x=true):zj3 3 x:=by
 unfold zcw at h;obtain ⟨j,hj⟩:=ex (zfh x);have hs:=zof x;rw [hj] at h hs;rw [Bool.and_eq_true,decide_eq_true_eq,Bool.and_eq_true,zc5,zc5] at h;obtain ⟨hjl,⟨a0,a1,a2,a3⟩,⟨c0,c1,c2,c3⟩⟩:=h;have hl1:(x.take j).length=j:=by rw [List.length_take];omega
 have hl2:(x.drop (j+1)).length=x.length - (j+1):=List.length_drop;rw [hl1] at a0 a1 a3;rw [hl2] at c0 c1 c3;have h3:kl x 0=3:=by
  rw [zi3 a0] at a2;exact (zmp (by omega)).2 a2
 have hin:∀ k,0<=k->k < j->inW x k=true:=fun k _ hk=>by
  rw [zmq (by omega),<-zi3 hk];exact a3 k hk
 have hin2:∀ k,j+1<=k->k < x.length->inW x k=true:=fun k h1 h2=>by
  have:=c3 (k - (j+1)) (by omega);rw [zi4,show j+1+(k - (j+1))=k by omega] at this;rw [zmq h2];exact this
 have hk5:kl x j=5:=(kl_dot hjl).2 (hs.2 hjl);have hno:inW x j=false:=by unfold inW;rw [hk5];rfl
 have hw:za8 x 0=j:=zo2 _ 0 j (Nat.le_refl _) (Nat.zero_le _) hin hno;have hw2:za8 x (j+1)=x.length:=zlw _ (j+1) (Nat.le_refl _) (by omega) hin2;have hd:zcl x j 3=true:=by
  unfold zcl;have:kl x (j+1)=3:=by
   have:=c2;rw [zi4] at this;exact (zmp (by omega)).2 this
  rw [hk5,this];rfl
 obtain ⟨p1,p2,p3,p4,p5,p6,p7⟩:=zl5 (show 0 < x.length by omega) h3 hw hd hw2;exact ⟨by omega,by omega,by omega,by omega,p7,by rw [p5,if_neg (by omega)]⟩
theorem ofB_port (x:List UInt8):ofB 3 x=zcw x:=by
 rw [Bool.eq_iff_iff];constructor
 ·exact fun h=>zrb (ofB_good h (by decide))
 ·intro h
  refine good_ofB (zp8 h) ?_;unfold zcw at h;rw [Bool.and_eq_true,decide_eq_true_eq,Bool.and_eq_true,zc5,zc5] at h;obtain ⟨hjl,⟨a0,a1,a2,a3⟩,⟨c0,c1,c2,c3⟩⟩:=h;rw [List.length_take] at a1;rw [List.length_drop] at c1;omega
end Go.Proofs.YtmfakcfmkmppfaaGreatDoor.Nt
namespace Go.Proofs.YtmfakcfmkmppfaaGreatDoor
open Go.RowKit
theorem zra {W X:World} (h:Below W.heap.size W X) (row:Option Nat):W.grownBy X row:=⟨h.os,h.tape,h.output,h.size,fun k hk _=>h.block k hk⟩
theorem bel_grZ {w W X:World} {row:Option Nat} (h:Below w.heap.size w W) (hg:W.grownBy X row) (hr:∀ k,row=some k->w.heap.size<=k):Below w.heap.size w X:=h.grown hg h.size hr
theorem zaq {W X:World} {B n:Nat} {e:TypeId} {sz:Nat} {v:Value} {xs:List Value} (h:W.ownsRow B e sz v n xs) (hb:Below W.heap.size W X):X.ownsRow B e sz v n xs:=by
 refine h.kept (zra hb none) ?_;generalize v.ownBlock=b;cases b with
 | none=>exact .inl rfl
 | some b=>exact .inr (by intro e;cases e)
theorem zav {W:World} {A B n:Nat} {e:TypeId} {sz:Nat} {v:Value} {xs:List Value} (h:W.ownsRow B e sz v n xs) (hA:A<=B):W.ownsRow A e sz v n xs:=by
 rcases h.2 with h' | ⟨g,cap,cur,h',hb,r⟩
 ·exact ⟨h.1,.inl h'⟩
 ·exact ⟨h.1,.inr ⟨g,cap,cur,h',Nat.le_trans hA hb,r⟩⟩
theorem za3 {P:Program} {ops:Array Oper} {rest:List Oper} {o:Oper} {a:Act} {w w':World} {Q:Exit->Act->World->Prop} {v u v':Value} (hgd:o.guard=none) (s x:Operand) (t:TypeId) (ho:o.op=.call { callee:=.builtin .append,args:=#[s,x],argTypes:=#[t,t] }) (hs:a.eval s=v) (hx:a.eval x=u) (hr:(Builtin.append_ #[t,t] o.type #[v,u]).run P w=.ok v' w') (h:wpList P ops Q rest (a.put o.dst v') w'):wpList P ops Q (o :: rest) a w:=
 wpList_plain hgd fun K hK=>by
  unfold Oper.wp execOp;simp only [ho,resolve,invoke,builtin,Sem.run_bind,Sem.run_pure,Result.andThen_ok,List.map_toArray,List.map_cons,List.map_nil,hs,hx,hr];exact hK _ _ h
def inZ (V:List Int):List Value:=V.map (fun x=>Value.int .i64 x)
theorem zac {w w1 w2:World} (h:Below w.heap.size w w1) (h2:Below w1.heap.size w1 w2):Below w.heap.size w w2:=h.trans (h2.mono h.size)
theorem zah {w w1:World} (h:Below w.heap.size w w1) (o:Obj):Below w.heap.size w (w1.alloc o):=h.alloc h.size o
theorem zaa (w:World) (o:Obj):(w.alloc o).heap[w.heap.size]?=some o:=by
 show (w.heap.push o)[w.heap.size]?=_;simp
theorem zec {W:World} {B n:Nat} {e:TypeId} {sz:Nat} {v:Value} {xs:List Value} (h:W.ownsRow B e sz v n xs):∃ p c,v=.slice p n c:=by
 rcases h.2 with ⟨rfl,rfl⟩ | ⟨g,c,_,rfl,_⟩
 ·exact ⟨_,_,rfl⟩
 ·exact ⟨_,_,rfl⟩
theorem zae {W w':World} {b:Nat} {o:Obj} (hb:Below W.heap.size W w') (h:W.heap[b]?=some o):w'.heap[b]?=some o:=(hb.block b (by
 rcases Nat.lt_or_ge b W.heap.size with h1 | h1
 ·exact h1
 ·rw [Array.getElem?_eq_none h1] at h;cases h)).trans h
theorem zag {W:World} {b j T:Nat} {cs:Array Value} {m:Nat×Nat} (u:Value) (h:W.heap[b]?=some (.cells cs T m)):(W.setCell ⟨b,j,none⟩ u).heap[b]?=some (.cells (cs.setIfInBounds j u) T m):=by
 simp only [World.setCell,Array.getElem?_modify,if_pos,h,Option.map_some];simp
theorem gr_setZ (W:World) (b j:Nat) (u:Value):W.grownBy (W.setCell ⟨b,j,none⟩ u) (some b):=⟨rfl,rfl,rfl,by simp,fun k _ hk=>heap_setCell_other W ⟨b,j,none⟩ k u (fun e=>hk (by simp [e]))⟩
theorem zaf {W:World} {b T:Nat} {cs:Array Value} (h:W.heap[b]?=some (.cells cs T (0,0))):(∀ j,W.cell? ⟨b,j,none⟩=cs[j]?)/\(∀ j,W.frozen? ⟨b,j,none⟩=false):=by
 constructor
 ·intro j;unfold World.cell?;rw [h];simp
 ·intro j;unfold World.frozen?;rw [h];simp
theorem zap {W:World} {b:Nat} {o:Obj} (h:W.heap[b]?=some o):b < W.heap.size:=by
 rcases Nat.lt_or_ge b W.heap.size with h1 | h1
 ·exact h1
 ·rw [Array.getElem?_eq_none h1] at h;cases h
theorem zgm {W:World} {B:Nat} {e:TypeId} {s g n c m:Nat} {xs:List Value} {j:Nat} {u:Value} (h:W.ownsRow B e s (.slice (some ⟨g,0,none⟩) n c) m xs) (hu:xs[j]?=some u):W.cell? ⟨g,j,none⟩=some u:=by
 have:=World.ownsRow.cells h (g:=g) rfl j u hu;have hadd:(⟨g,0,none⟩:Addr).add j=⟨g,j,none⟩:=by unfold Addr.add;split <;> simp_all
 rw [hadd] at this;exact this
theorem zds {W:World} {B:Nat} {e:TypeId} {s n c:Nat} {p:Option Addr} {m:Nat} {xs:List Value} (h:W.ownsRow B e s (.slice p n c) m xs) (hm:m≠0):∃ g,p=some ⟨g,0,none⟩:=by
 rcases h.2 with ⟨e,h2⟩ | ⟨g,c2,cur,e,_⟩
 ·exact absurd h2 hm
 ·injection e with e _ _
  exact ⟨g,e⟩
theorem own_capZ {W:World} {B n m g c:Nat} {e:TypeId} {sz:Nat} {xs:List Value} (h:W.ownsRow B e sz (.slice (some ⟨g,0,none⟩) n c) m xs):m<=c:=by
 rcases h.2 with ⟨e,_⟩ | ⟨g2,c2,cur,e,_,_,h3,_⟩
 ·cases e
 ·injection e with _ _ e3
  omega
theorem za1 {B:Nat} {w W:World} (n:Nat) (h:Below B w W):Below B w (W.drewN n):=⟨h.os,h.tape,h.output,h.size,h.block⟩
end Go.Proofs.YtmfakcfmkmppfaaGreatDoor
namespace Go.Proofs.YtmfakcfmkmppfaaGreatDoor.Nt
open Go.RowKit Go.Shelf
theorem zab {p:Prop} (h:p):Hid p:=h
structure NP where
 nm:List UInt8
 bx:Int
 inn:Bool
 lk:Int
structure NE where
 nm:List UInt8
 ins:List Int
 cubes:List (List UInt8)
 wr:List UInt8
 outs:List Int
structure NG where
 pm:Bool
 cubes:List (List UInt8)
structure NN where
 bits:Int
 ports:List NP
 tabs:List (List NE)
 grds:List (List NG)
def np0:NP:=⟨[],0,false,0⟩
def zal (n:NN) (k:Int):NP:=n.ports.getD k.toNat np0
def za4 (bits:Int) (c:List UInt8):Prop:=(c.length:Int)=bits/\c.all zb9=true
def zb1 (bits:Int) (L:List (List UInt8)):Prop:=L.length<=64/\∀ c∈L,za4 bits c
def zdi (n:NN) (p:NP):Prop:=zcw p.nm=true/\0<=p.bx/\p.bx < (n.tabs.length:Int)/\(p.lk=-1∨(p.inn=false/\0<=p.lk/\p.lk < (n.ports.length:Int)/\(zal n p.lk).inn=true))
def zcc (n:NN):Prop:=(∀ p∈n.ports,zdi n p)/\(n.ports.map (·.nm)).Nodup
def sumG (g:List NG):Nat:=(g.map (·.cubes.length)).sum
def sumE (t:List NE):Nat:=(t.map (·.cubes.length)).sum
def zbk (bits:Int) (g:List NG):Prop:=(∀ l∈g,zb1 bits l.cubes)/\sumG g<=512
def zbt (n:NN) (box p:Int) (b:Bool):Prop:=0<=p/\p < (n.ports.length:Int)/\(zal n p).bx=box/\(zal n p).inn=b
def InsP (n:NN) (box:Int) (ins:List Int):Prop:=(∀ p∈ins,zbt n box p true)/\ins.Pairwise (· < ·)
def zhg (n:NN) (box:Int) (outs:List Int):Prop:=outs.length<=4/\(∀ p∈outs,zbt n box p false)/\outs.Nodup
def za2 (n:NN) (box:Int) (e:NE):Prop:=e.nm.length<=256/\InsP n box e.ins/\zb1 n.bits e.cubes/\za4 n.bits e.wr/\zhg n box e.outs
def zg9 (n:NN) (box:Int) (t:List NE):Prop:=(∀ e∈t,za2 n box e)/\sumE t<=512
def zhj (n:NN):Nat:=(n.tabs.map (·.length)).sum
def zhk (n:NN):Nat:=(n.grds.map (·.length)).sum
def zdn (n:NN):Prop:=1<=n.bits/\n.bits<=256/\n.tabs.length<=16/\n.ports.length<=48/\n.grds.length=n.ports.length
def NetP (n:NN):Prop:=zdn n/\zhk n<=64/\zhj n<=256/\zcc n/\(∀ g∈n.grds,zbk n.bits g)/\∀ (k:Nat) (t:List NE),n.tabs[k]?=some t->zg9 n (k:Int) t
noncomputable def pb (P:Prop):Bool:=@decide P (Classical.propDecidable P)
theorem za0 {P:Prop}:pb P=true↔P:=by unfold pb;exact @decide_eq_true_iff P (Classical.propDecidable P)
theorem zck {P:Prop} (h:P):pb P=true:=za0.2 h
theorem zfd {P:Prop} (h:¬P):pb P=false:=by
 cases hh:pb P with
 | false=>rfl
 | true=>exact absurd (za0.1 hh) h
theorem za6 {P:Prop} (h:pb P=false):¬P:=fun hp=>by rw [zck hp] at h;cases h
def BQ (P:Prop) (w:World) (e:Ending) (w':World):Prop:=e=.returned (.bool (pb P))/\Below w.heap.size w w'
theorem BQ.yes {P:Prop} {w w':World} (h:P) (hb:Below w.heap.size w w'):BQ P w (.returned (.bool true)) w':=⟨by rw [zck h],hb⟩
theorem BQ.no {P:Prop} {w w':World} (h:¬P) (hb:Below w.heap.size w w'):BQ P w (.returned (.bool false)) w':=⟨by rw [zfd h],hb⟩
def LI (W:World) (p:Option Addr) (L:List Int):Prop:=∀ (k:Nat) (x:Int),L[k]?=some x->∃ g o,p=some ⟨g,o,none⟩/\W.cell? ⟨g,o+k,none⟩=some (.int .i64 x)
def LS (W:World) (p:Option Addr) (L:List (List UInt8)):Prop:=∀ (k:Nat) (x:List UInt8),L[k]?=some x->∃ g o,p=some ⟨g,o,none⟩/\W.cell? ⟨g,o+k,none⟩=some (.string ⟨x.toArray⟩)
def LP (W:World) (p:Option Addr) (L:List NP):Prop:=∀ (k:Nat) (x:NP),L[k]?=some x->∃ g o,p=some ⟨g,o,none⟩/\W.cell? ⟨g,o+k*4,none⟩=some (.string ⟨x.nm.toArray⟩)/\W.cell? ⟨g,o+k*4+1,none⟩=some (.int .i64 x.bx)/\W.cell? ⟨g,o+k*4+2,none⟩=some (.bool x.inn)/\W.cell? ⟨g,o+k*4+3,none⟩=some (.int .i64 x.lk)
def LEL (W:World) (x:NE) (pi:Option Addr) (ci:Nat) (pc:Option Addr) (cc:Nat) (po:Option Addr) (co:Nat):Prop:=LI W pi x.ins/\x.ins.length<=ci/\LS W pc x.cubes/\x.cubes.length<=cc/\LI W po x.outs/\x.outs.length<=co
def LE (W:World) (p:Option Addr) (L:List NE):Prop:=∀ (k:Nat) (x:NE),L[k]?=some x->∃ g o pi ci pc cc po co,p=some ⟨g,o,none⟩/\W.cell? ⟨g,o+k*5,none⟩=some (.string ⟨x.nm.toArray⟩)/\W.cell? ⟨g,o+k*5+1,none⟩=some (.slice pi x.ins.length ci)/\W.cell? ⟨g,o+k*5+2,none⟩=some (.slice pc x.cubes.length cc)/\W.cell? ⟨g,o+k*5+3,none⟩=some (.string ⟨x.wr.toArray⟩)/\W.cell? ⟨g,o+k*5+4,none⟩=some (.slice po x.outs.length co)/\LEL W x pi ci pc cc po co
def LG (W:World) (p:Option Addr) (L:List NG):Prop:=∀ (k:Nat) (x:NG),L[k]?=some x->∃ g o pc cc,p=some ⟨g,o,none⟩/\W.cell? ⟨g,o+k*2,none⟩=some (.bool x.pm)/\W.cell? ⟨g,o+k*2+1,none⟩=some (.slice pc x.cubes.length cc)/\LS W pc x.cubes/\x.cubes.length<=cc
def LT (W:World) (p:Option Addr) (L:List (List NE)):Prop:=∀ (k:Nat) (x:List NE),L[k]?=some x->∃ g o pt ct,p=some ⟨g,o,none⟩/\W.cell? ⟨g,o+k,none⟩=some (.slice pt x.length ct)/\LE W pt x/\x.length<=ct
def LGS (W:World) (p:Option Addr) (L:List (List NG)):Prop:=∀ (k:Nat) (x:List NG),L[k]?=some x->∃ g o pt ct,p=some ⟨g,o,none⟩/\W.cell? ⟨g,o+k,none⟩=some (.slice pt x.length ct)/\LG W pt x/\x.length<=ct
section
variable {w w':World} {p:Option Addr}
theorem zao (hb:Below w.heap.size w w') {a:Addr} {v:Value} (h:w.cell? a=some v):w'.cell? a=some v:=(hb.cell (World.block_lt_of_cell? w _ h)).trans h
theorem LI.below {L:List Int} (h:LI w p L) (hb:Below w.heap.size w w'):LI w' p L:=fun k x hx=>by
 obtain ⟨g,o,e,c0⟩:=h k x hx;exact ⟨g,o,e,zao hb c0⟩
theorem LS.below {L:List (List UInt8)} (h:LS w p L) (hb:Below w.heap.size w w'):LS w' p L:=fun k x hx=>by
 obtain ⟨g,o,e,c0⟩:=h k x hx;exact ⟨g,o,e,zao hb c0⟩
theorem LP.below {L:List NP} (h:LP w p L) (hb:Below w.heap.size w w'):LP w' p L:=fun k x hx=>by
 obtain ⟨g,o,e,c0,c1,c2,c3⟩:=h k x hx;exact ⟨g,o,e,zao hb c0,zao hb c1,zao hb c2,zao hb c3⟩
theorem LEL.below {x:NE} {pi:Option Addr} {ci:Nat} {pc:Option Addr} {cc:Nat} {po:Option Addr} {co:Nat} (h:LEL w x pi ci pc cc po co) (hb:Below w.heap.size w w'):LEL w' x pi ci pc cc po co:=⟨h.1.below hb,h.2.1,h.2.2.1.below hb,h.2.2.2.1,h.2.2.2.2.1.below hb,h.2.2.2.2.2⟩
theorem LE.below {L:List NE} (h:LE w p L) (hb:Below w.heap.size w w'):LE w' p L:=fun k x hx=>by
 obtain ⟨g,o,pi,ci,pc,cc,po,co,e,c0,c1,c2,c3,c4,hl⟩:=h k x hx;exact ⟨g,o,pi,ci,pc,cc,po,co,e,zao hb c0,zao hb c1,zao hb c2,zao hb c3,zao hb c4,hl.below hb⟩
theorem LG.below {L:List NG} (h:LG w p L) (hb:Below w.heap.size w w'):LG w' p L:=fun k x hx=>by
 obtain ⟨g,o,pc,cc,e,c0,c1,hl,hc⟩:=h k x hx;exact ⟨g,o,pc,cc,e,zao hb c0,zao hb c1,hl.below hb,hc⟩
theorem LT.below {L:List (List NE)} (h:LT w p L) (hb:Below w.heap.size w w'):LT w' p L:=fun k x hx=>by
 obtain ⟨g,o,pt,ct,e,c0,hl,hc⟩:=h k x hx;exact ⟨g,o,pt,ct,e,zao hb c0,hl.below hb,hc⟩
theorem LGS.below {L:List (List NG)} (h:LGS w p L) (hb:Below w.heap.size w w'):LGS w' p L:=fun k x hx=>by
 obtain ⟨g,o,pt,ct,e,c0,hl,hc⟩:=h k x hx;exact ⟨g,o,pt,ct,e,zao hb c0,hl.below hb,hc⟩
end
structure NV where
 pp:Option Addr
 cp:Nat
 pt:Option Addr
 ct:Nat
 pg:Option Addr
 cg:Nat
def nnA (n:NN) (v:NV):Array Value:=#[.int .i64 n.bits,.slice v.pp n.ports.length v.cp,.slice v.pt n.tabs.length v.ct,.slice v.pg n.grds.length v.cg]
def LN (W:World) (n:NN) (v:NV):Prop:=LP W v.pp n.ports/\n.ports.length<=v.cp/\LT W v.pt n.tabs/\n.tabs.length<=v.ct/\LGS W v.pg n.grds/\n.grds.length<=v.cg
theorem LN.below {w w':World} {n:NN} {v:NV} (h:LN w n v) (hb:Below w.heap.size w w'):LN w' n v:=⟨h.1.below hb,h.2.1,h.2.2.1.below hb,h.2.2.2.1,h.2.2.2.2.1.below hb,h.2.2.2.2.2⟩
def okS (x:List UInt8):Prop:=x.length<=140737488351232
def okI (L:List Int):Prop:=L.length*8<=140737488351232
def okLs (L:List (List UInt8)):Prop:=L.length*16<=140737488351232/\∀ x∈L,okS x
def okE (x:NE):Prop:=okS x.nm/\okI x.ins/\okLs x.cubes/\okS x.wr/\okI x.outs
def zla (t:List NE):Prop:=t.length*104<=140737488351232/\∀ e∈t,okE e
def okGl (g:List NG):Prop:=g.length*32<=140737488351232/\∀ l∈g,okLs l.cubes
def okN (n:NN):Prop:=n.ports.length*40<=140737488351232/\(∀ p∈n.ports,okS p.nm)/\n.tabs.length*24<=140737488351232/\(∀ t∈n.tabs,zla t)/\n.grds.length*24<=140737488351232/\∀ g∈n.grds,okGl g
theorem zdr {n:NN} {k:Nat} {x:NP} (h:n.ports[k]?=some x):zal n (k:Int)=x:=by
 unfold zal;rw [Int.toNat_natCast,List.getD_eq_getElem?_getD,h];rfl
end Go.Proofs.YtmfakcfmkmppfaaGreatDoor.Nt
